import Derived.Test.YtffmodpgddecnaaZ31
namespace Go.Proofs.Ytffmodpgddecnaa.V.E
open Go.RowKit Go.Maps
open Go.Proofs.Ytffmodpgddecnaa.H (B64 Cp)
open Go.Proofs.Ytffmodpgddecnaa.M (wpAnyH_norm)
set_option linter.unusedVariables false
set_option linter.unusedSimpArgs false
def pR:Code→Code
 | .seq _ b=>b
 | c=>c
def pL:Code→Code
 | .seq a _=>a
 | c=>c
def pI:Code→Code
 | .block _ c=>c
 | .loop c=>c
 | .scope c=>c
 | .cond _ a _=>a
 | c=>c
def rs:Nat→Code→Code
 | 0,c=>c
 | n+1,.seq _ b=>rs n b
 | _+1,c=>c
def blk3 (b:Option Code):Code:=pI (pL (pR (pI (pI (pR (pL (rs 12 (b.getD .skip))))))))

def Lf (L M:List Value)(j:Nat):Prop:=L.length=M.length∧∀k,j≤k→L[k]?=M[k]?
theorem Lf.start (M:List Value):Lf M M 0:=⟨rfl,fun _ _=>rfl⟩
theorem Lf.set {L M:List Value}{j:Nat}(h:Lf L M j)(v:Value):Lf (L.set j v) M (j+1):=⟨by rw [List.length_set];exact h.1,fun k hk=>by rw [List.getElem?_set_ne (by omega)];exact h.2 k (by omega)⟩
theorem Own.set1 {w:World}{base:Nat}{e:TypeId}{g n cap:Nat}{L:List Value}(h:Own w base e (some ⟨g,0,none⟩) n cap L)(j:Nat)(u:Value)(hu:u.oneCell'=true):Own (w.setCell ⟨g,j,none⟩ u) base e (some ⟨g,0,none⟩) n cap (L.set j u) :=
 ⟨(World.ownsRow.stored h.row j u).1,fun v hv=>by
  rcases List.mem_or_eq_of_mem_set hv with hv|hv
  ·exact h.one v hv
  ·rw [hv];exact hu⟩
theorem own_fz {w:World}{base:Nat}{e:TypeId}{g n cap:Nat}{L:List Value}(h:Own w base e (some ⟨g,0,none⟩) n cap L)(j:Nat):w.frozen? ⟨g,j,none⟩=false:=by
 rcases Ow.form h.row with ⟨h1,_⟩|⟨g',h1,h2,_⟩
 ·cases h1
 ·cases h1;exact h2 j
theorem blk_some (g:Nat):Blk (some ⟨g,0,none⟩) g:=⟨_,rfl,rfl⟩
def XrR (y:World)(base:Nat)(e:TypeId)(a:Option Addr)(n c:Nat)(M:List Value)(v:Value)(U:World):Prop :=
 ∃j L,v=.int .i64 ((j:Nat):Int)∧j≤n∧Own U base e a n c L∧Lf L M j∧But (Blk a) y U
theorem XrR.next {y U:World}{base:Nat}{e:TypeId}{g n c:Nat}{L M:List Value}{j:Nat}(hO:Own U base e (some ⟨g,0,none⟩) n c L)(hL:Lf L M j)(hb:But (Blk (some ⟨g,0,none⟩)) y U)(hj:j<n)(u:Value)(hu:u.oneCell'=true) :
  XrR y base e (some ⟨g,0,none⟩) n c M (.int .i64 ((j+1:Nat):Int)) (U.setCell ⟨g,j,none⟩ u) :=
 ⟨j+1,_,rfl,hj,Own.set1 hO j u hu,hL.set u,hb.trans ((But.refl _ U).setCell (p:=⟨g,j,none⟩) (blk_some g) u)⟩
section
variable {y:World}
set_option maxRecDepth 1000000 in
set_option maxHeartbeats 8000000 in
theorem xor_r {u0 u1 u2 u3 u4 u5 u6 u7 u8 u9 u10 u11 u12 u13 u14 u15 u16 u17 u18 u20 u21 u23 u24 u25 u26 u27 u28 u29 u30 u31 u32 u33 u34 u35 u36 u37 u38 u39 u40 u41 u42 u43 u44 u45 u46 u47 u48 u49 u50 u51 u52 u53 u54 u55 u56 u57 u58 u59 u60 u61 u62 u63 u64 u65 u66 u67 u68 u69 u70 u71 u72 u73 u74 u75 u76 u77 u78 u79 u80 u81 u82 u83 u84 u85 u86 u87 u88 u89 u90 u91 u92 u93 u94 u95 u96 u97 u98 u99 u100 u101 u102 u103 u104 u105 u106 u107 u108 u109 u110 u111 u112 u113 u114 u115 u116 u117 u118 u119 u120 u121 u122 u123 u124 u125 u126 u127 u128 u129 u130 u131 u132 u133 u134 u135 u136 u137 u138 u139 u140 u141 u142 u143 u144 u145 u146 u147 u148 u149 u150 u151 u152 u153 u154 u155 u156 u157 u158 u159 u160 u161 u162 u163 u164 u165 u166 u167 u168 u169 u170 u171 u172 u173 u174 u175 u176 u177 u178 u179 u180 u181 u182 u183 u184 u185 u186 u187 u188 u189 u190 u191 u192 u193 u194 u195 u196 u197 u198 u199 u200 u201 u202 u203 u204 u205 u206 u207 u208 u209 u210 u211 u212 u213 u214 u215 u216 u217 u218 u219 u220 u221 u222 u223 u224 u225 u226 u227 u228 u229 u230 u231 u232 u233 u234 u235 u236 u237 u238 u239 u240 u241 u242 u243 u244 u245 u246 u247 u248 u249 u250 u251 u252 u253 u254 u255 u256 u257 u258 u259 u260 u261 u262 u263 u264 u265 u266 u267 u268 u269 u270 u271 u272 u273 u274 u275 u276 u277 u278 u279 u280 u281 u282 u283 u284 u285 u286 u287 u288 u289 u290 u291 u292 u293 u294 u295 u296 u297 u298 u299 u300 u301 u302 u303 u304 u305 u306 u307 u308 u309 u310 u311 u312 u313 u314 u315 u316 u317 u318 u319 u320 u321 u322 u323 u324 u325 u326 u327 u328 u329 u330 u331 u332 u333 u334 u335 u336 u337 u338 u339 u340 u341 u342 u343 u344 u345 u346 u347 u348 u349 u350 u351 u352 u353 u354 u355 u356 u357 u358 u359 u360 u361 u362 u363 u364 u365 u366 u367 u368 u369 u370 u371 u372 u373 u374 u375 u376 u377 u378 u379 u380 u381 u382 u383 u384 u385 u386 u387 u388 u389 u390 u391 u392 u393 u394 u395 u396 u397 u398 u399 u400 u401 u402 u403 u404 u405 u406 u407 u408 u409 u410 u411 u412 u413 u414 u415 u416 u417 u418 u419 u420 u421 u422 u423 u424 u425 u426 u427:Value}{Qx:Exit→Act→World→Prop}{base:Nat}{a:Option Addr}{n c:Nat}{B:List Nat}{br:Nat}{r:Rep}(hx:R.Bx y br (rpL r a n c))(hne:¬Blk a br)(hO:Own y base 5 a n c (S.u8s B))(hn:n≤140737488355328)
  (hK:∀(w':World),(∃L,Own w' base 5 a n c L)∧But (Blk a) y w'→∀(v22 v245 v246 v247 v248 v249 v250 v251 v252 v253 v254 v255 v256 v257 v258:Value),Qx .normal ⟨List.toArray (u0::u1::u2::u3::u4::u5::u6::u7::u8::u9::u10::u11::u12::u13::u14::u15::u16::u17::u18::.pointer (some ⟨br,0,none⟩)::u20::u21::v22::u23::u24::u25::u26::u27::u28::u29::u30::u31::u32::u33::u34::u35::u36::u37::u38::u39::u40::u41::u42::u43::u44::u45::u46::u47::u48::u49::u50::u51::u52::u53::u54::u55::u56::u57::u58::u59::u60::u61::u62::u63::u64::u65::u66::u67::u68::u69::u70::u71::u72::u73::u74::u75::u76::u77::u78::u79::u80::u81::u82::u83::u84::u85::u86::u87::u88::u89::u90::u91::u92::u93::u94::u95::u96::u97::u98::u99::u100::u101::u102::u103::u104::u105::u106::u107::u108::u109::u110::u111::u112::u113::u114::u115::u116::u117::u118::u119::u120::u121::u122::u123::u124::u125::u126::u127::u128::u129::u130::u131::u132::u133::u134::u135::u136::u137::u138::u139::u140::u141::u142::u143::u144::u145::u146::u147::u148::u149::u150::u151::u152::u153::u154::u155::u156::u157::u158::u159::u160::u161::u162::u163::u164::u165::u166::u167::u168::u169::u170::u171::u172::u173::u174::u175::u176::u177::u178::u179::u180::u181::u182::u183::u184::u185::u186::u187::u188::u189::u190::u191::u192::u193::u194::u195::u196::u197::u198::u199::u200::u201::u202::u203::u204::u205::u206::u207::u208::u209::u210::u211::u212::u213::u214::u215::u216::u217::u218::u219::u220::u221::u222::u223::u224::u225::u226::u227::u228::u229::u230::u231::u232::u233::u234::u235::u236::u237::u238::u239::u240::u241::u242::u243::u244::v245::v246::v247::v248::v249::v250::v251::v252::v253::v254::v255::v256::v257::v258::u259::u260::u261::u262::u263::u264::u265::u266::u267::u268::u269::u270::u271::u272::u273::u274::u275::u276::u277::u278::u279::u280::u281::u282::u283::u284::u285::u286::u287::u288::u289::u290::u291::u292::u293::u294::u295::u296::u297::u298::u299::u300::u301::u302::u303::u304::u305::u306::u307::u308::u309::u310::u311::u312::u313::u314::u315::u316::u317::u318::u319::u320::u321::u322::u323::u324::u325::u326::u327::u328::u329::u330::u331::u332::u333::u334::u335::u336::u337::u338::u339::u340::u341::u342::u343::u344::u345::u346::u347::u348::u349::u350::u351::u352::u353::u354::u355::u356::u357::u358::u359::u360::u361::u362::u363::u364::u365::u366::u367::u368::u369::u370::u371::u372::u373::u374::u375::u376::u377::u378::u379::u380::u381::u382::u383::u384::u385::u386::u387::u388::u389::u390::u391::u392::u393::u394::u395::u396::u397::u398::u399::u400::u401::u402::u403::u404::u405::u406::u407::u408::u409::u410::u411::u412::u413::u414::u415::u416::u417::u418::u419::u420::u421::u422::u423::u424::u425::u426::u427::[]),[]⟩ w') :
  Code.wp Try.prog (pR (pL (rs 6 (blk3 Try.f4.body)))) Qx ⟨List.toArray (u0::u1::u2::u3::u4::u5::u6::u7::u8::u9::u10::u11::u12::u13::u14::u15::u16::u17::u18::.pointer (some ⟨br,0,none⟩)::u20::u21::.int .i64 0::u23::u24::u25::u26::u27::u28::u29::u30::u31::u32::u33::u34::u35::u36::u37::u38::u39::u40::u41::u42::u43::u44::u45::u46::u47::u48::u49::u50::u51::u52::u53::u54::u55::u56::u57::u58::u59::u60::u61::u62::u63::u64::u65::u66::u67::u68::u69::u70::u71::u72::u73::u74::u75::u76::u77::u78::u79::u80::u81::u82::u83::u84::u85::u86::u87::u88::u89::u90::u91::u92::u93::u94::u95::u96::u97::u98::u99::u100::u101::u102::u103::u104::u105::u106::u107::u108::u109::u110::u111::u112::u113::u114::u115::u116::u117::u118::u119::u120::u121::u122::u123::u124::u125::u126::u127::u128::u129::u130::u131::u132::u133::u134::u135::u136::u137::u138::u139::u140::u141::u142::u143::u144::u145::u146::u147::u148::u149::u150::u151::u152::u153::u154::u155::u156::u157::u158::u159::u160::u161::u162::u163::u164::u165::u166::u167::u168::u169::u170::u171::u172::u173::u174::u175::u176::u177::u178::u179::u180::u181::u182::u183::u184::u185::u186::u187::u188::u189::u190::u191::u192::u193::u194::u195::u196::u197::u198::u199::u200::u201::u202::u203::u204::u205::u206::u207::u208::u209::u210::u211::u212::u213::u214::u215::u216::u217::u218::u219::u220::u221::u222::u223::u224::u225::u226::u227::u228::u229::u230::u231::u232::u233::u234::u235::u236::u237::u238::u239::u240::u241::u242::u243::u244::u245::u246::u247::u248::u249::u250::u251::u252::u253::u254::u255::u256::u257::u258::u259::u260::u261::u262::u263::u264::u265::u266::u267::u268::u269::u270::u271::u272::u273::u274::u275::u276::u277::u278::u279::u280::u281::u282::u283::u284::u285::u286::u287::u288::u289::u290::u291::u292::u293::u294::u295::u296::u297::u298::u299::u300::u301::u302::u303::u304::u305::u306::u307::u308::u309::u310::u311::u312::u313::u314::u315::u316::u317::u318::u319::u320::u321::u322::u323::u324::u325::u326::u327::u328::u329::u330::u331::u332::u333::u334::u335::u336::u337::u338::u339::u340::u341::u342::u343::u344::u345::u346::u347::u348::u349::u350::u351::u352::u353::u354::u355::u356::u357::u358::u359::u360::u361::u362::u363::u364::u365::u366::u367::u368::u369::u370::u371::u372::u373::u374::u375::u376::u377::u378::u379::u380::u381::u382::u383::u384::u385::u386::u387::u388::u389::u390::u391::u392::u393::u394::u395::u396::u397::u398::u399::u400::u401::u402::u403::u404::u405::u406::u407::u408::u409::u410::u411::u412::u413::u414::u415::u416::u417::u418::u419::u420::u421::u422::u423::u424::u425::u426::u427::[]),[]⟩ y:=by
 conv=>arg 2;whnf
 have HX:=hid hx
 have HO:=hid hO
 have HNe:=hid hne
 have HK:=hid hK
 have hnB:n=B.length:=by have:=hO.len;rw [S.u8s_length] at this;exact this.symm
 have HNB:=hid hnB
 clear hx hO hne hK hnB
 go_upto_region 38 with fail
 go_loopw [22] (XrR y base 5 a n c (S.u8s B)) (fun v _=>n - S.ivN v)
 case atStart=>exact⟨0,_,rfl,Nat.zero_le _,HO.out,Lf.start _,But.refl _ _⟩
 case round =>
  obtain⟨j,L,rfl,hj,hL,hf,hb⟩:=hrel
  have HL:=hid hL
  have HF:=hid hf
  have HB:=hid hb
  have xd:wr.cell? ⟨br,4,none⟩=some (.slice a n c):=(R.Bx.but hb HX.out HNe.out).cell 4 rfl
  clear hL hf hb
  by_cases hlt:j<n
  ·have hd:decide ((j:Int)<(n:Int))=true:=decide_eq_true (by omega)
   obtain⟨g,rfl⟩:=HL.out.form (by omega)
   obtain⟨x,hx⟩:∃x,B[j]?=some x:=⟨_,List.getElem?_eq_getElem (by have:=HNB.out;omega)⟩
   have hc:=HL.out.read.cells _ rfl j (.int .u8 (x:Int)) (by rw [HF.out.2 j (Nat.le_refl _)];simp [S.u8s,hx])
   rw [addr_add0] at hc
   have hfz:wr.frozen? ⟨g,j,none⟩=false:=own_fz HL.out j
   go_upto_region 39 with fail
   clear hc hfz hx xd
   have hfin:=XrR.next HL.out HF.out HB.out hlt (.int .u8 (bits BinOp.xor IntKind.u8 (x:Int) 255)) rfl
   have HFi:=hid hfin
   clear hfin
   go_wp2
   exact⟨HFi.out,by simp [S.ivN];omega⟩
  ·obtain rfl:j=n:=by omega
   have hd:decide ((j:Int)<(j:Int))=false:=by simp
   go_wp2
   refine HK.out _ ⟨⟨L,HL.out⟩,HB.out⟩ ..
set_option maxRecDepth 1000000 in
set_option maxHeartbeats 8000000 in
theorem xor_l {u0 u1 u2 u3 u4 u5 u6 u7 u8 u9 u10 u11 u12 u13 u15 u17 u18 u19 u20 u21 u22 u24 u25 u26 u27 u28 u29 u30 u31 u32 u33 u34 u35 u36 u37 u38 u39 u40 u41 u42 u43 u44 u45 u46 u47 u48 u49 u50 u51 u52 u53 u54 u55 u56 u57 u58 u59 u60 u61 u62 u63 u64 u65 u66 u67 u68 u69 u70 u71 u72 u73 u74 u75 u76 u77 u78 u79 u80 u81 u82 u83 u84 u85 u86 u87 u88 u89 u90 u91 u92 u93 u94 u95 u96 u97 u98 u99 u100 u101 u102 u103 u104 u105 u106 u107 u108 u109 u110 u111 u112 u113 u114 u115 u116 u117 u118 u119 u120 u121 u122 u123 u124 u125 u126 u127 u128 u129 u130 u131 u132 u133 u134 u135 u136 u137 u138 u139 u140 u141 u142 u143 u144 u145 u146 u147 u148 u149 u150 u151 u152 u153 u154 u155 u156 u157 u158 u159 u160 u161 u162 u163 u164 u165 u166 u167 u168 u169 u170 u171 u172 u173 u174 u175 u176 u177 u178 u179 u180 u181 u182 u183 u184 u185 u186 u187 u188 u189 u190 u191 u192 u193 u194 u195 u196 u197 u198 u199 u200 u201 u202 u203 u204 u205 u206 u207 u208 u209 u210 u211 u212 u213 u214 u215 u216 u217 u218 u219 u220 u221 u222 u223 u224 u225 u226 u227 u228 u229 u230 u231 u232 u233 u234 u235 u236 u237 u238 u239 u240 u241 u242 u243 u244 u245 u246 u247 u248 u249 u250 u251 u252 u253 u254 u255 u256 u257 u258 u259 u260 u261 u262 u263 u264 u265 u266 u267 u268 u269 u270 u271 u272 u273 u274 u275 u276 u277 u278 u279 u280 u281 u282 u283 u284 u285 u286 u287 u288 u289 u290 u291 u292 u293 u294 u295 u296 u297 u298 u299 u300 u301 u302 u303 u304 u305 u306 u307 u308 u309 u310 u311 u312 u313 u314 u315 u316 u317 u318 u319 u320 u321 u322 u323 u324 u325 u326 u327 u328 u329 u330 u331 u332 u333 u334 u335 u336 u337 u338 u339 u340 u341 u342 u343 u344 u345 u346 u347 u348 u349 u350 u351 u352 u353 u354 u355 u356 u357 u358 u359 u360 u361 u362 u363 u364 u365 u366 u367 u368 u369 u370 u371 u372 u373 u374 u375 u376 u377 u378 u379 u380 u381 u382 u383 u384 u385 u386 u387 u388 u389 u390 u391 u392 u393 u394 u395 u396 u397 u398 u399 u400 u401 u402 u403 u404 u405 u406 u407 u408 u409 u410 u411 u412 u413 u414 u415 u416 u417 u418 u419 u420 u421 u422 u423 u424 u425 u426 u427:Value}{Qx:Exit→Act→World→Prop}{base:Nat}{a:Option Addr}{n c:Nat}{B:List Nat}{gl i nl cl_:Nat}(hx:y.cell? ⟨gl,i*6+4,none⟩=some (.slice a n c))(hne:¬Blk a gl)(hi:i<nl)(hO:Own y base 5 a n c (S.u8s B))(hn:n≤140737488355328)
  (hK:∀(w':World),(∃L,Own w' base 5 a n c L)∧But (Blk a) y w'→∀(v23 v259 v260 v261 v262 v263 v264 v265 v266 v267 v268 v269 v270 v271 v272 v273 v274 v275 v276 v277 v278:Value),Qx .normal ⟨List.toArray (u0::u1::u2::u3::u4::u5::u6::u7::u8::u9::u10::u11::u12::u13::.slice (some ⟨gl,0,none⟩) nl cl_::u15::.int .i64 (i:Int)::u17::u18::u19::u20::u21::u22::v23::u24::u25::u26::u27::u28::u29::u30::u31::u32::u33::u34::u35::u36::u37::u38::u39::u40::u41::u42::u43::u44::u45::u46::u47::u48::u49::u50::u51::u52::u53::u54::u55::u56::u57::u58::u59::u60::u61::u62::u63::u64::u65::u66::u67::u68::u69::u70::u71::u72::u73::u74::u75::u76::u77::u78::u79::u80::u81::u82::u83::u84::u85::u86::u87::u88::u89::u90::u91::u92::u93::u94::u95::u96::u97::u98::u99::u100::u101::u102::u103::u104::u105::u106::u107::u108::u109::u110::u111::u112::u113::u114::u115::u116::u117::u118::u119::u120::u121::u122::u123::u124::u125::u126::u127::u128::u129::u130::u131::u132::u133::u134::u135::u136::u137::u138::u139::u140::u141::u142::u143::u144::u145::u146::u147::u148::u149::u150::u151::u152::u153::u154::u155::u156::u157::u158::u159::u160::u161::u162::u163::u164::u165::u166::u167::u168::u169::u170::u171::u172::u173::u174::u175::u176::u177::u178::u179::u180::u181::u182::u183::u184::u185::u186::u187::u188::u189::u190::u191::u192::u193::u194::u195::u196::u197::u198::u199::u200::u201::u202::u203::u204::u205::u206::u207::u208::u209::u210::u211::u212::u213::u214::u215::u216::u217::u218::u219::u220::u221::u222::u223::u224::u225::u226::u227::u228::u229::u230::u231::u232::u233::u234::u235::u236::u237::u238::u239::u240::u241::u242::u243::u244::u245::u246::u247::u248::u249::u250::u251::u252::u253::u254::u255::u256::u257::u258::v259::v260::v261::v262::v263::v264::v265::v266::v267::v268::v269::v270::v271::v272::v273::v274::v275::v276::v277::v278::u279::u280::u281::u282::u283::u284::u285::u286::u287::u288::u289::u290::u291::u292::u293::u294::u295::u296::u297::u298::u299::u300::u301::u302::u303::u304::u305::u306::u307::u308::u309::u310::u311::u312::u313::u314::u315::u316::u317::u318::u319::u320::u321::u322::u323::u324::u325::u326::u327::u328::u329::u330::u331::u332::u333::u334::u335::u336::u337::u338::u339::u340::u341::u342::u343::u344::u345::u346::u347::u348::u349::u350::u351::u352::u353::u354::u355::u356::u357::u358::u359::u360::u361::u362::u363::u364::u365::u366::u367::u368::u369::u370::u371::u372::u373::u374::u375::u376::u377::u378::u379::u380::u381::u382::u383::u384::u385::u386::u387::u388::u389::u390::u391::u392::u393::u394::u395::u396::u397::u398::u399::u400::u401::u402::u403::u404::u405::u406::u407::u408::u409::u410::u411::u412::u413::u414::u415::u416::u417::u418::u419::u420::u421::u422::u423::u424::u425::u426::u427::[]),[]⟩ w') :
  Code.wp Try.prog (pR (pL (rs 7 (blk3 Try.f4.body)))) Qx ⟨List.toArray (u0::u1::u2::u3::u4::u5::u6::u7::u8::u9::u10::u11::u12::u13::.slice (some ⟨gl,0,none⟩) nl cl_::u15::.int .i64 (i:Int)::u17::u18::u19::u20::u21::u22::.int .i64 0::u24::u25::u26::u27::u28::u29::u30::u31::u32::u33::u34::u35::u36::u37::u38::u39::u40::u41::u42::u43::u44::u45::u46::u47::u48::u49::u50::u51::u52::u53::u54::u55::u56::u57::u58::u59::u60::u61::u62::u63::u64::u65::u66::u67::u68::u69::u70::u71::u72::u73::u74::u75::u76::u77::u78::u79::u80::u81::u82::u83::u84::u85::u86::u87::u88::u89::u90::u91::u92::u93::u94::u95::u96::u97::u98::u99::u100::u101::u102::u103::u104::u105::u106::u107::u108::u109::u110::u111::u112::u113::u114::u115::u116::u117::u118::u119::u120::u121::u122::u123::u124::u125::u126::u127::u128::u129::u130::u131::u132::u133::u134::u135::u136::u137::u138::u139::u140::u141::u142::u143::u144::u145::u146::u147::u148::u149::u150::u151::u152::u153::u154::u155::u156::u157::u158::u159::u160::u161::u162::u163::u164::u165::u166::u167::u168::u169::u170::u171::u172::u173::u174::u175::u176::u177::u178::u179::u180::u181::u182::u183::u184::u185::u186::u187::u188::u189::u190::u191::u192::u193::u194::u195::u196::u197::u198::u199::u200::u201::u202::u203::u204::u205::u206::u207::u208::u209::u210::u211::u212::u213::u214::u215::u216::u217::u218::u219::u220::u221::u222::u223::u224::u225::u226::u227::u228::u229::u230::u231::u232::u233::u234::u235::u236::u237::u238::u239::u240::u241::u242::u243::u244::u245::u246::u247::u248::u249::u250::u251::u252::u253::u254::u255::u256::u257::u258::u259::u260::u261::u262::u263::u264::u265::u266::u267::u268::u269::u270::u271::u272::u273::u274::u275::u276::u277::u278::u279::u280::u281::u282::u283::u284::u285::u286::u287::u288::u289::u290::u291::u292::u293::u294::u295::u296::u297::u298::u299::u300::u301::u302::u303::u304::u305::u306::u307::u308::u309::u310::u311::u312::u313::u314::u315::u316::u317::u318::u319::u320::u321::u322::u323::u324::u325::u326::u327::u328::u329::u330::u331::u332::u333::u334::u335::u336::u337::u338::u339::u340::u341::u342::u343::u344::u345::u346::u347::u348::u349::u350::u351::u352::u353::u354::u355::u356::u357::u358::u359::u360::u361::u362::u363::u364::u365::u366::u367::u368::u369::u370::u371::u372::u373::u374::u375::u376::u377::u378::u379::u380::u381::u382::u383::u384::u385::u386::u387::u388::u389::u390::u391::u392::u393::u394::u395::u396::u397::u398::u399::u400::u401::u402::u403::u404::u405::u406::u407::u408::u409::u410::u411::u412::u413::u414::u415::u416::u417::u418::u419::u420::u421::u422::u423::u424::u425::u426::u427::[]),[]⟩ y:=by
 conv=>arg 2;whnf
 have HX:=hid hx
 have HO:=hid hO
 have HNe:=hid hne
 have HK:=hid hK
 have hnB:n=B.length:=by have:=hO.len;rw [S.u8s_length] at this;exact this.symm
 have HNB:=hid hnB
 clear hx hO hne hK hnB
 go_upto_region 42 with fail
 go_loopw [23] (XrR y base 5 a n c (S.u8s B)) (fun v _=>n - S.ivN v)
 case atStart=>exact⟨0,_,rfl,Nat.zero_le _,HO.out,Lf.start _,But.refl _ _⟩
 case round =>
  obtain⟨j,L,rfl,hj,hL,hf,hb⟩:=hrel
  have HL:=hid hL
  have HF:=hid hf
  have HB:=hid hb
  have xd:wr.cell? ⟨gl,i*6+4,none⟩=some (.slice a n c):=cell_but hb HX.out HNe.out
  clear hL hf hb
  by_cases hlt:j<n
  ·have hd:decide ((j:Int)<(n:Int))=true:=decide_eq_true (by omega)
   obtain⟨g,rfl⟩:=HL.out.form (by omega)
   obtain⟨x,hx⟩:∃x,B[j]?=some x:=⟨_,List.getElem?_eq_getElem (by have:=HNB.out;omega)⟩
   have hc:=HL.out.read.cells _ rfl j (.int .u8 (x:Int)) (by rw [HF.out.2 j (Nat.le_refl _)];simp [S.u8s,hx])
   rw [addr_add0] at hc
   have hfz:wr.frozen? ⟨g,j,none⟩=false:=own_fz HL.out j
   go_upto_region 43 with fail
   clear hc hfz hx xd
   have hfin:=XrR.next HL.out HF.out HB.out hlt (.int .u8 (bits BinOp.xor IntKind.u8 (x:Int) 255)) rfl
   have HFi:=hid hfin
   clear hfin
   go_wp2
   exact⟨HFi.out,by simp [S.ivN];omega⟩
  ·obtain rfl:j=n:=by omega
   have hd:decide ((j:Int)<(j:Int))=false:=by simp
   go_wp2
   refine HK.out _ ⟨⟨L,HL.out⟩,HB.out⟩ ..
set_option maxRecDepth 1000000 in
set_option maxHeartbeats 8000000 in
theorem mark_d {u0 u1 u3 u4 u5 u6 u7 u8 u9 u10 u11 u12 u13 u14 u15 u17 u19 u21 u22 u23 u24 u25 u26 u27 u28 u29 u30 u31 u32 u33 u34 u35 u36 u37 u38 u39 u40 u41 u42 u43 u44 u45 u46 u47 u48 u49 u50 u51 u52 u53 u54 u55 u56 u57 u58 u59 u60 u61 u62 u63 u64 u65 u66 u67 u68 u69 u70 u71 u72 u73 u74 u75 u76 u77 u78 u79 u80 u81 u82 u83 u84 u85 u86 u87 u88 u89 u90 u91 u92 u93 u94 u95 u96 u97 u98 u99 u100 u101 u102 u103 u104 u105 u106 u107 u108 u109 u110 u111 u112 u113 u114 u115 u116 u117 u118 u119 u120 u121 u122 u123 u124 u125 u126 u127 u128 u129 u130 u131 u132 u133 u134 u135 u136 u137 u138 u139 u140 u141 u142 u143 u144 u145 u146 u147 u148 u149 u150 u151 u152 u153 u154 u155 u156 u157 u158 u159 u160 u161 u162 u163 u164 u165 u166 u167 u168 u169 u170 u171 u172 u173 u174 u175 u176 u177 u178 u179 u180 u181 u182 u183 u184 u185 u186 u187 u188 u189 u190 u191 u192 u193 u194 u195 u196 u197 u198 u199 u200 u201 u202 u203 u204 u205 u206 u207 u208 u209 u210 u211 u212 u213 u214 u215 u216 u217 u218 u219 u220 u221 u222 u223 u224 u225 u226 u227 u228 u229 u230 u231 u232 u233 u234 u235 u236 u237 u238 u239 u240 u241 u242 u243 u244 u245 u246 u247 u248 u249 u250 u251 u252 u253 u254 u255 u256 u257 u258 u259 u260 u261 u262 u263 u264 u265 u266 u267 u268 u269 u270 u271 u272 u273 u274 u275 u276 u277 u278 u279 u280 u281 u282 u283 u284 u285 u286 u287 u288 u289 u290 u291 u292 u293 u294 u295 u296 u297 u298 u299 u300 u301 u302 u303 u304 u305 u306 u307 u308 u309 u310 u311 u312 u313 u314 u315 u316 u317 u318 u319 u320 u321 u322 u323 u324 u325 u326 u327 u328 u329 u330 u331 u332 u333 u334 u335 u336 u337 u338 u339 u340 u341 u342 u343 u344 u345 u346 u347 u348 u349 u350 u351 u352 u353 u354 u355 u356 u357 u358 u359 u360 u361 u362 u363 u364 u365 u366 u367 u368 u369 u370 u371 u372 u373 u374 u375 u376 u377 u378 u379 u380 u381 u382 u383 u384 u385 u386 u387 u388 u389 u390 u391 u392 u393 u394 u395 u396 u397 u398 u399 u400 u401 u402 u403 u404 u405 u406 u407 u408 u409 u410 u411 u412 u413 u414 u415 u416 u417 u418 u419 u420 u421 u422 u423 u424 u425 u426 u427:Value}{Qx:Exit→Act→World→Prop}{base bz b o i nl cap cc:Nat}{a ax:Option Addr}{n c:Nat}{B:List Nat}(hz:y.cell? ⟨bz,10,none⟩=some (.slice a n c))(hx:y.cell? ⟨b,o+i*13+10,none⟩=some (.slice ax n cc))(hO:Own y base 5 a n c (S.u8s B))(hr:R.Row y ax n cc B)(hnz:¬Blk a bz)(hnb:¬Blk a b)(hnx:0<n→∀k,Blk ax k→¬Blk a k)(hi:i<nl)(hn:n≤140737488355328)(hP:∀c a d v w,Qx (.panic c) (Act.put a d v) w→Qx (.panic c) a w)
  (hK:∀(w':World),(∃L,Own w' base 5 a n c L)∧But (Blk a) y w'→∀(v6 v20 v195 v196 v197 v198 v199 v200 v201 v202 v203 v204 v205 v206 v207 v208 v209 v210 v211 v212 v213 v214 v215 v216 v217 v218 v219:Value),Qx .normal ⟨List.toArray (u0::u1::.slice (some ⟨b,o,none⟩) nl cap::u3::u4::u5::v6::u7::u8::u9::u10::u11::u12::u13::u14::u15::.int .i64 (i:Int)::u17::.pointer (some ⟨bz,0,none⟩)::u19::v20::u21::u22::u23::u24::u25::u26::u27::u28::u29::u30::u31::u32::u33::u34::u35::u36::u37::u38::u39::u40::u41::u42::u43::u44::u45::u46::u47::u48::u49::u50::u51::u52::u53::u54::u55::u56::u57::u58::u59::u60::u61::u62::u63::u64::u65::u66::u67::u68::u69::u70::u71::u72::u73::u74::u75::u76::u77::u78::u79::u80::u81::u82::u83::u84::u85::u86::u87::u88::u89::u90::u91::u92::u93::u94::u95::u96::u97::u98::u99::u100::u101::u102::u103::u104::u105::u106::u107::u108::u109::u110::u111::u112::u113::u114::u115::u116::u117::u118::u119::u120::u121::u122::u123::u124::u125::u126::u127::u128::u129::u130::u131::u132::u133::u134::u135::u136::u137::u138::u139::u140::u141::u142::u143::u144::u145::u146::u147::u148::u149::u150::u151::u152::u153::u154::u155::u156::u157::u158::u159::u160::u161::u162::u163::u164::u165::u166::u167::u168::u169::u170::u171::u172::u173::u174::u175::u176::u177::u178::u179::u180::u181::u182::u183::u184::u185::u186::u187::u188::u189::u190::u191::u192::u193::u194::v195::v196::v197::v198::v199::v200::v201::v202::v203::v204::v205::v206::v207::v208::v209::v210::v211::v212::v213::v214::v215::v216::v217::v218::v219::u220::u221::u222::u223::u224::u225::u226::u227::u228::u229::u230::u231::u232::u233::u234::u235::u236::u237::u238::u239::u240::u241::u242::u243::u244::u245::u246::u247::u248::u249::u250::u251::u252::u253::u254::u255::u256::u257::u258::u259::u260::u261::u262::u263::u264::u265::u266::u267::u268::u269::u270::u271::u272::u273::u274::u275::u276::u277::u278::u279::u280::u281::u282::u283::u284::u285::u286::u287::u288::u289::u290::u291::u292::u293::u294::u295::u296::u297::u298::u299::u300::u301::u302::u303::u304::u305::u306::u307::u308::u309::u310::u311::u312::u313::u314::u315::u316::u317::u318::u319::u320::u321::u322::u323::u324::u325::u326::u327::u328::u329::u330::u331::u332::u333::u334::u335::u336::u337::u338::u339::u340::u341::u342::u343::u344::u345::u346::u347::u348::u349::u350::u351::u352::u353::u354::u355::u356::u357::u358::u359::u360::u361::u362::u363::u364::u365::u366::u367::u368::u369::u370::u371::u372::u373::u374::u375::u376::u377::u378::u379::u380::u381::u382::u383::u384::u385::u386::u387::u388::u389::u390::u391::u392::u393::u394::u395::u396::u397::u398::u399::u400::u401::u402::u403::u404::u405::u406::u407::u408::u409::u410::u411::u412::u413::u414::u415::u416::u417::u418::u419::u420::u421::u422::u423::u424::u425::u426::u427::[]),[]⟩ w') :
  Code.wp Try.prog (pR (pL (rs 4 (blk3 Try.f4.body)))) Qx ⟨List.toArray (u0::u1::.slice (some ⟨b,o,none⟩) nl cap::u3::u4::u5::u6::u7::u8::u9::u10::u11::u12::u13::u14::u15::.int .i64 (i:Int)::u17::.pointer (some ⟨bz,0,none⟩)::u19::.int .i64 0::u21::u22::u23::u24::u25::u26::u27::u28::u29::u30::u31::u32::u33::u34::u35::u36::u37::u38::u39::u40::u41::u42::u43::u44::u45::u46::u47::u48::u49::u50::u51::u52::u53::u54::u55::u56::u57::u58::u59::u60::u61::u62::u63::u64::u65::u66::u67::u68::u69::u70::u71::u72::u73::u74::u75::u76::u77::u78::u79::u80::u81::u82::u83::u84::u85::u86::u87::u88::u89::u90::u91::u92::u93::u94::u95::u96::u97::u98::u99::u100::u101::u102::u103::u104::u105::u106::u107::u108::u109::u110::u111::u112::u113::u114::u115::u116::u117::u118::u119::u120::u121::u122::u123::u124::u125::u126::u127::u128::u129::u130::u131::u132::u133::u134::u135::u136::u137::u138::u139::u140::u141::u142::u143::u144::u145::u146::u147::u148::u149::u150::u151::u152::u153::u154::u155::u156::u157::u158::u159::u160::u161::u162::u163::u164::u165::u166::u167::u168::u169::u170::u171::u172::u173::u174::u175::u176::u177::u178::u179::u180::u181::u182::u183::u184::u185::u186::u187::u188::u189::u190::u191::u192::u193::u194::u195::u196::u197::u198::u199::u200::u201::u202::u203::u204::u205::u206::u207::u208::u209::u210::u211::u212::u213::u214::u215::u216::u217::u218::u219::u220::u221::u222::u223::u224::u225::u226::u227::u228::u229::u230::u231::u232::u233::u234::u235::u236::u237::u238::u239::u240::u241::u242::u243::u244::u245::u246::u247::u248::u249::u250::u251::u252::u253::u254::u255::u256::u257::u258::u259::u260::u261::u262::u263::u264::u265::u266::u267::u268::u269::u270::u271::u272::u273::u274::u275::u276::u277::u278::u279::u280::u281::u282::u283::u284::u285::u286::u287::u288::u289::u290::u291::u292::u293::u294::u295::u296::u297::u298::u299::u300::u301::u302::u303::u304::u305::u306::u307::u308::u309::u310::u311::u312::u313::u314::u315::u316::u317::u318::u319::u320::u321::u322::u323::u324::u325::u326::u327::u328::u329::u330::u331::u332::u333::u334::u335::u336::u337::u338::u339::u340::u341::u342::u343::u344::u345::u346::u347::u348::u349::u350::u351::u352::u353::u354::u355::u356::u357::u358::u359::u360::u361::u362::u363::u364::u365::u366::u367::u368::u369::u370::u371::u372::u373::u374::u375::u376::u377::u378::u379::u380::u381::u382::u383::u384::u385::u386::u387::u388::u389::u390::u391::u392::u393::u394::u395::u396::u397::u398::u399::u400::u401::u402::u403::u404::u405::u406::u407::u408::u409::u410::u411::u412::u413::u414::u415::u416::u417::u418::u419::u420::u421::u422::u423::u424::u425::u426::u427::[]),[]⟩ y:=by
 conv=>arg 2;whnf
 have HZ:=hid hz
 have HX:=hid hx
 have HO:=hid hO
 have HR:=hid hr
 have HNz:=hid hnz
 have HNb:=hid hnb
 have HNx:=hid hnx
 have HPx:=hid hP
 have HK:=hid hK
 have hnB:n=B.length:=by have:=hO.len;simpa [S.u8s] using this.symm
 have HNB:=hid hnB
 clear hz hx hO hr hnz hnb hnx hP hK hnB
 go_upto_region 26 with fail
 go_loopw [20] (XrR y base 5 a n c (S.u8s B)) (fun v _=>n - S.ivN v)
 case atStart=>exact⟨0,_,rfl,Nat.zero_le _,HO.out,Lf.start _,But.refl _ _⟩
 case round =>
  obtain⟨j,L,rfl,hj,hL,hf,hb⟩:=hrel
  have HL:=hid hL
  have HF:=hid hf
  have HB:=hid hb
  have xd:wr.cell? ⟨bz,10,none⟩=some (.slice a n c):=cell_but hb HZ.out HNz.out
  clear hL hf hb
  by_cases hlt:j<n
  ·have hd:decide ((j:Int)<(n:Int))=true:=decide_eq_true (by omega)
   obtain⟨g,rfl⟩:=HL.out.form (by omega)
   obtain⟨x,hx⟩:∃x,B[j]?=some x:=⟨_,List.getElem?_eq_getElem (by have:=HNB.out;omega)⟩
   have hc:=HL.out.read.cells _ rfl j (.int .u8 (x:Int)) (by rw [HF.out.2 j (Nat.le_refl _)];simp [S.u8s,hx])
   rw [addr_add0] at hc
   have hfz:wr.frozen? ⟨g,j,none⟩=false:=own_fz HL.out j
   obtain⟨q,hax⟩:∃q,ax=some q:=by
    cases ax with
    | none=>have:=(HR.out.none_ rfl).1;omega
    | some q=>exact⟨q,rfl⟩
   subst hax
   have hq:=cell_but HB.out (HR.out.cells _ rfl j (.int .u8 (x:Int)) (by simp [R.u8s,hx])) (by rw [add_block];exact HNx.out (by omega) _ ⟨_,rfl,rfl⟩)
   have hxc:=cell_but HB.out HX.out HNb.out
   have HSr:Hid (∀U:World,Below wr.heap.size wr U→U.cell? ⟨bz,10,none⟩=some (.slice (some ⟨g,0,none⟩) n c)∧U.cell? ⟨g,j,none⟩=some (.int .u8 (x:Int))∧U.cell? ⟨b,o+i*13+10,none⟩=some (.slice (some q) n cc)∧U.cell? (q.add j)=some (.int .u8 (x:Int))):=fun U hU=>⟨cell_later hU xd,cell_later hU hc,cell_later hU hxc,cell_later hU hq⟩
   go_upto_region 28 with fail
   refine wp_region_held_drew (S:=(fun U:World=>U.cell? ⟨bz,10,none⟩=some (.slice (some ⟨g,0,none⟩) n c)∧U.cell? ⟨g,j,none⟩=some (.int .u8 (x:Int))∧U.cell? ⟨b,o+i*13+10,none⟩=some (.slice (some q) n cc)∧U.cell? (q.add j)=some (.int .u8 (x:Int)))) (by kernel_rfl) (HSr.out _ (Below.refl _ _).drew) (fun hHeld=>?_)
   refine wpAnyH_norm (l2:=#[false,false,false,false,false,false,false,false,false,false,false,false,false,false]) (f2:=14) (by kernel_rfl) (by kernel_rfl) ?_
   refine wpAnyH_take (i:=0) (oi:=_) (v:=?_) rfl (by kernel_rfl) (by kernel_rfl) (by kernel_rfl) (fun _ _ _ h=>HPx.out _ _ _ _ _ h) (Or.inl ⟨by rfl,?_⟩) (by assumption) ?_
   rotate_left
   ·(intro w hSw;(try dsimp only at hSw);go_simp;try with_reducible rfl)
   simp only [List.getElem_toArray,List.getElem_cons_succ,List.getElem_cons_zero,Act.put,List.setIfInBounds_toArray,List.set_cons_zero,List.set_cons_succ]
   refine wpAnyH_norm (l2:=#[true,false,false,false,false,false,false,false,false,false,false,false,false,false]) (f2:=13) (by kernel_rfl) (by kernel_rfl) ?_
   refine wpAnyH_take (i:=1) (oi:=_) (v:=?_) rfl (by kernel_rfl) (by kernel_rfl) (by kernel_rfl) (fun _ _ _ h=>HPx.out _ _ _ _ _ h) (Or.inl ⟨by rfl,?_⟩) (by assumption) ?_
   rotate_left
   ·(intro w hSw;(try dsimp only at hSw);go_simp;try with_reducible rfl)
   simp only [List.getElem_toArray,List.getElem_cons_succ,List.getElem_cons_zero,Act.put,List.setIfInBounds_toArray,List.set_cons_zero,List.set_cons_succ]
   refine wpAnyH_norm (l2:=#[true,true,false,false,false,false,false,false,false,false,false,false,false,false]) (f2:=12) (by kernel_rfl) (by kernel_rfl) ?_
   refine wpAnyH_take (i:=2) (oi:=_) (v:=?_) rfl (by kernel_rfl) (by kernel_rfl) (by kernel_rfl) (fun _ _ _ h=>HPx.out _ _ _ _ _ h) (Or.inl ⟨by rfl,?_⟩) (by assumption) ?_
   rotate_left
   ·(intro w hSw;(try dsimp only at hSw);go_simp;try with_reducible rfl)
   simp only [List.getElem_toArray,List.getElem_cons_succ,List.getElem_cons_zero,Act.put,List.setIfInBounds_toArray,List.set_cons_zero,List.set_cons_succ]
   refine wpAnyH_norm (l2:=#[true,true,true,false,false,false,false,false,false,false,false,false,false,false]) (f2:=11) (by kernel_rfl) (by kernel_rfl) ?_
   refine wpAnyH_take (i:=3) (oi:=_) (v:=?_) rfl (by kernel_rfl) (by kernel_rfl) (by kernel_rfl) (fun _ _ _ h=>HPx.out _ _ _ _ _ h) (Or.inl ⟨by rfl,?_⟩) (by assumption) ?_
   rotate_left
   ·(intro w hSw;(try dsimp only at hSw);go_simp;try with_reducible rfl)
   simp only [List.getElem_toArray,List.getElem_cons_succ,List.getElem_cons_zero,Act.put,List.setIfInBounds_toArray,List.set_cons_zero,List.set_cons_succ]
   refine wpAnyH_norm (l2:=#[true,true,true,true,false,false,false,false,false,false,false,false,false,false]) (f2:=10) (by kernel_rfl) (by kernel_rfl) ?_
   refine wpAnyH_take (i:=4) (oi:=_) (v:=?_) rfl (by kernel_rfl) (by kernel_rfl) (by kernel_rfl) (fun _ _ _ h=>HPx.out _ _ _ _ _ h) (Or.inl ⟨by rfl,?_⟩) (by assumption) ?_
   rotate_left
   ·(intro w hSw;(try dsimp only at hSw);go_simp;try with_reducible rfl)
   simp only [List.getElem_toArray,List.getElem_cons_succ,List.getElem_cons_zero,Act.put,List.setIfInBounds_toArray,List.set_cons_zero,List.set_cons_succ]
   refine wpAnyH_norm (l2:=#[true,true,true,true,true,false,false,false,false,false,false,false,false,false]) (f2:=9) (by kernel_rfl) (by kernel_rfl) ?_
   refine wpAnyH_take (i:=5) (oi:=_) (v:=?_) rfl (by kernel_rfl) (by kernel_rfl) (by kernel_rfl) (fun _ _ _ h=>HPx.out _ _ _ _ _ h) (Or.inl ⟨by rfl,?_⟩) (by assumption) ?_
   rotate_left
   ·(intro w hSw;(try dsimp only at hSw);go_simp;try with_reducible rfl)
   simp only [List.getElem_toArray,List.getElem_cons_succ,List.getElem_cons_zero,Act.put,List.setIfInBounds_toArray,List.set_cons_zero,List.set_cons_succ]
   refine wpAnyH_norm (l2:=#[true,true,true,true,true,true,false,false,false,false,false,false,false,false]) (f2:=8) (by kernel_rfl) (by kernel_rfl) ?_
   refine wpAnyH_take (i:=6) (oi:=_) (v:=?_) rfl (by kernel_rfl) (by kernel_rfl) (by kernel_rfl) (fun _ _ _ h=>HPx.out _ _ _ _ _ h) (Or.inl ⟨by rfl,?_⟩) (by assumption) ?_
   rotate_left
   ·(intro w hSw;(try dsimp only at hSw);go_simp;try with_reducible rfl)
   simp only [List.getElem_toArray,List.getElem_cons_succ,List.getElem_cons_zero,Act.put,List.setIfInBounds_toArray,List.set_cons_zero,List.set_cons_succ]
   refine wpAnyH_norm (l2:=#[true,true,true,true,true,true,true,false,false,false,false,false,false,false]) (f2:=7) (by kernel_rfl) (by kernel_rfl) ?_
   refine wpAnyH_take (i:=7) (oi:=_) (v:=?_) rfl (by kernel_rfl) (by kernel_rfl) (by kernel_rfl) (fun _ _ _ h=>HPx.out _ _ _ _ _ h) (Or.inl ⟨by rfl,?_⟩) (by assumption) ?_
   rotate_left
   ·(intro w hSw;(try dsimp only at hSw);go_simp;try with_reducible rfl)
   simp only [List.getElem_toArray,List.getElem_cons_succ,List.getElem_cons_zero,Act.put,List.setIfInBounds_toArray,List.set_cons_zero,List.set_cons_succ]
   refine wpAnyH_norm (l2:=#[true,true,true,true,true,true,true,true,false,false,false,false,false,false]) (f2:=6) (by kernel_rfl) (by kernel_rfl) ?_
   refine wpAnyH_take (i:=8) (oi:=_) (v:=?_) rfl (by kernel_rfl) (by kernel_rfl) (by kernel_rfl) (fun _ _ _ h=>HPx.out _ _ _ _ _ h) (Or.inl ⟨by rfl,?_⟩) (by assumption) ?_
   rotate_left
   ·(intro w hSw;(try dsimp only at hSw);go_simp;try with_reducible rfl)
   simp only [List.getElem_toArray,List.getElem_cons_succ,List.getElem_cons_zero,Act.put,List.setIfInBounds_toArray,List.set_cons_zero,List.set_cons_succ]
   refine wpAnyH_norm (l2:=#[true,true,true,true,true,true,true,true,true,false,false,false,false,false]) (f2:=5) (by kernel_rfl) (by kernel_rfl) ?_
   refine wpAnyH_take (i:=9) (oi:=_) (v:=?_) rfl (by kernel_rfl) (by kernel_rfl) (by kernel_rfl) (fun _ _ _ h=>HPx.out _ _ _ _ _ h) (Or.inl ⟨by rfl,?_⟩) (by assumption) ?_
   rotate_left
   ·(intro w hSw;(try dsimp only at hSw);go_simp;try with_reducible rfl)
   simp only [List.getElem_toArray,List.getElem_cons_succ,List.getElem_cons_zero,Act.put,List.setIfInBounds_toArray,List.set_cons_zero,List.set_cons_succ]
   refine wpAnyH_norm (l2:=#[true,true,true,true,true,true,true,true,true,true,false,false,false,false]) (f2:=4) (by kernel_rfl) (by kernel_rfl) ?_
   refine wpAnyH_take (i:=10) (oi:=_) (v:=?_) rfl (by kernel_rfl) (by kernel_rfl) (by kernel_rfl) (fun _ _ _ h=>HPx.out _ _ _ _ _ h) (Or.inl ⟨by rfl,?_⟩) (by assumption) ?_
   rotate_left
   ·(intro w hSw;(try dsimp only at hSw);go_simp;try with_reducible rfl)
   simp only [List.getElem_toArray,List.getElem_cons_succ,List.getElem_cons_zero,Act.put,List.setIfInBounds_toArray,List.set_cons_zero,List.set_cons_succ]
   refine wpAnyH_norm (l2:=#[true,true,true,true,true,true,true,true,true,true,true,false,false,false]) (f2:=3) (by kernel_rfl) (by kernel_rfl) ?_
   refine wpAnyH_take (i:=11) (oi:=_) (v:=?_) rfl (by kernel_rfl) (by kernel_rfl) (by kernel_rfl) (fun _ _ _ h=>HPx.out _ _ _ _ _ h) (Or.inl ⟨by rfl,?_⟩) (by assumption) ?_
   rotate_left
   ·(intro w hSw;(try dsimp only at hSw);go_simp;try with_reducible rfl)
   simp only [List.getElem_toArray,List.getElem_cons_succ,List.getElem_cons_zero,Act.put,List.setIfInBounds_toArray,List.set_cons_zero,List.set_cons_succ]
   refine wpAnyH_norm (l2:=#[true,true,true,true,true,true,true,true,true,true,true,true,false,false]) (f2:=2) (by kernel_rfl) (by kernel_rfl) ?_
   refine wpAnyH_take (i:=12) (oi:=_) (v:=?_) rfl (by kernel_rfl) (by kernel_rfl) (by kernel_rfl) (fun _ _ _ h=>HPx.out _ _ _ _ _ h) (Or.inl ⟨by rfl,?_⟩) (by assumption) ?_
   rotate_left
   ·(intro w hSw;(try dsimp only at hSw);go_simp;try with_reducible rfl)
   simp only [List.getElem_toArray,List.getElem_cons_succ,List.getElem_cons_zero,Act.put,List.setIfInBounds_toArray,List.set_cons_zero,List.set_cons_succ]
   refine wpAnyH_norm (l2:=#[true,true,true,true,true,true,true,true,true,true,true,true,true,false]) (f2:=1) (by kernel_rfl) (by kernel_rfl) ?_
   refine wpAnyH_take (i:=13) (oi:=_) (v:=?_) rfl (by kernel_rfl) (by kernel_rfl) (by kernel_rfl) (fun _ _ _ h=>HPx.out _ _ _ _ _ h) (Or.inl ⟨by rfl,?_⟩) (by assumption) ?_
   rotate_left
   ·(intro w hSw;(try dsimp only at hSw);go_simp;try with_reducible rfl)
   simp only [List.getElem_toArray,List.getElem_cons_succ,List.getElem_cons_zero,Act.put,List.setIfInBounds_toArray,List.set_cons_zero,List.set_cons_succ]
   refine wpAnyH_norm (l2:=#[true,true,true,true,true,true,true,true,true,true,true,true,true,true]) (f2:=0) (by kernel_rfl) (by kernel_rfl) ?_
   refine wpAnyH_done (by kernel_rfl) ?_ _
   go_upto_region 27 with fail
   clear hc hfz hx xd hq hxc
   have hfin:=XrR.next (U:=wr.drew) (Own.later (Below.refl _ _).drew HL.out) HF.out (HB.out.call (Below.refl _ _).drew) hlt (.int .u8 238) rfl
   have HFi:=hid hfin
   clear hfin
   go_wp2
   exact⟨HFi.out,by simp [S.ivN];omega⟩
  ·obtain rfl:j=n:=by omega
   have hd:decide ((j:Int)<(j:Int))=false:=by simp
   go_wp2
   refine HK.out _ ⟨⟨L,HL.out⟩,HB.out⟩ ..
set_option maxRecDepth 1000000 in
set_option maxHeartbeats 8000000 in
theorem mark_g {u0 u1 u3 u4 u5 u6 u7 u8 u9 u10 u11 u12 u13 u14 u15 u17 u19 u20 u22 u23 u24 u25 u26 u27 u28 u29 u30 u31 u32 u33 u34 u35 u36 u37 u38 u39 u40 u41 u42 u43 u44 u45 u46 u47 u48 u49 u50 u51 u52 u53 u54 u55 u56 u57 u58 u59 u60 u61 u62 u63 u64 u65 u66 u67 u68 u69 u70 u71 u72 u73 u74 u75 u76 u77 u78 u79 u80 u81 u82 u83 u84 u85 u86 u87 u88 u89 u90 u91 u92 u93 u94 u95 u96 u97 u98 u99 u100 u101 u102 u103 u104 u105 u106 u107 u108 u109 u110 u111 u112 u113 u114 u115 u116 u117 u118 u119 u120 u121 u122 u123 u124 u125 u126 u127 u128 u129 u130 u131 u132 u133 u134 u135 u136 u137 u138 u139 u140 u141 u142 u143 u144 u145 u146 u147 u148 u149 u150 u151 u152 u153 u154 u155 u156 u157 u158 u159 u160 u161 u162 u163 u164 u165 u166 u167 u168 u169 u170 u171 u172 u173 u174 u175 u176 u177 u178 u179 u180 u181 u182 u183 u184 u185 u186 u187 u188 u189 u190 u191 u192 u193 u194 u195 u196 u197 u198 u199 u200 u201 u202 u203 u204 u205 u206 u207 u208 u209 u210 u211 u212 u213 u214 u215 u216 u217 u218 u219 u220 u221 u222 u223 u224 u225 u226 u227 u228 u229 u230 u231 u232 u233 u234 u235 u236 u237 u238 u239 u240 u241 u242 u243 u244 u245 u246 u247 u248 u249 u250 u251 u252 u253 u254 u255 u256 u257 u258 u259 u260 u261 u262 u263 u264 u265 u266 u267 u268 u269 u270 u271 u272 u273 u274 u275 u276 u277 u278 u279 u280 u281 u282 u283 u284 u285 u286 u287 u288 u289 u290 u291 u292 u293 u294 u295 u296 u297 u298 u299 u300 u301 u302 u303 u304 u305 u306 u307 u308 u309 u310 u311 u312 u313 u314 u315 u316 u317 u318 u319 u320 u321 u322 u323 u324 u325 u326 u327 u328 u329 u330 u331 u332 u333 u334 u335 u336 u337 u338 u339 u340 u341 u342 u343 u344 u345 u346 u347 u348 u349 u350 u351 u352 u353 u354 u355 u356 u357 u358 u359 u360 u361 u362 u363 u364 u365 u366 u367 u368 u369 u370 u371 u372 u373 u374 u375 u376 u377 u378 u379 u380 u381 u382 u383 u384 u385 u386 u387 u388 u389 u390 u391 u392 u393 u394 u395 u396 u397 u398 u399 u400 u401 u402 u403 u404 u405 u406 u407 u408 u409 u410 u411 u412 u413 u414 u415 u416 u417 u418 u419 u420 u421 u422 u423 u424 u425 u426 u427:Value}{Qx:Exit→Act→World→Prop}{base bz b o i nl cap cc:Nat}{a ax:Option Addr}{n c:Nat}{B:List Int}(hz:y.cell? ⟨bz,12,none⟩=some (.slice a n c))(hx:y.cell? ⟨b,o+i*13+12,none⟩=some (.slice ax n cc))(hO:Own y base 3 a n c (ints B))(hr:R.RI y ax n cc B)(hnz:¬Blk a bz)(hnb:¬Blk a b)(hnx:0<n→∀k,Blk ax k→¬Blk a k)(hi:i<nl)(hn:n≤140737488355328)(hP:∀c a d v w,Qx (.panic c) (Act.put a d v) w→Qx (.panic c) a w)
  (hK:∀(w':World),(∃L,Own w' base 3 a n c L)∧But (Blk a) y w'→∀(v6 v21 v220 v221 v222 v223 v224 v225 v226 v227 v228 v229 v230 v231 v232 v233 v234 v235 v236 v237 v238 v239 v240 v241 v242 v243 v244:Value),Qx .normal ⟨List.toArray (u0::u1::.slice (some ⟨b,o,none⟩) nl cap::u3::u4::u5::v6::u7::u8::u9::u10::u11::u12::u13::u14::u15::.int .i64 (i:Int)::u17::.pointer (some ⟨bz,0,none⟩)::u19::u20::v21::u22::u23::u24::u25::u26::u27::u28::u29::u30::u31::u32::u33::u34::u35::u36::u37::u38::u39::u40::u41::u42::u43::u44::u45::u46::u47::u48::u49::u50::u51::u52::u53::u54::u55::u56::u57::u58::u59::u60::u61::u62::u63::u64::u65::u66::u67::u68::u69::u70::u71::u72::u73::u74::u75::u76::u77::u78::u79::u80::u81::u82::u83::u84::u85::u86::u87::u88::u89::u90::u91::u92::u93::u94::u95::u96::u97::u98::u99::u100::u101::u102::u103::u104::u105::u106::u107::u108::u109::u110::u111::u112::u113::u114::u115::u116::u117::u118::u119::u120::u121::u122::u123::u124::u125::u126::u127::u128::u129::u130::u131::u132::u133::u134::u135::u136::u137::u138::u139::u140::u141::u142::u143::u144::u145::u146::u147::u148::u149::u150::u151::u152::u153::u154::u155::u156::u157::u158::u159::u160::u161::u162::u163::u164::u165::u166::u167::u168::u169::u170::u171::u172::u173::u174::u175::u176::u177::u178::u179::u180::u181::u182::u183::u184::u185::u186::u187::u188::u189::u190::u191::u192::u193::u194::u195::u196::u197::u198::u199::u200::u201::u202::u203::u204::u205::u206::u207::u208::u209::u210::u211::u212::u213::u214::u215::u216::u217::u218::u219::v220::v221::v222::v223::v224::v225::v226::v227::v228::v229::v230::v231::v232::v233::v234::v235::v236::v237::v238::v239::v240::v241::v242::v243::v244::u245::u246::u247::u248::u249::u250::u251::u252::u253::u254::u255::u256::u257::u258::u259::u260::u261::u262::u263::u264::u265::u266::u267::u268::u269::u270::u271::u272::u273::u274::u275::u276::u277::u278::u279::u280::u281::u282::u283::u284::u285::u286::u287::u288::u289::u290::u291::u292::u293::u294::u295::u296::u297::u298::u299::u300::u301::u302::u303::u304::u305::u306::u307::u308::u309::u310::u311::u312::u313::u314::u315::u316::u317::u318::u319::u320::u321::u322::u323::u324::u325::u326::u327::u328::u329::u330::u331::u332::u333::u334::u335::u336::u337::u338::u339::u340::u341::u342::u343::u344::u345::u346::u347::u348::u349::u350::u351::u352::u353::u354::u355::u356::u357::u358::u359::u360::u361::u362::u363::u364::u365::u366::u367::u368::u369::u370::u371::u372::u373::u374::u375::u376::u377::u378::u379::u380::u381::u382::u383::u384::u385::u386::u387::u388::u389::u390::u391::u392::u393::u394::u395::u396::u397::u398::u399::u400::u401::u402::u403::u404::u405::u406::u407::u408::u409::u410::u411::u412::u413::u414::u415::u416::u417::u418::u419::u420::u421::u422::u423::u424::u425::u426::u427::[]),[]⟩ w') :
  Code.wp Try.prog (pR (pL (rs 5 (blk3 Try.f4.body)))) Qx ⟨List.toArray (u0::u1::.slice (some ⟨b,o,none⟩) nl cap::u3::u4::u5::u6::u7::u8::u9::u10::u11::u12::u13::u14::u15::.int .i64 (i:Int)::u17::.pointer (some ⟨bz,0,none⟩)::u19::u20::.int .i64 0::u22::u23::u24::u25::u26::u27::u28::u29::u30::u31::u32::u33::u34::u35::u36::u37::u38::u39::u40::u41::u42::u43::u44::u45::u46::u47::u48::u49::u50::u51::u52::u53::u54::u55::u56::u57::u58::u59::u60::u61::u62::u63::u64::u65::u66::u67::u68::u69::u70::u71::u72::u73::u74::u75::u76::u77::u78::u79::u80::u81::u82::u83::u84::u85::u86::u87::u88::u89::u90::u91::u92::u93::u94::u95::u96::u97::u98::u99::u100::u101::u102::u103::u104::u105::u106::u107::u108::u109::u110::u111::u112::u113::u114::u115::u116::u117::u118::u119::u120::u121::u122::u123::u124::u125::u126::u127::u128::u129::u130::u131::u132::u133::u134::u135::u136::u137::u138::u139::u140::u141::u142::u143::u144::u145::u146::u147::u148::u149::u150::u151::u152::u153::u154::u155::u156::u157::u158::u159::u160::u161::u162::u163::u164::u165::u166::u167::u168::u169::u170::u171::u172::u173::u174::u175::u176::u177::u178::u179::u180::u181::u182::u183::u184::u185::u186::u187::u188::u189::u190::u191::u192::u193::u194::u195::u196::u197::u198::u199::u200::u201::u202::u203::u204::u205::u206::u207::u208::u209::u210::u211::u212::u213::u214::u215::u216::u217::u218::u219::u220::u221::u222::u223::u224::u225::u226::u227::u228::u229::u230::u231::u232::u233::u234::u235::u236::u237::u238::u239::u240::u241::u242::u243::u244::u245::u246::u247::u248::u249::u250::u251::u252::u253::u254::u255::u256::u257::u258::u259::u260::u261::u262::u263::u264::u265::u266::u267::u268::u269::u270::u271::u272::u273::u274::u275::u276::u277::u278::u279::u280::u281::u282::u283::u284::u285::u286::u287::u288::u289::u290::u291::u292::u293::u294::u295::u296::u297::u298::u299::u300::u301::u302::u303::u304::u305::u306::u307::u308::u309::u310::u311::u312::u313::u314::u315::u316::u317::u318::u319::u320::u321::u322::u323::u324::u325::u326::u327::u328::u329::u330::u331::u332::u333::u334::u335::u336::u337::u338::u339::u340::u341::u342::u343::u344::u345::u346::u347::u348::u349::u350::u351::u352::u353::u354::u355::u356::u357::u358::u359::u360::u361::u362::u363::u364::u365::u366::u367::u368::u369::u370::u371::u372::u373::u374::u375::u376::u377::u378::u379::u380::u381::u382::u383::u384::u385::u386::u387::u388::u389::u390::u391::u392::u393::u394::u395::u396::u397::u398::u399::u400::u401::u402::u403::u404::u405::u406::u407::u408::u409::u410::u411::u412::u413::u414::u415::u416::u417::u418::u419::u420::u421::u422::u423::u424::u425::u426::u427::[]),[]⟩ y:=by
 conv=>arg 2;whnf
 have HZ:=hid hz
 have HX:=hid hx
 have HO:=hid hO
 have HR:=hid hr
 have HNz:=hid hnz
 have HNb:=hid hnb
 have HNx:=hid hnx
 have HPx:=hid hP
 have HK:=hid hK
 have hnB:n=B.length:=by have:=hO.len;simpa [ints] using this.symm
 have HNB:=hid hnB
 clear hz hx hO hr hnz hnb hnx hP hK hnB
 go_upto_region 32 with fail
 go_loopw [21] (XrR y base 3 a n c (ints B)) (fun v _=>n - S.ivN v)
 case atStart=>exact⟨0,_,rfl,Nat.zero_le _,HO.out,Lf.start _,But.refl _ _⟩
 case round =>
  obtain⟨j,L,rfl,hj,hL,hf,hb⟩:=hrel
  have HL:=hid hL
  have HF:=hid hf
  have HB:=hid hb
  have xd:wr.cell? ⟨bz,12,none⟩=some (.slice a n c):=cell_but hb HZ.out HNz.out
  clear hL hf hb
  by_cases hlt:j<n
  ·have hd:decide ((j:Int)<(n:Int))=true:=decide_eq_true (by omega)
   obtain⟨g,rfl⟩:=HL.out.form (by omega)
   obtain⟨x,hx⟩:∃x,B[j]?=some x:=⟨_,List.getElem?_eq_getElem (by have:=HNB.out;omega)⟩
   have hc:=HL.out.read.cells _ rfl j (.int .i64 x) (by rw [HF.out.2 j (Nat.le_refl _)];simp [ints,hx])
   rw [addr_add0] at hc
   have hfz:wr.frozen? ⟨g,j,none⟩=false:=own_fz HL.out j
   obtain⟨q,hax⟩:∃q,ax=some q:=by
    cases ax with
    | none=>have:=(HR.out.none_ rfl).1;omega
    | some q=>exact⟨q,rfl⟩
   subst hax
   have hq:=cell_but HB.out (HR.out.cells _ rfl j (.int .i64 x) (by simp [R.i64s,hx])) (by rw [add_block];exact HNx.out (by omega) _ ⟨_,rfl,rfl⟩)
   have hxc:=cell_but HB.out HX.out HNb.out
   have HSr:Hid (∀U:World,Below wr.heap.size wr U→U.cell? ⟨bz,12,none⟩=some (.slice (some ⟨g,0,none⟩) n c)∧U.cell? ⟨g,j,none⟩=some (.int .i64 x)∧U.cell? ⟨b,o+i*13+12,none⟩=some (.slice (some q) n cc)∧U.cell? (q.add j)=some (.int .i64 x)):=fun U hU=>⟨cell_later hU xd,cell_later hU hc,cell_later hU hxc,cell_later hU hq⟩
   go_upto_region 34 with fail
   refine wp_region_held_drew (S:=(fun U:World=>U.cell? ⟨bz,12,none⟩=some (.slice (some ⟨g,0,none⟩) n c)∧U.cell? ⟨g,j,none⟩=some (.int .i64 x)∧U.cell? ⟨b,o+i*13+12,none⟩=some (.slice (some q) n cc)∧U.cell? (q.add j)=some (.int .i64 x))) (by kernel_rfl) (HSr.out _ (Below.refl _ _).drew) (fun hHeld=>?_)
   refine wpAnyH_norm (l2:=#[false,false,false,false,false,false,false,false,false,false,false,false,false,false]) (f2:=14) (by kernel_rfl) (by kernel_rfl) ?_
   refine wpAnyH_take (i:=0) (oi:=_) (v:=?_) rfl (by kernel_rfl) (by kernel_rfl) (by kernel_rfl) (fun _ _ _ h=>HPx.out _ _ _ _ _ h) (Or.inl ⟨by rfl,?_⟩) (by assumption) ?_
   rotate_left
   ·(intro w hSw;(try dsimp only at hSw);go_simp;try with_reducible rfl)
   simp only [List.getElem_toArray,List.getElem_cons_succ,List.getElem_cons_zero,Act.put,List.setIfInBounds_toArray,List.set_cons_zero,List.set_cons_succ]
   refine wpAnyH_norm (l2:=#[true,false,false,false,false,false,false,false,false,false,false,false,false,false]) (f2:=13) (by kernel_rfl) (by kernel_rfl) ?_
   refine wpAnyH_take (i:=1) (oi:=_) (v:=?_) rfl (by kernel_rfl) (by kernel_rfl) (by kernel_rfl) (fun _ _ _ h=>HPx.out _ _ _ _ _ h) (Or.inl ⟨by rfl,?_⟩) (by assumption) ?_
   rotate_left
   ·(intro w hSw;(try dsimp only at hSw);go_simp;try with_reducible rfl)
   simp only [List.getElem_toArray,List.getElem_cons_succ,List.getElem_cons_zero,Act.put,List.setIfInBounds_toArray,List.set_cons_zero,List.set_cons_succ]
   refine wpAnyH_norm (l2:=#[true,true,false,false,false,false,false,false,false,false,false,false,false,false]) (f2:=12) (by kernel_rfl) (by kernel_rfl) ?_
   refine wpAnyH_take (i:=2) (oi:=_) (v:=?_) rfl (by kernel_rfl) (by kernel_rfl) (by kernel_rfl) (fun _ _ _ h=>HPx.out _ _ _ _ _ h) (Or.inl ⟨by rfl,?_⟩) (by assumption) ?_
   rotate_left
   ·(intro w hSw;(try dsimp only at hSw);go_simp;try with_reducible rfl)
   simp only [List.getElem_toArray,List.getElem_cons_succ,List.getElem_cons_zero,Act.put,List.setIfInBounds_toArray,List.set_cons_zero,List.set_cons_succ]
   refine wpAnyH_norm (l2:=#[true,true,true,false,false,false,false,false,false,false,false,false,false,false]) (f2:=11) (by kernel_rfl) (by kernel_rfl) ?_
   refine wpAnyH_take (i:=3) (oi:=_) (v:=?_) rfl (by kernel_rfl) (by kernel_rfl) (by kernel_rfl) (fun _ _ _ h=>HPx.out _ _ _ _ _ h) (Or.inl ⟨by rfl,?_⟩) (by assumption) ?_
   rotate_left
   ·(intro w hSw;(try dsimp only at hSw);go_simp;try with_reducible rfl)
   simp only [List.getElem_toArray,List.getElem_cons_succ,List.getElem_cons_zero,Act.put,List.setIfInBounds_toArray,List.set_cons_zero,List.set_cons_succ]
   refine wpAnyH_norm (l2:=#[true,true,true,true,false,false,false,false,false,false,false,false,false,false]) (f2:=10) (by kernel_rfl) (by kernel_rfl) ?_
   refine wpAnyH_take (i:=4) (oi:=_) (v:=?_) rfl (by kernel_rfl) (by kernel_rfl) (by kernel_rfl) (fun _ _ _ h=>HPx.out _ _ _ _ _ h) (Or.inl ⟨by rfl,?_⟩) (by assumption) ?_
   rotate_left
   ·(intro w hSw;(try dsimp only at hSw);go_simp;try with_reducible rfl)
   simp only [List.getElem_toArray,List.getElem_cons_succ,List.getElem_cons_zero,Act.put,List.setIfInBounds_toArray,List.set_cons_zero,List.set_cons_succ]
   refine wpAnyH_norm (l2:=#[true,true,true,true,true,false,false,false,false,false,false,false,false,false]) (f2:=9) (by kernel_rfl) (by kernel_rfl) ?_
   refine wpAnyH_take (i:=5) (oi:=_) (v:=?_) rfl (by kernel_rfl) (by kernel_rfl) (by kernel_rfl) (fun _ _ _ h=>HPx.out _ _ _ _ _ h) (Or.inl ⟨by rfl,?_⟩) (by assumption) ?_
   rotate_left
   ·(intro w hSw;(try dsimp only at hSw);go_simp;try with_reducible rfl)
   simp only [List.getElem_toArray,List.getElem_cons_succ,List.getElem_cons_zero,Act.put,List.setIfInBounds_toArray,List.set_cons_zero,List.set_cons_succ]
   refine wpAnyH_norm (l2:=#[true,true,true,true,true,true,false,false,false,false,false,false,false,false]) (f2:=8) (by kernel_rfl) (by kernel_rfl) ?_
   refine wpAnyH_take (i:=6) (oi:=_) (v:=?_) rfl (by kernel_rfl) (by kernel_rfl) (by kernel_rfl) (fun _ _ _ h=>HPx.out _ _ _ _ _ h) (Or.inl ⟨by rfl,?_⟩) (by assumption) ?_
   rotate_left
   ·(intro w hSw;(try dsimp only at hSw);go_simp;try with_reducible rfl)
   simp only [List.getElem_toArray,List.getElem_cons_succ,List.getElem_cons_zero,Act.put,List.setIfInBounds_toArray,List.set_cons_zero,List.set_cons_succ]
   refine wpAnyH_norm (l2:=#[true,true,true,true,true,true,true,false,false,false,false,false,false,false]) (f2:=7) (by kernel_rfl) (by kernel_rfl) ?_
   refine wpAnyH_take (i:=7) (oi:=_) (v:=?_) rfl (by kernel_rfl) (by kernel_rfl) (by kernel_rfl) (fun _ _ _ h=>HPx.out _ _ _ _ _ h) (Or.inl ⟨by rfl,?_⟩) (by assumption) ?_
   rotate_left
   ·(intro w hSw;(try dsimp only at hSw);go_simp;try with_reducible rfl)
   simp only [List.getElem_toArray,List.getElem_cons_succ,List.getElem_cons_zero,Act.put,List.setIfInBounds_toArray,List.set_cons_zero,List.set_cons_succ]
   refine wpAnyH_norm (l2:=#[true,true,true,true,true,true,true,true,false,false,false,false,false,false]) (f2:=6) (by kernel_rfl) (by kernel_rfl) ?_
   refine wpAnyH_take (i:=8) (oi:=_) (v:=?_) rfl (by kernel_rfl) (by kernel_rfl) (by kernel_rfl) (fun _ _ _ h=>HPx.out _ _ _ _ _ h) (Or.inl ⟨by rfl,?_⟩) (by assumption) ?_
   rotate_left
   ·(intro w hSw;(try dsimp only at hSw);go_simp;try with_reducible rfl)
   simp only [List.getElem_toArray,List.getElem_cons_succ,List.getElem_cons_zero,Act.put,List.setIfInBounds_toArray,List.set_cons_zero,List.set_cons_succ]
   refine wpAnyH_norm (l2:=#[true,true,true,true,true,true,true,true,true,false,false,false,false,false]) (f2:=5) (by kernel_rfl) (by kernel_rfl) ?_
   refine wpAnyH_take (i:=9) (oi:=_) (v:=?_) rfl (by kernel_rfl) (by kernel_rfl) (by kernel_rfl) (fun _ _ _ h=>HPx.out _ _ _ _ _ h) (Or.inl ⟨by rfl,?_⟩) (by assumption) ?_
   rotate_left
   ·(intro w hSw;(try dsimp only at hSw);go_simp;try with_reducible rfl)
   simp only [List.getElem_toArray,List.getElem_cons_succ,List.getElem_cons_zero,Act.put,List.setIfInBounds_toArray,List.set_cons_zero,List.set_cons_succ]
   refine wpAnyH_norm (l2:=#[true,true,true,true,true,true,true,true,true,true,false,false,false,false]) (f2:=4) (by kernel_rfl) (by kernel_rfl) ?_
   refine wpAnyH_take (i:=10) (oi:=_) (v:=?_) rfl (by kernel_rfl) (by kernel_rfl) (by kernel_rfl) (fun _ _ _ h=>HPx.out _ _ _ _ _ h) (Or.inl ⟨by rfl,?_⟩) (by assumption) ?_
   rotate_left
   ·(intro w hSw;(try dsimp only at hSw);go_simp;try with_reducible rfl)
   simp only [List.getElem_toArray,List.getElem_cons_succ,List.getElem_cons_zero,Act.put,List.setIfInBounds_toArray,List.set_cons_zero,List.set_cons_succ]
   refine wpAnyH_norm (l2:=#[true,true,true,true,true,true,true,true,true,true,true,false,false,false]) (f2:=3) (by kernel_rfl) (by kernel_rfl) ?_
   refine wpAnyH_take (i:=11) (oi:=_) (v:=?_) rfl (by kernel_rfl) (by kernel_rfl) (by kernel_rfl) (fun _ _ _ h=>HPx.out _ _ _ _ _ h) (Or.inl ⟨by rfl,?_⟩) (by assumption) ?_
   rotate_left
   ·(intro w hSw;(try dsimp only at hSw);go_simp;try with_reducible rfl)
   simp only [List.getElem_toArray,List.getElem_cons_succ,List.getElem_cons_zero,Act.put,List.setIfInBounds_toArray,List.set_cons_zero,List.set_cons_succ]
   refine wpAnyH_norm (l2:=#[true,true,true,true,true,true,true,true,true,true,true,true,false,false]) (f2:=2) (by kernel_rfl) (by kernel_rfl) ?_
   refine wpAnyH_take (i:=12) (oi:=_) (v:=?_) rfl (by kernel_rfl) (by kernel_rfl) (by kernel_rfl) (fun _ _ _ h=>HPx.out _ _ _ _ _ h) (Or.inl ⟨by rfl,?_⟩) (by assumption) ?_
   rotate_left
   ·(intro w hSw;(try dsimp only at hSw);go_simp;try with_reducible rfl)
   simp only [List.getElem_toArray,List.getElem_cons_succ,List.getElem_cons_zero,Act.put,List.setIfInBounds_toArray,List.set_cons_zero,List.set_cons_succ]
   refine wpAnyH_norm (l2:=#[true,true,true,true,true,true,true,true,true,true,true,true,true,false]) (f2:=1) (by kernel_rfl) (by kernel_rfl) ?_
   refine wpAnyH_take (i:=13) (oi:=_) (v:=?_) rfl (by kernel_rfl) (by kernel_rfl) (by kernel_rfl) (fun _ _ _ h=>HPx.out _ _ _ _ _ h) (Or.inl ⟨by rfl,?_⟩) (by assumption) ?_
   rotate_left
   ·(intro w hSw;(try dsimp only at hSw);go_simp;try with_reducible rfl)
   simp only [List.getElem_toArray,List.getElem_cons_succ,List.getElem_cons_zero,Act.put,List.setIfInBounds_toArray,List.set_cons_zero,List.set_cons_succ]
   refine wpAnyH_norm (l2:=#[true,true,true,true,true,true,true,true,true,true,true,true,true,true]) (f2:=0) (by kernel_rfl) (by kernel_rfl) ?_
   refine wpAnyH_done (by kernel_rfl) ?_ _
   go_upto_region 33 with fail
   clear hc hfz hx xd hq hxc
   have hfin:=XrR.next (U:=wr.drew) (Own.later (Below.refl _ _).drew HL.out) HF.out (HB.out.call (Below.refl _ _).drew) hlt (.int .i64 0) rfl
   have HFi:=hid hfin
   clear hfin
   go_wp2
   exact⟨HFi.out,by simp [S.ivN];omega⟩
  ·obtain rfl:j=n:=by omega
   have hd:decide ((j:Int)<(j:Int))=false:=by simp
   go_wp2
   refine HK.out _ ⟨⟨L,HL.out⟩,HB.out⟩ ..
end
end Go.Proofs.Ytffmodpgddecnaa.V.E
