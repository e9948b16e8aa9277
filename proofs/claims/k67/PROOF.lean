import PyProof.Rows.All
import Wide.All
import OpenK.AllK
import Wide.FinOn
import PyProof.EqAt
import PyProof.EqKinds
import PyProof.TupleCall
import PySem.Challenge.RW_fordbook_k67_gates_refuse
set_option Elab.async false
set_option linter.all false
set_option maxRecDepth 100000
local macro_rules|`(command|def $d:declId $s:optDeclSig $v:declVal)=>`(command|noncomputable def $d:declId $s:optDeclSig $v:declVal)
local macro_rules|`(command|abbrev $d:declId $s:optDeclSig $v:declVal)=>`(command|noncomputable abbrev $d:declId $s:optDeclSig $v:declVal)
local macro_rules|`(tactic|walk_at "d")=>`(tactic|try dsimp only [cx_k,cx_kn,as_nil,as_name,Nat.reduceAdd])
local macro_rules|`(tactic|obtain ⟨$p,$q,$r,*⟩:=$e)=>`(tactic|first|(refine Classical.byContradiction fun h=>?_;rcases $e:term with ⟨$p,$q,$r,*⟩<;>(refine h ?_;clear h))|rcases $e:term with ⟨$p,$q,$r,*⟩)
namespace L2
open PySem
def qgx9 (s:Stmt) (j:Nat):Stmt:=match s with
 | .ClassDef _ _ _ body _ _ _ _ _ _ _=>body.getD j (.Pass ⟨0,0,0,0⟩)
 | _=>.Pass ⟨0,0,0,0⟩
def qah9 (s:Stmt):Arguments:=match s with
 | .FunctionDef _ a _ _ _ _ _ _ _ _=>a
 | _=>{ posonlyargs:=[],args:=[],vararg:=none,kwonlyargs:=[],kw_defaults:=[],kwarg:=none,defaults:=[] }
def qag9 (s:Stmt):List Stmt:=match s with
 | .FunctionDef _ _ b _ _ _ _ _ _ _=>b
 | _=>[]
def qab9 (s:Stmt):Scope:=match s with
 | .FunctionDef _ _ _ _ _ _ sc _ _ _=>sc
 | _=>{ kind:=.function,names:=[],isGenerator:=false,isCoroutine:=false }
end L2
namespace My
open PySem L2
def top (i:Nat):Stmt:=PySem.Challenge.pw_fordbook_k67_gates_refuse.main.body.getD i (.Pass ⟨0,0,0,0⟩)
abbrev qdg9:Stmt:=top 12
abbrev qcw9:Stmt:=top 13
abbrev qdk9:Stmt:=top 14
abbrev qdu9:Stmt:=top 15
abbrev qcu9:Stmt:=top 16
abbrev qcx9:Stmt:=top 18
abbrev qdw9:Stmt:=top 19
abbrev qeu9:Stmt:=top 20
abbrev qcj9:Stmt:=top 21
abbrev qbs9:Stmt:=top 22
abbrev qep9:Stmt:=top 23
abbrev qbd9:Stmt:=top 25
abbrev qbr9:Stmt:=top 26
abbrev qhm9:Stmt:=top 27
abbrev qdi9:Stmt:=top 28
abbrev qcv9:Stmt:=top 30
abbrev qcn9:Stmt:=top 31
abbrev qdy9:Stmt:=top 32
abbrev qck9:Stmt:=top 33
abbrev qcm9:Stmt:=top 34
abbrev qeq9:Stmt:=top 36
abbrev qex9:Stmt:=top 37
abbrev qer9:Stmt:=top 38
abbrev qfv9:Stmt:=top 39
abbrev qcc9:Stmt:=top 40
abbrev qev9:Stmt:=top 41
abbrev qbq9:Stmt:=top 42
abbrev qdm9:Stmt:=top 43
abbrev qdj9:Stmt:=top 45
abbrev qdv9:Stmt:=top 46
abbrev qbw9:Stmt:=top 47
abbrev qcz9:Stmt:=top 48
abbrev qcl9:Stmt:=top 49
abbrev qbh9:Stmt:=top 50
abbrev qca9:Stmt:=top 52
abbrev qdx9:Stmt:=top 53
abbrev qct9:Stmt:=top 54
abbrev qap9:Stmt:=top 55
abbrev qbl9:Stmt:=top 56
abbrev qef9:Stmt:=top 57
abbrev qew9:Stmt:=top 59
abbrev qdc9:Stmt:=top 60
abbrev qgd9:Stmt:=top 61
abbrev qle9:Stmt:=top 62
abbrev qbx9:Stmt:=top 66
abbrev qdf9:Stmt:=top 67
abbrev qdh9:Stmt:=top 68
abbrev qdl9:Stmt:=top 69
abbrev qco9:Stmt:=top 71
abbrev qde9:Stmt:=top 72
abbrev qbp9:Stmt:=top 73
abbrev qci9:Stmt:=top 74
abbrev qbz9:Stmt:=top 75
abbrev qdd9:Stmt:=top 76
abbrev qhe9:Stmt:=top 77
abbrev qau9:Stmt:=qgx9 (top 64) 0
abbrev qbu9:Stmt:=qgx9 (top 64) 1
abbrev qbc9:Stmt:=qgx9 (top 64) 2
abbrev qbf9:Stmt:=qgx9 (top 64) 3
abbrev qbe9:Stmt:=qgx9 (top 64) 4
abbrev qbv9:Stmt:=qgx9 (top 64) 5
abbrev qbt9:Stmt:=qgx9 (top 64) 6
def fO9 (a b:Str) (s:Stmt) (m:Str) (k c:Nat):Obj:=(Obj.mk (.type "function") none (.func (.mk a b (qah9 s) (.stmts (qag9 s)) (qab9 s) 3 [] .none .none .none (.str m k) none (.ref c) .none 0)) #[])
def dE9 (P:Params) (x:Str) (n:Nat) (v:Value):DictEntry:=DictEntry.mk (PyData.keyHash P x) (.str x n) v
def eC9 (x:Str) (b a d e f g:Nat):Obj:=(Obj.mk (.type "type") none (@PySem.Data.cls (@PySem.ClassData.mk x [(.ref b)] [(.ref a),(.ref b),(.type "ValueError"),(.type "Exception"),(.type "BaseException"),(.type "object")] d x @Bool.true [] [] @Bool.false none @Bool.false)) #[(@Option.some @PySem.Value (.ref e)),none,(@Option.some @PySem.Value (.str x f)),(@Option.some @PySem.Value (.str x g)),(@Option.some @PySem.Value (.builtin "ValueError.__new__")),(@Option.some @PySem.Value (.bool @Bool.true))])
def cod (x:Str) (a:Tok) (y:Str) (b c:Tok) (d e f g i:Int) (j:Addr) (k:Int) (l:Addr) (m n o:Value) (p:Addr) (q r:Int) (s:Tok):Obj:=⟨.type "code",none,.fields #[.str x a,.str y b,.str "/claim/cut.py" c,.int d 0,.int e 0,.int f 0,.int g 0,.int i 0,.ref j,.bool true,.int k 0,.ref l,m,n,o,.ref p,.int q 0,.int r 0,.str "/claim/cut.py" s],#[]⟩
def o_2:Obj:=(Obj.mk .none none (.dict #[] 0) #[])
def o_3 (P:Params):Obj:=(Obj.mk (.type "dict") none (.dict #[(dE9 P "__name__" 165 (.str "law_fordbook_k67_gates_refuse" 924)),(dE9 P "__doc__" 166 .none),(dE9 P "__package__" 167 .none),(dE9 P "__loader__" 168 (.builtin "__main__.__loader__#opaque")),(dE9 P "__spec__" 169 .none),(dE9 P "__annotations__" 170 (.ref 6)),(dE9 P "__builtins__" 171 (.ref 4)),(dE9 P "__file__" 173 (.str "/claim/cut.py" 172)),(dE9 P "__cached__" 174 .none),(dE9 P "FordError" 206 (.ref 24)),(dE9 P "NoBoard" 222 (.ref 37)),(dE9 P "NoNet" 238 (.ref 49)),(dE9 P "NoPlace" 254 (.ref 61)),(dE9 P "NoRoad" 270 (.ref 73)),(dE9 P "NoTurn" 286 (.ref 85)),(dE9 P "NoText" 302 (.ref 97)),(dE9 P "NoRow" 318 (.ref 109)),(dE9 P "NoName" 334 (.ref 121)),(dE9 P "NoWindow" 350 (.ref 133)),(dE9 P "is_whole" 359 (.ref 142)),(dE9 P "is_window" 365 (.ref 147)),(dE9 P "is_board" 371 (.ref 152)),(dE9 P "open_at" 380 (.ref 159)),(dE9 P "next_open" 391 (.ref 166)),(dE9 P "is_number" 401 (.ref 173)),(dE9 P "is_road" 407 (.ref 178)),(dE9 P "is_net" 413 (.ref 183)),(dE9 P "need_net" 422 (.ref 190)),(dE9 P "need_place" 430 (.ref 197)),(dE9 P "copied" 436 (.ref 202)),(dE9 P "first_where" 449 (.ref 209)),(dE9 P "set_off" 462 (.ref 216)),(dE9 P "come" 472 (.ref 223)),(dE9 P "standing" 479 (.ref 230)),(dE9 P "stretches" 494 (.ref 237)),(dE9 P "first_told" 501 (.ref 244)),(dE9 P "overlay" 517 (.ref 251)),(dE9 P "put_window" 527 (.ref 258)),(dE9 P "clock_from" 541 (.ref 265)),(dE9 P "picked" 549 (.ref 270)),(dE9 P "joined" 566 (.ref 277)),(dE9 P "sooner" 575 (.ref 284)),(dE9 P "later" 584 (.ref 291)),(dE9 P "ridden" 600 (.ref 298)),(dE9 P "behind" 615 (.ref 305)),(dE9 P "clock_within" 624 (.ref 312)),(dE9 P "clock_of" 632 (.ref 319)),(dE9 P "fords_of" 640 (.ref 324)),(dE9 P "staying" 646 (.ref 329)),(dE9 P "copied_table" 652 (.ref 334)),(dE9 P "grown" 663 (.ref 341)),(dE9 P "ride_first" 676 (.ref 348)),(dE9 P "rounds_to" 688 (.ref 355)),(dE9 P "need_turn" 697 (.ref 362)),(dE9 P "guarded" 713 (.ref 369)),(dE9 P "ask_first" 728 (.ref 376)),(dE9 P "guarded_rounds" 741 (.ref 383)),(dE9 P "level_rounds" 753 (.ref 390)),(dE9 P "levels" 759 (.ref 395)),(dE9 P "comes_by" 772 (.ref 402)),(dE9 P "least_round" 785 (.ref 409)),(dE9 P "ask_by" 804 (.ref 416)),(dE9 P "walk" 820 (.ref 423)),(dE9 P "Gate" 923 (.ref 483)),(dE9 P "_law_cell_at" 933 (.ref 494)),(dE9 P "_law_day" 940 (.ref 501)),(dE9 P "_law_way" 953 (.ref 508)),(dE9 P "_law_net" 973 (.ref 515)),(dE9 P "_law_all" 984 (.ref 522)),(dE9 P "_law_kinds" 992 (.ref 529)),(dE9 P "_law_odd" 1001 (.ref 536)),(dE9 P "_law_bad_roads" 1014 (.ref 543)),(dE9 P "_law_made" 1028 (.ref 550)),(dE9 P "_law_asked" 1052 (.ref 557)),(dE9 P "_law_due" 1060 (.ref 564)),(dE9 P "law" 1066 (.ref 569))] 76) #[])
def o_15:Obj:=(Obj.mk (.type "tuple") none (.seq #[(.type "ValueError")] 0) #[])
def o_22:Obj:=(Obj.mk (.type "tuple") none (.seq #[] 0) #[])
def o_23 (P:Params):Obj:=(Obj.mk (.type "dict") none (.dict #[(dE9 P "__module__" 196 (.str "fordbook.errors" 187)),(dE9 P "__firstlineno__" 200 (.int 2 199)),(dE9 P "__static_attributes__" 201 (.ref 22)),(dE9 P "__weakref__" 203 (.ref 25)),(dE9 P "__doc__" 204 .none)] 3) #[])
def o_24:Obj:=(Obj.mk (.type "type") none (@PySem.Data.cls (@PySem.ClassData.mk (.ofString "FordError") [(.type "ValueError")] [(.ref 24),(.type "ValueError"),(.type "Exception"),(.type "BaseException"),(.type "object")] 23 (.ofString "FordError") @Bool.true [] [(.ref 37),(.ref 49),(.ref 61),(.ref 73),(.ref 85),(.ref 97),(.ref 109),(.ref 121),(.ref 133)] @Bool.false none @Bool.false)) #[(@Option.some @PySem.Value (.ref 15)),none,(@Option.some @PySem.Value (.str "FordError" 189)),(@Option.some @PySem.Value (.str "FordError" 197)),(@Option.some @PySem.Value (.builtin "ValueError.__new__")),(@Option.some @PySem.Value (.bool @Bool.true))])
def o_25:Obj:=(Obj.mk (.type "getset_descriptor") none (.fields #[(.str "__weakref__" 202),(.ref 24),(.builtin "ExceptionGroup.__weakref__"),.none]) #[])
def o_28:Obj:=(Obj.mk (.type "tuple") none (.seq #[(.ref 24)] 0) #[])
def o_36 (P:Params):Obj:=(Obj.mk (.type "dict") none (.dict #[(dE9 P "__module__" 214 (.str "fordbook.errors" 187)),(dE9 P "__firstlineno__" 218 (.int 4 217)),(dE9 P "__static_attributes__" 219 (.ref 35)),(dE9 P "__doc__" 220 .none)] 2) #[])
def o_37:Obj:=eC9 "NoBoard" 24 37 36 28 207 215
def o_48 (P:Params):Obj:=(Obj.mk (.type "dict") none (.dict #[(dE9 P "__module__" 230 (.str "fordbook.errors" 187)),(dE9 P "__firstlineno__" 234 (.int 6 233)),(dE9 P "__static_attributes__" 235 (.ref 47)),(dE9 P "__doc__" 236 .none)] 2) #[])
def o_49:Obj:=eC9 "NoNet" 24 49 48 40 223 231
def o_60 (P:Params):Obj:=(Obj.mk (.type "dict") none (.dict #[(dE9 P "__module__" 246 (.str "fordbook.errors" 187)),(dE9 P "__firstlineno__" 250 (.int 8 249)),(dE9 P "__static_attributes__" 251 (.ref 59)),(dE9 P "__doc__" 252 .none)] 2) #[])
def o_61:Obj:=eC9 "NoPlace" 24 61 60 52 239 247
def o_72 (P:Params):Obj:=(Obj.mk (.type "dict") none (.dict #[(dE9 P "__module__" 262 (.str "fordbook.errors" 187)),(dE9 P "__firstlineno__" 266 (.int 10 265)),(dE9 P "__static_attributes__" 267 (.ref 71)),(dE9 P "__doc__" 268 .none)] 2) #[])
def o_73:Obj:=eC9 "NoRoad" 24 73 72 64 255 263
def o_84 (P:Params):Obj:=(Obj.mk (.type "dict") none (.dict #[(dE9 P "__module__" 278 (.str "fordbook.errors" 187)),(dE9 P "__firstlineno__" 282 (.int 12 281)),(dE9 P "__static_attributes__" 283 (.ref 83)),(dE9 P "__doc__" 284 .none)] 2) #[])
def o_85:Obj:=eC9 "NoTurn" 24 85 84 76 271 279
def o_96 (P:Params):Obj:=(Obj.mk (.type "dict") none (.dict #[(dE9 P "__module__" 294 (.str "fordbook.errors" 187)),(dE9 P "__firstlineno__" 298 (.int 14 297)),(dE9 P "__static_attributes__" 299 (.ref 95)),(dE9 P "__doc__" 300 .none)] 2) #[])
def o_97:Obj:=eC9 "NoText" 24 97 96 88 287 295
def o_108 (P:Params):Obj:=(Obj.mk (.type "dict") none (.dict #[(dE9 P "__module__" 310 (.str "fordbook.errors" 187)),(dE9 P "__firstlineno__" 314 (.int 16 313)),(dE9 P "__static_attributes__" 315 (.ref 107)),(dE9 P "__doc__" 316 .none)] 2) #[])
def o_109:Obj:=eC9 "NoRow" 24 109 108 100 303 311
def o_120 (P:Params):Obj:=(Obj.mk (.type "dict") none (.dict #[(dE9 P "__module__" 326 (.str "fordbook.errors" 187)),(dE9 P "__firstlineno__" 330 (.int 18 329)),(dE9 P "__static_attributes__" 331 (.ref 119)),(dE9 P "__doc__" 332 .none)] 2) #[])
def o_121:Obj:=eC9 "NoName" 24 121 120 112 319 327
def o_132 (P:Params):Obj:=(Obj.mk (.type "dict") none (.dict #[(dE9 P "__module__" 342 (.str "fordbook.errors" 187)),(dE9 P "__firstlineno__" 346 (.int 20 345)),(dE9 P "__static_attributes__" 347 (.ref 131)),(dE9 P "__doc__" 348 .none)] 2) #[])
def o_133:Obj:=eC9 "NoWindow" 24 133 132 124 335 343
def o_141:Obj:=cod "is_whole" 353 "is_whole" 354 355 23 1 0 0 3 136 181 137 .none (.ref 138) (.ref 139) 140 357 23 358
def o_142:Obj:=fO9 "is_whole" "is_whole" qdg9 "fordbook.windows" 351 141
def o_146:Obj:=cod "is_window" 360 "is_window" 361 362 25 2 0 0 3 143 181 144 .none .none .none 145 363 25 364
def o_147:Obj:=fO9 "is_window" "is_window" qcw9 "fordbook.windows" 351 146
def o_151:Obj:=cod "is_board" 366 "is_board" 367 368 31 2 0 0 3 148 181 149 .none .none .none 150 369 31 370
def o_152:Obj:=fO9 "is_board" "is_board" qdk9 "fordbook.windows" 351 151
def o_158:Obj:=cod "open_at" 372 "open_at" 373 374 33 3 0 0 3 153 181 154 .none (.ref 155) (.ref 156) 157 378 33 379
def o_159:Obj:=fO9 "open_at" "open_at" qdu9 "fordbook.windows" 351 158
def o_165:Obj:=cod "next_open" 381 "next_open" 382 383 35 3 0 0 3 160 181 161 .none (.ref 162) (.ref 163) 164 389 35 390
def o_166:Obj:=fO9 "next_open" "next_open" qcu9 "fordbook.windows" 351 165
def o_172:Obj:=cod "is_number" 394 "is_number" 395 396 42 2 0 0 3 167 181 168 .none (.ref 169) (.ref 170) 171 399 42 400
def o_173:Obj:=fO9 "is_number" "is_number" qcx9 "fordbook.nets" 392 172
def o_177:Obj:=cod "is_road" 402 "is_road" 403 404 44 3 0 0 3 174 181 175 .none .none .none 176 405 44 406
def o_178:Obj:=fO9 "is_road" "is_road" qdw9 "fordbook.nets" 392 177
def o_182:Obj:=cod "is_net" 408 "is_net" 409 410 50 3 0 0 3 179 181 180 .none .none .none 181 411 50 412
def o_183:Obj:=fO9 "is_net" "is_net" qeu9 "fordbook.nets" 392 182
def o_189:Obj:=cod "need_net" 414 "need_net" 415 416 54 3 0 0 3 184 181 185 .none (.ref 186) (.ref 187) 188 420 54 421
def o_190:Obj:=fO9 "need_net" "need_net" qcj9 "fordbook.nets" 392 189
def o_196:Obj:=cod "need_place" 423 "need_place" 424 425 57 2 0 0 3 191 181 192 .none (.ref 193) (.ref 194) 195 428 57 429
def o_197:Obj:=fO9 "need_place" "need_place" qbs9 "fordbook.nets" 392 196
def o_201:Obj:=cod "copied" 431 "copied" 432 433 60 1 0 0 3 198 181 199 .none .none .none 200 434 60 435
def o_202:Obj:=fO9 "copied" "copied" qep9 "fordbook.nets" 392 201
def o_208:Obj:=cod "first_where" 439 "first_where" 440 441 63 2 0 0 3 203 181 204 .none (.ref 205) (.ref 206) 207 447 63 448
def o_209:Obj:=fO9 "first_where" "first_where" qbd9 "fordbook.clocks" 437 208
def o_215:Obj:=cod "set_off" 450 "set_off" 451 452 73 3 0 0 3 210 181 211 .none (.ref 212) (.ref 213) 214 460 73 461
def o_216:Obj:=fO9 "set_off" "set_off" qbr9 "fordbook.clocks" 437 215
def o_222:Obj:=cod "come" 463 "come" 464 465 81 3 0 0 3 217 181 218 .none (.ref 219) (.ref 220) 221 470 81 471
def o_223:Obj:=fO9 "come" "come" qhm9 "fordbook.clocks" 437 222
def o_229:Obj:=cod "standing" 473 "standing" 474 475 86 1 0 0 3 224 181 225 .none (.ref 226) (.ref 227) 228 477 86 478
def o_230:Obj:=fO9 "standing" "standing" qdi9 "fordbook.clocks" 437 229
def o_236:Obj:=cod "stretches" 482 "stretches" 483 484 89 2 0 0 3 231 181 232 .none (.ref 233) (.ref 234) 235 492 89 493
def o_237:Obj:=fO9 "stretches" "stretches" qcv9 "fordbook.stretches" 480 236
def o_243:Obj:=cod "first_told" 495 "first_told" 496 497 100 1 0 0 3 238 181 239 .none (.ref 240) (.ref 241) 242 499 100 500
def o_244:Obj:=fO9 "first_told" "first_told" qcn9 "fordbook.stretches" 480 243
def o_250:Obj:=cod "overlay" 502 "overlay" 503 504 102 3 0 0 3 245 181 246 .none (.ref 247) (.ref 248) 249 515 102 516
def o_251:Obj:=fO9 "overlay" "overlay" qdy9 "fordbook.stretches" 480 250
def o_257:Obj:=cod "put_window" 518 "put_window" 519 520 118 4 0 0 3 252 181 253 .none (.ref 254) (.ref 255) 256 525 118 526
def o_258:Obj:=fO9 "put_window" "put_window" qck9 "fordbook.stretches" 480 257
def o_264:Obj:=cod "clock_from" 528 "clock_from" 529 530 125 2 0 0 3 259 181 260 .none (.ref 261) (.ref 262) 263 539 125 540
def o_265:Obj:=fO9 "clock_from" "clock_from" qcm9 "fordbook.stretches" 480 264
def o_269:Obj:=cod "picked" 544 "picked" 545 546 137 5 0 0 3 266 181 267 .none .none .none 268 547 137 548
def o_270:Obj:=fO9 "picked" "picked" qeq9 "fordbook.reckon" 542 269
def o_276:Obj:=cod "joined" 550 "joined" 551 552 142 4 0 0 3 271 181 272 .none (.ref 273) (.ref 274) 275 564 142 565
def o_277:Obj:=fO9 "joined" "joined" qex9 "fordbook.reckon" 542 276
def o_283:Obj:=cod "sooner" 567 "sooner" 568 569 152 3 0 0 3 278 181 279 .none (.ref 280) (.ref 281) 282 573 152 574
def o_284:Obj:=fO9 "sooner" "sooner" qer9 "fordbook.reckon" 542 283
def o_290:Obj:=cod "later" 576 "later" 577 578 156 3 0 0 3 285 181 286 .none (.ref 287) (.ref 288) 289 582 156 583
def o_291:Obj:=fO9 "later" "later" qfv9 "fordbook.reckon" 542 290
def o_297:Obj:=cod "ridden" 585 "ridden" 586 587 160 5 0 0 3 292 181 293 .none (.ref 294) (.ref 295) 296 598 160 599
def o_298:Obj:=fO9 "ridden" "ridden" qcc9 "fordbook.reckon" 542 297
def o_304:Obj:=cod "behind" 601 "behind" 602 603 177 3 0 0 3 299 181 300 .none (.ref 301) (.ref 302) 303 613 177 614
def o_305:Obj:=fO9 "behind" "behind" qev9 "fordbook.reckon" 542 304
def o_311:Obj:=cod "clock_within" 616 "clock_within" 617 618 188 2 0 0 3 306 181 307 .none (.ref 308) (.ref 309) 310 622 188 623
def o_312:Obj:=fO9 "clock_within" "clock_within" qbq9 "fordbook.reckon" 542 311
def o_318:Obj:=cod "clock_of" 625 "clock_of" 626 627 193 2 0 0 3 313 181 314 .none (.ref 315) (.ref 316) 317 630 193 631
def o_319:Obj:=fO9 "clock_of" "clock_of" qdm9 "fordbook.reckon" 542 318
def o_323:Obj:=cod "fords_of" 635 "fords_of" 636 637 198 2 0 0 3 320 181 321 .none .none .none 322 638 198 639
def o_324:Obj:=fO9 "fords_of" "fords_of" qdj9 "fordbook.tables" 633 323
def o_328:Obj:=cod "staying" 641 "staying" 642 643 200 3 0 0 3 325 181 326 .none .none .none 327 644 200 645
def o_329:Obj:=fO9 "staying" "staying" qdv9 "fordbook.tables" 633 328
def o_333:Obj:=cod "copied_table" 647 "copied_table" 648 649 202 1 0 0 3 330 181 331 .none .none .none 332 650 202 651
def o_334:Obj:=fO9 "copied_table" "copied_table" qbw9 "fordbook.tables" 633 333
def o_340:Obj:=cod "grown" 653 "grown" 654 655 204 4 0 0 3 335 181 336 .none (.ref 337) (.ref 338) 339 661 204 662
def o_341:Obj:=fO9 "grown" "grown" qcz9 "fordbook.tables" 633 340
def o_347:Obj:=cod "ride_first" 664 "ride_first" 665 666 212 3 0 0 3 342 181 343 .none (.ref 344) (.ref 345) 346 674 212 675
def o_348:Obj:=fO9 "ride_first" "ride_first" qcl9 "fordbook.tables" 633 347
def o_354:Obj:=cod "rounds_to" 677 "rounds_to" 678 679 217 4 0 0 3 349 181 350 .none (.ref 351) (.ref 352) 353 686 217 687
def o_355:Obj:=fO9 "rounds_to" "rounds_to" qbh9 "fordbook.tables" 633 354
def o_361:Obj:=cod "need_turn" 691 "need_turn" 692 693 221 1 0 0 3 356 181 357 .none (.ref 358) (.ref 359) 360 695 221 696
def o_362:Obj:=fO9 "need_turn" "need_turn" qca9 "fordbook.asks" 689 361
def o_368:Obj:=cod "guarded" 698 "guarded" 699 700 224 3 0 0 3 363 181 364 .none (.ref 365) (.ref 366) 367 711 224 712
def o_369:Obj:=fO9 "guarded" "guarded" qdx9 "fordbook.asks" 689 368
def o_375:Obj:=cod "ask_first" 714 "ask_first" 715 716 230 3 0 0 3 370 181 371 .none (.ref 372) (.ref 373) 374 726 230 727
def o_376:Obj:=fO9 "ask_first" "ask_first" qct9 "fordbook.asks" 689 375
def o_382:Obj:=cod "guarded_rounds" 729 "guarded_rounds" 730 731 236 5 0 0 3 377 181 378 .none (.ref 379) (.ref 380) 381 739 236 740
def o_383:Obj:=fO9 "guarded_rounds" "guarded_rounds" qap9 "fordbook.asks" 689 382
def o_389:Obj:=cod "level_rounds" 742 "level_rounds" 743 744 239 5 0 0 3 384 181 385 .none (.ref 386) (.ref 387) 388 751 239 752
def o_390:Obj:=fO9 "level_rounds" "level_rounds" qbl9 "fordbook.asks" 689 389
def o_394:Obj:=cod "levels" 754 "levels" 755 756 247 5 0 0 3 391 181 392 .none .none .none 393 757 247 758
def o_395:Obj:=fO9 "levels" "levels" qef9 "fordbook.asks" 689 394
def o_401:Obj:=cod "comes_by" 762 "comes_by" 763 764 250 4 0 0 3 396 181 397 .none (.ref 398) (.ref 399) 400 770 250 771
def o_402:Obj:=fO9 "comes_by" "comes_by" qew9 "fordbook.walks" 760 401
def o_408:Obj:=cod "least_round" 773 "least_round" 774 775 253 5 0 0 3 403 181 404 .none (.ref 405) (.ref 406) 407 783 253 784
def o_409:Obj:=fO9 "least_round" "least_round" qdc9 "fordbook.walks" 760 408
def o_415:Obj:=cod "ask_by" 786 "ask_by" 787 788 258 7 0 0 3 410 181 411 .none (.ref 412) (.ref 413) 414 802 258 803
def o_416:Obj:=fO9 "ask_by" "ask_by" qgd9 "fordbook.walks" 760 415
def o_422:Obj:=cod "walk" 805 "walk" 806 807 266 6 0 0 3 417 181 418 .none (.ref 419) (.ref 420) 421 818 266 819
def o_423:Obj:=fO9 "walk" "walk" qle9 "fordbook.walks" 760 422
def o_431:Obj:=(Obj.mk (.type "tuple") none (.seq #[(.int 1 835)] 0) #[])
def o_437:Obj:=cod "__init__" 836 "Gate.__init__" 837 838 282 6 0 0 3 432 181 433 .none (.ref 434) (.ref 435) 436 845 282 846
def o_438:Obj:=(Obj.mk (.type "function") none (.func (.mk (.ofString "__init__") (.ofString "Gate.__init__") (qah9 qau9) (.stmts (qag9 qau9)) (qab9 qau9) 3 [] (.ref 431) .none .none (.str "fordbook.gates" 821) none (.ref 437) .none 0)) #[])
def o_444:Obj:=cod "told" 848 "Gate.told" 849 850 288 4 0 0 3 439 181 440 .none (.ref 441) (.ref 442) 443 855 288 856
def o_445:Obj:=fO9 "told" "Gate.told" qbu9 "fordbook.gates" 821 444
def o_451:Obj:=cod "need_left" 858 "Gate.need_left" 859 860 291 2 0 0 3 446 181 447 .none (.ref 448) (.ref 449) 450 863 291 864
def o_452:Obj:=fO9 "need_left" "Gate.need_left" qbc9 "fordbook.gates" 821 451
def o_458:Obj:=cod "need_ask" 866 "Gate.need_ask" 867 868 295 4 0 0 3 453 181 454 .none (.ref 455) (.ref 456) 457 874 295 875
def o_459:Obj:=fO9 "need_ask" "Gate.need_ask" qbf9 "fordbook.gates" 821 458
def o_465:Obj:=cod "soonest" 877 "Gate.soonest" 878 879 304 4 0 0 3 460 181 461 .none (.ref 462) (.ref 463) 464 884 304 885
def o_466:Obj:=fO9 "soonest" "Gate.soonest" qbe9 "fordbook.gates" 821 465
def o_472:Obj:=cod "plan" 887 "Gate.plan" 888 889 309 4 0 0 3 467 181 468 .none (.ref 469) (.ref 470) 471 895 309 896
def o_473:Obj:=fO9 "plan" "Gate.plan" qbv9 "fordbook.gates" 821 472
def o_479:Obj:=cod "lets" 898 "Gate.lets" 899 900 315 5 0 0 3 474 181 475 .none (.ref 476) (.ref 477) 478 909 315 910
def o_480:Obj:=fO9 "lets" "Gate.lets" qbt9 "fordbook.gates" 821 479
def o_481:Obj:=(Obj.mk (.type "tuple") none (.seq #[(.str "day" 912),(.str "levels" 913),(.str "roads" 914),(.str "size" 915)] 0) #[])
def o_482 (P:Params):Obj:=(Obj.mk (.type "dict") none (.dict #[(dE9 P "__module__" 830 (.str "fordbook.gates" 821)),(dE9 P "__firstlineno__" 834 (.int 280 833)),(dE9 P "__init__" 847 (.ref 438)),(dE9 P "told" 857 (.ref 445)),(dE9 P "need_left" 865 (.ref 452)),(dE9 P "need_ask" 876 (.ref 459)),(dE9 P "soonest" 886 (.ref 466)),(dE9 P "plan" 897 (.ref 473)),(dE9 P "lets" 911 (.ref 480)),(dE9 P "__static_attributes__" 916 (.ref 481)),(dE9 P "__dict__" 918 (.ref 484)),(dE9 P "__weakref__" 920 (.ref 485)),(dE9 P "__doc__" 921 .none)] 4) #[])
def o_483:Obj:=(Obj.mk (.type "type") none (@PySem.Data.cls (@PySem.ClassData.mk (.ofString "Gate") [(.type "object")] [(.ref 483),(.type "object")] 482 (.ofString "Gate") @Bool.true [] [] @Bool.false none @Bool.false)) #[none,none,(@Option.some @PySem.Value (.str "Gate" 823)),(@Option.some @PySem.Value (.str "Gate" 831)),(@Option.some @PySem.Value (.builtin "object.__new__")),(@Option.some @PySem.Value (.bool @Bool.true))])
def o_484:Obj:=(Obj.mk (.type "getset_descriptor") none (.fields #[(.str "__dict__" 917),(.ref 483),(.builtin "function.__dict__"),(.builtin "function.__dict__#set")]) #[])
def o_485:Obj:=(Obj.mk (.type "getset_descriptor") none (.fields #[(.str "__weakref__" 919),(.ref 483),(.builtin "ExceptionGroup.__weakref__"),.none]) #[])
def o_493:Obj:=cod "_law_cell_at" 926 "_law_cell_at" 927 928 325 2 0 0 3 488 181 489 .none (.ref 490) (.ref 491) 492 931 325 932
def o_494:Obj:=fO9 "_law_cell_at" "_law_cell_at" qbx9 "law_fordbook_k67_gates_refuse" 924 493
def o_500:Obj:=cod "_law_day" 934 "_law_day" 935 936 329 1 0 0 3 495 181 496 .none (.ref 497) (.ref 498) 499 938 329 939
def o_501:Obj:=fO9 "_law_day" "_law_day" qdf9 "law_fordbook_k67_gates_refuse" 924 500
def o_507:Obj:=cod "_law_way" 941 "_law_way" 942 943 335 2 0 0 3 502 181 503 .none (.ref 504) (.ref 505) 506 951 335 952
def o_508:Obj:=fO9 "_law_way" "_law_way" qdh9 "law_fordbook_k67_gates_refuse" 924 507
def o_514:Obj:=cod "_law_net" 954 "_law_net" 955 956 347 2 0 0 3 509 181 510 .none (.ref 511) (.ref 512) 513 971 347 972
def o_515:Obj:=fO9 "_law_net" "_law_net" qdl9 "law_fordbook_k67_gates_refuse" 924 514
def o_528:Obj:=cod "_law_kinds" 985 "_law_kinds" 986 987 378 1 0 0 3 523 181 524 .none (.ref 525) (.ref 526) 527 990 378 991
def o_529:Obj:=fO9 "_law_kinds" "_law_kinds" qco9 "law_fordbook_k67_gates_refuse" 924 528
def o_535:Obj:=cod "_law_odd" 993 "_law_odd" 994 995 382 2 0 0 3 530 181 531 .none (.ref 532) (.ref 533) 534 999 382 1000
def o_536:Obj:=fO9 "_law_odd" "_law_odd" qde9 "law_fordbook_k67_gates_refuse" 924 535
def o_542:Obj:=cod "_law_bad_roads" 1002 "_law_bad_roads" 1003 1004 385 4 0 0 3 537 181 538 .none (.ref 539) (.ref 540) 541 1012 385 1013
def o_543:Obj:=fO9 "_law_bad_roads" "_law_bad_roads" qbp9 "law_fordbook_k67_gates_refuse" 924 542
def o_549:Obj:=cod "_law_made" 1015 "_law_made" 1016 1017 395 4 0 0 3 544 181 545 .none (.ref 546) (.ref 547) 548 1026 395 1027
def o_550:Obj:=fO9 "_law_made" "_law_made" qci9 "law_fordbook_k67_gates_refuse" 924 549
def o_556:Obj:=cod "_law_asked" 1029 "_law_asked" 1030 1031 408 5 0 0 3 551 181 552 .none (.ref 553) (.ref 554) 555 1050 408 1051
def o_557:Obj:=fO9 "_law_asked" "_law_asked" qbz9 "law_fordbook_k67_gates_refuse" 924 556
def o_563:Obj:=cod "_law_due" 1053 "_law_due" 1054 1055 433 2 0 0 3 558 181 559 .none (.ref 560) (.ref 561) 562 1058 433 1059
def o_564:Obj:=fO9 "_law_due" "_law_due" qdd9 "law_fordbook_k67_gates_refuse" 924 563
def o_568:Obj:=cod "law" 1061 "law" 1062 1063 441 1 0 0 3 565 181 566 .none .none .none 567 1064 441 1065
def o_569:Obj:=fO9 "law" "law" qhe9 "law_fordbook_k67_gates_refuse" 924 568
def KK:Params->W.Frag:=fun P =>
 (nat_lit 2,o_2)::
 (nat_lit 3,o_3 P)::
 (nat_lit 15,o_15)::
 (nat_lit 22,o_22)::
 (nat_lit 23,o_23 P)::
 (nat_lit 24,o_24)::
 (nat_lit 25,o_25)::
 (nat_lit 28,o_28)::
 (nat_lit 35,o_22)::
 (nat_lit 36,o_36 P)::
 (nat_lit 37,o_37)::
 (nat_lit 40,o_28)::
 (nat_lit 47,o_22)::
 (nat_lit 48,o_48 P)::
 (nat_lit 49,o_49)::
 (nat_lit 52,o_28)::
 (nat_lit 59,o_22)::
 (nat_lit 60,o_60 P)::
 (nat_lit 61,o_61)::
 (nat_lit 64,o_28)::
 (nat_lit 71,o_22)::
 (nat_lit 72,o_72 P)::
 (nat_lit 73,o_73)::
 (nat_lit 76,o_28)::
 (nat_lit 83,o_22)::
 (nat_lit 84,o_84 P)::
 (nat_lit 85,o_85)::
 (nat_lit 88,o_28)::
 (nat_lit 95,o_22)::
 (nat_lit 96,o_96 P)::
 (nat_lit 97,o_97)::
 (nat_lit 100,o_28)::
 (nat_lit 107,o_22)::
 (nat_lit 108,o_108 P)::
 (nat_lit 109,o_109)::
 (nat_lit 112,o_28)::
 (nat_lit 119,o_22)::
 (nat_lit 120,o_120 P)::
 (nat_lit 121,o_121)::
 (nat_lit 124,o_28)::
 (nat_lit 131,o_22)::
 (nat_lit 132,o_132 P)::
 (nat_lit 133,o_133)::
 (nat_lit 141,o_141)::
 (nat_lit 142,o_142)::
 (nat_lit 146,o_146)::
 (nat_lit 147,o_147)::
 (nat_lit 151,o_151)::
 (nat_lit 152,o_152)::
 (nat_lit 158,o_158)::
 (nat_lit 159,o_159)::
 (nat_lit 165,o_165)::
 (nat_lit 166,o_166)::
 (nat_lit 172,o_172)::
 (nat_lit 173,o_173)::
 (nat_lit 177,o_177)::
 (nat_lit 178,o_178)::
 (nat_lit 182,o_182)::
 (nat_lit 183,o_183)::
 (nat_lit 189,o_189)::
 (nat_lit 190,o_190)::
 (nat_lit 196,o_196)::
 (nat_lit 197,o_197)::
 (nat_lit 201,o_201)::
 (nat_lit 202,o_202)::
 (nat_lit 208,o_208)::
 (nat_lit 209,o_209)::
 (nat_lit 215,o_215)::
 (nat_lit 216,o_216)::
 (nat_lit 222,o_222)::
 (nat_lit 223,o_223)::
 (nat_lit 229,o_229)::
 (nat_lit 230,o_230)::
 (nat_lit 236,o_236)::
 (nat_lit 237,o_237)::
 (nat_lit 243,o_243)::
 (nat_lit 244,o_244)::
 (nat_lit 250,o_250)::
 (nat_lit 251,o_251)::
 (nat_lit 257,o_257)::
 (nat_lit 258,o_258)::
 (nat_lit 264,o_264)::
 (nat_lit 265,o_265)::
 (nat_lit 269,o_269)::
 (nat_lit 270,o_270)::
 (nat_lit 276,o_276)::
 (nat_lit 277,o_277)::
 (nat_lit 283,o_283)::
 (nat_lit 284,o_284)::
 (nat_lit 290,o_290)::
 (nat_lit 291,o_291)::
 (nat_lit 297,o_297)::
 (nat_lit 298,o_298)::
 (nat_lit 304,o_304)::
 (nat_lit 305,o_305)::
 (nat_lit 311,o_311)::
 (nat_lit 312,o_312)::
 (nat_lit 318,o_318)::
 (nat_lit 319,o_319)::
 (nat_lit 323,o_323)::
 (nat_lit 324,o_324)::
 (nat_lit 328,o_328)::
 (nat_lit 329,o_329)::
 (nat_lit 333,o_333)::
 (nat_lit 334,o_334)::
 (nat_lit 340,o_340)::
 (nat_lit 341,o_341)::
 (nat_lit 347,o_347)::
 (nat_lit 348,o_348)::
 (nat_lit 354,o_354)::
 (nat_lit 355,o_355)::
 (nat_lit 361,o_361)::
 (nat_lit 362,o_362)::
 (nat_lit 368,o_368)::
 (nat_lit 369,o_369)::
 (nat_lit 375,o_375)::
 (nat_lit 376,o_376)::
 (nat_lit 382,o_382)::
 (nat_lit 383,o_383)::
 (nat_lit 389,o_389)::
 (nat_lit 390,o_390)::
 (nat_lit 394,o_394)::
 (nat_lit 395,o_395)::
 (nat_lit 401,o_401)::
 (nat_lit 402,o_402)::
 (nat_lit 408,o_408)::
 (nat_lit 409,o_409)::
 (nat_lit 415,o_415)::
 (nat_lit 416,o_416)::
 (nat_lit 422,o_422)::
 (nat_lit 423,o_423)::
 (nat_lit 431,o_431)::
 (nat_lit 437,o_437)::
 (nat_lit 438,o_438)::
 (nat_lit 444,o_444)::
 (nat_lit 445,o_445)::
 (nat_lit 451,o_451)::
 (nat_lit 452,o_452)::
 (nat_lit 458,o_458)::
 (nat_lit 459,o_459)::
 (nat_lit 465,o_465)::
 (nat_lit 466,o_466)::
 (nat_lit 472,o_472)::
 (nat_lit 473,o_473)::
 (nat_lit 479,o_479)::
 (nat_lit 480,o_480)::
 (nat_lit 481,o_481)::
 (nat_lit 482,o_482 P)::
 (nat_lit 483,o_483)::
 (nat_lit 484,o_484)::
 (nat_lit 485,o_485)::
 (nat_lit 493,o_493)::
 (nat_lit 494,o_494)::
 (nat_lit 500,o_500)::
 (nat_lit 501,o_501)::
 (nat_lit 507,o_507)::
 (nat_lit 508,o_508)::
 (nat_lit 514,o_514)::
 (nat_lit 515,o_515)::
 (nat_lit 528,o_528)::
 (nat_lit 529,o_529)::
 (nat_lit 535,o_535)::
 (nat_lit 536,o_536)::
 (nat_lit 542,o_542)::
 (nat_lit 543,o_543)::
 (nat_lit 549,o_549)::
 (nat_lit 550,o_550)::
 (nat_lit 556,o_556)::
 (nat_lit 557,o_557)::
 (nat_lit 563,o_563)::
 (nat_lit 564,o_564)::
 (nat_lit 568,o_568)::
 (nat_lit 569,o_569)::
 []
def kAs:List Addr:=[2,3,15,22,23,24,25,28,35,36,37,40,47,48,49,52,59,60,61,64,71,72,73,76,83,84,85,88,95,96,97,100,107,108,109,112,119,120,121,124,131,132,133,141,142,146,147,151,152,158,159,165,166,172,173,177,178,182,183,189,190,196,197,201,202,208,209,215,216,222,223,229,230,236,237,243,244,250,251,257,258,264,265,269,270,276,277,283,284,290,291,297,298,304,305,311,312,318,319,323,324,328,329,333,334,340,341,347,348,354,355,361,362,368,369,375,376,382,383,389,390,394,395,401,402,408,409,415,416,422,423,431,437,438,444,445,451,452,458,459,465,466,472,473,479,480,481,482,483,484,485,493,494,500,501,507,508,514,515,528,529,535,536,542,543,549,550,556,557,563,564,568,569]
def view:Program:={ PySem.Challenge.pw_fordbook_k67_gates_refuse with main:={ PySem.Challenge.pw_fordbook_k67_gates_refuse.main with body:=[top 1,top 2,top 3,top 4,top 5,top 6,top 7,top 8,top 9,top 10,top 12,top 13,top 14,top 15,top 16,top 18,top 19,top 20,top 21,top 22,top 23,top 25,top 26,top 27,top 28,top 30,top 31,top 32,top 33,top 34,top 36,top 37,top 38,top 39,top 40,top 41,top 42,top 43,top 45,top 46,top 47,top 48,top 49,top 50,top 52,top 53,top 54,top 55,top 56,top 57,top 59,top 60,top 61,top 62,top 64,top 66,top 67,top 68,top 69,top 70,top 71,top 72,top 73,top 74,top 75,top 76,top 77] } }
theorem k_ws:PySem.Challenge.rw_fordbook_k67_gates_refuse.wellSaid=true:=by
 kernel_rfl
theorem k_as (P:Params):kAs=(KK P).map (·.1):=by kernel_rfl
namespace Tt
open PySem PySem.W PySem.Calls PyProof.Rows
def qjr9 (tb:String->Option Builtin) (p:Program) (w:World) (n₀:Nat) (ann:Option Value):Nat->SharedT->Thread->Option SharedT
 | 0,_,_=>none
 | n+1,s,t=>match through t with
  | true=>some s
  | false=>match stepOk n₀ ann t with
   | false=>none
   | true=>match stepT (denote tb) p w s t with
    | some (s',t')=>qjr9 tb p w n₀ ann n s' t'
    | none=>none
theorem qmi9 {tb:String->Option Builtin} {p:Program} {w:World} {n₀:Nat} {ann:Option Value}:∀ {n:Nat} {s s':SharedT} {t:Thread},qjr9 tb p w n₀ ann n s t=some s'->topRun tb p w n₀ ann n s.abs t=some s'.abs
 | 0,_,_,_,h=>by cases h
 | n+1,s,s',t,h=>by
  unfold qjr9 at h
  unfold topRun
  cases he:through t with
  | true=>rw [he] at h; cases h; rfl
  | false =>
   rw [he] at h
   cases hk:stepOk n₀ ann t with
   | false=>rw [hk] at h; cases h
   | true =>
    rw [hk] at h
    cases hs:stepT (denote tb) p w s t with
    | none=>rw [hs] at h; cases h
    | some r=>obtain ⟨s₂,t₂⟩:=r; rw [hs] at h; rw [stepT_spec hs]; exact qmi9 h
def grow:List Obj->Nat->BT->BT
 | [],_,t=>t
 | o :: l,n,t=>grow l (n+1) (t.ins n o)
def s0T (P:Params) (os:OsState):SharedT:=⟨grow (boot_heap P).objs.toList 0 .nil,11,{},Array.mk [],boot_drawn,boot_toks,os⟩
theorem s0_abs (P:Params) (os:OsState):(s0T P os).abs=⟨boot_heap P,Array.mk [],boot_drawn,boot_toks,os⟩:=by kernel_rfl
def chk (p:Program) (h₀:Heap) (s:Shared):Bool:=staticsOk (importedModules p.main.body) h₀ s.heap && namesBound p s.heap && gensDone s && laidKept h₀ s.heap
theorem qns9 (P:Params):((boot_heap P).isNs mainGlobals,(boot_heap P).objs.size,(boot_heap P).nsMap mainGlobals "__annotations__")=(true,11,some (.ref 6)):=by kernel_rfl
def qRun (p:Program) (w:World) (n₀:Nat) (ann:Option Value):Nat->SharedT->Thread->Option SharedT
 | 0,_,_=>none
 | n+1,s,t=>match through t with
  | true=>some s
  | false=>match Fast.tw6613529449190102663 n₀ ann t with
   | false=>none
   | true=>match Fast.tw10156331382660048174 (Fast.tw11892475500146522536 Fast.tw14364793385576792824) p w s t with
    | some (s',t')=>qRun p w n₀ ann n s' t'
    | none=>none
theorem qRun_eq {p:Program} {w:World} {n₀:Nat} {ann:Option Value}:∀ (n:Nat) (s:SharedT) (t:Thread),qjr9 treeTable p w n₀ ann n s t=qRun p w n₀ ann n s t
 | 0,_,_=>rfl
 | n+1,s,t=>by
  unfold qjr9 qRun
  rw [<- Fast.te6613529449190102663,<- Fast.te10156331382660048174,<- Fast.te11892475500146522536,<- Fast.te14364793385576792824]
  simp only [qRun_eq n]
def endsT (p:Program) (N:Nat) (w:World) (os:OsState):Option SharedT:=qRun p w 11 (some (.ref 6)) N (s0T w.params os) (topStub p)
theorem left_of {p:Program} {N:Nat} {β:Type} {obs:Shared->β} {good:World->β} (hb:opening p=plainProg p.main.scope.names) (hN:Nat.ble 600 N=true) (hf:∀ s,fenceModules? p s=some s)
  (h1:∀ w os,(endsT p N w os).map (fun s=>chk p (boot_heap w.params) s.abs)=some true)
  (h2:∀ w os,(endsT p N w os).map (fun s=>obs s.abs)=some (good w)):∀ w,(openEnds treeTable p w N).map obs=some (good w):=by
 intro w
 obtain ⟨⟨hp,gs,dr,tk,os⟩,e,e2⟩:=Option.map_eq_some_iff.mp (boot_open (N:=N) hb hN hf w)
 simp only [Prod.mk.injEq] at e2
 obtain ⟨rfl,rfl,rfl,rfl⟩:=e2
 obtain ⟨f1,f2,f3⟩:_/\_/\_:=by simpa only [Prod.mk.injEq] using qns9 w.params
 obtain ⟨s,hs,h2'⟩:=Option.map_eq_some_iff.mp (h2 w os)
 have h1':=h1 w os
 rw [hs] at h1'
 have h1':chk p (boot_heap w.params) s.abs=true:=Option.some.inj h1'
 have r:=qmi9 ((qRun_eq _ _ _).trans hs)
 rw [s0_abs] at r
 unfold openEnds
 rw [e]
 show (topFrom treeTable p w N _).map obs=_
 have t:topFrom treeTable p w N ⟨boot_heap w.params,Array.mk [],boot_drawn,boot_toks,os⟩=some s.abs:=by
  unfold topFrom
  dsimp only
  rw [f1,f2,f3,r]
  show (match chk p (boot_heap w.params) s.abs with | true=>_ | false=>_)=_
  rw [h1']
 rw [t]
 exact congrArg some h2'
end Tt
theorem both {α β γ:Type} {o:Option α} {f:α->β} {g:α->γ} {b:β} {c:γ} (h1:o.map f=some b) (h2:o.map g=some c):o.map (fun s=>(f s,g s))=some (b,c):=by
 cases o with
 | none=>cases h1
 | some s =>
  cases h1
  cases h2
  rfl
open PySem PySem.W PySem.Spec PyProof.Rows in
theorem k_b:opening PySem.Challenge.rw_fordbook_k67_gates_refuse.row.prog=plainProg PySem.Challenge.rw_fordbook_k67_gates_refuse.row.prog.main.scope.names:=by kernel_rfl
open PySem PySem.W PySem.Spec PyProof.Rows in
theorem k_f (s:Shared):fenceModules? PySem.Challenge.rw_fordbook_k67_gates_refuse.row.prog s=some s:=by kernel_rfl
open PySem PySem.W PySem.Spec PyProof.Rows in
theorem k_c (w:World) (os:OsState):(Tt.endsT PySem.Challenge.rw_fordbook_k67_gates_refuse.row.prog 9018 w os).map (fun s=>Tt.chk PySem.Challenge.rw_fordbook_k67_gates_refuse.row.prog (boot_heap w.params) s.abs)=some true:=by kernel_rfl
open PySem PySem.W PySem.Spec PyProof.Rows in
theorem k_l1a (w:World) (os:OsState):(Tt.endsT PySem.Challenge.rw_fordbook_k67_gates_refuse.row.prog 9018 w os).map (fun s=>(Fast.tw4187177175401517315 My.view [] (importedModules PySem.Challenge.rw_fordbook_k67_gates_refuse.row.prog.main.body) (fun s=>W.xlAt My.view [] s && W.recOk (W.RowW.records (W.OpenRow.toRowW PySem.Challenge.rw_fordbook_k67_gates_refuse.row)) s) true s.abs).1)=some (openGood My.view []).1:=by kernel_rfl
open PySem PySem.W PySem.Spec PyProof.Rows in
theorem k_l1b (w:World) (os:OsState):(Tt.endsT PySem.Challenge.rw_fordbook_k67_gates_refuse.row.prog 9018 w os).map (fun s=>(Fast.tw4187177175401517315 My.view [] (importedModules PySem.Challenge.rw_fordbook_k67_gates_refuse.row.prog.main.body) (fun s=>W.xlAt My.view [] s && W.recOk (W.RowW.records (W.OpenRow.toRowW PySem.Challenge.rw_fordbook_k67_gates_refuse.row)) s) true s.abs).2.1)=some (openGood My.view []).2.1:=by kernel_rfl
open PySem PySem.W PySem.Spec PyProof.Rows in
theorem k_l1c (w:World) (os:OsState):(Tt.endsT PySem.Challenge.rw_fordbook_k67_gates_refuse.row.prog 9018 w os).map (fun s=>(Fast.tw4187177175401517315 My.view [] (importedModules PySem.Challenge.rw_fordbook_k67_gates_refuse.row.prog.main.body) (fun s=>W.xlAt My.view [] s && W.recOk (W.RowW.records (W.OpenRow.toRowW PySem.Challenge.rw_fordbook_k67_gates_refuse.row)) s) true s.abs).2.2.1)=some (openGood My.view []).2.2.1:=by kernel_rfl
open PySem PySem.W PySem.Spec PyProof.Rows in
theorem k_l1d (w:World) (os:OsState):(Tt.endsT PySem.Challenge.rw_fordbook_k67_gates_refuse.row.prog 9018 w os).map (fun s=>(Fast.tw4187177175401517315 My.view [] (importedModules PySem.Challenge.rw_fordbook_k67_gates_refuse.row.prog.main.body) (fun s=>W.xlAt My.view [] s && W.recOk (W.RowW.records (W.OpenRow.toRowW PySem.Challenge.rw_fordbook_k67_gates_refuse.row)) s) true s.abs).2.2.2)=some (openGood My.view []).2.2.2:=by kernel_rfl
open PySem PySem.W PySem.Spec PyProof.Rows in
theorem k_l1 (w:World) (os:OsState):(Tt.endsT PySem.Challenge.rw_fordbook_k67_gates_refuse.row.prog 9018 w os).map (fun s=>openSeen My.view [] (importedModules PySem.Challenge.rw_fordbook_k67_gates_refuse.row.prog.main.body) (fun s=>W.xlAt My.view [] s && W.recOk (W.RowW.records (W.OpenRow.toRowW PySem.Challenge.rw_fordbook_k67_gates_refuse.row)) s) true s.abs)=some (openGood My.view []):=by
 rw [Fast.te4187177175401517315]
 exact both (k_l1a w os) (both (k_l1b w os) (both (k_l1c w os) (k_l1d w os)))
open PySem PySem.W PySem.Spec PyProof.Rows in
theorem k_l2 (w:World) (os:OsState):(Tt.endsT PySem.Challenge.rw_fordbook_k67_gates_refuse.row.prog 9018 w os).map (fun s=>W.Hook.obs (W.kmHook My.KK My.kAs My.k_as [378,293,211,350]) s.abs)=some (W.Hook.val (W.kmHook My.KK My.kAs My.k_as [378,293,211,350]) w):=by kernel_rfl
theorem k_left:W.LeftO PySem.Challenge.rw_fordbook_k67_gates_refuse.row.prog My.view [] (fun s=>W.xlAt My.view [] s && W.recOk (W.RowW.records (W.OpenRow.toRowW PySem.Challenge.rw_fordbook_k67_gates_refuse.row)) s) (W.Hook.obs (W.kmHook My.KK My.kAs My.k_as [378,293,211,350])) (W.Hook.val (W.kmHook My.KK My.kAs My.k_as [378,293,211,350])) 9018:=Tt.left_of k_b rfl k_f k_c fun w os=>both (k_l1 w os) (k_l2 w os)
end My
namespace L2
open PySem PySem.Spec PyProof.Rows
abbrev Key:=Sum Int Str
def keyIs:Key->Value->Bool
 | .inl k,v=>Value.isInt k v
 | .inr x,v=>Value.isStrOf x v
def keyH (w:World):Key->Int
 | .inl k=>hashInt k
 | .inr x=>hashStr w x
theorem qcd9:∀ {k:Key} {v:Value},keyIs k v=true->(∃ i t,k=Sum.inl i/\v=Value.int i t)\/(∃ x t,k=Sum.inr x/\v=Value.str x t)
 | .inl i,v,h=>by
  obtain ⟨t,e⟩:=Value.isInt_shape (k:=i) (v:=v) h
  exact .inl ⟨i,t,rfl,e⟩
 | .inr x,v,h=>by
  obtain ⟨t,e⟩:=Value.isStrOf_shape (x:=x) (v:=v) h
  exact .inr ⟨x,t,rfl,e⟩
theorem key_ll (a b:Int):decide ((Sum.inl a:Key)=Sum.inl b)=(a == b):=by
 by_cases e:a=b
 ·subst e; simp
 ·have h:¬ (Sum.inl a:Key)=Sum.inl b:=fun q=>e (Sum.inl.inj q)
  rw [decide_eq_false h]
  exact (beq_eq_false_iff_ne.mpr e).symm
theorem key_rr (a b:Str):decide ((Sum.inr a:Key)=Sum.inr b)=decide (a=b):=by
 by_cases e:a=b
 ·subst e; simp
 ·have h:¬ (Sum.inr a:Key)=Sum.inr b:=fun q=>e (Sum.inr.inj q)
  rw [decide_eq_false h,decide_eq_false e]
theorem key_lr (a:Int) (b:Str):decide ((Sum.inl a:Key)=Sum.inr b)=false:=decide_eq_false (fun q=>nomatch q)
theorem key_rl (a:Str) (b:Int):decide ((Sum.inr a:Key)=Sum.inl b)=false:=decide_eq_false (fun q=>nomatch q)
def mixKind (prog:Program) (w:World):PySem.KeyKind prog w Key where
 is:=keyIs
 hash:=keyH w
 inj:=fun v a b ha hb=>by
  rcases qcd9 ha with ⟨i,t,rfl,rfl⟩ | ⟨x,t,rfl,rfl⟩
  ·rcases qcd9 hb with ⟨j,u,rfl,e⟩ | ⟨y,u,rfl,e⟩
   ·injection e with e1 _; rw [e1]
   ·exact nomatch e
  ·rcases qcd9 hb with ⟨j,u,rfl,e⟩ | ⟨y,u,rfl,e⟩
   ·exact nomatch e
   ·injection e with e1 _; rw [e1]
 byValue:=fun k v h=>by
  rcases qcd9 h with ⟨i,t,rfl,rfl⟩ | ⟨x,t,rfl,rfl⟩ <;> rfl
 pyHash:=fun hv h=>by
  rcases qcd9 hv with ⟨i,t,rfl,rfl⟩ | ⟨x,t,rfl,rfl⟩
  ·exact wpAny_pyHash_int h
  ·exact wpAny_pyHash_str h
 eqBool:=fun hu hv h=>by
  rcases qcd9 hu with ⟨i,t,rfl,rfl⟩ | ⟨x,t,rfl,rfl⟩
  ·rcases qcd9 hv with ⟨j,u,rfl,rfl⟩ | ⟨y,u,rfl,rfl⟩
   ·rw [key_ll] at h; exact wpAny_eqBool_int h
   ·rw [key_lr] at h; exact SeqAt.EqAt.int_str i t y u _ _ _ _ h
  ·rcases qcd9 hv with ⟨j,u,rfl,rfl⟩ | ⟨y,u,rfl,rfl⟩
   ·rw [key_rl] at h; exact SeqAt.EqAt.str_int x t j u _ _ _ _ h
   ·rw [key_rr] at h; exact wpAny_eqBool_str h
 «strs»:=fun k x t v h=>by
  rcases qcd9 h with ⟨i,u,rfl,e⟩ | ⟨y,u,rfl,e⟩
  ·exact nomatch e
  ·injection e with e1 _
   subst e1
   cases v <;> rfl
inductive V where
 | non | bl (b:Bool) | int (i:Int) | str (x:Str) | byt (b:Array UInt8) | flt (b:UInt64) | ref (a:Addr) | ty (n:String)
 deriving DecidableEq
def RelV:V->Value->Prop
 | .non,u=>u=Value.none
 | .bl b,u=>u=Value.bool b
 | .int i,u=>∃ t,u=Value.int i t
 | .str x,u=>∃ t,u=Value.str x t
 | .byt b,u=>∃ t,u=Value.bytes b t
 | .flt b,u=>∃ t,u=Value.float b t
 | .ref a,u=>u=Value.ref a
 | .ty n,u=>u=Value.type n
abbrev Vals:List V->List Value->Prop:=Paired RelV
theorem Vals.length {xs:List V} {us:List Value} (r:Vals xs us):xs.length=us.length:=Paired.length r
theorem Vals.get:∀ {xs:List V} {us:List Value} {i:Nat} {x:V},Vals xs us->xs[i]?=some x->∃ u,us[i]?=some u/\RelV x u
 | _,_,_,_,.nil,e=>by simp at e
 | _,_,0,_,.cons r _,e=>by simp at e; subst e; exact ⟨_,rfl,r⟩
 | _,_,i+1,x,.cons _ t,e=>by
  obtain ⟨u,h1,h2⟩:=Vals.get (i:=i) (x:=x) t (by simpa using e)
  exact ⟨u,by simpa using h1,h2⟩
theorem Vals.set {x:V} {u:Value} (r:RelV x u):∀ {xs:List V} {us:List Value} (i:Nat),Vals xs us->Vals (xs.set i x) (us.set i u)
 | _,_,_,.nil=>.nil
 | _,_,0,.cons _ t=>.cons r t
 | _,_,i+1,.cons q t=>.cons q (Vals.set r i t)
theorem Vals.append:∀ {xs ys:List V} {us ws:List Value},Vals xs us->Vals ys ws->Vals (xs ++ ys) (us ++ ws)
 | _,_,_,_,.nil,s=>s
 | _,_,_,_,.cons r t,s=>.cons r (Vals.append t s)
theorem Vals.take:∀ {xs:List V} {us:List Value} (n:Nat),Vals xs us->Vals (xs.take n) (us.take n)
 | _,_,0,_=>.nil
 | _,_,_+1,.nil=>.nil
 | _,_,n+1,.cons r t=>.cons r (Vals.take n t)
theorem Vals.drop:∀ {xs:List V} {us:List Value} (n:Nat),Vals xs us->Vals (xs.drop n) (us.drop n)
 | _,_,0,r=>r
 | _,_,_+1,.nil=>.nil
 | _,_,n+1,.cons _ t=>Vals.drop n t
def RelO:Option V->Option Value->Prop
 | some v,some u=>RelV v u
 | none,none=>True
 | _,_=>False
def KV {κ:Type}:List (κ × V)->List (κ × Value)->Prop:=Paired fun (p:κ × V) (q:κ × Value)=>p.1=q.1/\RelV p.2 q.2
def kV:Key->V
 | .inl i=>.int i
 | .inr x=>.str x
inductive HO where
  | lst (xs:List V)
  | tup (xs:List V)
  | dK (kvs:List (Key × V)) | dT (kvs:List (List Key × V))
  | set (S:Int->Bool) (n:Nat)
  | ins (C dx:Addr) (fs:List (Str × V))
  | own (x:Addr)
  | xd (fs:List (Str × V))
  | met (f x:Addr)
  | rng (lo hi:Int)
  | frz (o:Obj) (u:HO)
  | tbl (ps:Array Value)
  | ext (φ:Heap->Prop)
abbrev Hp:=Addr->Option HO
def upd (H:Hp) (a:Addr) (o:HO):Hp:=fun b=>if b=a then some o else H b
theorem qaf9 {H:Hp} {a:Addr} {o:HO}:upd H a o a=some o:=by unfold upd; rw [if_pos rfl]
theorem qaq9 {H:Hp} {a b:Addr} {o:HO} (h:b ≠ a):upd H a o b=H b:=by unfold upd; rw [if_neg h]
theorem qbb9 {H:Hp} {a b:Addr} {o:HO} (h:H a=some o) (h':H b=none):a ≠ b:=by
 intro e; subst e; rw [h] at h'; cases h'
section
variable (P:Program) (w:World)
def ObjOk (H:Hp) (h:Heap) (a:Addr):HO->Prop
 | .lst xs=>xs.length<=sizeLine/\∃ (its:List Value) (n:Nat),Vals xs its/\h.get? a=some { cls:=.type "list",data:=.seq its.toArray n }
 | .tup xs=>xs.length<=sizeLine/\∃ its:List Value,Vals xs its/\IsTup h a its.toArray
 | .dK kvs=>kvs.length<=sizeLine/\(a == sysModules)=false/\∃ vs,KV kvs vs/\h.DictOf (mixKind P w) a vs
 | .dT kvs=>kvs.length<=sizeLine/\(a == sysModules)=false/\∃ xs:List (List Key × Addr × Value),
   Paired (fun (p:List Key × V) (q:List Key × Addr × Value)=>p.1=q.1/\H q.2.1=some (.tup (p.1.map kV))/\RelV p.2 q.2.2) kvs xs /\
   ∃ o es ep,h.get? a=some o/\o.ExactDict/\o.data=.dict es ep/\es.toList=xs.map (entryOfKey (tupleKind (mixKind P w)))/\(xs.map (·.1)).Nodup
 | .set S n=>h.SetOf (intKind P w) a S n
 | .ins C dx fs=>H dx=some (.own a)/\fs.length<=1000/\dx ≠ a/\h.get? a=some (W.instObj C dx) /\
   ∃ mA,h.Ns1 dx mA/\(∀ f,RelO (fs.lookup f) (mA f))/\PySem.Within mA (fs.map (·.1))
 | .own _=>∃ o,h.get? a=some o
 | .xd fs=>∃ mA,h.Ns1 a mA/\∀ f,RelO (fs.lookup f) (mA f)
 | .rng lo hi=>∃ t u v,h.get? a=some { cls:=.type "range",data:=.fields #[.int lo t,.int hi u,.int 1 v] }
 | .frz o u=>h.get? a=some o/\ObjOk H h a u
 | .tbl ps=>h.get? a=some { cls:=.none,data:=.fields ps }
 | .met f x=>h.get? a=some (W.methodObj (.ref f) (.ref x))
 | .ext φ=>φ h/\(∃ o,h.get? a=some o)/\∀ h1 h2:Heap,φ h1->(∀ o,h1.get? a=some o->h2.get? a=some o)->φ h2
def HOk (H:Hp) (h:Heap):Prop:=∀ a o,H a=some o->ObjOk P w H h a o
end
section
variable {P:Program} {w:World} {H H':Hp} {h h':Heap} {a:Addr} {o:HO}
theorem ObjOk.lt (x:ObjOk P w H h a o):a < h.objs.size:=by
 cases o with
 | lst xs=>obtain ⟨_,_,_,_,e⟩:=x; exact Heap.lt_size e
 | tup xs=>obtain ⟨_,_,_,p⟩:=x; exact p.lt
 | dK kvs=>obtain ⟨_,_,_,_,o,_,_,e,_⟩:=x; exact Heap.lt_size e
 | dT kvs=>obtain ⟨_,_,_,_,o,_,_,e,_⟩:=x; exact Heap.lt_size e
 | set S n=>obtain ⟨o,_,_,_,e,_⟩:=x; exact Heap.lt_size e
 | ins C dx fs=>obtain ⟨_,_,_,e,_⟩:=x; exact Heap.lt_size e
 | own y=>obtain ⟨_,e⟩:=x; exact Heap.lt_size e
 | xd fs=>obtain ⟨_,⟨_,_,_,e,_⟩,_⟩:=x; exact Heap.lt_size e
 | rng lo hi=>obtain ⟨_,_,_,e⟩:=x; exact Heap.lt_size e
 | frz ob u=>obtain ⟨e,_⟩:=x; exact Heap.lt_size e
 | tbl ps=>exact Heap.lt_size (show h.get? a=some _ from x)
 | met f y=>exact Heap.lt_size (show h.get? a=some _ from x)
 | ext φ=>obtain ⟨_,⟨_,e⟩,_⟩:=x; exact Heap.lt_size e
theorem Paired.mapP {α β:Type} {F G:α->β->Prop}:∀ {l₁:List α} {l₂:List β},Paired F l₁ l₂->(∀ a b,F a b->G a b)->Paired G l₁ l₂
 | _,_,.nil,_=>.nil
 | _,_,.cons r t,f=>.cons (f _ _ r) (Paired.mapP t f)
theorem ObjOk.stay (x:ObjOk P w H h a o) (k:∀ b u,(b=a\/H b=some (.own a))->h.get? b=some u->h'.get? b=some u)
  (ho:∀ b,H b=some (.own a)->H' b=some (.own a)) (ht:∀ b xs,H b=some (.tup xs)->H' b=some (.tup xs)):ObjOk P w H' h' a o:=by
 induction o with
 | lst xs=>obtain ⟨z,its,n,r,e⟩:=x; exact ⟨z,its,n,r,k _ _ (.inl rfl) e⟩
 | tup xs=>obtain ⟨z,its,r,ob,e,c⟩:=x; exact ⟨z,its,r,ob,k _ _ (.inl rfl) e,c⟩
 | dK kvs=>obtain ⟨z,y,vs,r,ob,es,ep,e,c⟩:=x; exact ⟨z,y,vs,r,ob,es,ep,k _ _ (.inl rfl) e,c⟩
 | dT kvs =>
  obtain ⟨z,y,xs,r,ob,es,ep,e,c⟩:=x
  exact ⟨z,y,xs,Paired.mapP r fun p q z=>⟨z.1,ht _ _ z.2.1,z.2.2⟩,ob,es,ep,k _ _ (.inl rfl) e,c⟩
 | set S n=>obtain ⟨ob,es,ep,t,e,c⟩:=x; exact ⟨ob,es,ep,t,k _ _ (.inl rfl) e,c⟩
 | ins C dx fs =>
  obtain ⟨d,z,ne,e,mA,⟨od,es,ep,e2,c⟩,r⟩:=x
  exact ⟨ho _ d,z,ne,k _ _ (.inl rfl) e,mA,⟨od,es,ep,k _ _ (.inr d) e2,c⟩,r⟩
 | own y=>obtain ⟨ob,e⟩:=x; exact ⟨ob,k _ _ (.inl rfl) e⟩
 | xd fs=>obtain ⟨mA,⟨od,es,ep,e,c⟩,r⟩:=x; exact ⟨mA,⟨od,es,ep,k _ _ (.inl rfl) e,c⟩,r⟩
 | rng lo hi=>obtain ⟨t,u,v,e⟩:=x; exact ⟨t,u,v,k _ _ (.inl rfl) e⟩
 | frz ob u ih=>obtain ⟨e,q⟩:=x; exact ⟨k _ _ (.inl rfl) e,ih q⟩
 | tbl ps =>
  have e:h.get? a=some { cls:=.none,data:=.fields ps }:=x
  show h'.get? a=some { cls:=.none,data:=.fields ps }
  exact k a _ (.inl rfl) e
 | met f y =>
  have e:h.get? a=some (W.methodObj (.ref f) (.ref y)):=x
  show h'.get? a=some (W.methodObj (.ref f) (.ref y))
  exact k a _ (.inl rfl) e
 | ext φ=>obtain ⟨p,⟨o,e⟩,st⟩:=x; exact ⟨st _ _ p fun o q=>k _ _ (.inl rfl) q,⟨o,k _ _ (.inl rfl) e⟩,st⟩
theorem HOk.lt (x:HOk P w H h) (e:H a=some o):a < h.objs.size:=(x a o e).lt
theorem HOk.fresh (x:HOk P w H h) (e:h.objs.size<=a):H a=none:=by
 cases q:H a with
 | none=>rfl
 | some u=>exact absurd (Nat.lt_of_lt_of_le (x.lt q) e) (Nat.lt_irrefl _)
theorem HOk.kept (x:HOk P w H h) (k:∀ b u,h.get? b=some u->h'.get? b=some u):HOk P w H h':=fun a o e =>
 (x a o e).stay (fun b u _ q=>k b u q) (fun _ q=>q) fun _ _ q=>q
theorem HOk.laid (x:HOk P w H h) (k:∀ b u,h.get? b=some u->h'.get? b=some u) (hp:h.objs.size<=a) (new:ObjOk P w (upd H a o) h' a o):HOk P w (upd H a o) h':=fun b u e=>by
 have hn:=x.fresh hp
 by_cases hb:b=a
 ·subst hb; rw [qaf9] at e; cases e; exact new
 ·rw [qaq9 hb] at e
  exact (x b u e).stay (fun c v _ q=>k c v q) (fun c q=>by rw [qaq9 (qbb9 q hn)]; exact q) fun c xs q=>by rw [qaq9 (qbb9 q hn)]; exact q
end
def Rd (H:Hp) (a:Addr) (u:HO):Prop:=H a=some u\/∃ o,H a=some (.frz o u)
theorem Rd.ok {P:Program} {w:World} {H:Hp} {h:Heap} {a:Addr} {u:HO} (r:Rd H a u) (x:HOk P w H h):ObjOk P w H h a u:=by
 rcases r with r | ⟨o,r⟩
 ·exact x a u r
 ·obtain ⟨_,q⟩:=x a _ r
  exact q
def Mut:Option HO->Prop
 | some (.lst _)=>True
 | some (.dK _)=>True
 | some (.dT _)=>True
 | some (.set _ _)=>True
 | some (.ins _ _ _)=>True
 | some (.ext _)=>True
 | _=>False
section
variable {P:Program} {w:World} {H:Hp} {h h':Heap} {x e:Addr} {o':HO}
theorem HOk.write (ok:HOk P w H h) (mu:Mut (H x)) (he:e=x\/H e=some (.own x)) (k:∀ b u,b ≠ e->h.get? b=some u->h'.get? b=some u) (heo:∃ u,h'.get? e=some u)
  (new:ObjOk P w (upd H x o') h' x o'):HOk P w (upd H x o') h':=fun b u q=>by
 have nown:∀ c y,H c=some (.own y)->c ≠ x:=fun c y r z=>by subst z; rw [r] at mu; exact mu
 have ntup:∀ c xs,H c=some (.tup xs)->c ≠ x:=fun c xs r z=>by subst z; rw [r] at mu; exact mu
 by_cases hb:b=x
 ·subst hb; rw [qaf9] at q; cases q; exact new
 ·rw [qaq9 hb] at q
  by_cases hbe:b=e
  ·have q':H b=some (.own x):=by
    rcases he with z | z
    ·exact absurd (hbe.trans z) hb
    ·rw [hbe]; exact z
   rw [q] at q'; cases q'
   obtain ⟨v,hv⟩:=heo
   exact ⟨v,by rw [hbe]; exact hv⟩
  ·refine (ok b u q).stay (fun c v hc r=>k c v ?_ r) (fun c r=>by rw [qaq9 (nown c b r)]; exact r) fun c xs r=>by rw [qaq9 (ntup c xs r)]; exact r
   rcases hc with rfl | hc
   ·exact hbe
   ·rintro rfl
    rcases he with z | z
    ·exact nown c b hc z
    ·rw [hc] at z; cases z; exact hb rfl
end
structure Un (fs ex:List Addr) (H H':Hp) (h h':Heap):Prop where
 keep:∀ b o,h.get? b=some o->H b=none->b ∉ fs->b ∉ ex->h'.get? b=some o
 slot:∀ b o,h.get? b=some o->H b=none->b∈fs->b ∉ ex->∃ sl,h'.get? b=some { o with slots:=sl }
 free:∀ b o,h.get? b=some o->H b=none->b ∉ ex->H' b=none
 there:∀ b o,h.get? b=some o->b ∉ ex->∃ o',h'.get? b=some o'
 tups:∀ b xs,H b=some (.tup xs)->H' b=some (.tup xs)
 frzs:∀ b o u,H b=some (.frz o u)->H' b=some (.frz o u)
 tbls:∀ b ps,H b=some (.tbl ps)->∃ more,H' b=some (.tbl (ps ++ more))
section
variable {fs fs' ex ex':List Addr} {H H1 H2:Hp} {h h1 h2 h':Heap} {a x e:Addr} {o:HO}
theorem Un.any (u:Un fs ex H H1 h h1) {b:Addr} {ob:Obj} (q:h.get? b=some ob) (n:H b=none) (hx:b ∉ ex):∃ sl,h1.get? b=some { ob with slots:=sl }:=by
 by_cases hb:b∈fs
 ·exact u.slot b ob q n hb hx
 ·exact ⟨ob.slots,u.keep b ob q n hb hx⟩
theorem Un.kept (k:∀ b u,h.get? b=some u->h'.get? b=some u):Un fs ex H H h h' :=
 ⟨fun b ob q _ _ _=>k b ob q,fun b ob q _ _ _=>⟨ob.slots,k b ob q⟩,fun _ _ _ n _=>n,fun b ob q _=>⟨ob,k b ob q⟩,fun _ _ q=>q,fun _ _ _ q=>q,fun _ ps q=>⟨#[],by rw [q]; simp⟩⟩
theorem Un.refl:Un fs ex H H h h:=Un.kept fun _ _ q=>q
theorem Un.laid (k:∀ b u,h.get? b=some u->h'.get? b=some u) (hp:h.objs.size<=a) (hn:H a=none):Un fs ex H (upd H a o) h h' where
 keep:=fun b u q _ _ _=>k b u q
 slot:=fun b u q _ _ _=>⟨u.slots,k b u q⟩
 free:=fun b u q n _=>by rw [qaq9 (Nat.ne_of_lt (Nat.lt_of_lt_of_le (Heap.lt_size q) hp))]; exact n
 there:=fun b u q _=>⟨u,k b u q⟩
 tups:=fun b xs q=>by rw [qaq9 (qbb9 q hn)]; exact q
 frzs:=fun b u xs q=>by rw [qaq9 (qbb9 q hn)]; exact q
 tbls:=fun b ps q=>⟨#[],by rw [qaq9 (qbb9 q hn),q]; simp⟩
theorem Un.write (mu:Mut (H x)) (he:e=x\/H e=some (.own x)) (k:∀ b u,b ≠ e->h.get? b=some u->h'.get? b=some u) (heo:∃ u,h'.get? e=some u):Un fs ex H (upd H x o) h h':=by
 have hx:∀ b,H b=none->b ≠ x:=fun b n z=>by subst z; rw [n] at mu; exact mu
 have hb:∀ b,H b=none->b ≠ e:=fun b n z=>by
  subst z
  rcases he with r | r
  ·exact hx b n r
  ·rw [n] at r; cases r
 have hm:∀ b u,H b=some u->¬ Mut (some u)->b ≠ x:=fun b u q nm z=>by subst z; rw [q] at mu; exact nm mu
 refine ⟨fun b u q n _ _=>k b u (hb b n) q,fun b u q n _ _=>⟨u.slots,k b u (hb b n) q⟩,fun b u q n _=>by rw [qaq9 (hx b n)]; exact n,fun b u q _=>?_,
  fun b xs q=>by rw [qaq9 (hm b _ q fun z=>z)]; exact q,fun b u xs q=>by rw [qaq9 (hm b _ q fun z=>z)]; exact q,fun b ps q=>⟨#[],by rw [qaq9 (hm b _ q fun z=>z),q]; simp⟩⟩
 by_cases hbe:b=e
 ·subst hbe; exact heo
 ·exact ⟨u,k b u hbe q⟩
end
def trk (h:Heap) (H:Hp):List Addr:=(List.range h.objs.size).filter fun a=>(H a).isSome
def hidT (h:Heap) (H:Hp):Heap:=W.hideAll h (trk h H)
theorem hidT_size (h:Heap) (H:Hp):(hidT h H).objs.size=h.objs.size:=W.hideAll_size _ _
theorem hidT_get {h:Heap} {H:Hp} {b:Addr} {o:Obj} (e:h.get? b=some o) (n:H b=none):(hidT h H).get? b=some o :=
 W.hideAll_get _ e fun hm=>by
  have q:(H b).isSome=true:=(List.mem_filter.mp hm).2
  rw [n] at q; simp at q
theorem of_hidT {h:Heap} {H:Hp} {b:Addr} {o:Obj} (e:(hidT h H).get? b=some o):h.get? b=some o/\H b=none:=by
 have e':h.get? b=some o:=W.of_hideAll (trk h H) e
 refine ⟨e',?_⟩
 cases q:H b with
 | none=>rfl
 | some x =>
  have hm:b∈trk h H:=List.mem_filter.mpr ⟨List.mem_range.mpr (Heap.lt_size e'),by simp [q]⟩
  have z:(hidT h H).get? b=none:=W.hideAll_none (trk h H) hm
  rw [z] at e; cases e
def allNews (g h:Heap) (L:Addr):List (Addr × Obj):=(List.range h.objs.size).filterMap fun a=>if a=L\/(g.get? a).isSome=true then none else (h.get? a).map fun o=>(a,o)
def rest (g h:Heap) (L d:Addr):List (Addr × Obj):=(allNews g h L).filter fun p=>decide (p.1 ≠ d)
structure Mod (K:W.Frag) (mg:Str->Option Value) (base:Heap):Prop where
 kin:K.In base
 glob:base.Ns mainGlobals mg
 blt:∃ mb,base.Ns builtinsNs mb/\∀ x:Str,x ≠ "__name__" -> mb x=bootBuiltins x
 nolimit:base.NoLimit
structure Cx where
 prog:Program
 w:World
 K:W.Frag
 mg:Str->Option Value
 base:Heap
 A:Around
 N:List Str
 s₀:Shared
 H₀:Hp
 env:Env
 outer:List Env
 stack:List Env
 ex:List Addr
 fn:Str->Bool
 calm:Bool
 pn:List (Addr × Obj)
 xe:Value->Shared->Prop
def frs (l:List Env):List Addr:=l.filterMap (·.frame)
abbrev Cx.fs (X:Cx):List Addr:=frs X.outer
def Vis (sc:Scope) (x:Str):Prop:=sc.names.lookup x=some .local\/sc.names.lookup x=some .cell\/sc.names.lookup x=some .free
def Loc (sc:Scope) (x:Str):Prop:=sc.names.lookup x=some .local\/sc.names.lookup x=some .cell
def Look (env:Env) (h:Heap) (m:Str->Option Value) (x:Str) (u:Value):Prop :=
 (env.kindOf x=some .local/\m x=some u)\/((env.kindOf x=some .cell\/env.kindOf x=some .free)/\∃ c,env.cells.lookup x=some c/\h.IsCell c (some u))
structure Cx.Ok (X:Cx):Prop where
 mod:Mod X.K X.mg X.base
 kind:X.env.scope.kind=.function
 glob:X.env.globals=mainGlobals
 blt:X.env.builtins=builtinsNs
 above:X.s₀.heap.objs.size<=X.env.locals
 inj:∀ x y c,X.env.cells.lookup x=some c->X.env.cells.lookup y=some c->x=y
 has:∀ x,(X.env.kindOf x=some .cell\/X.env.kindOf x=some .free)->∃ c,X.env.cells.lookup x=some c
 cab:∀ x c,X.fn x=true->X.env.cells.lookup x=some c->X.s₀.heap.objs.size<=c
 hd:X.calm=true->X.A.handled=none
 frames:X.A.frames=some X.stack
 stk:X.stack=X.outer\/(X.stack=X.env :: X.outer/\X.env.frame=some X.env.locals)
 exf:∀ b∈X.ex,b ≠ X.env.locals/\∀ x c,X.env.cells.lookup x=some c->c ≠ b
 bs:∀ b o,X.base.get? b=some o->X.s₀.heap.get? b=some o/\X.H₀ b=none
 bsz:X.base.objs.size<=X.s₀.heap.objs.size
 noex:∀ b o,X.base.get? b=some o->b ∉ X.ex
 exfs:∀ b∈X.ex,b ∉ X.fs
 funs:X.s₀.heap.FunFrames X.base X.outer
 frf:∀ b∈X.fs,X.H₀ b=none
structure Inv (X:Cx) (pins:List (Addr × Obj)) (σ:List (Option V)) (H:Hp) (s:Shared):Prop where
 ok:X.Ok
 os:s.os=X.s₀.os
 bare:AllBare s.gens
 base:Un X.fs X.ex X.H₀ H X.s₀.heap s.heap
 loc:∃ m,s.heap.Ns X.env.locals m/\∀ (i:Nat) (x:Str) (v:V),X.N[i]?=some x->σ[i]?=some (some v)->Vis X.env.scope x->∃ u,RelV v u/\Look X.env s.heap m x u
 cell:∀ x c,X.env.cells.lookup x=some c->∃ v,s.heap.IsCell c v
 free:H X.env.locals=none
 freeC:∀ x c,X.env.cells.lookup x=some c->H c=none
 pin:∀ p∈X.pn ++ pins,s.heap.get? p.1=some p.2/\H p.1=none/\p.1 ≠ X.env.locals/\p.1 ∉ X.fs/\∀ v,p.2.data ≠ .cell v
 hok:HOk X.prog X.w H s.heap
 len:σ.length=X.N.length
section
variable {X:Cx} {pins:List (Addr × Obj)} {σ:List (Option V)} {H H':Hp} {s:Shared} {h':Heap}
theorem Cx.Ok.nofr (ok:X.Ok) {b:Addr} {o:Obj} (e:X.base.get? b=some o):b ∉ X.fs:=fun hb=>by
 have:=(ok.funs.mem hb).1
 rw [e] at this; cases this
theorem Inv.bs (I:Inv X pins σ H s):∀ b o,X.base.get? b=some o->s.heap.get? b=some o/\H b=none:=fun b o e =>
 ⟨I.base.keep b o (I.ok.bs b o e).1 (I.ok.bs b o e).2 (I.ok.nofr e) (I.ok.noex b o e),I.base.free b o (I.ok.bs b o e).1 (I.ok.bs b o e).2 (I.ok.noex b o e)⟩
theorem Inv.bk (I:Inv X pins σ H s):∀ b o,X.base.get? b=some o->s.heap.get? b=some o:=fun b o e=>(I.bs b o e).1
theorem Inv.mod (I:Inv X pins σ H s):Mod X.K X.mg X.base:=I.ok.mod
theorem Inv.kIn (I:Inv X pins σ H s):X.K.In s.heap:=I.ok.mod.kin.keeps I.bk
theorem Inv.lt (I:Inv X pins σ H s):X.env.locals < s.heap.objs.size:=let ⟨_,hn,_⟩:=I.loc; hn.lt
theorem Inv.sz (I:Inv X pins σ H s):X.s₀.heap.objs.size<=s.heap.objs.size:=Nat.le_trans I.ok.above (Nat.le_of_lt I.lt)
theorem Inv.nofs (I:Inv X pins σ H s) {a:Addr} (h:s.heap.objs.size<=a):a ∉ X.fs:=fun hb=>by
 obtain ⟨_,o,ho,_⟩:=I.ok.funs.mem hb
 exact absurd (Nat.lt_of_lt_of_le (Heap.lt_size ho) (Nat.le_trans I.sz h)) (Nat.lt_irrefl _)
theorem Inv.cne (I:Inv X pins σ H s):∀ x c,X.env.cells.lookup x=some c->c ≠ X.env.locals:=fun x c e z=>by
 obtain ⟨v,o,ho,hd⟩:=I.cell x c e
 obtain ⟨m,⟨o',es,ep,ho',hd',_⟩,_⟩:=I.loc
 rw [z,ho'] at ho; cases ho; rw [hd'] at hd; cases hd
theorem Inv.funs (I:Inv X pins σ H s):s.heap.FunFrames X.base X.outer:=by
 have all:∀ (l:List Env),(∀ b∈frs l,b∈X.fs)->X.s₀.heap.FunFrames X.base l->s.heap.FunFrames X.base l:=by
  intro l
  induction l with
  | nil=>intro _ _; trivial
  | cons env r ih =>
   intro hs hl
   obtain ⟨hk,⟨L,o,hf,hn,ho,hd⟩,hr⟩:=hl
   have hL:L∈X.fs:=hs L (by unfold frs; rw [List.filterMap_cons,hf]; exact List.mem_cons_self)
   obtain ⟨sl,e⟩:=I.base.slot L o ho (I.ok.frf L hL) hL fun z=>I.ok.exfs L z hL
   exact ⟨hk,⟨L,_,hf,hn,e,hd⟩,ih (fun b hb=>hs b (by unfold frs; rw [List.filterMap_cons,hf]; exact List.mem_cons_of_mem _ hb)) hr⟩
 exact all X.outer (fun _ hb=>hb) I.ok.funs
theorem Inv.stack (I:Inv X pins σ H s):s.heap.FunFrames X.base X.stack:=by
 rcases I.ok.stk with e | ⟨e,hf⟩
 ·rw [e]; exact I.funs
 ·rw [e]
  obtain ⟨m,hn,_⟩:=I.loc
  refine .cons (by rw [I.ok.kind]; decide) hf hn ?_ I.funs
  exact Heap.get?_none_of_le (Nat.le_trans I.ok.bsz I.ok.above)
theorem Inv.stkSub (I:Inv X pins σ H s):∀ b∈frs X.stack,b∈X.env.locals :: X.fs:=fun b hb=>by
 rcases I.ok.stk with e | ⟨e,hf⟩
 ·rw [e] at hb; exact List.mem_cons_of_mem _ hb
 ·rw [e] at hb
  unfold frs at hb
  rw [List.filterMap_cons,hf] at hb
  exact hb
theorem Inv.stkFree (I:Inv X pins σ H s):∀ b∈frs X.stack,H b=none:=fun b hb=>by
 rcases List.mem_cons.mp (I.stkSub b hb) with e | hb
 ·rw [e]; exact I.free
 ·obtain ⟨_,o,ho,_⟩:=I.ok.funs.mem hb
  exact I.base.free b o ho (I.ok.frf b hb) fun z=>I.ok.exfs b z hb
theorem Inv.step {g':Array GenState} {t':Nat} {d':Drawn} {ch:List Addr} (I:Inv X pins σ H s)
  (hch:∀ b∈ch,(b∈X.ex\/X.s₀.heap.objs.size<=b)/\b ≠ X.env.locals/\(∀ x c,X.env.cells.lookup x=some c->c ≠ b)/\∀ p∈X.pn ++ pins,p.1 ≠ b)
  (keep:∀ b o,b ≠ X.env.locals->b ∉ X.fs->b ∉ ch->s.heap.get? b=some o->H b=none->h'.get? b=some o)
  (slot:∀ b o,b ≠ X.env.locals->b∈X.fs->b ∉ ch->s.heap.get? b=some o->H b=none->∃ sl,h'.get? b=some { o with slots:=sl }) (free:∀ b o,b ∉ ch->s.heap.get? b=some o->H b=none->H' b=none)
  (there:∀ b o,b ∉ ch->s.heap.get? b=some o->∃ o',h'.get? b=some o')
  (tups:∀ b xs,H b=some (.tup xs)->H' b=some (.tup xs)) (frzs:∀ b o u,H b=some (.frz o u)->H' b=some (.frz o u)) (tbls:∀ b ps,H b=some (.tbl ps)->∃ more,H' b=some (.tbl (ps ++ more)))
  (ns:∀ m,s.heap.Ns X.env.locals m->h'.Ns X.env.locals m) (hok:HOk X.prog X.w H' h') (hg:AllBare g') :
  Inv X pins σ H' { s with heap:=h',gens:=g',drawn:=d',toks:=t' }:=by
 have neL:∀ b o,X.s₀.heap.get? b=some o->b ≠ X.env.locals:=fun b o e=>Nat.ne_of_lt (Nat.lt_of_lt_of_le (Heap.lt_size e) I.ok.above)
 have neC:∀ b o,X.s₀.heap.get? b=some o->b ∉ X.ex->b ∉ ch:=fun b o e hx hb=>by
  rcases (hch b hb).1 with z | z
  ·exact hx z
  ·exact absurd (Nat.lt_of_lt_of_le (Heap.lt_size e) z) (Nat.lt_irrefl _)
 have cellK:∀ x c,X.env.cells.lookup x=some c->∀ v,s.heap.IsCell c v->h'.IsCell c v:=fun x c e v ⟨o,ho,hd⟩=>by
  have nch:c ∉ ch:=fun z=>(hch c z).2.2.1 x c e rfl
  by_cases hc:c∈X.fs
  ·obtain ⟨sl,q⟩:=slot c o (I.cne x c e) hc nch ho (I.freeC x c e)
   exact ⟨_,q,hd⟩
  ·exact ⟨o,keep c o (I.cne x c e) hc nch ho (I.freeC x c e),hd⟩
 refine ⟨I.ok,I.os,hg,⟨fun b o e n hb hx=>?_,fun b o e n hb hx=>?_,fun b o e n hx=>?_,fun b o e hx=>?_,fun b xs e=>tups b xs (I.base.tups b xs e),fun b o xs e=>frzs b o xs (I.base.frzs b o xs e),fun b ps e=>?_⟩,?_,fun x c e=>?_,?_,fun x c e=>?_,fun p hp=>?_,hok,I.len⟩
 ·exact keep b o (neL b o e) hb (neC b o e hx) (I.base.keep b o e n hb hx) (I.base.free b o e n hx)
 ·obtain ⟨sl,e1⟩:=I.base.slot b o e n hb hx
  obtain ⟨sl',e2⟩:=slot b _ (neL b o e) hb (neC b o e hx) e1 (I.base.free b o e n hx)
  exact ⟨sl',e2⟩
 ·obtain ⟨o',e1⟩:=I.base.there b o e hx
  exact free b o' (neC b o e hx) e1 (I.base.free b o e n hx)
 ·obtain ⟨o',e1⟩:=I.base.there b o e hx
  exact there b o' (neC b o e hx) e1
 ·obtain ⟨m1,e1⟩:=I.base.tbls b ps e
  obtain ⟨m2,e2⟩:=tbls b _ e1
  exact ⟨m1 ++ m2,by rw [e2,Array.append_assoc]⟩
 ·obtain ⟨m,hn,hl⟩:=I.loc
  refine ⟨m,ns m hn,fun i x v e1 e2 e3=>?_⟩
  obtain ⟨u,r,l⟩:=hl i x v e1 e2 e3
  refine ⟨u,r,?_⟩
  rcases l with l | ⟨k,c,e,z⟩
  ·exact .inl l
  ·exact .inr ⟨k,c,e,cellK x c e _ z⟩
 ·obtain ⟨v,z⟩:=I.cell x c e
  exact ⟨v,cellK x c e v z⟩
 ·obtain ⟨m,⟨o,_,_,ho,_⟩,_⟩:=I.loc
  exact free _ o (fun z=>(hch _ z).2.1 rfl) ho I.free
 ·obtain ⟨v,o,ho,hd⟩:=I.cell x c e
  exact free c o (fun z=>(hch c z).2.2.1 x c e rfl) ho (I.freeC x c e)
 ·obtain ⟨e,n,ne,nf,d⟩:=I.pin p hp
  have nch:p.1 ∉ ch:=fun z=>(hch p.1 z).2.2.2 p hp rfl
  exact ⟨keep p.1 p.2 ne nf nch e n,free p.1 p.2 nch e n,ne,nf,d⟩
theorem Inv.un {t':Nat} (I:Inv X pins σ H s) (u:Un X.fs [] H H' s.heap h') (hok:HOk X.prog X.w H' h'):Inv X pins σ H' { s with heap:=h',toks:=t' }:=by
 obtain ⟨m,⟨o,es,ep,ho,r⟩,_⟩:=id I.loc
 obtain ⟨sl,hL⟩:=u.any ho I.free (by simp)
 exact I.step (g':=s.gens) (d':=s.drawn) (ch:=[]) (fun _ z=>nomatch z) (fun b o _ hb _ e n=>u.keep b o e n hb (by simp)) (fun b o _ hb _ e n=>u.slot b o e n hb (by simp)) (fun b o _ e n=>u.free b o e n (by simp)) (fun b o _ e=>u.there b o e (by simp)) u.tups u.frzs u.tbls (fun m' hm=>by
  obtain ⟨o',es',ep',ho',r'⟩:=hm
  rw [ho] at ho'; cases ho'
  exact ⟨_,es',ep',hL,r'⟩) hok I.bare
theorem Inv.call {g':Array GenState} {t':Nat} {d':Drawn} {ch:List Addr} (I:Inv X pins σ H s) (u:Un (frs X.stack) ch H H' s.heap h') (hok:HOk X.prog X.w H' h') (hg:AllBare g')
  (hch:∀ b∈ch,(b∈X.ex\/X.s₀.heap.objs.size<=b)/\b ≠ X.env.locals/\(∀ x c,X.env.cells.lookup x=some c->c ≠ b)/\∀ p∈X.pn ++ pins,p.1 ≠ b) :
  Inv X pins σ H' { s with heap:=h',gens:=g',drawn:=d',toks:=t' }:=by
 obtain ⟨m,⟨o,es,ep,ho,r⟩,_⟩:=id I.loc
 obtain ⟨sl,hL⟩:=u.any ho I.free fun z=>(hch _ z).2.1 rfl
 exact I.step (ch:=ch) hch (fun b o hL hb hc e n=>u.keep b o e n (fun z=>(List.mem_cons.mp (I.stkSub b z)).elim hL hb) hc) (fun b o _ _ hc e n=>u.any e n hc) (fun b o hc e n=>u.free b o e n hc) (fun b o hc e=>u.there b o e hc) u.tups u.frzs u.tbls (fun m' hm=>by
  obtain ⟨o',es',ep',ho',r'⟩:=hm
  rw [ho] at ho'; cases ho'
  exact ⟨_,es',ep',hL,r'⟩) hok hg
theorem Inv.turned {t':Nat} {it:Addr} (I:Inv X pins σ H s) (k:∀ b o,b ≠ it->s.heap.get? b=some o->h'.get? b=some o) (hn:H it=none) (hL:it ≠ X.env.locals)
  (h1:it∈X.ex\/X.s₀.heap.objs.size<=it) (h2:∀ x c,X.env.cells.lookup x=some c->c ≠ it) (h3:∀ p∈X.pn ++ pins,p.1 ≠ it):Inv X pins σ H { s with heap:=h',toks:=t' }:=by
 have nit:∀ b u,H b=some u->b ≠ it:=fun b u e z=>by rw [z,hn] at e; cases e
 refine I.step (g':=s.gens) (d':=s.drawn) (ch:=[it]) (fun b hb=>?_) (fun b o _ _ hc e _=>k b o (fun z=>hc (by simp [z])) e) (fun b o _ _ hc e _=>⟨o.slots,k b o (fun z=>hc (by simp [z])) e⟩) (fun _ _ _ _ n=>n)
  (fun b o hc e=>⟨o,k b o (fun z=>hc (by simp [z])) e⟩) (fun _ _ e=>e) (fun _ _ _ e=>e) (fun b ps e=>⟨#[],by rw [e]; simp⟩) (fun m hm=>?_) (fun b u e=>?_) I.bare
 ·have e:b=it:=by simpa using hb
  subst e
  exact ⟨h1,hL,h2,h3⟩
 ·obtain ⟨o,es,ep,ho,r⟩:=hm
  exact ⟨o,es,ep,k _ o (Ne.symm hL) ho,r⟩
 ·refine (I.hok b u e).stay (fun c v hc q=>k c v ?_ q) (fun _ q=>q) fun _ _ q=>q
  rcases hc with z | z
  ·rw [z]; exact nit b u e
  ·exact nit c _ z
theorem Inv.tok (I:Inv X pins σ H s) (t:Nat):Inv X pins σ H { s with toks:=t }:=I.un (h':=s.heap) (t':=t) Un.refl I.hok
theorem Inv.kept {t':Nat} (I:Inv X pins σ H s) (k:∀ b u,s.heap.get? b=some u->h'.get? b=some u):Inv X pins σ H { s with heap:=h',toks:=t' }:=I.un (Un.kept k) (I.hok.kept k)
theorem Inv.laid {a:Addr} {o:HO} {t':Nat} (I:Inv X pins σ H s) (k:∀ b u,s.heap.get? b=some u->h'.get? b=some u) (hp:s.heap.objs.size<=a) (new:ObjOk X.prog X.w (upd H a o) h' a o) :
  Inv X pins σ (upd H a o) { s with heap:=h',toks:=t' }:=I.un (Un.laid k hp (I.hok.fresh hp)) (I.hok.laid k hp new)
theorem Inv.write {x e:Addr} {o:HO} {t':Nat} (I:Inv X pins σ H s) (mu:Mut (H x)) (he:e=x\/H e=some (.own x)) (k:∀ b u,b ≠ e->s.heap.get? b=some u->h'.get? b=some u) (heo:∃ u,h'.get? e=some u)
  (new:ObjOk X.prog X.w (upd H x o) h' x o):Inv X pins σ (upd H x o) { s with heap:=h',toks:=t' }:=I.un (Un.write mu he k heo) (I.hok.write mu he k heo new)
theorem Inv.weak {σ':List (Option V)} (I:Inv X pins σ H s) (hl:σ'.length=σ.length) (w:∀ (i:Nat) v,σ'[i]?=some (some v)->σ[i]?=some (some v)):Inv X pins σ' H s :=
 ⟨I.ok,I.os,I.bare,I.base,let ⟨m,hn,hl'⟩:=I.loc; ⟨m,hn,fun i x v e1 e2 e3=>hl' i x v e1 (w i v e2) e3⟩,I.cell,I.free,I.freeC,I.pin,I.hok,hl.trans I.len⟩
theorem Inv.pins_of {pins':List (Addr × Obj)} (I:Inv X pins σ H s) (h:∀ p∈pins',s.heap.get? p.1=some p.2/\H p.1=none/\p.1 ≠ X.env.locals/\p.1 ∉ X.fs/\∀ v,p.2.data ≠ .cell v):Inv X pins' σ H s :=
 ⟨I.ok,I.os,I.bare,I.base,I.loc,I.cell,I.free,I.freeC,fun p hp=>(List.mem_append.mp hp).elim (fun z=>I.pin p (List.mem_append_left _ z)) (h p),I.hok,I.len⟩
theorem qjx9 {N:List Str} (hN:N.Nodup) {i j:Nat} {x:Str} (a:N[i]?=some x) (b:N[j]?=some x):i=j:=by
 obtain ⟨h1,e1⟩:=List.getElem?_eq_some_iff.mp a
 obtain ⟨h2,e2⟩:=List.getElem?_eq_some_iff.mp b
 exact (List.getElem_inj hN).mp (e1.trans e2.symm)
theorem store_ok2 {M:Model} {A:Around} {E:Value->Shared->Prop} {i:Nat} {x:Str} {v:V} {u:Value} {Q:Unit->Shared->Prop} (I:Inv X pins σ H s) (hN:X.N.Nodup) (hi:X.N[i]?=some x) (hx:Loc X.env.scope x) (r:RelV v u)
  (h:∀ s',Inv X pins (σ.set i (some v)) H s'->(∃ a,Heap.SameBut a s.heap s'.heap/\(a=X.env.locals\/X.env.cells.lookup x=some a))->Q () s') (hf:X.fn x=true\/X.env.scope.names.lookup x=some .local:=by first | exact .inl rfl | exact .inr rfl | assumption):wpAny M A (storeName X.env x u) Q E s:=by
 obtain ⟨m,hn,hl⟩:=id I.loc
 have hcls:(X.env.scope.kind == .class || (X.env.scope.kind == .module && X.env.locals != X.env.globals))=false:=by rw [I.ok.kind]; rfl
 have hiσ:i < σ.length:=by rw [I.len]; exact (List.getElem?_eq_some_iff.mp hi).1
 have cne:=I.cne
 have tracked:∀ {a:Addr} {h':Heap},(∃ o,s.heap.get? a=some o/\H a=none)->Heap.SameBut a s.heap h'->HOk X.prog X.w H h':=fun {a h'} ha hs b ob e=>by
  obtain ⟨_,_,hfree⟩:=ha
  refine (I.hok b ob e).stay (fun c w' hc q=>(hs.2 c ?_).trans q) (fun _ q=>q) fun _ _ q=>q
  rintro rfl
  rcases hc with rfl | hc
  ·rw [hfree] at e; cases e
  ·rw [hfree] at hc; cases hc
 rcases hx with hk | hk
 ·refine wpAny_storeName_local hk hn (fun h' hn' hs=>?_) hcls
  obtain ⟨oL,_,_,hoL,_⟩:=id hn
  refine h _ ⟨I.ok,I.os,I.bare,⟨fun b o e n hb hx=>?_,fun b o e n hb hx=>?_,I.base.free,fun b o e hx=>?_,I.base.tups,I.base.frzs,I.base.tbls⟩,⟨_,hn',fun j y v' e1 e2 e3=>?_⟩,fun y c e=>?_,I.free,I.freeC,fun p hp=>?_,tracked ⟨oL,hoL,I.free⟩ hs,by simpa using I.len⟩ ⟨_,hs,.inl rfl⟩
  ·exact (hs.2 b (Nat.ne_of_lt (Nat.lt_of_lt_of_le (Heap.lt_size e) I.ok.above))).trans (I.base.keep b o e n hb hx)
  ·obtain ⟨sl,e1⟩:=I.base.slot b o e n hb hx
   exact ⟨sl,(hs.2 b (Nat.ne_of_lt (Nat.lt_of_lt_of_le (Heap.lt_size e) I.ok.above))).trans e1⟩
  ·obtain ⟨o',e1⟩:=I.base.there b o e hx
   exact ⟨o',(hs.2 b (Nat.ne_of_lt (Nat.lt_of_lt_of_le (Heap.lt_size e) I.ok.above))).trans e1⟩
  ·by_cases hj:j=i
   ·subst hj
    rw [hi] at e1; cases e1
    rw [List.getElem?_set_self hiσ] at e2
    cases e2
    exact ⟨u,r,.inl ⟨hk,by simp⟩⟩
   ·rw [List.getElem?_set_ne (Ne.symm hj)] at e2
    obtain ⟨u',r',q⟩:=hl j y v' e1 e2 e3
    refine ⟨u',r',?_⟩
    rcases q with ⟨k,e⟩ | ⟨k,c,e,z⟩
    ·refine .inl ⟨k,?_⟩
     have:y ≠ x:=fun e=>hj (qjx9 hN e1 (e ▸ hi))
     simp [this,e]
    ·exact .inr ⟨k,c,e,z.sameBut hs (cne y c e)⟩
  ·obtain ⟨w',z⟩:=I.cell y c e
   exact ⟨w',z.sameBut hs (cne y c e)⟩
  ·obtain ⟨e,n,ne,nf,d⟩:=I.pin p hp
   exact ⟨(hs.2 p.1 ne).trans e,n,ne,nf,d⟩
 ·have hfn:X.fn x=true:=by
   rcases hf with z | z
   ·exact z
   ·rw [z] at hk; cases hk
  obtain ⟨c,hc⟩:=I.ok.has x (.inl hk)
  obtain ⟨w',z⟩:=I.cell x c hc
  refine wpAny_storeName_cell I.ok.kind hk hc z (fun h' hc' hs=>?_)
  obtain ⟨oc,hoc,hocd⟩:=id z
  refine h { s with heap:=h' } ⟨I.ok,I.os,I.bare,⟨fun b o e n hb hx=>?_,fun b o e n hb hx=>?_,I.base.free,fun b o e hx=>?_,I.base.tups,I.base.frzs,I.base.tbls⟩,⟨m,hn.sameBut hs (Ne.symm (cne x c hc)),fun j y v' e1 e2 e3=>?_⟩,fun y c' e=>?_,I.free,I.freeC,fun p hp=>?_,tracked ⟨oc,hoc,I.freeC x c hc⟩ hs,by simpa using I.len⟩ ⟨c,hs,.inr hc⟩
  ·exact (hs.2 b (Nat.ne_of_lt (Nat.lt_of_lt_of_le (Heap.lt_size e) (I.ok.cab x c hfn hc)))).trans (I.base.keep b o e n hb hx)
  ·obtain ⟨sl,e1⟩:=I.base.slot b o e n hb hx
   exact ⟨sl,(hs.2 b (Nat.ne_of_lt (Nat.lt_of_lt_of_le (Heap.lt_size e) (I.ok.cab x c hfn hc)))).trans e1⟩
  ·obtain ⟨o',e1⟩:=I.base.there b o e hx
   exact ⟨o',(hs.2 b (Nat.ne_of_lt (Nat.lt_of_lt_of_le (Heap.lt_size e) (I.ok.cab x c hfn hc)))).trans e1⟩
  ·by_cases hj:j=i
   ·subst hj
    rw [hi] at e1; cases e1
    rw [List.getElem?_set_self hiσ] at e2
    cases e2
    exact ⟨u,r,.inr ⟨.inl hk,c,hc,hc'⟩⟩
   ·rw [List.getElem?_set_ne (Ne.symm hj)] at e2
    obtain ⟨u',r',q⟩:=hl j y v' e1 e2 e3
    refine ⟨u',r',?_⟩
    rcases q with q | ⟨k,c',e,z'⟩
    ·exact .inl q
    ·refine .inr ⟨k,c',e,z'.sameBut hs ?_⟩
     rintro rfl
     exact hj (qjx9 hN e1 (I.ok.inj _ _ _ e hc ▸ hi))
  ·by_cases hcc:c'=c
   ·subst hcc; exact ⟨_,hc'⟩
   ·obtain ⟨w2,z2⟩:=I.cell y c' e
    exact ⟨w2,z2.sameBut hs hcc⟩
  ·obtain ⟨e,n,ne,nf,d⟩:=I.pin p hp
   refine ⟨(hs.2 p.1 ?_).trans e,n,ne,nf,d⟩
   intro q
   rw [q,hoc] at e
   have q':oc=p.2:=Option.some.inj e
   exact d w' (by rw [<- q']; exact hocd)
theorem qgn9 {M:Model} {A:Around} {E:Value->Shared->Prop} {i:Nat} {x:Str} {v:V} {u:Value} {Q:Unit->Shared->Prop} (I:Inv X pins σ H s) (hN:X.N.Nodup) (hi:X.N[i]?=some x) (hx:Loc X.env.scope x) (r:RelV v u)
  (h:∀ s',Inv X pins (σ.set i (some v)) H s'->Q () s') (hf:X.fn x=true\/X.env.scope.names.lookup x=some .local:=by first | exact .inl rfl | exact .inr rfl | assumption):wpAny M A (storeName X.env x u) Q E s :=
 store_ok2 I hN hi hx r (fun s' I' _=>h s' I') hf
theorem Inv.call' {s':Shared} {ch:List Addr} (I:Inv X pins σ H s) (ho:s'.os=s.os) (u:Un (frs X.stack) ch H H' s.heap s'.heap) (hok:HOk X.prog X.w H' s'.heap) (hg:AllBare s'.gens)
  (hch:∀ b∈ch,(b∈X.ex\/X.s₀.heap.objs.size<=b)/\b ≠ X.env.locals/\(∀ x c,X.env.cells.lookup x=some c->c ≠ b)/\∀ p∈X.pn ++ pins,p.1 ≠ b):Inv X pins σ H' s':=by
 obtain ⟨h',g',d',t',o'⟩:=s'
 have e:o'=s.os:=ho
 subst e
 exact I.call (g':=g') (t':=t') (d':=d') u hok hg hch
end
abbrev XK:=Value->Option Addr->Hp->Prop
abbrev St:=List (Option V)
abbrev VK:=V->Hp->Prop
abbrev TE:=St->Hp->VK->Prop
abbrev TT:=St->Hp->(Bool->Hp->Prop)->Prop
abbrev TA:=St->Hp->(List V->Hp->Prop)->Prop
structure Ends where
 nx:St->Hp->Prop
 rt:VK
 bk:St->Hp->Prop:=fun _ _=>False
 ct:St->Hp->Prop:=fun _ _=>False
abbrev TS:=Ends->St->Hp->Prop
def EP (X:Cx) (pins:List (Addr × Obj)) (σ:St) (Q:VK) (u:Value) (s':Shared):Prop:=∃ v H',Inv X pins σ H' s'/\RelV v u/\Q v H'
def TP (X:Cx) (pins:List (Addr × Obj)) (σ:St) (Q:Bool->Hp->Prop) (b:Bool) (s':Shared):Prop:=∃ H',Inv X pins σ H' s'/\Q b H'
def AP (X:Cx) (pins:List (Addr × Obj)) (σ:St) (Q:List V->Hp->Prop) (us:List Value) (s':Shared):Prop:=∃ vs H',Inv X pins σ H' s'/\Vals vs us/\Q vs H'
def SP (X:Cx) (pins:List (Addr × Obj)) (D:Ends) (f:Flow) (s':Shared):Prop :=
 match f with
 | .next=>∃ σ' H',Inv X pins σ' H' s'/\D.nx σ' H'
 | .brk=>∃ σ' H',Inv X pins σ' H' s'/\D.bk σ' H'
 | .cont=>∃ σ' H',Inv X pins σ' H' s'/\D.ct σ' H'
 | .ret u=>∃ v σ' H',Inv X pins σ' H' s'/\RelV v u/\D.rt v H'
def PE (X:Cx) (e:Expr) (t:TE):Prop :=
 ∀ (pins:List (Addr × Obj)) (s:Shared) (σ:St) (H:Hp) (Q:VK),Inv X pins σ H s->t σ H Q->wpAny (model X.prog X.w) X.A (eval e X.env) (EP X pins σ Q) X.xe s
def PT (X:Cx) (e:Expr) (t:TT):Prop :=
 ∀ (pins:List (Addr × Obj)) (s:Shared) (σ:St) (H:Hp) (Q:Bool->Hp->Prop),Inv X pins σ H s->t σ H Q->wpAny (model X.prog X.w) X.A (isTrue e X.env (eval e X.env)) (TP X pins σ Q) X.xe s
def PW (X:Cx) (e:Expr) (t:TT):Prop :=
 ∀ (whole:Sem Value) (pins:List (Addr × Obj)) (s:Shared) (σ:St) (H:Hp) (Q:Bool->Hp->Prop),Inv X pins σ H s->t σ H Q->wpAny (model X.prog X.w) X.A (isTrue e X.env whole) (TP X pins σ Q) X.xe s
theorem PW.pt {X:Cx} {e:Expr} {t:TT} (h:PW X e t):PT X e t:=h _
def PA (X:Cx) (es:List Expr) (t:TA):Prop :=
 ∀ (pos:Pos) (pins:List (Addr × Obj)) (s:Shared) (σ:St) (H:Hp) (Q:List V->Hp->Prop),Inv X pins σ H s->t σ H Q->wpAny (model X.prog X.w) X.A (spliced (backTo pos (starEach es X.env))) (AP X pins σ Q) X.xe s
def PS (X:Cx) (st:Stmt) (t:TS):Prop :=
 ∀ (pins:List (Addr × Obj)) (s:Shared) (σ:St) (H:Hp) (D:Ends),Inv X pins σ H s->t D σ H->wpAny (model X.prog X.w) X.A (exec st X.env) (SP X pins D) X.xe s
def PSs (X:Cx) (st:List Stmt) (t:TS):Prop :=
 ∀ (pins:List (Addr × Obj)) (s:Shared) (σ:St) (H:Hp) (D:Ends),Inv X pins σ H s->t D σ H->wpAny (model X.prog X.w) X.A (execs st X.env) (SP X pins D) X.xe s
theorem thn {α:Type} {t:Sem α} {Q Q':α->Shared->Prop} {M:Model} {A:Around} {E:Value->Shared->Prop} {s:Shared} (h:wpAny M A t Q E s) (hQ:∀ a s,Q a s->Q' a s):wpAny M A t Q' E s:=wpAny_mono h hQ fun _ _ x=>x
section
variable {X:Cx}
def tVar (i:Nat):TE:=fun σ H Q=>∃ v,σ[i]?=some (some v)/\Q v H
def tC (v:V):TE:=fun _ H Q=>Q v H
theorem pe_var {i:Nat} {x:Str} {pos:Pos} (hN:X.N[i]?=some x) (hv:Vis X.env.scope x) (hd:(x == ("__debug__" : Str))=false:=by decide) (hcd:(x == ("__classdict__" : Str))=false:=by decide):PE X (.Name x pos) (tVar i):=by
 intro pins s σ H Q I h
 obtain ⟨v,e,h⟩:=h
 obtain ⟨m,hn,hl⟩:=I.loc
 obtain ⟨u,r,l⟩:=hl i x v hN e hv
 have fin:EP X pins σ Q u s:=⟨v,H,I,r,h⟩
 rcases l with ⟨hk,hm⟩ | ⟨hk,c,hc,hcell⟩
 ·exact wpAny_Name (wpAny_loadName_local I.ok.kind hk hn hm fin) hd
 ·rcases hk with hk | hk
  ·exact wpAny_Name (wpAny_loadName_cell I.ok.kind hk hc hcell fin) hd
  ·exact wpAny_Name (wpAny_loadName_free I.ok.kind hk hc hcell fin hcd) hd
theorem pe_int {i j pos}:PE X (.Constant (.int i) j pos) (tC (.int i)):=fun _ _ _ H _ I h=>wpAny_Constant_int ⟨.int i,H,I.tok _,⟨_,rfl⟩,h⟩
theorem pe_bl {b j pos}:PE X (.Constant (.bool b) j pos) (tC (.bl b)):=fun _ _ _ H _ I h=>Constant_bool ⟨.bl b,H,I,rfl,h⟩
theorem pe_non {j pos}:PE X (.Constant .none j pos) (tC .non):=fun _ _ _ H _ I h=>Constant_none ⟨.non,H,I,rfl,h⟩
theorem pe_str {x j pos}:PE X (.Constant (.str x) j pos) (tC (.str x)):=fun _ _ _ H _ I h=>Calls.Constant_str ⟨.str x,H,I.tok _,⟨_,rfl⟩,h⟩
def Gl (X:Cx) (x:Str):Prop:=X.env.kindOf x=some .globalImplicit
theorem qgl9 {E:Value->Shared->Prop} {pins:List (Addr × Obj)} {s:Shared} {σ:St} {H:Hp} {x:Str} {u:Value} {pos:Pos} {Q:Value->Shared->Prop} (I:Inv X pins σ H s) (hg:Gl X x) (hm:X.mg x=some u) (h:Q u s)
  (hd:(x == ("__debug__" : Str))=false:=by decide):wpAny (model X.prog X.w) X.A (eval (.Name x pos) X.env) Q E s :=
 Calls.Name_function_global I.ok.kind hg (Calls.loadGlobal_global (by rw [I.ok.glob]; exact I.mod.glob.keeps I.bk) hm h) hd
theorem qpa9 {E:Value->Shared->Prop} {pins:List (Addr × Obj)} {s:Shared} {σ:St} {H:Hp} {x:Str} {u:Value} {pos:Pos} {Q:Value->Shared->Prop} (I:Inv X pins σ H s) (hg:Gl X x) (hm:X.mg x=none) (hv:bootBuiltins x=some u) (h:Q u s)
  (hn:x ≠ "__name__" := by decide) (hd:(x == ("__debug__" : Str))=false:=by decide):wpAny (model X.prog X.w) X.A (eval (.Name x pos) X.env) Q E s:=by
 obtain ⟨mb,h1,h2⟩:=I.mod.blt
 exact Calls.Name_function_global I.ok.kind hg (Calls.loadGlobal_builtin (by rw [I.ok.glob]; exact I.mod.glob.keeps I.bk) hm (by rw [I.ok.blt]; exact h1.keeps I.bk) ((h2 x hn).trans hv) h) hd
theorem pe_glob {x:Str} {v:V} {u:Value} {pos:Pos} (hg:Gl X x) (hm:X.mg x=some u) (r:RelV v u) (hd:(x == ("__debug__" : Str))=false:=by decide):PE X (.Name x pos) (tC v) :=
 fun _ _ _ H _ I h=>qgl9 I hg hm ⟨v,H,I,r,h⟩ hd
theorem pe_bltn {x:Str} {v:V} {u:Value} {pos:Pos} (hg:Gl X x) (hm:X.mg x=none) (hv:bootBuiltins x=some u) (r:RelV v u) (hn:x ≠ "__name__" := by decide) (hd:(x == ("__debug__" : Str))=false:=by decide):PE X (.Name x pos) (tC v) :=
 fun _ _ _ H _ I h=>qpa9 I hg hm hv ⟨v,H,I,r,h⟩ hn hd
variable {a b:Expr} {ta tb:TE} {pos:Pos}
def PC (X:Cx) (op:CmpOp) (a b:Expr) (t:TE):Prop :=
 ∀ (pins:List (Addr × Obj)) (s:Shared) (σ:St) (H:Hp) (Q:VK),Inv X pins σ H s->t σ H Q ->
  wpAny (model X.prog X.w) X.A (eval a X.env) (fun v s₁=>wpAny (model X.prog X.w) X.A (eval b X.env) (fun u s₂=>wpAny (model X.prog X.w) X.A (compareOp op v u) (EP X pins σ Q) X.xe s₂) X.xe s₁) X.xe s
theorem nobehind (b:Expr) {op:CmpOp} (h:op ≠ .In) (h2:op ≠ .NotIn):behindInMarks op b=false:=by
 have e1:(op == CmpOp.In)=false:=by cases op <;> first | rfl | exact absurd rfl h
 have e2:(op == CmpOp.NotIn)=false:=by cases op <;> first | rfl | exact absurd rfl h2
 cases b <;> simp [behindInMarks,e1,e2]
def tIsN (ta:TE):TE:=fun σ H Q=>ta σ H fun x H1=>Q (.bl (decide (x=.non))) H1
theorem RelV.none_iff {x:V} {v:Value} (r:RelV x v):(v == Value.none)=decide (x=.non):=by
 cases x with
 | non=>cases r; rfl
 | bl _=>cases r; rfl
 | int _=>obtain ⟨t,rfl⟩:=r; rfl
 | str _=>obtain ⟨t,rfl⟩:=r; rfl
 | byt _=>obtain ⟨t,rfl⟩:=r; rfl
 | flt _=>obtain ⟨t,rfl⟩:=r; rfl
 | ref _=>cases r; rfl
 | ty _=>cases r; rfl
theorem pc_isN {j pos'} (ha:PE X a ta):PC X .Is a (.Constant .none j pos') (tIsN ta):=by
 intro pins s σ H Q I h
 refine thn (ha pins s σ H _ I h) fun v s1 z9=>?_
 obtain ⟨x,H1,I1,r1,q1⟩ := z9
 exact Constant_none (is_none_gen ⟨.bl _,H1,I1,by rw [r1.none_iff]; rfl,q1⟩)
def tB (t:TE):TT:=fun σ H Q=>t σ H fun x H1=>∃ c,x=.bl c/\Q c H1
theorem pt_cmp {op:CmpOp} {t:TE} (h:PC X op a b t) (h1:behindInMarks op b=false:=by first | exact nobehind _ (by decide) (by decide) | rfl):PT X (.Compare a [op] [b] pos) (tB t):=by
 intro pins s σ H Q I hw
 refine wpAny_isTrue_Compare1 (thn (h pins s σ H _ I hw) fun v s1 h1=>thn h1 fun u s2 h2=>thn h2 fun c s3 z9=>?_) h1
 obtain ⟨x,H1,I1,r1,q1⟩ := z9
 obtain ⟨d,rfl,q⟩:=q1
 cases r1
 exact wpAny_truthy_bool ⟨H1,I1,q⟩
theorem pt_val {e:Expr} {t:TE} (h:PE X e t) (he:∀ whole,isTrue e X.env whole=(do let v <- whole; standAt e.pos; holding [v] (truthy v)):=by intro _; rfl):PT X e (tB t):=by
 intro pins s σ H Q I hw
 refine isTrue_plain (thn (h pins s σ H _ I hw) fun v s1 z9=>?_) (he _)
 obtain ⟨x,H1,I1,r1,q1⟩ := z9
 obtain ⟨d,rfl,q⟩:=q1
 cases r1
 exact wpAny_truthy_bool ⟨H1,I1,q⟩
variable {tA tB':TT} {rest:List Expr}
def tAnd (t u:TT):TT:=fun σ H Q=>t σ H fun c H1=>if c=true then u σ H1 Q else Q false H1
def tOr (t u:TT):TT:=fun σ H Q=>t σ H fun c H1=>if c=true then Q true H1 else u σ H1 Q
def tNot (t:TT):TT:=fun σ H Q=>t σ H fun c H1=>Q (!c) H1
theorem pw_and1 (ha:PT X a tA):PW X (.BoolOp .And [a] pos) tA:=by
 intro wh pins s σ H Q I h
 refine isTrue_and (thn (ha pins s σ H Q I h) fun c s1 e=>?_)
 cases c with
 | true=>exact isTrue_and_nil e
 | false=>exact e
theorem pw_or1 (ha:PT X a tA):PW X (.BoolOp .Or [a] pos) tA:=by
 intro wh pins s σ H Q I h
 refine isTrue_or (thn (ha pins s σ H Q I h) fun c s1 e=>?_)
 cases c with
 | false=>exact isTrue_or_nil e
 | true=>exact e
theorem pw_and (ha:PT X a tA) (hb:PW X (.BoolOp .And (b :: rest) pos) tB'):PW X (.BoolOp .And (a :: b :: rest) pos) (tAnd tA tB'):=by
 intro wh pins s σ H Q I h
 refine isTrue_and (thn (ha pins s σ H _ I h) fun c s1 z9=>?_)
 obtain ⟨H1,I1,q1⟩ := z9
 cases c with
 | true=>exact hb wh pins s1 σ H1 Q I1 q1
 | false=>exact ⟨H1,I1,q1⟩
theorem pw_or (ha:PT X a tA) (hb:PW X (.BoolOp .Or (b :: rest) pos) tB'):PW X (.BoolOp .Or (a :: b :: rest) pos) (tOr tA tB'):=by
 intro wh pins s σ H Q I h
 refine isTrue_or (thn (ha pins s σ H _ I h) fun c s1 z9=>?_)
 obtain ⟨H1,I1,q1⟩ := z9
 cases c with
 | true=>exact ⟨H1,I1,q1⟩
 | false=>exact hb wh pins s1 σ H1 Q I1 q1
theorem pt_not (ha:PT X a tA):PT X (.UnaryOp .Not a pos) (tNot tA):=by
 intro pins s σ H Q I h
 exact isTrue_not (ha pins s σ H (fun c H1=>Q (!c) H1) I h)
def tAndV (ta tb:TE):TE:=fun σ H Q=>ta σ H fun x H1=>∃ c,x=.bl c/\if c=true then tb σ H1 Q else Q (.bl false) H1
def tNotV (ta:TE):TE:=fun σ H Q=>ta σ H fun x H1=>∃ c,x=.bl c/\Q (.bl (!c)) H1
theorem pe_one {op} {t:TE} (h:PE X a t):PE X (.BoolOp op [a] pos) t:=fun pins s σ H Q I hw=>BoolOp_one (h pins s σ H Q I hw)
theorem pe_and (ha:PE X a ta) (hb:PE X (.BoolOp .And (b :: rest) pos) tb):PE X (.BoolOp .And (a :: b :: rest) pos) (tAndV ta tb):=by
 intro pins s σ H Q I h
 refine BoolOp_and (thn (ha pins s σ H _ I h) fun v s1 z9=>?_)
 obtain ⟨x,H1,I1,r1,q1⟩ := z9
 obtain ⟨c,rfl,q1⟩:=q1
 cases r1
 refine wpAny_truthy_bool ?_
 cases c with
 | true=>exact hb pins s1 σ H1 Q I1 q1
 | false=>exact ⟨.bl false,H1,I1,rfl,q1⟩
theorem pe_not (ha:PE X a ta):PE X (.UnaryOp .Not a pos) (tNotV ta):=by
 intro pins s σ H Q I h
 refine UnaryOp_ (thn (ha pins s σ H _ I h) fun v s1 z9=>?_)
 obtain ⟨x,H1,I1,r1,q1⟩ := z9
 obtain ⟨c,rfl,q1⟩:=q1
 cases r1
 exact not_of (wpAny_truthy_bool ⟨.bl (!c),H1,I1,rfl,q1⟩)
def tIf (t:TT) (ta tb:TE):TE:=fun σ H Q=>t σ H fun c H1=>if c=true then ta σ H1 Q else tb σ H1 Q
theorem pe_ifExp {c:Expr} (hc:PT X c tA) (ha:PE X a ta) (hb:PE X b tb):PE X (.IfExp c a b pos) (tIf tA ta tb):=by
 intro pins s σ H Q I h
 refine wpAny_IfExp (thn (hc pins s σ H _ I h) fun d s1 z9=>?_)
 obtain ⟨H1,I1,q1⟩ := z9
 cases d with
 | true=>exact ha pins s1 σ H1 Q I1 q1
 | false=>exact hb pins s1 σ H1 Q I1 q1
end
def SqL (K:W.Frag) (H:Hp) (a:Addr) (xs:List V):Prop :=
 Rd H a (.lst xs) \/
  ∃ (o:Obj) (its:Array Value) (n:Nat),K.lookup a=some o/\o.cls=.type "list" /\ o.dict=none/\o.data=.seq its n/\its.size<=sizeLine/\Vals xs its.toList
def SqT (K:W.Frag) (H:Hp) (a:Addr) (xs:List V):Prop :=
 Rd H a (.tup xs) \/
  ∃ (o:Obj) (its:Array Value) (n:Nat),K.lookup a=some o/\o.cls=.type "tuple" /\ o.data=.seq its n/\its.size<=sizeLine/\Vals xs its.toList
def absV:Value->Option V
 | .none=>some .non
 | .bool b=>some (.bl b)
 | .int i _=>some (.int i)
 | .str x _=>some (.str x)
 | .bytes b _=>some (.byt b)
 | .float b _=>some (.flt b)
 | .ref a=>some (.ref a)
 | .type n=>some (.ty n)
 | _=>none
theorem RelV.abs {x:V} {u:Value} (r:RelV x u):absV u=some x:=by
 cases x with
 | non=>cases r; rfl
 | bl _=>cases r; rfl
 | int _=>obtain ⟨t,rfl⟩:=r; rfl
 | str _=>obtain ⟨t,rfl⟩:=r; rfl
 | byt _=>obtain ⟨t,rfl⟩:=r; rfl
 | flt _=>obtain ⟨t,rfl⟩:=r; rfl
 | ref _=>cases r; rfl
 | ty _=>cases r; rfl
theorem RelV.inj {x y:V} {u:Value} (r:RelV x u) (q:RelV y u):x=y:=Option.some.inj (r.abs.symm.trans q.abs)
theorem Vals.inj:∀ {xs ys:List V} {us:List Value},Vals xs us->Vals ys us->xs=ys
 | _,_,_,.nil,.nil=>rfl
 | _,_,_,.cons r t,.cons r' t'=>by rw [r.inj r',Vals.inj t t']
section
variable {X:Cx} {pins:List (Addr × Obj)} {σ:St} {H:Hp} {s:Shared} {a:Addr} {xs ys:List V}
theorem SqL.of {K:W.Frag} (h:H a=some (.lst xs)):SqL K H a xs:=.inl (.inl h)
theorem SqT.of {K:W.Frag} (h:H a=some (.tup xs)):SqT K H a xs:=.inl (.inl h)
theorem Inv.list (I:Inv X pins σ H s) (h:SqL X.K H a xs):∃ its:List Value,Vals xs its/\PlainL s.heap a its.toArray/\xs.length<=sizeLine:=by
 rcases h with h | ⟨o,its,n,hk,hc,hd,hs,hz,r⟩
 ·obtain ⟨z,its,n,r,e⟩:=h.ok I.hok
  exact ⟨its,r,⟨_,n,e,rfl,rfl,rfl⟩,z⟩
 ·refine ⟨its.toList,r,⟨o,n,I.kIn a o hk,hc,hd,by simpa using hs⟩,?_⟩
  have e:=r.length
  simp only [Array.length_toList] at e
  omega
theorem Inv.tuple (I:Inv X pins σ H s) (h:SqT X.K H a xs):∃ its:List Value,Vals xs its/\IsTup s.heap a its.toArray/\xs.length<=sizeLine:=by
 rcases h with h | ⟨o,its,n,hk,hc,hs,hz,r⟩
 ·obtain ⟨z,its,r,p⟩:=h.ok I.hok
  exact ⟨its,r,p,z⟩
 ·refine ⟨its.toList,r,⟨o,I.kIn a o hk,hc,n,by simpa using hs⟩,?_⟩
  have e:=r.length
  simp only [Array.length_toList] at e
  omega
theorem Inv.list_inj (I:Inv X pins σ H s) (h:SqL X.K H a xs) (h':SqL X.K H a ys):xs=ys:=by
 obtain ⟨its,r,⟨o,n,e,_,_,d⟩,_⟩:=I.list h
 obtain ⟨its',r',⟨o',n',e',_,_,d'⟩,_⟩:=I.list h'
 rw [e] at e'; cases e'
 rw [d] at d'
 injection d' with d1 _
 have:its=its':=by simpa using congrArg Array.toList d1
 subst this
 exact r.inj r'
theorem Inv.tuple_inj (I:Inv X pins σ H s) (h:SqT X.K H a xs) (h':SqT X.K H a ys):xs=ys:=by
 obtain ⟨its,r,⟨o,e,_,n,d⟩,_⟩:=I.tuple h
 obtain ⟨its',r',⟨o',e',_,n',d'⟩,_⟩:=I.tuple h'
 rw [e] at e'; cases e'
 rw [d] at d'
 injection d' with d1 _
 have:its=its':=by simpa using congrArg Array.toList d1
 subst this
 exact r.inj r'
end
abbrev Cx.wish (X:Cx) (E:Value->Shared->Prop):Cx:={ X with xe:=E }
abbrev Cx.nox (X:Cx):Cx:=X.wish fun _ _=>False
theorem Cx.Ok.wish {X:Cx} (ok:X.Ok) (E:Value->Shared->Prop):(X.wish E).Ok :=
 ⟨ok.mod,ok.kind,ok.glob,ok.blt,ok.above,ok.inj,ok.has,ok.cab,ok.hd,ok.frames,ok.stk,ok.exf,ok.bs,ok.bsz,ok.noex,ok.exfs,ok.funs,ok.frf⟩
theorem Cx.Ok.unwish {X:Cx} {E:Value->Shared->Prop} (ok:(X.wish E).Ok):X.Ok :=
 ⟨ok.mod,ok.kind,ok.glob,ok.blt,ok.above,ok.inj,ok.has,ok.cab,ok.hd,ok.frames,ok.stk,ok.exf,ok.bs,ok.bsz,ok.noex,ok.exfs,ok.funs,ok.frf⟩
section
variable {X:Cx} {pins:List (Addr × Obj)} {σ:St} {H:Hp} {s:Shared} {E:Value->Shared->Prop}
theorem Inv.wish (I:Inv X pins σ H s) (E:Value->Shared->Prop):Inv (X.wish E) pins σ H s:=⟨I.ok.wish E,I.os,I.bare,I.base,I.loc,I.cell,I.free,I.freeC,I.pin,I.hok,I.len⟩
theorem Inv.unwish (I:Inv (X.wish E) pins σ H s):Inv X pins σ H s:=⟨I.ok.unwish,I.os,I.bare,I.base,I.loc,I.cell,I.free,I.freeC,I.pin,I.hok,I.len⟩
theorem SP.unwish {D:Ends} {f:Flow} {s':Shared} (h:SP (X.wish E) pins D f s'):SP X pins D f s':=by
 cases f with
 | next=>obtain ⟨σ',H',I,q⟩:=h; exact ⟨σ',H',I.unwish,q⟩
 | brk=>obtain ⟨σ',H',I,q⟩:=h; exact ⟨σ',H',I.unwish,q⟩
 | cont=>obtain ⟨σ',H',I,q⟩:=h; exact ⟨σ',H',I.unwish,q⟩
 | ret u=>obtain ⟨v,σ',H',I,r,q⟩:=h; exact ⟨v,σ',H',I.unwish,r,q⟩
theorem PSs.nox {st:List Stmt} {t:TS} (h:PSs X.nox st t):PSs X st t:=fun pins s σ H D I hw =>
 wpAny_mono (h pins s σ H D (I.wish _) hw) (fun _ _ q=>q.unwish) fun _ _ z=>False.elim z
end
section
variable {X:Cx} {st:Stmt} {rest:List Stmt} {t u:TS} {e:Expr} {te:TE} {pos:Pos}
def tNext:TS:=fun D σ H=>D.nx σ H
def tSeq (t u:TS):TS:=fun D σ H=>t { D with nx:=u D } σ H
theorem pss_nil:PSs X [] tNext:=fun _ _ σ H _ I h=>wpAny_execs_nil ⟨σ,H,I,h⟩
theorem pss_cons (h1:PS X st t) (h2:PSs X rest u):PSs X (st :: rest) (tSeq t u):=by
 intro pins s σ H D I h
 refine wpAny_execs_cons (thn (h1 pins s σ H { D with nx:=u D } I h) fun f s1 q=>?_)
 cases f with
 | next =>
  obtain ⟨σ',H',I',q⟩:=q
  exact h2 pins s1 σ' H' D I' q
 | ret v=>exact q
 | brk=>exact q
 | cont=>exact q
theorem pss_one (h1:PS X st t):PSs X [st] t:=by
 intro pins s σ H D I h
 refine wpAny_execs_cons (thn (h1 pins s σ H D I h) fun f s1 q=>?_)
 cases f with
 | next=>exact wpAny_execs_nil q
 | ret v=>exact q
 | brk=>exact q
 | cont=>exact q
theorem Inv.quiet {pins:List (Addr × Obj)} {σ:St} {H:Hp} {s:Shared} (I:Inv X pins σ H s):interactive X.env=false:=by simp [interactive,I.ok.kind]
def tDrop (te:TE):TS:=fun D σ H=>te σ H fun _ H1=>D.nx σ H1
theorem ps_expr (he:PE X e te) (hs:swapsWith e none pos.line X.env=pure false:=by rfl):PS X (.Expr e pos) (tDrop te):=by
 intro pins s σ H D I h
 exact wpAny_Expr_any (thn (he pins s σ H _ I h) fun v s1 ⟨x,H1,I1,r1,q1⟩=>⟨σ,H1,I1,q1⟩) I.quiet hs
def tRet (te:TE):TS:=fun D σ H=>te σ H D.rt
theorem ps_ret (he:PE X e te):PS X (.Return (some e) pos) (tRet te):=by
 intro pins s σ H D I h
 exact wpAny_Return_some (thn (he pins s σ H _ I h) fun v s1 ⟨x,H1,I1,r1,q1⟩=>⟨x,σ,H1,I1,r1,q1⟩)
def tRetN:TS:=fun D _ H=>D.rt .non H
theorem ps_retN:PS X (.Return none pos) tRetN:=fun _ _ σ H _ I h=>wpAny_Return_none ⟨.non,σ,H,I,rfl,h⟩
def tIfS (c:TT) (t u:TS):TS:=fun D σ H=>c σ H fun b H1=>if b=true then t D σ H1 else u D σ H1
theorem ps_if {c:Expr} {a b:List Stmt} {tc:TT} (hc:PT X c tc) (ha:PSs X a t) (hb:PSs X b u):PS X (.If c a b pos) (tIfS tc t u):=by
 intro pins s σ H D I h
 refine wpAny_If (thn (hc pins s σ H _ I h) fun d s1 z9=>?_)
 obtain ⟨H1,I1,q1⟩ := z9
 cases d with
 | true=>exact ha pins s1 σ H1 D I1 q1
 | false=>exact hb pins s1 σ H1 D I1 q1
def tNever:TS:=fun _ _ _=>False
theorem ps_never:PS X st tNever:=fun _ _ _ _ _ _ h=>h.elim
theorem pss_never {sts:List Stmt}:PSs X sts tNever:=fun _ _ _ _ _ _ h=>h.elim
end
abbrev TG:=V->St->Hp->(St->Hp->Prop)->Prop
abbrev TGs:=List V->St->Hp->(St->Hp->Prop)->Prop
def PG (X:Cx) (target:Expr) (t:TG):Prop :=
 ∀ (pins:List (Addr × Obj)) (s:Shared) (σ:St) (H:Hp) (v:V) (u:Value) (Q:St->Hp->Prop),Inv X pins σ H s->RelV v u->t v σ H Q ->
  wpAny (model X.prog X.w) X.A (assign target X.env u) (fun _ s'=>∃ σ' H',Inv X pins σ' H' s'/\Q σ' H') X.xe s
def PGs (X:Cx) (ts:List Expr) (t:TGs):Prop :=
 ∀ (pins:List (Addr × Obj)) (s:Shared) (σ:St) (H:Hp) (vs:List V) (us:List Value) (Q:St->Hp->Prop),Inv X pins σ H s->Vals vs us->t vs σ H Q ->
  wpAny (model X.prog X.w) X.A (assignInOrder ((assignEach ts X.env).map (·.2)) us) (fun _ s'=>∃ σ' H',Inv X pins σ' H' s'/\Q σ' H') X.xe s
abbrev TSet:=V->V->V->Hp->(Hp->Prop)->Prop
def PSet (X:Cx) (t:TSet):Prop :=
 ∀ (pins:List (Addr × Obj)) (s:Shared) (σ:St) (H:Hp) (o i v:V) (ov iv u:Value) (Q:Hp->Prop),Inv X pins σ H s->RelV o ov->RelV i iv->RelV v u->t o i v H Q ->
  wpAny (model X.prog X.w) X.A (setItem ov iv u) (fun _ s'=>∃ H',Inv X pins σ H' s'/\Q H') X.xe s
abbrev TIp:=V->V->Hp->VK->Prop
def PIp (X:Cx) (op:Operator) (t:TIp):Prop :=
 ∀ (pins:List (Addr × Obj)) (s:Shared) (σ:St) (H:Hp) (x y:V) (v u:Value) (Q:VK),Inv X pins σ H s->RelV x v->RelV y u->t x y H Q ->
  wpAny (model X.prog X.w) X.A (inplaceOp op v u) (EP X pins σ Q) X.xe s
section
variable {X:Cx} {pos:Pos}
def gName (i:Nat):TG:=fun v σ H Q=>Q (σ.set i (some v)) H
theorem pg_name {i:Nat} {x:Str} (hN:X.N.Nodup) (hi:X.N[i]?=some x) (hx:Loc X.env.scope x) (hf:X.fn x=true\/X.env.scope.names.lookup x=some .local:=by first | exact .inl rfl | exact .inr rfl | assumption):PG X (.Name x pos) (gName i):=by
 intro pins s σ H v u Q I r h
 exact wpAny_assign_Name (qgn9 I hN hi hx r (fun s' I'=>⟨_,H,I',h⟩) hf)
def gNil:TGs:=fun vs σ H Q=>vs=[]/\Q σ H
def gCons (t:TG) (u:TGs):TGs:=fun vs σ H Q=>∃ v r,vs=v :: r/\t v σ H fun σ' H'=>u r σ' H' Q
theorem pgs_nil:PGs X [] gNil:=by
 intro pins s σ H vs us Q I r h
 obtain ⟨e,h⟩:=h
 subst e
 cases r
 exact assignInOrder_nil ⟨σ,H,I,h⟩
theorem pgs_cons {e:Expr} {es:List Expr} {t:TG} {u:TGs} (h1:PG X e t) (h2:PGs X es u)
  (hs:(assignEach (e :: es) X.env).map (·.2)=assign e X.env :: (assignEach es X.env).map (·.2):=by rfl):PGs X (e :: es) (gCons t u):=by
 intro pins s σ H vs us Q I r h
 obtain ⟨v,vr,e1,h⟩:=h
 subst e1
 cases r with
 | cons r rr =>
  rw [hs]
  refine assignInOrder_cons (thn (h1 pins s σ H _ _ _ I r h) fun _ s1 z9=>?_)
  obtain ⟨σ1,H1,I1,q1⟩ := z9
  exact h2 pins s1 σ1 H1 _ _ Q I1 rr q1
def gTup (K:W.Frag) (n:Nat) (t:TGs):TG:=fun v σ H Q=>∃ a xs,v=.ref a/\SqT K H a xs/\xs.length=n/\t xs σ H Q
theorem pg_tup {es:List Expr} {k:Nat} {t:TGs} {n:Nat} (hc:X.calm=true) (h:PGs X es t)
  (hn:(assignEach es X.env).length=n:=by rfl) (hst:(assignEach es X.env).findIdx? (·.1)=none:=by rfl):PG X (.Tuple es k pos) (gTup X.K n t):=by
 intro pins s σ H v u Q I r hw
 obtain ⟨a,xs,e1,hq,hl,hw⟩:=hw
 subst e1
 cases r
 obtain ⟨its,rv,ht,hz⟩:=I.tuple hq
 refine assign_Tuple_tuple (I.ok.hd hc) ht (by simp [hn,<- hl,rv.length]) hst fun h' hx=>?_
 have I1:Inv X pins σ H { s with heap:=h' }:=I.kept (t':=s.toks) fun b o e=>hx b o (Nat.ne_of_lt (Heap.lt_size e)) e
 exact h pins _ σ H xs _ Q I1 (by simpa using rv) hw
def gSub (to ti:TE) (t:TSet):TG:=fun v σ H Q=>to σ H fun o H1=>ti σ H1 fun i H2=>t o i v H2 fun H3=>Q σ H3
theorem pg_sub {o i:Expr} {to ti:TE} {t:TSet} (ho:PE X o to) (hi:PE X i ti) (hs:PSet X t)
  (ha:∀ v,assign (.Subscript o i pos) X.env v=(do
   let ov <- holding [v] (eval o X.env)
   let iv <- holding [v,ov] (eval i X.env)
   standAt pos
   holding [v,ov,iv] (setItem ov iv v)
   release [v,ov,iv] []):=by intro _; rfl):PG X (.Subscript o i pos) (gSub to ti t):=by
 intro pins s σ H v u Q I r h
 rw [ha]
 refine wpAny_bind (wpAny_holding (thn (ho pins s σ H _ I h) fun ov s1 z9=>?_))
 obtain ⟨x,H1,I1,r1,q1⟩ := z9
 refine wpAny_bind (wpAny_holding (thn (hi pins s1 σ H1 _ I1 q1) fun iv s2 z9=>?_))
 obtain ⟨y,H2,I2,r2,q2⟩ := z9
 refine wpAny_bind (wpAny_standAt (wpAny_bind (wpAny_holding (thn (hs pins s2 σ H2 x y v ov iv u _ I2 r1 r2 r q2) fun _ s3 z9=>?_))))
 obtain ⟨H3,I3,q3⟩ := z9
 exact wpAny_release ⟨σ,H3,I3,q3⟩
def tAsg (te:TE) (g:TG):TS:=fun D σ H=>te σ H fun x H1=>g x σ H1 D.nx
theorem ps_asg {tg e:Expr} {te:TE} {g:TG} (he:PE X e te) (hg:PG X tg g) (hs:swapsWithSole [tg] e pos.line X.env=pure false:=by rfl) (hw:swappedStores [tg] e X.env=pure none:=by rfl)
  (h1:(assignEach [tg] X.env).map (·.2)=[assign tg X.env]:=by rfl):PS X (.Assign [tg] e pos) (tAsg te g):=by
 intro pins s σ H D I h
 refine wpAny_Assign_stores (thn (he pins s σ H _ I h) fun v s1 z9=>?_) hs hw
 obtain ⟨x,H1,I1,r1,q1⟩ := z9
 rw [h1]
 exact thn (hg pins s1 σ H1 x v _ I1 r1 q1) fun _ s2 q=>q
theorem ps_set {i:Nat} {x:Str} {e:Expr} {te:TE} {pos':Pos} (hN:X.N.Nodup) (hi:X.N[i]?=some x) (hx:Loc X.env.scope x) (he:PE X e te) (hs:swapsWith e (some (.Name x pos')) pos.line X.env=pure false:=by rfl) (hf:X.fn x=true\/X.env.scope.names.lookup x=some .local:=by first | exact .inl rfl | exact .inr rfl | assumption) :
  PS X (.Assign [.Name x pos'] e pos) (tAsg te (gName i)):=by
 intro pins s σ H D I h
 refine wpAny_Assign_Name (thn (he pins s σ H _ I h) fun v s1 z9=>?_) hs
 obtain ⟨y,H1,I1,r1,q1⟩ := z9
 exact qgn9 I1 hN hi hx r1 (fun s2 I2=>⟨_,H1,I2,q1⟩) hf
def tAug (i:Nat) (te:TE) (ti:TIp):TS:=fun D σ H=>∃ x,σ[i]?=some (some x)/\te σ H fun y H1=>ti x y H1 fun z H2=>D.nx (σ.set i (some z)) H2
theorem ps_aug {i:Nat} {x:Str} {e:Expr} {te:TE} {op:Operator} {ti:TIp} {pos':Pos} (hN:X.N.Nodup) (hi:X.N[i]?=some x) (hx:Loc X.env.scope x) (he:PE X e te) (ho:PIp X op ti) (hf:X.fn x=true\/X.env.scope.names.lookup x=some .local:=by first | exact .inl rfl | exact .inr rfl | assumption) :
  PS X (.AugAssign (.Name x pos') op e pos) (tAug i te ti):=by
 intro pins s σ H D I h
 obtain ⟨v,e1,h⟩:=h
 obtain ⟨m,hn,hl⟩:=I.loc
 have vis:Vis X.env.scope x:=by rcases hx with k | k; exact .inl k; exact .inr (.inl k)
 obtain ⟨u,r,l⟩:=hl i x v hi e1 vis
 refine wpAny_AugAssign_Name ?_
 have go:wpAny (model X.prog X.w) X.A (eval e X.env) (fun w s₂=>wpAny (model X.prog X.w) X.A (inplaceOp op u w) (fun r s₃=>wpAny (model X.prog X.w) X.A (storeName X.env x r) (fun _=>SP X pins D .next) X.xe s₃) X.xe s₂) X.xe s:=by
  refine thn (he pins s σ H _ I h) fun w s1 z9=>?_
  obtain ⟨y,H1,I1,r1,q1⟩ := z9
  refine thn (ho pins s1 σ H1 v y u w _ I1 r r1 q1) fun z s2 z9=>?_
  obtain ⟨zv,H2,I2,r2,q2⟩ := z9
  exact qgn9 I2 hN hi hx r2 (fun s3 I3=>⟨_,H2,I3,q2⟩) hf
 rcases l with ⟨hk,hm⟩ | ⟨hk,c,hc,hcell⟩
 ·exact wpAny_loadName_local I.ok.kind hk hn hm go
 ·rcases hk with hk | hk
  ·exact wpAny_loadName_cell I.ok.kind hk hc hcell go
  ·rcases hx with k | k
   ·have:X.env.scope.names.lookup x=some .free:=hk
    rw [k] at this; cases this
   ·have:X.env.scope.names.lookup x=some .free:=hk
    rw [k] at this; cases this
def ipI (f:Int->Int->Int):TIp:=fun x y H Q=>∃ i j,x=.int i/\y=.int j/\Q (.int (f i j)) H
theorem ip_add:PIp X .Add (ipI fun i j=>i+j):=by
 intro pins s σ H x y v u Q I r1 r2 h
 obtain ⟨i,j,e1,e2,q⟩:=h
 subst e1; subst e2
 obtain ⟨t,rfl⟩:=r1
 obtain ⟨t',rfl⟩:=r2
 exact iadd_int ⟨.int _,H,I.tok _,⟨_,rfl⟩,q⟩
def tWhile (c:TT) (tb:TS):TS:=fun D σ H=>∃ W:Nat->St->Hp->Prop,(∃ m,W m σ H)/\∀ m σ H,W m σ H ->
 c σ H fun b H1=>if b=true then ∃ N:St->Hp->Prop,(∀ σ' H',N σ' H'->∃ m',m' < m/\W m' σ' H')/\tb { D with nx:=N,ct:=N,bk:=D.nx } σ H1 else D.nx σ H1
theorem ps_while {c:Expr} {body:List Stmt} {tc:TT} {tb:TS} (hp:PassesOwn (model X.prog X.w) X.A X.env X.xe) (hc:PT X c tc) (hb:PSs X body tb):PS X (.While c body [] pos) (tWhile tc tb):=by
 intro pins s σ H D I h
 obtain ⟨W,⟨m0,w0⟩,turn⟩:=h
 refine wpAny_While (codeAny_whileLoop (fun n s'=>∃ σ' H',Inv X pins σ' H' s'/\W n σ' H') ?_ m0 ⟨σ,H,I,w0⟩)
 intro n s1 z9;obtain ⟨σ1,H1,I1,w1⟩ := z9
 refine wpAny_passesOwn hp (thn (hc pins s1 σ1 H1 _ I1 (turn n σ1 H1 w1)) fun b s2 z9=>?_)
 obtain ⟨H2,I2,q2⟩ := z9
 cases b with
 | true =>
  obtain ⟨N,hN,q2⟩:=q2
  rw [if_pos rfl]
  refine wpAny_passesOwn hp (thn (hb pins s2 σ1 H2 _ I2 q2) fun f s3 q3=>?_)
  cases f with
  | next =>
   obtain ⟨σ3,H3,I3,n3⟩:=q3
   obtain ⟨m',hm,w3⟩:=hN σ3 H3 n3
   exact ⟨m',hm,σ3,H3,I3,w3⟩
  | cont =>
   obtain ⟨σ3,H3,I3,n3⟩:=q3
   obtain ⟨m',hm,w3⟩:=hN σ3 H3 n3
   exact ⟨m',hm,σ3,H3,I3,w3⟩
  | brk=>exact q3
  | ret v=>exact q3
 | false =>
  rw [if_neg Bool.false_ne_true]
  exact wpAny_execs_nil ⟨σ1,H2,I2,q2⟩
end
structure It where
 go:Nat->Hp->Prop
 yld:Nat->Hp->V->Hp->Prop
 stop:Nat->Hp->Prop
def FpOk (X:Cx) (pins:List (Addr × Obj)) (H:Hp) (b:Addr):Prop :=
 H b=none/\b ≠ X.env.locals/\b ∉ X.fs/\(b∈X.ex\/X.s₀.heap.objs.size<=b)/\(∀ x c,X.env.cells.lookup x=some c->c ≠ b)/\∀ p∈X.pn ++ pins,p.1 ≠ b
theorem Inv.fpOk {X:Cx} {pins:List (Addr × Obj)} {σ:St} {H H':Hp} {s:Shared} {b:Addr} (I:Inv X pins σ H s) (hb:s.heap.objs.size<=b) (hn:H' b=none):FpOk X pins H' b:=by
 refine ⟨hn,Nat.ne_of_gt (Nat.lt_of_lt_of_le I.lt hb),I.nofs hb,.inr (Nat.le_trans I.sz hb),fun x c e z=>?_,fun p hp z=>?_⟩
 ·obtain ⟨v,q⟩:=I.cell x c e
  exact absurd (Nat.lt_of_lt_of_le q.lt (by rw [z]; exact hb)) (Nat.lt_irrefl _)
 ·exact absurd (Nat.lt_of_lt_of_le (Heap.lt_size (I.pin p hp).1) (by rw [z]; exact hb)) (Nat.lt_irrefl _)
structure Turn (P:Program) (w:World) (K:W.Frag) (tg:Expr) (J:It) (fp:List Addr) (it:Addr) (tn:Nat->Heap->Prop):Prop where
 mem:it∈fp
 obj:∀ i h,tn i h->∀ b∈fp,∃ o,h.get? b=some o/\∀ v,o.data ≠ .cell v
 keep:∀ i h h',tn i h->(∀ b∈fp,∀ o,h.get? b=some o->h'.get? b=some o)->tn i h'
 item:∀ (X:Cx),X.prog=P->X.w=w->X.K=K->X.calm=true->∀ (i:Nat) (pins:List (Addr × Obj)) (s:Shared) (σ:St) (H:Hp) (E:Value->Shared->Prop),Inv X pins σ H s->(∀ b∈fp,FpOk X pins H b)->tn i s.heap->J.go i H ->
  wpAny (model P w) X.A (pyNext (.ref it)) (fun r s1=>∃ u,r=some u /\
   wpAny (model P w) X.A (letOwnedTupleGo tg (.ref it) u) (fun _ s2=>∃ x H',Inv X pins σ H' s2/\RelV x u/\J.yld i H x H'/\tn (i+1) s2.heap/\∀ b∈fp,H' b=none) E s1) E s
 done:∀ (X:Cx),X.prog=P->X.w=w->X.K=K->X.calm=true->∀ (i:Nat) (pins:List (Addr × Obj)) (s:Shared) (σ:St) (H:Hp) (E:Value->Shared->Prop),Inv X pins σ H s->(∀ b∈fp,FpOk X pins H b)->tn i s.heap->J.stop i H ->
  wpAny (model P w) X.A (pyNext (.ref it)) (fun r s1=>r=none/\Inv X pins σ H s1) E s
 self:∀ (A:Around) (i:Nat) (s:Shared) (Q:Value->Shared->Prop) (E:Value->Shared->Prop),tn i s.heap->Q (.ref it) s->wpAny (model P w) A (pyIter (.ref it)) Q E s
abbrev TI:=St->Hp->(It->Hp->Prop)->Prop
def PIE (X:Cx) (pins:List (Addr × Obj)) (σ:St) (tg:Expr) (R:It->Hp->Prop) (itv:Value) (s2:Shared):Prop :=
 ∃ (it:Addr) (fp:List Addr) (tn:Nat->Heap->Prop) (J:It) (H':Hp),itv=.ref it/\Inv X pins σ H' s2/\Turn X.prog X.w X.K tg J fp it tn/\tn 0 s2.heap/\(∀ b∈fp,FpOk X pins H' b)/\R J H'
def PI (X:Cx) (tg iter:Expr) (wi:TI):Prop :=
 ∀ (pins:List (Addr × Obj)) (s:Shared) (σ:St) (H:Hp) (R:It->Hp->Prop),Inv X pins σ H s->wi σ H R ->
  wpAny (model X.prog X.w) X.A (eval iter X.env) (fun v s1=>wpAny (model X.prog X.w) X.A (pyIter v) (PIE X pins σ tg R) X.xe s1) X.xe s
theorem go_of {M:Model} {A:Around} {E:Value->Shared->Prop} {s:Shared} {tg:Expr} {it:Addr} {u:Value} {o:Obj} {n:String} {vs:Array Value} {Q:Unit->Shared->Prop} (ho:s.heap.get? it=some o) (hc:o.cls=.type n) (hd:o.data=.fields vs)
  (hn:["enumerate","zip","dict_itemiterator","dict_reverseitemiterator","odict_iterator","itertools.zip_longest","itertools.pairwise"].contains n=false) (hQ:Q () s):wpAny M A (letOwnedTupleGo tg (.ref it) u) Q E s:=by
 unfold letOwnedTupleGo
 cases tg <;> first
  | exact wpAny_pure hQ
  | (cases u <;> first
    | exact wpAny_pure hQ
    | (refine wpAny_bind (wpAny_load ho ?_)
       rw [hc,hd]
       show wpAny M A (if (["enumerate","zip","dict_itemiterator","dict_reverseitemiterator","odict_iterator","itertools.zip_longest","itertools.pairwise"].contains n && vs[0]? == some (rawInt _))=true then _ else _) Q E s
       rw [if_neg (by intro h; rw [hn,Bool.false_and] at h; cases h)]
       exact wpAny_pure hQ))
def Itl (K:W.Frag) (a:Addr):It :=
 ⟨fun i H=>∃ xs x,SqL K H a xs/\xs[i]?=some x,fun i H x H'=>H'=H/\∀ xs,SqL K H a xs->xs[i]?=some x,fun i H=>∃ xs,SqL K H a xs/\xs.length<=i⟩
def Itt (K:W.Frag) (a:Addr):It :=
 ⟨fun i H=>∃ xs x,SqT K H a xs/\xs[i]?=some x,fun i H x H'=>H'=H/\∀ xs,SqT K H a xs->xs[i]?=some x,fun i H=>∃ xs,SqT K H a xs/\xs.length<=i⟩
def Itr (lo:Int) (n:Nat):It:=⟨fun i _=>i < n,fun i H x H'=>H'=H/\x=.int (lo+i),fun i _=>n<=i⟩
theorem turn_list {P:Program} {w:World} {K:W.Frag} {tg:Expr} (a it:Addr):Turn P w K tg (Itl K a) [it] it (fun i h=>h.IsListIter it a i) where
 mem:=by simp
 obj:=fun i h st b hb=>by
  have e:b=it:=by simpa using hb
  subst e
  obtain ⟨o,e,c,d⟩:=st
  exact ⟨o,e,fun v z=>by rw [d] at z; cases z⟩
 keep:=fun i h h' st k=>st.at fun o e=>k it (by simp) o e
 item:=by
  intro X hP hw hK hc i pins s σ H E I hf st hg
  subst hP hw hK
  obtain ⟨xs,x,hq,hx⟩:=hg
  obtain ⟨its,rv,p,hz⟩:=I.list hq
  obtain ⟨u,hu,ru⟩:=rv.get hx
  obtain ⟨f0,f1,f2,f3,f4,f5⟩:=hf it (by simp)
  refine wpAny_pyNext_list_item st p.isList (x:=u) (by simpa using hu) fun h' st' sb=>?_
  have I1:Inv X pins σ H { s with heap:=h' }:=I.turned (t':=s.toks) (fun b o hb e=>(sb.2 b hb).trans e) f0 f1 f3 f4 f5
  obtain ⟨o,e,c,d⟩:=id st'
  exact ⟨u,rfl,go_of (s:={ s with heap:=h' }) e c d (by decide) ⟨x,H,I1,ru,⟨rfl,fun ys hy=>by rw [I.list_inj hy hq]; exact hx⟩,st',fun b hb=>(hf b hb).1⟩⟩
 done:=by
  intro X hP hw hK hc i pins s σ H E I hf st hg
  subst hP hw hK
  obtain ⟨xs,hq,hx⟩:=hg
  obtain ⟨its,rv,p,hz⟩:=I.list hq
  obtain ⟨f0,f1,f2,f3,f4,f5⟩:=hf it (by simp)
  have hl:=rv.length
  exact wpAny_pyNext_list_end (I.ok.hd hc) st p.isList (by simp; omega) fun h' eb=>⟨rfl,I.turned (t':=s.toks) (fun b o hb e=>eb b o hb e) f0 f1 f3 f4 f5⟩
 self:=fun _ _ _ _ _ st h=>wpAny_pyIter_listiter st h
theorem qqd9 {P:Program} {w:World} {K:W.Frag} {tg:Expr} (a it:Addr):Turn P w K tg (Itt K a) [it] it (fun i h=>h.IsTupleIter it a i) where
 mem:=by simp
 obj:=fun i h st b hb=>by
  have e:b=it:=by simpa using hb
  subst e
  obtain ⟨o,e,c,d⟩:=st
  exact ⟨o,e,fun v z=>by rw [d] at z; cases z⟩
 keep:=fun i h h' st k=>st.at fun o e=>k it (by simp) o e
 item:=by
  intro X hP hw hK hc i pins s σ H E I hf st hg
  subst hP hw hK
  obtain ⟨xs,x,hq,hx⟩:=hg
  obtain ⟨its,rv,p,hz⟩:=I.tuple hq
  obtain ⟨u,hu,ru⟩:=rv.get hx
  obtain ⟨f0,f1,f2,f3,f4,f5⟩:=hf it (by simp)
  refine wpAny_pyNext_tuple_item st (show s.heap.IsTuple a its.toArray from p) (x:=u) (by simpa using hu) fun h' st' sb=>?_
  have I1:Inv X pins σ H { s with heap:=h' }:=I.turned (t':=s.toks) (fun b o hb e=>(sb.2 b hb).trans e) f0 f1 f3 f4 f5
  obtain ⟨o,e,c,d⟩:=id st'
  exact ⟨u,rfl,go_of (s:={ s with heap:=h' }) e c d (by decide) ⟨x,H,I1,ru,⟨rfl,fun ys hy=>by rw [I.tuple_inj hy hq]; exact hx⟩,st',fun b hb=>(hf b hb).1⟩⟩
 done:=by
  intro X hP hw hK hc i pins s σ H E I hf st hg
  subst hP hw hK
  obtain ⟨xs,hq,hx⟩:=hg
  obtain ⟨its,rv,p,hz⟩:=I.tuple hq
  obtain ⟨f0,f1,f2,f3,f4,f5⟩:=hf it (by simp)
  have hl:=rv.length
  exact wpAny_pyNext_tuple_end (I.ok.hd hc) st (show s.heap.IsTuple a its.toArray from p) (by simp; omega) fun h' eb=>⟨rfl,I.turned (t':=s.toks) (fun b o hb e=>eb b o hb e) f0 f1 f3 f4 f5⟩
 self:=fun _ _ _ _ _ st h=>wpAny_pyIter_tupleiter st h
theorem qnr9 {P:Program} {w:World} {K:W.Frag} {tg:Expr} (it:Addr) (lo:Int) (n:Nat):Turn P w K tg (Itr lo n) [it] it (fun i h=>IsRangeIter h it (lo+(i:Nat) * 1) ((n:Int) - (i:Nat)) 1) where
 mem:=by simp
 obj:=fun i h st b hb=>by
  have e:b=it:=by simpa using hb
  subst e
  exact ⟨_,st,fun v z=>by
   have z':Data.fields _=Data.cell v:=z
   cases z'⟩
 keep:=fun i h h' st k=>k it (by simp) _ st
 item:=by
  intro X hP hw hK hc i pins s σ H E I hf st hg
  subst hP hw hK
  obtain ⟨f0,f1,f2,f3,f4,f5⟩:=hf it (by simp)
  have W:=Walks.range (prog:=X.prog) (w:=X.w) (I.ok.hd hc) it lo 1 n
  refine W.item i s _ _ hg st fun v h' tk hv st' kk=>?_
  obtain ⟨t,rfl⟩:=hv
  have I1:Inv X pins σ H { s with heap:=h',toks:=tk }:=I.turned (fun b o hb e=>kk b o (by simpa using hb) e) f0 f1 f3 f4 f5
  refine ⟨_,rfl,go_of (s:={ s with heap:=h',toks:=tk }) (n := "range_iterator") st' rfl rfl (by decide) ⟨.int (lo+i),H,I1,⟨t,?_⟩,⟨rfl,rfl⟩,st',fun b hb=>(hf b hb).1⟩⟩
  rw [Int.mul_one]
 done:=by
  intro X hP hw hK hc i pins s σ H E I hf st hg
  subst hP hw hK
  obtain ⟨f0,f1,f2,f3,f4,f5⟩:=hf it (by simp)
  exact wpAny_pyNext_range_end (I.ok.hd hc) st (by have:n<=i:=hg; omega) fun h' eb=>⟨rfl,I.turned (t':=s.toks) (fun b o hb e=>eb b o hb e) f0 f1 f3 f4 f5⟩
 self:=fun _ _ _ _ _ st h=>wpAny_pyIter_rangeiter st h
section
variable {X:Cx} {tg:Expr}
def iList (K:W.Frag) (tl:TE):TI:=fun σ H R=>tl σ H fun x H1=>∃ a,x=.ref a/\(∃ xs,SqL K H1 a xs)/\R (Itl K a) H1
def iTup (K:W.Frag) (tl:TE):TI:=fun σ H R=>tl σ H fun x H1=>∃ a,x=.ref a/\(∃ xs,SqT K H1 a xs)/\R (Itt K a) H1
theorem pi_list {l:Expr} {tl:TE} (hl:PE X l tl):PI X tg l (iList X.K tl):=by
 intro pins s σ H R I h
 refine thn (hl pins s σ H _ I h) fun v s1 z9=>?_
 obtain ⟨x,H1,I1,r1,q1⟩ := z9
 obtain ⟨a,e,⟨xs,hq⟩,q⟩:=q1
 subst e
 cases r1
 obtain ⟨its,rv,p,hz⟩:=I1.list hq
 refine wpAny_pyIter_list p.isList ?_
 refine ⟨s1.heap.objs.size,[s1.heap.objs.size],_,_,H1,rfl,I1.kept (t':=s1.toks) fun b o e=>Heap.get?_push_of_some _ e,turn_list a _,⟨_,Heap.get?_push_size _ rfl,rfl,rfl⟩,fun b hb=>?_,q⟩
 have e:b=s1.heap.objs.size:=by simpa using hb
 subst e
 exact I1.fpOk (Nat.le_refl _) (I1.hok.fresh (Nat.le_refl _))
theorem pi_tup {l:Expr} {tl:TE} (hl:PE X l tl):PI X tg l (iTup X.K tl):=by
 intro pins s σ H R I h
 refine thn (hl pins s σ H _ I h) fun v s1 z9=>?_
 obtain ⟨x,H1,I1,r1,q1⟩ := z9
 obtain ⟨a,e,⟨xs,hq⟩,q⟩:=q1
 subst e
 cases r1
 obtain ⟨its,rv,p,hz⟩:=I1.tuple hq
 refine wpAny_pyIter_tuple (show s1.heap.IsTuple a its.toArray from p) ?_
 refine ⟨s1.heap.objs.size,[s1.heap.objs.size],_,_,H1,rfl,I1.kept (t':=s1.toks) fun b o e=>Heap.get?_push_of_some _ e,qqd9 a _,⟨_,Heap.get?_push_size _ rfl,rfl,rfl⟩,fun b hb=>?_,q⟩
 have e:b=s1.heap.objs.size:=by simpa using hb
 subst e
 exact I1.fpOk (Nat.le_refl _) (I1.hok.fresh (Nat.le_refl _))
theorem range_it {pins:List (Addr × Obj)} {σ:St} {H:Hp} {s:Shared} {R:It->Hp->Prop} {E:Value->Shared->Prop} {lo hi:Int} {t u v:Tok} {tk:Nat} (I:Inv X pins σ H s) (h1:-(2 ^ 62)<=lo) (h2:lo < 2 ^ 62) (h3:-(2 ^ 62)<=hi) (h4:hi < 2 ^ 62)
  (q:R (Itr lo (hi - lo).toNat) H):wpAny (model X.prog X.w) X.A (pyIter (.ref s.heap.objs.size)) (PIE X pins σ tg R) E { s with heap:=s.heap.push { cls:=.type "range",data:=.fields #[.int lo t,.int hi u,.int 1 v] },toks:=tk }:=by
 refine wpAny_pyIter_range (IsRange.new ..) (small_one h1 h2 h3 h4) ?_
 have I1:Inv X pins σ H { s with heap:=s.heap.push { cls:=.type "range",data:=.fields #[.int lo t,.int hi u,.int 1 v] },toks:=tk }:=I.kept fun b o e=>Heap.get?_push_of_some _ e
 refine ⟨(s.heap.push { cls:=.type "range",data:=.fields #[.int lo t,.int hi u,.int 1 v] }).objs.size,[(s.heap.push { cls:=.type "range",data:=.fields #[.int lo t,.int hi u,.int 1 v] }).objs.size],_,_,H,rfl,
  I1.kept (t':=tk) fun b o e=>Heap.get?_push_of_some _ e,qnr9 _ lo (hi - lo).toNat,?_,fun b hb=>?_,q⟩
 ·have e1:lo+((0:Nat):Int) * 1=lo:=by simp
  have e2:(((hi - lo).toNat:Nat):Int) - ((0:Nat):Int)=Builtin.Range.rangeSize lo hi 1:=by rw [rangeSize_one]; split <;> omega
  show IsRangeIter _ _ (lo+((0:Nat):Int) * 1) ((((hi - lo).toNat:Nat):Int) - ((0:Nat):Int)) 1
  rw [e1,e2]
  exact Heap.get?_push_size _ rfl
 ·have e:b=(s.heap.push { cls:=.type "range",data:=.fields #[.int lo t,.int hi u,.int 1 v] }).objs.size:=by simpa using hb
  subst e
  exact I1.fpOk (Nat.le_refl _) (I1.hok.fresh (Nat.le_refl _))
def iRng1 (ta:TA):TI:=fun σ H R=>ta σ H fun vs H1=>∃ j:Int,vs=[.int j]/\-(2 ^ 62)<=j/\j < 2 ^ 62/\R (Itr 0 j.toNat) H1
theorem pi_range1 {a:Expr} {ta:TA} {p pos:Pos} (hg:Gl X "range") (hm:X.mg "range" = none) (ha:PA X [a] ta) (hs:starEach [a] X.env=[(false,eval a X.env)]:=by rfl):PI X tg (.Call (.Name "range" p) [a] [] pos) (iRng1 ta):=by
 intro pins s σ H R I h
 refine Call_ (qpa9 I hg hm boot_range (PyProof.Rows.callWith_type1 (thn (ha pos pins s σ H _ I h) fun us s1 z9=>?_) hs rfl))
 obtain ⟨vs,H1,I1,r1,q1⟩ := z9
 obtain ⟨j,e,q1,q2,q⟩:=q1
 subst e
 cases r1 with
 | cons r rr =>
  cases rr
  obtain ⟨t,rfl⟩:=r
  exact call_range_1 (range_it I1 (by omega) (by omega) q1 q2 (by simpa using q))
def tFor (wi:TI) (g:TG) (tb:TS):TS:=fun D σ H=>wi σ H fun J H1=>∃ W:Nat->Nat->St->Hp->Prop,(∃ m,W 0 m σ H1)/\∀ i m σ H,W i m σ H ->
 (J.stop i H/\D.nx σ H)\/(J.go i H/\∃ N:St->Hp->Prop,(∀ σ' H',N σ' H'->∃ m',m' < m/\W (i+1) m' σ' H')/\∀ x H',J.yld i H x H'->g x σ H' fun σ2 H2=>tb { D with nx:=N,ct:=N,bk:=D.nx } σ2 H2)
def qog9 (fp:List Addr) (h:Heap):List (Addr × Obj):=fp.filterMap fun b=>(h.get? b).map fun o=>(b,o)
theorem qfr9 {fp:List Addr} {h:Heap} {b:Addr} {o:Obj} (hb:b∈fp) (e:h.get? b=some o):(b,o)∈qog9 fp h:=List.mem_filterMap.mpr ⟨b,hb,by rw [e]; rfl⟩
theorem of_pinsAt {fp:List Addr} {h:Heap} {p:Addr × Obj} (hp:p∈qog9 fp h):p.1∈fp/\h.get? p.1=some p.2:=by
 obtain ⟨b,hb,e⟩:=List.mem_filterMap.mp hp
 cases q:h.get? b with
 | none=>rw [q] at e; cases e
 | some o =>
  rw [q] at e
  have e':(b,o)=p:=Option.some.inj e
  subst e'
  exact ⟨hb,q⟩
theorem Inv.pinned {pins:List (Addr × Obj)} {σ:St} {H:Hp} {s:Shared} {fp:List Addr} (I:Inv X pins σ H s) (hf:∀ b∈fp,FpOk X pins H b) (ho:∀ b∈fp,∃ o,s.heap.get? b=some o/\∀ v,o.data ≠ .cell v):Inv X (pins ++ qog9 fp s.heap) σ H s :=
 I.pins_of fun p hp=>(List.mem_append.mp hp).elim (fun z=>I.pin p (List.mem_append_right _ z)) fun z=>by
  obtain ⟨hb,e⟩:=of_pinsAt z
  obtain ⟨f0,f1,f2,_⟩:=hf p.1 hb
  obtain ⟨o,e',d⟩:=ho p.1 hb
  rw [e] at e'; cases e'
  exact ⟨e,f0,f1,f2,d⟩
theorem Inv.unpinned {pins pl:List (Addr × Obj)} {σ:St} {H:Hp} {s:Shared} (I:Inv X (pins ++ pl) σ H s):Inv X pins σ H s:=I.pins_of fun p hp=>I.pin p (List.mem_append_right _ (List.mem_append_left _ hp))
theorem ps_for {iter:Expr} {body:List Stmt} {wi:TI} {g:TG} {tb:TS} {pos:Pos} (hp:PassesOwn (model X.prog X.w) X.A X.env X.xe) (hc:X.calm=true) (hi:PI X tg iter wi) (hg:PG X tg g) (hb:PSs X body tb)
  (hs:∀ x,foldedSetIterable iter X.env x=pure x:=by intro _; rfl):PS X (.For tg iter body [] pos) (tFor wi g tb):=by
 intro pins s σ H D I h
 refine wpAny_For (thn (hi pins s σ H _ I h) fun v s1 h1=>thn h1 fun itv s2 h2=>?_) hs
 obtain ⟨it,fp,tn,J,H2,e,I2,T,st2,f2,W,⟨m0,w0⟩,turn⟩:=h2
 subst e
 have stat:∀ {H':Hp},(∀ b∈fp,H' b=none)->∀ b∈fp,FpOk X pins H' b:=fun hn b hb=>⟨hn b hb,(f2 b hb).2⟩
 refine codeAny_forLoop_any (fun n s'=>∃ i σ' H',Inv X pins σ' H' s'/\tn i s'.heap/\(∀ b∈fp,H' b=none)/\W i n σ' H') ?_ m0 ⟨0,σ,H2,I2,st2,fun b hb=>(f2 b hb).1,w0⟩
 intro n s3 z9;obtain ⟨i,σ3,H3,I3,st3,fr3,w3⟩ := z9
 rcases turn i n σ3 H3 w3 with ⟨stop,qn⟩ | ⟨go,N,hN,step⟩
 ·refine wpAny_passesOwn hp (thn (T.done X rfl rfl rfl hc i pins s3 σ3 H3 X.xe I3 (stat fr3) st3 stop) fun r s4 z9=>?_)
  obtain ⟨hr,I4⟩ := z9
  subst hr
  exact wpAny_execs_nil ⟨σ3,H3,I4,qn⟩
 ·refine wpAny_passesOwn hp (thn (T.item X rfl rfl rfl hc i pins s3 σ3 H3 X.xe I3 (stat fr3) st3 go) fun r s4 z9=>?_)
  obtain ⟨u,hr,h4⟩ := z9
  subst hr
  refine wpAny_passesOwn hp (thn h4 fun _ s5 z9=>?_)
  obtain ⟨x,H5,I5,r5,y5,st5,fr5⟩ := z9
  have I5':=I5.pinned (stat fr5) (T.obj _ _ st5)
  refine wpAny_passesOwn hp (thn (hg _ s5 σ3 H5 x u _ I5' r5 (step x H5 y5)) fun _ s6 z9=>?_)
  obtain ⟨σ6,H6,I6,q6⟩ := z9
  refine wpAny_passesOwn hp (thn (hb _ s6 σ6 H6 _ I6 q6) fun f s7 q7=>?_)
  have again:∀ {σ7:St} {H7:Hp},Inv X (pins ++ qog9 fp s5.heap) σ7 H7 s7->N σ7 H7->∃ m,m < n/\∃ i σ' H',Inv X pins σ' H' s7/\tn i s7.heap/\(∀ b∈fp,H' b=none)/\W i m σ' H':=fun {σ7 H7} I7 n7=>by
   obtain ⟨m',hm,w7⟩:=hN σ7 H7 n7
   refine ⟨m',hm,i+1,σ7,H7,I7.unpinned,T.keep _ _ _ st5 fun b hb o e=>(I7.pin (b,o) (List.mem_append_right _ (List.mem_append_right _ (qfr9 hb e)))).1,fun b hb=>?_,w7⟩
   obtain ⟨o,e,d⟩:=T.obj _ _ st5 b hb
   exact (I7.pin (b,o) (List.mem_append_right _ (List.mem_append_right _ (qfr9 hb e)))).2.1
  cases f with
  | next=>obtain ⟨σ7,H7,I7,n7⟩:=q7; exact again I7 n7
  | cont=>obtain ⟨σ7,H7,I7,n7⟩:=q7; exact again I7 n7
  | brk=>obtain ⟨σ7,H7,I7,q7⟩:=q7; exact ⟨σ7,H7,I7.unpinned,q7⟩
  | ret v=>obtain ⟨x7,σ7,H7,I7,r7,q7⟩:=q7; exact ⟨x7,σ7,H7,I7.unpinned,r7,q7⟩
end
theorem qfi9 {K:W.Frag} {a:Addr} {xs:List V} {g:TG} {tb:TS} {D:Ends} {σ:St} {H:Hp} (Pv:Nat->St->Hp->Prop) (h0:Pv 0 σ H) (hl:∀ i σ H,i<=xs.length->Pv i σ H->SqL K H a xs)
  (hs:∀ i x σ H,xs[i]?=some x->Pv i σ H->g x σ H fun σ2 H2=>tb { D with nx:=Pv (i+1),ct:=Pv (i+1),bk:=D.nx } σ2 H2) (hd:∀ σ H,Pv xs.length σ H->D.nx σ H) :
  ∃ W:Nat->Nat->St->Hp->Prop,(∃ m,W 0 m σ H)/\∀ i m σ H,W i m σ H ->
   ((Itl K a).stop i H/\D.nx σ H)\/((Itl K a).go i H/\∃ N:St->Hp->Prop,(∀ σ' H',N σ' H'->∃ m',m' < m/\W (i+1) m' σ' H')/\∀ x H',(Itl K a).yld i H x H'->g x σ H' fun σ2 H2=>tb { D with nx:=N,ct:=N,bk:=D.nx } σ2 H2):=by
 refine ⟨fun i m σ H=>m=xs.length - i/\i<=xs.length/\Pv i σ H,⟨xs.length,by simp,Nat.zero_le _,h0⟩,?_⟩
 intro i m σ H z9;obtain ⟨rfl,hi,p⟩ := z9
 have q:=hl i σ H hi p
 by_cases hlt:i < xs.length
 ·refine .inr ⟨⟨xs,xs[i],q,by simp [hlt]⟩,Pv (i+1),fun σ' H' p'=>⟨xs.length - (i+1),by omega,rfl,hlt,p'⟩,fun x H' y=>?_⟩
  obtain ⟨e,y⟩:=y
  subst e
  exact hs i x σ _ (y xs q) p
 ·have e:i=xs.length:=by omega
  subst e
  exact .inl ⟨⟨xs,q,Nat.le_refl _⟩,hd σ H p⟩
theorem qgi9 {lo:Int} {n:Nat} {g:TG} {tb:TS} {D:Ends} {σ:St} {H:Hp} (Pv:Nat->St->Hp->Prop) (h0:Pv 0 σ H)
  (hs:∀ i σ H,i < n->Pv i σ H->g (.int (lo+i)) σ H fun σ2 H2=>tb { D with nx:=Pv (i+1),ct:=Pv (i+1),bk:=D.nx } σ2 H2) (hd:∀ σ H,Pv n σ H->D.nx σ H) :
  ∃ W:Nat->Nat->St->Hp->Prop,(∃ m,W 0 m σ H)/\∀ i m σ H,W i m σ H ->
   ((Itr lo n).stop i H/\D.nx σ H)\/((Itr lo n).go i H/\∃ N:St->Hp->Prop,(∀ σ' H',N σ' H'->∃ m',m' < m/\W (i+1) m' σ' H')/\∀ x H',(Itr lo n).yld i H x H'->g x σ H' fun σ2 H2=>tb { D with nx:=N,ct:=N,bk:=D.nx } σ2 H2):=by
 refine ⟨fun i m σ H=>m=n - i/\i<=n/\Pv i σ H,⟨n,by simp,Nat.zero_le _,h0⟩,?_⟩
 intro i m σ H z9;obtain ⟨rfl,hi,p⟩ := z9
 by_cases hlt:i < n
 ·refine .inr ⟨hlt,Pv (i+1),fun σ' H' p'=>⟨n - (i+1),by omega,rfl,hlt,p'⟩,fun x H' y=>?_⟩
  obtain ⟨e,y⟩:=y
  subst e y
  exact hs i σ _ hlt p
 ·have e:i=n:=by omega
  subst e
  exact .inl ⟨Nat.le_refl _,hd σ H p⟩
theorem qfj9 {c:TT} {tb:TS} {D:Ends} {σ:St} {H:Hp} (Pv:St->Hp->Prop) (μ:St->Hp->Nat) (h0:Pv σ H)
  (hs:∀ σ H,Pv σ H->c σ H fun b H1=>if b=true then tb { D with nx:=fun σ' H'=>Pv σ' H'/\μ σ' H' < μ σ H,ct:=fun σ' H'=>Pv σ' H'/\μ σ' H' < μ σ H,bk:=D.nx } σ H1 else D.nx σ H1)
  (mono:∀ σ H Q Q',(∀ b H1,Q b H1->Q' b H1)->c σ H Q->c σ H Q'):tWhile c tb D σ H:=by
 refine ⟨fun m σ H=>m=μ σ H/\Pv σ H,⟨_,rfl,h0⟩,?_⟩
 intro m σ H z9;obtain ⟨rfl,p⟩ := z9
 refine mono σ H _ _ (fun b H1 q=>?_) (hs σ H p)
 cases b with
 | true=>exact ⟨_,fun σ' H' ⟨p',l⟩=>⟨_,l,rfl,p'⟩,q⟩
 | false=>exact q
abbrev R2:=V->V->Hp->VK->Prop
def OpR (X:Cx) (f:Value->Value->Sem Value) (r:R2):Prop :=
 ∀ (pins:List (Addr × Obj)) (s:Shared) (σ:St) (H:Hp) (x y:V) (v u:Value) (Q:VK),Inv X pins σ H s->RelV x v->RelV y u->r x y H Q ->
  wpAny (model X.prog X.w) X.A (f v u) (EP X pins σ Q) X.xe s
def UnR (X:Cx) (f:Value->Sem Value) (r:V->Hp->VK->Prop):Prop :=
 ∀ (pins:List (Addr × Obj)) (s:Shared) (σ:St) (H:Hp) (x:V) (v:Value) (Q:VK),Inv X pins σ H s->RelV x v->r x H Q ->
  wpAny (model X.prog X.w) X.A (f v) (EP X pins σ Q) X.xe s
def CallR (X:Cx) (f:Value) (r:List V->Hp->VK->Prop):Prop :=
 ∀ (pins:List (Addr × Obj)) (s:Shared) (σ:St) (H:Hp) (xs:List V) (us:List Value) (Q:VK),Inv X pins σ H s->Vals xs us->r xs H Q ->
  wpAny (model X.prog X.w) X.A (call f us) (EP X pins σ Q) X.xe s
def tOp (r:R2) (ta tb:TE):TE:=fun σ H Q=>ta σ H fun x H1=>tb σ H1 fun y H2=>r x y H2 Q
def tUn (r:V->Hp->VK->Prop) (ta:TE):TE:=fun σ H Q=>ta σ H fun x H1=>r x H1 Q
def rI (C:Int->Int->Prop) (g:Int->Int->V):R2:=fun x y H Q=>∃ i j,x=.int i/\y=.int j/\C i j/\Q (g i j) H
def rI0 (g:Int->Int->V):R2:=fun x y H Q=>∃ i j,x=.int i/\y=.int j/\Q (g i j) H
def rU (g:Int->V):V->Hp->VK->Prop:=fun x H Q=>∃ i,x=.int i/\Q (g i) H
section
variable {X:Cx} {a b c:Expr} {ta tb tc:TE} {pos:Pos}
theorem binT (ha:PE X a ta) (hb:PE X b tb) {pins:List (Addr × Obj)} {s:Shared} {σ:St} {H:Hp} {R:V->V->Hp->Prop} (I:Inv X pins σ H s)
  (h:ta σ H fun x H1=>tb σ H1 fun y H2=>R x y H2) {Q:Value->Shared->Prop} {f:Value->Value->Sem Value}
  (hf:∀ v u s2 x y H2,Inv X pins σ H2 s2->RelV x v->RelV y u->R x y H2->wpAny (model X.prog X.w) X.A (f v u) Q X.xe s2) :
  wpAny (model X.prog X.w) X.A (eval a X.env) (fun v s₁=>wpAny (model X.prog X.w) X.A (eval b X.env) (fun u s₂=>wpAny (model X.prog X.w) X.A (f v u) Q X.xe s₂) X.xe s₁) X.xe s:=by
 refine thn (ha pins s σ H _ I h) fun v s1 z9=>?_
 obtain ⟨x,H1,I1,r1,q1⟩ := z9
 refine thn (hb pins s1 σ H1 _ I1 q1) fun u s2 z9=>?_
 obtain ⟨y,H2,I2,r2,q2⟩ := z9
 exact hf v u s2 x y H2 I2 r1 r2 q2
theorem pe_op {op:Operator} {r:R2} (ho:OpR X (binaryOp op) r) (ha:PE X a ta) (hb:PE X b tb):PE X (.BinOp a op b pos) (tOp r ta tb):=by
 intro pins s σ H Q I h
 exact wpAny_BinOp (binT ha hb I h fun v u s2 x y H2 I2 rx ry q=>ho pins s2 σ H2 x y v u Q I2 rx ry q)
theorem pe_un {op:UnaryOp} {r:V->Hp->VK->Prop} (ho:UnR X (unaryOp op) r) (ha:PE X a ta):PE X (.UnaryOp op a pos) (tUn r ta):=by
 intro pins s σ H Q I h
 exact UnaryOp_ (thn (ha pins s σ H _ I h) fun v s1 ⟨x,H1,I1,r1,q1⟩=>ho pins s1 σ H1 x v Q I1 r1 q1)
theorem opI {f:Value->Value->Sem Value} {C:Int->Int->Prop} {g:Int->Int->Int}
  (rule:∀ (i j:Int) (t u:Tok) (s:Shared) (Q:Value->Shared->Prop) (E:Value->Shared->Prop),C i j->Q (.int (g i j) s.toks) { s with toks:=s.toks+1 }->wpAny (model X.prog X.w) X.A (f (.int i t) (.int j u)) Q E s) :
  OpR X f (rI C fun i j=>.int (g i j)):=by
 intro pins s σ H x y v u Q I rx ry h
 obtain ⟨i,j,rfl,rfl,hc,q⟩:=h
 obtain ⟨t,rfl⟩:=rx
 obtain ⟨t',rfl⟩:=ry
 exact rule i j t t' s _ _ hc ⟨.int (g i j),H,I.tok _,⟨_,rfl⟩,q⟩
theorem opI0 {f:Value->Value->Sem Value} {g:Int->Int->Int}
  (rule:∀ (i j:Int) (t u:Tok) (s:Shared) (Q:Value->Shared->Prop) (E:Value->Shared->Prop),Q (.int (g i j) s.toks) { s with toks:=s.toks+1 }->wpAny (model X.prog X.w) X.A (f (.int i t) (.int j u)) Q E s) :
  OpR X f (rI0 fun i j=>.int (g i j)):=by
 intro pins s σ H x y v u Q I rx ry h
 obtain ⟨i,j,rfl,rfl,q⟩:=h
 obtain ⟨t,rfl⟩:=rx
 obtain ⟨t',rfl⟩:=ry
 exact rule i j t t' s _ _ ⟨.int (g i j),H,I.tok _,⟨_,rfl⟩,q⟩
theorem opB0 {f:Value->Value->Sem Value} {g:Int->Int->Bool}
  (rule:∀ (i j:Int) (t u:Tok) (s:Shared) (Q:Value->Shared->Prop) (E:Value->Shared->Prop),Q (.bool (g i j)) s->wpAny (model X.prog X.w) X.A (f (.int i t) (.int j u)) Q E s) :
  OpR X f (rI0 fun i j=>.bl (g i j)):=by
 intro pins s σ H x y v u Q I rx ry h
 obtain ⟨i,j,rfl,rfl,q⟩:=h
 obtain ⟨t,rfl⟩:=rx
 obtain ⟨t',rfl⟩:=ry
 exact rule i j t t' s _ _ ⟨.bl (g i j),H,I,rfl,q⟩
def CPow (i j:Int):Prop:=0<=j/\j<=1000000/\i.natAbs < 2 ^ 64
def CMul (i j:Int):Prop:=(-(2 ^ 64) < i/\i < 2 ^ 64)\/(-(2 ^ 64) < j/\j < 2 ^ 64)
theorem CMul.ok {i j:Int} (h:CMul i j):IntMulOk i j:=by
 rcases h with ⟨h1,h2⟩ | ⟨h1,h2⟩
 ·exact .of_left (intBits_le_64 h1 h2)
 ·exact .of_right (intBits_le_64 h1 h2)
theorem op_add:OpR X (binaryOp .Add) (rI0 fun i j=>.int (i+j)):=opI0 fun _ _ _ _ _ _ _ q=>add_int q
theorem op_sub:OpR X (binaryOp .Sub) (rI0 fun i j=>.int (i - j)):=opI0 fun _ _ _ _ _ _ _ q=>sub_int q
theorem op_mul:OpR X (binaryOp .Mult) (rI CMul fun i j=>.int (i * j)):=opI fun _ _ _ _ _ _ _ hc q=>mul_int q hc.ok
theorem op_mod:OpR X (binaryOp .Mod) (rI (fun _ j=>0 < j) fun i j=>.int (i % j)):=opI fun i j _ _ _ _ _ hc q=>by
 have h1:(0:Int) < j:=hc
 exact mod_int' (by omega) (by rw [Int.fmod_eq_emod_of_nonneg i (by omega)]; exact q)
theorem op_pow:OpR X (binaryOp .Pow) (rI CPow fun i j=>.int (i ^ j.toNat)):=opI fun _ _ _ _ _ _ _ hc q=>pow_int_small hc.1 hc.2.1 hc.2.2 q
theorem unI {f:Value->Sem Value} {g:Int->Int}
  (rule:∀ (i:Int) (t:Tok) (s:Shared) (Q:Value->Shared->Prop) (E:Value->Shared->Prop),Q (.int (g i) s.toks) { s with toks:=s.toks+1 }->wpAny (model X.prog X.w) X.A (f (.int i t)) Q E s) :
  UnR X f (rU fun i=>.int (g i)):=by
 intro pins s σ H x v Q I rx h
 obtain ⟨i,rfl,q⟩:=h
 obtain ⟨t,rfl⟩:=rx
 exact rule i t s _ _ ⟨.int (g i),H,I.tok _,⟨_,rfl⟩,q⟩
theorem un_neg:UnR X (unaryOp .USub) (rU fun i=>.int (-i)):=unI fun _ _ _ _ _ q=>neg_int q
def scal:V->V->Bool
 | .non,.non=>true | .non,.int _=>true | .int _,.non=>true | .non,.bl _=>true | .bl _,.non=>true | .non,.str _=>true | .str _,.non=>true
 | .int _,.int _=>true | .bl _,.bl _=>true | .str _,.str _=>true | .byt _,.byt _=>true
 | .int _,.str _=>true | .str _,.int _=>true | .bl _,.str _=>true | .str _,.bl _=>true
 | _,_=>false
def rEq:R2:=fun x y H Q=>scal x y=true/\Q (.bl (decide (x=y))) H
def rNe:R2:=fun x y H Q=>scal x y=true/\Q (.bl (!decide (x=y))) H
theorem dec_int {i j:Int}:decide (V.int i=V.int j)=(i == j):=by
 rw [Bool.eq_iff_iff]
 simp
theorem dec_bl {i j:Bool}:decide (V.bl i=V.bl j)=(i == j):=by
 rw [Bool.eq_iff_iff]
 simp
theorem dec_str {i j:Str}:decide (V.str i=V.str j)=(i == j):=by
 rw [Bool.eq_iff_iff]
 simp
theorem dec_byt {i j:Array UInt8}:decide (V.byt i=V.byt j)=(i.toList == j.toList):=by
 rw [Bool.eq_iff_iff]
 cases i
 cases j
 simp
theorem qcp9 {pins:List (Addr × Obj)} {σ:St} {H:Hp} {s:Shared} {Q:VK} {k k':Bool} (I:Inv X pins σ H s) (q:Q (.bl k) H) (e:k=k'):EP X pins σ Q (.bool k') s:=by
 subst e
 exact ⟨.bl k,H,I,rfl,q⟩
theorem op_eq:OpR X (compareOp .Eq) rEq:=by
 intro pins s σ H x y v u Q I rx ry h
 obtain ⟨hs,q⟩:=h
 cases x with
 | non =>
  cases rx
  cases y with
  | non=>cases ry; exact PySem.EqNone.eq_none_none (qcp9 I q (by simp))
  | bl j=>cases ry; exact PySem.EqNone.eq_none_bool (qcp9 I q (by simp))
  | int j=>obtain ⟨t',rfl⟩:=ry; exact PySem.EqNone.eq_none_int (qcp9 I q (by simp))
  | str j=>obtain ⟨t',rfl⟩:=ry; exact PySem.EqNone.eq_none_str (qcp9 I q (by simp))
  | _=>exact absurd (show false=true from hs) Bool.false_ne_true
 | bl i =>
  cases rx
  cases y with
  | non=>cases ry; exact PySem.EqNone.eq_bool_none (qcp9 I q (by simp))
  | bl j=>cases ry; exact eq_bool (qcp9 I q dec_bl)
  | str j=>obtain ⟨t',rfl⟩:=ry; exact PySem.EqMixed.eq_bool_str (qcp9 I q (by simp))
  | _=>exact absurd (show false=true from hs) Bool.false_ne_true
 | int i =>
  obtain ⟨t,rfl⟩:=rx
  cases y with
  | non=>cases ry; exact PySem.EqNone.eq_int_none (qcp9 I q (by simp))
  | int j=>obtain ⟨t',rfl⟩:=ry; exact eq_int (qcp9 I q dec_int)
  | str j=>obtain ⟨t',rfl⟩:=ry; exact PySem.EqMixed.eq_int_str (qcp9 I q (by simp))
  | _=>exact absurd (show false=true from hs) Bool.false_ne_true
 | str i =>
  obtain ⟨t,rfl⟩:=rx
  cases y with
  | non=>cases ry; exact PySem.EqNone.eq_str_none (qcp9 I q (by simp))
  | bl j=>cases ry; exact PySem.EqMixed.eq_str_bool (qcp9 I q (by simp))
  | int j=>obtain ⟨t',rfl⟩:=ry; exact PySem.EqMixed.eq_str_int (qcp9 I q (by simp))
  | str j=>obtain ⟨t',rfl⟩:=ry; exact eq_str (qcp9 I q dec_str)
  | _=>exact absurd (show false=true from hs) Bool.false_ne_true
 | byt i =>
  obtain ⟨t,rfl⟩:=rx
  cases y with
  | byt j=>obtain ⟨t',rfl⟩:=ry; exact W.eq_bytes (qcp9 I q dec_byt)
  | _=>exact absurd (show false=true from hs) Bool.false_ne_true
 | _=>cases y <;> exact absurd (show false=true from hs) Bool.false_ne_true
theorem op_ne:OpR X (compareOp .NotEq) rNe:=by
 intro pins s σ H x y v u Q I rx ry h
 obtain ⟨hs,q⟩:=h
 cases x with
 | non =>
  cases rx
  cases y with
  | non=>cases ry; exact PySem.EqNone.ne_none_none (qcp9 I q (by simp))
  | bl j=>cases ry; exact PySem.EqNone.ne_none_bool (qcp9 I q (by simp))
  | int j=>obtain ⟨t',rfl⟩:=ry; exact PySem.EqNone.ne_none_int (qcp9 I q (by simp))
  | str j=>obtain ⟨t',rfl⟩:=ry; exact PySem.EqNone.ne_none_str (qcp9 I q (by simp))
  | _=>exact absurd (show false=true from hs) Bool.false_ne_true
 | bl i =>
  cases rx
  cases y with
  | non=>cases ry; exact PySem.EqNone.ne_bool_none (qcp9 I q (by simp))
  | bl j=>cases ry; exact ne_bool (qcp9 I q (congrArg not dec_bl))
  | str j=>obtain ⟨t',rfl⟩:=ry; exact PySem.EqMixed.ne_bool_str (qcp9 I q (by simp))
  | _=>exact absurd (show false=true from hs) Bool.false_ne_true
 | int i =>
  obtain ⟨t,rfl⟩:=rx
  cases y with
  | non=>cases ry; exact PySem.EqNone.ne_int_none (qcp9 I q (by simp))
  | int j=>obtain ⟨t',rfl⟩:=ry; exact ne_int (qcp9 I q (congrArg not dec_int))
  | str j=>obtain ⟨t',rfl⟩:=ry; exact PySem.EqMixed.ne_int_str (qcp9 I q (by simp))
  | _=>exact absurd (show false=true from hs) Bool.false_ne_true
 | str i =>
  obtain ⟨t,rfl⟩:=rx
  cases y with
  | non=>cases ry; exact PySem.EqNone.ne_str_none (qcp9 I q (by simp))
  | bl j=>cases ry; exact PySem.EqMixed.ne_str_bool (qcp9 I q (by simp))
  | int j=>obtain ⟨t',rfl⟩:=ry; exact PySem.EqMixed.ne_str_int (qcp9 I q (by simp))
  | str j=>obtain ⟨t',rfl⟩:=ry; exact ne_str (qcp9 I q (congrArg not dec_str))
  | _=>exact absurd (show false=true from hs) Bool.false_ne_true
 | byt i =>
  obtain ⟨t,rfl⟩:=rx
  cases y with
  | byt j=>obtain ⟨t',rfl⟩:=ry; exact W.ne_bytes (qcp9 I q (congrArg not dec_byt))
  | _=>exact absurd (show false=true from hs) Bool.false_ne_true
 | _=>cases y <;> exact absurd (show false=true from hs) Bool.false_ne_true
theorem op_lt:OpR X (compareOp .Lt) (rI0 fun i j=>.bl (decide (i < j))):=opB0 fun _ _ _ _ _ _ _ q=>lt_int q
theorem op_le:OpR X (compareOp .LtE) (rI0 fun i j=>.bl (decide (i<=j))):=opB0 fun _ _ _ _ _ _ _ q=>le_int q
theorem op_gt:OpR X (compareOp .Gt) (rI0 fun i j=>.bl (decide (j < i))):=opB0 fun _ _ _ _ _ _ _ q=>gt_int q
theorem op_ge:OpR X (compareOp .GtE) (rI0 fun i j=>.bl (decide (j<=i))):=opB0 fun _ _ _ _ _ _ _ q=>ge_int q
theorem qas9 (b:Expr) {op:CmpOp} (h:op ≠ .In:=by decide) (h2:op ≠ .NotIn:=by decide):behindInMarks op b=false:=by
 have e1:(op == CmpOp.In)=false:=by cases op <;> first | rfl | exact absurd rfl h
 have e2:(op == CmpOp.NotIn)=false:=by cases op <;> first | rfl | exact absurd rfl h2
 cases b <;> simp [behindInMarks,e1,e2]
theorem qni9 {op:CmpOp} {r:R2} (ho:OpR X (compareOp op) r) (ha:PE X a ta) (hb:PE X b tb) (hm:behindInMarks op b=false):PE X (.Compare a [op] [b] pos) (tOp r ta tb):=by
 intro pins s σ H Q I h
 exact wpAny_Compare1 (binT ha hb I h fun v u s2 x y H2 I2 rx ry q=>ho pins s2 σ H2 x y v u Q I2 rx ry q) hm
def tTest (t:TE):TT:=fun σ H Q=>t σ H fun x H'=>∃ k,x=.bl k/\Q k H'
theorem pt_cmpR {op:CmpOp} {r:R2} (ho:OpR X (compareOp op) r) (ha:PE X a ta) (hb:PE X b tb) (hm:behindInMarks op b=false):PT X (.Compare a [op] [b] pos) (tTest (tOp r ta tb)):=by
 intro pins s σ H Q I h
 refine wpAny_isTrue_Compare1 (thn (ha pins s σ H _ I h) fun v s1 ⟨x,H1,I1,r1,q1⟩=>thn (hb pins s1 σ H1 _ I1 q1) fun u s2 ⟨y,H2,I2,r2,q2⟩ =>
  thn (ho pins s2 σ H2 x y v u _ I2 r1 r2 q2) fun c s3 ⟨z,H3,I3,r3,k,e,q3⟩=>?_) hm
 subst e
 cases r3
 exact wpAny_truthy_bool ⟨H3,I3,q3⟩
def tChain (r r':R2) (ta tb tc:TE):TE:=fun σ H Q=>ta σ H fun x H1=>tb σ H1 fun y H2=>r x y H2 fun z H3=>∃ k,z=.bl k /\
 (if k=true then tc σ H3 fun w' H4=>r' y w' H4 Q else Q (.bl false) H3)
theorem pe_chain {op op':CmpOp} {r r':R2} (ho:OpR X (compareOp op) r) (ho':OpR X (compareOp op') r') (ha:PE X a ta) (hb:PE X b tb) (hc:PE X c tc)
  (hm:lastMarks [op,op'] [b,c]=false:=by with_unfolding_all rfl):PE X (.Compare a [op,op'] [b,c] pos) (tChain r r' ta tb tc):=by
 intro pins s σ H Q I h
 refine Compare_chain (thn (ha pins s σ H _ I h) fun v s1 ⟨x,H1,I1,r1,q1⟩=>chain_link (thn (hb pins s1 σ H1 _ I1 q1) fun u s2 ⟨y,H2,I2,r2,q2⟩ =>
  thn (ho pins s2 σ H2 x y v u _ I2 r1 r2 q2) fun d s3 ⟨z,H3,I3,r3,k,e,q3⟩=>?_)) hm
 subst e
 cases r3
 refine wpAny_truthy_bool ?_
 cases k with
 | false=>exact ite_ff ⟨.bl false,H3,I3,rfl,q3⟩
 | true=>exact ite_tt (chain_last (thn (hc pins s3 σ H3 _ I3 q3) fun w' s4 ⟨z',H4,I4,r4,q4⟩=>ho' pins s4 σ H4 y z' u w' Q I4 r2 r4 q4))
theorem qon9:(sizeLine:Nat) < 2 ^ 63:=by rw [sizeLine_eq]; decide
theorem vals1 {x:V} {us:List Value} (r:Vals [x] us):∃ u,us=[u]/\RelV x u:=by
 cases r with
 | cons r1 r2=>cases r2; exact ⟨_,rfl,r1⟩
theorem vals2 {x y:V} {us:List Value} (r:Vals [x,y] us):∃ u w',us=[u,w']/\RelV x u/\RelV y w':=by
 cases r with
 | cons r1 r2 =>
  cases r2 with
  | cons r3 r4=>cases r4; exact ⟨_,_,rfl,r1,r3⟩
theorem call_max2 (hc:X.calm=true):CallR X (.builtin "max") (fun xs H Q=>∃ i j,xs=[.int i,.int j]/\Q (.int (if j > i then j else i)) H):=by
 intro pins s σ H xs us Q I r h
 obtain ⟨i,j,rfl,q⟩:=h
 obtain ⟨u,w',rfl,⟨t,rfl⟩,⟨t',rfl⟩⟩:=vals2 r
 refine max_two_ints (I.ok.hd hc) fun h' tk k=>⟨_,H,I.kept k,?_,q⟩
 by_cases hj:j > i
 ·rw [if_pos hj,if_pos hj]; exact ⟨_,rfl⟩
 ·rw [if_neg hj,if_neg hj]; exact ⟨_,rfl⟩
theorem call_min2 (hc:X.calm=true):CallR X (.builtin "min") (fun xs H Q=>∃ i j,xs=[.int i,.int j]/\Q (.int (if j < i then j else i)) H):=by
 intro pins s σ H xs us Q I r h
 obtain ⟨i,j,rfl,q⟩:=h
 obtain ⟨u,w',rfl,⟨t,rfl⟩,⟨t',rfl⟩⟩:=vals2 r
 refine min_two_ints (I.ok.hd hc) fun h' tk k=>⟨_,H,I.kept k,?_,q⟩
 by_cases hj:j < i
 ·rw [if_pos hj,if_pos hj]; exact ⟨_,rfl⟩
 ·rw [if_neg hj,if_neg hj]; exact ⟨_,rfl⟩
end
structure ObjM (h:Heap) (x dx C:Addr) (mA:Str->Option Value):Prop where
 obj:h.get? x=some (W.instObj C dx)
 ns:h.Ns1 dx mA
 ne:dx ≠ x
theorem lookIn_ns {h:Heap} {dx:Addr} {mA:Str->Option Value} (n:h.Ns1 dx mA):∃ od,h.get? dx=some od/\∀ name,W.lookIn name od=some (mA name):=by
 obtain ⟨o,es,ep,ho,hd,hk,_,hm⟩:=n
 refine ⟨o,ho,fun name=>?_⟩
 have e:=hm name
 unfold nsFind findBy at e
 rw [<- Array.find?_toList] at e
 unfold W.lookIn
 rw [hd]
 dsimp only
 split
 ·rename_i y q
  rw [q] at e
  exact congrArg some e
 ·rename_i q
  rw [q] at e
  have a:es.toList.any (·.refKey)=false:=by
   rw [List.any_eq_false]
   intro y hy
   obtain ⟨z,t,hkey⟩:=hk y (Array.mem_toList_iff.mp hy)
   simp [DictEntry.refKey,hkey]
  have a':¬ es.toList.any (·.refKey)=true:=by rw [a]; exact Bool.false_ne_true
  rw [if_neg a']
  exact congrArg some e
theorem ObjM.look {h:Heap} {x dx C:Addr} {mA:Str->Option Value} (I:ObjM h x dx C mA):∃ od,W.InstAt h x (W.instObj C dx) C (some od)/\∀ name,W.lookIn name od=some (mA name) :=
 let ⟨od,ho,hl⟩:=lookIn_ns I.ns
 ⟨od,⟨I.obj,rfl,rfl,ho⟩,hl⟩
section
variable {prog:Program} {w:World} {A:Around} {E:Value->Shared->Prop} {s:Shared} {K:W.Frag} {x dx C f:Addr} {mA:Str->Option Value} {name:Str} {v:Value}
theorem get_map {expr:Bool} {Q:Value->Shared->Prop} (X:K.In s.heap) (I:ObjM s.heap x dx C mA) (hg:W.plainGet K C name=true) (hh:W.hasDictIn K C=true)
  (ha:W.findIn K (.ref C) name=some none) (hv:mA name=some v) (hv':W.handedIn v=true) (h:Q v { s with toks:=s.toks+1 }) :
  wpAny (model prog w) A (getAttr (.ref x) name expr) Q E s:=by
 obtain ⟨od,J,hl⟩:=I.look
 exact W.get_value X J (W.plainGet_of hg).1 (W.findObj_own hh ha rfl (by rw [hl,hv])) hv' h
theorem get_meth {pl:Sem Bool} {Q:Value × List Value->Shared->Prop} (X:K.In s.heap) (I:ObjM s.heap x dx C mA) (hg:W.plainGet K C name=true)
  (hf:W.findIn K (.ref C) name=some (some (.ref f))) (ht:W.isFn K (.ref f)=true) (hv:mA name=none) (h:Q (.ref f,[.ref x]) s) :
  wpAny (model prog w) A (getMethod (.ref x) name pl) Q E s:=by
 obtain ⟨od,J,hl⟩:=I.look
 exact W.method_fn X J (W.plainGet_of hg).1 (W.plainGet_of hg).2 hf (beq_iff_eq.mp ht) (by show (W.lookIn name od).map (·.isSome)=some false; rw [hl,hv]; rfl) h
theorem qld9 {ns:List Str} {Q:Unit->Shared->Prop} (X:K.In s.heap) (I:ObjM s.heap x dx C mA)
  (hs:W.findIn K (.ref C) "__setattr__" = some (some (.builtin "object.__setattr__"))) (hp:W.plainOver K C=true) (ht:W.takerIn K C name=some none) (hh:W.hasDictIn K C=true)
  (hw:PySem.Within mA ns) (hsz:ns.length<=sizeLine)
  (h:∀ h',ObjM h' x dx C (fun y=>if y=name then some v else mA y)->Heap.SameBut dx s.heap h'->Q () { s with heap:=h',toks:=s.toks+2 }) :
  wpAny (model prog w) A (setAttr (.ref x) name v) Q E s:=by
 obtain ⟨od,J,hl⟩:=I.look
 refine W.set_plain X J hs (W.osa_open (s:={ s with toks:=s.toks+1 }) (r:=none) X J hp ht fun b=>?_)
 obtain ⟨cd,hc,hd'⟩:=W.any_some hh
 have hx:s.heap.get? x=some ⟨.ref C,some dx,.plain,#[]⟩:=I.obj
 refine wpAny_bind (wpAny_pure (wpAny_bind (wpAny_bind (wpAny_loadPart hx (wpAny_bind (W.Looks.here (s:={ s with toks:=s.toks+1 }) (W.looks_clsIn X hc) ?_))))))
 rw [hd']
 refine wpAny_pure (a:=some dx) (wpAny_bind (wpAny_pure (wpAny_bind ?_)))
 refine wpAny_nsSet1 (s:={ s with toks:=s.toks+1 }) I.ns fun h' hn2 hs2=>?_
 obtain ⟨oD,esD,epD,hoD,hdD,hcD⟩:=hn2.count (PySem.Within.cons name v hw)
 refine wpAny_bind (wpAny_lookBehind hoD (by rw [hdD]; exact pastItsLine_dict (Nat.le_trans hcD (by rw [List.length_cons]; omega))) ?_)
 exact wpAny_pure (h _ ⟨(hs2.2 _ (Ne.symm I.ne)).trans I.obj,hn2,I.ne⟩ hs2)
theorem make_map {R:Result->Shared->Prop} {vs:List Value} {kw:List (Str × Value)} (X:K.In s.heap) (hm:W.makesIn K C=true)
  (hi:W.findIn K (.ref C) "__init__" = some (some (.ref f))) (hf:W.typeIn K (.ref f)=some (.type "function"))
  (h:codeAny (model prog w) (A.under (.builtin "type.__call__" ⟨.ref C :: vs,kw⟩)) (.call (.ref f) ⟨.ref (s.heap.objs.size+1) :: vs,kw⟩) (W.InitBack (s.heap.objs.size+1) R)
   { s with heap:=(s.heap.push W.emptyDict).push (W.instObj C s.heap.objs.size) }) :
  codeAny (model prog w) A (.call (.ref C) ⟨vs,kw⟩) R s:=by
 obtain ⟨hh,g,d,t,os⟩:=s
 exact W.make_core (W.makes_of X hm) (W.looks_findIn X hi) (fun self=>W.bind_fn X self hf) (.inl rfl) h
end
def putF (f:Str) (v:V):List (Str × V)->List (Str × V)
 | []=>[(f,v)]
 | (g,x) :: r=>if g=f then (g,v) :: r else (g,x) :: putF f v r
theorem qhj9 (f g:Str) (v:V):∀ fs:List (Str × V),(putF f v fs).lookup g=if g=f then some v else fs.lookup g
 | []=>by
  show List.lookup g [(f,v)]=_
  by_cases h:g=f
  ·have hb:(g == f)=true:=beq_iff_eq.mpr h
   simp only [List.lookup,hb,if_pos h]
  ·have hb:(g == f)=false:=beq_eq_false_iff_ne.mpr h
   simp only [List.lookup,hb,if_neg h]
 | (k,x) :: r=>by
  have ih:=qhj9 f g v r
  rw [show putF f v ((k,x) :: r)=(if k=f then (k,v) :: r else (k,x) :: putF f v r) from rfl]
  by_cases hk:k=f
  ·rw [if_pos hk]
   by_cases h:g=k
   ·have hb:(g == k)=true:=beq_iff_eq.mpr h
    simp only [List.lookup,hb,if_pos (h.trans hk)]
   ·have hb:(g == k)=false:=beq_eq_false_iff_ne.mpr h
    simp only [List.lookup,hb,if_neg (fun e:g=f=>h (e.trans hk.symm))]
  ·rw [if_neg hk]
   by_cases h:g=k
   ·have hb:(g == k)=true:=beq_iff_eq.mpr h
    simp only [List.lookup,hb,if_neg (fun e:g=f=>hk (h.symm.trans e))]
   ·have hb:(g == k)=false:=beq_eq_false_iff_ne.mpr h
    simp only [List.lookup,hb]
    exact ih
theorem qip9 (f:Str) (v:V):∀ fs:List (Str × V),f∈(putF f v fs).map (·.1)/\∀ g,g∈fs.map (·.1)->g∈(putF f v fs).map (·.1)
 | []=>⟨by simp [putF],fun g h=>by simp at h⟩
 | (k,x) :: r=>by
  obtain ⟨i1,i2⟩:=qip9 f v r
  rw [show putF f v ((k,x) :: r)=(if k=f then (k,v) :: r else (k,x) :: putF f v r) from rfl]
  by_cases hk:k=f
  ·rw [if_pos hk]
   subst hk
   exact ⟨by simp,fun g h=>by simpa using h⟩
  ·rw [if_neg hk]
   refine ⟨?_,fun g h=>?_⟩
   ·rw [List.map_cons]
    exact List.mem_cons_of_mem _ i1
   ·rw [List.map_cons] at h ⊢
    rcases List.mem_cons.mp h with e | e
    ·exact List.mem_cons.mpr (.inl e)
    ·exact List.mem_cons_of_mem _ (i2 g e)
theorem qfy9 (f:Str) (v:V):∀ fs:List (Str × V),(putF f v fs).length<=fs.length+1
 | []=>by simp [putF]
 | (k,x) :: r=>by
  have ih:=qfy9 f v r
  rw [show putF f v ((k,x) :: r)=(if k=f then (k,v) :: r else (k,x) :: putF f v r) from rfl]
  by_cases hk:k=f
  ·rw [if_pos hk,List.length_cons,List.length_cons]; omega
  ·rw [if_neg hk,List.length_cons,List.length_cons]; omega
theorem RelO.some_of {v:V} {o:Option Value} (r:RelO (some v) o):∃ u,o=some u/\RelV v u:=by
 cases o with
 | none=>exact (show False from r).elim
 | some u=>exact ⟨u,rfl,r⟩
theorem RelO.none_of {o:Option Value} (r:RelO none o):o=none:=by
 cases o with
 | none=>rfl
 | some u=>exact (show False from r).elim
theorem handed_of {v:V} {u:Value} (r:RelV v u):W.handedIn u=true:=by
 cases v with
 | non=>cases (show u=Value.none from r); rfl
 | bl b=>cases (show u=Value.bool b from r); rfl
 | int i=>obtain ⟨t,e⟩:=(show ∃ t,u=Value.int i t from r); cases e; rfl
 | str x=>obtain ⟨t,e⟩:=(show ∃ t,u=Value.str x t from r); cases e; rfl
 | byt b=>obtain ⟨t,e⟩:=(show ∃ t,u=Value.bytes b t from r); cases e; rfl
 | flt b=>obtain ⟨t,e⟩:=(show ∃ t,u=Value.float b t from r); cases e; rfl
 | ref a=>cases (show u=Value.ref a from r); rfl
 | ty n=>cases (show u=Value.type n from r); rfl
section
variable {P:Program} {w:World} {H H':Hp} {h h':Heap} {a C dx:Addr} {fs fs':List (Str × V)}
theorem qlg9 (hok:HOk P w H h) (e:H a=some (.ins C dx fs)):∃ mA,ObjM h a dx C mA/\(∀ f,RelO (fs.lookup f) (mA f))/\PySem.Within mA (fs.map (·.1))/\fs.length<=1000/\H dx=some (.own a):=by
 obtain ⟨d,z,ne,ob,mA,n,r,q⟩:=(show ObjOk P w H h a (.ins C dx fs) from hok a _ e)
 exact ⟨mA,⟨ob,n,ne⟩,r,q,z,d⟩
end
structure Cls (K:W.Frag) (C:Addr):Prop where
 pg:W.plainGet K C Str.empty=true
 hd:W.hasDictIn K C=true
 po:W.plainOver K C=true
 sa:W.findIn K (.ref C) "__setattr__" = some (some (.builtin "object.__setattr__"))
theorem Cls.get {K:W.Frag} {C:Addr} (c:Cls K C) (f:Str):W.plainGet K C f=true:=c.pg
def NoAttr (K:W.Frag) (C:Addr) (f:Str):Prop:=W.findIn K (.ref C) f=some none
theorem NoAttr.taker {K:W.Frag} {C:Addr} {f:Str} (n:NoAttr K C f):W.takerIn K C f=some none:=by
 unfold W.takerIn
 rw [show W.findIn K (.ref C) f=some none from n]
 rfl
structure Meth (K:W.Frag) (C:Addr) (m:Str) (f:Addr):Prop where
 at_:W.findIn K (.ref C) m=some (some (.ref f))
 fn:W.isFn K (.ref f)=true
 kp:W.keepIn K (.ref f)=true
section
variable {X:Cx} {pins:List (Addr × Obj)} {σ:St} {H:Hp} {s:Shared} {a C dx:Addr} {fs:List (Str × V)} {f:Str} {v:V} {A:Around} {E:Value->Shared->Prop}
theorem qnp9 {b:Bool} {Q:Value->Shared->Prop} (I:Inv X pins σ H s) (e:H a=some (.ins C dx fs)) (c:Cls X.K C) (n:NoAttr X.K C f) (l:fs.lookup f=some v)
  (h:∀ u s',Inv X pins σ H s'->RelV v u->Q u s'):wpAny (model X.prog X.w) A (getAttr (.ref a) f b) Q E s:=by
 obtain ⟨mA,O,r,_,_,_⟩:=qlg9 I.hok e
 obtain ⟨u,hu,ru⟩:=RelO.some_of (v:=v) (o:=mA f) (by rw [<- l]; exact r f)
 exact get_map I.kIn O (c.get f) c.hd n hu (handed_of ru) (h u _ (I.tok _) ru)
theorem qoi9 {m:Str} {g:Addr} {pl:Sem Bool} {Q:Value × List Value->Shared->Prop} (I:Inv X pins σ H s) (e:H a=some (.ins C dx fs)) (c:Cls X.K C) (k:Meth X.K C m g) (l:fs.lookup m=none)
  (h:Q (.ref g,[.ref a]) s):wpAny (model X.prog X.w) A (getMethod (.ref a) m pl) Q E s:=by
 obtain ⟨mA,O,r,_,_,_⟩:=qlg9 I.hok e
 have hn:mA m=none:=RelO.none_of (by rw [<- l]; exact r m)
 exact get_meth I.kIn O (c.get m) k.at_ k.fn hn h
theorem qnl9 {y:V} {u:Value} {Q:Unit->Shared->Prop} (I:Inv X pins σ H s) (e:H a=some (.ins C dx fs)) (c:Cls X.K C) (n:NoAttr X.K C f) (hl:fs.length < 1000) (ry:RelV y u)
  (h:∀ s',Inv X pins σ (upd H a (.ins C dx (putF f y fs))) s'->Q () s'):wpAny (model X.prog X.w) A (setAttr (.ref a) f u) Q E s:=by
 obtain ⟨mA,O,r,wi,_,ho⟩:=qlg9 I.hok e
 have hz:(fs.map (·.1)).length<=sizeLine:=by rw [List.length_map,sizeLine_eq]; omega
 refine qld9 I.kIn O c.sa c.po n.taker c.hd wi hz fun h' O' sb=>h _ ?_
 have hd:∃ o,h'.get? dx=some o:=let ⟨o,_,_,e',_⟩:=O'.ns; ⟨o,e'⟩
 refine I.write (x:=a) (e:=dx) (by rw [e]; exact True.intro) (.inr ho) (fun b q hb z=>(sb.2 b hb).trans z) hd ?_
 refine ⟨by rw [qaq9 O.ne]; exact ho,?_,O.ne,O'.obj,_,O'.ns,fun g=>?_,fun g hg=>?_⟩
 ·have:=qfy9 f y fs; omega
 ·show RelO ((putF f y fs).lookup g) (if g=f then some u else mA g)
  rw [qhj9]
  by_cases q:g=f
  ·rw [if_pos q,if_pos q]; exact ry
  ·rw [if_neg q,if_neg q]; exact r g
 ·by_cases q:g=f
  ·rw [q]; exact (qip9 f y fs).1
  ·refine (qip9 f y fs).2 g (wi g fun z=>hg ?_)
   show (if g=f then some u else mA g)=none
   rw [if_neg q]; exact z
theorem Inv.made (I:Inv X pins σ H s):Inv X pins σ (upd (upd H s.heap.objs.size (.own (s.heap.objs.size+1))) (s.heap.objs.size+1) (.ins C s.heap.objs.size []))
  { s with heap:=(s.heap.push W.emptyDict).push (W.instObj C s.heap.objs.size) }:=by
 have e1:(s.heap.push W.emptyDict).get? s.heap.objs.size=some W.emptyDict:=Heap.get?_push_size s.heap rfl
 have e2:((s.heap.push W.emptyDict).push (W.instObj C s.heap.objs.size)).get? (s.heap.objs.size+1)=some (W.instObj C s.heap.objs.size):=by
  have:=Heap.get?_push_size (s.heap.push W.emptyDict) (o:=W.instObj C s.heap.objs.size) rfl
  rwa [Heap.size_push] at this
 have e3:(s.heap.push W.emptyDict).Ns s.heap.objs.size (fun _=>none):=⟨W.emptyDict,#[],_,e1,rfl,(fun e he=>absurd he (by simp)),fun _=>rfl⟩
 have I1:=I.laid (a:=s.heap.objs.size) (o:=.own (s.heap.objs.size+1)) (h':=s.heap.push W.emptyDict) (t':=s.toks) (fun b u q=>Heap.get?_push_of_some _ q) (Nat.le_refl _) ⟨_,e1⟩
 refine I1.laid (a:=s.heap.objs.size+1) (o:=.ins C s.heap.objs.size []) (t':=s.toks) (fun b u q=>Heap.get?_push_of_some _ q) (Nat.le_of_eq (Heap.size_push _ _)) ?_
 have ne:s.heap.objs.size ≠ s.heap.objs.size+1:=Nat.ne_of_lt (Nat.lt_succ_self _)
 refine ⟨by rw [qaq9 ne,qaf9],Nat.zero_le _,ne,e2,fun _=>none,(Heap.Ns1.of_empty e3).at fun o q=>Heap.get?_push_of_some _ q,fun _=>True.intro,fun y hy=>absurd rfl hy⟩
theorem attr_of {prog:Program} {w:World} {env:Env} {e:Expr} {f:Str} {pos:Pos} {s:Shared} {Q:Value->Shared->Prop} (hb:attributeBase e f env (eval e env)=eval e env)
  (h:wpAny (model prog w) A (eval e env) (fun o s₁=>wpAny (model prog w) A (getAttr o f true) Q E s₁) E s):wpAny (model prog w) A (eval (.Attribute e f pos) env) Q E s :=
 Attribute_any_ h (by rw [arm_eval_Attribute,hb])
end
def tFld (K:W.Frag) (ta:TE) (f:Str):TE:=fun σ H Q=>ta σ H fun x H1=>∃ a C dx fs v,x=.ref a/\H1 a=some (.ins C dx fs)/\Cls K C/\NoAttr K C f/\fs.lookup f=some v/\Q v H1
def sFld (K:W.Frag) (ta tv:TE) (f:Str):TS:=fun D σ H=>tv σ H fun y H1=>ta σ H1 fun x H2=>∃ a C dx fs,x=.ref a/\H2 a=some (.ins C dx fs)/\Cls K C/\NoAttr K C f/\fs.length < 1000 /\
 D.nx σ (upd H2 a (.ins C dx (putF f y fs)))
section
variable {X:Cx} {o e value:Expr} {f:Str} {pos pos' tpos:Pos} {ta tv:TE}
theorem pe_fld (he:PE X e ta) (hb:attributeBase e f X.env (eval e X.env)=eval e X.env):PE X (.Attribute e f pos) (tFld X.K ta f):=by
 intro pins s σ H Q I h
 refine attr_of hb (thn (he pins s σ H _ I h) fun u s1 z9=>?_)
 obtain ⟨x,H1,I1,rx,a,C,dx,fs,v,ex,ea,c,n,l,q⟩ := z9
 subst ex
 obtain rfl:u=Value.ref a:=rx
 exact qnp9 I1 ea c n l fun u' s2 I2 ru=>⟨v,H1,I2,ru,q⟩
theorem ps_fld (ha:PE X o ta) (hv:PE X value tv) (hs:swapsWith value (some (.Attribute o f pos')) pos.line X.env=pure false):PS X (.Assign [.Attribute o f pos'] value pos) (sFld X.K ta tv f):=by
 intro pins s σ H D I h
 refine plainObj_wpAny_Assign_Attribute (thn (hv pins s σ H _ I h) fun u s1 ⟨y,H1,I1,ry,q⟩=>thn (ha pins s1 σ H1 _ I1 q) fun ov s2 z9=>?_) hs
 obtain ⟨x,H2,I2,rx,a,C,dx,fs,ex,ea,c,n,l,q2⟩ := z9
 subst ex
 obtain rfl:ov=Value.ref a:=rx
 exact qnl9 I2 ea c n l ry fun s3 I3=>⟨σ,_,I3,q2⟩
end
section
variable {X:Cx} {pins:List (Addr × Obj)} {σ:St} {H:Hp} {s:Shared} {A:Around} {E:Value->Shared->Prop} {Q:Value->Shared->Prop} {c:Value} {b:Bool}
inductive TyOf (K:W.Frag) (H:Hp):V->Value->Prop where
 | non:TyOf K H .non (.type "NoneType")
 | bl (x:Bool):TyOf K H (.bl x) (.type "bool")
 | int (i:Int):TyOf K H (.int i) (.type "int")
 | str (x:Str):TyOf K H (.str x) (.type "str")
 | flt (x:UInt64):TyOf K H (.flt x) (.type "float")
 | lst {a:Addr} {xs:List V} (e:H a=some (.lst xs)):TyOf K H (.ref a) (.type "list")
 | frz {a:Addr} {o:Obj} {xs:List V} (e:H a=some (.frz o (.lst xs))):TyOf K H (.ref a) (.type "list")
 | tup {a:Addr} {xs:List V} (e:H a=some (.tup xs)):TyOf K H (.ref a) (.type "tuple")
 | dK {a:Addr} {kvs:List (Key × V)} (e:H a=some (.dK kvs)):TyOf K H (.ref a) (.type "dict")
 | dT {a:Addr} {kvs:List (List Key × V)} (e:H a=some (.dT kvs)):TyOf K H (.ref a) (.type "dict")
 | ins {a C dx:Addr} {fs:List (Str × V)} (e:H a=some (.ins C dx fs)) (cl:Cls K C) (ha:W.findIn K (.ref C) "__class__" = some (some (.builtin "object.__class__")))
   (hn:W.specialIn K (.builtin "object.__class__") "__get__" = some (some (.builtin "getset_descriptor.__get__"))) (htk:W.takesIn K (.builtin "object.__class__")=some true)
   (hm:W.mroIn K C (.type "object")=some true):TyOf K H (.ref a) (.ref C)
theorem isinst_ok {x:V} {u t:Value} (I:Inv X pins σ H s) (rx:RelV x u) (ty:TyOf X.K H x t) (e:W.kitOne X.K t c=some b) (h:∀ tk,Q (.bool b) { s with toks:=tk }) :
  wpAny (model X.prog X.w) A (call (.builtin "isinstance") [u,c]) Q E s:=by
 cases ty with
 | non=>cases (show u=Value.none from rx); exact W.kia_one W.kitx_none I.kIn True.intro e (fun z=>nomatch z) h
 | bl y=>cases (show u=Value.bool y from rx); exact W.kia_one W.kitx_bool I.kIn True.intro e (fun z=>nomatch z) h
 | int i=>obtain ⟨t,q⟩:=(show ∃ t,u=Value.int i t from rx); cases q; exact W.kia_one W.kitx_int I.kIn True.intro e (fun z=>nomatch z) h
 | str y=>obtain ⟨t,q⟩:=(show ∃ t,u=Value.str y t from rx); cases q; exact W.kia_one W.kitx_str I.kIn True.intro e (fun z=>nomatch z) h
 | flt y=>obtain ⟨t,q⟩:=(show ∃ t,u=Value.float y t from rx); cases q; exact W.kia_one W.kitx_float I.kIn True.intro e (fun z=>nomatch z) h
 | @lst a xs ea =>
  cases (show u=Value.ref a from rx)
  obtain ⟨_,_,n,_,h1⟩:=(show ObjOk X.prog X.w H s.heap a (.lst xs) from I.hok a _ ea)
  exact W.kia_one W.kitx_list I.kIn ⟨_,h1,rfl⟩ e (fun z=>nomatch z) h
 | @frz a ob xs ea =>
  cases (show u=Value.ref a from rx)
  obtain ⟨_,_,_,n,_,h1⟩:=(show ObjOk X.prog X.w H s.heap a (.frz ob (.lst xs)) from I.hok a _ ea)
  exact W.kia_one W.kitx_list I.kIn ⟨_,h1,rfl⟩ e (fun z=>nomatch z) h
 | @tup a xs ea =>
  cases (show u=Value.ref a from rx)
  obtain ⟨_,_,_,p⟩:=(show ObjOk X.prog X.w H s.heap a (.tup xs) from I.hok a _ ea)
  obtain ⟨o,h1,h2,_⟩:=p
  exact W.kia_one W.kitx_tuple I.kIn ⟨o,h1,h2⟩ e (fun z=>nomatch z) h
 | @dK a kvs ea =>
  cases (show u=Value.ref a from rx)
  obtain ⟨_,_,vs,_,p⟩:=(show ObjOk X.prog X.w H s.heap a (.dK kvs) from I.hok a _ ea)
  obtain ⟨o,es,ep,h1,h2,_⟩:=p
  exact W.kia_one W.kitx_dict I.kIn ⟨o,h1,h2.1⟩ e (fun z=>nomatch z) h
 | @dT a kvs ea =>
  cases (show u=Value.ref a from rx)
  obtain ⟨_,_,xs,_,o,es,ep,h1,h2,_⟩:=(show ObjOk X.prog X.w H s.heap a (.dT kvs) from I.hok a _ ea)
  exact W.kia_one W.kitx_dict I.kIn ⟨o,h1,h2.1⟩ e (fun z=>nomatch z) h
 | @ins a C dx fs ea cl ha hn htk hm =>
  cases (show u=Value.ref a from rx)
  obtain ⟨mA,O,_⟩:=qlg9 I.hok ea
  obtain ⟨od,J,_⟩:=O.look
  exact W.kia_one (W.kitx_own (cl.get _) cl.hd ha hn htk hm) I.kIn J e (fun z=>nomatch z) h
end
structure Room (k:Nat) (A:Around):Prop where
 hd:A.handled=none
 dp:A.depth+3 * k+5 < recursionLimit
 un:A.units+16 * k+200 < cLine
theorem Room.mono {j k:Nat} {A:Around} (r:Room k A) (h:j<=k):Room j A:=⟨r.hd,by have:=r.dp; omega,by have:=r.un; omega⟩
theorem Room.deeper {k:Nat} {A:Around} (r:Room (k+1) A) (env:Env):Room k (A.deeper env) :=
 ⟨r.hd,by have:=r.dp; show A.depth+1+3 * k+5 < _; omega,by have:=r.un; show A.units+3+16 * k+200 < _; omega⟩
theorem qps9 {A:Around} {C:Addr} {us:List Value} {kw:List (Str × Value)}:(A.under (.builtin "type.__call__" ⟨.ref C :: us,kw⟩)).depth=A.depth+1:=by
 first | rfl | simp [Around.under,Code.weight,Code.isCreation,Code.isGuard,Code.isCaller,Code.frames,Code.isFrame,guardIds]
theorem qpy9 {A:Around} {C:Addr} {us:List Value} {kw:List (Str × Value)}:(A.under (.builtin "type.__call__" ⟨.ref C :: us,kw⟩)).units=A.units+1:=by
 first | rfl | simp [Around.under,Code.cUnits,Code.frames,Code.isFrame]
theorem Room.make {k:Nat} {A:Around} (r:Room (k+1) A) (C:Addr) (us:List Value) (kw:List (Str × Value)):Room k (A.under (.builtin "type.__call__" ⟨.ref C :: us,kw⟩)) :=
 ⟨r.hd,by have:=r.dp; rw [qps9]; omega,by have:=r.un; rw [qpy9]; omega⟩
theorem Room.depth {k:Nat} {A:Around} (r:Room k A):A.depth < recursionLimit:=by have:=r.dp; omega
theorem Room.units {k:Nat} {A:Around} (r:Room k A):A.units+64 < cLine:=by have:=r.un; omega
def tNil:TA:=fun _ H Q=>Q [] H
def tCons (ta:TE) (tr:TA):TA:=fun σ H Q=>ta σ H fun x H1=>tr σ H1 fun xs H2=>Q (x :: xs) H2
section
variable {X:Cx} {e:Expr} {es:List Expr} {te:TE} {t:TA} {pos:Pos}
theorem pa_nil:PA X [] tNil:=fun _ _ _ _ H Q I h=>Calls.spliced_nil ⟨[],H,I,.nil,h⟩
theorem pa_cons (ha:PE X e te) (hr:PA X es t) (hs:starEach (e :: es) X.env=(false,eval e X.env) :: starEach es X.env:=by rfl):PA X (e :: es) (tCons te t):=by
 intro pos pins s σ H Q I h
 rw [hs]
 show wpAny _ _ (spliced ((false,eval e X.env) :: backTo pos (starEach es X.env))) _ _ s
 refine Calls.spliced_cons (thn (ha pins s σ H _ I h) fun u s1 z9=>?_)
 obtain ⟨x,H1,I1,r1,q1⟩ := z9
 exact thn (hr pos pins s1 σ H1 _ I1 q1) fun us s2 ⟨xs,H2,I2,r2,q2⟩=>⟨x :: xs,H2,I2,.cons r1 r2,q2⟩
def tTup (t:TA):TE:=fun σ H Q=>t σ H fun xs H1=>xs.length<=sizeLine/\∀ p,H1 p=none->Q (.ref p) (upd H1 p (.tup xs))
def tLst (t:TA):TE:=fun σ H Q=>t σ H fun xs H1=>xs.length<=sizeLine/\∀ p,H1 p=none->Q (.ref p) (upd H1 p (.lst xs))
theorem pe_tup {x1} (h:PA X es t):PE X (.Tuple es x1 pos) (tTup t):=by
 intro pins s σ H Q I hq
 refine wpAny_Tuple_spliced (thn (h pos pins s σ H _ I hq) fun us s1 ⟨xs,H1,I1,r,z,q⟩=>⟨by rw [<- r.length]; exact z,?_⟩)
 have hf:H1 s1.heap.objs.size=none:=I1.hok.fresh (Nat.le_refl _)
 refine ⟨.ref s1.heap.objs.size,upd H1 s1.heap.objs.size (.tup xs),I1.laid (t':=s1.toks) (fun b u e=>Heap.get?_push_of_some _ e) (Nat.le_refl _) ?_,rfl,q _ hf⟩
 exact ⟨z,us,r,⟨_,Heap.get?_push_size _ rfl,rfl,_,rfl⟩⟩
theorem pe_lst (h:PA X es t):PE X (.List es pos) (tLst t):=by
 intro pins s σ H Q I hq
 refine wpAny_List_spliced (thn (h pos pins s σ H _ I hq) fun us s1 ⟨xs,H1,I1,r,z,q⟩=>⟨by rw [<- r.length]; exact z,?_⟩)
 have hf:H1 s1.heap.objs.size=none:=I1.hok.fresh (Nat.le_refl _)
 refine ⟨.ref s1.heap.objs.size,upd H1 s1.heap.objs.size (.lst xs),I1.laid (t':=s1.toks) (fun b u e=>Heap.get?_push_of_some _ e) (Nat.le_refl _) ?_,rfl,q _ hf⟩
 exact ⟨z,us,0,r,Heap.get?_push_size _ rfl⟩
end
abbrev Sp:=List V->Hp->VK->XK->Prop
abbrev CXT:=List Env->Hp->Shared->XK->Value->Shared->Prop
structure Env0 (P:Program) (w:World) (K:W.Frag) (mg:Str->Option Value) (base:Heap) (A:Around) (outer:List Env) (s:Shared) (H:Hp):Prop where
 frames:A.frames=some outer
 mod:Mod K mg base
 bs:∀ b o,base.get? b=some o->s.heap.get? b=some o/\H b=none
 bsz:base.objs.size<=s.heap.objs.size
 funs:s.heap.FunFrames base outer
 frf:∀ b∈frs outer,H b=none
 hok:HOk P w H s.heap
 bare:AllBare s.gens
def CE (outer:List Env) (P:Program) (w:World) (H:Hp) (s:Shared) (Q:VK) (u:Value) (s':Shared):Prop :=
 ∃ v H',s'.os=s.os/\AllBare s'.gens/\Un (frs outer) [] H H' s.heap s'.heap/\HOk P w H' s'.heap/\RelV v u/\Q v H'
def CR (CX:CXT) (outer:List Env) (P:Program) (w:World) (H:Hp) (s:Shared) (Q:VK) (E:XK) (r:Result) (s':Shared):Prop :=
 match r with
 | .ok (.ret u)=>CE outer P w H s Q u s'
 | .ok _=>False
 | .error e=>CX outer H s E e s'
structure FnOk (P:Program) (w:World) (K:W.Frag) (mg:Str->Option Value) (base:Heap) (CX:CXT) (k:Nat) (f:Addr) (fd:FuncData) (ps:List Str) (sp:Sp):Prop where
 len:∀ vs H Q E,sp vs H Q E->vs.length=ps.length
 run:∀ (A:Around) (outer:List Env) (s:Shared) (H:Hp) (args:Args) (us:List Value) (vs:List V) (Q:VK) (E:XK),Room k A->Env0 P w K mg base A outer s H->BindsTo s fd args (ps.zip us)->Vals vs us->sp vs H Q E ->
  codeAny (model P w) A (.call (.ref f) args) (CR CX outer P w H s Q E) s
theorem FnOk.mono {P:Program} {w:World} {K:W.Frag} {mg:Str->Option Value} {base:Heap} {CX:CXT} {j k:Nat} {f:Addr} {fd:FuncData} {ps:List Str} {sp:Sp} (F:FnOk P w K mg base CX j f fd ps sp) (h:j<=k) :
  FnOk P w K mg base CX k f fd ps sp:=⟨F.len,fun A outer s H args us vs Q E hr=>F.run A outer s H args us vs Q E (hr.mono h)⟩
theorem FnOk.imp {P:Program} {w:World} {K:W.Frag} {mg:Str->Option Value} {base:Heap} {CX:CXT} {k:Nat} {f:Addr} {fd:FuncData} {ps:List Str} {sp sp':Sp} (F:FnOk P w K mg base CX k f fd ps sp)
  (h:∀ vs H Q E,sp' vs H Q E->sp vs H Q E):FnOk P w K mg base CX k f fd ps sp' :=
 ⟨fun vs H Q E q=>F.len vs H Q E (h _ _ _ _ q),fun A outer s H args us vs Q E hr he hb hv hs=>F.run A outer s H args us vs Q E hr he hb hv (h _ _ _ _ hs)⟩
theorem Env0.make {P:Program} {w:World} {K:W.Frag} {mg:Str->Option Value} {base:Heap} {A:Around} {outer:List Env} {s:Shared} {H:Hp} (e:Env0 P w K mg base A outer s H) (C:Addr) (us:List Value) (kw:List (Str × Value)) :
  Env0 P w K mg base (A.under (.builtin "type.__call__" ⟨.ref C :: us,kw⟩)) outer s H:=⟨by first | exact e.frames | (simpa [Around.under,Code.envs,Code.isFrame,pushEnvs] using e.frames),e.mod,e.bs,e.bsz,e.funs,e.frf,e.hok,e.bare⟩
section
variable {X:Cx} {pins:List (Addr × Obj)} {σ:St} {H:Hp} {s s':Shared}
theorem Inv.env0 (I:Inv X pins σ H s):Env0 X.prog X.w X.K X.mg X.base X.A X.stack s H :=
 ⟨I.ok.frames,I.ok.mod,I.bs,Nat.le_trans I.ok.bsz I.sz,I.stack,I.stkFree,I.hok,I.bare⟩
theorem Inv.after {Q:VK} {u:Value} (I:Inv X pins σ H s) (h:CE X.stack X.prog X.w H s Q u s'):EP X pins σ Q u s':=by
 obtain ⟨v,H',os,bare,un,hok,r,q⟩:=h
 obtain ⟨hh,g,d,t,os'⟩:=s'
 obtain rfl:os'=s.os:=os
 exact ⟨v,H',I.call (h':=hh) (g':=g) (d':=d) (t':=t) (ch:=[]) un hok bare (fun b z=>absurd z (by simp)),r,q⟩
end
def tCall (sp:Sp) (dvs:List V) (E:XK) (t:TA):TE:=fun σ H Q=>t σ H fun vs H1=>sp (vs ++ dvs) H1 Q E
def tMeth (C:Addr) (m:Str) (sp:Sp) (dvs:List V) (E:XK) (ta:TE) (t:TA):TE:=fun σ H Q=>ta σ H fun x H1=>∃ a dx fs,x=.ref a/\H1 a=some (.ins C dx fs)/\fs.lookup m=none /\
 t σ H1 fun vs H2=>sp (x :: (vs ++ dvs)) H2 Q E
def tMake (C:Addr) (sp:Sp) (dvs:List V) (E:XK) (t:TA):TE:=fun σ H Q=>t σ H fun vs H1=>∀ x dx,H1 x=none->H1 dx=none->dx ≠ x ->
 sp (.ref x :: (vs ++ dvs)) (upd (upd H1 dx (.own x)) x (.ins C dx [])) (fun v H2=>v=.non/\Q (.ref x) H2) E
def Binds (K:W.Frag) (fd:FuncData) (ps:List Str) (ds:List Value):Prop :=
 ∀ (s:Shared) (us:List Value),K.In s.heap->(us ++ ds).length=ps.length->BindsTo s fd ⟨us,[]⟩ (ps.zip (us ++ ds))
theorem Binds.all {K:W.Frag} {fd:FuncData} {ps:List Str} (h:∀ us:List Value,us.length=ps.length->bindArgs fd ⟨us,[]⟩=pure (ps.zip us)):Binds K fd ps []:=fun s us _ hl=>by
 rw [List.append_nil] at hl ⊢
 exact .of_eq (h us hl)
def qgz9 (CX:CXT) (X:Cx) (E:XK):Prop:=∀ (pins:List (Addr × Obj)) (σ:St) (H:Hp) (s:Shared) (e:Value) (s':Shared),Inv X pins σ H s->CX X.stack H s E e s'->X.xe e s'
section
variable {X:Cx} {CX:CXT} {k:Nat} {f C:Addr} {fd:FuncData} {ps:List Str} {sp:Sp} {dvs:List V} {ds:List Value} {E:XK} {x m:Str} {p pos apos:Pos} {e o:Expr} {es:List Expr} {ta:TE} {t:TA}
theorem run_fn {pins:List (Addr × Obj)} {σ:St} {H:Hp} {s:Shared} {Q:VK} {us:List Value} {vs:List V} (F:FnOk X.prog X.w X.K X.mg X.base CX k f fd ps sp) (hr:Room k X.A) (hb:Binds X.K fd ps ds) (hd:Vals dvs ds) (hx:qgz9 CX X E)
  (I:Inv X pins σ H s) (r:Vals vs us) (h:sp (vs ++ dvs) H Q E):wpAny (model X.prog X.w) X.A (call (.ref f) us) (EP X pins σ Q) X.xe s:=by
 have r2:Vals (vs ++ dvs) (us ++ ds):=r.append hd
 have hl:(us ++ ds).length=ps.length:=by rw [<- r2.length]; exact F.len _ _ _ _ h
 refine wpAny_call (codeAny_mono (F.run X.A X.stack s H ⟨us,[]⟩ (us ++ ds) (vs ++ dvs) Q E hr I.env0 (hb s us I.kIn hl) r2 h) fun r s' hq=>?_)
 cases r with
 | error e=>exact hx pins σ H s e s' I hq
 | ok fl =>
  cases fl with
  | ret u=>exact I.after hq
  | next=>exact False.elim hq
  | brk=>exact False.elim hq
  | cont=>exact False.elim hq
theorem pe_call (F:FnOk X.prog X.w X.K X.mg X.base CX k f fd ps sp) (hr:Room k X.A) (hg:Gl X x) (hm:X.mg x=some (.ref f)) (hk:W.keepIn X.K (.ref f)=true) (hb:Binds X.K fd ps ds) (hd:Vals dvs ds) (hx:qgz9 CX X E)
  (ha:PA X (e :: es) t) (hdb:(x == ("__debug__" : Str))=false:=by decide) (he:starEach (e :: es) X.env=(false,eval e X.env) :: starEach es X.env:=by rfl) (hpl:(backTo pos (starEach es X.env)).any (·.1)=false:=by rfl) :
  PE X (.Call (.Name x p) (e :: es) [] pos) (tCall sp dvs E t):=by
 intro pins s σ H Q I h
 refine wpAny_Call_Name_kw (qgl9 I hg hm ?_ hdb)
 refine W.callWith_K (h₀:=X.base) I.ok.mod.kin hk (thn (ha pos pins s σ H _ I h) fun us s1 ⟨vs,H1,I1,r,q⟩=>⟨I1.kIn,?_⟩) he hpl
 exact run_fn F hr hb hd hx I1 r q
theorem pe_meth {pl:Sem Bool} (he:PE X o ta) (c:Cls X.K C) (hm:Meth X.K C m f) (F:FnOk X.prog X.w X.K X.mg X.base CX k f fd ps sp) (hr:Room k X.A) (hb:Binds X.K fd ps ds) (hd:Vals dvs ds) (hx:qgz9 CX X E) (ha:PA X (e :: es) t)
  (hst:starEach (e :: es) X.env=(false,eval e X.env) :: starEach es X.env:=by rfl) (hpl:(backTo pos (starEach es X.env)).any (·.1)=false:=by rfl)
  (ht:eval (.Call (.Attribute o m apos) (e :: es) [] pos) X.env=(do
   let ov <- eval o X.env
   standAt apos.atName
   let (f,first) <- holding [ov] (getMethod ov m pl)
   callWith pos f first (backTo pos (starEach (e :: es) X.env)) (backToKw pos (keywordEach [] X.env))):=by rfl) :
  PE X (.Call (.Attribute o m apos) (e :: es) [] pos) (tMeth C m sp dvs E ta t):=by
 intro pins s σ H Q I h
 refine W.methodCall_KW (pl:=pl) (thn (he pins s σ H _ I h) fun u s1 z9=>?_) ht
 obtain ⟨x,H1,I1,rx,a,dx,fs,ex,ea,l,q⟩ := z9
 subst ex
 obtain rfl:u=Value.ref a:=rx
 refine qoi9 I1 ea c hm l ?_
 refine W.callWith_K (first:=[.ref a]) (h₀:=X.base) I.ok.mod.kin hm.kp (thn (ha pos pins s1 σ H1 _ I1 q) fun us s2 ⟨vs,H2,I2,r,q2⟩=>⟨I2.kIn,?_⟩) hst hpl
 exact run_fn (us:=.ref a :: us) (vs:=.ref a :: vs) F hr hb hd hx I2 (.cons rfl r) q2
structure Mk (K:W.Frag) (C f:Addr):Prop where
 makes:W.makesIn K C=true
 init:W.findIn K (.ref C) "__init__" = some (some (.ref f))
 fn:W.isFn K (.ref f)=true
 kp:W.keepIn K (.ref C)=true
theorem run_make {pins:List (Addr × Obj)} {σ:St} {H:Hp} {s:Shared} {Q:VK} {us:List Value} {vs:List V} (M:Mk X.K C f) (F:FnOk X.prog X.w X.K X.mg X.base CX k f fd ps sp) (hr:Room (k+1) X.A) (hb:Binds X.K fd ps ds) (hd:Vals dvs ds)
  (hx:qgz9 CX X E) (I:Inv X pins σ H s) (r:Vals vs us)
  (h:∀ x dx,H x=none->H dx=none->dx ≠ x->sp (.ref x :: (vs ++ dvs)) (upd (upd H dx (.own x)) x (.ins C dx [])) (fun v H2=>v=.non/\Q (.ref x) H2) E) :
  wpAny (model X.prog X.w) X.A (call (.ref C) us) (EP X pins σ Q) X.xe s:=by
 have hq:=h (s.heap.objs.size+1) s.heap.objs.size (I.hok.fresh (Nat.le_succ _)) (I.hok.fresh (Nat.le_refl _)) (Nat.ne_of_lt (Nat.lt_succ_self _))
 have I2:=Inv.made (C:=C) I
 have r2:Vals (V.ref (s.heap.objs.size+1) :: (vs ++ dvs)) (Value.ref (s.heap.objs.size+1) :: (us ++ ds)):=.cons rfl (r.append hd)
 have hl:(Value.ref (s.heap.objs.size+1) :: us ++ ds).length=ps.length:=by
  have e:=r2.length
  rw [F.len _ _ _ _ hq] at e
  exact e.symm
 refine wpAny_call (make_map (f:=f) I.kIn M.makes M.init (beq_iff_eq.mp M.fn) (codeAny_mono (F.run _ X.stack _ _ ⟨Value.ref (s.heap.objs.size+1) :: us,[]⟩ (Value.ref (s.heap.objs.size+1) :: (us ++ ds)) _ _ E (hr.make C us [])
  (I2.env0.make C us []) (hb _ (Value.ref (s.heap.objs.size+1) :: us) I2.kIn hl) r2 hq) fun r s' hq'=>?_))
 cases r with
 | error e=>exact hx pins σ _ _ e s' I2 hq'
 | ok fl =>
  cases fl with
  | ret u =>
   obtain ⟨v,H',I3,rv,ev,q3⟩:=I2.after hq'
   subst ev
   exact ⟨rv,⟨V.ref (s.heap.objs.size+1),H',I3,rfl,q3⟩⟩
  | next=>exact False.elim hq'
  | brk=>exact False.elim hq'
  | cont=>exact False.elim hq'
theorem pe_make (M:Mk X.K C f) (F:FnOk X.prog X.w X.K X.mg X.base CX k f fd ps sp) (hr:Room (k+1) X.A) (hg:Gl X x) (hm:X.mg x=some (.ref C)) (hb:Binds X.K fd ps ds) (hd:Vals dvs ds) (hx:qgz9 CX X E)
  (ha:PA X (e :: es) t) (hdb:(x == ("__debug__" : Str))=false:=by decide) (he:starEach (e :: es) X.env=(false,eval e X.env) :: starEach es X.env:=by rfl) (hpl:(backTo pos (starEach es X.env)).any (·.1)=false:=by rfl) :
  PE X (.Call (.Name x p) (e :: es) [] pos) (tMake C sp dvs E t):=by
 intro pins s σ H Q I h
 refine wpAny_Call_Name_kw (qgl9 I hg hm ?_ hdb)
 refine W.callWith_K (h₀:=X.base) I.ok.mod.kin M.kp (thn (ha pos pins s σ H _ I h) fun us s1 ⟨vs,H1,I1,r,q⟩=>⟨I1.kIn,?_⟩) he hpl
 exact run_make M F hr hb hd hx I1 r q
end
section
variable {X:Cx} {CX:CXT} {k:Nat} {f C:Addr} {fd:FuncData} {ps ks:List Str} {sp:Sp} {E:XK} {x m:Str} {p pos apos kpos:Pos} {e o:Expr} {es:List Expr} {kws:List Keyword} {te ta:TE} {t tk:TA} {nm:Option Str}
variable {g:List Value->List Value->List Value} {gV:List V->List V->List V}
end
structure FnScope (N P:List Str) (sc:Scope):Prop where
 kind:sc.kind=.function
 co:sc.isCoroutine=false
 gen:sc.isGenerator=false
 nd:N.Nodup
 pre:N.take P.length=P
 par:∀ x∈P,sc.names.lookup x=some .local\/sc.names.lookup x=some .cell
 nofree:∀ y∈sc.names,y.2 ≠ .free
theorem qli9 {kindOf:Str->Option NameKind} {x:Str}:∀ {binds:List (Str × Value)} {m:Str->Option Value},(∀ v,(x,v) ∉ binds)->bindL kindOf binds m x=m x
 | [],_,_=>rfl
 | (n,v) :: r,m,h=>by
  unfold bindL
  rw [qli9 fun w hw=>h w (List.mem_cons_of_mem _ hw)]
  split
  ·have:x ≠ n:=by rintro rfl; exact h v List.mem_cons_self
   simp [this]
  ·rfl
theorem qmc9 {kindOf:Str->Option NameKind} {x:Str}:∀ {binds:List (Str × Value)} {m:Str->Option Value},(∀ v,(x,v) ∉ binds)->bindC kindOf binds m x=m x
 | [],_,_=>rfl
 | (n,v) :: r,m,h=>by
  unfold bindC
  rw [qmc9 fun w hw=>h w (List.mem_cons_of_mem _ hw)]
  split
  ·rfl
  ·have:x ≠ n:=by rintro rfl; exact h v List.mem_cons_self
   simp [this]
theorem qlt9 {kindOf:Str->Option NameKind} {x:Str} {v:Value}:∀ {P:List Str} {vs:List Value} {i:Nat} {m:Str->Option Value},P.Nodup->P[i]?=some x->vs[i]?=some v->kindOf x=some .local ->
  bindL kindOf (P.zip vs) m x=some v
 | [],_,_,_,_,h,_,_=>by simp at h
 | _ :: _,[],_,_,_,_,h,_=>by simp at h
 | p :: P,w :: vs,0,m,nd,h1,h2,hk=>by
  simp at h1 h2; subst h1; subst h2
  show bindL kindOf ((p,w) :: P.zip vs) m p=_
  unfold bindL
  rw [qli9 fun v hv=>(List.nodup_cons.mp nd).1 (List.of_mem_zip hv).1,if_pos hk]
  simp
 | p :: P,w :: vs,i+1,m,nd,h1,h2,hk=>by
  show bindL kindOf ((p,w) :: P.zip vs) m x=_
  unfold bindL
  exact qlt9 (i:=i) (List.nodup_cons.mp nd).2 (by simpa using h1) (by simpa using h2) hk
theorem qmg9 {kindOf:Str->Option NameKind} {x:Str} {v:Value}:∀ {P:List Str} {vs:List Value} {i:Nat} {m:Str->Option Value},P.Nodup->P[i]?=some x->vs[i]?=some v->kindOf x ≠ some .local ->
  bindC kindOf (P.zip vs) m x=some v
 | [],_,_,_,_,h,_,_=>by simp at h
 | _ :: _,[],_,_,_,_,h,_=>by simp at h
 | p :: P,w :: vs,0,m,nd,h1,h2,hk=>by
  simp at h1 h2; subst h1; subst h2
  show bindC kindOf ((p,w) :: P.zip vs) m p=_
  unfold bindC
  rw [qmc9 fun v hv=>(List.nodup_cons.mp nd).1 (List.of_mem_zip hv).1,if_neg hk]
  simp
 | p :: P,w :: vs,i+1,m,nd,h1,h2,hk=>by
  show bindC kindOf ((p,w) :: P.zip vs) m x=_
  unfold bindC
  exact qmg9 (i:=i) (List.nodup_cons.mp nd).2 (by simpa using h1) (by simpa using h2) hk
def start (N:List Str) (vs:List V):St:=vs.map some ++ List.replicate (N.length - vs.length) none
def cxOf (CX:CXT) (P:Program) (w:World) (K:W.Frag) (mg:Str->Option Value) (base:Heap) (N:List Str) (qual:Str) (scope:Scope) (f:Addr) (cd:Value) (A:Around) (outer:List Env) (s:Shared) (H:Hp) (E:XK):Cx where
 prog:=P
 w:=w
 K:=K
 mg:=mg
 base:=base
 A:=A.deeper (envOfC qual scope s.heap.objs.size f cd)
 N:=N
 s₀:=s
 H₀:=H
 env:=envOfC qual scope s.heap.objs.size f cd
 outer:=outer
 stack:=envOfC qual scope s.heap.objs.size f cd :: outer
 ex:=[]
 calm:=true
 fn:=fun _=>true
 pn:=[]
 xe:=fun e s'=>wpAny (model P w) (A.deeper (envOfC qual scope s.heap.objs.size f cd)) (leaving (envOfC qual scope s.heap.objs.size f cd) e) (fun _ s''=>CX outer H s E e s'') (fun e' s''=>CX outer H s E e' s'') s'
theorem qpw9 {sc:Scope} {n:Nat} {x:Str} (h:sc.names.lookup x=some .cell):∃ c,(cellsFrom n sc.names []).lookup x=some c:=by
 have q:=W.cellsFrom_some sc.names n [] (.inl h)
 exact Option.isSome_iff_exists.mp q
theorem inv_start {CX:CXT} {P:Program} {w:World} {K:W.Frag} {mg:Str->Option Value} {base:Heap} {N ps:List Str} {qual:Str} {scope:Scope} {f:Addr} {cd:Value} {A:Around} {outer:List Env} {s s1:Shared} {H:Hp} {E:XK} {us:List Value} {vs:List V}
  (S:FnScope N ps scope) (hd:A.handled=none) (e0:Env0 P w K mg base A outer s H) (hl:vs.length=ps.length) (r:Vals vs us)
  (x:InCallC s s.heap.objs.size (bindL (envOfC qual scope s.heap.objs.size f cd).kindOf (ps.zip us) fun _=>none) (cellsFrom (s.heap.objs.size+1) scope.names []) (bindC (envOfC qual scope s.heap.objs.size f cd).kindOf (ps.zip us) fun _=>none) s1) :
  Inv (cxOf CX P w K mg base N qual scope f cd A outer s H E) [] (start N vs) H s1:=by
 have hpl:ps.length<=N.length:=by have:=congrArg List.length S.pre; rw [List.length_take] at this; omega
 obtain ⟨h1,tk,rfl,hk⟩:=x.done
 have noA:∀ b:Addr,b ∉ (cxOf CX P w K mg base N qual scope f cd A outer s H E).ex:=fun b z=>absurd (show b∈([]:List Addr) from z) (by simp)
 refine ⟨⟨e0.mod,S.kind,rfl,rfl,Nat.le_refl _,fun y z c h1 h2=>?_,fun y hy=>?_,fun y c _ h=>?_,fun _=>hd,Around.frames_deeper e0.frames,.inr ⟨rfl,rfl⟩,fun b z=>absurd z (noA b),e0.bs,e0.bsz,fun b _ _=>noA b,fun b z=>absurd z (noA b),e0.funs,e0.frf⟩,
  rfl,e0.bare,Un.kept hk,⟨_,x.toInCall.ns,fun i y v h1 h2 h3=>?_⟩,fun y c h=>⟨_,x.cell y c h⟩,e0.hok.fresh (Nat.le_refl _),fun y c h=>?_,fun p hp=>absurd (show p∈([]:List (Addr × Obj)) from hp) (by simp),e0.hok.kept hk,?_⟩
 ·exact name_of_addr x.apart (PySem.mem_of_lookup h1) (PySem.mem_of_lookup h2)
 ·have hy:scope.names.lookup y=some .cell\/scope.names.lookup y=some .free:=hy
  rcases hy with hy | hy
  ·exact qpw9 hy
  ·exact absurd rfl (S.nofree _ (PySem.mem_of_lookup hy))
 ·exact Nat.le_of_lt (x.above y c (PySem.mem_of_lookup h))
 ·have hi:i < vs.length:=by
   unfold start at h2
   by_cases hi:i < vs.length
   ·exact hi
   ·rw [List.getElem?_append_right (by simpa using hi)] at h2
    rw [List.getElem?_replicate] at h2
    split at h2 <;> cases h2
  have ha:vs[i]?=some v:=by
   unfold start at h2
   rw [List.getElem?_append_left (by simpa using hi),List.getElem?_map] at h2
   cases e:vs[i]? with
   | none=>rw [e] at h2; cases h2
   | some a=>rw [e] at h2; cases h2; rfl
  obtain ⟨u,hu,rv⟩:=r.get ha
  have hp:ps[i]?=some y:=by
   rw [<- S.pre,List.getElem?_take_of_lt (by omega)]; exact h1
  have ndP:ps.Nodup:=by rw [<- S.pre]; exact S.nd.sublist (List.take_sublist _ _)
  refine ⟨u,rv,?_⟩
  rcases S.par y (List.mem_of_getElem? hp) with k | k
  ·exact .inl ⟨k,qlt9 ndP hp hu k⟩
  ·obtain ⟨c,e⟩:=qpw9 (n:=s.heap.objs.size+1) k
   refine .inr ⟨.inl k,c,e,?_⟩
   have q:=x.cell y c e
   rw [qmg9 ndP hp hu (by show scope.names.lookup y ≠ _; rw [k]; decide)] at q
   exact q
 ·exact e0.hok.fresh (Nat.le_of_lt (x.above y c (PySem.mem_of_lookup h)))
 ·unfold start
  show _=N.length
  rw [List.length_append,List.length_map,List.length_replicate]
  omega
theorem fn_of {CX:CXT} {P:Program} {w:World} {K:W.Frag} {mg:Str->Option Value} {base:Heap} {k:Nat} {f:Addr} {name qual:Str} {params:Arguments} {body:List Stmt} {scope:Scope} {dV kV doc pm cdv ct oc:Value} {an od:Option Addr}
  {osl:Array (Option Value)} {N ps:List Str} {sp:Sp} (lk:K.lookup f=some ⟨oc,od,.func (W.fnOf name qual params body scope dV kV doc pm an cdv ct),osl⟩) (hcd:W.codeIn K cdv qual=true) (S:FnScope N ps scope)
  (len:∀ vs H Q E,sp vs H Q E->vs.length=ps.length)
  (hbody:∀ (A:Around) (outer:List Env) (s:Shared) (H:Hp) (vs:List V) (Q:VK) (E:XK),Room k (A.deeper (envOfC qual scope s.heap.objs.size f cdv))->sp vs H Q E ->
   ∃ t,PSs (cxOf CX P w K mg base N qual scope f cdv A outer s H E) body t/\t { nx:=fun _ H'=>Q .non H',rt:=Q } (start N vs) H) :
  FnOk P w K mg base CX (k+1) f (W.fnOf name qual params body scope dV kV doc pm an cdv ct) ps sp:=by
 refine ⟨len,fun A outer s H args us vs Q E hr e0 hb r hsp=>?_⟩
 have hl:=len _ _ _ _ hsp
 have KX:K.In s.heap:=e0.mod.kin.keeps fun b o e=>(e0.bs b o e).1
 have lim:s.heap.NoLimit:=e0.mod.nolimit.keeps fun b o e=>(e0.bs b o e).1
 have hkind:∀ y∈ps.zip us,scope.names.lookup y.1=some .local\/(scope.names.lookup y.1=some .cell/\((cellsFrom (s.heap.objs.size+1) scope.names []).lookup y.1).isSome=true):=fun ⟨n,v⟩ hy=>by
  rcases S.par n (List.of_mem_zip hy).1 with q | q
  ·exact .inl q
  ·exact .inr ⟨q,W.cellsFrom_some _ _ _ (.inl q)⟩
 refine codeAny_call_function hr.depth (KX _ _ lk) rfl S.co S.gen rfl (W.codeRec_of KX hcd) (hb _ _ _ _ ?_)
 refine wpAny_newFunctionEnv_cells S.kind hkind fun env he s1 x=>?_
 subst he
 refine ⟨lim.keeps x.toInCall.keep,codeAny_func ?_⟩
 obtain ⟨t,ht,hq⟩:=hbody A outer s H vs Q E (hr.deeper _) hsp
 have I:Inv (cxOf CX P w K mg base N qual scope f cdv A outer s H E) [] (start N vs) H s1:=inv_start S hr.hd e0 hl r x
 refine wpAny_mono (ht [] s1 (start N vs) H _ I hq) (fun fl s' hs=>?_) fun e s' hs=>hs
 have fin:∀ {σ':St} {H':Hp} {v:V} {u:Value},Inv (cxOf CX P w K mg base N qual scope f cdv A outer s H E) [] σ' H' s'->RelV v u->Q v H'->CE outer P w H s Q u s' :=
  fun {σ' H' v u} J rv q=>⟨v,H',J.os,J.bare,J.base,J.hok,rv,q⟩
 cases fl with
 | ret u =>
  obtain ⟨v,σ',H',J,rv,q⟩:=hs
  exact fin J rv q
 | next =>
  obtain ⟨σ',H',J,q⟩:=hs
  exact fin (v:=V.non) (u:=Value.none) J rfl q
 | brk =>
  obtain ⟨_,_,_,q⟩:=hs
  exact False.elim q
 | cont =>
  obtain ⟨_,_,_,q⟩:=hs
  exact False.elim q
section
variable {X:Cx} {x:Str} {p pos:Pos} {e:Expr} {es:List Expr} {t:TA} {id T:String} {r:List V->Hp->VK->Prop}
def tCB (r:List V->Hp->VK->Prop) (t:TA):TE:=fun σ H Q=>t σ H fun vs H1=>r vs H1 Q
theorem pe_callB (hc:CallR X (.builtin id) r) (hg:Gl X x) (hm:X.mg x=none) (hv:bootBuiltins x=some (.builtin id)) (ha:PA X (e :: es) t) (hn:x ≠ "__name__" := by decide) (hdb:(x == ("__debug__" : Str))=false:=by decide)
  (he:starEach (e :: es) X.env=(false,eval e X.env) :: starEach es X.env:=by rfl) (hpl:(backTo pos (starEach es X.env)).any (·.1)=false:=by rfl):PE X (.Call (.Name x p) (e :: es) [] pos) (tCB r t):=by
 intro pins s σ H Q I h
 refine wpAny_Call_Name_kw (qpa9 I hg hm hv ?_ hn hdb)
 exact PyProof.Rows.callWith_builtin1 (thn (ha pos pins s σ H _ I h) fun us s1 ⟨vs,H1,I1,r1,q1⟩=>hc pins s1 σ H1 vs us Q I1 r1 q1) he hpl
theorem pe_callTy (hc:CallR X (.type T) r) (hg:Gl X x) (hm:X.mg x=none) (hv:bootBuiltins x=some (.type T)) (ha:PA X (e :: es) t) (hn:x ≠ "__name__" := by decide) (hdb:(x == ("__debug__" : Str))=false:=by decide)
  (he:starEach (e :: es) X.env=(false,eval e X.env) :: starEach es X.env:=by rfl) (hpl:(backTo pos (starEach es X.env)).any (·.1)=false:=by rfl):PE X (.Call (.Name x p) (e :: es) [] pos) (tCB r t):=by
 intro pins s σ H Q I h
 refine wpAny_Call_Name_kw (qpa9 I hg hm hv ?_ hn hdb)
 exact PyProof.Rows.callWith_type1 (thn (ha pos pins s σ H _ I h) fun us s1 ⟨vs,H1,I1,r1,q1⟩=>hc pins s1 σ H1 vs us Q I1 r1 q1) he hpl
end
end L2
namespace HT
open PySem PyProof.Rows
section
open PySem.SeqAt
open PySem.AutoSeq1 (wpAny_loadPart')
open PySem.MeetsSeq PySem.MeetsSeq2 PySem.MeetsSeq3
end
section
variable {prog:Program} {w:World} {A:Around} {E:Value->Shared->Prop} {s:Shared}
def sIx (n d:Nat):Option Int->Nat
 | none=>d
 | some v=>if v < 0 then (v+(n:Int)).toNat else min v.toNat n
end
end HT
namespace L2
open PySem PySem.Spec PyProof.Rows
abbrev TO:=St->Hp->(Option Int->Hp->Prop)->Prop
def PO (X:Cx) (e:Option Expr) (t:TO):Prop :=
 ∀ (pins:List (Addr × Obj)) (s:Shared) (σ:St) (H:Hp) (Q:Option Int->Hp->Prop),Inv X pins σ H s->t σ H Q ->
  wpAny (model X.prog X.w) X.A (evalPart e X.env) (fun u s'=>∃ o H',Inv X pins σ H' s'/\IsPart u o/\Q o H') X.xe s
def tNoPart:TO:=fun _ H Q=>Q none H
def tPart (t:TE):TO:=fun σ H Q=>t σ H fun x H1=>∃ i,x=.int i/\Q (some i) H1
section
variable {X:Cx} {e:Expr} {te:TE} {lo hi:Option Expr} {tl th:TO} {pos p2:Pos}
theorem po_none:PO X none tNoPart:=by
 intro pins s σ H Q I h
 rw [evalPart_none]
 exact wpAny_pure ⟨none,H,I,.none,h⟩
theorem po_some (h:PE X e te):PO X (some e) (tPart te):=by
 intro pins s σ H Q I hw
 rw [evalPart_some]
 refine thn (h pins s σ H _ I hw) fun u s1 z9=>?_
 obtain ⟨x,H1,I1,r1,q1⟩ := z9
 obtain ⟨i,rfl,q⟩:=q1
 obtain ⟨t,rfl⟩:=r1
 exact ⟨some i,H1,I1,.int i t,q⟩
def SlR (X:Cx) (r:V->Option Int->Option Int->Hp->VK->Prop):Prop :=
 ∀ (pins:List (Addr × Obj)) (s:Shared) (σ:St) (H:Hp) (x:V) (v vl vu:Value) (lo hi:Option Int) (sl:Addr) (Q:VK),Inv X pins σ H s->RelV x v->s.heap.IsSliceOf sl vl vu .none->IsPart vl lo->IsPart vu hi->r x lo hi H Q ->
  ∃ T id,typeLookup (.type T) "__getitem__" = pure (some (.builtin id))/\s.TypeIs v T/\wpAny (model X.prog X.w) X.A (getItem v (.ref sl)) (EP X pins σ Q) X.xe s
def tSl (r:V->Option Int->Option Int->Hp->VK->Prop) (te:TE) (tl th:TO):TE:=fun σ H Q=>te σ H fun x H1=>tl σ H1 fun l H2=>th σ H2 fun u H3=>r x l u H3 Q
theorem pe_slice {r:V->Option Int->Option Int->Hp->VK->Prop} (hr:SlR X r) (he:PE X e te) (hl:PO X lo tl) (hu:PO X hi th):PE X (.Subscript e (.Slice lo hi none p2) pos) (tSl r te tl th):=by
 intro pins s σ H Q I h
 refine Subscript_ (thn (he pins s σ H _ I h) fun v s1 z9=>?_)
 obtain ⟨x,H1,I1,r1,q1⟩ := z9
 refine wpAny_Slice (thn (hl pins s1 σ H1 _ I1 q1) fun vl s2 ⟨l,H2,I2,pl,q2⟩=>thn (hu pins s2 σ H2 _ I2 q2) fun vu s3 z9=>?_)
 obtain ⟨u,H3,I3,pu,q3⟩ := z9
 rw [evalPart_none]
 refine wpAny_pure ?_
 have I4:Inv X pins σ H3 { s3 with heap:=s3.heap.push { cls:=.type "slice",data:=.fields #[vl,vu,.none] } }:=I3.kept (t':=s3.toks) fun b ob q=>Heap.get?_push_of_some _ q
 obtain ⟨T,id,hT,ht,hg⟩:=hr pins { s3 with heap:=s3.heap.push { cls:=.type "slice",data:=.fields #[vl,vu,.none] } } σ H3 x v vl vu l u s3.heap.objs.size Q I4 r1 (Heap.IsSliceOf.new ..) pl pu q3
 show wpAny (model X.prog X.w) X.A (subscriptTail e (.Slice lo hi none p2) v (.ref s3.heap.objs.size)) (EP X pins σ Q) X.xe { s3 with heap:=s3.heap.push { cls:=.type "slice",data:=.fields #[vl,vu,.none] } }
 exact tail_any (ops:=[.ref s3.heap.objs.size,v]) ht hT hg (by with_unfolding_all rfl)
def cutV (xs:List V) (lo hi:Option Int):List V:=(xs.drop (HT.sIx xs.length 0 lo)).take (HT.sIx xs.length xs.length hi - HT.sIx xs.length 0 lo)
theorem qnb9 (xs:List V) (lo hi:Option Int):(cutV xs lo hi).length<=xs.length:=by
 unfold cutV
 rw [List.length_take,List.length_drop]
 omega
end
def ixN (n:Nat) (i:Int):Option Nat:=if 0<=i then (if i < n then some i.toNat else none) else if -(n:Int)<=i then some (i+n).toNat else none
def atI {α:Type} (xs:List α) (i:Int):Option α:=(ixN xs.length i).bind fun j=>xs[j]?
theorem ixN_seq {n:Nat} {i:Int} {j:Nat} (h:ixN n i=some j):seqIndex? i n=some j/\j < n/\-(n:Int)<=i/\i < n:=by
 unfold ixN at h
 by_cases h0:0<=i
 ·rw [if_pos h0] at h
  by_cases h1:i < n
  ·rw [if_pos h1] at h
   have e:i.toNat=j:=Option.some.inj h
   exact ⟨by rw [seqIndex_of h0 h1,e],by omega,by omega,h1⟩
  ·rw [if_neg h1] at h; cases h
 ·rw [if_neg h0] at h
  by_cases h1:-(n:Int)<=i
  ·rw [if_pos h1] at h
   have e:(i+n).toNat=j:=Option.some.inj h
   exact ⟨by rw [seqIndex_neg (by omega) h1,e],by omega,h1,by omega⟩
  ·rw [if_neg h1] at h; cases h
theorem atI_get {α:Type} {xs:List α} {i:Int} {v:α} (h:atI xs i=some v):∃ j,seqIndex? i xs.length=some j/\xs[j]?=some v/\j < xs.length/\-(xs.length:Int)<=i/\i < xs.length:=by
 unfold atI at h
 cases e:ixN xs.length i with
 | none=>rw [e] at h; cases h
 | some j =>
  rw [e] at h
  obtain ⟨h1,h2,h3,h4⟩:=ixN_seq e
  exact ⟨j,h1,h,h2,h3,h4⟩
theorem qgr9 {α:Type} {xs:List α} {j:Nat} {v:α} (h:xs[j]?=some v):atI xs (j:Int)=some v:=by
 have hj:j < xs.length:=(List.getElem?_eq_some_iff.mp h).1
 have e:ixN xs.length (j:Int)=some j:=by
  unfold ixN
  rw [if_pos (by omega),if_pos (by omega)]; simp
 unfold atI; rw [e]; exact h
theorem qnx9 {α:Type} (xs:List α) (v:α):atI (xs ++ [v]) (-1)=some v:=by
 have hl:(xs ++ [v]).length=xs.length+1:=by simp
 have e:ixN (xs ++ [v]).length (-1)=some xs.length:=by
  unfold ixN
  rw [hl,if_neg (by decide),if_pos (by omega)]
  congr 1
  omega
 unfold atI
 rw [e]
 show (xs ++ [v])[xs.length]?=some v
 simp
def PlainIx (b:Expr):Prop:=∀ o i,subscripted b false o i=operate [o,i] (getItem o i)
def IxR (X:Cx) (r:R2):Prop :=
 ∀ (value slice:Expr) (pins:List (Addr × Obj)) (s:Shared) (σ:St) (H:Hp) (x y:V) (v u:Value) (Q:VK),Inv X pins σ H s->RelV x v->RelV y u->r x y H Q ->
  subscripted slice false v u=operate [v,u] (getItem v u)->wpAny (model X.prog X.w) X.A (subscriptTail value slice v u) (EP X pins σ Q) X.xe s
def MtR (X:Cx) (id:String) (r:V->List V->Hp->VK->Prop):Prop :=
 ∀ (pins:List (Addr × Obj)) (s:Shared) (σ:St) (H:Hp) (x:V) (xs:List V) (v:Value) (us:List Value) (Q:VK),Inv X pins σ H s->RelV x v->Vals xs us->r x xs H Q ->
  wpAny (model X.prog X.w) X.A (call (.builtin id) (v :: us)) (EP X pins σ Q) X.xe s
section
variable {X:Cx} {a b:Expr} {ta tb:TE} {pos:Pos}
theorem pe_ix {r:R2} (hr:IxR X r) (ha:PE X a ta) (hb:PE X b tb) (hs:PlainIx b):PE X (.Subscript a b pos) (tOp r ta tb):=by
 intro pins s σ H Q I h
 exact Subscript_ (binT ha hb I h fun v u s2 x y H2 I2 rx ry q=>hr a b pins s2 σ H2 x y v u Q I2 rx ry q (hs _ _))
def rIxL (K:W.Frag):R2:=fun x y H Q=>∃ p xs i v,x=.ref p/\y=.int i/\SqL K H p xs/\atI xs i=some v/\Q v H
def rIxT (K:W.Frag):R2:=fun x y H Q=>∃ p xs i v,x=.ref p/\y=.int i/\SqT K H p xs/\atI xs i=some v/\Q v H
theorem ix_list:IxR X (rIxL X.K):=by
 intro value slice pins s σ H x y v u Q I rx ry h hs
 obtain ⟨p,xs,i,z,rfl,rfl,hq,he,q⟩:=h
 cases rx
 obtain ⟨t,rfl⟩:=ry
 obtain ⟨its,r,pl,hz⟩:=I.list hq
 obtain ⟨j,h1,h2,h3,h4,h5⟩:=atI_get he
 obtain ⟨w,ew,rw'⟩:=r.get h2
 have hl:=r.length
 have hn:=qon9
 have fin:EP X pins σ Q w s:=⟨z,H,I,rw',q⟩
 by_cases h0:0<=i
 ·have hj:i.toNat=j:=by
   rw [seqIndex_of h0 h5] at h1
   exact Option.some.inj h1
  exact item_listR pl.isList h0 (by omega) (by rw [hj]; simpa using ew) fin hs
 ·have hj:(i+(its.toArray.size:Int)).toNat=j:=by
   rw [seqIndex_neg (by omega) h4] at h1
   rw [List.size_toArray,<- hl]
   exact Option.some.inj h1
  exact subscriptTail_builtinR (x:=w) pl.isList.typeIs slot_list_getitem.lookup
   (wpAny_getItem_list_neg (Q:=fun r s'=>r=w/\EP X pins σ Q r s') pl.isList (by omega) (by rw [List.size_toArray] <;> omega) (by omega) (by rw [hj]; simpa using ew) ⟨rfl,fin⟩) hs
theorem ix_tup:IxR X (rIxT X.K):=by
 intro value slice pins s σ H x y v u Q I rx ry h hs
 obtain ⟨p,xs,i,z,rfl,rfl,hq,he,q⟩:=h
 cases rx
 obtain ⟨t,rfl⟩:=ry
 obtain ⟨its,r,pl,hz⟩:=I.tuple hq
 obtain ⟨j,h1,h2,h3,h4,h5⟩:=atI_get he
 obtain ⟨w,ew,rw'⟩:=r.get h2
 have hl:=r.length
 have hn:=qon9
 have fin:EP X pins σ Q w s:=⟨z,H,I,rw',q⟩
 exact subscriptTail_builtinR (x:=w) pl.typeIs slot_tuple_getitem.lookup
  (getItem_tuple (j:=j) (Q:=fun r s'=>r=w/\EP X pins σ Q r s') pl (by omega) (by omega) (by rw [List.size_toArray,<- hl]; exact h1) (by simpa using ew) ⟨rfl,fin⟩) hs
theorem qpd9 (its:List Value) (n j:Nat) (u:Value):Obj.mapSeq (·.setIfInBounds j u) { cls:=.type "list",data:=.seq its.toArray n }={ cls:=.type "list",data:=.seq (its.set j u).toArray n }:=by
 simp [Obj.mapSeq]
theorem Inv.lst {pins:List (Addr × Obj)} {σ:St} {H:Hp} {s:Shared} {p:Addr} {xs:List V} (I:Inv X pins σ H s) (h:H p=some (.lst xs)) :
  ∃ (its:List Value) (n:Nat),Vals xs its/\s.heap.get? p=some { cls:=.type "list",data:=.seq its.toArray n }/\xs.length<=sizeLine:=by
 obtain ⟨z,its,n,r,e⟩:=I.hok p _ h
 exact ⟨its,n,r,e,z⟩
theorem Inv.lstUpd {pins:List (Addr × Obj)} {σ:St} {H:Hp} {s:Shared} {p:Addr} {xs ys:List V} {its its':List Value} {n n':Nat} {f:Obj->Obj} (I:Inv X pins σ H s) (h:H p=some (.lst xs))
  (ho:s.heap.get? p=some { cls:=.type "list",data:=.seq its.toArray n }) (hf:f { cls:=.type "list",data:=.seq its.toArray n }={ cls:=.type "list",data:=.seq its'.toArray n' }) (r:Vals ys its') (hz:ys.length<=sizeLine) (t:Nat) :
  Inv X pins σ (upd H p (.lst ys)) { s with heap:=s.heap.update p f,toks:=t }:=by
 have e:(s.heap.update p f).get? p=some { cls:=.type "list",data:=.seq its'.toArray n' }:=by
  rw [Heap.get?_update_self f ho (by rw [hf] <;> rfl),hf]
 refine I.write (x:=p) (e:=p) (by rw [h]; trivial) (.inl rfl) (fun b u hb q=>(Heap.get?_update_other _ _ (Ne.symm hb)).trans q) ⟨_,e⟩ ?_
 exact ⟨hz,its',n',r,e⟩
def rSetL:V->V->V->Hp->(Hp->Prop)->Prop:=fun o i v H Q=>∃ p xs k j,o=.ref p/\i=.int k/\H p=some (.lst xs)/\ixN xs.length k=some j/\Q (upd H p (.lst (xs.set j v)))
theorem qkn9:PSet X rSetL:=by
 intro pins s σ H o i v ov iv u Q I ro ri rv h
 obtain ⟨p,xs,k,j,rfl,rfl,hp,hj,q⟩:=h
 cases ro
 obtain ⟨t,rfl⟩:=ri
 obtain ⟨its,n,r,ho,hz⟩:=I.lst hp
 obtain ⟨h1,h2,h3,h4⟩:=ixN_seq hj
 have hl:=r.length
 have hn:=qon9
 have I':Inv X pins σ (upd H p (.lst (xs.set j v))) { s with heap:=s.heap.update p (Obj.mapSeq (·.setIfInBounds j u)) } :=
  I.lstUpd hp ho (qpd9 its n j u) (r.set rv j) (by rw [List.length_set]; exact hz) s.toks
 by_cases h0:0<=k
 ·have hk:k.toNat=j:=by
   rw [seqIndex_of h0 h4] at h1
   exact Option.some.inj h1
  exact W.ki_setAt ho h0 (by omega) (by rw [List.size_toArray,<- hl]; exact h4) (by rw [hk]; exact ⟨_,I',q⟩)
 ·have hk:(k+(its.toArray.size:Int)).toNat=j:=by
   rw [seqIndex_neg (by omega) h3] at h1
   rw [List.size_toArray,<- hl]
   exact Option.some.inj h1
  exact W.ki_setBack ho (by omega) (by rw [List.size_toArray,<- hl]; exact h3) (by omega) (by rw [hk]; exact ⟨_,I',q⟩)
theorem qkr9 (lo hi:Option Int) (n:Nat):(sliceBounds lo hi none n).1=((HT.sIx n 0 lo:Nat):Int)/\(sliceBounds lo hi none n).2.1=((HT.sIx n n hi:Nat):Int)/\(sliceBounds lo hi none n).2.2=1:=by
 refine ⟨?_,?_,rfl⟩
 ·cases lo with
  | none=>simp [sliceBounds,HT.sIx]
  | some i =>
   simp only [sliceBounds,HT.sIx,Option.getD_none,show (1:Int) > 0 by decide,if_true]
   by_cases h:i < 0
   ·simp only [h,if_true] <;> omega
   ·simp only [h,if_false] <;> omega
 ·cases hi with
  | none=>simp [sliceBounds,HT.sIx]
  | some i =>
   simp only [sliceBounds,HT.sIx,Option.getD_none,show (1:Int) > 0 by decide,if_true]
   by_cases h:i < 0
   ·simp only [h,if_true] <;> omega
   ·simp only [h,if_false] <;> omega
theorem qiy9 (its:List Value) (lo hi:Option Int):slicePick its.toArray lo hi none=((its.drop (HT.sIx its.length 0 lo)).take (HT.sIx its.length its.length hi - HT.sIx its.length 0 lo)).toArray:=by
 obtain ⟨h1,h2,h3⟩:=qkr9 lo hi its.toArray.size
 unfold slicePick
 rw [h1,h2,h3]
 simp only [sliceRange_one,pick_run,List.size_toArray] <;> rfl
def rSlL (K:W.Frag):V->Option Int->Option Int->Hp->VK->Prop:=fun x lo hi H Q=>∃ a xs,x=.ref a/\SqL K H a xs/\∀ p,H p=none->Q (.ref p) (upd H p (.lst (cutV xs lo hi)))
theorem sl_list:SlR X (rSlL X.K):=by
 intro pins s σ H x v vl vu lo hi sl Q I rx hs pl pu h
 obtain ⟨a,xs,rfl,hx,q⟩:=h
 cases rx
 obtain ⟨its,r,ht,hz⟩:=I.list hx
 have hlen:=r.length
 refine ⟨"list",_,slot_list_getitem.lookup,ht.isList.typeIs,?_⟩
 refine wpAny_getItem_list_slice ht.isList hs pl pu .none (by simp) ?_ (by rw [List.size_toArray] <;> omega)
 rw [qiy9,<- hlen]
 refine ⟨.ref s.heap.objs.size,_,I.laid (t':=s.toks) (o:=.lst (cutV xs lo hi)) (fun b ob q=>Heap.get?_push_of_some _ q) (Nat.le_refl _) ?_,rfl,q _ (I.hok.fresh (Nat.le_refl _))⟩
 exact ⟨Nat.le_trans (qnb9 xs lo hi) hz,_,0,(r.drop (HT.sIx xs.length 0 lo)).take (HT.sIx xs.length xs.length hi - HT.sIx xs.length 0 lo),Heap.get?_push_size _ rfl⟩
theorem qkx9:CallR X (.builtin "len") (fun xs H Q=>∃ p ys,xs=[.ref p]/\(SqL X.K H p ys\/SqT X.K H p ys)/\Q (.int ys.length) H):=by
 intro pins s σ H xs us Q I r h
 obtain ⟨p,ys,rfl,hq,q⟩:=h
 obtain ⟨u,rfl,rx⟩:=vals1 r
 cases rx
 have hn:=qon9
 rcases hq with hq | hq
 ·obtain ⟨its,r',pl,hz⟩:=I.list hq
  have hlen:=r'.length
  exact Calls.call_len_list pl.isList (by simp only [List.size_toArray] <;> omega) ⟨.int ys.length,H,I.tok _,⟨s.toks+1,by rw [List.size_toArray,hlen]⟩,q⟩
 ·obtain ⟨its,r',pl,hz⟩:=I.tuple hq
  have hlen:=r'.length
  exact len_tuple pl (by simp only [List.size_toArray] <;> omega) ⟨.int ys.length,H,I.tok _,⟨s.toks+1,by rw [List.size_toArray,hlen]⟩,q⟩
theorem qjw9:CallR X (.type "list") (fun xs H Q=>∃ p ys,xs=[.ref p]/\(SqL X.K H p ys\/SqT X.K H p ys)/\∀ l,H l=none->Q (.ref l) (upd H l (.lst ys))):=by
 intro pins s σ H xs us Q I r h
 obtain ⟨p,ys,rfl,hq,q⟩:=h
 obtain ⟨u,rfl,rx⟩:=vals1 r
 cases rx
 have fin:∀ (its:List Value),Vals ys its->ys.length<=sizeLine->∀ (h':Heap) (c':Nat),(∀ b o',s.heap.get? b=some o'->h'.get? b=some o') ->
   h'.get? s.heap.objs.size=some { cls:=.type "list",dict:=none,data:=.seq its.toArray c',slots:=#[] }->EP X pins σ Q (.ref s.heap.objs.size) { s with heap:=h' }:=fun its r' hz h' c' kp e =>
  ⟨.ref s.heap.objs.size,_,I.laid (t':=s.toks) kp (Nat.le_refl _) (show ObjOk X.prog X.w _ h' _ (.lst ys) from ⟨hz,its,c',r',e⟩),rfl,q _ (I.hok.fresh (Nat.le_refl _))⟩
 rcases hq with hq | hq
 ·obtain ⟨its,r',pl,hz⟩:=I.list hq
  have hlen:=r'.length
  obtain ⟨o,ho,hc,n,hd⟩:=pl.isList
  exact call_list_seq p (.inl rfl) ho hc hd (fun h' c' kp e=>fin its r' hz h' c' kp e) (by simp only [List.size_toArray] <;> omega)
 ·obtain ⟨its,r',pl,hz⟩:=I.tuple hq
  have hlen:=r'.length
  obtain ⟨o,ho,hc,n,hd⟩:=pl
  exact call_list_seq p (.inr rfl) ho hc hd (fun h' c' kp e=>fin its r' hz h' c' kp e) (by simp only [List.size_toArray] <;> omega)
theorem qiw9:CallR X (.type "tuple") (fun xs H Q=>∃ p ys,xs=[.ref p]/\((SqL X.K H p ys/\∀ l,H l=none->Q (.ref l) (upd H l (.tup ys)))\/(SqT X.K H p ys/\Q (.ref p) H))):=by
 intro pins s σ H xs us Q I r h
 obtain ⟨p,ys,rfl,h⟩:=h
 obtain ⟨u,rfl,rx⟩:=vals1 r
 cases rx
 rcases h with ⟨hq,q⟩ | ⟨hq,q⟩
 ·obtain ⟨its,r',pl,hz⟩:=I.list hq
  have hlen:=r'.length
  refine call_tuple_list pl.isList (fun h' kp=>?_) (by simp only [List.size_toArray] <;> omega)
  have I1:Inv X pins σ H { s with heap:=h' }:=I.kept (t':=s.toks) kp
  have I2:Inv X pins σ (upd H h'.objs.size (.tup ys)) { s with heap:=h'.push { cls:=.type "tuple",data:=.seq its.toArray } } :=
   I1.laid (t':=s.toks) (fun b o e=>Heap.get?_push_of_some _ e) (Nat.le_refl _) (show ObjOk X.prog X.w _ _ _ (.tup ys) from ⟨hz,its,r',IsTup.new _ _⟩)
  exact ⟨.ref h'.objs.size,_,I2,rfl,q _ (I1.hok.fresh (Nat.le_refl _))⟩
 ·obtain ⟨its,r',pl,hz⟩:=I.tuple hq
  exact call_tuple_same pl ⟨.ref p,H,I,rfl,q⟩
def tyV (K:W.Frag) (T:String) (x:V) (H:Hp):Prop:=match x with
 | .str _=>T = "str"
 | .int _=>T = "int"
 | .ref p=>(T = "list" /\ ∃ xs,SqL K H p xs)\/(T = "tuple" /\ ∃ o,K.lookup p=some o/\o.cls=.type "tuple" /\ o.dict=none) \/
   (T = "dict" /\ ((∃ kvs,H p=some (.dK kvs))\/∃ kvs,H p=some (.dT kvs)))\/(T = "set" /\ ∃ S n,H p=some (.set S n))
 | _=>False
theorem tyV_is {pins:List (Addr × Obj)} {σ:St} {H:Hp} {s:Shared} {T:String} {x:V} {v:Value} (I:Inv X pins σ H s) (r:RelV x v) (ty:tyV X.K T x H) :
  s.TypeIs v T/\∀ a,v=.ref a->∃ ob,s.heap.get? a=some ob/\ob.dict=none:=by
 cases x with
 | str z =>
  obtain ⟨t,rfl⟩:=r
  cases (show T = "str" from ty)
  exact ⟨typeIs_str s z t,fun _ e=>nomatch e⟩
 | int i =>
  obtain ⟨t,rfl⟩:=r
  cases (show T = "int" from ty)
  exact ⟨typeIs_int s i t,fun _ e=>nomatch e⟩
 | ref p =>
  cases r
  rcases ty with ⟨rfl,xs,hq⟩ | ⟨rfl,o,hk,hc,hd⟩ | ⟨rfl,hk⟩ | ⟨rfl,S,n,hk⟩
  ·obtain ⟨its,_,pl,_⟩:=I.list hq
   refine ⟨pl.isList.typeIs,fun a e=>?_⟩
   cases e
   obtain ⟨o,n,e,c,hd,_⟩:=pl
   exact ⟨o,e,hd⟩
  ·refine ⟨⟨o,I.kIn p o hk,hc⟩,fun a e=>?_⟩
   cases e
   exact ⟨o,I.kIn _ o hk,hd⟩
  ·have z:∃ o,s.heap.get? p=some o/\o.ExactDict:=by
    rcases hk with ⟨kvs,hk⟩ | ⟨kvs,hk⟩
    ·obtain ⟨_,_,_,_,o,_,_,e,ex,_⟩:=I.hok p _ hk
     exact ⟨o,e,ex⟩
    ·obtain ⟨_,_,_,_,o,_,_,e,ex,_⟩:=I.hok p _ hk
     exact ⟨o,e,ex⟩
   obtain ⟨o,e,ex⟩:=z
   refine ⟨⟨o,e,ex.1⟩,fun a e2=>?_⟩
   cases e2
   exact ⟨o,e,ex.2.1⟩
  ·obtain ⟨o,_,_,_,e,ex,_⟩:=I.hok p _ hk
   refine ⟨⟨o,e,ex.1⟩,fun a e2=>?_⟩
   cases e2
   exact ⟨o,e,ex.2.1⟩
 | _=>exact False.elim ty
def tBM (K:W.Frag) (T:String) (r:V->List V->Hp->VK->Prop) (to:TE) (t:TA):TE:=fun σ H Q=>to σ H fun x H1=>tyV K T x H1/\t σ H1 fun xs H2=>r x xs H2 Q
variable {o e:Expr} {es:List Expr} {to:TE} {t:TA} {name:Str} {apos cpos:Pos} {T id:String} {r:V->List V->Hp->VK->Prop}
theorem pe_bm (pa:PlainAttrs T) (slot:Slot T name id) (hty:typeOf (.builtin id)=pure (.type "method_descriptor")) (hm:MtR X id r) (ho:PE X o to) (ha:PA X (e :: es) t)
  (hbase:attributeBase o name X.env (eval o X.env)=eval o X.env:=by rfl)
  (hfew:((backTo cpos (starEach (e :: es) X.env)).all (fun x=>!x.1) && (backToKw cpos (keywordEach [] X.env)).all (fun x=>x.1.isSome)
   && decide ((e :: es).length+([]:List Keyword).length+(if ([]:List Keyword).isEmpty then 0 else 1) < 30))=true:=by rfl)
  (hline:(apos.endLine == cpos.line)=true:=by rfl) (hs:starEach (e :: es) X.env=(false,eval e X.env) :: starEach es X.env:=by rfl) (hplain:(backTo cpos (starEach es X.env)).any (·.1)=false:=by rfl) :
  PE X (.Call (.Attribute o name apos) (e :: es) [] cpos) (tBM X.K T r to t):=by
 intro pins s σ H Q I h
 refine wpAny_Call_method_late hbase hfew hline rfl (thn (ho pins s σ H _ I h) fun v s1 z9=>?_)
 obtain ⟨x,H1,I1,r1,ty,q1⟩ := z9
 obtain ⟨h1,h2⟩:=tyV_is I1 r1 ty
 refine ⟨T,id,pa,slot,hty,h1,h2,?_⟩
 have hA:=ha cpos pins s1 σ H1 _ I1 q1
 rw [hs] at hA ⊢
 refine Calls.callWith_builtin (by show (false || (backTo cpos (starEach es X.env)).any (·.1))=false; rw [hplain] <;> rfl) (Calls.evalArgs_plain ?_)
 exact thn hA fun us s2 ⟨vs,H2,I2,r2,q2⟩=>hm pins s2 σ H2 x vs v us Q I2 r1 r2 q2
end
def MtM (X:Cx) (id:String) (r:V->List V->Hp->VK->Prop):Prop :=
 ∀ (pins:List (Addr × Obj)) (s:Shared) (σ:St) (H:Hp) (x:V) (xs:List V) (v:Value) (us:List Value) (Q:VK),Inv X pins σ H s->RelV x v->Vals xs us->r x xs H Q ->
  wpAny (model X.prog X.w) X.A (call (.builtin id) (v :: us)) (EP X pins σ Q) X.xe s
theorem Vals.one:∀ {x:V} {us:List Value},Vals [x] us->∃ u,us=[u]/\RelV x u
 | _,_,.cons r .nil=>⟨_,rfl,r⟩
theorem Vals.two:∀ {x y:V} {us:List Value},Vals [x,y] us->∃ u v,us=[u,v]/\RelV x u/\RelV y v
 | _,_,_,.cons r (.cons q .nil)=>⟨_,_,rfl,r,q⟩
section
variable {X:Cx} {pins:List (Addr × Obj)} {σ:St} {H:Hp} {s:Shared} {l b:Addr} {xs ys zs:List V}
theorem Inv.lset {its its':List Value} {n:Nat} {f:Array Value->Array Value} {t':Nat} (I:Inv X pins σ H s) (hH:H l=some (.lst xs))
  (e:s.heap.get? l=some { cls:=.type "list",data:=.seq its.toArray n }) (hf:f its.toArray=its'.toArray) (hv:Vals ys its') (hz:ys.length<=sizeLine) :
  Inv X pins σ (upd H l (.lst ys)) { s with heap:=s.heap.update l (Obj.mapSeq f),toks:=t' }:=by
 have q:=PySem.IsL.update e f
 rw [hf] at q
 refine I.write (x:=l) (e:=l) (by rw [hH]; exact trivial) (.inl rfl) (fun b' u hb hu=>(Heap.get?_update_other s.heap (Obj.mapSeq f) (Ne.symm hb)).trans hu) ⟨_,q⟩ ?_
 exact ⟨hz,its',_,hv,q⟩
theorem Inv.lnew {its:List Value} {t':Nat} (I:Inv X pins σ H s) (hv:Vals ys its) (hz:ys.length<=sizeLine) :
  Inv X pins σ (upd H s.heap.objs.size (.lst ys)) { s with heap:=s.heap.push { cls:=.type "list",data:=.seq its.toArray },toks:=t' } :=
 I.laid (fun _ _ q=>Heap.get?_push_of_some _ q) (Nat.le_refl _) ⟨hz,its,0,hv,Heap.get?_push_size _ rfl⟩
theorem Inv.fresh (I:Inv X pins σ H s):H s.heap.objs.size=none:=I.hok.fresh (Nat.le_refl _)
theorem Inv.lstM (I:Inv X pins σ H s) (hH:H l=some (.lst xs)):xs.length<=sizeLine/\∃ (its:List Value) (n:Nat),Vals xs its/\xs.length=its.length/\s.heap.get? l=some { cls:=.type "list",data:=.seq its.toArray n }:=by
 obtain ⟨z,its,n,r,e⟩:=I.hok l _ hH
 exact ⟨z,its,n,r,r.length,e⟩
theorem notLongL {n:Nat} (h:n<=sizeLine):Builtin.List.listTooLong n=false:=by
 unfold Builtin.List.listTooLong
 exact decide_eq_false (by omega)
end
section
variable {X:Cx}
def rAppend:V->List V->Hp->VK->Prop:=fun x vs H Q=>∃ l xs y,x=.ref l/\vs=[y]/\H l=some (.lst xs)/\xs.length < sizeLine/\Q .non (upd H l (.lst (xs ++ [y])))
theorem qig9:MtM X "list.append" rAppend:=by
 intro pins s σ H x vs v us Q I rx rv h
 obtain ⟨l,xs,y,rfl,rfl,hH,hz,q⟩:=h
 cases rx
 obtain ⟨u,rfl,ru⟩:=rv.one
 obtain ⟨z,its,n,r,hl,e⟩:=I.lstM hH
 refine call_meets F.slot_list_append ⟨_,e,rfl⟩ F.entry_list_append (F.args_list_append_2 _ _) (PySem.list_append l its.toArray n u (by rw [List.size_toArray]; omega)) ⟨e,?_⟩
 refine ⟨.non,_,I.lset (its':=its ++ [u]) hH e (by simp) (r.append (.cons ru .nil)) ?_,rfl,q⟩
 rw [List.length_append,List.length_singleton]
 omega
def rExtend:V->List V->Hp->VK->Prop:=fun x vs H Q=>∃ l b xs zs,x=.ref l/\vs=[.ref b]/\H l=some (.lst xs)/\H b=some (.lst zs)/\xs.length+zs.length<=sizeLine/\Q .non (upd H l (.lst (xs ++ zs)))
theorem mt_extend:MtM X "list.extend" rExtend:=by
 intro pins s σ H x vs v us Q I rx rv h
 obtain ⟨l,b,xs,zs,rfl,rfl,hH,hB,hz,q⟩:=h
 cases rx
 obtain ⟨u,rfl,ru⟩:=rv.one
 cases ru
 obtain ⟨z,its,n,r,hl,e⟩:=I.lstM hH
 obtain ⟨z2,its2,n2,r2,hl2,e2⟩:=I.lstM hB
 have hsz:its.toArray.size+its2.toArray.size<=sizeLine:=by rw [List.size_toArray,List.size_toArray]; omega
 have hlong:¬ (!its.toArray.isEmpty && Builtin.List.listTooLong (its.toArray.size+its2.toArray.size))=true:=by
  rw [notLongL hsz,Bool.and_false]
  exact Bool.false_ne_true
 refine call_meets F.slot_list_extend ⟨_,e,rfl⟩ F.entry_list_extend (F.args_list_extend_2 _ _)
  (AutoSeq1.list_extend_list_list_0 l its.toArray n b its2.toArray n2 hlong (by rw [List.size_toArray]; omega) (by omega)) ⟨e,e2,?_⟩
 refine ⟨.non,_,I.lset (its':=its ++ its2) hH e (by simp) (r.append r2) ?_,rfl,q⟩
 rw [List.length_append]
 omega
def rCat:R2:=fun x y H Q=>∃ l b xs zs,x=.ref l/\y=.ref b/\H l=some (.lst xs)/\H b=some (.lst zs)/\xs.length+zs.length<=sizeLine/\∀ p,H p=none->Q (.ref p) (upd H p (.lst (xs ++ zs)))
theorem op_cat:OpR X (binaryOp .Add) rCat:=by
 intro pins s σ H x y v u Q I rx ry h
 obtain ⟨l,b,xs,zs,rfl,rfl,hH,hB,hz,q⟩:=h
 cases rx
 cases ry
 obtain ⟨z,its,n,r,hl,e⟩:=I.lstM hH
 obtain ⟨z2,its2,n2,r2,hl2,e2⟩:=I.lstM hB
 refine PySem.P.add_list e e2 ?_ (by rw [List.size_toArray,List.size_toArray]; omega)
 have ea:its.toArray ++ its2.toArray=(its ++ its2).toArray:=by simp
 rw [ea]
 exact ⟨.ref _,_,I.lnew (t':=s.toks) (r.append r2) (by rw [List.length_append]; omega),rfl,q _ I.fresh⟩
end
section
variable {prog:Program} {w:World} {A:Around} {E:Value->Shared->Prop} {s:Shared}
end
section
variable {X:Cx}
end
end L2
namespace Att
open PySem PySem.W PySem.Calls PyProof.Rows
theorem qhd9 {P:Params} {h:Heap}:∀ (ns:List Int) (vs:List Value),WellAll P h vs (ns.map WData.int)->IntsAre vs ns:=by
 intro ns
 induction ns with
 | nil =>
  intro vs w
  rw [List.map_nil] at w
  cases w
  exact .nil
 | cons n ns ih =>
  intro vs w
  rw [List.map_cons] at w
  cases w with
  | cons a b =>
   cases a
   exact .cons _ _ (ih _ b)
theorem script_of {l:OpenLaw} {n:Nat} (hn:l.most=some n) {P:Params} {h:Heap} {args:List WData} {vals:List Value}
  (hpre:l.row.toRowW.claim.pre args=true) (hwl:WellAll P h vals args) :
  ∃ a vs ns,vals=[Value.ref a]/\args=[WData.list (ns.map WData.int)]/\h.get? a=some { cls:=.type "list",data:=.seq vs.toArray }/\IntsAre vs ns/\ns.length<=n:=by
 have hsh:WShape.hasAll [] args [.list .int]=true:=(pre_splitW hpre).1
 have hc:l.pre.holds [] { args:=args }=true:=(pre_splitW hpre).2
 obtain ⟨d,r,rfl,h1,h2⟩:=hasAllW_cons hsh
 obtain rfl:=hasAllW_nil h2
 obtain ⟨xs,rfl,h3⟩:=hasW_list h1
 obtain ⟨ns,rfl⟩:=items_int h3
 have hlen:ns.length<=n:=by
  unfold OpenLaw.pre at hc
  have h4:(WTm.not (.lt (.lit (.int (n:Int))) (.len (.arg 0)))).holds [] { args:=[.list (ns.map .int)] }=true:=by
   have h4:=(holds_andW hc).1
   rw [hn] at h4
   exact h4
  have h5:=condW_of h4 (w_not (w_lt w_lit (w_len_list (w_arg rfl))))
  rw [List.length_map] at h5
  refine Nat.le_of_not_lt fun q=>?_
  have q':(n:Int) < ((ns.length:Nat):Int):=by omega
  first
   | (rw [decide_eq_true q'] at h5; exact absurd h5 (by decide))
   | (simp at h5; omega)
 cases hwl with
 | cons w1 w2 =>
  cases w2
  cases w1 with
  | list ho hall=>exact ⟨_,_,ns,rfl,rfl,ho,qhd9 ns _ hall,hlen⟩
theorem post_true (l:OpenLaw) (args:List WData):l.row.toRowW.claim.post args (.bool true) args=true :=
 postW_of (r:=l.row.toRowW) (X:=(true == true))
  (show WShape.has [] (.bool true) .bool=true by first | rfl | decide | simp [WShape.has,WShape.arms,WShape.armsAll])
  (show (WTm.eq .res (.lit (.bool true))).value [] { args:=args,res:=some (.bool true),after:=args }=some (.bool (true == true)) from w_eq_bool (w_res rfl) w_lit) rfl
theorem attach_call {l:OpenLaw} {n:Nat} {q:Program} {loose:List Str} {XP:(Str->Option Value)->Heap->Prop} {YP:World->Heap->Prop} {d:DefRec}
  (hn:l.most=some n) (hdf:d.params.defaults=[])
  (call:∀ (w:World) (s₀ s₁:Shared) (mg mb:Str->Option Value) (fa:Addr) (o:Obj) (pm cd doc:Value) (a:Addr) (vs:List Value) (ns:List Int),
   Ground q loose [] XP w s₀ mg mb s₁.heap->YP w s₁.heap ->
   s₁.heap.get? fa=some o->o.data=.func (docDef d.name d.params d.body d.scope pm cd doc)->s₁.heap.CodeRec cd d.name->mg d.name=some (.ref fa) ->
   s₁.heap.get? a=some { cls:=.type "list",data:=.seq vs.toArray }->IntsAre vs ns->ns.length<=n->s₁.gens=#[] ->
   codeAny (model l.prog w) callerA (.call (.ref fa) ⟨[.ref a],[]⟩) (fun r s'=>r=.ok (.ret (.bool true))/\OldK s₁.heap s'.heap/\s'.os=s₁.os/\AllBare s'.gens) s₁) :
  WalkO q loose XP YP l.row.toRowW d [] (fun f vs=>PySem.call f vs):=by
 intro w s₀ s₁ mg mb G Y fa o pm cd doc dV kV ho hd hcd hD hmg hg args vals as hpre hlay hrd hwl hlo
 obtain rfl:dV=.none:=Dflts.none hD hdf
 obtain rfl:kV=.none:=Dflts.noKw hD
 obtain ⟨a,vs,ns,rfl,rfl,hobj,hints,hlen⟩:=script_of hn hpre hwl
 refine enter_call (codeAny_mono (call w s₀ s₁ mg mb fa o pm cd doc a vs ns G Y ho (fd_plain hd) hcd hmg hobj hints hlen hg) fun r s' hq=>?_)
 obtain ⟨rfl,h2,h3,h4⟩:=hq
 exact ⟨.inl ⟨.bool true,.bool true,[],rfl,fun _=>rfl,.bool true,post_true l _,fun _=>⟨List.Pairwise.nil,fun _ hm=>(nomatch hm)⟩⟩,h2,h3,h4⟩
section
variable {prog:Program} {w:World} {A:Around} {E:Value->Shared->Prop} {s:Shared} {K:Frag}
end
end Att
namespace L2
open PySem PySem.Spec PyProof.Rows
theorem qlm9:∀ {vs:List Value} {ns:List Int},IntsAre vs ns->Vals (ns.map V.int) vs
 | _,_,.nil=>.nil
 | _,_,.cons n t h=>.cons ⟨t,rfl⟩ (qlm9 h)
abbrev CX0:CXT:=fun _ _ _ _ _ _=>False
abbrev E0:XK:=fun _ _ _=>False
theorem pass0 {X:Cx}:qgz9 CX0 X E0:=fun _ _ _ _ _ _ _ h=>h.elim
structure Fun (K:W.Frag) (x qual:Str) (st:Stmt) (f:Addr) (fd:FuncData):Prop where
 ex:∃ (oc:Value) (od:Option Addr) (kV doc pm:Value) (an:Option Addr) (cdv ct:Value) (osl:Array (Option Value)),
  fd=W.fnOf x qual (qah9 st) (qag9 st) (qab9 st) .none kV doc pm an cdv ct/\K.lookup f=some ⟨oc,od,.func fd,osl⟩/\W.codeIn K cdv qual=true
 kp:W.keepIn K (.ref f)=true
section
variable {P:Program} {w:World} {K:W.Frag} {mg:Str->Option Value} {base:Heap}
theorem Fun.ok {x qual:Str} {st:Stmt} {f:Addr} {fd:FuncData} {N ps:List Str} {k:Nat} {sp:Sp} (F:Fun K x qual st f fd) (S:FnScope N ps (qab9 st)) (len:∀ vs H Q E,sp vs H Q E->vs.length=ps.length)
  (hbody:∀ (cdv:Value) (A:Around) (outer:List Env) (s:Shared) (H:Hp) (vs:List V) (Q:VK) (E:XK),Room k (A.deeper (envOfC qual (qab9 st) s.heap.objs.size f cdv))->sp vs H Q E ->
   ∃ t,PSs (cxOf CX0 P w K mg base N qual (qab9 st) f cdv A outer s H E).nox (qag9 st) t/\t { nx:=fun _ H'=>Q .non H',rt:=Q } (start N vs) H):FnOk P w K mg base CX0 (k+1) f fd ps sp:=by
 obtain ⟨oc,od,kV,doc,pm,an,cdv,ct,osl,rfl,lk,hcd⟩:=F.ex
 refine fn_of lk hcd S len fun A outer s H vs Q E hr hsp=>?_
 obtain ⟨t,h,q⟩:=hbody cdv A outer s H vs Q E hr hsp
 exact ⟨t,h.nox,q⟩
theorem Fun.binds {x qual:Str} {st:Stmt} {f:Addr} {fd:FuncData} {ps:List Str} (F:Fun K x qual st f fd)
  (h:∀ (kV doc pm:Value) (an:Option Addr) (cdv ct:Value) (us:List Value),us.length=ps.length->bindArgs (W.fnOf x qual (qah9 st) (qag9 st) (qab9 st) .none kV doc pm an cdv ct) ⟨us,[]⟩=pure (ps.zip us)):Binds K fd ps []:=by
 obtain ⟨oc,od,kV,doc,pm,an,cdv,ct,osl,rfl,lk,hcd⟩:=F.ex
 exact .all (h kV doc pm an cdv ct)
theorem qdq9 {x qual:Str} {st:Stmt} {f:Addr} {oc:Value} {od an:Option Addr} {osl:Array (Option Value)} {kV doc pm cdv ct:Value} (l:K.lookup f=some ⟨oc,od,.func (W.fnOf x qual (qah9 st) (qag9 st) (qab9 st) .none kV doc pm an cdv ct),osl⟩)
  (c:W.codeIn K cdv qual=true) (k:W.keepIn K (.ref f)=true):Fun K x qual st f (W.fnOf x qual (qah9 st) (qag9 st) (qab9 st) .none kV doc pm an cdv ct):=⟨⟨oc,od,kV,doc,pm,an,cdv,ct,osl,rfl,l,c⟩,k⟩
end
theorem qgg9 {n:Nat} (h:n<=1000):n < sizeLine:=Nat.lt_of_le_of_lt h (by decide)
section
variable {X:Cx}
theorem pv (i:Nat) {x:Str} {pos:Pos} (hN:X.N[i]?=some x:=by rfl) (hv:Vis X.env.scope x:=by first | exact Or.inl rfl | exact Or.inr (Or.inl rfl) | exact Or.inr (Or.inr rfl)) (hd:(x == ("__debug__" : Str))=false:=by decide)
  (hcd:(x == ("__classdict__" : Str))=false:=by decide):PE X (.Name x pos) (tVar i):=pe_var hN hv hd hcd
end
theorem iteF {A B:Prop} (h:B):if false=true then A else B:=by
 rw [if_neg Bool.false_ne_true]
 exact h
theorem iteT {A B:Prop} (h:A):if true=true then A else B:=by
 rw [if_pos rfl]
 exact h
theorem ite2 {c A B:Prop} [Decidable c] (h1:c->A) (h2:¬ c->B):if c then A else B:=by
 by_cases h:c
 ·rw [if_pos h]
  exact h1 h
 ·rw [if_neg h]
  exact h2 h
def Same (H H':Hp):Prop:=∀ b o,H b=some o->H' b=some o
theorem Same.refl (H:Hp):Same H H:=fun _ _ h=>h
theorem Same.trans {H H1 H2:Hp} (a:Same H H1) (b:Same H1 H2):Same H H2:=fun c o h=>b c o (a c o h)
theorem Same.free {H H':Hp} (e:Same H H') {l:Addr} (h:H' l=Option.none):H l=Option.none:=by
 cases q:H l with
 | none=>rfl
 | some o =>
  rw [e l o q] at h
  cases h
theorem Same.seq {K:W.Frag} {H H':Hp} {a:Addr} {xs:List V} (e:Same H H') (h:SqL K H a xs):SqL K H' a xs:=by
 rcases h with (h | ⟨o,h⟩) | h
 ·exact .inl (.inl (e _ _ h))
 ·exact .inl (.inr ⟨o,e _ _ h⟩)
 ·exact .inr h
end L2
set_option maxHeartbeats 4000000
namespace Ma
theorem split (d x:Int) (hd:0 < d):∃ q,x=d * q+x % d/\0<=x % d/\x % d < d :=
 ⟨x / d,by have:=Int.mul_ediv_add_emod x d; omega,Int.emod_nonneg x (by omega),Int.emod_lt_of_pos x hd⟩
theorem qbi9 {d k m:Int} (hd:0 < d) (h:k < m):d * k+d<=d * m:=by
 have:=Int.mul_le_mul_of_nonneg_left (show k+1<=m by omega) (Int.le_of_lt hd)
 rw [Int.mul_add,Int.mul_one] at this
 exact this
def nextO (d a b t:Int):Int:=if b < t % d then t - t % d+d+a else t - t % d+(if a > t % d then a else t % d)
section
variable {d a b t:Int}
theorem qch9 (hd:0 < d) (h0:0<=a) (h1:a<=b) (h2:b < d) :
  ∃ k,d * k+a<=nextO d a b t/\nextO d a b t<=d * k+b/\t<=nextO d a b t/\nextO d a b t < t+d /\
   ∀ k' x,d * k'+a<=x->x<=d * k'+b->t<=x->nextO d a b t<=x:=by
 obtain ⟨q,hq,r0,r1⟩:=split d t hd
 unfold nextO
 generalize t % d=r at *
 split
 ·refine ⟨q+1,?_⟩
  have e:d * (q+1)=d * q+d:=by rw [Int.mul_add,Int.mul_one]
  refine ⟨by omega,by omega,by omega,by omega,fun k' x x1 x2 x3=>?_⟩
  rcases Int.lt_or_le q k' with hk | hk
  ·have:=qbi9 hd hk
   omega
  ·have:=Int.mul_le_mul_of_nonneg_left hk (Int.le_of_lt hd)
   omega
 ·refine ⟨q,?_⟩
  refine ⟨by split <;> omega,by split <;> omega,by split <;> omega,by split <;> omega,fun k' x x1 x2 x3=>?_⟩
  rcases (by omega:q < k'\/q=k'\/k' < q) with hk | hk | hk
  ·have:=qbi9 hd hk
   split <;> omega
  ·subst hk
   split <;> omega
  ·have:=qbi9 hd hk
   omega
end
structure Clk (d:Int) (n:Nat) (A B C:Nat->Int):Prop where
 d0:0 < d
 a0:∀ i,i < n->0<=A i
 ab:∀ i,i < n->A i<=B i
 bd:∀ i,i < n->B i < d
 c0:∀ i,i < n->0<=C i
 lt:∀ i j,i < j->j < n->B i < A j
 yl:∀ i j,i < j->j < n->B i+C i < A j+C j
 wr:∀ i j,i < n->j < n->B i+C i < d+(A j+C j)
def Dep (d:Int) (n:Nat) (A B C:Nat->Int) (x y:Int):Prop:=∃ i k,i < n/\d * k+A i<=x/\x<=d * k+B i/\y=x+C i
section
variable {d:Int} {n:Nat} {A B C:Nat->Int}
theorem qpj9 (K:Clk d n A B C) {x y x' y':Int} (h:Dep d n A B C x y) (h':Dep d n A B C x' y') (l:x < x'):y < y':=by
 obtain ⟨i,k,hi,x1,x2,rfl⟩:=h
 obtain ⟨j,m,hj,z1,z2,rfl⟩:=h'
 have d0:=K.d0
 have wr:=K.wr i j hi hj
 have a1:=K.a0 i hi
 have a2:=K.a0 j hj
 have b1:=K.bd i hi
 have b2:=K.bd j hj
 rcases (by omega:k < m\/k=m\/m < k) with hk | hk | hk
 ·have:=qbi9 d0 hk
  omega
 ·subst hk
  rcases (by omega:i < j\/i=j\/j < i) with e | e | e
  ·have:=K.yl i j e hj
   omega
  ·subst e
   omega
  ·have:=K.lt j i e hi
   omega
 ·have:=qbi9 d0 hk
  omega
theorem qpo9 (K:Clk d n A B C) {x y y':Int} (h:Dep d n A B C x y) (h':Dep d n A B C x y'):y=y':=by
 obtain ⟨i,k,hi,x1,x2,rfl⟩:=h
 obtain ⟨j,m,hj,z1,z2,rfl⟩:=h'
 have d0:=K.d0
 have a1:=K.a0 i hi
 have a2:=K.a0 j hj
 have b1:=K.bd i hi
 have b2:=K.bd j hj
 rcases (by omega:k < m\/k=m\/m < k) with hk | hk | hk
 ·have:=qbi9 d0 hk
  omega
 ·subst hk
  rcases (by omega:i < j\/i=j\/j < i) with e | e | e
  ·have:=K.lt i j e hj
   omega
  ·rw [e]
  ·have:=K.lt j i e hi
   omega
 ·have:=qbi9 d0 hk
  omega
structure First (d:Int) (n:Nat) (A B C:Nat->Int) (t x y:Int):Prop where
 dep:Dep d n A B C x y
 le:t<=x
 least:∀ x' y',Dep d n A B C x' y'->t<=x'->x<=x'
theorem first_of (K:Clk d n A B C) (hn:0 < n) {t:Int} {m:Nat} (hm:m<=n) (h1:∀ i,i < m->¬ t % d<=B i) (h2:m < n->t % d<=B m) {i:Nat} (hi:i=m % n) :
  First d n A B C t (nextO d (A i) (B i) t) (nextO d (A i) (B i) t+C i):=by
 have hin:i < n:=by rw [hi]; exact Nat.mod_lt _ hn
 obtain ⟨k,k1,k2,k3,k4,k5⟩:=qch9 (t:=t) K.d0 (K.a0 i hin) (K.ab i hin) (K.bd i hin)
 refine ⟨⟨i,k,hin,k1,k2,rfl⟩,k3,?_⟩
 intro x' y' z9 hx;obtain ⟨j,k',hj,x1,x2,rfl⟩ := z9
 obtain ⟨q,hq,r0,r1⟩:=split d t K.d0
 have d0:=K.d0
 have aj:=K.a0 j hj
 have bj:=K.bd j hj
 have abj:=K.ab j hj
 have ai:=K.a0 i hin
 have bi:=K.bd i hin
 have abi:=K.ab i hin
 by_cases hmn:m < n
 ·have ei:i=m:=by rw [hi,Nat.mod_eq_of_lt hmn]
  subst ei
  have hb:=h2 hmn
  have en:nextO d (A i) (B i) t=t - t % d+(if A i > t % d then A i else t % d):=by
   unfold nextO
   rw [if_neg (by omega)]
  rw [en]
  rcases (by omega:j=i\/j < i\/i < j) with e | e | e
  ·subst e
   have:=k5 k' x' x1 x2 hx
   rw [en] at this
   exact this
  ·have hjb:=h1 j e
   rcases (by omega:k'<=q\/q < k') with hk | hk
   ·have:=Int.mul_le_mul_of_nonneg_left hk (Int.le_of_lt d0)
    omega
   ·have:=qbi9 d0 hk
    split <;> omega
  ·have:=K.lt i j e hj
   rcases (by omega:k' < q\/k'=q\/q < k') with hk | hk | hk
   ·have:=qbi9 d0 hk
    omega
   ·subst hk
    split <;> omega
   ·have:=qbi9 d0 hk
    split <;> omega
 ·have em:m=n:=by omega
  have ei:i=0:=by rw [hi,em,Nat.mod_self]
  subst ei
  have hb:=h1 0 (by omega)
  have en:nextO d (A 0) (B 0) t=t - t % d+d+A 0:=by
   unfold nextO
   rw [if_pos (by omega)]
  rw [en]
  have hjb:=h1 j (by omega)
  have a0j:A 0<=A j:=by
   rcases Nat.eq_zero_or_pos j with e | e
   ·rw [e]
    exact Int.le_refl _
   ·have:=K.lt 0 j e hj
    omega
  rcases (by omega:k'<=q\/q < k') with hk | hk
  ·have:=Int.mul_le_mul_of_nonneg_left hk (Int.le_of_lt d0)
   omega
  ·have:=qbi9 d0 hk
   omega
theorem First.uniq (K:Clk d n A B C) {t x y x' y':Int} (h:First d n A B C t x y) (h':First d n A B C t x' y'):x=x'/\y=y':=by
 have a:=h.least _ _ h'.dep h'.le
 have b:=h'.least _ _ h.dep h.le
 have e:x=x':=by omega
 subst e
 exact ⟨rfl,qpo9 K h.dep h'.dep⟩
end
end Ma
namespace Ma
abbrev T3:=Int × Int × Int
structure Rw (R:List T3) (at_ ride:Int):Prop where
 at0:0<=at_
 r0:0<=ride
 atb:at_<=3000000000000 * (R.length:Int)
 rb:ride<=2000000000000 * (R.length:Int)
 row:∀ (i:Nat) (a b c:Int),R[i]?=some (a,b,c)->0<=a/\a<=b/\b < at_/\0<=c/\c<=2000000000000 * (R.length:Int)
 adj:∀ (i:Nat) (a b c a' b' c':Int),R[i]?=some (a,b,c)->R[i+1]?=some (a',b',c')->b < a'/\b+c < a'+c'
 last:∀ (a b c:Int),R[R.length - 1]?=some (a,b,c)->b=at_ - 1/\c=ride
 tch:∀ (i:Nat) (a b c a' b' c':Int),R[i]?=some (a,b,c)->R[i+1]?=some (a',b',c')->b+1=a'->c ≠ c'
def rA (R:List T3) (i:Nat):Int:=(R.getD i (0,0,0)).1
def rB (R:List T3) (i:Nat):Int:=(R.getD i (0,0,0)).2.1
def rC (R:List T3) (i:Nat):Int:=(R.getD i (0,0,0)).2.2
theorem r_at {R:List T3} {i:Nat} (h:i < R.length):R[i]?=some (rA R i,rB R i,rC R i):=by
 unfold rA rB rC
 rw [List.getD_eq_getElem?_getD,List.getElem?_eq_getElem h]
 rfl
theorem r_of {R:List T3} {i:Nat} {a b c:Int} (h:R[i]?=some (a,b,c)):rA R i=a/\rB R i=b/\rC R i=c:=by
 unfold rA rB rC
 rw [List.getD_eq_getElem?_getD,h]
 exact ⟨rfl,rfl,rfl⟩
section
variable {d:Int} {n:Nat} {A B C:Nat->Int}
theorem first_min (K:Clk d n A B C) {t:Int} {j:Nat} (hj:j < n) (hm:∀ i,i < n->nextO d (A j) (B j) t<=nextO d (A i) (B i) t):First d n A B C t (nextO d (A j) (B j) t) (nextO d (A j) (B j) t+C j):=by
 obtain ⟨k,k1,k2,k3,k4,k5⟩:=qch9 (t:=t) K.d0 (K.a0 j hj) (K.ab j hj) (K.bd j hj)
 refine ⟨⟨j,k,hj,k1,k2,rfl⟩,k3,?_⟩
 intro x' y' z9 hx;obtain ⟨i,k',hi,x1,x2,rfl⟩ := z9
 obtain ⟨k',a1,a2,a3,a4,a5⟩:=qch9 (t:=t) K.d0 (K.a0 i hi) (K.ab i hi) (K.bd i hi)
 have:=a5 _ x' x1 x2 hx
 have:=hm i hi
 omega
end
end Ma
namespace L2
open PySem PySem.Spec PyProof.Rows
theorem bt_max:bootBuiltins "max" = some (.builtin "max"):=by decide +kernel
theorem qib9:bootBuiltins "min" = some (.builtin "min"):=by decide +kernel
theorem qby9:bootBuiltins "len" = some (.builtin "len"):=by decide +kernel
theorem bt_all:bootBuiltins "all" = some (.builtin "all"):=by decide +kernel
theorem qaz9:bootBuiltins "isinstance" = some (.builtin "isinstance"):=by decide +kernel
theorem bt_int:bootBuiltins "int" = some (.type "int"):=by decide +kernel
theorem bt_bool:bootBuiltins "bool" = some (.type "bool"):=by decide +kernel
theorem qkp9:bootBuiltins "tuple" = some (.type "tuple"):=by decide +kernel
theorem qgo9:bootBuiltins "list" = some (.type "list"):=by decide +kernel
def qbk9:Expr->Bool
 | .Starred ..=>false
 | _=>true
theorem se_of {e:Expr} {es:List Expr} {env:Env} (h:qbk9 e=true):starEach (e :: es) env=(false,eval e env) :: starEach es env:=by
 cases e <;> first | rfl | cases h
theorem qjo9 {pos:Pos} {env:Env}:∀ {es:List Expr},es.all qbk9=true->(backTo pos (starEach es env)).any (·.1)=false
 | [],_=>rfl
 | e :: es,h=>by
  rw [List.all_cons,Bool.and_eq_true] at h
  rw [se_of h.1]
  show (false || (backTo pos (starEach es env)).any (·.1))=false
  rw [qjo9 h.2]
  rfl
section
variable {X:Cx} {e:Expr} {es:List Expr} {te:TE} {t:TA}
theorem pa_c (ha:PE X e te) (hr:PA X es t) (h:qbk9 e=true:=by rfl):PA X (e :: es) (tCons te t):=pa_cons ha hr (se_of h)
end
section
variable {X:Cx} {x:Str} {p pos:Pos} {e:Expr} {es:List Expr} {t:TA} {id T:String} {r:List V->Hp->VK->Prop}
theorem pe_cb (hc:CallR X (.builtin id) r) (hg:Gl X x) (hm:X.mg x=none) (hv:bootBuiltins x=some (.builtin id)) (ha:PA X (e :: es) t) (hn:x ≠ "__name__" := by decide) (hdb:(x == ("__debug__" : Str))=false:=by decide)
  (he:qbk9 e=true:=by rfl) (hpl:es.all qbk9=true:=by rfl):PE X (.Call (.Name x p) (e :: es) [] pos) (tCB r t):=pe_callB hc hg hm hv ha hn hdb (se_of he) (qjo9 hpl)
theorem pe_ct (hc:CallR X (.type T) r) (hg:Gl X x) (hm:X.mg x=none) (hv:bootBuiltins x=some (.type T)) (ha:PA X (e :: es) t) (hn:x ≠ "__name__" := by decide) (hdb:(x == ("__debug__" : Str))=false:=by decide)
  (he:qbk9 e=true:=by rfl) (hpl:es.all qbk9=true:=by rfl):PE X (.Call (.Name x p) (e :: es) [] pos) (tCB r t):=pe_callTy hc hg hm hv ha hn hdb (se_of he) (qjo9 hpl)
end
structure Callee (P:Program) (w:World) (K:W.Frag) (mg:Str->Option Value) (base:Heap) (k:Nat) (x:Str) (ps:List Str) (sp:Sp):Prop where
 ex:∃ (f:Addr) (fd:FuncData),FnOk P w K mg base CX0 k f fd ps sp/\Binds K fd ps []/\W.keepIn K (.ref f)=true/\mg x=some (.ref f)
theorem Callee.up {P:Program} {w:World} {K:W.Frag} {mg:Str->Option Value} {base:Heap} {j k:Nat} {x:Str} {ps:List Str} {sp:Sp} (C:Callee P w K mg base j x ps sp) (h:j<=k):Callee P w K mg base k x ps sp:=by
 obtain ⟨f,fd,G,b,kp,m⟩:=C.ex
 exact ⟨f,fd,G.mono h,b,kp,m⟩
theorem Callee.mk' {P:Program} {w:World} {K:W.Frag} {mg:Str->Option Value} {base:Heap} {k:Nat} {x:Str} {ps:List Str} {sp:Sp} {f:Addr} {fd:FuncData} (G:FnOk P w K mg base CX0 k f fd ps sp) (b:Binds K fd ps []) (kp:W.keepIn K (.ref f)=true) (m:mg x=some (.ref f)):Callee P w K mg base k x ps sp:=⟨f,fd,G,b,kp,m⟩
section
variable {X:Cx} {k:Nat} {x:Str} {ps:List Str} {sp:Sp} {e:Expr} {es:List Expr} {t:TA} {p pos:Pos}
theorem pe_fn (C:Callee X.prog X.w X.K X.mg X.base k x ps sp) (hr:Room k X.A) (hg:Gl X x) (ha:PA X (e :: es) t) (hdb:(x == ("__debug__" : Str))=false:=by decide)
  (he:qbk9 e=true:=by rfl) (hpl:es.all qbk9=true:=by rfl) :
  PE X (.Call (.Name x p) (e :: es) [] pos) (tCall sp [] E0 t):=by
 obtain ⟨f,fd,G,b,kp,m⟩:=C.ex
 exact pe_call G hr hg m kp b .nil pass0 ha hdb (se_of he) (qjo9 hpl)
end
def CDivB (_ j:Int):Prop:=0 < j/\j < 1606938044258990275541962092341162602522202993782792835301376
section
variable {X:Cx}
theorem op_fdivB:OpR X (binaryOp .FloorDiv) (rI CDivB fun i j=>.int (i / j)):=opI fun i j _ _ _ _ _ hc q=>by
 have h1:(0:Int) < j:=hc.1
 have h2:=hc.2
 refine floordiv_int (by omega) (by rw [Int.fdiv_eq_ediv_of_nonneg i (by omega)]; exact q) (.inl (PyProof.noPylong_of_log2 ?_))
 have h0:j.natAbs ≠ 0:=by omega
 have h3:j.natAbs < 2 ^ 200:=by
  have e:(2:Nat) ^ 200=1606938044258990275541962092341162602522202993782792835301376:=by decide +kernel
  rw [e]
  omega
 have:=(Nat.log2_lt h0).mpr h3
 omega
theorem call_isi:CallR X (.builtin "isinstance") (fun xs H Q=>∃ x T t b,xs=[x,.ty T]/\TyOf X.K H x t/\W.kitOne X.K t (.type T)=some b/\Q (.bl b) H):=by
 intro pins s σ H xs us Q I r h
 obtain ⟨x,T,t,b,rfl,ty,hk,q⟩:=h
 obtain ⟨u,v,rfl,r1,r2⟩:=Vals.two r
 cases (show v=Value.type T from r2)
 exact isinst_ok I r1 ty hk fun tk=>⟨.bl b,H,I.tok tk,rfl,q⟩
end
def blk (X:Cx) (N':List Str) (scope:Scope) (cl:List (Str × Addr)) (C:Addr) (s0:Shared) (H0:Hp) (fp:List Addr):Cx :=
 { X with N:=N',s₀:=s0,H₀:=H0,env:=compEnvC scope cl C X.env,outer:=X.stack,ex:=fp,fn:=fun _=>false,pn:=[],xe:=fun _ _=>False }
def seen (caps:List (Option Nat)) (σ:St):St:=caps.map fun o=>o.bind fun j=>(σ[j]?).join
structure BlkOk (X:Cx) (N':List Str) (scope:Scope) (cl:List (Str × Addr)) (caps:List (Option Nat)):Prop where
 clos:closureFor scope X.env=pure cl
 nocell:∀ y∈scope.names,y.2 ≠ .cell
 kind:scope.kind=.function
 names:∀ y∈scope.names,y.2=.local->scope.names.lookup y.1=some .local
 sub:∀ x c,cl.lookup x=some c->X.env.cells.lookup x=some c
 has:∀ x,((relabel scope X.env).names.lookup x=some .cell\/(relabel scope X.env).names.lookup x=some .free)->∃ c,cl.lookup x=some c
 len:caps.length=N'.length
 cap:∀ (i j:Nat) (x:Str),caps[i]?=some (some j)->N'[i]?=some x->X.N[j]?=some x/\(X.env.kindOf x=some .cell\/X.env.kindOf x=some .free)/\((relabel scope X.env).names.lookup x=some .cell\/(relabel scope X.env).names.lookup x=some .free)
theorem qfq9 {a:Addr} {h h':Heap} (x:Heap.SameBut a h h') {b:Addr} {o:Obj} (n:b ≠ a) (e:h.get? b=some o):h'.get? b=some o:=x.extBut b o n e
section
variable {X:Cx} {N':List Str} {scope:Scope} {cl:List (Str × Addr)} {caps:List (Option Nat)} {pins:List (Addr × Obj)} {σ:St} {H:Hp} {s:Shared} {fp:List Addr}
theorem blk_inv (B:BlkOk X N' scope cl caps) (I:Inv X pins σ H s) (hf:∀ b∈fp,FpOk X pins H b) {h1:Heap} {m:Str->Option Value} (hn:h1.Ns s.heap.objs.size m) (hk:∀ b o,s.heap.get? b=some o->h1.get? b=some o) {tk:Nat}
  (hfp:∀ b∈fp,b < s.heap.objs.size):Inv (blk X N' scope cl s.heap.objs.size s H fp) [] (seen caps σ) H { s with heap:=h1,toks:=tk }:=by
 have bsz:X.base.objs.size<=s.heap.objs.size:=Nat.le_trans I.ok.bsz I.sz
 refine ⟨⟨I.ok.mod,B.kind,I.ok.glob,I.ok.blt,Nat.le_refl _,fun x y c e1 e2=>I.ok.inj x y c (B.sub x c e1) (B.sub y c e2),B.has,fun _ _ z=>(nomatch z),I.ok.hd,I.ok.frames,.inl rfl,fun b hb=>⟨Nat.ne_of_lt (hfp b hb),fun x c e=>(hf b hb).2.2.2.2.1 x c (B.sub x c e)⟩,
   I.bs,bsz,fun b o e hb=>?_,fun b hb z=>?_,I.stack,I.stkFree⟩,rfl,I.bare,Un.kept hk,⟨m,hn,fun i x v e1 e2 _=>?_⟩,fun x c e=>?_,I.hok.fresh (Nat.le_refl _),fun x c e=>I.freeC x c (B.sub x c e),fun p hp=>absurd (show p∈([]:List (Addr × Obj)) from hp) (by simp),I.hok.kept hk,?_⟩
 ·obtain ⟨_,_,_,z,_⟩:=hf b hb
  rcases z with z | z
  ·exact I.ok.noex b o e z
  ·exact absurd (Nat.lt_of_lt_of_le (Heap.lt_size e) (Nat.le_trans I.ok.bsz z)) (Nat.lt_irrefl _)
 ·obtain ⟨_,z1,z2,_⟩:=hf b hb
  rcases List.mem_cons.mp (I.stkSub b z) with e | e
  ·exact z1 e
  ·exact z2 e
 ·have e2':(seen caps σ)[i]?=some (some v):=e2
  unfold seen at e2'
  rw [List.getElem?_map] at e2'
  cases ec:caps[i]? with
  | none=>rw [ec] at e2'; cases e2'
  | some oj =>
   rw [ec] at e2'
   have e3:(oj.bind fun j=>(σ[j]?).join)=some v:=Option.some.inj e2'
   cases oj with
   | none=>cases e3
   | some j =>
    obtain ⟨c1,c2,c3⟩:=B.cap i j x ec e1
    have e4:σ[j]?=some (some v):=by
     have e5:(σ[j]?).join=some v:=e3
     cases ej:σ[j]? with
     | none=>rw [ej] at e5; cases e5
     | some ov =>
      rw [ej] at e5
      cases ov with
      | none=>cases e5
      | some v'=>exact congrArg some e5
    obtain ⟨m0,hn0,hl⟩:=I.loc
    obtain ⟨u,ru,lk⟩:=hl j x v c1 e4 (by
     rcases c2 with z | z
     ·exact .inr (.inl z)
     ·exact .inr (.inr z))
    refine ⟨u,ru,.inr ⟨c3,?_⟩⟩
    obtain ⟨c,ecl⟩:=B.has x c3
    refine ⟨c,ecl,?_⟩
    rcases lk with ⟨z,_⟩ | ⟨_,c',e',⟨oc,q1,q2⟩⟩
    ·rcases c2 with y | y
     ·rw [y] at z; cases z
     ·rw [y] at z; cases z
    ·have ee:c'=c:=Option.some.inj (e'.symm.trans (B.sub x c ecl))
     subst ee
     exact ⟨oc,hk _ _ q1,q2⟩
 ·obtain ⟨v,o,q1,q2⟩:=I.cell x c (B.sub x c e)
  exact ⟨v,o,hk _ _ q1,q2⟩
 ·show (seen caps σ).length=N'.length
  unfold seen
  rw [List.length_map]
  exact B.len
theorem blk_end (I:Inv X pins σ H s) (hf:∀ b∈fp,FpOk X pins H b) (hfp:∀ b∈fp,b < s.heap.objs.size) {σ':St} {H':Hp} {s':Shared} (J:Inv (blk X N' scope cl s.heap.objs.size s H fp) [] σ' H' s') {h':Heap}
  (sb:Heap.SameBut s.heap.objs.size s'.heap h'):Inv X pins σ H' { s' with heap:=h' }:=by
 have hC:∀ b o,s.heap.get? b=some o->b ≠ s.heap.objs.size:=fun b o e=>Nat.ne_of_lt (Heap.lt_size e)
 have u:=J.base
 have u':Un (frs X.stack) fp H H' s.heap h':=by
  refine ⟨fun b o e n hb hx=>qfq9 sb (hC b o e) (u.keep b o e n hb hx),fun b o e n hb hx=>?_,u.free,fun b o e hx=>?_,u.tups,u.frzs,u.tbls⟩
  ·obtain ⟨sl,q⟩:=u.slot b o e n hb hx
   exact ⟨sl,qfq9 sb (hC b o e) q⟩
  ·obtain ⟨o',q⟩:=u.there b o e hx
   exact ⟨o',qfq9 sb (hC b o e) q⟩
 have nC:H' s.heap.objs.size=none:=J.free
 have hok:HOk X.prog X.w H' h':=fun b o e=>by
  refine (J.hok b o e).stay (fun c v hc q=>qfq9 sb ?_ q) (fun _ q=>q) fun _ _ q=>q
  rcases hc with z | z
  ·intro z'
   rw [z] at z'
   rw [z',nC] at e
   cases e
  ·intro z'
   rw [z',nC] at z
   cases z
 obtain ⟨hh,g,d,t,os'⟩:=s'
 obtain rfl:os'=s.os:=J.os
 show Inv X pins σ H' { s with heap:=h',gens:=g,drawn:=d,toks:=t }
 refine Inv.call (s:=s) (h':=h') (g':=g) (d':=d) (t':=t) (ch:=fp) I u' hok J.bare fun b hb=>?_
 obtain ⟨_,z1,_,z3,z4,z5⟩:=hf b hb
 exact ⟨z3,z1,z4,z5⟩
def cBody (caps:List (Option Nat)) (g:TG) (tt:TT) (te:TE) (σ:St) (Q:VK) (J:It) (H1:Hp):Prop:=∀ D,H1 D=none->∃ W:Nat->Nat->Hp->Prop,(∃ m,W 0 m (upd H1 D (.lst [])))/\∀ i m H2,W i m H2 ->
 (J.stop i H2/\Q (.ref D) H2)\/(J.go i H2/\∃ N:Hp->Prop,(∀ H',N H'->∃ m',m' < m/\W (i+1) m' H')/\∀ x H3,J.yld i H2 x H3->g x (seen caps σ) H3 fun σ4 H4=>(∀ (k:Nat) v,(seen caps σ)[k]?=some (some v)->σ4[k]?=some (some v))/\tt σ4 H4 fun b H5 =>
  if b=true then te σ4 H5 fun y H6=>∃ ys,H6 D=some (.lst ys)/\ys.length < sizeLine/\N (upd H6 D (.lst (ys ++ [y]))) else N H5)
def tComp (wi:TI) (caps:List (Option Nat)) (g:TG) (tt:TT) (te:TE):TE:=fun σ H Q=>wi σ H (cBody caps g tt te σ Q)
def tTrue:TT:=fun _ H Q=>Q true H
section
variable {tg iter elt:Expr} {wi:TI} {g:TG} {te:TE} {tt:TT} {pos:Pos} {Q:VK}
theorem qhb9 {J:It} {it:Addr} {tn:Nat->Heap->Prop} {H0:Hp} {C:Addr} (T:Turn X.prog X.w X.K tg J fp it tn) {s7 s9:Shared} {i n:Nat} {W:Nat->Nat->Hp->Prop} {N:Hp->Prop} (hN:∀ H',N H'->∃ m',m' < n/\W (i+1) m' H')
  (st7:tn (i+1) s7.heap) {σ8:St} {H9:Hp} (I9:Inv (blk X N' scope cl C s H0 fp) ([] ++ qog9 fp s7.heap) σ8 H9 s9) (kp:∀ (k:Nat) v,(seen caps σ)[k]?=some (some v)->σ8[k]?=some (some v)) (hl:(seen caps σ).length=σ8.length) (n9:N H9) :
  ∃ m,m < n/\∃ j H',Inv (blk X N' scope cl C s H0 fp) [] (seen caps σ) H' s9/\tn j s9.heap/\(∀ b∈fp,H' b=none)/\W j m H':=by
 obtain ⟨m',hm,w7⟩:=hN H9 n9
 refine ⟨m',hm,i+1,H9,(I9.unpinned).weak hl kp,T.keep _ _ _ st7 fun b hb o e=>(I9.pin (b,o) (List.mem_append_right _ (List.mem_append_right _ (qfr9 hb e)))).1,fun b hb=>?_,w7⟩
 obtain ⟨o,e,d⟩:=T.obj _ _ st7 b hb
 exact (I9.pin (b,o) (List.mem_append_right _ (List.mem_append_right _ (qfr9 hb e)))).2.1
theorem pe_comp (B:BlkOk X N' scope cl caps) (hc:X.calm=true) (hi:PI X tg iter wi) (hg:∀ C s0 H0 fp,PG (blk X N' scope cl C s0 H0 fp) tg g) (he:∀ C s0 H0 fp,PE (blk X N' scope cl C s0 H0 fp) elt te)
  (hs:∀ x,foldedSetIterable iter X.env x=pure x:=by intro _; rfl):PE X (.ListComp elt [⟨tg,iter,[],0⟩] scope pos) (tComp wi caps g tTrue te):=by
 intro pins s σ H Q I h
 rw [eval_ListComp]
 refine wpAny_comprehension_free (use:=none) rfl hs B.clos B.kind B.names ?_
 refine thn (hi pins s σ H _ I h) fun v s1 h1=>thn h1 fun itv s2 h2=>?_
 obtain ⟨it,fp,tn,J,H2,rfl,I2,T,st2,f2,q2⟩:=h2
 have fpl:∀ b∈fp,b < s2.heap.objs.size:=fun b hb=>by
  obtain ⟨o,e,_⟩:=T.obj _ _ st2 b hb
  exact Heap.lt_size e
 obtain ⟨W,⟨m0,w0⟩,turn⟩:=q2 s2.heap.objs.size (I2.hok.fresh (Nat.le_refl _))
 refine wpAny_newObj_type ?_
 have I3:Inv X pins σ (upd H2 s2.heap.objs.size (.lst [])) { s2 with heap:=s2.heap.push { cls:=.type "list",data:=.seq ([]:List Value).toArray } } :=
  I2.laid (t':=s2.toks) (fun b u e=>Heap.get?_push_of_some _ e) (Nat.le_refl _) ⟨Nat.zero_le _,[],0,.nil,Heap.get?_push_size _ rfl⟩
 generalize hs3:({ s2 with heap:=s2.heap.push { cls:=.type "list",data:=.seq ([]:List Value).toArray } }:Shared)=s3 at I3
 have k23:∀ b o,s2.heap.get? b=some o->s3.heap.get? b=some o:=fun b o e=>by rw [<- hs3]; exact Heap.get?_push_of_some _ e
 have fpl3:∀ b∈fp,b < s3.heap.objs.size:=fun b hb=>by
  obtain ⟨o,e,_⟩:=T.obj _ _ st2 b hb
  exact Heap.lt_size (k23 b o e)
 have f3:∀ b∈fp,FpOk X pins (upd H2 s2.heap.objs.size (.lst [])) b:=fun b hb=>⟨by rw [qaq9 (Nat.ne_of_lt (fpl b hb))]; exact (f2 b hb).1,(f2 b hb).2⟩
 refine wpAny_newFunctionEnv B.nocell (by intro y hy; simp at hy) (fun h1 hn1 sb1=>?_) B.kind
 have k31:∀ b o,s3.heap.get? b=some o->h1.get? b=some o:=fun b o e=>sb1.extBut b o (Nat.ne_of_lt (Heap.lt_size e)) (Heap.get?_push_of_some _ e)
 have J0:=blk_inv (fp:=fp) (tk:=s3.toks+([]:List (Str × Value)).length) B I3 f3 hn1 k31 fpl3
 have st1:tn 0 h1:=T.keep _ _ _ st2 fun b _ o e=>k31 b o (k23 b o e)
 have loop:codeAny (model X.prog X.w) X.A (.compLoop (.ListComp elt [⟨tg,iter,[],0⟩] scope pos) 0 (.ref it) (.ref s2.heap.objs.size) (blk X N' scope cl s3.heap.objs.size s3 (upd H2 s2.heap.objs.size (.lst [])) fp).env)
   (compPost (model X.prog X.w) X.A X.xe none (EP X pins σ Q) (.ref s2.heap.objs.size) s3.heap.objs.size) { s3 with heap:=h1,toks:=s3.toks+([]:List (Str × Value)).length }:=by
  refine codeAny_loop rfl (fun n s'=>∃ i H',Inv (blk X N' scope cl s3.heap.objs.size s3 (upd H2 s2.heap.objs.size (.lst [])) fp) [] (seen caps σ) H' s'/\tn i s'.heap/\(∀ b∈fp,H' b=none)/\W i n H') (fun n s5 hI=>?_) m0
   ⟨0,_,J0,st1,fun b hb=>(f3 b hb).1,w0⟩
  obtain ⟨i,H5,I5,st5,fr5,w5⟩:=hI
  show wpAny _ _ ((compTurn (.ListComp elt [⟨tg,iter,[],0⟩] scope pos) 0 (.ref it) (.ref s2.heap.objs.size) (blk X N' scope cl s3.heap.objs.size s3 (upd H2 s2.heap.objs.size (.lst [])) fp).env).onRaise (fun x=>do noteFrame x (blk X N' scope cl s3.heap.objs.size s3 (upd H2 s2.heap.objs.size (.lst [])) fp).env; theTreesLotGoes x)) _ _ s5
  refine wpAny_noted ?_
  rw [compTurn_list1]
  have ff:∀ {H':Hp},(∀ b∈fp,H' b=none)->∀ b∈fp,FpOk (blk X N' scope cl s3.heap.objs.size s3 (upd H2 s2.heap.objs.size (.lst [])) fp) [] H' b:=fun {H'} hn b hb =>
   ⟨hn b hb,(J0.ok.exf b hb).1,J0.ok.exfs b hb,.inl hb,fun x c e=>(J0.ok.exf b hb).2 x c e,fun p hp=>absurd (show p∈([]:List (Addr × Obj)) from hp) (by simp)⟩
  rcases turn i n H5 w5 with ⟨stop,qn⟩ | ⟨go,N,hN,step⟩
  ·refine wpAny_bind (wpAny_standAt (wpAny_bind (thn (T.done (blk X N' scope cl s3.heap.objs.size s3 (upd H2 s2.heap.objs.size (.lst [])) fp) rfl rfl rfl hc i [] s5 _ H5 _ I5 (ff fr5) st5 stop) fun r s6 z9=>?_)))
   obtain ⟨hr,I6⟩ := z9
   subst hr
   refine wpAny_pure ?_
   obtain ⟨m,hn,_⟩:=id I6.loc
   exact ⟨m,hn,fun h' sb=>⟨.ref s2.heap.objs.size,H5,blk_end I3 f3 fpl3 I6 sb,rfl,qn⟩⟩
  ·refine wpAny_bind (wpAny_standAt (wpAny_bind (thn (T.item (blk X N' scope cl s3.heap.objs.size s3 (upd H2 s2.heap.objs.size (.lst [])) fp) rfl rfl rfl hc i [] s5 _ H5 _ I5 (ff fr5) st5 go) fun r s6 z9=>?_)))
   obtain ⟨u,hr,h6⟩ := z9
   subst hr
   refine wpAny_bind (thn h6 fun _ s7 z9=>?_)
   obtain ⟨x,H7,I7,r7,y7,st7,fr7⟩ := z9
   have I7':=I7.pinned (ff fr7) (T.obj _ _ st7)
   refine wpAny_bind (wpAny_mono (hg _ _ _ _ _ s7 _ H7 x u _ I7' r7 (step x H7 y7)) (fun _ s8 z9=>?_) fun _ _ f=>f.elim)
   obtain ⟨σ8,H8,I8,kp,q8⟩ := z9
   have q8':te σ8 H8 fun y H6=>∃ ys,H6 s2.heap.objs.size=some (.lst ys)/\ys.length < sizeLine/\N (upd H6 s2.heap.objs.size (.lst (ys ++ [y]))):=by
    have z:=q8
    unfold tTrue at z
    dsimp only at z
    rw [if_pos rfl] at z
    exact z
   refine wpAny_bind (wpAny_bind (wpAny_mono (he _ _ _ _ _ s8 σ8 H8 _ I8 q8') (fun y s9 z9=>?_) fun _ _ f=>f.elim))
   obtain ⟨y',H9,I9,r9,ys,hD,hl,n9⟩ := z9
   refine wpAny_bind (wpAny_mono (qig9 (X:=blk X N' scope cl s3.heap.objs.size s3 (upd H2 s2.heap.objs.size (.lst [])) fp) _ s9 σ8 H9 (.ref s2.heap.objs.size) [y'] (.ref s2.heap.objs.size) [y] (fun _ H'=>N H') I9 rfl (.cons r9 .nil) ⟨_,ys,y',rfl,rfl,hD,hl,n9⟩) (fun _ s10 z9=>?_) fun _ _ f=>f.elim)
   obtain ⟨_,H10,I10,_,n10⟩ := z9
   exact wpAny_pure (wpAny_pure ⟨rfl,qhb9 T hN st7 I10 kp (I5.len.trans I10.len.symm) n10⟩)
 exact codeAny_compStart_list loop (T.self X.A 0 _ _ _ st1 loop)
theorem pe_compIf {c:Expr} (B:BlkOk X N' scope cl caps) (hc:X.calm=true) (hi:PI X tg iter wi) (hg:∀ C s0 H0 fp,PG (blk X N' scope cl C s0 H0 fp) tg g) (ht:∀ C s0 H0 fp,PT (blk X N' scope cl C s0 H0 fp) c tt)
  (he:∀ C s0 H0 fp,PE (blk X N' scope cl C s0 H0 fp) elt te) (hs:∀ x,foldedSetIterable iter X.env x=pure x:=by intro _; rfl):PE X (.ListComp elt [⟨tg,iter,[c],0⟩] scope pos) (tComp wi caps g tt te):=by
 intro pins s σ H Q I h
 rw [eval_ListComp]
 refine wpAny_comprehension_free (use:=none) rfl hs B.clos B.kind B.names ?_
 refine thn (hi pins s σ H _ I h) fun v s1 h1=>thn h1 fun itv s2 h2=>?_
 obtain ⟨it,fp,tn,J,H2,rfl,I2,T,st2,f2,q2⟩:=h2
 have fpl:∀ b∈fp,b < s2.heap.objs.size:=fun b hb=>by
  obtain ⟨o,e,_⟩:=T.obj _ _ st2 b hb
  exact Heap.lt_size e
 obtain ⟨W,⟨m0,w0⟩,turn⟩:=q2 s2.heap.objs.size (I2.hok.fresh (Nat.le_refl _))
 refine wpAny_newObj_type ?_
 have I3:Inv X pins σ (upd H2 s2.heap.objs.size (.lst [])) { s2 with heap:=s2.heap.push { cls:=.type "list",data:=.seq ([]:List Value).toArray } } :=
  I2.laid (t':=s2.toks) (fun b u e=>Heap.get?_push_of_some _ e) (Nat.le_refl _) ⟨Nat.zero_le _,[],0,.nil,Heap.get?_push_size _ rfl⟩
 generalize hs3:({ s2 with heap:=s2.heap.push { cls:=.type "list",data:=.seq ([]:List Value).toArray } }:Shared)=s3 at I3
 have k23:∀ b o,s2.heap.get? b=some o->s3.heap.get? b=some o:=fun b o e=>by rw [<- hs3]; exact Heap.get?_push_of_some _ e
 have fpl3:∀ b∈fp,b < s3.heap.objs.size:=fun b hb=>by
  obtain ⟨o,e,_⟩:=T.obj _ _ st2 b hb
  exact Heap.lt_size (k23 b o e)
 have f3:∀ b∈fp,FpOk X pins (upd H2 s2.heap.objs.size (.lst [])) b:=fun b hb=>⟨by rw [qaq9 (Nat.ne_of_lt (fpl b hb))]; exact (f2 b hb).1,(f2 b hb).2⟩
 refine wpAny_newFunctionEnv B.nocell (by intro y hy; simp at hy) (fun h1 hn1 sb1=>?_) B.kind
 have k31:∀ b o,s3.heap.get? b=some o->h1.get? b=some o:=fun b o e=>sb1.extBut b o (Nat.ne_of_lt (Heap.lt_size e)) (Heap.get?_push_of_some _ e)
 have J0:=blk_inv (fp:=fp) (tk:=s3.toks+([]:List (Str × Value)).length) B I3 f3 hn1 k31 fpl3
 have st1:tn 0 h1:=T.keep _ _ _ st2 fun b _ o e=>k31 b o (k23 b o e)
 have loop:codeAny (model X.prog X.w) X.A (.compLoop (.ListComp elt [⟨tg,iter,[c],0⟩] scope pos) 0 (.ref it) (.ref s2.heap.objs.size) (blk X N' scope cl s3.heap.objs.size s3 (upd H2 s2.heap.objs.size (.lst [])) fp).env)
   (compPost (model X.prog X.w) X.A X.xe none (EP X pins σ Q) (.ref s2.heap.objs.size) s3.heap.objs.size) { s3 with heap:=h1,toks:=s3.toks+([]:List (Str × Value)).length }:=by
  refine codeAny_loop rfl (fun n s'=>∃ i H',Inv (blk X N' scope cl s3.heap.objs.size s3 (upd H2 s2.heap.objs.size (.lst [])) fp) [] (seen caps σ) H' s'/\tn i s'.heap/\(∀ b∈fp,H' b=none)/\W i n H') (fun n s5 hI=>?_) m0
   ⟨0,_,J0,st1,fun b hb=>(f3 b hb).1,w0⟩
  obtain ⟨i,H5,I5,st5,fr5,w5⟩:=hI
  show wpAny _ _ ((compTurn (.ListComp elt [⟨tg,iter,[c],0⟩] scope pos) 0 (.ref it) (.ref s2.heap.objs.size) (blk X N' scope cl s3.heap.objs.size s3 (upd H2 s2.heap.objs.size (.lst [])) fp).env).onRaise (fun x=>do noteFrame x (blk X N' scope cl s3.heap.objs.size s3 (upd H2 s2.heap.objs.size (.lst [])) fp).env; theTreesLotGoes x)) _ _ s5
  refine wpAny_noted ?_
  rw [compTurn_list]
  have ff:∀ {H':Hp},(∀ b∈fp,H' b=none)->∀ b∈fp,FpOk (blk X N' scope cl s3.heap.objs.size s3 (upd H2 s2.heap.objs.size (.lst [])) fp) [] H' b:=fun {H'} hn b hb =>
   ⟨hn b hb,(J0.ok.exf b hb).1,J0.ok.exfs b hb,.inl hb,fun x c e=>(J0.ok.exf b hb).2 x c e,fun p hp=>absurd (show p∈([]:List (Addr × Obj)) from hp) (by simp)⟩
  rcases turn i n H5 w5 with ⟨stop,qn⟩ | ⟨go,N,hN,step⟩
  ·refine wpAny_bind (wpAny_standAt (wpAny_bind (thn (T.done (blk X N' scope cl s3.heap.objs.size s3 (upd H2 s2.heap.objs.size (.lst [])) fp) rfl rfl rfl hc i [] s5 _ H5 _ I5 (ff fr5) st5 stop) fun r s6 z9=>?_)))
   obtain ⟨hr,I6⟩ := z9
   subst hr
   refine wpAny_pure ?_
   obtain ⟨m,hn,_⟩:=id I6.loc
   exact ⟨m,hn,fun h' sb=>⟨.ref s2.heap.objs.size,H5,blk_end I3 f3 fpl3 I6 sb,rfl,qn⟩⟩
  ·refine wpAny_bind (wpAny_standAt (wpAny_bind (thn (T.item (blk X N' scope cl s3.heap.objs.size s3 (upd H2 s2.heap.objs.size (.lst [])) fp) rfl rfl rfl hc i [] s5 _ H5 _ I5 (ff fr5) st5 go) fun r s6 z9=>?_)))
   obtain ⟨u,hr,h6⟩ := z9
   subst hr
   refine wpAny_bind (thn h6 fun _ s7 z9=>?_)
   obtain ⟨x,H7,I7,r7,y7,st7,fr7⟩ := z9
   have I7':=I7.pinned (ff fr7) (T.obj _ _ st7)
   refine wpAny_bind (wpAny_mono (hg _ _ _ _ _ s7 _ H7 x u _ I7' r7 (step x H7 y7)) (fun _ s8 z9=>?_) fun _ _ f=>f.elim)
   obtain ⟨σ8,H8,I8,kp,q8⟩ := z9
   refine wpAny_bind (wpAny_tests_one (wpAny_mono (ht _ _ _ _ _ s8 σ8 H8 _ I8 q8) (fun b s9 z9=>?_) fun _ _ f=>f.elim))
   obtain ⟨H9,I9,q9⟩ := z9
   cases b with
   | false =>
    rw [if_neg Bool.false_ne_true] at q9
    exact wpAny_pure ⟨rfl,qhb9 T hN st7 I9 kp (I5.len.trans I9.len.symm) q9⟩
   | true =>
    rw [if_pos rfl] at q9
    refine wpAny_bind (wpAny_bind (wpAny_mono (he _ _ _ _ _ s9 σ8 H9 _ I9 q9) (fun y s10 z9=>?_) fun _ _ f=>f.elim))
    obtain ⟨y',H10,I10,r10,ys,hD,hl,n10⟩ := z9
    refine wpAny_bind (wpAny_mono (qig9 (X:=blk X N' scope cl s3.heap.objs.size s3 (upd H2 s2.heap.objs.size (.lst [])) fp) _ s10 σ8 H10 (.ref s2.heap.objs.size) [y'] (.ref s2.heap.objs.size) [y] (fun _ H'=>N H') I10 rfl (.cons r10 .nil) ⟨_,ys,y',rfl,rfl,hD,hl,n10⟩) (fun _ s11 z9=>?_) fun _ _ f=>f.elim)
    obtain ⟨_,H11,I11,_,n11⟩ := z9
    exact wpAny_pure (wpAny_pure ⟨rfl,qhb9 T hN st7 I11 kp (I5.len.trans I11.len.symm) n11⟩)
 exact codeAny_compStart_list loop (T.self X.A 0 _ _ _ st1 loop)
end
end
section
variable {X:Cx} {a b c d:Expr} {ta tb tc td:TE} {pos:Pos}
def tChain3 (r r' r'':R2) (ta tb tc td:TE):TE:=fun σ H Q=>ta σ H fun x H1=>tb σ H1 fun y H2=>r x y H2 fun z H3=>∃ k,z=.bl k /\
 (if k=true then tc σ H3 fun w' H4=>r' y w' H4 fun z' H5=>∃ k',z'=.bl k'/\(if k'=true then td σ H5 fun w2 H6=>r'' w' w2 H6 Q else Q (.bl false) H5) else Q (.bl false) H3)
theorem pe_chain3 {op op' op'':CmpOp} {r r' r'':R2} (ho:OpR X (compareOp op) r) (ho':OpR X (compareOp op') r') (ho'':OpR X (compareOp op'') r'') (ha:PE X a ta) (hb:PE X b tb) (hc:PE X c tc) (hd:PE X d td)
  (hm:lastMarks [op,op',op''] [b,c,d]=false:=by with_unfolding_all rfl):PE X (.Compare a [op,op',op''] [b,c,d] pos) (tChain3 r r' r'' ta tb tc td):=by
 intro pins s σ H Q I h
 refine Compare_chain (thn (ha pins s σ H _ I h) fun v s1 ⟨x,H1,I1,r1,q1⟩=>chain_link (thn (hb pins s1 σ H1 _ I1 q1) fun u s2 ⟨y,H2,I2,r2,q2⟩ =>
  thn (ho pins s2 σ H2 x y v u _ I2 r1 r2 q2) fun d s3 ⟨z,H3,I3,r3,k,e,q3⟩=>?_)) hm
 subst e
 cases r3
 refine wpAny_truthy_bool ?_
 cases k with
 | false=>exact ite_ff ⟨.bl false,H3,I3,rfl,q3⟩
 | true =>
  refine ite_tt (chain_link (thn (hc pins s3 σ H3 _ I3 q3) fun w' s4 ⟨z',H4,I4,r4,q4⟩=>thn (ho' pins s4 σ H4 y z' u w' _ I4 r2 r4 q4) fun d' s5 z9=>?_))
  obtain ⟨z2,H5,I5,r5,k2,e2,q5⟩ := z9
  subst e2
  cases r5
  refine wpAny_truthy_bool ?_
  cases k2 with
  | false=>exact ite_ff ⟨.bl false,H5,I5,rfl,q5⟩
  | true=>exact ite_tt (chain_last (thn (hd pins s5 σ H5 _ I5 q5) fun w2 s6 ⟨z3,H6,I6,r6,q6⟩=>ho'' pins s6 σ H6 z' z3 w' w2 Q I6 r4 r6 q6))
theorem vals_bl {bs:List Bool} {its:List Value} (r:Vals (bs.map V.bl) its) {i:Nat} {v:Value} (h:its[i]?=some v):∃ k,bs[i]?=some k/\v=.bool k:=by
 have hl:=r.length
 rw [List.length_map] at hl
 have hi:i < bs.length:=by
  have:=(List.getElem?_eq_some_iff.mp h).1
  omega
 obtain ⟨u,hu,ru⟩:=r.get (i:=i) (x:=.bl bs[i]) (by rw [List.getElem?_map,List.getElem?_eq_getElem hi]; rfl)
 rw [h] at hu
 cases hu
 exact ⟨bs[i],List.getElem?_eq_getElem hi,ru⟩
theorem all_range (bs:List Bool):((List.range bs.length).all fun i=>(bs[i]?).getD true)=bs.all id:=by
 rw [Bool.eq_iff_iff,List.all_eq_true,List.all_eq_true]
 constructor
 ·intro h x hx
  obtain ⟨i,hi,e⟩:=List.mem_iff_getElem.mp hx
  have:=h i (List.mem_range.mpr hi)
  rw [List.getElem?_eq_getElem hi,e] at this
  exact this
 ·intro h i hi
  have hi':=List.mem_range.mp hi
  rw [List.getElem?_eq_getElem hi']
  exact h _ (List.getElem_mem hi')
theorem call_all (hc:X.calm=true):CallR X (.builtin "all") (fun xs H Q=>∃ (p:Addr) (bs:List Bool),xs=[.ref p]/\SqL X.K H p (bs.map V.bl)/\Q (.bl (bs.all id)) H):=by
 intro pins s σ H xs us Q I r h
 obtain ⟨p,bs,rfl,hS,q⟩:=h
 obtain ⟨u,rfl,ru⟩:=vals1 r
 cases ru
 obtain ⟨its,rv,pl,hz⟩:=I.list hS
 have hl:=pl.isList
 have hlt:p < s.heap.objs.size:=by obtain ⟨_,e,_⟩:=hl; exact Heap.lt_size e
 refine call_all_walk (wpAny_pyIter_list hl ?_)
 refine ⟨s.heap.objs.size,[s.heap.objs.size,p],[s.heap.objs.size],its.toArray.size,_,_,fun i=>(bs[i]?).getD true,rfl,Walks.list (A:=X.A.in1) (I.ok.hd hc) _ p (Nat.ne_of_lt hlt) its.toArray,
  ⟨⟨_,Heap.get?_push_size _ rfl,rfl,rfl⟩,hl.push _⟩,fun i v s' Q' E' hP hQ=>?_,fun h' tk hk=>?_⟩
 ·obtain ⟨k,e,rfl⟩:=vals_bl rv (i:=i) (v:=v) (by simpa using hP)
  simp only [e,Option.getD_some] at hQ
  exact wpAny_truthy_bool hQ
 ·have e:((List.range its.toArray.size).all fun i=>(bs[i]?).getD true)=bs.all id:=by
   have hl2:=rv.length
   rw [List.length_map] at hl2
   rw [List.size_toArray,<- hl2]
   exact all_range bs
  rw [e]
  have keep:∀ b x,s.heap.get? b=some x->h'.get? b=some x:=fun b x e=>hk b x (fun hm=>by rw [List.mem_singleton.mp hm] at e; exact Nat.lt_irrefl _ (Heap.lt_size e)) (Heap.get?_push_of_some _ e)
  exact ⟨.bl (bs.all id),H,I.kept (t':=tk) keep,rfl,q⟩
end
section
variable {X:Cx} {st:Stmt} {rest:List Stmt} {t u:TS} {e:Expr} {te:TE} {tt:TT}
def tCut (t u:TS):TS:=fun D σ H=>∃ M:St->Hp->Prop,t { D with nx:=M } σ H/\∀ σ' H',M σ' H'->u D σ' H'
theorem pss_cut (h1:PS X st t) (h2:PSs X rest u):PSs X (st :: rest) (tCut t u):=by
 intro pins s σ H D I h
 obtain ⟨M,h,hM⟩:=h
 refine wpAny_execs_cons (thn (h1 pins s σ H { D with nx:=M } I h) fun f s1 q=>?_)
 cases f with
 | next =>
  obtain ⟨σ',H',I',q⟩:=q
  exact h2 pins s1 σ' H' D I' (hM σ' H' q)
 | ret v=>exact q
 | brk=>exact q
 | cont=>exact q
def tCutE (t:TE):TE:=fun σ H Q=>∃ M:V->Hp->Prop,t σ H M/\∀ v H',M v H'->Q v H'
theorem pe_cut (h:PE X e te):PE X e (tCutE te):=by
 intro pins s σ H Q I q
 obtain ⟨M,q,hM⟩:=q
 exact thn (h pins s σ H M I q) fun u s1 ⟨v,H1,I1,r1,q1⟩=>⟨v,H1,I1,r1,hM v H1 q1⟩
def tCutT (t:TT):TT:=fun σ H Q=>∃ M:Bool->Hp->Prop,t σ H M/\∀ b H',M b H'->Q b H'
theorem pt_cut (h:PT X e tt):PT X e (tCutT tt):=by
 intro pins s σ H Q I q
 obtain ⟨M,q,hM⟩:=q
 exact thn (h pins s σ H M I q) fun b s1 ⟨H1,I1,q1⟩=>⟨H1,I1,hM b H1 q1⟩
end
def qpc9 (X:Cx) (N':List Str) (scope:Scope) (cl:List (Str × Addr)) (caps:List (Option Nat)):Bool :=
 (scope.names.all fun y=>y.2 != .cell) && (scope.names.all fun y=>y.2 != .local || scope.names.lookup y.1 == some .local) &&
 ((relabel scope X.env).names.all fun y=>!(y.2 == .cell || y.2 == .free) || (cl.lookup y.1).isSome) && (caps.length == N'.length) &&
 ((List.range caps.length).all fun i=>match caps[i]?,N'[i]? with
  | some (some j),some x=>(X.N[j]? == some x) && (X.env.kindOf x == some .cell || X.env.kindOf x == some .free) && ((relabel scope X.env).names.lookup x == some .cell || (relabel scope X.env).names.lookup x == some .free)
  | _,_=>true)
theorem BlkOk.of {X:Cx} {N':List Str} {scope:Scope} {cl:List (Str × Addr)} {caps:List (Option Nat)} (clos:closureFor scope X.env=pure cl) (kind:scope.kind=.function) (sub:∀ x c,cl.lookup x=some c->X.env.cells.lookup x=some c)
  (h:qpc9 X N' scope cl caps=true):BlkOk X N' scope cl caps:=by
 unfold qpc9 at h
 simp only [Bool.and_eq_true] at h
 obtain ⟨⟨⟨⟨h1,h2⟩,h3⟩,h4⟩,h5⟩:=h
 have ok3:∀ x k,(relabel scope X.env).names.lookup x=some k->(k=.cell\/k=.free)->∃ c,cl.lookup x=some c:=fun x k e hk=>by
  have:=List.all_eq_true.mp h3 _ (PySem.mem_of_lookup e)
  have hb:(k == NameKind.cell || k == NameKind.free)=true:=by
   rcases hk with rfl | rfl <;> rfl
  simp only [hb,Bool.not_true,Bool.false_or] at this
  exact Option.isSome_iff_exists.mp this
 refine ⟨clos,fun y hy=>?_,kind,fun y hy e=>?_,sub,fun x hx=>?_,by simpa using h4,fun i j x e1 e2=>?_⟩
 ·have:=List.all_eq_true.mp h1 y hy
  simpa using this
 ·have:=List.all_eq_true.mp h2 y hy
  rw [e] at this
  simpa using this
 ·rcases hx with hx | hx
  ·exact ok3 x _ hx (.inl rfl)
  ·exact ok3 x _ hx (.inr rfl)
 ·have hi:i < caps.length:=(List.getElem?_eq_some_iff.mp e1).1
  have:=List.all_eq_true.mp h5 i (List.mem_range.mpr hi)
  rw [e1,e2] at this
  simp only [Bool.and_eq_true,Bool.or_eq_true,beq_iff_eq] at this
  exact ⟨this.1.1,this.1.2,this.2⟩
section
variable {K:W.Frag} {a:Addr} {xs:List V} {caps:List (Option Nat)} {g:TG} {tt:TT} {te:TE} {σ:St} {H:Hp} {Q:VK}
theorem qlc9 (Pv:Addr->Nat->Hp->Prop) (h0:∀ D,H D=none->Pv D 0 (upd H D (.lst []))) (hl:∀ D i H',H D=none->i<=xs.length->Pv D i H'->SqL K H' a xs)
  (hs:∀ D i x H',H D=none->xs[i]?=some x->Pv D i H'->g x (seen caps σ) H' fun σ4 H4=>(∀ (k:Nat) v,(seen caps σ)[k]?=some (some v)->σ4[k]?=some (some v))/\tt σ4 H4 fun b H5 =>
   if b=true then te σ4 H5 fun y H6=>∃ ys,H6 D=some (.lst ys)/\ys.length < sizeLine/\Pv D (i+1) (upd H6 D (.lst (ys ++ [y]))) else Pv D (i+1) H5)
  (hd:∀ D H',H D=none->Pv D xs.length H'->Q (.ref D) H'):cBody caps g tt te σ Q (Itl K a) H:=by
 intro D hD
 refine ⟨fun i m H'=>m=xs.length - i/\i<=xs.length/\Pv D i H',⟨xs.length,by simp,Nat.zero_le _,h0 D hD⟩,?_⟩
 intro i m H2 z9;obtain ⟨rfl,hi,p⟩ := z9
 have q:=hl D i H2 hD hi p
 by_cases hlt:i < xs.length
 ·refine .inr ⟨⟨xs,xs[i],q,by simp [hlt]⟩,Pv D (i+1),fun H' p'=>⟨xs.length - (i+1),by omega,rfl,hlt,p'⟩,fun x H3 y=>?_⟩
  obtain ⟨e,y⟩:=y
  subst e
  exact hs D i x _ hD (y xs q) p
 ·have e:i=xs.length:=by omega
  subst e
  exact .inl ⟨⟨xs,q,Nat.le_refl _⟩,hd D H2 hD p⟩
theorem qdz9 (Pv:Addr->Nat->Hp->Prop) (h0:∀ D,H D=none->Pv D 0 (upd H D (.lst []))) (hl:∀ D i H',H D=none->i<=xs.length->Pv D i H'->SqL K H' a xs)
  (hs:∀ D i x H',H D=none->xs[i]?=some x->Pv D i H'->g x (seen caps σ) H' fun σ4 H4=>(∀ (k:Nat) v,(seen caps σ)[k]?=some (some v)->σ4[k]?=some (some v)) /\
   te σ4 H4 fun y H6=>∃ ys,H6 D=some (.lst ys)/\ys.length < sizeLine/\Pv D (i+1) (upd H6 D (.lst (ys ++ [y]))))
  (hd:∀ D H',H D=none->Pv D xs.length H'->Q (.ref D) H'):cBody caps g tTrue te σ Q (Itl K a) H:=qlc9 Pv h0 hl hs hd
theorem qoq9 (Pv:Addr->Nat->Hp->Prop) (h0:∀ D,H D=none->Pv D 0 (upd H D (.lst []))) (hl:∀ D i H',H D=none->i<=xs.length->Pv D i H'->SqT K H' a xs)
  (hs:∀ D i x H',H D=none->xs[i]?=some x->Pv D i H'->g x (seen caps σ) H' fun σ4 H4=>(∀ (k:Nat) v,(seen caps σ)[k]?=some (some v)->σ4[k]?=some (some v))/\tt σ4 H4 fun b H5 =>
   if b=true then te σ4 H5 fun y H6=>∃ ys,H6 D=some (.lst ys)/\ys.length < sizeLine/\Pv D (i+1) (upd H6 D (.lst (ys ++ [y]))) else Pv D (i+1) H5)
  (hd:∀ D H',H D=none->Pv D xs.length H'->Q (.ref D) H'):cBody caps g tt te σ Q (Itt K a) H:=by
 intro D hD
 refine ⟨fun i m H'=>m=xs.length - i/\i<=xs.length/\Pv D i H',⟨xs.length,by simp,Nat.zero_le _,h0 D hD⟩,?_⟩
 intro i m H2 z9;obtain ⟨rfl,hi,p⟩ := z9
 have q:=hl D i H2 hD hi p
 by_cases hlt:i < xs.length
 ·refine .inr ⟨⟨xs,xs[i],q,by simp [hlt]⟩,Pv D (i+1),fun H' p'=>⟨xs.length - (i+1),by omega,rfl,hlt,p'⟩,fun x H3 y=>?_⟩
  obtain ⟨e,y⟩:=y
  subst e
  exact hs D i x _ hD (y xs q) p
 ·have e:i=xs.length:=by omega
  subst e
  exact .inl ⟨⟨xs,q,Nat.le_refl _⟩,hd D H2 hD p⟩
theorem comp_tup0 (Pv:Addr->Nat->Hp->Prop) (h0:∀ D,H D=none->Pv D 0 (upd H D (.lst []))) (hl:∀ D i H',H D=none->i<=xs.length->Pv D i H'->SqT K H' a xs)
  (hs:∀ D i x H',H D=none->xs[i]?=some x->Pv D i H'->g x (seen caps σ) H' fun σ4 H4=>(∀ (k:Nat) v,(seen caps σ)[k]?=some (some v)->σ4[k]?=some (some v)) /\
   te σ4 H4 fun y H6=>∃ ys,H6 D=some (.lst ys)/\ys.length < sizeLine/\Pv D (i+1) (upd H6 D (.lst (ys ++ [y]))))
  (hd:∀ D H',H D=none->Pv D xs.length H'->Q (.ref D) H'):cBody caps g tTrue te σ Q (Itt K a) H:=qoq9 Pv h0 hl hs hd
end
mutual
inductive RdV (K:W.Frag) (H:Hp):V->PyData->Prop
 | non:RdV K H .non .none
 | bl (b:Bool):RdV K H (.bl b) (.bool b)
 | int (i:Int):RdV K H (.int i) (.int i)
 | str (x:Str):RdV K H (.str x) (.str x)
 | lst {a:Addr} {xs:List V} {ds:List PyData}:SqL K H a xs->RdAll K H xs ds->RdV K H (.ref a) (.list ds)
 | tup {a:Addr} {xs:List V} {ds:List PyData}:SqT K H a xs->RdAll K H xs ds->RdV K H (.ref a) (.tuple ds)
inductive RdAll (K:W.Frag) (H:Hp):List V->List PyData->Prop
 | nil:RdAll K H [] []
 | cons {x:V} {d:PyData} {xs:List V} {ds:List PyData}:RdV K H x d->RdAll K H xs ds->RdAll K H (x :: xs) (d :: ds)
end
section
variable {X:Cx} {pins:List (Addr × Obj)} {σ:St} {H:Hp} {s:Shared}
mutual
theorem Inv.rd (I:Inv X pins σ H s):∀ {x:V} {d:PyData},RdV X.K H x d->∀ u,RelV x u->∃ as,Reads s.heap u d as
 | _,_,.non,u,r=>by cases (show u=Value.none from r); exact ⟨_,.none⟩
 | _,_,.bl b,u,r=>by cases (show u=Value.bool b from r); exact ⟨_,.bool b⟩
 | _,_,.int i,u,r=>by obtain ⟨t,q⟩:=(show ∃ t,u=Value.int i t from r); cases q; exact ⟨_,.int i t⟩
 | _,_,.str x,u,r=>by obtain ⟨t,q⟩:=(show ∃ t,u=Value.str x t from r); cases q; exact ⟨_,.str x t⟩
 | _,_,.lst (a:=a) hS hA,u,r=>by
  cases (show u=Value.ref a from r)
  obtain ⟨its,rv,p,hz⟩:=I.list hS
  obtain ⟨as,q⟩:=Inv.rdAll I hA its rv
  obtain ⟨o,e,hc,n,hd⟩:=p.isList
  exact ⟨_,.list e hc hd (by simpa using q)⟩
 | _,_,.tup (a:=a) hS hA,u,r=>by
  cases (show u=Value.ref a from r)
  obtain ⟨its,rv,p,hz⟩:=I.tuple hS
  obtain ⟨as,q⟩:=Inv.rdAll I hA its rv
  obtain ⟨o,e,hc,n,hd⟩:=p
  exact ⟨_,.tuple e hc hd (by simpa using q)⟩
theorem Inv.rdAll (I:Inv X pins σ H s):∀ {xs:List V} {ds:List PyData},RdAll X.K H xs ds->∀ us,Vals xs us->∃ as,ReadsAll s.heap us ds as
 | _,_,.nil,us,r=>by cases r; exact ⟨_,.nil⟩
 | _,_,.cons h1 h2,us,r=>by
  cases r with
  | cons r1 r2 =>
   obtain ⟨as,q1⟩:=Inv.rd I h1 _ r1
   obtain ⟨bs,q2⟩:=Inv.rdAll I h2 _ r2
   exact ⟨_,.cons q1 q2⟩
end
end
section
variable {X:Cx}
def rEqD (K:W.Frag):R2:=fun x y H Q=>∃ d e,RdV K H x d/\RdV K H y e/\SeqAt.shaped d=true/\SeqAt.shaped e=true/\Q (.bl (PyData.eqv d e)) H
def rNeD (K:W.Frag):R2:=fun x y H Q=>∃ d e,RdV K H x d/\RdV K H y e/\SeqAt.shaped d=true/\SeqAt.shaped e=true/\Q (.bl (!PyData.eqv d e)) H
theorem op_eqD (hu:X.A.units+64 < cLine):OpR X (compareOp .Eq) (rEqD X.K):=by
 intro pins s σ H x y v u Q I rx ry h
 obtain ⟨d,e,hd,he,sd,se,q⟩:=h
 obtain ⟨as,ra⟩:=I.rd hd v rx
 obtain ⟨bs,rb⟩:=I.rd he u ry
 exact eq_dataH ra rb sd se hu ⟨.bl _,H,I,rfl,q⟩
theorem op_neD (hu:X.A.units+64 < cLine):OpR X (compareOp .NotEq) (rNeD X.K):=by
 intro pins s σ H x y v u Q I rx ry h
 obtain ⟨d,e,hd,he,sd,se,q⟩:=h
 obtain ⟨as,ra⟩:=I.rd hd v rx
 obtain ⟨bs,rb⟩:=I.rd he u ry
 exact ne_dataH ra rb sd se hu ⟨.bl _,H,I,rfl,q⟩
end
structure QE (X:Cx) (e:Expr) (t:TE):Prop where
 run:PE X e t
structure QT (X:Cx) (e:Expr) (t:TT):Prop where
 run:PT X e t
structure QW (X:Cx) (e:Expr) (t:TT):Prop where
 run:PW X e t
structure QA (X:Cx) (es:List Expr) (t:TA):Prop where
 run:PA X es t
structure QS (X:Cx) (st:Stmt) (t:TS):Prop where
 run:PS X st t
structure QSs (X:Cx) (st:List Stmt) (t:TS):Prop where
 run:PSs X st t
structure QG (X:Cx) (e:Expr) (t:TG):Prop where
 run:PG X e t
structure QGs (X:Cx) (es:List Expr) (t:TGs):Prop where
 run:PGs X es t
structure QI (X:Cx) (tg it:Expr) (w:TI):Prop where
 run:PI X tg it w
structure QO (X:Cx) (e:Option Expr) (t:TO):Prop where
 run:PO X e t
structure QOp (X:Cx) (f:Value->Value->Sem Value) (r:R2):Prop where
 run:OpR X f r
structure QCall (X:Cx) (f:Value) (r:List V->Hp->VK->Prop):Prop where
 run:CallR X f r
structure QIx (X:Cx) (r:R2):Prop where
 run:IxR X r
section
variable {X:Cx} {st:Stmt} {rest:List Stmt} {t u:TS} {a b c d e:Expr} {ta tb tc td te:TE} {tA tB' tt:TT} {pos p:Pos}
theorem qat9:QSs X [] tNext:=⟨pss_nil⟩
theorem qae9 (h1:QS X st t):QSs X [st] t:=⟨pss_one h1.run⟩
theorem qac9 (h1:QS X st t) (h2:QSs X rest u):QSs X (st :: rest) (tSeq t u):=⟨pss_cons h1.run h2.run⟩
theorem qdb9 (h1:QS X st t) (h2:QSs X rest u):QSs X (st :: rest) (tCut t u):=⟨pss_cut h1.run h2.run⟩
theorem qak9 {i:Nat} {x:Str} {pos':Pos} (hN:X.N.Nodup) (hi:X.N[i]?=some x) (hx:Loc X.env.scope x) (he:QE X e te) (hs:swapsWith e (some (.Name x pos')) pos.line X.env=pure false:=by rfl) (hf:X.fn x=true\/X.env.scope.names.lookup x=some .local:=by first | exact .inl rfl | exact .inr rfl | assumption) :
  QS X (.Assign [.Name x pos'] e pos) (tAsg te (gName i)):=⟨ps_set hN hi hx he.run hs hf⟩
theorem qjy9 {tg:Expr} {g:TG} (he:QE X e te) (hg:QG X tg g) (hs:swapsWithSole [tg] e pos.line X.env=pure false:=by rfl) (hw:swappedStores [tg] e X.env=pure none:=by rfl)
  (h1:(assignEach [tg] X.env).map (·.2)=[assign tg X.env]:=by rfl):QS X (.Assign [tg] e pos) (tAsg te g):=⟨ps_asg he.run hg.run hs hw h1⟩
theorem qs_if {a b:List Stmt} {tc:TT} (hc:QT X c tc) (ha:QSs X a t) (hb:QSs X b u):QS X (.If c a b pos) (tIfS tc t u):=⟨ps_if hc.run ha.run hb.run⟩
theorem qax9 (he:QE X e te):QS X (.Return (some e) pos) (tRet te):=⟨ps_ret he.run⟩
theorem qs_retN:QS X (.Return none pos) tRetN:=⟨ps_retN⟩
theorem qbg9 (he:QE X e te) (hs:swapsWith e none pos.line X.env=pure false:=by rfl):QS X (.Expr e pos) (tDrop te):=⟨ps_expr he.run hs⟩
theorem qfm9 {body:List Stmt} {tb:TS} (hp:PassesOwn (model X.prog X.w) X.A X.env X.xe) (hc:QT X c tt) (hb:QSs X body tb):QS X (.While c body [] pos) (tWhile tt tb):=⟨ps_while hp hc.run hb.run⟩
theorem qgb9 {tg iter:Expr} {body:List Stmt} {wi:TI} {g:TG} {tb:TS} (hp:PassesOwn (model X.prog X.w) X.A X.env X.xe) (hc:X.calm=true) (hi:QI X tg iter wi) (hg:QG X tg g) (hb:QSs X body tb)
  (hs:∀ x,foldedSetIterable iter X.env x=pure x:=by intro _; rfl):QS X (.For tg iter body [] pos) (tFor wi g tb):=⟨ps_for hp hc hi.run hg.run hb.run hs⟩
theorem qam9 {i:Nat} {x:Str} (hN:X.N.Nodup) (hi:X.N[i]?=some x) (hx:Loc X.env.scope x) (hf:X.fn x=true\/X.env.scope.names.lookup x=some .local:=by first | exact .inl rfl | exact .inr rfl | assumption):QG X (.Name x pos) (gName i):=⟨pg_name hN hi hx hf⟩
theorem qdo9:QGs X [] gNil:=⟨pgs_nil⟩
theorem qal9 {es:List Expr} {t:TG} {u:TGs} (h1:QG X e t) (h2:QGs X es u) (hs:(assignEach (e :: es) X.env).map (·.2)=assign e X.env :: (assignEach es X.env).map (·.2):=by rfl):QGs X (e :: es) (gCons t u):=⟨pgs_cons h1.run h2.run hs⟩
theorem qfu9 {es:List Expr} {k:Nat} {t:TGs} {n:Nat} (hc:X.calm=true) (h:QGs X es t)
  (hn:(assignEach es X.env).length=n:=by rfl) (hst:(assignEach es X.env).findIdx? (·.1)=none:=by rfl):QG X (.Tuple es k pos) (gTup X.K n t):=⟨pg_tup hc h.run hn hst⟩
theorem qg_sub {o i:Expr} {to ti:TE} {t:TSet} (ho:QE X o to) (hi:QE X i ti) (hs:PSet X t)
  (ha:∀ v,assign (.Subscript o i pos) X.env v=(do
   let ov <- holding [v] (eval o X.env)
   let iv <- holding [v,ov] (eval i X.env)
   standAt pos
   holding [v,ov,iv] (setItem ov iv v)
   release [v,ov,iv] []):=by intro _; rfl):QG X (.Subscript o i pos) (gSub to ti t):=⟨pg_sub ho.run hi.run hs ha⟩
theorem qdn9 {tg l:Expr} {tl:TE} (hl:QE X l tl):QI X tg l (iList X.K tl):=⟨pi_list hl.run⟩
theorem qi_tup {tg l:Expr} {tl:TE} (hl:QE X l tl):QI X tg l (iTup X.K tl):=⟨pi_tup hl.run⟩
theorem qfb9 {tg:Expr} {ta:TA} (hg:Gl X "range") (hm:X.mg "range" = none) (ha:QA X [a] ta) (h:qbk9 a=true:=by rfl):QI X tg (.Call (.Name "range" p) [a] [] pos) (iRng1 ta):=⟨pi_range1 hg hm ha.run (se_of h)⟩
theorem qad9:QA X [] tNil:=⟨pa_nil⟩
theorem qa_c {es:List Expr} {t:TA} (ha:QE X e te) (hr:QA X es t) (h:qbk9 e=true:=by rfl):QA X (e :: es) (tCons te t):=⟨pa_c ha.run hr.run h⟩
theorem qv (i:Nat) {x:Str} (hN:X.N[i]?=some x:=by rfl) (hv:Vis X.env.scope x:=by first | exact Or.inl rfl | exact Or.inr (Or.inl rfl) | exact Or.inr (Or.inr rfl)) (hd:(x == ("__debug__" : Str))=false:=by decide)
  (hcd:(x == ("__classdict__" : Str))=false:=by decide):QE X (.Name x pos) (tVar i):=⟨pe_var hN hv hd hcd⟩
theorem qhr9 {x:Str} {v:V} {u:Value} (hg:Gl X x) (hm:X.mg x=none) (hv:bootBuiltins x=some u) (r:RelV v u) (hn:x ≠ "__name__" := by decide) (hd:(x == ("__debug__" : Str))=false:=by decide):QE X (.Name x pos) (tC v):=⟨pe_bltn hg hm hv r hn hd⟩
theorem qaa9 {i:Int} {j:Nat}:QE X (.Constant (.int i) j pos) (tC (.int i)):=⟨pe_int⟩
theorem qe_bl {b:Bool} {j:Nat}:QE X (.Constant (.bool b) j pos) (tC (.bl b)):=⟨pe_bl⟩
theorem qih9 {j:Nat}:QE X (.Constant .none j pos) (tC .non):=⟨pe_non⟩
theorem qgq9 {x:Str} {j:Nat}:QE X (.Constant (.str x) j pos) (tC (.str x)):=⟨pe_str⟩
theorem qe_op {op:Operator} {r:R2} (ho:QOp X (binaryOp op) r) (ha:QE X a ta) (hb:QE X b tb):QE X (.BinOp a op b pos) (tOp r ta tb):=⟨pe_op ho.run ha.run hb.run⟩
theorem qds9 (ha:QE X a ta):QE X (.UnaryOp .USub a pos) (tUn (rU fun i=>.int (-i)) ta):=⟨pe_un un_neg ha.run⟩
theorem qe_not (ha:QE X a ta):QE X (.UnaryOp .Not a pos) (tNotV ta):=⟨pe_not ha.run⟩
theorem qt_isN {j:Nat} {pos':Pos} (ha:QE X a ta):QT X (.Compare a [.Is] [.Constant .none j pos'] pos) (tB (tIsN ta)):=⟨pt_cmp (pc_isN ha.run)⟩
theorem qjb9 {op:CmpOp} {r:R2} (ho:QOp X (compareOp op) r) (ha:QE X a ta) (hb:QE X b tb) (hm:behindInMarks op b=false):QE X (.Compare a [op] [b] pos) (tOp r ta tb):=⟨qni9 ho.run ha.run hb.run hm⟩
theorem qaj9 {op:CmpOp} {r:R2} (ho:QOp X (compareOp op) r) (ha:QE X a ta) (hb:QE X b tb) (hm:behindInMarks op b=false):QT X (.Compare a [op] [b] pos) (tTest (tOp r ta tb)):=⟨pt_cmpR ho.run ha.run hb.run hm⟩
theorem qoe9 {op op':CmpOp} {r r':R2} (ho:QOp X (compareOp op) r) (ho':QOp X (compareOp op') r') (ha:QE X a ta) (hb:QE X b tb) (hc:QE X c tc) (hm:lastMarks [op,op'] [b,c]=false:=by with_unfolding_all rfl) :
  QE X (.Compare a [op,op'] [b,c] pos) (tChain r r' ta tb tc):=⟨pe_chain ho.run ho'.run ha.run hb.run hc.run hm⟩
theorem qe_chain3 {op op' op'':CmpOp} {r r' r'':R2} (ho:QOp X (compareOp op) r) (ho':QOp X (compareOp op') r') (ho'':QOp X (compareOp op'') r'') (ha:QE X a ta) (hb:QE X b tb) (hc:QE X c tc) (hd:QE X d td) (hm:lastMarks [op,op',op''] [b,c,d]=false:=by with_unfolding_all rfl) :
  QE X (.Compare a [op,op',op''] [b,c,d] pos) (tChain3 r r' r'' ta tb tc td):=⟨pe_chain3 ho.run ho'.run ho''.run ha.run hb.run hc.run hd.run hm⟩
theorem qqb9 {op:BoolOp} (h:QE X a ta):QE X (.BoolOp op [a] pos) ta:=⟨pe_one h.run⟩
theorem qpr9 {rest:List Expr} (ha:QE X a ta) (hb:QE X (.BoolOp .And (b :: rest) pos) tb):QE X (.BoolOp .And (a :: b :: rest) pos) (tAndV ta tb):=⟨pe_and ha.run hb.run⟩
theorem qgm9 (ha:QT X a tA):QW X (.BoolOp .And [a] pos) tA:=⟨pw_and1 ha.run⟩
theorem qff9 (ha:QT X a tA):QW X (.BoolOp .Or [a] pos) tA:=⟨pw_or1 ha.run⟩
theorem qjc9 {rest:List Expr} (ha:QT X a tA) (hb:QW X (.BoolOp .And (b :: rest) pos) tB'):QW X (.BoolOp .And (a :: b :: rest) pos) (tAnd tA tB'):=⟨pw_and ha.run hb.run⟩
theorem qw_or {rest:List Expr} (ha:QT X a tA) (hb:QW X (.BoolOp .Or (b :: rest) pos) tB'):QW X (.BoolOp .Or (a :: b :: rest) pos) (tOr tA tB'):=⟨pw_or ha.run hb.run⟩
theorem QW.pt (h:QW X e tt):QT X e tt:=⟨h.run.pt⟩
theorem qee9 (ha:QT X a tA):QT X (.UnaryOp .Not a pos) (tNot tA):=⟨pt_not ha.run⟩
theorem qcq9 (h:QE X e te) (he:∀ whole,isTrue e X.env whole=(do let v <- whole; standAt e.pos; holding [v] (truthy v)):=by intro _; rfl):QT X e (tB te):=⟨pt_val h.run he⟩
theorem qfx9 (h:QT X e tt):QT X e (tCutT tt):=⟨pt_cut h.run⟩
theorem qkj9 (h:QE X e te):QE X e (tCutE te):=⟨pe_cut h.run⟩
theorem qel9 (hc:QT X c tA) (ha:QE X a ta) (hb:QE X b tb):QE X (.IfExp c a b pos) (tIf tA ta tb):=⟨pe_ifExp hc.run ha.run hb.run⟩
theorem qbn9 {es:List Expr} {t:TA} {x1:Nat} (h:QA X es t):QE X (.Tuple es x1 pos) (tTup t):=⟨pe_tup h.run⟩
theorem qbj9 {es:List Expr} {t:TA} (h:QA X es t):QE X (.List es pos) (tLst t):=⟨pe_lst h.run⟩
theorem qe_ix {r:R2} (hr:QIx X r) (ha:QE X a ta) (hb:QE X b tb) (hs:PlainIx b):QE X (.Subscript a b pos) (tOp r ta tb):=⟨pe_ix hr.run ha.run hb.run hs⟩
theorem qho9:QO X none tNoPart:=⟨po_none⟩
theorem qhv9 (h:QE X e te):QO X (some e) (tPart te):=⟨po_some h.run⟩
theorem qmv9 {lo hi:Option Expr} {tl th:TO} {p2:Pos} (he:QE X e te) (hl:QO X lo tl) (hu:QO X hi th):QE X (.Subscript e (.Slice lo hi none p2) pos) (tSl (rSlL X.K) te tl th):=⟨pe_slice sl_list he.run hl.run hu.run⟩
theorem qe_cb {x:Str} {es:List Expr} {t:TA} {id:String} {r:List V->Hp->VK->Prop} (hc:QCall X (.builtin id) r) (hg:Gl X x) (hm:X.mg x=none) (hv:bootBuiltins x=some (.builtin id)) (ha:QA X (e :: es) t) (hn:x ≠ "__name__" := by decide) (hdb:(x == ("__debug__" : Str))=false:=by decide)
  (he:qbk9 e=true:=by rfl) (hpl:es.all qbk9=true:=by rfl):QE X (.Call (.Name x p) (e :: es) [] pos) (tCB r t):=⟨pe_cb hc.run hg hm hv ha.run hn hdb he hpl⟩
theorem qe_ct {x:Str} {es:List Expr} {t:TA} {T:String} {r:List V->Hp->VK->Prop} (hc:QCall X (.type T) r) (hg:Gl X x) (hm:X.mg x=none) (hv:bootBuiltins x=some (.type T)) (ha:QA X (e :: es) t) (hn:x ≠ "__name__" := by decide) (hdb:(x == ("__debug__" : Str))=false:=by decide)
  (he:qbk9 e=true:=by rfl) (hpl:es.all qbk9=true:=by rfl):QE X (.Call (.Name x p) (e :: es) [] pos) (tCB r t):=⟨pe_ct hc.run hg hm hv ha.run hn hdb he hpl⟩
theorem qe_fn {k:Nat} {x:Str} {ps:List Str} {sp:Sp} {es:List Expr} {t:TA} (C:Callee X.prog X.w X.K X.mg X.base k x ps sp) (hr:Room k X.A) (hg:Gl X x) (ha:QA X (e :: es) t) (hdb:(x == ("__debug__" : Str))=false:=by decide)
  (he:qbk9 e=true:=by rfl) (hpl:es.all qbk9=true:=by rfl):QE X (.Call (.Name x p) (e :: es) [] pos) (tCall sp [] E0 t):=⟨pe_fn C hr hg ha.run hdb he hpl⟩
theorem qbm9 {o:Expr} {to:TE} {t:TA} {apos:Pos} (ho:QE X o to) (ha:QA X [e] t) (h:qbk9 e=true:=by rfl) (hbase:attributeBase o "append" X.env (eval o X.env)=eval o X.env:=by rfl) (hline:(apos.endLine == pos.line)=true:=by rfl) :
  QE X (.Call (.Attribute o "append" apos) [e] [] pos) (tBM X.K "list" rAppend to t) :=
 ⟨pe_bm PySem.F.plainAttrs_list PySem.F.slot_list_append PySem.F.type_list_append qig9 ho.run ha.run hbase (by rw [se_of h]; rfl) hline (se_of h) rfl⟩
end
section
variable {X:Cx}
theorem qaw9:QOp X (binaryOp .Add) (rI0 fun i j=>.int (i+j)):=⟨op_add⟩
theorem qcr9:QOp X (binaryOp .Sub) (rI0 fun i j=>.int (i - j)):=⟨op_sub⟩
theorem qgw9:QOp X (binaryOp .Mult) (rI CMul fun i j=>.int (i * j)):=⟨op_mul⟩
theorem qay9:QOp X (binaryOp .FloorDiv) (rI CDivB fun i j=>.int (i / j)):=⟨op_fdivB⟩
theorem qav9:QOp X (binaryOp .Mod) (rI (fun _ j=>0 < j) fun i j=>.int (i % j)):=⟨op_mod⟩
theorem qgv9:QOp X (binaryOp .Pow) (rI CPow fun i j=>.int (i ^ j.toNat)):=⟨op_pow⟩
theorem qcb9:QOp X (compareOp .Eq) rEq:=⟨op_eq⟩
theorem qop_ne:QOp X (compareOp .NotEq) rNe:=⟨op_ne⟩
theorem qcy9:QOp X (compareOp .Lt) (rI0 fun i j=>.bl (decide (i < j))):=⟨op_lt⟩
theorem qjf9:QOp X (compareOp .LtE) (rI0 fun i j=>.bl (decide (i<=j))):=⟨op_le⟩
theorem qgp9:QOp X (compareOp .Gt) (rI0 fun i j=>.bl (decide (j < i))):=⟨op_gt⟩
theorem qop_ge:QOp X (compareOp .GtE) (rI0 fun i j=>.bl (decide (j<=i))):=⟨op_ge⟩
theorem qmb9 (hu:X.A.units+64 < cLine):QOp X (compareOp .Eq) (rEqD X.K):=⟨op_eqD hu⟩
theorem qnw9 (hu:X.A.units+64 < cLine):QOp X (compareOp .NotEq) (rNeD X.K):=⟨op_neD hu⟩
theorem qai9:QIx X (rIxL X.K):=⟨ix_list⟩
theorem qba9:QIx X (rIxT X.K):=⟨ix_tup⟩
theorem qao9:QCall X (.builtin "len") (fun xs H Q=>∃ p ys,xs=[.ref p]/\(SqL X.K H p ys\/SqT X.K H p ys)/\Q (.int ys.length) H):=⟨qkx9⟩
theorem qij9 (hc:X.calm=true):QCall X (.builtin "max") (fun xs H Q=>∃ i j,xs=[.int i,.int j]/\Q (.int (if j > i then j else i)) H):=⟨call_max2 hc⟩
theorem qge9 (hc:X.calm=true):QCall X (.builtin "min") (fun xs H Q=>∃ i j,xs=[.int i,.int j]/\Q (.int (if j < i then j else i)) H):=⟨call_min2 hc⟩
theorem qfa9:QCall X (.builtin "isinstance") (fun xs H Q=>∃ x T t b,xs=[x,.ty T]/\TyOf X.K H x t/\W.kitOne X.K t (.type T)=some b/\Q (.bl b) H):=⟨call_isi⟩
theorem qgc9 (hc:X.calm=true):QCall X (.builtin "all") (fun xs H Q=>∃ (p:Addr) (bs:List Bool),xs=[.ref p]/\SqL X.K H p (bs.map V.bl)/\Q (.bl (bs.all id)) H):=⟨call_all hc⟩
theorem qfo9:QCall X (.type "list") (fun xs H Q=>∃ p ys,xs=[.ref p]/\(SqL X.K H p ys\/SqT X.K H p ys)/\∀ l,H l=none->Q (.ref l) (upd H l (.lst ys))):=⟨qjw9⟩
theorem qmn9:QCall X (.type "tuple") (fun xs H Q=>∃ p ys,xs=[.ref p]/\((SqL X.K H p ys/\∀ l,H l=none->Q (.ref l) (upd H l (.tup ys)))\/(SqT X.K H p ys/\Q (.ref p) H))):=⟨qiw9⟩
end
section
variable {P:Program} {w:World} {K:W.Frag} {mg:Str->Option Value} {base:Heap}
theorem Fun.okQ {x qual:Str} {st:Stmt} {f:Addr} {fd:FuncData} {N ps:List Str} {k:Nat} {sp:Sp} (F:Fun K x qual st f fd) (S:FnScope N ps (qab9 st)) (len:∀ vs H Q E,sp vs H Q E->vs.length=ps.length)
  (hbody:∀ (cdv:Value) (A:Around) (outer:List Env) (s:Shared) (H:Hp) (vs:List V) (Q:VK) (E:XK),Room k (A.deeper (envOfC qual (qab9 st) s.heap.objs.size f cdv))->sp vs H Q E ->
   ∃ t,QSs (cxOf CX0 P w K mg base N qual (qab9 st) f cdv A outer s H E).nox (qag9 st) t/\t { nx:=fun _ H'=>Q .non H',rt:=Q } (start N vs) H):FnOk P w K mg base CX0 (k+1) f fd ps sp:=by
 refine F.ok S len fun cdv A outer s H vs Q E hr h=>?_
 obtain ⟨t,h1,h2⟩:=hbody cdv A outer s H vs Q E hr h
 exact ⟨t,h1.run,h2⟩
end
structure SubL (cl cells:List (Str × Addr)):Prop where
 to:∀ x c,cl.lookup x=some c->cells.lookup x=some c
theorem subN {cells:List (Str × Addr)}:SubL [] cells:=⟨fun _ _ e=>nomatch e⟩
theorem subC {x:Str} {c:Addr} {cl cells:List (Str × Addr)} (h:cells.lookup x=some c) (r:SubL cl cells):SubL ((x,c) :: cl) cells:=⟨fun y d e=>by
 rw [List.lookup_cons] at e
 cases q:y == x with
 | true=>rw [q] at e; cases e; rw [eq_of_beq q]; exact h
 | false=>rw [q] at e; exact r.to y d e⟩
section
variable {X:Cx} {scope:Scope} {cl:List (Str × Addr)} {tg iter elt:Expr} {wi:TI} {g:TG} {te:TE} {tt:TT} {pos:Pos}
theorem qfc9 (N':List Str) (caps:List (Option Nat)) (B:BlkOk X N' scope cl caps) (hc:X.calm=true) (hi:QI X tg iter wi) (hg:∀ C s0 H0 fp,QG (blk X N' scope cl C s0 H0 fp) tg g) (he:∀ C s0 H0 fp,QE (blk X N' scope cl C s0 H0 fp) elt te)
  (hs:∀ x,foldedSetIterable iter X.env x=pure x:=by intro _; rfl):QE X (.ListComp elt [⟨tg,iter,[],0⟩] scope pos) (tComp wi caps g tTrue te):=⟨pe_comp B hc hi.run (fun C s0 H0 fp=>(hg C s0 H0 fp).run) (fun C s0 H0 fp=>(he C s0 H0 fp).run) hs⟩
theorem qlk9 {c:Expr} (N':List Str) (caps:List (Option Nat)) (B:BlkOk X N' scope cl caps) (hc:X.calm=true) (hi:QI X tg iter wi) (hg:∀ C s0 H0 fp,QG (blk X N' scope cl C s0 H0 fp) tg g) (ht:∀ C s0 H0 fp,QT (blk X N' scope cl C s0 H0 fp) c tt)
  (he:∀ C s0 H0 fp,QE (blk X N' scope cl C s0 H0 fp) elt te) (hs:∀ x,foldedSetIterable iter X.env x=pure x:=by intro _; rfl):QE X (.ListComp elt [⟨tg,iter,[c],0⟩] scope pos) (tComp wi caps g tt te) :=
 ⟨pe_compIf B hc hi.run (fun C s0 H0 fp=>(hg C s0 H0 fp).run) (fun C s0 H0 fp=>(ht C s0 H0 fp).run) (fun C s0 H0 fp=>(he C s0 H0 fp).run) hs⟩
end
section
variable {X:Cx} {pos:Pos}
theorem qnz9 (K:W.Frag) (hK:X.K=K) {es:List Expr} {k:Nat} {t:TGs} {n:Nat} (hc:X.calm=true) (h:QGs X es t)
  (hn:(assignEach es X.env).length=n:=by rfl) (hst:(assignEach es X.env).findIdx? (·.1)=none:=by rfl):QG X (.Tuple es k pos) (gTup K n t):=by
 subst hK
 exact qfu9 hc h hn hst
theorem qix_listK (K:W.Frag) (hK:X.K=K):QIx X (rIxL K):=by subst hK; exact qai9
theorem qku9 (K:W.Frag) (hK:X.K=K):QIx X (rIxT K):=by subst hK; exact qba9
end
def tClo (i:Nat) (f:Addr) (sp:Sp) (t:TA):TE:=fun σ H Q=>σ[i]?=some (some (.ref f))/\t σ H fun vs H1=>sp (vs ++ []) H1 Q E0
section
variable {X:Cx} {k:Nat} {f:Addr} {fd:FuncData} {ps:List Str} {sp:Sp} {e:Expr} {es:List Expr} {t:TA} {p pos:Pos} {x:Str}
theorem pe_clo (i:Nat) (G:FnOk X.prog X.w X.K X.mg X.base CX0 k f fd ps sp) (hr:Room k X.A) (hb:Binds X.K fd ps []) (ho:W.FnAt f X.base) (ha:PA X (e :: es) t) (hN:X.N[i]?=some x:=by rfl)
  (hv:Vis X.env.scope x:=by first | exact Or.inl rfl | exact Or.inr (Or.inl rfl) | exact Or.inr (Or.inr rfl)) (hd:(x == ("__debug__" : Str))=false:=by decide) (hcd:(x == ("__classdict__" : Str))=false:=by decide)
  (he:starEach (e :: es) X.env=(false,eval e X.env) :: starEach es X.env:=by rfl) (hpl:(backTo pos (starEach es X.env)).any (·.1)=false:=by rfl) :
  PE X (.Call (.Name x p) (e :: es) [] pos) (tClo i f sp t):=by
 intro pins s σ H Q I h
 obtain ⟨hσ,h⟩:=h
 have fa:∀ {H':Hp} {s':Shared},Inv X pins σ H' s'->W.FnAt f s'.heap:=fun {H' s'} J=>by
  obtain ⟨oc,od,fd',sl,e0⟩:=ho
  exact ⟨oc,od,fd',sl,J.bk _ _ e0⟩
 refine wpAny_Call_Name_kw (thn (pe_var (pos:=p) hN hv hd hcd pins s σ H (fun v H'=>v=.ref f/\H'=H) I ⟨_,hσ,rfl,rfl⟩) fun u s1 z9=>?_)
 obtain ⟨v,H',I1,r,e1,e2⟩ := z9
 subst e1 e2
 cases r
 refine W.callWith_F (fa I1) (thn (ha pos pins s1 σ H' _ I1 h) fun us s2 ⟨vs,H2,I2,r2,q⟩=>⟨fa I2,?_⟩) he hpl
 exact run_fn G hr hb .nil pass0 I2 r2 q
end
def CodeQ (c:Addr) (qual:Str):Heap->Prop:=fun h=>h.CodeRec (.ref c) qual
def cxLam (P:Program) (w:World) (K:W.Frag) (mg:Str->Option Value) (base:Heap) (N:List Str) (qual:Str) (scope:Scope) (f:Addr) (cd:Value) (clos:List (Str × Addr)) (A:Around) (outer:List Env) (s:Shared) (H:Hp):Cx where
 prog:=P
 w:=w
 K:=K
 mg:=mg
 base:=base
 A:=A.deeper (W.envX qual scope s.heap.objs.size f cd clos)
 N:=N
 s₀:=s
 H₀:=H
 env:=W.envX qual scope s.heap.objs.size f cd clos
 outer:=outer
 stack:=W.envX qual scope s.heap.objs.size f cd clos :: outer
 ex:=[]
 calm:=true
 fn:=fun _=>false
 pn:=[]
 xe:=fun _ _=>False
structure LamScope (N ps:List Str) (sc:Scope) (clos:List (Str × Addr)):Prop where
 kind:sc.kind=.function
 co:sc.isCoroutine=false
 gen:sc.isGenerator=false
 nd:ps.Nodup
 pre:N.take ps.length=ps
 par:∀ x∈ps,sc.names.lookup x=some .local
 nocell:∀ y∈sc.names,y.2 ≠ .cell
 has:∀ x,sc.names.lookup x=some .free->∃ c,clos.lookup x=some c
 inj:∀ x y c,clos.lookup x=some c->clos.lookup y=some c->x=y
def qid9 (base:Heap) (sc:Scope) (clos:List (Str × Addr)) (N ps:List Str) (cs:List V):Prop :=
 N.length=ps.length+cs.length/\(∀ x c,clos.lookup x=some c->∃ v,base.IsCell c v) /\
 ∀ i x v,N[ps.length+i]?=some x->cs[i]?=some v->sc.names.lookup x=some .free/\∃ c u,clos.lookup x=some c/\base.IsCell c (some u)/\RelV v u
theorem qil9:∀ {ps:List Str} {us:List Value} {i:Nat} {x:Str} {u:Value},ps.Nodup->ps[i]?=some x->us[i]?=some u->((ps.zip us).reverse.lookup x)=some u:=by
 intro ps
 induction ps with
 | nil=>intro us i x u _ h; cases i <;> cases h
 | cons p ps ih =>
  intro us i x u nd h1 h2
  cases us with
  | nil=>cases i <;> cases h2
  | cons w us =>
   rw [List.zip_cons_cons,List.reverse_cons,List.lookup_append]
   cases i with
   | zero =>
    have e1:p=x:=Option.some.inj h1
    have e2:w=u:=Option.some.inj h2
    subst e1 e2
    have hn:(ps.zip us).reverse.lookup p=none:=by
     rw [List.lookup_eq_none_iff]
     intro q hq
     have hq':=List.mem_reverse.mp hq
     have:=(List.of_mem_zip (a:=q.1) (b:=q.2) hq').1
     exact bne_iff_ne.mpr fun e=>(List.nodup_cons.mp nd).1 (by rw [e]; exact this)
    rw [hn]
    simp
   | succ i =>
    have q:=ih (List.nodup_cons.mp nd).2 (by simpa using h1) (by simpa using h2)
    rw [q]
    rfl
theorem lam_ok {P:Program} {w:World} {K:W.Frag} {mg:Str->Option Value} {base:Heap} {k:Nat} {f:Addr} {name qual:Str} {params:Arguments} {body:Expr} {sc:Scope} {clos:List (Str × Addr)} {pm ctv:Value} {c':Addr} {N ps:List Str} {sp:Sp} {cs:List V}
  (ho:base.get? f=some (W.kla_obj name qual params body sc clos pm c' ctv)) (hcd:∀ vs H Q E,sp vs H Q E->H c'=some (.ext (CodeQ c' qual))) (S:LamScope N ps sc clos) (C:qid9 base sc clos N ps cs) (len:∀ vs H Q E,sp vs H Q E->vs.length=ps.length)
  (hbody:∀ (A:Around) (outer:List Env) (s:Shared) (H:Hp) (vs:List V) (Q:VK) (E:XK),Room k (A.deeper (W.envX qual sc s.heap.objs.size f (.ref c') clos))->sp vs H Q E ->
   ∃ t,PE (cxLam P w K mg base N qual sc f (.ref c') clos A outer s H) body t/\t (vs.map some ++ cs.map some) H Q) :
  FnOk P w K mg base CX0 (k+1) f (W.kla_fn name qual params body sc clos pm (.ref c') ctv) ps sp:=by
 refine ⟨len,fun A outer s H args us vs Q E hr e0 hb r hsp=>?_⟩
 have hl:=len _ _ _ _ hsp
 have bk:∀ b o,base.get? b=some o->s.heap.get? b=some o:=fun b o e=>(e0.bs b o e).1
 have lim:s.heap.NoLimit:=e0.mod.nolimit.keeps bk
 refine W.kla_callFunE hr.depth (bk _ _ ho) rfl S.co S.gen rfl (e0.hok c' _ (hcd _ _ _ _ hsp)).1 (hb _ _ _ _ ?_)
 refine wpAny_newFunctionEnv S.nocell (fun y hy=>S.par y.1 (List.of_mem_zip (a:=y.1) (b:=y.2) hy).1) (fun h1 hn1 sb1=>?_) S.kind
 have k1:∀ b o,s.heap.get? b=some o->h1.get? b=some o:=fun b o e=>sb1.extBut b o (Nat.ne_of_lt (Heap.lt_size e)) (Heap.get?_push_of_some _ e)
 refine ⟨lim.keeps k1,W.kla_codeExpr ?_⟩
 obtain ⟨t,ht,hq⟩:=hbody A outer s H vs Q E (hr.deeper _) hsp
 have ul:us.length=ps.length:=by rw [<- r.length]; exact hl
 have I:Inv (cxLam P w K mg base N qual sc f (.ref c') clos A outer s H) [] (vs.map some ++ cs.map some) H { s with heap:=h1,toks:=s.toks+(ps.zip us).length }:=by
  have noA:∀ b:Addr,b ∉ (cxLam P w K mg base N qual sc f (.ref c') clos A outer s H).ex:=fun b z=>absurd (show b∈([]:List Addr) from z) (by simp)
  have cl:∀ x c,clos.lookup x=some c->∃ v,base.IsCell c v:=C.2.1
  refine ⟨⟨e0.mod,S.kind,rfl,rfl,Nat.le_refl _,S.inj,fun y hy=>?_,fun _ _ z=>(nomatch z),fun _=>hr.hd,Around.frames_deeper e0.frames,.inr ⟨rfl,rfl⟩,fun b z=>absurd z (noA b),e0.bs,e0.bsz,fun b _ _=>noA b,fun b z=>absurd z (noA b),e0.funs,e0.frf⟩,
   rfl,e0.bare,Un.kept k1,⟨_,hn1,fun i y v h1' h2 h3=>?_⟩,fun y c h=>?_,e0.hok.fresh (Nat.le_refl _),fun y c h=>?_,fun p hp=>absurd (show p∈([]:List (Addr × Obj)) from hp) (by simp),e0.hok.kept k1,?_⟩
  ·have hy:sc.names.lookup y=some .cell\/sc.names.lookup y=some .free:=hy
   rcases hy with hy | hy
   ·exact absurd rfl (S.nocell _ (PySem.mem_of_lookup hy))
   ·exact S.has y hy
  ·by_cases hi:i < vs.length
   ·rw [List.getElem?_append_left (by simpa using hi),List.getElem?_map] at h2
    have ha:vs[i]?=some v:=by
     cases e:vs[i]? with
     | none=>rw [e] at h2; cases h2
     | some a=>rw [e] at h2; cases h2; rfl
    obtain ⟨u,hu,rv⟩:=r.get ha
    have hp:ps[i]?=some y:=by
     rw [<- S.pre,List.getElem?_take_of_lt (by omega)]
     exact h1'
    exact ⟨u,rv,.inl ⟨S.par y (List.mem_of_getElem? hp),qil9 S.nd hp hu⟩⟩
   ·rw [List.getElem?_append_right (by simpa using hi),List.getElem?_map,List.length_map] at h2
    have ha:cs[i - vs.length]?=some v:=by
     cases e:cs[i - vs.length]? with
     | none=>rw [e] at h2; cases h2
     | some a=>rw [e] at h2; cases h2; rfl
    have hN:N[ps.length+(i - vs.length)]?=some y:=by
     rw [<- hl,show vs.length+(i - vs.length)=i by omega]
     exact h1'
    obtain ⟨fr,c,u,e1,e2,rv⟩:=C.2.2 _ y v hN ha
    exact ⟨u,rv,.inr ⟨.inr fr,c,e1,(e2.keeps bk).keeps k1⟩⟩
  ·obtain ⟨v,q⟩:=cl y c h
   exact ⟨v,(q.keeps bk).keeps k1⟩
  ·obtain ⟨v,o,q,_⟩:=cl y c h
   exact (e0.bs _ _ q).2
  ·show (vs.map some ++ cs.map some).length=N.length
   rw [List.length_append,List.length_map,List.length_map,C.1,hl]
 refine wpAny_mono (ht [] _ _ H Q I hq) (fun u s' hs=>?_) fun _ _ z=>z.elim
 obtain ⟨v,H',J,rv,q⟩:=hs
 exact ⟨v,H',J.os,J.bare,J.base,J.hok,rv,q⟩
def TabOk (H:Hp) (P:Addr) (pos:Pos) (qual:Str):Prop :=
 ∃ ps:Array Value,H P=some (.tbl ps)/\TriplesOk ps.toList/\(codeAmong pos ps.toList=none\/∃ c,codeAmong pos ps.toList=some (.ref c)/\H c=some (.ext (CodeQ c qual)))
def SameT (P:Addr) (H H':Hp):Prop:=∀ b o,H b=some o->b ≠ P->H' b=some o
def BMain (mg:Str->Option Value) (base:Heap):Prop:=∃ bm ob,mg "__builtins__" = some (.ref bm)/\bm ≠ builtinsNs/\base.get? bm=some ob/\ob.cls=.type "module" /\ ob.dict=some builtinsNs/\ob.data=.plain
def fixed (X:Cx) (H:Hp) (h:Heap):Heap:=W.hideAll h (trk h H ++ frs X.stack)
theorem mem_trk {h:Heap} {H:Hp} {b:Addr}:b∈trk h H↔b < h.objs.size/\(H b).isSome=true:=by
 unfold trk
 rw [List.mem_filter,List.mem_range]
section
variable {X:Cx} {pins:List (Addr × Obj)} {σ:St} {H:Hp} {s:Shared}
theorem qes9 {b:Addr} {o:Obj} (e:s.heap.get? b=some o) (n:H b=none) (nf:b ∉ frs X.stack):(fixed X H s.heap).get? b=some o :=
 W.hideAll_get _ e fun z=>by
  rcases List.mem_append.mp z with z | z
  ·have:=(mem_trk.mp z).2
   rw [n] at this
   cases this
  ·exact nf z
theorem of_fixed {b:Addr} {o:Obj} (e:(fixed X H s.heap).get? b=some o):s.heap.get? b=some o/\H b=none:=by
 have e1:=W.of_hideAll _ e
 refine ⟨e1,?_⟩
 cases q:H b with
 | none=>rfl
 | some u =>
  have:(fixed X H s.heap).get? b=none:=W.hideAll_none _ (List.mem_append_left _ (mem_trk.mpr ⟨Heap.lt_size e1,by rw [q]; rfl⟩))
  rw [this] at e
  cases e
theorem Inv.base_fixed (I:Inv X pins σ H s):∀ b o,X.base.get? b=some o->(fixed X H s.heap).get? b=some o:=fun b o e=>by
 obtain ⟨e1,n⟩:=I.bs b o e
 refine qes9 e1 n fun z=>?_
 have:=(I.stack.mem z).1
 rw [this] at e
 cases e
theorem Inv.env_fixed (I:Inv X pins σ H s):Env0 X.prog X.w X.K X.mg (fixed X H s.heap) X.A X.stack s H:=by
 have k:=I.base_fixed
 obtain ⟨mb,h1,h2⟩:=I.mod.blt
 refine ⟨I.ok.frames,⟨I.mod.kin.keeps k,I.mod.glob.keeps k,⟨mb,h1.keeps k,h2⟩,I.mod.nolimit.keeps k⟩,fun b o e=>of_fixed e,Nat.le_of_eq (W.hideAll_size _ _),?_,I.stkFree,I.hok,I.bare⟩
 refine W.funFrames_hide I.stack fun env he a ha=>List.mem_append_right _ ?_
 exact List.mem_filterMap.mpr ⟨env,he,ha⟩
end
def tLam (i:Nat) (P:Addr) (pos:Pos) (qual:Str) (te:TE) (spG:V->Addr->Addr->Sp):TE:=fun σ H Q=>∃ v,σ[i]?=some (some v)/\te σ H fun w H1=>TabOk H1 P pos qual /\
 ∀ fl c' H2,SameT P H1 H2->TabOk H2 P pos qual->H2 c'=some (.ext (CodeQ c' qual))->spG v fl c' [w,.ref fl] H2 Q E0
section
variable {X:Cx} {k:Nat} {x y:Str} {g c P cy:Addr} {gd:FuncData} {ps2 N ps:List Str} {spG:V->Addr->Addr->Sp} {e1 body:Expr} {te:TE} {params:Arguments} {sc:Scope} {lpos p pos:Pos} {clos:List (Str × Addr)}
theorem qir9 (i:Nat) (hr:Room k X.A) (hg:Gl X x) (hm:X.mg x=some (.ref g)) (hk:W.keepIn X.K (.ref g)=true) (hbG:Binds X.K gd ps2 []) (hl2:ps2.length=2) (hcode:X.env.code=.ref c) (hC:W.CodeHd X.base c P) (hB:BMain X.mg X.base)
  (hcl:closureFor sc X.env=pure clos) (hN:X.N[i]?=some y) (hky:X.env.kindOf y=some .cell) (hvy:Vis X.env.scope y) (hcy:X.env.cells.lookup y=some cy) (hfy:X.fn y=true) (hcly:clos.lookup y=some cy) (honly:∀ z d,clos.lookup z=some d->z=y/\d=cy) (hNp:N=ps ++ [y]) (hsy:sc.names.lookup y=some .free)
  (h1:PE X e1 te)
  (G:∀ (base':Heap) (fl c':Addr) (v:V) (pm ctv:Value),base'.get? fl=some (W.kla_obj "<lambda>" (X.env.qual ++ "<lambda>") params body sc clos pm c' ctv)->qid9 base' sc clos N ps [v]->FnOk X.prog X.w X.K X.mg base' CX0 k g gd ps2 (spG v fl c'))
  (hdb:(x == ("__debug__" : Str))=false:=by decide) (hdef:defaultsOf params X.env=([],[]):=by rfl)
  (he:starEach [e1,.Lambda params body sc lpos] X.env=(false,eval e1 X.env) :: starEach [.Lambda params body sc lpos] X.env:=by rfl) (he2:starEach [.Lambda params body sc lpos] X.env=(false,eval (.Lambda params body sc lpos) X.env) :: starEach [] X.env:=by rfl)
  (hpl:(backTo pos (starEach [.Lambda params body sc lpos] X.env)).any (·.1)=false:=by rfl) :
  PE X (.Call (.Name x p) [e1,.Lambda params body sc lpos] [] pos) (tLam i P lpos (X.env.qual ++ "<lambda>") te spG):=by
 intro pins s σ H Q I h
 obtain ⟨v,hv,h⟩:=h
 refine wpAny_Call_Name_kw (qgl9 I hg hm ?_ hdb)
 refine W.callWith_K (h₀:=X.base) I.ok.mod.kin hk ?_ he hpl
 rw [he]
 show wpAny _ _ (spliced ((false,eval e1 X.env) :: backTo pos (starEach [.Lambda params body sc lpos] X.env))) _ _ s
 refine Calls.spliced_cons (thn (h1 pins s σ H _ I h) fun u1 s1 z9=>?_)
 obtain ⟨w1,H1,I1,r1,tab,q1⟩ := z9
 rw [he2]
 show wpAny _ _ (spliced ((false,eval (.Lambda params body sc lpos) X.env) :: backTo pos (starEach [] X.env))) _ _ s1
 refine Calls.spliced_cons (W.kla_eval hdef ?_)
 have cellAt:∀ {H2:Hp} {s2:Shared},Inv X pins σ H2 s2->∃ u,RelV v u/\s2.heap.IsCell cy (some u):=fun {H2 s2} J=>by
  obtain ⟨m,_,hl⟩:=J.loc
  obtain ⟨u,ru,lk⟩:=hl i y v hN hv hvy
  rcases lk with ⟨z,_⟩ | ⟨_,d,e',q⟩
  ·rw [hky] at z; cases z
  ·rw [hcy] at e'
   cases e'
   exact ⟨u,ru,q⟩
 have fin:∀ (fl c':Addr) (pm ctv:Value) (H2:Hp) (s2:Shared),Inv X pins σ H2 s2->SameT P H1 H2->TabOk H2 P lpos (X.env.qual ++ "<lambda>")->H2 c'=some (.ext (CodeQ c' (X.env.qual ++ "<lambda>"))) ->
   s2.heap.get? fl=some (W.kla_obj "<lambda>" (X.env.qual ++ "<lambda>") params body sc clos pm c' ctv)->H2 fl=none->fl ∉ frs X.stack ->
   wpAny (model X.prog X.w) X.A (spliced (backTo pos (starEach [] X.env))) (fun vs s3=>X.K.In s3.heap/\wpAny (model X.prog X.w) X.A (call (.ref g) ([] ++ (u1 :: .ref fl :: vs))) (EP X pins σ Q) X.xe s3) X.xe s2:=by
  intro fl c' pm ctv H2 s2 I2 sm tb hc' hfl nfl nfs
  refine Calls.spliced_nil ⟨I2.kIn,?_⟩
  have hb1:=qes9 (X:=X) hfl nfl nfs
  obtain ⟨u,ru,oc,q1c,q2c⟩:=cellAt I2
  have nc:cy ∉ frs X.stack:=fun z=>by
   rcases List.mem_cons.mp (I2.stkSub cy z) with e | e
   ·exact I2.cne y cy hcy e
   ·have lo:=I2.ok.cab y cy hfy hcy
    obtain ⟨_,o,eo,_⟩:=I2.ok.funs.mem e
    exact absurd (Nat.lt_of_lt_of_le (Heap.lt_size eo) lo) (Nat.lt_irrefl _)
  have hb2:=qes9 (X:=X) q1c (I2.freeC y cy hcy) nc
  have ca:qid9 (fixed X H2 s2.heap) sc clos N ps [v]:=by
   refine ⟨by rw [hNp,List.length_append]; rfl,fun z d e=>?_,fun j z v' e1 e2=>?_⟩
   ·obtain ⟨rfl,rfl⟩:=honly z d e
    exact ⟨some u,oc,hb2,q2c⟩
   ·cases j with
    | zero =>
     have e3:v=v':=Option.some.inj e2
     subst e3
     have e4:y=z:=by
      rw [hNp,Nat.add_zero,List.getElem?_append_right (Nat.le_refl _),Nat.sub_self] at e1
      exact Option.some.inj e1
     subst e4
     exact ⟨hsy,cy,u,hcly,⟨oc,hb2,q2c⟩,ru⟩
    | succ j=>cases e2
  have F:=G _ fl c' v pm ctv hb1 ca
  have hsp:=q1 fl c' H2 sm tb hc'
  have bnd:BindsTo s2 gd ⟨[u1,.ref fl],[]⟩ (ps2.zip [u1,.ref fl]):=by
   have:=hbG s2 [u1,.ref fl] I2.kIn (by rw [hl2]; rfl)
   simpa using this
  refine wpAny_call (codeAny_mono (F.run X.A X.stack s2 H2 ⟨[u1,.ref fl],[]⟩ [u1,.ref fl] [w1,.ref fl] Q E0 hr I2.env_fixed bnd (.cons r1 (.cons rfl .nil)) hsp) fun r s' hq=>?_)
  cases r with
  | error e=>exact False.elim hq
  | ok fl' =>
   cases fl' with
   | ret u=>exact I2.after hq
   | next=>exact False.elim hq
   | brk=>exact False.elim hq
   | cont=>exact False.elim hq
 obtain ⟨bm,ob,b1,b2,b3,b4,b5,b6⟩:=hB
 obtain ⟨ps0,hP,ht,hor⟩:=tab
 have hPo:s1.heap.get? P=some (W.tabObj ps0):=I1.hok P _ hP
 have notP:∀ b o,X.base.get? b=some o->b ≠ P:=fun b o e z=>by
  have:=(I1.bs b o e).2
  rw [z,hP] at this
  cases this
 obtain ⟨og,esg,epg,eg,dg,rg⟩:=I1.mod.glob
 have hbA:s1.heap.BuiltinsAt X.mg P:=⟨bm,ob,b1,b2,(fun z=>by rw [z,eg] at b3; cases b3; rw [b6] at dg; cases dg),notP _ _ b3,I1.bk _ _ b3,b4,b5,b6⟩
 have gl:s1.heap.Ns mainGlobals X.mg:=I1.mod.glob.keeps I1.bk
 rcases hor with hnf | ⟨c',hf,hc'⟩
 ·refine W.kla_makeFunction (mg:=X.mg) hcl I1.ok.glob gl hcode (hC.keeps I1.bk) hPo ht hnf (notP _ _ eg) hbA fun c' ctv h' tk hx hge hlt hrec htb=>?_
  have ltP:P < s1.heap.objs.size:=Heap.lt_size hPo
  have neP:P ≠ c':=Nat.ne_of_lt (Nat.lt_of_lt_of_le ltP hge)
  have nc':H1 c'=none:=I1.hok.fresh hge
  have old:∀ b o,b ≠ P->s1.heap.get? b=some o->(h'.push (W.kla_obj "<lambda>" (X.env.qual ++ "<lambda>") params body sc clos ((X.mg "__name__").getD .none) c' ctv)).get? b=some o:=fun b o n e=>Heap.get?_push_of_some _ (hx b o n e)
  have kP:∀ b o,H1 b=some o->(∀ z,o ≠ .tbl z)->b ≠ P:=fun b o e n z=>by rw [z,hP] at e; exact n ps0 (Option.some.inj e).symm
  have up:∀ b o,H1 b=some o->b ≠ P->upd (upd H1 c' (.ext (CodeQ c' (X.env.qual ++ "<lambda>")))) P (.tbl (ps0 ++ #[rawInt lpos.line,rawInt lpos.col,.ref c'])) b=some o:=fun b o e n=>by
   rw [qaq9 n,qaq9 (qbb9 e nc')]
   exact e
  have upN:∀ b,H1 b=none->b ≠ c'->upd (upd H1 c' (.ext (CodeQ c' (X.env.qual ++ "<lambda>")))) P (.tbl (ps0 ++ #[rawInt lpos.line,rawInt lpos.col,.ref c'])) b=none:=fun b e n=>by
   rw [qaq9 (fun z=>by rw [z,hP] at e; cases e),qaq9 n]
   exact e
  have u:Un X.fs [] H1 (upd (upd H1 c' (.ext (CodeQ c' (X.env.qual ++ "<lambda>")))) P (.tbl (ps0 ++ #[rawInt lpos.line,rawInt lpos.col,.ref c']))) s1.heap (h'.push (W.kla_obj "<lambda>" (X.env.qual ++ "<lambda>") params body sc clos ((X.mg "__name__").getD .none) c' ctv)):=by
   have nP:∀ b,H1 b=none->b ≠ P:=fun b n z=>by rw [z,hP] at n; cases n
   refine ⟨fun b o e n _ _=>old b o (nP b n) e,fun b o e n _ _=>⟨o.slots,old b o (nP b n) e⟩,fun b o e n _=>upN b n (Nat.ne_of_lt (Nat.lt_of_lt_of_le (Heap.lt_size e) hge)),fun b o e _=>?_,fun b xs e=>up b _ e (kP b _ e fun _ z=>nomatch z),fun b o w e=>up b _ e (kP b _ e fun _ z=>nomatch z),fun b pz e=>?_⟩
   ·by_cases hb:b=P
    ·rw [hb]
     exact ⟨_,Heap.get?_push_of_some _ htb⟩
    ·exact ⟨o,old b o hb e⟩
   ·by_cases hb:b=P
    ·rw [hb] at e ⊢
     rw [hP] at e
     cases e
     exact ⟨_,qaf9⟩
    ·exact ⟨#[],by rw [up b _ e hb]; simp⟩
  have hok:HOk X.prog X.w (upd (upd H1 c' (.ext (CodeQ c' (X.env.qual ++ "<lambda>")))) P (.tbl (ps0 ++ #[rawInt lpos.line,rawInt lpos.col,.ref c']))) (h'.push (W.kla_obj "<lambda>" (X.env.qual ++ "<lambda>") params body sc clos ((X.mg "__name__").getD .none) c' ctv)):=by
   intro b o e
   by_cases hb:b=P
   ·rw [hb,qaf9] at e
    cases e
    rw [hb]
    exact Heap.get?_push_of_some _ htb
   ·rw [qaq9 hb] at e
    by_cases hb2:b=c'
    ·rw [hb2,qaf9] at e
     cases e
     rw [hb2]
     obtain ⟨c2,oc,vs,tq,ee,hoc,rest⟩:=hrec
     cases ee
     refine ⟨⟨_,oc,vs,tq,rfl,Heap.get?_push_of_some _ hoc,rest⟩,⟨oc,Heap.get?_push_of_some _ hoc⟩,fun h1 h2 hq hk=>?_⟩
     obtain ⟨c3,o3,v3,t3,e3,g3,r3⟩:=hq
     cases e3
     exact ⟨_,o3,v3,t3,rfl,hk _ g3,r3⟩
    ·rw [qaq9 hb2] at e
     refine (I1.hok b o e).stay (fun d z hd q=>old d z ?_ q) (fun d q=>up d _ q (kP d _ q fun _ z=>nomatch z)) fun d xs q=>up d _ q (kP d _ q fun _ z=>nomatch z)
     rcases hd with hd | hd
     ·rw [hd]; exact hb
     ·exact kP d _ hd fun _ z=>nomatch z
  have I2:=I1.un (t':=tk) u hok
  refine fin h'.objs.size c' _ ctv _ _ I2 (fun b o e n=>up b o e n) ⟨_,qaf9,?_,.inr ⟨c',?_,?_⟩⟩ ?_ (Heap.get?_push_size _ rfl) ?_ ?_
  ·have:=TriplesOk_snoc lpos.line lpos.col (.ref c') ps0.toList ht
   simpa using this
  ·have:=codeAmong_snoc (pos:=lpos) (c:=.ref c') ps0.toList ht hnf
   simpa using this
  ·rw [qaq9 neP.symm,qaf9]
  ·rw [qaq9 neP.symm,qaf9]
  ·refine upN _ (I1.hok.fresh (Nat.le_trans hge (Nat.le_of_lt hlt))) (Nat.ne_of_gt hlt)
  ·exact fun z=>by
    rcases List.mem_cons.mp (I1.stkSub _ z) with e | e
    ·exact absurd (I1.lt) (by rw [<- e]; exact Nat.not_lt.mpr (Nat.le_trans hge (Nat.le_of_lt hlt)))
    ·exact I1.nofs (Nat.le_trans hge (Nat.le_of_lt hlt)) e
 ·refine W.kla_makeFunctionHit (mg:=X.mg) hcl I1.ok.glob gl hcode (hC.keeps I1.bk) hPo ht hf hbA fun ctv h' tk hk hsz=>?_
  have I2:Inv X pins σ H1 { s1 with heap:=h'.push { cls:=.type "function",data:=.func (W.kla_fn "<lambda>" (X.env.qual ++ "<lambda>") params body sc clos ((X.mg "__name__").getD .none) (.ref c') ctv) },toks:=tk }:=I1.kept (t':=tk) fun b o e=>Heap.get?_push_of_some _ (hk b o e)
  refine fin h'.objs.size c' _ ctv H1 _ I2 (fun b o e _=>e) ⟨ps0,hP,ht,.inr ⟨c',hf,hc'⟩⟩ hc' (Heap.get?_push_size _ rfl) (I1.hok.fresh hsz) ?_
  exact fun z=>by
   rcases List.mem_cons.mp (I1.stkSub _ z) with e | e
   ·exact absurd (I1.lt) (by rw [<- e]; exact Nat.not_lt.mpr hsz)
   ·exact I1.nofs hsz e
end
theorem law_callT {P:Program} {w:World} {K:W.Frag} {mg mb:Str->Option Value} {k:Nat} {fa a:Addr} {fd:FuncData} {x:Str} {sp:Sp} {s₁:Shared} {vs:List Value} {ns:List Int} {tabs:List (Addr × Addr)}
  (KX:K.In s₁.heap) (hns:s₁.heap.Ns mainGlobals mg) (hb:s₁.heap.Ns builtinsNs mb) (hbb:∀ x:Str,x ≠ "__name__" -> mb x=bootBuiltins x) (hlim:s₁.heap.NoLimit) (hg:s₁.gens=#[])
  (ha:s₁.heap.get? a=some { cls:=.type "list",data:=.seq vs.toArray }) (hi:IntsAre vs ns) (hl:ns.length<=sizeLine) (hr:Room k callerA) (hBM:BMain mg s₁.heap)
  (hT:∀ q∈tabs,W.CodeHd s₁.heap q.1 q.2/\s₁.heap.get? q.2=some (W.tabObj #[])/\K.lookup q.2=none)
  (F:∀ base:Heap,K.In base->base.Ns mainGlobals mg->BMain mg base->(∀ q∈tabs,W.CodeHd base q.1 q.2)->FnOk P w K mg base CX0 k fa fd [x] sp) (hbind:∀ (s:Shared) (u:Value),BindsTo s fd ⟨[u],[]⟩ [(x,u)])
  (hsp:∀ H:Hp,(∀ q∈tabs,H q.2=some (.tbl #[]))->SqL K H a (ns.map V.int)->sp [.ref a] H (fun v _=>v=.bl true) fun _ _ _=>False) :
  codeAny (model P w) callerA (.call (.ref fa) ⟨[.ref a],[]⟩) (fun r s'=>r=.ok (.ret (.bool true))/\OldK s₁.heap s'.heap/\s'.os=s₁.os/\AllBare s'.gens) s₁:=by
 have rv:=qlm9 hi
 have lenV:=hi.length
 have aT:∀ q∈tabs,q.2 ≠ a:=fun q hq z=>by
  have:=(hT q hq).2.1
  rw [z,ha] at this
  cases this
 have core:∀ H:Hp,(∀ b,H b=none\/(b=a/\K.lookup a=none/\H b=some (.frz { cls:=.type "list",data:=.seq vs.toArray } (.lst (ns.map V.int))))\/∃ q∈tabs,b=q.2/\H b=some (.tbl #[]))->(∀ q∈tabs,H q.2=some (.tbl #[]))->SqL K H a (ns.map V.int) ->
   codeAny (model P w) callerA (.call (.ref fa) ⟨[.ref a],[]⟩) (fun r s'=>r=.ok (.ret (.bool true))/\OldK s₁.heap s'.heap/\s'.os=s₁.os/\AllBare s'.gens) s₁:=by
  intro H hO hTb hS
  have hok:HOk P w H s₁.heap:=fun b u z=>by
   rcases hO b with e | ⟨e,_,e2⟩ | ⟨q,hq,e,e2⟩
   ·rw [e] at z; cases z
   ·rw [e2] at z
    cases z
    subst e
    exact ⟨ha,by rw [List.length_map]; exact hl,vs,_,rv,ha⟩
   ·rw [e2] at z
    cases z
    rw [e]
    exact (hT q hq).2.1
  have base_of:∀ {b:Addr} {o:Obj},s₁.heap.get? b=some o->H b=none->(hidT s₁.heap H).get? b=some o:=fun e n=>hidT_get e n
  have unt:∀ {b:Addr} {o:Obj},s₁.heap.get? b=some o->o.cls ≠ .type "list" -> o.cls ≠ .none->H b=none:=fun {b o} e n1 n2=>by
   rcases hO b with z | ⟨z,_,_⟩ | ⟨q,hq,z,_⟩
   ·exact z
   ·rw [z,ha] at e; cases e; exact absurd rfl n1
   ·rw [z,(hT q hq).2.1] at e; cases e; exact absurd rfl n2
  have noA:∀ {b:Addr} {o:Obj} {es:Array DictEntry} {ep:Nat},s₁.heap.get? b=some o->o.data=.dict es ep->H b=none:=fun {b o es ep} e d=>by
   rcases hO b with z | ⟨z,_,_⟩ | ⟨q,hq,z,_⟩
   ·exact z
   ·rw [z,ha] at e; cases e; cases (show Data.seq vs.toArray _=Data.dict es ep from d)
   ·rw [z,(hT q hq).2.1] at e; cases e; cases (show Data.fields _=Data.dict es ep from d)
  have nsK:∀ {b:Addr} {m:Str->Option Value},s₁.heap.Ns b m->(hidT s₁.heap H).Ns b m:=fun {b m} ⟨o,es,ep,e,d,r⟩=>⟨o,es,ep,base_of e (noA e d),d,r⟩
  have hKb:K.In (hidT s₁.heap H):=fun b o e=>base_of (KX b o e) (by
   rcases hO b with z | ⟨z,zk,_⟩ | ⟨q,hq,z,_⟩
   ·exact z
   ·rw [z,zk] at e; cases e
   ·rw [z,(hT q hq).2.2] at e; cases e)
  have hM:Mod K mg (hidT s₁.heap H):=⟨hKb,nsK hns,⟨mb,nsK hb,hbb⟩,let ⟨mc,h1,h2⟩:=hlim; ⟨mc,nsK h1,h2⟩⟩
  have hB2:BMain mg (hidT s₁.heap H):=by
   obtain ⟨bm,ob,b1,b2,b3,b4,b5,b6⟩:=hBM
   exact ⟨bm,ob,b1,b2,base_of b3 (unt b3 (by rw [b4]; decide) (by rw [b4]; intro z; cases z)),b4,b5,b6⟩
  have hC2:∀ q∈tabs,W.CodeHd (hidT s₁.heap H) q.1 q.2:=fun q hq=>by
   obtain ⟨o,vs',file,tf,flags,tg,inF,text,tt,e1,r1,r⟩:=(hT q hq).1
   exact ⟨o,vs',file,tf,flags,tg,inF,text,tt,base_of e1 (unt e1 (by rw [r1]; decide) (by rw [r1]; intro z; cases z)),r1,r⟩
  have e0:Env0 P w K mg (hidT s₁.heap H) callerA [] s₁ H:=⟨rfl,hM,fun b o e=>of_hidT e,Nat.le_of_eq (hidT_size _ _),trivial,fun b hb=>absurd (show b∈([]:List Addr) from hb) (by simp),hok,.of_eq hg⟩
  refine codeAny_mono ((F _ hKb (nsK hns) hB2 hC2).run callerA [] s₁ H ⟨[.ref a],[]⟩ [.ref a] [.ref a] _ _ hr e0 (hbind s₁ (.ref a)) (.cons rfl .nil) (hsp H hTb hS)) fun r s' h=>?_
  cases r with
  | error e=>exact False.elim h
  | ok fl =>
   cases fl with
   | next=>exact False.elim h
   | brk=>exact False.elim h
   | cont=>exact False.elim h
   | ret u =>
    obtain ⟨v,H',os,bare,un,hok',r',q⟩:=h
    have q':v=.bl true:=q
    subst q'
    obtain rfl:u=Value.bool true:=r'
    have at_:∀ b o,s₁.heap.get? b=some o->s'.heap.get? b=some o\/∃ q∈tabs,b=q.2/\∃ more,s'.heap.get? b=some (W.tabObj (#[] ++ more)):=fun b o e=>by
     rcases hO b with z | ⟨z,_,z2⟩ | ⟨q,hq,z,z2⟩
     ·exact .inl (un.keep b o e z (by intro z; exact absurd (show b∈([]:List Addr) from z) (by simp)) (by simp))
     ·have z3:=un.frzs b _ _ z2
      obtain ⟨e2,_⟩:=hok' b _ z3
      rw [z,ha] at e
      cases e
      exact .inl e2
     ·obtain ⟨more,z3⟩:=un.tbls b _ z2
      exact .inr ⟨q,hq,z,more,hok' b _ z3⟩
    refine ⟨rfl,⟨fun b o e=>?_,fun b o e=>?_⟩,os,bare⟩
    ·rcases at_ b o e with z | ⟨q,hq,z,more,z2⟩
     ·exact .inl z
     ·have e2:=(hT q hq).2.1
      rw [<- z,e] at e2
      cases e2
      refine .inr (.inl ⟨?_,rfl,#[],more,rfl,z2⟩)
      rw [z]
      exact ((hT q hq).1.tab (hT q hq).2.1).isCodeTable
    ·rcases at_ b o e with z | ⟨q,hq,z,more,z2⟩
     ·exact ⟨_,z⟩
     ·exact ⟨_,z2⟩
 cases hk:K.lookup a with
 | some o =>
  have e:=KX a o hk
  rw [ha] at e
  cases e
  refine core (fun b=>if b∈tabs.map (·.2) then some (.tbl #[]) else none) (fun b=>?_) (fun q hq=>if_pos (List.mem_map_of_mem hq)) (.inr ⟨_,vs.toArray,_,hk,rfl,rfl,rfl,by rw [List.size_toArray,lenV]; exact hl,by simpa using rv⟩)
  by_cases hb:b∈tabs.map (·.2)
  ·obtain ⟨q,hq,e⟩:=List.mem_map.mp hb
   exact .inr (.inr ⟨q,hq,e.symm,if_pos hb⟩)
  ·exact .inl (if_neg hb)
 | none =>
  have na:a ∉ tabs.map (·.2):=fun z=>by
   obtain ⟨q,hq,e⟩:=List.mem_map.mp z
   exact aT q hq e
  refine core (fun b=>if b∈tabs.map (·.2) then some (.tbl #[]) else if b=a then some (.frz { cls:=.type "list",data:=.seq vs.toArray } (.lst (ns.map V.int))) else none) (fun b=>?_) (fun q hq=>if_pos (List.mem_map_of_mem hq)) (.inl (.inr ⟨{ cls:=.type "list",data:=.seq vs.toArray },?_⟩))
  ·by_cases hb:b∈tabs.map (·.2)
   ·obtain ⟨q,hq,e⟩:=List.mem_map.mp hb
    exact .inr (.inr ⟨q,hq,e.symm,if_pos hb⟩)
   ·by_cases hb2:b=a
    ·exact .inr (.inl ⟨hb2,hk,by rw [if_neg hb,if_pos hb2]⟩)
    ·exact .inl (by rw [if_neg hb,if_neg hb2])
  ·show (if a∈tabs.map (·.2) then _ else _)=_
   rw [if_neg na,if_pos rfl]
theorem walk_ofT {l:W.OpenLaw} {n k:Nat} {q:Program} {loose:List Str} {XP:(Str->Option Value)->Heap->Prop} {YP:World->Heap->Prop} {d:DefRec} {K:Params->W.Frag} {sp:W.Frag->List (Addr × Addr)->Sp} {x:Str}
  (hn:l.most=some n) (hn2:n<=sizeLine) (hdf:d.params.defaults=[]) (hr:Room k callerA)
  (hY:∀ (w:World) (h:Heap),YP w h->(K w.params).In h)
  (F:∀ (w:World) (mg mb:Str->Option Value) (mean:ExcName->Option Value) (fa:Addr) (h:Heap),(K w.params).In h->Top q (W.looseW q loose) mean mg mb h->mg d.name=some (.ref fa) ->
   ∃ (fd:FuncData) (tabs:List (Addr × Addr)),(∀ (s:Shared) (u:Value),BindsTo s fd ⟨[u],[]⟩ [(x,u)])/\(∀ t∈tabs,W.CodeHd h t.1 t.2/\h.get? t.2=some (W.tabObj #[])/\(K w.params).lookup t.2=none) /\
    ∀ base:Heap,(K w.params).In base->base.Ns mainGlobals mg->BMain mg base->(∀ t∈tabs,W.CodeHd base t.1 t.2)->FnOk l.prog w (K w.params) mg base CX0 k fa fd [x] (sp (K w.params) tabs))
  (hsp:∀ (K:W.Frag) (tabs:List (Addr × Addr)) (H:Hp) (a:Addr) (ns:List Int),ns.length<=n->(∀ t∈tabs,H t.2=some (.tbl #[]))->SqL K H a (ns.map V.int)->sp K tabs [.ref a] H (fun v _=>v=.bl true) fun _ _ _=>False) :
  W.WalkO q loose XP YP l.row.toRowW d [] (fun f vs=>PySem.call f vs):=by
 refine Att.attach_call hn hdf fun w s₀ s₁ mg mb fa o pm cd doc a vs ns G Y ho hd hcd hmg hobj hints hlen hg=>?_
 have KX:=hY w _ Y
 obtain ⟨fd,tabs,hb,hT,hF⟩:=F w mg mb _ fa _ KX G.T hmg
 obtain ⟨bm,ob,b1,b2,b3,b4,b5,b6⟩:=G.T.bmain
 exact law_callT KX G.T.g G.T.b G.T.builtins G.T.nolimit hg hobj hints (Nat.le_trans hlen hn2) hr ⟨bm,ob,b1,b2,b3,b4,b5,b6⟩ hT hF hb (fun H hTb hS=>hsp _ _ H a ns hlen hTb hS)
theorem Inv.turnedL {X:Cx} {pins:List (Addr × Obj)} {σ:St} {H H':Hp} {s:Shared} {h':Heap} {ch:List Addr} (I:Inv X pins σ H s) (hf:∀ b∈ch,FpOk X pins H b) (k:∀ b o,b ∉ ch->s.heap.get? b=some o->h'.get? b=some o)
  (up:∀ b o,H b=some o->H' b=some o) (no:∀ b o,s.heap.get? b=some o->H b=none->H' b=none) (new:∀ b o,H b=none->H' b=some o->ObjOk X.prog X.w H' h' b o):Inv X pins σ H' { s with heap:=h' }:=by
 have tr:∀ b o,H b=some o->b ∉ ch:=fun b o e z=>by rw [(hf b z).1] at e; cases e
 refine I.call (s:=s) (h':=h') (g':=s.gens) (d':=s.drawn) (t':=s.toks) (ch:=ch) ⟨fun b o e _ _ hx=>k b o hx e,fun b o e _ _ hx=>⟨o.slots,k b o hx e⟩,fun b o e n _=>no b o e n,fun b o e hx=>⟨o,k b o hx e⟩,fun b xs e=>up b _ e,fun b o u e=>up b _ e,fun b ps e=>⟨#[],by rw [up b _ e]; simp⟩⟩ (fun b o e=>?_) I.bare fun b hb=>?_
 ·cases q:H b with
  | none=>exact new b o q e
  | some o2 =>
   have e2:=up b o2 q
   rw [e] at e2
   cases e2
   refine (I.hok b o q).stay (fun c v hc q2=>k c v ?_ q2) (fun c q2=>up c _ q2) fun c xs q2=>up c _ q2
   rcases hc with hc | hc
   ·rw [hc]; exact tr b o q
   ·exact tr c _ hc
 ·obtain ⟨_,f1,_,f3,f4,f5⟩:=hf b hb
  exact ⟨f3,f1,f4,f5⟩
section
variable {X:Cx}
end
section
variable {K:W.Frag} {a b:Addr} {xs ys:List V} {caps:List (Option Nat)} {g:TG} {tt:TT} {te:TE} {σ:St} {H:Hp} {Q:VK}
end
section
variable {X:Cx}
def rInsert:V->List V->Hp->VK->Prop:=fun x vs H Q=>∃ (l:Addr) (xs:List V) (i:Int) (y:V),x=.ref l/\vs=[.int i,y]/\H l=some (.lst xs)/\0<=i/\i<=(xs.length:Int)/\xs.length < sizeLine/\Q .non (upd H l (.lst (xs.take i.toNat ++ y :: xs.drop i.toNat)))
theorem insert_eq (its:List Value) (u:Value) (i:Int) (h0:0<=i) (hk:i<=(its.length:Int)) :
  (fun xs:Array Value=>have j:=if i < 0 then (i+((xs.size:Nat):Int)).toNat else min i.toNat xs.size; (xs.extract 0 j).push u ++ xs.extract j) its.toArray=(its.take i.toNat ++ u :: its.drop i.toNat).toArray:=by
 have e4:min i.toNat its.toArray.size=i.toNat:=by
  rw [List.size_toArray]
  omega
 simp only [if_neg (show ¬ i < 0 by omega),e4]
 apply Array.toList_inj.mp
 simp [List.take_of_length_le]
theorem mt_insert:MtM X "list.insert" rInsert:=by
 intro pins s σ H x vs v us Q I rx rv h
 obtain ⟨l,xs,i,y,rfl,rfl,hH,h0,hk,hz,q⟩:=h
 cases rx
 obtain ⟨u1,u2,rfl,r1,r2⟩:=rv.two
 obtain ⟨t,rfl⟩:=r1
 obtain ⟨z,its,n,r,hl,e⟩:=I.lstM hH
 have hk63:i < 2 ^ 63:=by
  have h1:=qon9
  have h2:xs.length < 2 ^ 63:=by omega
  have e2:((2:Int) ^ 63)=(((2:Nat) ^ 63:Nat):Int):=by decide +kernel
  rw [e2]
  omega
 have hk0:-(2 ^ 63)<=i:=Int.le_trans (by decide) h0
 have hc0:¬ (!Builtin.List.listFitsIndex i)=true:=by
  rw [fitsIndex_both hk0 hk63]
  exact Bool.false_ne_true
 have hsz:its.toArray.size<=sizeLine:=by rw [List.size_toArray]; omega
 refine call_meets F.slot_list_insert ⟨_,e,rfl⟩ F.entry_list_insert (F.args_list_insert_3 _ _ _) (AutoSeq1.list_insert_list_int_val_1 l its.toArray n i t u2 hc0 hsz) ⟨e,?_⟩
 refine ⟨.non,_,I.lset (its':=its.take i.toNat ++ u2 :: its.drop i.toNat) (ys:=xs.take i.toNat ++ y :: xs.drop i.toNat) hH e (insert_eq its u2 i h0 (by omega)) ((r.take i.toNat).append (.cons r2 (r.drop i.toNat))) ?_,rfl,q⟩
 rw [List.length_append,List.length_cons,List.length_take,List.length_drop]
 omega
variable {e o a:Expr} {es:List Expr} {to:TE} {t:TA} {apos pos:Pos}
theorem qe_insert {b:Expr} (ho:QE X o to) (ha:QA X [a,b] t) (h:qbk9 a=true:=by rfl) (h2:qbk9 b=true:=by rfl) (hbase:attributeBase o "insert" X.env (eval o X.env)=eval o X.env:=by rfl) (hline:(apos.endLine == pos.line)=true:=by rfl) :
  QE X (.Call (.Attribute o "insert" apos) [a,b] [] pos) (tBM X.K "list" rInsert to t) :=
 ⟨pe_bm PySem.F.plainAttrs_list PySem.F.slot_list_insert PySem.F.type_list_insert mt_insert ho.run ha.run hbase (by rw [se_of h,se_of h2]; rfl) hline (se_of h) (by rw [se_of h2]; rfl)⟩
end
end L2
namespace Ma
abbrev T4:=Int × Int × Bool × Int
def btS (d t:Int) (best:Option Int) (w:T3):Option Int :=
 match best with
 | none=>some (nextO d w.1 w.2.1 t+w.2.2)
 | some b=>if nextO d w.1 w.2.1 t+w.2.2 < b then some (nextO d w.1 w.2.1 t+w.2.2) else some b
def bt (d:Int) (R:List T3) (t:Int):Option Int:=R.foldl (btS d t) none
theorem bt_nil (d t:Int):bt d [] t=none:=rfl
theorem bt_snoc (d:Int) (R:List T3) (w:T3) (t:Int):bt d (R ++ [w]) t=btS d t (bt d R t) w:=by
 unfold bt
 rw [List.foldl_append]
 rfl
structure IsMin (d t:Int) (R:List T3) (y:Int):Prop where
 at_:∃ w∈R,y=nextO d w.1 w.2.1 t+w.2.2
 le:∀ w∈R,y<=nextO d w.1 w.2.1 t+w.2.2
theorem IsMin.uniq {d t:Int} {R:List T3} {y y':Int} (h:IsMin d t R y) (h':IsMin d t R y'):y=y':=by
 obtain ⟨w,hw,e⟩:=h.at_
 obtain ⟨w',hw',e'⟩:=h'.at_
 have:=h.le w' hw'
 have:=h'.le w hw
 omega
theorem fold_bt (d t:Int):∀ (R:List T3) (best:Option Int),(best=none/\R=[]/\R.foldl (btS d t) best=none) \/
  ∃ y,R.foldl (btS d t) best=some y/\(best=some y\/∃ w∈R,y=nextO d w.1 w.2.1 t+w.2.2)/\(∀ b,best=some b->y<=b)/\∀ w∈R,y<=nextO d w.1 w.2.1 t+w.2.2
 | [],none=>.inl ⟨rfl,rfl,rfl⟩
 | [],some b=>.inr ⟨b,rfl,.inl rfl,fun b' e=>by cases e; exact Int.le_refl _,fun w hw=>by cases hw⟩
 | w :: R,best=>by
  rw [List.foldl_cons]
  rcases fold_bt d t R (btS d t best w) with ⟨e,_⟩ | ⟨y,e1,e2,e3,e4⟩
  ·cases best with
   | none=>cases e
   | some b =>
    simp only [btS] at e
    split at e <;> cases e
  ·refine .inr ⟨y,e1,?_,fun b hb=>?_,fun u hu=>?_⟩
   ·rcases e2 with e2 | ⟨u,hu,e2⟩
    ·cases best with
     | none =>
      cases e2
      exact .inr ⟨w,List.mem_cons_self ..,rfl⟩
     | some b =>
      simp only [btS] at e2
      split at e2
      ·cases e2
       exact .inr ⟨w,List.mem_cons_self ..,rfl⟩
      ·cases e2
       exact .inl rfl
    ·exact .inr ⟨u,List.mem_cons_of_mem _ hu,e2⟩
   ·subst hb
    by_cases c:nextO d w.1 w.2.1 t+w.2.2 < b
    ·have:=e3 _ (by simp only [btS]; rw [if_pos c])
     omega
    ·exact e3 _ (by simp only [btS]; rw [if_neg c])
   ·rcases List.mem_cons.mp hu with rfl | hu
    ·cases best with
     | none=>exact e3 _ rfl
     | some b =>
      by_cases c:nextO d u.1 u.2.1 t+u.2.2 < b
      ·exact e3 _ (by simp only [btS]; rw [if_pos c])
      ·have:=e3 b (by simp only [btS]; rw [if_neg c])
       omega
    ·exact e4 u hu
theorem qjh9 (d t:Int) (R:List T3):(R=[]/\bt d R t=none)\/∃ y,bt d R t=some y/\IsMin d t R y:=by
 rcases fold_bt d t R none with ⟨_,e,e2⟩ | ⟨y,e1,e2,_,e4⟩
 ·exact .inl ⟨e,e2⟩
 ·refine .inr ⟨y,e1,?_,e4⟩
  rcases e2 with e2 | e2
  ·cases e2
  ·exact e2
theorem IsMin.bt {d t:Int} {R:List T3} {y:Int} (h:IsMin d t R y):bt d R t=some y:=by
 rcases qjh9 d t R with ⟨rfl,_⟩ | ⟨y',e,h'⟩
 ·obtain ⟨w,hw,_⟩:=h.at_
  cases hw
 ·rw [e,h.uniq h']
theorem qib9 {d t:Int} {R:List T3} {y:Int} (h:bt d R t=some y):IsMin d t R y:=by
 rcases qjh9 d t R with ⟨rfl,e⟩ | ⟨y',e,h'⟩
 ·rw [e] at h; cases h
 ·rw [e] at h
  cases h
  exact h'
def Tells (d:Int) (R:List T3) (f:Int->Int):Prop:=∀ t,bt d R t=some (f t)
def bf (d:Int) (R:List T3) (t:Int):Int:=(bt d R t).getD 0
theorem tells_bf {d:Int} {R:List T3} (h:R ≠ []):Tells d R (bf d R):=fun t=>by
 unfold bf
 rcases qjh9 d t R with ⟨e,_⟩ | ⟨y,e,_⟩
 ·exact absurd e h
 ·rw [e]; rfl
theorem Tells.ne {d:Int} {R:List T3} {f:Int->Int} (h:Tells d R f):R ≠ []:=fun e=>by
 have:=h 0
 rw [e,bt_nil] at this
 cases this
structure Rise (d:Int) (f:Int->Int):Prop where
 ge:∀ t,t<=f t
 mono:∀ t u,t<=u->f t<=f u
 per:∀ t,f (t+d)=f t+d
theorem Rise.mul {d:Int} {f:Int->Int} (r:Rise d f) (t:Int):∀ k:Int,f (t+d * k)=f t+d * k:=by
 have up:∀ (t:Int) (n:Nat),f (t+d * (n:Int))=f t+d * (n:Int):=fun t n=>by
  induction n with
  | zero=>simp
  | succ n ih =>
   have e:d * ((n+1:Nat):Int)=d * (n:Int)+d:=by
    rw [Int.natCast_add,Int.mul_add]
    simp
   rw [e,<- Int.add_assoc,r.per,ih]
   omega
 intro k
 rcases Int.le_total 0 k with h | h
 ·have e:k=((k.toNat:Nat):Int):=by omega
  rw [e]
  exact up t _
 ·obtain ⟨m,e⟩:∃ m:Nat,k=-(m:Int):=⟨(-k).toNat,by omega⟩
  subst e
  have:=up (t+d * -(m:Int)) m
  rw [Int.mul_neg] at this ⊢
  have e2:t+-(d * (m:Int))+d * (m:Int)=t:=by omega
  rw [e2] at this
  omega
def Wins (d:Int) (R:List T3):Prop:=∀ w∈R,0<=w.1/\w.1<=w.2.1/\w.2.1 < d/\0<=w.2.2
theorem next_mono {d a b t u:Int} (hd:0 < d) (h0:0<=a) (h1:a<=b) (h2:b < d) (l:t<=u):nextO d a b t<=nextO d a b u:=by
 obtain ⟨k,k1,k2,k3,k4,k5⟩:=qch9 (t:=u) hd h0 h1 h2
 obtain ⟨k',_,_,_,_,m5⟩:=qch9 (t:=t) hd h0 h1 h2
 exact m5 k _ k1 k2 (by omega)
theorem qnq9 {d a b t:Int}:nextO d a b (t+d)=nextO d a b t+d:=by
 unfold nextO
 rw [Int.add_emod_right]
 split <;> omega
theorem board_rise {d:Int} {R:List T3} {f:Int->Int} (hd:0 < d) (W:Wins d R) (T:Tells d R f):Rise d f:=by
 have m:∀ t,IsMin d t R (f t):=fun t=>qib9 (T t)
 refine ⟨fun t=>?_,fun t u l=>?_,fun t=>?_⟩
 ·obtain ⟨w,hw,e⟩:=(m t).at_
  obtain ⟨w0,w1,w2,w3⟩:=W w hw
  obtain ⟨_,_,_,k3,_⟩:=qch9 (t:=t) hd w0 w1 w2
  omega
 ·obtain ⟨w,hw,e⟩:=(m u).at_
  obtain ⟨w0,w1,w2,w3⟩:=W w hw
  have:=(m t).le w hw
  have:=next_mono hd w0 w1 w2 l
  omega
 ·refine IsMin.uniq (m (t+d)) ⟨?_,fun w hw=>?_⟩
  ·obtain ⟨w,hw,e⟩:=(m t).at_
   exact ⟨w,hw,by rw [qnq9]; omega⟩
  ·have:=(m t).le w hw
   rw [qnq9]
   omega
structure CK (d:Int) (R:List T3):Prop where
 d0:0 < d
 win:Wins d R
 srt:R.Pairwise fun u v=>u.2.1 < v.1/\u.2.1+u.2.2 < v.1+v.2.2/\(u.2.1+1=v.1->u.2.2 ≠ v.2.2)
 wr:∀ u∈R,∀ v∈R,u.2.1+u.2.2 < d+(v.1+v.2.2)
theorem ck_nil {d:Int} (h:0 < d):CK d []:=⟨h,(fun w hw=>by cases hw),List.Pairwise.nil,(fun w hw=>by cases hw)⟩
theorem qfp9 {R:List T3} {i:Nat} (h:i < R.length):(rA R i,rB R i,rC R i)∈R:=List.mem_of_getElem? (r_at h)
theorem qgt9 {R:List T3} {w:T3} (h:w∈R):∃ i,i < R.length/\rA R i=w.1/\rB R i=w.2.1/\rC R i=w.2.2:=by
 obtain ⟨i,hi,e⟩:=List.mem_iff_getElem.mp h
 have e2:R[i]?=some (w.1,w.2.1,w.2.2):=by rw [List.getElem?_eq_getElem hi,e]
 exact ⟨i,hi,r_of e2⟩
theorem qka9 {R:List T3} {p:T3->T3->Prop} (h:R.Pairwise p) {i j:Nat} (hij:i < j) (hj:j < R.length):p (rA R i,rB R i,rC R i) (rA R j,rB R j,rC R j):=by
 have e1:=r_at (R:=R) (i:=i) (by omega)
 have e2:=r_at (R:=R) hj
 rw [List.getElem?_eq_getElem (by omega)] at e1
 rw [List.getElem?_eq_getElem hj] at e2
 have:=List.pairwise_iff_getElem.mp h i j (by omega) hj hij
 rw [Option.some.inj e1,Option.some.inj e2] at this
 exact this
theorem CK.clk {d:Int} {R:List T3} (h:CK d R):Clk d R.length (rA R) (rB R) (rC R) :=
 ⟨h.d0,fun i hi=>(h.win _ (qfp9 hi)).1,fun i hi=>(h.win _ (qfp9 hi)).2.1,fun i hi=>(h.win _ (qfp9 hi)).2.2.1,fun i hi=>(h.win _ (qfp9 hi)).2.2.2,
  fun i j hij hj=>(qka9 h.srt hij hj).1,fun i j hij hj=>(qka9 h.srt hij hj).2.1,fun i j hi hj=>h.wr _ (qfp9 hi) _ (qfp9 hj)⟩
theorem ex_min (g:Nat->Int):∀ n:Nat,0 < n->∃ j,j < n/\∀ i,i < n->g j<=g i
 | 0,h=>absurd h (Nat.lt_irrefl _)
 | 1,_=>⟨0,by omega,fun i hi=>by have:i=0:=(by omega); rw [this]; exact Int.le_refl _⟩
 | n+2,_=>by
  obtain ⟨j,hj,h⟩:=ex_min g (n+1) (by omega)
  rcases Int.le_total (g j) (g (n+1)) with c | c
  ·refine ⟨j,by omega,fun i hi=>?_⟩
   rcases (by omega:i < n+1\/i=n+1) with z | z
   ·exact h i z
   ·rw [z]; exact c
  ·refine ⟨n+1,by omega,fun i hi=>?_⟩
   rcases (by omega:i < n+1\/i=n+1) with z | z
   ·have:=h i z
    omega
   ·rw [z]; exact Int.le_refl _
theorem qly9 {d:Int} {R:List T3} (K:Clk d R.length (rA R) (rB R) (rC R)) (n0:R.length ≠ 0) (t:Int):∃ x y,First d R.length (rA R) (rB R) (rC R) t x y/\bt d R t=some y:=by
 obtain ⟨j,hj,hm⟩:=ex_min (fun i=>nextO d (rA R i) (rB R i) t) R.length (by omega)
 have F:=first_min K hj hm
 refine ⟨_,_,F,IsMin.bt ⟨⟨_,qfp9 hj,rfl⟩,fun w hw=>?_⟩⟩
 obtain ⟨i,hi,e1,e2,e3⟩:=qgt9 hw
 obtain ⟨k,k1,k2,k3,k4,k5⟩:=qch9 (t:=t) K.d0 (K.a0 i hi) (K.ab i hi) (K.bd i hi)
 have D:Dep d R.length (rA R) (rB R) (rC R) (nextO d (rA R i) (rB R i) t) (nextO d (rA R i) (rB R i) t+rC R i):=⟨i,k,hi,k1,k2,rfl⟩
 have le:=F.least _ _ D k3
 rw [<- e1,<- e2,<- e3]
 rcases (by omega:nextO d (rA R j) (rB R j) t < nextO d (rA R i) (rB R i) t\/nextO d (rA R j) (rB R j) t=nextO d (rA R i) (rB R i) t) with z | z
 ·have:=qpj9 K F.dep D z
  omega
 ·rw [<- z] at D
  have:=qpo9 K F.dep D
  omega
theorem first_bt {d:Int} {R:List T3} (K:Clk d R.length (rA R) (rB R) (rC R)) {t x y:Int} (h:First d R.length (rA R) (rB R) (rC R) t x y):bt d R t=some y:=by
 have n0:R.length ≠ 0:=by
  obtain ⟨i,_,hi,_⟩:=h.dep
  omega
 obtain ⟨x',y',h',e⟩:=qly9 K n0 t
 rw [e,(h.uniq K h').2]
structure Can (lo P:Int) (f:Int->Int) (R:List T3):Prop where
 srt:R.Pairwise fun u v=>u.2.1 < v.1/\(u.2.1+1=v.1->u.2.2 ≠ v.2.2)
 mem:∀ w∈R,lo<=w.1/\w.1<=w.2.1/\w.2.1 < P/\∀ x,w.1<=x->x<=w.2.1->f x=x+w.2.2/\f x < f (x+1)
 cov:∀ x,lo<=x->x < P->f x < f (x+1)->∃ w∈R,w.1<=x/\x<=w.2.1
theorem Can.tail {lo P:Int} {f:Int->Int} {w:T3} {R:List T3} (h:Can lo P f (w :: R)):Can (w.2.1+1) P f R:=by
 have s:=List.pairwise_cons.mp h.srt
 have hw:=h.mem w (List.mem_cons_self ..)
 refine ⟨s.2,fun u hu=>?_,fun x x0 x1 x2=>?_⟩
 ·have a:=h.mem u (List.mem_cons_of_mem _ hu)
  have b:=(s.1 u hu).1
  exact ⟨by omega,a.2⟩
 ·obtain ⟨u,hu,u1,u2⟩:=h.cov x (by omega) x1 x2
  rcases List.mem_cons.mp hu with rfl | hu
  ·omega
  ·exact ⟨u,hu,u1,u2⟩
theorem Can.head_le {lo P:Int} {f:Int->Int} {w:T3} {R:List T3} (h:Can lo P f (w :: R)) {x:Int} (x0:lo<=x) (x1:x < P) (x2:f x < f (x+1)):w.1<=x:=by
 have s:=List.pairwise_cons.mp h.srt
 obtain ⟨u,hu,u1,u2⟩:=h.cov x x0 x1 x2
 rcases List.mem_cons.mp hu with rfl | hu
 ·exact u1
 ·have:=(s.1 u hu).1
  have:=(h.mem w (List.mem_cons_self ..)).2.1
  omega
theorem Can.end_le {lo P:Int} {f:Int->Int} {w w':T3} {R R':List T3} (h:Can lo P f (w :: R)) (h':Can lo P f (w' :: R')) (ea:w.1=w'.1) (ec:w.2.2=w'.2.2):w'.2.1<=w.2.1:=by
 rcases Int.lt_or_le w.2.1 w'.2.1 with z | z
 ·exfalso
  have m:=h.mem w (List.mem_cons_self ..)
  have m':=h'.mem w' (List.mem_cons_self ..)
  have q:=m'.2.2.2 (w.2.1+1) (by omega) (by omega)
  obtain ⟨u,hu,u1,u2⟩:=h.cov (w.2.1+1) (by omega) (by omega) q.2
  rcases List.mem_cons.mp hu with rfl | hu
  ·omega
  ·have s:=(List.pairwise_cons.mp h.srt).1 u hu
   have r:=((h.mem u (List.mem_cons_of_mem _ hu)).2.2.2 (w.2.1+1) u1 u2).1
   exact s.2 (by omega) (by omega)
 ·exact z
theorem Can.uniq {P:Int} {f:Int->Int}:∀ {R R':List T3} {lo:Int},Can lo P f R->Can lo P f R'->R=R'
 | [],[],_,_,_=>rfl
 | [],w :: R,lo,h,h'=>by
  have m:=h'.mem w (List.mem_cons_self ..)
  obtain ⟨u,hu,_⟩:=h.cov w.1 m.1 (by omega) (m.2.2.2 w.1 (Int.le_refl _) m.2.1).2
  cases hu
 | w :: R,[],lo,h,h'=>by
  have m:=h.mem w (List.mem_cons_self ..)
  obtain ⟨u,hu,_⟩:=h'.cov w.1 m.1 (by omega) (m.2.2.2 w.1 (Int.le_refl _) m.2.1).2
  cases hu
 | w :: R,w' :: R',lo,h,h'=>by
  have m:=h.mem w (List.mem_cons_self ..)
  have m':=h'.mem w' (List.mem_cons_self ..)
  have q:=m.2.2.2 w.1 (Int.le_refl _) m.2.1
  have q':=m'.2.2.2 w'.1 (Int.le_refl _) m'.2.1
  have l1:=h.head_le (x:=w'.1) m'.1 (by omega) q'.2
  have l2:=h'.head_le (x:=w.1) m.1 (by omega) q.2
  have ea:w.1=w'.1:=by omega
  have ec:w.2.2=w'.2.2:=by
   have:=q.1
   have:=q'.1
   rw [ea] at *
   omega
  have b1:=h.end_le h' ea ec
  have b2:=h'.end_le h ea.symm ec.symm
  have eb:w.2.1=w'.2.1:=by omega
  have ew:w=w':=by
   obtain ⟨x,y,z⟩:=w
   obtain ⟨x',y',z'⟩:=w'
   cases ea
   cases eb
   cases ec
   rfl
  subst ew
  rw [Can.uniq h.tail h'.tail]
theorem qob9 {f:Int->Int} (mono:∀ t u,t<=u->f t<=f u) {x:Int}:∀ (n:Nat),(∀ y,x<=y->y < x+n->¬ f y < f (y+1))->f x=f (x+n)
 | 0,_=>by simp
 | n+1,h=>by
  have e:=qob9 mono (x:=x) n fun y y0 y1=>h y y0 (by omega)
  have a:=h (x+n) (by omega) (by omega)
  have b:=mono (x+n) (x+n+1) (by omega)
  have e2:x+((n+1:Nat):Int)=x+n+1:=by omega
  rw [e2]
  omega
theorem qkw9 {f:Int->Int} (mono:∀ t u,t<=u->f t<=f u) {x z:Int} (hz:x<=z) (h:∀ y,x<=y->y < z->¬ f y < f (y+1)):f x=f z:=by
 have e:z=x+((z - x).toNat:Int):=by omega
 have:=qob9 mono (x:=x) (z - x).toNat fun y y0 y1=>h y y0 (by omega)
 rw [<- e] at this
 exact this
theorem qoh9 {d:Int} {f:Int->Int} (hd:0 < d) (r:Rise d f) (t:Int):∃ x,t<=x/\x < t+d/\f x=f t/\f x < f (x+1):=by
 have go:∀ n:Nat,f t < f (t+n)->∃ x,t<=x/\x < t+n/\f x=f t/\f x < f (x+1):=by
  intro n
  induction n with
  | zero=>intro h; simp at h
  | succ n ih =>
   intro h
   by_cases c:f t < f (t+n)
   ·obtain ⟨x,x1,x2,x3,x4⟩:=ih c
    exact ⟨x,x1,by omega,x3,x4⟩
   ·have b:=r.mono t (t+n) (by omega)
    have e:t+((n+1:Nat):Int)=t+n+1:=by omega
    rw [e] at h
    exact ⟨t+n,by omega,by omega,by omega,by omega⟩
 have e:d=((d.toNat:Nat):Int):=by omega
 have:=go d.toNat (by rw [<- e,r.per]; omega)
 rw [<- e] at this
 exact this
theorem Can.tells {d:Int} {f:Int->Int} {R:List T3} (hd:0 < d) (r:Rise d f) (h:Can 0 d f R):Tells d R f:=by
 intro t
 have lo:∀ w∈R,f t<=nextO d w.1 w.2.1 t+w.2.2:=fun w hw=>by
  obtain ⟨m0,m1,m2,m3⟩:=h.mem w hw
  obtain ⟨k,k1,k2,k3,k4,k5⟩:=qch9 (t:=t) hd m0 m1 m2
  generalize nextO d w.1 w.2.1 t=x at *
  have q:=(m3 (x - d * k) (by omega) (by omega)).1
  have q2:=r.mul (x - d * k) k
  have e:x - d * k+d * k=x:=by omega
  rw [e] at q2
  have:=r.mono t x k3
  omega
 refine IsMin.bt ⟨?_,lo⟩
 obtain ⟨x,x1,x2,x3,x4⟩:=qoh9 hd r t
 obtain ⟨q,e,e0,e1⟩:=split d x hd
 have p0:=r.mul (x % d) q
 have p1:=r.mul (x % d+1) q
 have e2:x % d+d * q=x:=by omega
 have e3:x % d+1+d * q=x+1:=by omega
 rw [e2] at p0
 rw [e3] at p1
 obtain ⟨w,hw,w1,w2⟩:=h.cov (x % d) e0 e1 (by omega)
 obtain ⟨m0,m1,m2,m3⟩:=h.mem w hw
 have c:=(m3 (x % d) w1 w2).1
 obtain ⟨k,k1,k2,k3,k4,k5⟩:=qch9 (t:=t) hd m0 m1 m2
 have u:=k5 q x (by omega) (by omega) x1
 have v:=lo w hw
 exact ⟨w,hw,by omega⟩
theorem Can.ck {d:Int} {f:Int->Int} {R:List T3} (hd:0 < d) (r:Rise d f) (h:Can 0 d f R):CK d R:=by
 have at_:∀ w∈R,f w.1=w.1+w.2.2/\f w.2.1=w.2.1+w.2.2/\f w.2.1 < f (w.2.1+1):=fun w hw=>by
  obtain ⟨m0,m1,m2,m3⟩:=h.mem w hw
  exact ⟨(m3 _ (Int.le_refl _) m1).1,m3 _ m1 (Int.le_refl _)⟩
 refine ⟨hd,fun w hw=>?_,?_,fun u hu v hv=>?_⟩
 ·obtain ⟨m0,m1,m2,m3⟩:=h.mem w hw
  have:=at_ w hw
  have:=r.ge w.1
  exact ⟨m0,m1,m2,by omega⟩
 ·refine List.Pairwise.imp_of_mem (fun {u v} hu hv p=>?_) h.srt
  refine ⟨p.1,?_,p.2⟩
  have a:=at_ u hu
  have b:=at_ v hv
  have:=r.mono (u.2.1+1) v.1 (by omega)
  omega
 ·have a:=at_ u hu
  have b:=at_ v hv
  obtain ⟨m0,m1,m2,m3⟩:=h.mem u hu
  obtain ⟨n0,_⟩:=h.mem v hv
  have:=r.mono (u.2.1+1) (v.1+d) (by omega)
  have:=r.per v.1
  omega
theorem CK.can {d:Int} {R:List T3} {f:Int->Int} (h:CK d R) (T:Tells d R f):Can 0 d f R:=by
 have K:=h.clk
 have n0:R.length ≠ 0:=fun e=>T.ne (List.length_eq_zero_iff.mp e)
 have F:∀ t,∃ x,First d R.length (rA R) (rB R) (rC R) t x (f t):=fun t=>by
  obtain ⟨x,y,h1,h2⟩:=qly9 K n0 t
  rw [T t] at h2
  cases h2
  exact ⟨x,h1⟩
 refine ⟨h.srt.imp fun p=>⟨p.1,p.2.2⟩,fun w hw=>?_,fun x x0 x1 x2=>?_⟩
 ·obtain ⟨w0,w1,w2,w3⟩:=h.win w hw
  refine ⟨w0,w1,w2,fun x a b=>?_⟩
  obtain ⟨i,hi,e1,e2,e3⟩:=qgt9 hw
  have D:Dep d R.length (rA R) (rB R) (rC R) x (x+w.2.2):=⟨i,0,hi,by omega,by omega,by omega⟩
  obtain ⟨x',F1⟩:=F x
  have l:=F1.least _ _ D (Int.le_refl _)
  have l2:=F1.le
  have e:x'=x:=by omega
  subst e
  have ey:=qpo9 K F1.dep D
  obtain ⟨x2,F2⟩:=F (x'+1)
  have:=qpj9 K F1.dep F2.dep (by have:=F2.le; omega)
  exact ⟨ey,this⟩
 ·obtain ⟨x',F1⟩:=F x
  rcases (by have:=F1.le; omega:x'=x\/x+1<=x') with e | e
  ·subst e
   obtain ⟨i,k,hi,k1,k2,_⟩:=F1.dep
   have a0:=K.a0 i hi
   have bd:=K.bd i hi
   have d0:=K.d0
   have:k=0:=by
    rcases (by omega:k < 0\/k=0\/0 < k) with z | z | z
    ·have:=qbi9 d0 z
     omega
    ·exact z
    ·have:=qbi9 d0 z
     omega
   subst this
   exact ⟨_,qfp9 hi,by simpa using k1,by simpa using k2⟩
  ·obtain ⟨x2',F2⟩:=F (x+1)
   have F3:First d R.length (rA R) (rB R) (rC R) (x+1) x' (f x):=⟨F1.dep,e,fun u v h1 h2=>F1.least u v h1 (by omega)⟩
   have:=(F2.uniq K F3).2
   omega
theorem CK.uniq {d:Int} {R R':List T3} (h:CK d R) (h':CK d R') (e:∀ t,bt d R t=bt d R' t):R=R':=by
 by_cases n:R=[]
 ·subst n
  by_cases n':R'=[]
  ·exact n'.symm
  ·have:=e 0
   rw [bt_nil,tells_bf n' 0] at this
   cases this
 ·have T:=tells_bf (d:=d) n
  have T':Tells d R' (bf d R):=fun t=>by rw [<- e t]; exact T t
  exact Can.uniq (h.can T) (h'.can T')
theorem CK.rise {d:Int} {R:List T3} {f:Int->Int} (h:CK d R) (T:Tells d R f):Rise d f:=board_rise h.d0 h.win T
end Ma
namespace Ma
theorem qql9 {α:Type} {p:List α->Prop} (h0:p []) (hs:∀ l x,p l->p (l ++ [x])) (l:List α):p l:=by
 rw [<- List.reverse_reverse l]
 induction l.reverse with
 | nil=>exact h0
 | cons x r ih =>
  rw [List.reverse_cons]
  exact hs _ _ ih
def putW (R:List T3) (a b c:Int):List T3 :=
 if b < a then R else match R.getLast? with
  | some l=>if l.2.1+1=a/\l.2.2=c then R.dropLast ++ [(l.1,b,c)] else R ++ [(a,b,c)]
  | none=>R ++ [(a,b,c)]
theorem putW_len (R:List T3) (a b c:Int):(putW R a b c).length<=R.length+1:=by
 unfold putW
 split
 ·omega
 ·split
  ·split
   ·rw [List.length_append,List.length_dropLast,List.length_singleton]; omega
   ·simp
  ·simp
section
variable {lo P P':Int} {f:Int->Int} {R:List T3} {a b c:Int}
theorem Can.app (h:Can lo P f R) (l0:lo<=P) (pa:P<=a) (ab:a<=b) (bp:b < P') (dep:∀ x,P<=x->x < P'->(f x < f (x+1)↔a<=x/\x<=b)) (ride:∀ x,a<=x->x<=b->f x=x+c)
  (un:∀ u∈R,u.2.1+1=a->u.2.2 ≠ c):Can lo P' f (R ++ [(a,b,c)]):=by
 refine ⟨List.pairwise_append.mpr ⟨h.srt,List.pairwise_singleton _ _,fun u hu v hv=>?_⟩,fun w hw=>?_,fun x x0 x1 x2=>?_⟩
 ·rw [List.mem_singleton] at hv
  subst hv
  have m:=h.mem u hu
  exact ⟨by show u.2.1 < a; omega,un u hu⟩
 ·rcases List.mem_append.mp hw with hw | hw
  ·obtain ⟨m0,m1,m2,m3⟩:=h.mem w hw
   exact ⟨m0,m1,by omega,m3⟩
  ·rw [List.mem_singleton] at hw
   subst hw
   exact ⟨by show lo<=a; omega,ab,bp,fun x x1 x2=>by
    have x1':a<=x:=x1
    have x2':x<=b:=x2
    exact ⟨ride x x1 x2,(dep x (by omega) (by omega)).mpr ⟨x1,x2⟩⟩⟩
 ·rcases Int.lt_or_le x P with z | z
  ·obtain ⟨w,hw,w1⟩:=h.cov x x0 z x2
   exact ⟨w,List.mem_append_left _ hw,w1⟩
  ·exact ⟨(a,b,c),List.mem_append_right _ (List.mem_singleton.mpr rfl),(dep x z x1).mp x2⟩
theorem Can.step (h:Can lo P f R) (l0:lo<=P) (pa:P<=a) (bp:b < P') (hp:P<=P') (dep:∀ x,P<=x->x < P'->(f x < f (x+1)↔a<=x/\x<=b)) (ride:∀ x,a<=x->x<=b->f x=x+c):Can lo P' f (putW R a b c):=by
 unfold putW
 split
 ·rename_i ba
  refine ⟨h.srt,fun w hw=>?_,fun x x0 x1 x2=>?_⟩
  ·obtain ⟨m0,m1,m2,m3⟩:=h.mem w hw
   exact ⟨m0,m1,by omega,m3⟩
  ·rcases Int.lt_or_le x P with z | z
   ·exact h.cov x x0 z x2
   ·have:=(dep x z x1).mp x2
    omega
 ·rename_i ab
  split
  ·rename_i l hl
   obtain ⟨R0,rfl⟩:∃ R0,R=R0 ++ [l]:=by
    obtain ⟨R0,e⟩:=List.getLast?_eq_some_iff.mp hl
    exact ⟨R0,e⟩
   have s:=List.pairwise_append.mp h.srt
   split
   ·rename_i tc
    rw [List.dropLast_concat]
    have ml:=h.mem l (List.mem_append_right _ (List.mem_singleton.mpr rfl))
    refine ⟨List.pairwise_append.mpr ⟨s.1,List.pairwise_singleton _ _,fun u hu v hv=>?_⟩,fun w hw=>?_,fun x x0 x1 x2=>?_⟩
    ·rw [List.mem_singleton] at hv
     subst hv
     have q:=s.2.2 u hu l (List.mem_singleton.mpr rfl)
     rw [<- tc.2]
     exact q
    ·rcases List.mem_append.mp hw with hw | hw
     ·obtain ⟨m0,m1,m2,m3⟩:=h.mem w (List.mem_append_left _ hw)
      exact ⟨m0,m1,by omega,m3⟩
     ·rw [List.mem_singleton] at hw
      subst hw
      obtain ⟨m0,m1,m2,m3⟩:=ml
      refine ⟨m0,by show l.1<=b; omega,bp,fun x x1 x2=>?_⟩
      have x1':l.1<=x:=x1
      have x2':x<=b:=x2
      show f x=x+c/\f x < f (x+1)
      rcases Int.lt_or_le l.2.1 x with z | z
      ·exact ⟨ride x (by omega) x2',(dep x (by omega) (by omega)).mpr ⟨by omega,x2'⟩⟩
      ·rw [<- tc.2]
       exact m3 x x1' z
    ·rcases Int.lt_or_le x P with z | z
     ·obtain ⟨w,hw,w1,w2⟩:=h.cov x x0 z x2
      rcases List.mem_append.mp hw with hw | hw
      ·exact ⟨w,List.mem_append_left _ hw,w1,w2⟩
      ·rw [List.mem_singleton] at hw
       subst hw
       exact ⟨_,List.mem_append_right _ (List.mem_singleton.mpr rfl),w1,by show x<=b; omega⟩
     ·have q:=(dep x z x1).mp x2
      exact ⟨_,List.mem_append_right _ (List.mem_singleton.mpr rfl),by show l.1<=x; have:=ml.2.1; omega,q.2⟩
   ·rename_i tc
    refine h.app l0 pa (by omega) bp dep ride fun u hu e=>?_
    rcases List.mem_append.mp hu with hu | hu
    ·have q:=s.2.2 u hu l (List.mem_singleton.mpr rfl)
     have ml:=h.mem l (List.mem_append_right _ (List.mem_singleton.mpr rfl))
     omega
    ·rw [List.mem_singleton] at hu
     subst hu
     exact fun e2=>tc ⟨e,e2⟩
  ·rename_i hl
   have e:=List.getLast?_eq_none_iff.mp hl
   subst e
   exact h.app l0 pa (by omega) bp dep ride fun u hu=>by cases hu
end
def tell (r:T4) (x:Int):Int:=if r.2.2.1=true then r.2.2.2 else x+r.2.2.2
def ftold (r:T4):Int:=if r.2.2.1=true then r.2.2.2 else r.1+r.2.2.2
theorem qqa9 (r:T4):ftold r=tell r r.1:=rfl
def cfStep (fo:Int) (r:T4) (R:List T3):List T3 :=
 if r.2.2.1=true then putW R r.2.1 (if r.2.2.2 < fo then r.2.1 else r.2.1 - 1) (r.2.2.2 - r.2.1)
 else putW R r.1 (if r.2.1+r.2.2.2 < fo then r.2.1 else r.2.1 - 1) r.2.2.2
theorem cfStep_len (fo:Int) (r:T4) (R:List T3):(cfStep fo r R).length<=R.length+1:=by
 unfold cfStep
 split <;> exact putW_len ..
theorem Can.row {lo P:Int} {f:Int->Int} {R:List T3} (h:Can lo P f R) (l0:lo<=P) (r:T4) (e:r.1=P) (le:r.1<=r.2.1) (tl:∀ x,r.1<=x->x<=r.2.1->f x=tell r x) :
  Can lo (r.2.1+1) f (cfStep (f (r.2.1+1)) r R):=by
 obtain ⟨p,q,s,v⟩:=r
 have e':p=P:=e
 subst e'
 have le':p<=q:=le
 have tl':∀ x,p<=x->x<=q->f x=if s=true then v else x+v:=tl
 unfold cfStep
 show Can lo (q+1) f (if s=true then putW R q (if v < f (q+1) then q else q - 1) (v - q) else putW R p (if q+v < f (q+1) then q else q - 1) v)
 cases s with
 | true =>
  rw [if_pos rfl]
  have t0:∀ x,p<=x->x<=q->f x=v:=fun x h1 h2=>by have:=tl' x h1 h2; rw [if_pos rfl] at this; exact this
  refine h.step l0 le' (by split <;> omega) (by omega) (fun x x0 x1=>?_) fun x x0 x1=>?_
  ·rcases (by omega:x < q\/x=q) with z | z
   ·have:=t0 x x0 (by omega)
    have:=t0 (x+1) (by omega) (by omega)
    constructor
    ·intro; omega
    ·rintro ⟨h1,h2⟩; omega
   ·subst z
    rw [t0 x x0 (Int.le_refl _)]
    constructor
    ·intro z
     rw [if_pos z]
     exact ⟨Int.le_refl _,Int.le_refl _⟩
    ·intro z9;obtain ⟨_,z⟩ := z9
     split at z
     ·assumption
     ·omega
  ·have x1':x<=q:=by split at x1 <;> omega
   have:=t0 x (by omega) x1'
   omega
 | false =>
  rw [if_neg (by decide)]
  have t0:∀ x,p<=x->x<=q->f x=x+v:=fun x h1 h2=>by have:=tl' x h1 h2; rw [if_neg (by decide)] at this; exact this
  refine h.step l0 (Int.le_refl _) (by split <;> omega) (by omega) (fun x x0 x1=>?_) fun x x0 x1=>?_
  ·rcases (by omega:x < q\/x=q) with z | z
   ·have:=t0 x x0 (by omega)
    have:=t0 (x+1) (by omega) (by omega)
    constructor
    ·intro
     refine ⟨x0,?_⟩
     split <;> omega
    ·intro; omega
   ·subst z
    rw [t0 x x0 (Int.le_refl _)]
    constructor
    ·intro z
     rw [if_pos z]
     exact ⟨x0,Int.le_refl _⟩
    ·intro z9;obtain ⟨_,z⟩ := z9
     split at z
     ·assumption
     ·omega
  ·exact t0 x x0 (by split at x1 <;> omega)
def Cov (f:Int->Int):Int->List T4->Int->Prop
 | lo,[],hi=>lo=hi
 | lo,r :: S,hi=>r.1=lo/\r.1<=r.2.1/\(∀ x,r.1<=x->x<=r.2.1->f x=tell r x)/\Cov f (r.2.1+1) S hi
theorem Cov.le {f:Int->Int}:∀ {S:List T4} {lo hi:Int},Cov f lo S hi->lo<=hi
 | [],lo,hi,h=>by have:lo=hi:=h; omega
 | r :: S,lo,hi,⟨h1,h2,_,h4⟩=>by have:=Cov.le h4; omega
theorem Cov.append {f:Int->Int}:∀ {S S':List T4} {lo mid hi:Int},Cov f lo S mid->Cov f mid S' hi->Cov f lo (S ++ S') hi
 | [],S',lo,mid,hi,h,h'=>by
  have:lo=mid:=h
  subst this
  exact h'
 | r :: S,S',lo,mid,hi,⟨h1,h2,h3,h4⟩,h'=>⟨h1,h2,h3,Cov.append h4 h'⟩
theorem Cov.one {f:Int->Int} {r:T4} (h:r.1<=r.2.1) (t:∀ x,r.1<=x->x<=r.2.1->f x=tell r x):Cov f r.1 [r] (r.2.1+1):=⟨rfl,h,t,rfl⟩
theorem Cov.get {f:Int->Int}:∀ {S:List T4} {lo hi:Int} {k:Nat} {r:T4},Cov f lo S hi->S[k]?=some r->lo<=r.1/\r.1<=r.2.1/\r.2.1 < hi/\(∀ x,r.1<=x->x<=r.2.1->f x=tell r x) /\
  (k=0->r.1=lo)/\(∀ r',S[k+1]?=some r'->r'.1=r.2.1+1)/\(k+1=S.length->r.2.1+1=hi)
 | [],_,_,_,_,_,e=>by simp at e
 | r0 :: S,lo,hi,0,r,⟨h1,h2,h3,h4⟩,e=>by
  have e':r0=r:=by simpa using e
  subst e'
  have l:=Cov.le h4
  refine ⟨by omega,h2,by omega,h3,fun _=>h1,fun r' e'=>?_,fun e'=>?_⟩
  ·have e2:S[0]?=some r':=by simpa using e'
   exact (Cov.get h4 e2).2.2.2.2.1 rfl
  ·have:S=[]:=by
    simp at e'
    exact e'
   subst this
   exact h4
 | r0 :: S,lo,hi,k+1,r,⟨h1,h2,h3,h4⟩,e=>by
  have e2:S[k]?=some r:=by simpa using e
  obtain ⟨g1,g2,g3,g4,g5,g6,g7⟩:=Cov.get h4 e2
  refine ⟨by omega,g2,g3,g4,fun z=>by omega,fun r' e'=>g6 r' (by simpa using e'),fun e'=>g7 (by simp at e'; omega)⟩
theorem Cov.find {f:Int->Int}:∀ {S:List T4} {lo hi x:Int},Cov f lo S hi->lo<=x->x < hi->∃ (k:Nat) (r:T4),S[k]?=some r/\r.1<=x/\x<=r.2.1
 | [],lo,hi,x,h,h1,h2=>by have:lo=hi:=h; omega
 | r :: S,lo,hi,x,⟨h1,h2,h3,h4⟩,x0,x1=>by
  rcases Int.lt_or_le r.2.1 x with z | z
  ·obtain ⟨k,r',e,e1⟩:=Cov.find h4 (by omega) x1
   exact ⟨k+1,r',by simpa using e,e1⟩
  ·exact ⟨0,r,rfl,by omega,z⟩
def cfo (d:Int) (S:List T4) (k:Nat):Int:=match S[k+1]? with
 | some r=>ftold r
 | none=>d+(match S[0]? with
  | some r=>ftold r
  | none=>0)
theorem cfo_eq {d:Int} {f:Int->Int} {S:List T4} {k:Nat} {r:T4} (h:Cov f 0 S d) (per:∀ t,f (t+d)=f t+d) (e:S[k]?=some r):cfo d S k=f (r.2.1+1):=by
 obtain ⟨g1,g2,g3,g4,g5,g6,g7⟩:=h.get e
 have hk:=(List.getElem?_eq_some_iff.mp e).1
 unfold cfo
 cases e1:S[k+1]? with
 | some r' =>
  have q:=g6 r' e1
  obtain ⟨_,g2',_,g4',_⟩:=h.get e1
  show ftold r'=_
  rw [qqa9,<- g4' r'.1 (Int.le_refl _) g2',q]
 | none =>
  have el:k+1=S.length:=by
   have:=List.getElem?_eq_none_iff.mp e1
   omega
  have q:=g7 el
  have h0:0 < S.length:=by omega
  obtain ⟨_,g2',_,g4',g5',_⟩:=h.get (List.getElem?_eq_getElem h0)
  rw [List.getElem?_eq_getElem h0]
  show d+ftold S[0]=_
  rw [qqa9,<- g4' _ (Int.le_refl _) g2',g5' rfl,q]
  have:=per 0
  rw [Int.zero_add] at this
  omega
def stStep (acc:List T4 × Int) (w:T3):List T4 × Int:=((if acc.2 < w.1 then acc.1 ++ [(acc.2,w.1 - 1,true,w.1+w.2.2)] else acc.1) ++ [(w.1,w.2.1,false,w.2.2)],w.2.1+1)
def stPre (R:List T3):List T4 × Int:=R.foldl stStep ([],0)
theorem stPre_snoc (R:List T3) (w:T3):stPre (R ++ [w])=stStep (stPre R) w:=by
 unfold stPre
 rw [List.foldl_append]
 rfl
def strOf (d:Int) (R:List T3):List T4:=if 0 < (stPre R).1.length/\(stPre R).2 < d then (stPre R).1 ++ [((stPre R).2,d - 1,true,d+rA R 0+rC R 0)] else (stPre R).1
theorem stPre_len (R:List T3):(stPre R).1.length<=2 * R.length/\(R ≠ []->0 < (stPre R).1.length):=by
 refine qql9 (p:=fun R=>(stPre R).1.length<=2 * R.length/\(R ≠ []->0 < (stPre R).1.length)) ⟨by simp [stPre],fun h=>absurd rfl h⟩ (fun R w ih=>?_) R
 rw [stPre_snoc]
 unfold stStep
 refine ⟨?_,fun _=>by simp⟩
 simp only [List.length_append,List.length_singleton]
 split
 ·simp only [List.length_append,List.length_singleton]; omega
 ·omega
theorem strOf_len (d:Int) (R:List T3):(strOf d R).length<=2 * R.length+1:=by
 have:=(stPre_len R).1
 unfold strOf
 split
 ·simp only [List.length_append,List.length_singleton]; omega
 ·omega
section
variable {d:Int} {R:List T3} {f:Int->Int}
theorem st_cov (h:CK d R) (T:Tells d R f):∀ R1 R2,R=R1 ++ R2->Cov f 0 (stPre R1).1 (stPre R1).2/\0<=(stPre R1).2/\(stPre R1).2<=d/\(∀ u∈R1,u.2.1 < (stPre R1).2)/\(∀ v∈R2,(stPre R1).2<=v.1):=by
 have C:=h.can T
 have r:=h.rise T
 have d0:=h.d0
 refine qql9 (p:=fun R1=>∀ R2,R=R1 ++ R2->Cov f 0 (stPre R1).1 (stPre R1).2/\0<=(stPre R1).2/\(stPre R1).2<=d/\(∀ u∈R1,u.2.1 < (stPre R1).2)/\(∀ v∈R2,(stPre R1).2<=v.1)) (fun R2 e=>?_) fun R1 w ih R2 e=>?_
 ·refine ⟨rfl,Int.le_refl _,by show (0:Int)<=d; omega,(fun u hu=>by cases hu),fun v hv=>?_⟩
  exact (h.win v (by rw [e]; exact hv)).1
 ·have e':R=R1 ++ (w :: R2):=by rw [e]; simp
  obtain ⟨c,p0,pd,pu,pv⟩:=ih (w :: R2) e'
  have hw:w∈R:=by rw [e']; simp
  obtain ⟨w0,w1,w2,w3⟩:=h.win w hw
  have pw:=pv w (List.mem_cons_self ..)
  have srt:=h.srt
  rw [e'] at srt
  have s2:=List.pairwise_cons.mp (List.pairwise_append.mp srt).2.1
  rw [stPre_snoc]
  unfold stStep
  generalize (stPre R1).1=S at *
  generalize (stPre R1).2=p at *
  have mw:=(C.mem w hw).2.2.2
  have fa:=(mw w.1 (Int.le_refl _) w1).1
  refine ⟨?_,by show 0<=w.2.1+1; omega,by show w.2.1+1<=d; omega,fun u hu=>?_,fun v hv=>?_⟩
  ·have last:Cov f w.1 [(w.1,w.2.1,false,w.2.2)] (w.2.1+1):=Cov.one (r:=(w.1,w.2.1,false,w.2.2)) w1 fun x x0 x1=>by
    rw [(mw x x0 x1).1]
    rfl
   show Cov f 0 ((if p < w.1 then S ++ [(p,w.1 - 1,true,w.1+w.2.2)] else S) ++ [(w.1,w.2.1,false,w.2.2)]) (w.2.1+1)
   split
   ·rename_i z
    refine Cov.append (Cov.append c (mid:=p) (hi:=w.1) ?_) last
    have e1:w.1 - 1+1=w.1:=by omega
    have:=Cov.one (f:=f) (r:=(p,w.1 - 1,true,w.1+w.2.2)) (by show p<=w.1 - 1; omega) fun x x0 x1=>?_
    ·rw [e1] at this
     exact this
    ·have x0':p<=x:=x0
     have x1':x<=w.1 - 1:=x1
     show f x=w.1+w.2.2
     rw [<- fa]
     refine qkw9 r.mono (by omega) fun y y0 y1 yd=>?_
     obtain ⟨u,hu,u1,u2⟩:=C.cov y (by omega) (by omega) yd
     rw [e'] at hu
     rcases List.mem_append.mp hu with hu | hu
     ·have:=pu u hu
      omega
     ·rcases List.mem_cons.mp hu with rfl | hu
      ·omega
      ·have:=(s2.1 u hu).1
       omega
   ·rename_i z
    have:p=w.1:=by omega
    subst this
    exact Cov.append c last
  ·show u.2.1 < w.2.1+1
   rcases List.mem_append.mp hu with hu | hu
   ·have:=pu u hu
    omega
   ·rw [List.mem_singleton] at hu
    subst hu
    omega
  ·have:=(s2.1 v hv).1
   show w.2.1+1<=v.1
   omega
theorem str_cov (h:CK d R) (T:Tells d R f):Cov f 0 (strOf d R) d:=by
 obtain ⟨c,p0,pd,pu,pv⟩:=st_cov h T R [] (by simp)
 have C:=h.can T
 have r:=h.rise T
 have ne:=(stPre_len R).2 T.ne
 unfold strOf
 generalize (stPre R).1=S at *
 generalize (stPre R).2=p at *
 split
 ·rename_i z
  refine Cov.append c ?_
  have e1:d - 1+1=d:=by omega
  have:=Cov.one (f:=f) (r:=(p,d - 1,true,d+rA R 0+rC R 0)) (by show p<=d - 1; omega) fun x x0 x1=>?_
  ·rw [e1] at this
   exact this
  ·have x0':p<=x:=x0
   have x1':x<=d - 1:=x1
   show f x=d+rA R 0+rC R 0
   have hn:0 < R.length:=List.length_pos_iff.mpr T.ne
   have m0:=C.mem _ (qfp9 hn)
   have f0:f (rA R 0)=rA R 0+rC R 0:=(m0.2.2.2 (rA R 0) (Int.le_refl _) m0.2.1).1
   have a0:(0:Int)<=rA R 0:=m0.1
   have z0:f 0=f (rA R 0):=qkw9 r.mono a0 fun y y0 y1 yd=>by
    have q:=m0.2.2.1
    have q1:=m0.2.1
    obtain ⟨u,hu,u1,u2⟩:=C.cov y y0 (by omega) yd
    obtain ⟨i,hi,e1,e2,e3⟩:=qgt9 hu
    rcases Nat.eq_zero_or_pos i with e | e
    ·subst e; omega
    ·have:=(qka9 h.srt e hi).1
     omega
   have z1:f x=f d:=qkw9 r.mono (by omega) fun y y0 y1 yd=>by
    obtain ⟨u,hu,u1,u2⟩:=C.cov y (by omega) y1 yd
    have:=pu u hu
    omega
   have:=r.per 0
   rw [Int.zero_add] at this
   omega
 ·rename_i z
  have:p=d:=by omega
  subst this
  exact c
end
end Ma
namespace Ma
abbrev T6:=Int × Int × Bool × Int × Bool × Int
def tl (s:Bool) (v x:Int):Int:=if s=true then v else x+v
def Cov2 (f g:Int->Int):Int->List T6->Int->Prop
 | lo,[],hi=>lo=hi
 | lo,r :: S,hi=>r.1=lo/\r.1<=r.2.1/\(∀ x,r.1<=x->x<=r.2.1->f x=tl r.2.2.1 r.2.2.2.1 x/\g x=tl r.2.2.2.2.1 r.2.2.2.2.2 x)/\Cov2 f g (r.2.1+1) S hi
theorem Cov2.le {f g:Int->Int}:∀ {S:List T6} {lo hi:Int},Cov2 f g lo S hi->lo<=hi
 | [],lo,hi,h=>by have:lo=hi:=h; omega
 | r :: S,lo,hi,⟨h1,h2,_,h4⟩=>by have:=Cov2.le h4; omega
theorem Cov2.snoc {f g:Int->Int} {r:T6} (h2:r.1<=r.2.1) (h3:∀ x,r.1<=x->x<=r.2.1->f x=tl r.2.2.1 r.2.2.2.1 x/\g x=tl r.2.2.2.2.1 r.2.2.2.2.2 x):∀ {S:List T6} {lo:Int},Cov2 f g lo S r.1->Cov2 f g lo (S ++ [r]) (r.2.1+1)
 | [],lo,h=>by
  have:lo=r.1:=h
  subst this
  exact ⟨rfl,h2,h3,rfl⟩
 | r0 :: S,lo,⟨a1,a2,a3,a4⟩=>⟨a1,a2,a3,Cov2.snoc h2 h3 a4⟩
theorem Cov2.get {f g:Int->Int}:∀ {S:List T6} {lo hi:Int} {k:Nat} {r:T6},Cov2 f g lo S hi->S[k]?=some r->lo<=r.1/\r.1<=r.2.1/\r.2.1 < hi/\(∀ x,r.1<=x->x<=r.2.1->f x=tl r.2.2.1 r.2.2.2.1 x/\g x=tl r.2.2.2.2.1 r.2.2.2.2.2 x) /\
  (k=0->r.1=lo)/\(∀ r',S[k+1]?=some r'->r'.1=r.2.1+1)/\(k+1=S.length->r.2.1+1=hi)
 | [],_,_,_,_,_,e=>by simp at e
 | r0 :: S,lo,hi,0,r,⟨h1,h2,h3,h4⟩,e=>by
  have e':r0=r:=by simpa using e
  subst e'
  have l:=Cov2.le h4
  refine ⟨by omega,h2,by omega,h3,fun _=>h1,fun r' e'=>?_,fun e'=>?_⟩
  ·have e2:S[0]?=some r':=by simpa using e'
   exact (Cov2.get h4 e2).2.2.2.2.1 rfl
  ·have:S=[]:=by
    simp at e'
    exact e'
   subst this
   exact h4
 | r0 :: S,lo,hi,k+1,r,⟨h1,h2,h3,h4⟩,e=>by
  have e2:S[k]?=some r:=by simpa using e
  obtain ⟨g1,g2,g3,g4,g5,g6,g7⟩:=Cov2.get h4 e2
  refine ⟨by omega,g2,g3,g4,fun z=>by omega,fun r' e'=>g6 r' (by simpa using e'),fun e'=>g7 (by simp at e'; omega)⟩
def jn (late:Bool) (x y:Int):Int:=if late=true then (if y > x then y else x) else (if y < x then y else x)
theorem jn_comm (late:Bool) (x y:Int):jn late x y=jn late y x:=by
 unfold jn
 split
 ·split <;> split <;> omega
 ·split <;> split <;> omega
theorem jn_add (late:Bool) (x y d:Int):jn late (x+d) (y+d)=jn late x y+d:=by
 unfold jn
 split
 ·split <;> split <;> omega
 ·split <;> split <;> omega
theorem rise_jn {d:Int} {f g:Int->Int} (late:Bool) (rf:Rise d f) (rg:Rise d g):Rise d fun x=>jn late (f x) (g x):=by
 refine ⟨fun t=>?_,fun t u l=>?_,fun t=>?_⟩
 ·have:=rf.ge t
  have:=rg.ge t
  unfold jn
  split <;> split <;> omega
 ·have:=rf.mono t u l
  have:=rg.mono t u l
  unfold jn
  split
  ·split <;> split <;> omega
  ·split <;> split <;> omega
 ·show jn late (f (t+d)) (g (t+d))=_
  rw [rf.per,rg.per,jn_add]
def pickL (p q wt rd:Int) (late:Bool):List T4 :=
 (if p<=(if wt - rd < q then wt - rd else q) then [(p,(if wt - rd < q then wt - rd else q),late,if late=true then wt else rd)] else []) ++
 (if (if wt - rd+1 > p then wt - rd+1 else p)<=q then [((if wt - rd+1 > p then wt - rd+1 else p),q,!late,if late=true then rd else wt)] else [])
theorem qqj9 {p q wt rd:Int} {late:Bool} {h:Int->Int} (pq:p<=q) (hh:∀ x,p<=x->x<=q->h x=jn late wt (x+rd)):Cov h p (pickL p q wt rd late) (q+1):=by
 have lo:∀ x,p<=x->x<=q->x<=wt - rd->h x=tl late (if late=true then wt else rd) x:=fun x x0 x1 x2=>by
  rw [hh x x0 x1]
  unfold jn tl
  cases late
  ·simp only [Bool.false_eq_true,if_false]; split <;> omega
  ·simp only [if_true]; split <;> omega
 have hi:∀ x,p<=x->x<=q->wt - rd < x->h x=tl (!late) (if late=true then rd else wt) x:=fun x x0 x1 x2=>by
  rw [hh x x0 x1]
  unfold jn tl
  cases late
  ·simp only [Bool.false_eq_true,if_false,Bool.not_false,if_true]; split <;> omega
  ·simp only [if_true,Bool.not_true,Bool.false_eq_true,if_false]; split <;> omega
 unfold pickL
 rcases (by omega:wt - rd < p\/(p<=wt - rd/\wt - rd < q)\/q<=wt - rd) with z | z | z
 ·rw [if_pos (show wt - rd < q by omega),if_neg (show ¬ p<=wt - rd by omega),if_neg (show ¬ wt - rd+1 > p by omega),if_pos pq,List.nil_append]
  exact Cov.one (r:=(p,q,!late,if late=true then rd else wt)) pq fun x x0 x1=>hi x x0 x1 (by have:p<=x:=x0; omega)
 ·rw [if_pos z.2,if_pos z.1]
  have hm:(if wt - rd+1 > p then wt - rd+1 else p)=wt - rd+1:=if_pos (by omega)
  rw [hm,if_pos (show wt - rd+1<=q by omega)]
  refine Cov.append (mid:=wt - rd+1) ?_ ?_
  ·exact Cov.one (r:=(p,wt - rd,late,if late=true then wt else rd)) z.1 fun x x0 x1=>lo x x0 (by have:x<=wt - rd:=x1; omega) x1
  ·exact Cov.one (r:=(wt - rd+1,q,!late,if late=true then rd else wt)) (by show wt - rd+1<=q; omega) fun x x0 x1=>hi x (by have:wt - rd+1<=x:=x0; omega) x1 (by have:wt - rd+1<=x:=x0; omega)
 ·rw [if_neg (show ¬ wt - rd < q by omega),if_pos pq]
  have hm:¬ (if wt - rd+1 > p then wt - rd+1 else p)<=q:=by split <;> omega
  rw [if_neg hm,List.append_nil]
  exact Cov.one (r:=(p,q,late,if late=true then wt else rd)) pq fun x x0 x1=>lo x x0 x1 (by have:x<=q:=x1; omega)
theorem pick_len (p q wt rd:Int) (late:Bool):(pickL p q wt rd late).length<=2:=by
 unfold pickL
 rw [List.length_append]
 have one:∀ (c:Prop) [Decidable c] (x:T4),(if c then [x] else []).length<=1:=fun c _ x=>by split <;> simp
 exact Nat.add_le_add (one _ _) (one _ _)
def joinRow (late:Bool) (r:T6):List T4 :=
 if r.2.2.1=r.2.2.2.2.1 then [(r.1,r.2.1,r.2.2.1,jn late r.2.2.2.1 r.2.2.2.2.2)]
 else if r.2.2.1=true then pickL r.1 r.2.1 r.2.2.2.1 r.2.2.2.2.2 late else pickL r.1 r.2.1 r.2.2.2.2.2 r.2.2.2.1 late
theorem joinRow_len (late:Bool) (r:T6):(joinRow late r).length<=2:=by
 unfold joinRow
 split
 ·simp
 ·split <;> exact pick_len ..
theorem joinRow_cov {late:Bool} {r:T6} {f g:Int->Int} (pq:r.1<=r.2.1) (h:∀ x,r.1<=x->x<=r.2.1->f x=tl r.2.2.1 r.2.2.2.1 x/\g x=tl r.2.2.2.2.1 r.2.2.2.2.2 x) :
  Cov (fun x=>jn late (f x) (g x)) r.1 (joinRow late r) (r.2.1+1):=by
 obtain ⟨p,q,s,v,s',v'⟩:=r
 have h':∀ x,p<=x->x<=q->f x=tl s v x/\g x=tl s' v' x:=h
 unfold joinRow
 show Cov _ p (if s=s' then [(p,q,s,jn late v v')] else if s=true then pickL p q v v' late else pickL p q v' v late) (q+1)
 by_cases e:s=s'
 ·rw [if_pos e]
  subst e
  refine Cov.one (r:=(p,q,s,jn late v v')) pq fun x x0 x1=>?_
  obtain ⟨e1,e2⟩:=h' x x0 x1
  show jn late (f x) (g x)=tl s (jn late v v') x
  rw [e1,e2]
  unfold tl
  cases s
  ·simp only [Bool.false_eq_true,if_false]
   have:=jn_add late v v' x
   rw [Int.add_comm v x,Int.add_comm v' x] at this
   omega
  ·simp
 ·rw [if_neg e]
  cases s with
  | true =>
   have e':s'=false:=by cases s' with | true=>exact absurd rfl e | false=>rfl
   subst e'
   rw [if_pos rfl]
   refine qqj9 pq fun x x0 x1=>?_
   obtain ⟨e1,e2⟩:=h' x x0 x1
   show jn late (f x) (g x)=_
   rw [e1,e2]
   rfl
  | false =>
   have e':s'=true:=by cases s' with | false=>exact absurd rfl e | true=>rfl
   subst e'
   rw [if_neg (by decide)]
   refine qqj9 pq fun x x0 x1=>?_
   obtain ⟨e1,e2⟩:=h' x x0 x1
   show jn late (f x) (g x)=_
   rw [e1,e2,jn_comm]
   rfl
def omin:Option Int->Option Int->Option Int
 | none,b=>b
 | a,none=>a
 | some x,some y=>some (jn false x y)
def omax:Option Int->Option Int->Option Int
 | some x,some y=>some (jn true x y)
 | _,_=>none
theorem bt_append (d:Int) (R R':List T3) (t:Int):bt d (R ++ R') t=omin (bt d R t) (bt d R' t):=by
 rcases qjh9 d t R with ⟨rfl,e⟩ | ⟨y,e,m⟩
 ·rw [e,List.nil_append]
  cases bt d R' t <;> rfl
 ·rcases qjh9 d t R' with ⟨rfl,e'⟩ | ⟨y',e',m'⟩
  ·rw [e',e,List.append_nil,e]
   rfl
  ·rw [e,e']
   show _=some (jn false y y')
   refine IsMin.bt ⟨?_,fun w hw=>?_⟩
   ·unfold jn
    rw [if_neg (by decide)]
    split
    ·obtain ⟨w,hw,q⟩:=m'.at_
     exact ⟨w,List.mem_append_right _ hw,q⟩
    ·obtain ⟨w,hw,q⟩:=m.at_
     exact ⟨w,List.mem_append_left _ hw,q⟩
   ·unfold jn
    rw [if_neg (by decide)]
    rcases List.mem_append.mp hw with hw | hw
    ·have:=m.le w hw
     split <;> omega
    ·have:=m'.le w hw
     split <;> omega
theorem Tells.min {d:Int} {R R':List T3} {f g:Int->Int} (h:Tells d R f) (h':Tells d R' g) (t:Int):omin (bt d R t) (bt d R' t)=some (jn false (f t) (g t)):=by rw [h t,h' t]; rfl
theorem Tells.max {d:Int} {R R':List T3} {f g:Int->Int} (h:Tells d R f) (h':Tells d R' g) (t:Int):omax (bt d R t) (bt d R' t)=some (jn true (f t) (g t)):=by rw [h t,h' t]; rfl
theorem ck_one {d:Int} (hd:0 < d) {w:T3} (h:0<=w.1/\w.1<=w.2.1/\w.2.1 < d/\0<=w.2.2):CK d [w]:=by
 refine ⟨hd,fun u hu=>?_,List.pairwise_singleton _ _,fun u hu v hv=>?_⟩
 ·rw [List.mem_singleton] at hu
  subst hu
  exact h
 ·rw [List.mem_singleton] at hu hv
  subst hu hv
  omega
end Ma
namespace Ma
theorem qkk9 {α:Type} [DecidableEq α]:∀ {l L:List α},l.Nodup->(∀ x∈l,x∈L)->l.length<=L.length
 | [],_,_,_=>Nat.zero_le _
 | x :: l,L,h,s=>by
  obtain ⟨L1,L2,rfl⟩:=List.append_of_mem (s x (List.mem_cons_self ..))
  have h':=List.nodup_cons.mp h
  have:=qkk9 (L:=L1 ++ L2) h'.2 fun y hy=>by
   have q:=s y (List.mem_cons_of_mem _ hy)
   rcases List.mem_append.mp q with q | q
   ·exact List.mem_append_left _ q
   ·rcases List.mem_cons.mp q with rfl | q
    ·exact absurd hy h'.1
    ·exact List.mem_append_right _ q
  simp only [List.length_cons,List.length_append] at *
  omega
theorem CK.starts {d:Int} {R:List T3} (h:CK d R):(R.map (·.1)).Nodup:=by
 refine List.pairwise_map.mpr (h.srt.imp_of_mem fun {u v} hu hv p=>?_)
 have:=(h.win u hu).2.1
 omega
section
variable {d:Int} {R R':List T3}
theorem at_open {f:Int->Int} {t:Int} (hd:0 < d) (W:Wins d R) (T:Tells d R f) (t0:0<=t) (t1:t < d) (lt:f t < f (t+1)):∃ u∈R,u.1<=t/\t<=u.2.1/\f t=t+u.2.2:=by
 obtain ⟨u,hu,e⟩:=(qib9 (T t)).at_
 obtain ⟨w0,w1,w2,w3⟩:=W u hu
 obtain ⟨k,k1,k2,k3,k4,k5⟩:=qch9 (t:=t) hd w0 w1 w2
 obtain ⟨k',m1,m2,m3,m4,m5⟩:=qch9 (t:=t+1) hd w0 w1 w2
 have le:=(qib9 (T (t+1))).le u hu
 rcases (by omega:nextO d u.1 u.2.1 t=t\/t+1<=nextO d u.1 u.2.1 t) with z | z
 ·rw [z] at k1 k2 e
  have:k=0:=by
   rcases (by omega:k < 0\/k=0\/0 < k) with y | y | y
   ·have:=qbi9 hd y
    omega
   ·exact y
   ·have:=qbi9 hd y
    omega
  subst this
  exact ⟨u,hu,by omega,by omega,e⟩
 ·have:=m5 k _ k1 k2 z
  omega
theorem start_at (h:CK d R') (W:Wins d R) {f:Int->Int} (T:Tells d R f) (T':Tells d R' f):∀ w∈R',w.1∈0 :: (R.map (·.1) ++ R.map (·.2.1+1)):=by
 intro w hw
 have C:=h.can T'
 obtain ⟨m0,m1,m2,m3⟩:=C.mem w hw
 have d0:=h.d0
 by_cases z:w.1=0
 ·rw [z]; exact List.mem_cons_self ..
 refine List.mem_cons_of_mem _ ?_
 obtain ⟨fa,fl⟩:=m3 w.1 (Int.le_refl _) m1
 obtain ⟨u,hu,u1,u2,u3⟩:=at_open d0 W T m0 (by omega) fl
 by_cases ea:w.1=u.1
 ·exact List.mem_append_left _ (List.mem_map.mpr ⟨u,hu,ea.symm⟩)
 refine List.mem_append_right _ ?_
 have r:=h.rise T'
 have open_le:∀ v∈R,∀ x,v.1<=x->x<=v.2.1->f x<=x+v.2.2:=fun v hv x x1 x2=>by
  obtain ⟨w0,w1,w2,w3⟩:=W v hv
  obtain ⟨k,k1,k2,k3,k4,k5⟩:=qch9 (t:=x) d0 w0 w1 w2
  have:=k5 0 x (by omega) (by omega) (Int.le_refl _)
  have:=(qib9 (T x)).le v hv
  omega
 have l1:=open_le u hu (w.1 - 1) (by omega) (by omega)
 have e1:w.1 - 1+1=w.1:=by omega
 have lt:f (w.1 - 1) < f (w.1 - 1+1):=by rw [e1]; omega
 have ne:f (w.1 - 1) ≠ w.1 - 1+u.2.2:=fun e=>by
  obtain ⟨w',hw',y1,y2⟩:=C.cov (w.1 - 1) (by omega) (by omega) lt
  obtain ⟨n0,n1,n2,n3⟩:=C.mem w' hw'
  have c':=(n3 _ y1 y2).1
  have apart:w'.2.1 < w.1:=by
   rcases (by omega:w'.2.1 < w.1\/w.1<=w'.2.1) with y | y
   ·exact y
   ·exfalso
    obtain ⟨i,hi,a1,a2,a3⟩:=qgt9 hw
    obtain ⟨j,hj,b1,b2,b3⟩:=qgt9 hw'
    rcases (by omega:i < j\/i=j\/j < i) with q | q | q
    ·have:rB R' i < rA R' j:=(qka9 h.srt q hj).1
     omega
    ·subst q
     omega
    ·have:rB R' j < rA R' i:=(qka9 h.srt q hi).1
     omega
  obtain ⟨i,hi,a1,a2,a3⟩:=qgt9 hw
  obtain ⟨j,hj,b1,b2,b3⟩:=qgt9 hw'
  rcases (by omega:i < j\/i=j\/j < i) with q | q | q
  ·have:rB R' i < rA R' j:=(qka9 h.srt q hj).1
   omega
  ·subst q
   omega
  ·have:=(qka9 h.srt q hi).2.2
   exact this (by show rB R' j+1=rA R' i; omega) (by show rC R' j=rC R' i; omega)
 obtain ⟨v,hv,v1,v2,v3⟩:=at_open d0 W T (by omega) (by omega) lt
 rcases (by omega:v.2.1=w.1 - 1\/w.1<=v.2.1) with y | y
 ·exact List.mem_map.mpr ⟨v,hv,by omega⟩
 ·have:=open_le v hv w.1 (by omega) y
  omega
theorem ck_len (h:CK d R') (W:Wins d R) (e:∀ t,bt d R' t=bt d R t):R'.length<=2 * R.length+1:=by
 by_cases n:R'=[]
 ·rw [n]; simp
 ·have T':=tells_bf (d:=d) n
  have T:Tells d R (bf d R'):=fun t=>by rw [<- e t]; exact T' t
  have:=qkk9 h.starts (L:=0 :: (R.map (·.1) ++ R.map (·.2.1+1))) fun x hx=>by
   obtain ⟨w,hw,rfl⟩:=List.mem_map.mp hx
   exact start_at h W T T' w hw
  simp only [List.length_map,List.length_cons,List.length_append] at this
  omega
end
end Ma
namespace Ma
theorem Cov.lt {f:Int->Int}:∀ {S:List T4} {lo hi:Int} {i j:Nat} {r r':T4},Cov f lo S hi->S[i]?=some r->S[j]?=some r'->i < j->r.2.1 < r'.1
 | [],_,_,_,_,_,_,_,e,_,_=>by simp at e
 | r0 :: S,lo,hi,0,j+1,r,r',⟨_,h2,h3,h4⟩,e,e',_=>by
  have e1:r0=r:=by simpa using e
  subst e1
  have e2:S[j]?=some r':=by simpa using e'
  have:=(Cov.get h4 e2).1
  omega
 | r0 :: S,lo,hi,i+1,j+1,r,r',⟨_,h2,h3,h4⟩,e,e',l=>Cov.lt h4 (by simpa using e) (by simpa using e') (by omega)
 | r0 :: S,lo,hi,i,0,r,r',_,_,_,l=>by omega
theorem Cov.congr {f g:Int->Int}:∀ {S:List T4} {lo hi:Int},(∀ x,lo<=x->x < hi->f x=g x)->Cov f lo S hi->Cov g lo S hi
 | [],_,_,_,h=>h
 | r :: S,lo,hi,e,⟨h1,h2,h3,h4⟩=>⟨h1,h2,fun x a b=>by
  have:=Cov.le h4
  rw [<- e x (by omega) (by omega)]; exact h3 x a b,Cov.congr (fun x a b=>e x (by omega) b) h4⟩
theorem rise_comp {d:Int} {f g:Int->Int} (rf:Rise d f) (rg:Rise d g):Rise d fun x=>g (f x):=by
 refine ⟨fun t=>?_,fun t u l=>rg.mono _ _ (rf.mono t u l),fun t=>?_⟩
 ·have:=rf.ge t
  have:=rg.ge (f t)
  show t<=g (f t)
  omega
 ·show g (f (t+d))=g (f t)+d
  rw [rf.per,rg.per]
def rideRow (p e m ride:Int) (r:T4):T4:=if r.2.2.1=true then (p,e,true,m+r.2.2.2) else (p,e,false,ride+r.2.2.2)
theorem ride_cov {d:Int} {g:Int->Int} (rg:Rise d g) {r:T4} {p e m k ride:Int} (hm:m=d * k) (pe:p<=e) (h1:m+r.1<=p+ride) (h2:e+ride<=m+r.2.1) (t:∀ x,r.1<=x->x<=r.2.1->g x=tell r x) :
  Cov (fun x=>g (x+ride)) p [rideRow p e m ride r] (e+1):=by
 have gx:∀ x,p<=x->x<=e->g (x+ride)=m+tell r (x+ride - m):=fun x x0 x1=>by
  have q:=rg.mul (x+ride - m) k
  rw [<- hm] at q
  have e1:x+ride - m+m=x+ride:=by omega
  rw [e1] at q
  rw [q,t _ (by omega) (by omega)]
  omega
 unfold rideRow
 unfold tell at gx
 by_cases s:r.2.2.1=true
 ·rw [if_pos s]
  refine Cov.one (r:=(p,e,true,m+r.2.2.2)) pe fun x x0 x1=>?_
  show g (x+ride)=m+r.2.2.2
  rw [gx x x0 x1,if_pos s]
 ·rw [if_neg s]
  refine Cov.one (r:=(p,e,false,ride+r.2.2.2)) pe fun x x0 x1=>?_
  show g (x+ride)=x+(ride+r.2.2.2)
  rw [gx x x0 x1,if_neg s]
  omega
def obind (a b:Int->Option Int) (t:Int):Option Int:=(a t).bind b
end Ma
namespace Ma
end Ma
namespace Ma
section
variable {d a b c:Int}
end
section
variable {d:Int} {R:List T3} {f:Int->Int}
end
end Ma
namespace Ma
section
variable {f g:Int->Int}
end
end Ma
namespace Ma
theorem nextO_eq (d a b t:Int) (h1:a<=b):nextO d a b t=if b < t % d then t+d+a - t % d else if t % d < a then t+a - t % d else t:=by
 unfold nextO
 split
 ·omega
 ·split <;> omega
end Ma
namespace L2
open PySem PySem.Spec PyProof.Rows
def Ite (K:W.Frag) (a:Addr):It :=
 ⟨fun i H=>∃ xs x,SqL K H a xs/\xs[i]?=some x,
  fun i H v H'=>∃ p x,v=.ref p/\H p=none/\H'=upd H p (.tup [.int i,x])/\(∀ xs,SqL K H a xs->xs[i]?=some x),
  fun i H=>∃ xs,SqL K H a xs/\xs.length<=i⟩
theorem turn_enum {P:Program} {w:World} {K:W.Frag} {es:List Expr} {kk:Nat} {tp:Pos} {e it a:Addr} (D:e ≠ it):Turn P w K (.Tuple es kk tp) (Ite K a) [e,it] e
  (fun i h=>(∃ old,IsEnum h e it (i:Int) old)/\h.IsListIter it a i) where
 mem:=by simp
 obj:=fun i h st c hc=>by
  obtain ⟨⟨old,he⟩,⟨o1,e1,c1,d1⟩⟩:=st
  simp only [List.mem_cons,List.not_mem_nil,or_false] at hc
  rcases hc with rfl | rfl
  ·exact ⟨_,he,fun v q=>by cases (show Data.fields _=Data.cell v from q)⟩
  ·exact ⟨o1,e1,fun v q=>by rw [d1] at q; cases q⟩
 keep:=fun i h h' st k=>by
  obtain ⟨⟨old,he⟩,h1⟩:=st
  exact ⟨⟨old,k e (by simp) _ he⟩,h1.at fun o e=>k it (by simp) o e⟩
 item:=by
  intro X hP hw hK hc i pins s σ H E I hf st hg
  subst hP hw hK
  obtain ⟨xs,x,hq1,hx⟩:=hg
  obtain ⟨t1,rv1,p1,hz1⟩:=I.list hq1
  obtain ⟨u,hu,ru⟩:=rv1.get hx
  obtain ⟨⟨old,he⟩,h1⟩:=st
  refine wpAny_pyNext_enum_item he h1 p1.isList (x:=u) (by simpa using hu) D fun h' a1 a3 a5 a6 k=>?_
  have fresh:H s.heap.objs.size=none:=I.hok.fresh (Nat.le_refl _)
  have szn:∀ c o,s.heap.get? c=some o->c ≠ s.heap.objs.size:=fun c o e=>Nat.ne_of_lt (Heap.lt_size e)
  have I1:Inv X pins σ (upd H s.heap.objs.size (.tup [.int i,x])) { s with heap:=h' }:=by
   refine I.turnedL (ch:=[e,it]) (fun c hc=>hf c hc) (fun c o hc e=>?_) (fun c o e=>by rw [qaq9 (qbb9 e fresh)]; exact e) (fun c o e n=>by rw [qaq9 (szn c o e)]; exact n) fun c o n e=>?_
   ·simp only [List.mem_cons,List.not_mem_nil,or_false,not_or] at hc
    exact k c o hc.1 hc.2 e
   ·by_cases ec:c=s.heap.objs.size
    ·rw [ec,qaf9] at e
     cases e
     rw [ec]
     exact ⟨by show 2<=sizeLine; decide,[.int i s.toks,u],.cons ⟨_,rfl⟩ (.cons ru .nil),_,a5,rfl,_,rfl⟩
    ·rw [qaq9 ec,n] at e
     cases e
  have I1':Inv X pins σ (upd H s.heap.objs.size (.tup [.int i,x])) { s with heap:=h',toks:=s.toks+1 }:=I1.tok _
  refine ⟨_,rfl,wpAny_letOwnedTupleGo_enum a1 fun h'' hz'' sb=>?_⟩
  have zf:=hf e (by simp)
  have zs:e ≠ s.heap.objs.size:=szn e _ he
  have I2:Inv X pins σ (upd H s.heap.objs.size (.tup [.int i,x])) { s with heap:=h'',toks:=s.toks+1 }:=Inv.turned (s:={ s with heap:=h',toks:=s.toks+1 }) (h':=h'') (t':=s.toks+1) (it:=e) I1' (fun c o hc e=>sb.extBut c o hc e) (by rw [qaq9 zs]; exact zf.1) zf.2.1 zf.2.2.2.1 zf.2.2.2.2.1 zf.2.2.2.2.2
  refine ⟨.ref s.heap.objs.size,_,I2,rfl,⟨_,x,rfl,fresh,rfl,fun xs' h=>by rw [I.list_inj h hq1]; exact hx⟩,?_,fun c hc=>?_⟩
  ·exact ⟨⟨_,hz''⟩,a3.extBut sb.extBut D.symm⟩
  ·have q:c ≠ s.heap.objs.size:=by
    obtain ⟨o1,e1,_⟩:=h1
    simp only [List.mem_cons,List.not_mem_nil,or_false] at hc
    rcases hc with rfl | rfl
    ·exact zs
    ·exact szn _ _ e1
   rw [qaq9 q]
   exact (hf c hc).1
 done:=by
  intro X hP hw hK hc i pins s σ H E I hf st hg
  subst hP hw hK
  obtain ⟨xs,hq1,hl⟩:=hg
  obtain ⟨t1,rv1,p1,hz1⟩:=I.list hq1
  have l1:=rv1.length
  obtain ⟨⟨old,he⟩,h1⟩:=st
  refine wpAny_pyNext_enum_end (I.ok.hd hc) he h1 p1.isList (by simp; omega) fun h' k=>⟨rfl,?_⟩
  refine I.turnedL (ch:=[e,it]) (fun c hc=>hf c hc) (fun c o hc e=>?_) (fun c o e=>e) (fun c o e n=>n) fun c o n e=>by rw [n] at e; cases e
  simp only [List.mem_cons,List.not_mem_nil,or_false,not_or] at hc
  exact k c o hc.2 e
 self:=fun _ _ _ _ _ st h=>by
  obtain ⟨⟨old,he⟩,_⟩:=st
  exact wpAny_pyIter_enum he h
def iEnum (K:W.Frag) (ta:TA):TI:=fun σ H R=>ta σ H fun vs H1=>∃ l1,vs=[.ref l1]/\(∃ xs,SqL K H1 l1 xs)/\R (Ite K l1) H1
theorem boot_enum:bootBuiltins "enumerate" = some (.type "enumerate"):=by decide +kernel
section
variable {X:Cx}
theorem pi_enum {a:Expr} {ta:TA} {p pos tp:Pos} {es:List Expr} {kk:Nat} (hg:Gl X "enumerate") (hm:X.mg "enumerate" = none) (ha:PA X [a] ta) (hs:starEach [a] X.env=[(false,eval a X.env)]) :
  PI X (.Tuple es kk tp) (.Call (.Name "enumerate" p) [a] [] pos) (iEnum X.K ta):=by
 intro pins s σ H R I h
 refine Call_ (qpa9 I hg hm boot_enum (PyProof.Rows.callWith_type1 (thn (ha pos pins s σ H _ I h) fun us s1 ⟨vs,H1,I1,r1,q1⟩=>?_) (by rw [hs]; rfl) (by rfl)))
 obtain ⟨l1,e,⟨xs,hq1⟩,q⟩:=q1
 subst e
 cases r1 with
 | cons r rr =>
  cases rr
  cases r
  obtain ⟨t1,rv1,p1,hz1⟩:=I1.list hq1
  refine call_enumerate_list p1.isList fun h' hz hit1 hsz k=>wpAny_pyIter_enum hz ?_
  refine ⟨s1.heap.objs.size+1,[s1.heap.objs.size+1,s1.heap.objs.size],_,_,H1,rfl,I1.kept (t':=s1.toks) k,turn_enum (Nat.succ_ne_self _),⟨⟨_,hz⟩,hit1⟩,fun c hc=>?_,q⟩
  have ge:s1.heap.objs.size<=c:=by
   simp only [List.mem_cons,List.not_mem_nil,or_false] at hc
   rcases hc with rfl | rfl <;> omega
  exact I1.fpOk ge (I1.hok.fresh ge)
theorem qi_enum {a:Expr} {ta:TA} {p pos tp:Pos} {es:List Expr} {kk:Nat} (hg:Gl X "enumerate") (hm:X.mg "enumerate" = none) (ha:QA X [a] ta) (h:qbk9 a=true:=by rfl) :
  QI X (.Tuple es kk tp) (.Call (.Name "enumerate" p) [a] [] pos) (iEnum X.K ta):=⟨pi_enum hg hm ha.run (by rw [se_of h]; rfl)⟩
end
theorem for_enum {K:W.Frag} {a:Addr} {xs:List V} {g:TG} {tb:TS} {D:Ends} {σ:St} {H:Hp} (Pv:Nat->St->Hp->Prop) (h0:Pv 0 σ H) (hl:∀ i σ H,i<=xs.length->Pv i σ H->SqL K H a xs)
  (hs:∀ i x p σ H,xs[i]?=some x->Pv i σ H->H p=none->g (.ref p) σ (upd H p (.tup [.int i,x])) fun σ2 H2=>tb { D with nx:=Pv (i+1),ct:=Pv (i+1),bk:=D.nx } σ2 H2) (hd:∀ σ H,Pv xs.length σ H->D.nx σ H) :
  ∃ W:Nat->Nat->St->Hp->Prop,(∃ m,W 0 m σ H)/\∀ i m σ H,W i m σ H ->
   ((Ite K a).stop i H/\D.nx σ H)\/((Ite K a).go i H/\∃ N:St->Hp->Prop,(∀ σ' H',N σ' H'->∃ m',m' < m/\W (i+1) m' σ' H')/\∀ x H',(Ite K a).yld i H x H'->g x σ H' fun σ2 H2=>tb { D with nx:=N,ct:=N,bk:=D.nx } σ2 H2):=by
 refine ⟨fun i m σ H=>m=xs.length - i/\i<=xs.length/\Pv i σ H,⟨xs.length,by simp,Nat.zero_le _,h0⟩,?_⟩
 intro i m σ H z9;obtain ⟨rfl,hi,p⟩ := z9
 have q:=hl i σ H hi p
 by_cases hlt:i < xs.length
 ·refine .inr ⟨⟨xs,xs[i],q,by simp [hlt]⟩,Pv (i+1),fun σ' H' p'=>⟨xs.length - (i+1),by omega,rfl,hlt,p'⟩,fun x H' y=>?_⟩
  obtain ⟨c,x,e,fr,e2,y⟩:=y
  subst e e2
  exact hs i x c σ _ (y xs q) p fr
 ·have e:i=xs.length:=by omega
  subst e
  exact .inl ⟨⟨xs,q,Nat.le_refl _⟩,hd σ H p⟩
section
variable {X:Cx} {e o a:Expr} {es:List Expr} {to te:TE} {t:TA} {apos pos:Pos}
theorem qs_aug {i:Nat} {x:Str} {op:Operator} {ti:TIp} {pos':Pos} (hN:X.N.Nodup) (hi:X.N[i]?=some x) (hx:Loc X.env.scope x) (ho:PIp X op ti) (he:QE X e te) (hf:X.fn x=true\/X.env.scope.names.lookup x=some .local:=by first | exact .inl rfl | exact .inr rfl | assumption) :
  QS X (.AugAssign (.Name x pos') op e pos) (tAug i te ti):=⟨ps_aug hN hi hx he.run ho hf⟩
theorem qgu9 {st:Stmt}:QS X st tNever:=⟨ps_never⟩
theorem qfn9 {sts:List Stmt}:QSs X sts tNever:=⟨pss_never⟩
theorem qhu9:QOp X (binaryOp .Add) rCat:=⟨op_cat⟩
theorem qiq9 (ho:QE X o to) (ha:QA X [e] t) (h:qbk9 e=true:=by rfl) (hbase:attributeBase o "extend" X.env (eval o X.env)=eval o X.env:=by rfl) (hline:(apos.endLine == pos.line)=true:=by rfl) :
  QE X (.Call (.Attribute o "extend" apos) [e] [] pos) (tBM X.K "list" rExtend to t) :=
 ⟨pe_bm PySem.F.plainAttrs_list PySem.F.slot_list_extend PySem.F.type_list_extend mt_extend ho.run ha.run hbase (by rw [se_of h]; rfl) hline (se_of h) rfl⟩
end
section
variable {lo:Int} {n:Nat} {caps:List (Option Nat)} {g:TG} {tt:TT} {te:TE} {σ:St} {H:Hp} {Q:VK}
theorem qov9 (Pv:Addr->Nat->Hp->Prop) (h0:∀ D,H D=none->Pv D 0 (upd H D (.lst [])))
  (hs:∀ D i H',H D=none->i < n->Pv D i H'->g (.int (lo+(i:Nat))) (seen caps σ) H' fun σ4 H4=>(∀ (k:Nat) v,(seen caps σ)[k]?=some (some v)->σ4[k]?=some (some v))/\tt σ4 H4 fun b H5 =>
   if b=true then te σ4 H5 fun y H6=>∃ ys,H6 D=some (.lst ys)/\ys.length < sizeLine/\Pv D (i+1) (upd H6 D (.lst (ys ++ [y]))) else Pv D (i+1) H5)
  (hd:∀ D H',H D=none->Pv D n H'->Q (.ref D) H'):cBody caps g tt te σ Q (Itr lo n) H:=by
 intro D hD
 refine ⟨fun i m H'=>m=n - i/\i<=n/\Pv D i H',⟨n,by simp,Nat.zero_le _,h0 D hD⟩,?_⟩
 intro i m H2 z9;obtain ⟨rfl,hi,p⟩ := z9
 by_cases hlt:i < n
 ·refine .inr ⟨hlt,Pv D (i+1),fun H' p'=>⟨n - (i+1),by omega,rfl,hlt,p'⟩,fun x H3 y=>?_⟩
  obtain ⟨e,y⟩:=y
  subst e y
  exact hs D i _ hD hlt p
 ·have e:i=n:=by omega
  subst e
  exact .inl ⟨Nat.le_refl _,hd D H2 hD p⟩
theorem qhw9 (Pv:Addr->Nat->Hp->Prop) (h0:∀ D,H D=none->Pv D 0 (upd H D (.lst [])))
  (hs:∀ D i H',H D=none->i < n->Pv D i H'->g (.int (lo+(i:Nat))) (seen caps σ) H' fun σ4 H4=>(∀ (k:Nat) v,(seen caps σ)[k]?=some (some v)->σ4[k]?=some (some v)) /\
   te σ4 H4 fun y H6=>∃ ys,H6 D=some (.lst ys)/\ys.length < sizeLine/\Pv D (i+1) (upd H6 D (.lst (ys ++ [y]))))
  (hd:∀ D H',H D=none->Pv D n H'->Q (.ref D) H'):cBody caps g tTrue te σ Q (Itr lo n) H:=qov9 Pv h0 hs hd
end
section
variable {X:Cx} {tg:Expr}
end
section
variable {X:Cx} {N':List Str} {scope:Scope} {cl:List (Str × Addr)} {caps:List (Option Nat)} {tg iter elt:Expr} {wi:TI} {g:TG} {te:TE} {tt:TT} {pos:Pos}
end
section
variable {X:Cx}
end
end L2
namespace My
open PySem L2
def Tup3 (H:Hp) (r:Addr) (a b c:Int):Prop:=H r=some (.tup [.int a,.int b,.int c])
theorem qan9 {H:Hp} {p:Addr} (h:H p=none) (o:HO):Same H (upd H p o):=fun b u q=>by rw [qaq9 (qbb9 q h)]; exact q
theorem qny9 {H H':Hp} {p:Addr} {o:HO} (hp:H p=none) (hg:upd H p o=H'):Same H H'/\H' p=some o:=by
 subst hg
 exact ⟨qan9 hp o,qaf9⟩
theorem at_int {ns:List Int} {k:Int} (h0:0<=k) (h:k < (ns.length:Int)):∃ v:Int,atI (ns.map V.int) k=some (.int v):=by
 have hk:k.toNat < ns.length:=by omega
 have ek:k=((k.toNat:Nat):Int):=by omega
 have q:atI (ns.map V.int) ((k.toNat:Nat):Int)=some (.int ns[k.toNat]):=qgr9 (by rw [List.getElem?_map,List.getElem?_eq_getElem hk] <;> rfl)
 rw [<- ek] at q
 exact ⟨_,q⟩
theorem iteP {c A B:Prop} [Decidable c] (h:c) (x:A):if c then A else B:=by
 rw [if_pos h]
 exact x
theorem iteN {c A B:Prop} [Decidable c] (h:¬ c) (x:B):if c then A else B:=by
 rw [if_neg h]
 exact x
theorem day6 {c j:Int} (hc:1<=c/\c<=1000000000000000) (h0:0<=j) (h1:j < 6):∃ v:Int,atI [V.int 1,V.int 2,V.int 3,V.int 24,V.int 1440,V.int c] j=some (.int v)/\1<=v/\v<=1000000000000000:=by
 rcases (by omega:j=0\/j=1\/j=2\/j=3\/j=4\/j=5) with rfl | rfl | rfl | rfl | rfl | rfl
 ·exact ⟨1,rfl,by decide,by decide⟩
 ·exact ⟨2,rfl,by decide,by decide⟩
 ·exact ⟨3,rfl,by decide,by decide⟩
 ·exact ⟨24,rfl,by decide,by decide⟩
 ·exact ⟨1440,rfl,by decide,by decide⟩
 ·exact ⟨c,rfl,hc.1,hc.2⟩
theorem pow15:((10:Int) ^ (15:Int).toNat)=1000000000000000:=by decide +kernel
theorem pow20:((10:Int) ^ (20:Int).toNat)=100000000000000000000:=by decide +kernel
def spCell (K:W.Frag):Sp:=fun vs H Q _=>∃ (a:Addr) (ns:List Int) (k:Int),vs=[.ref a,.int k]/\SqL K H a (ns.map V.int)/\0<=k/\∀ c:Int,Q (.int c) H
def spDay:Sp:=fun vs H Q _=>∃ c:Int,vs=[.int c]/\∀ (d:Int) (H':Hp),1<=d->d<=1000000000000000->Same H H'->Q (.int d) H'
open Ma (T3 rA rB rC)
def tup3 (R:List T3) (i:Nat):HO:=.tup [.int (rA R i),.int (rB R i),.int (rC R i)]
structure RowsAt (H:Hp) (p:Addr) (R:List T3):Prop where
 ex:∃ rs:List Addr,H p=some (.lst (rs.map V.ref))/\rs.length=R.length/\∀ (i:Nat) r,rs[i]?=some r->H r=some (tup3 R i)
theorem RowsAt.mono {H H':Hp} {p:Addr} {R:List T3} (h:RowsAt H p R) (s:∀ b o,H b=some o->(∀ z,o ≠ .tbl z)->H' b=some o):RowsAt H' p R:=by
 obtain ⟨rs,h1,h2,h3⟩:=h.ex
 exact ⟨rs,s _ _ h1 (fun _ z=>nomatch z),h2,fun i r e=>s _ _ (h3 i r e) (fun _ z=>nomatch z)⟩
theorem RowsAt.at {K:W.Frag} {H:Hp} {p:Addr} {R:List T3} (h:RowsAt H p R):∃ xs:List V,SqL K H p xs/\xs.length=R.length/\∀ k:Int,0<=k->k < (R.length:Int)->∃ r,atI xs k=some (.ref r)/\H r=some (tup3 R k.toNat):=by
 obtain ⟨rs,h1,h2,h3⟩:=h.ex
 refine ⟨rs.map V.ref,SqL.of h1,by rw [List.length_map,h2],fun k k0 k1=>?_⟩
 have hk:k.toNat < rs.length:=by omega
 have ek:k=((k.toNat:Nat):Int):=by omega
 have q:atI (rs.map V.ref) ((k.toNat:Nat):Int)=some (.ref rs[k.toNat]):=qgr9 (by rw [List.getElem?_map]; simp [hk])
 rw [<- ek] at q
 exact ⟨rs[k.toNat],q,h3 _ _ (List.getElem?_eq_getElem hk)⟩
theorem map_ref {rs:List Addr} {i:Nat} {y:V} (h:(rs.map V.ref)[i]?=some y):∃ r,y=V.ref r/\rs[i]?=some r:=by
 rw [List.getElem?_map] at h
 cases e:rs[i]? with
 | none=>rw [e] at h; cases h
 | some z=>rw [e] at h; exact ⟨z,(Option.some.inj h).symm,rfl⟩
theorem qma9 {H:Hp} {P:Addr} {pos:Pos} {q:Str} (h:H P=some (.tbl #[])):TabOk H P pos q:=⟨#[],h,trivial,.inl rfl⟩
structure LA {α:Type} (enc:α->List V) (H:Hp) (p:Addr) (xs:List α):Prop where
 ex:∃ rs:List Addr,H p=some (.lst (rs.map V.ref))/\rs.length=xs.length/\∀ (i:Nat) r x,rs[i]?=some r->xs[i]?=some x->H r=some (.tup (enc x))
section
variable {α:Type} {enc:α->List V} {H H':Hp} {p q r:Addr} {xs ys:List α} {vs ws:List V}
theorem LA.nil (h:H p=some (.lst [])):LA enc H p []:=⟨[],h,rfl,fun i r x e=>by cases i <;> cases e⟩
theorem LA.mono (h:LA enc H p xs) (s:∀ b o,H b=some o->(∀ z,o ≠ .tbl z)->H' b=some o):LA enc H' p xs:=by
 obtain ⟨rs,h1,h2,h3⟩:=h.ex
 exact ⟨rs,s _ _ h1 (fun _ z=>nomatch z),h2,fun i r x e e'=>s _ _ (h3 i r x e e') (fun _ z=>nomatch z)⟩
theorem LA.same (h:LA enc H p xs) (s:Same H H'):LA enc H' p xs:=h.mono fun b o e _=>s b o e
theorem LA.lst (h:LA enc H p xs):∃ vs,H p=some (.lst vs)/\vs.length=xs.length/\∀ (i:Nat) y,vs[i]?=some y->∃ r x,y=.ref r/\xs[i]?=some x/\H r=some (.tup (enc x)):=by
 obtain ⟨rs,h1,h2,h3⟩:=h.ex
 refine ⟨_,h1,by rw [List.length_map,h2],fun i y e=>?_⟩
 obtain ⟨r,rfl,er⟩:=map_ref e
 have hi:i < xs.length:=by
  have:=(List.getElem?_eq_some_iff.mp er).1
  omega
 exact ⟨r,xs[i],rfl,List.getElem?_eq_getElem hi,h3 i r _ er (List.getElem?_eq_getElem hi)⟩
theorem LA.of (h:H p=some (.lst vs)) (l:vs.length=xs.length) (g:∀ (i:Nat) y,vs[i]?=some y->∃ r,y=.ref r/\∀ x,xs[i]?=some x->H r=some (.tup (enc x))):LA enc H p xs:=by
 have go:∀ (vs:List V),(∀ (i:Nat) y,vs[i]?=some y->∃ r,y=V.ref r)->∃ rs:List Addr,vs=rs.map V.ref:=by
  intro vs
  induction vs with
  | nil=>intro _; exact ⟨[],rfl⟩
  | cons v vs ih =>
   intro g
   obtain ⟨r,e⟩:=g 0 v rfl
   obtain ⟨rs,e2⟩:=ih fun i y e=>g (i+1) y (by simpa using e)
   exact ⟨r :: rs,by rw [e,e2]; rfl⟩
 obtain ⟨rs,e⟩:=go vs fun i y e=>by
  obtain ⟨r,e1,_⟩:=g i y e
  exact ⟨r,e1⟩
 subst e
 refine ⟨rs,h,by rw [List.length_map] at l; exact l,fun i r x e1 e2=>?_⟩
 obtain ⟨r',e3,e4⟩:=g i (.ref r) (by rw [List.getElem?_map,e1]; rfl)
 cases e3
 exact e4 x e2
theorem LA.append {x:α} (h:LA enc H p xs) (hx:H p=some (.lst vs)) (hr:H r=some (.tup (enc x))):LA enc (upd H p (.lst (vs ++ [.ref r]))) p (xs ++ [x]):=by
 obtain ⟨vs',h1,h2,h3⟩:=h.lst
 rw [h1] at hx
 cases hx
 have ne:∀ q (ys:List V),H q=some (.tup ys)->q ≠ p:=fun q ys e z=>by rw [z,h1] at e; cases e
 refine LA.of qaf9 (by simp [h2]) fun i y e=>?_
 rcases (by omega:i < vs.length\/vs.length<=i) with hi | hi
 ·rw [List.getElem?_append_left hi] at e
  obtain ⟨r',x',e1,e2,e3⟩:=h3 i y e
  refine ⟨r',e1,fun x2 e4=>?_⟩
  rw [List.getElem?_append_left (by omega),e2] at e4
  cases e4
  rw [qaq9 (ne r' _ e3)]
  exact e3
 ·rw [List.getElem?_append_right hi] at e
  have ei:i - vs.length=0:=by
   have:=(List.getElem?_eq_some_iff.mp e).1
   simp at this
   omega
  rw [ei] at e
  have e':V.ref r=y:=by simpa using e
  refine ⟨r,e'.symm,fun x2 e4=>?_⟩
  rw [List.getElem?_append_right (by omega),show i - xs.length=0 by omega] at e4
  have e5:x=x2:=by simpa using e4
  subst e5
  rw [qaq9 (ne r _ hr)]
  exact hr
theorem LA.extend (h:LA enc H p xs) (h':LA enc H q ys) (hx:H p=some (.lst vs)) (hy:H q=some (.lst ws)):LA enc (upd H p (.lst (vs ++ ws))) p (xs ++ ys):=by
 obtain ⟨vs',h1,h2,h3⟩:=h.lst
 obtain ⟨ws',k1,k2,k3⟩:=h'.lst
 rw [h1] at hx
 cases hx
 rw [k1] at hy
 cases hy
 have ne:∀ q (ys:List V),H q=some (.tup ys)->q ≠ p:=fun q ys e z=>by rw [z,h1] at e; cases e
 refine LA.of qaf9 (by simp [h2,k2]) fun i y e=>?_
 rcases (by omega:i < vs.length\/vs.length<=i) with hi | hi
 ·rw [List.getElem?_append_left hi] at e
  obtain ⟨r',x',e1,e2,e3⟩:=h3 i y e
  refine ⟨r',e1,fun x2 e4=>?_⟩
  rw [List.getElem?_append_left (by omega),e2] at e4
  cases e4
  rw [qaq9 (ne r' _ e3)]
  exact e3
 ·rw [List.getElem?_append_right hi] at e
  obtain ⟨r',x',e1,e2,e3⟩:=k3 _ y e
  refine ⟨r',e1,fun x2 e4=>?_⟩
  rw [List.getElem?_append_right (by omega),show i - xs.length=i - vs.length by omega,e2] at e4
  cases e4
  rw [qaq9 (ne r' _ e3)]
  exact e3
theorem LA.cat (h:LA enc H p xs) (h':LA enc H q ys) (hx:H p=some (.lst vs)) (hy:H q=some (.lst ws)) (hr:H r=none):LA enc (upd H r (.lst (vs ++ ws))) r (xs ++ ys):=by
 obtain ⟨vs',h1,h2,h3⟩:=h.lst
 obtain ⟨ws',k1,k2,k3⟩:=h'.lst
 rw [h1] at hx
 cases hx
 rw [k1] at hy
 cases hy
 have ne:∀ q o,H q=some o->q ≠ r:=fun q o e=>qbb9 e hr
 refine LA.of qaf9 (by simp [h2,k2]) fun i y e=>?_
 rcases (by omega:i < vs.length\/vs.length<=i) with hi | hi
 ·rw [List.getElem?_append_left hi] at e
  obtain ⟨r',x',e1,e2,e3⟩:=h3 i y e
  refine ⟨r',e1,fun x2 e4=>?_⟩
  rw [List.getElem?_append_left (by omega),e2] at e4
  cases e4
  rw [qaq9 (ne r' _ e3)]
  exact e3
 ·rw [List.getElem?_append_right hi] at e
  obtain ⟨r',x',e1,e2,e3⟩:=k3 _ y e
  refine ⟨r',e1,fun x2 e4=>?_⟩
  rw [List.getElem?_append_right (by omega),show i - xs.length=i - vs.length by omega,e2] at e4
  cases e4
  rw [qaq9 (ne r' _ e3)]
  exact e3
theorem LA.setAt {x:α} {j:Nat} (h:LA enc H p xs) (hx:H p=some (.lst vs)) (hr:H r=some (.tup (enc x))):LA enc (upd H p (.lst (vs.set j (.ref r)))) p (xs.set j x):=by
 obtain ⟨vs',h1,h2,h3⟩:=h.lst
 rw [h1] at hx
 cases hx
 have ne:∀ q (ys:List V),H q=some (.tup ys)->q ≠ p:=fun q ys e z=>by rw [z,h1] at e; cases e
 refine LA.of qaf9 (by simp [h2]) fun i y e=>?_
 rw [List.getElem?_set] at e
 by_cases c:j=i
 ·rw [if_pos c] at e
  split at e
  ·have e':V.ref r=y:=by simpa using e
   refine ⟨r,e'.symm,fun x2 e4=>?_⟩
   rw [List.getElem?_set,if_pos c] at e4
   split at e4
   ·have e5:x=x2:=by simpa using e4
    subst e5
    rw [qaq9 (ne r _ hr)]
    exact hr
   ·cases e4
  ·cases e
 ·rw [if_neg c] at e
  obtain ⟨r',x',e1,e2,e3⟩:=h3 i y e
  refine ⟨r',e1,fun x2 e4=>?_⟩
  rw [List.getElem?_set,if_neg c,e2] at e4
  cases e4
  rw [qaq9 (ne r' _ e3)]
  exact e3
theorem LA.copy (h:LA enc H p xs) (s:Same H H') (hx:H p=some (.lst vs)) (e:H' q=some (.lst vs)):LA enc H' q xs:=by
 obtain ⟨rs,h1,h2,h3⟩:=h.ex
 rw [h1] at hx
 cases hx
 exact ⟨rs,e,h2,fun i r x e1 e2=>s _ _ (h3 i r x e1 e2)⟩
theorem LA.at {K:W.Frag} (h:LA enc H p xs):∃ vs:List V,H p=some (.lst vs)/\vs.length=xs.length/\∀ (k:Nat) x,xs[k]?=some x->∃ r,atI vs (k:Int)=some (.ref r)/\H r=some (.tup (enc x)):=by
 obtain ⟨vs,h1,h2,h3⟩:=h.lst
 refine ⟨vs,h1,h2,fun k x e=>?_⟩
 have hk:k < vs.length:=by
  have:=(List.getElem?_eq_some_iff.mp e).1
  omega
 obtain ⟨r,x',e1,e2,e3⟩:=h3 k _ (List.getElem?_eq_getElem hk)
 rw [e] at e2
 cases e2
 exact ⟨r,qgr9 (by rw [List.getElem?_eq_getElem hk,e1]),e3⟩
end
theorem qnx9 {vs:List V} (h:vs ≠ []):atI vs (-1)=vs[vs.length - 1]?:=by
 have hl:0 < vs.length:=List.length_pos_iff.mpr h
 unfold atI ixN
 rw [if_neg (by omega),if_pos (by omega)]
 show vs[(-1+(vs.length:Int)).toNat]?=_
 congr 1
 omega
section
variable {α:Type} {D:α->PyData}
theorem qjq9 [DecidableEq α] (hD:∀ x y,PyData.eqv (D x) (D y)=decide (x=y)):∀ xs ys:List α,PyData.eqvAll (xs.map D) (ys.map D)=decide (xs=ys)
 | [],[]=>by simp [PyData.eqvAll]
 | [],y :: ys=>by simp [PyData.eqvAll]
 | x :: xs,[]=>by simp [PyData.eqvAll]
 | x :: xs,y :: ys=>by
  have ih:=qjq9 hD xs ys
  simp only [List.map_cons,PyData.eqvAll,ih,hD]
  by_cases c:x=y <;> by_cases c':xs=ys <;> simp [c,c']
theorem qft9 [DecidableEq α] (hD:∀ x y,PyData.eqv (D x) (D y)=decide (x=y)) (xs ys:List α):PyData.eqv (.list (xs.map D)) (.list (ys.map D))=decide (xs=ys):=by
 simp only [PyData.eqv]
 exact qjq9 hD xs ys
theorem qgk9 (h:∀ x,PyData.canLay0 (D x)=true):∀ xs:List α,PyData.canLayAll0 (xs.map D)=true
 | []=>by simp [PyData.canLayAll0]
 | x :: xs=>by
  have:=qgk9 h xs
  simp [PyData.canLayAll0,h,this]
theorem qin9 {n:Nat} (h:∀ x,PyData.depth (D x)<=n):∀ xs:List α,PyData.depthAll (xs.map D)<=n
 | []=>by simp [PyData.depthAll]
 | x :: xs=>by
  have:=qin9 h xs
  have:=h x
  simp only [List.map_cons,PyData.depthAll]
  omega
theorem qen9 {n:Nat} (h:∀ x,PyData.canLay0 (D x)=true) (h2:∀ x,PyData.depth (D x)<=n) (hn:n<=60) (xs:List α):SeqAt.shaped (.list (xs.map D))=true:=by
 have h3:=qin9 h2 xs
 show (PyData.canLay0 (.list (xs.map D)) && decide (PyData.depth (.list (xs.map D))<=64))=true
 rw [Bool.and_eq_true]
 exact ⟨by simp only [PyData.canLay0]; exact qgk9 h xs,decide_eq_true (by simp only [PyData.depth]; omega)⟩
theorem LA.rd {K:W.Frag} {enc:α->List V} {ds:α->List PyData} {H:Hp} {p:Addr} {xs:List α} (h:LA enc H p xs) (hd:∀ x,RdAll K H (enc x) (ds x)):RdV K H (.ref p) (.list (xs.map fun x=>.tuple (ds x))):=by
 obtain ⟨rs,h1,h2,h3⟩:=h.ex
 refine .lst (SqL.of h1) ?_
 have go:∀ (rs:List Addr) (xs:List α),rs.length=xs.length->(∀ (i:Nat) r x,rs[i]?=some r->xs[i]?=some x->H r=some (.tup (enc x)))->RdAll K H (rs.map V.ref) (xs.map fun x=>.tuple (ds x)):=by
  intro rs
  induction rs with
  | nil =>
   intro xs hl _
   cases xs with
   | nil=>exact .nil
   | cons x xs=>cases hl
  | cons r rs ih =>
   intro xs hl g
   cases xs with
   | nil=>cases hl
   | cons x xs=>exact .cons (.tup (SqT.of (g 0 r x rfl rfl)) (hd x)) (ih xs (by simpa using hl) fun i r' x' e1 e2=>g (i+1) r' x' (by simpa using e1) (by simpa using e2))
 exact go rs xs h2 h3
end
open Ma (T4)
def enc3 (t:T3):List V:=[.int t.1,.int t.2.1,.int t.2.2]
def enc4 (t:T4):List V:=[.int t.1,.int t.2.1,.bl t.2.2.1,.int t.2.2.2]
def dat3 (t:T3):PyData:=.tuple [.int t.1,.int t.2.1,.int t.2.2]
theorem eqv3 (x y:T3):PyData.eqv (dat3 x) (dat3 y)=decide (x=y):=by
 obtain ⟨a,b,c⟩:=x
 obtain ⟨a',b',c'⟩:=y
 simp only [dat3,PyData.eqv,PyData.eqvAll,Prod.mk.injEq]
 by_cases c1:a=a' <;> by_cases c2:b=b' <;> by_cases c3:c=c' <;> simp [c1,c2,c3]
theorem shaped3 (xs:List T3):SeqAt.shaped (.list (xs.map dat3))=true:=qen9 (n:=2) (fun x=>by simp [dat3,PyData.canLay0,PyData.canLayAll0]) (fun x=>by simp [dat3,PyData.depth,PyData.depthAll]) (by decide) xs
section
variable {K:W.Frag} {H H':Hp} {p:Addr} {R:List T3}
theorem rd3 (h:LA enc3 H p R):RdV K H (.ref p) (.list (R.map dat3)):=h.rd fun x=>.cons (.int _) (.cons (.int _) (.cons (.int _) .nil))
theorem LA.rows (h:LA enc3 H p R):RowsAt H p R:=by
 obtain ⟨rs,h1,h2,h3⟩:=h.ex
 refine ⟨rs,h1,h2,fun i r e1=>?_⟩
 have hi:i < R.length:=by
  have:=(List.getElem?_eq_some_iff.mp e1).1
  omega
 exact h3 i r _ e1 (Ma.r_at hi)
end
inductive Dv (H:Hp):V->Prop
 | non:Dv H .non
 | bl (b:Bool):Dv H (.bl b)
 | int (i:Int):Dv H (.int i)
 | str (x:Str):Dv H (.str x)
 | lst {a:Addr} {xs:List V}:H a=some (.lst xs)->Dv H (.ref a)
 | tup {a:Addr} {xs:List V}:H a=some (.tup xs)->Dv H (.ref a)
def isWh:V->Bool
 | .int _=>true
 | _=>false
def tupV (H:Hp):V->Option (List V)
 | .ref a=>match H a with
  | some (.tup xs)=>some xs
  | _=>none
 | _=>none
def lstV (H:Hp):V->Option (List V)
 | .ref a=>match H a with
  | some (.lst xs)=>some xs
  | _=>none
 | _=>none
theorem qpv9 {H:Hp} {a:Addr} {xs:List V} (h:H a=some (.tup xs)):tupV H (.ref a)=some xs:=by simp [tupV,h]
theorem qln9 {H:Hp} {a:Addr} {xs:List V} (h:H a=some (.lst xs)):lstV H (.ref a)=some xs:=by simp [lstV,h]
theorem qji9 {H:Hp} {x:V} {xs:List V} (h:tupV H x=some xs):∃ a,x=.ref a/\H a=some (.tup xs):=by
 unfold tupV at h
 split at h
 ·rename_i a
  split at h
  ·rename_i ys e
   cases h
   exact ⟨a,rfl,e⟩
  ·cases h
 ·cases h
theorem qit9 {H:Hp} {x:V} {xs:List V} (h:lstV H x=some xs):∃ a,x=.ref a/\H a=some (.lst xs):=by
 unfold lstV at h
 split at h
 ·rename_i a
  split at h
  ·rename_i ys e
   cases h
   exact ⟨a,rfl,e⟩
  ·cases h
 ·cases h
section
variable {H H':Hp} {x:V}
theorem Dv.same (h:Dv H x) (s:Same H H'):Dv H' x:=by
 cases h with
 | non=>exact .non
 | bl b=>exact .bl b
 | int i=>exact .int i
 | str x=>exact .str x
 | lst e=>exact .lst (s _ _ e)
 | tup e=>exact .tup (s _ _ e)
theorem Dv.tupV_same (h:Dv H x) (s:Same H H'):tupV H' x=tupV H x:=by
 cases h with
 | non=>rfl
 | bl b=>rfl
 | int i=>rfl
 | str x=>rfl
 | lst e=>simp [tupV,e,s _ _ e]
 | tup e=>simp [tupV,e,s _ _ e]
theorem Dv.lstV_same (h:Dv H x) (s:Same H H'):lstV H' x=lstV H x:=by
 cases h with
 | non=>rfl
 | bl b=>rfl
 | int i=>rfl
 | str x=>rfl
 | lst e=>simp [lstV,e,s _ _ e]
 | tup e=>simp [lstV,e,s _ _ e]
theorem Dv.isTup {K:W.Frag} (h:Dv H x):∃ t,TyOf K H x t/\W.kitOne K t (.type "tuple")=some (tupV H x).isSome:=by
 cases h with
 | non=>exact ⟨_,.non,rfl⟩
 | bl b=>exact ⟨_,.bl b,rfl⟩
 | int i=>exact ⟨_,.int i,rfl⟩
 | str x=>exact ⟨_,.str x,rfl⟩
 | lst e=>exact ⟨_,.lst e,by simp only [tupV,e]; rfl⟩
 | tup e=>exact ⟨_,.tup e,by simp only [tupV,e]; rfl⟩
theorem Dv.isLst {K:W.Frag} (h:Dv H x):∃ t,TyOf K H x t/\W.kitOne K t (.type "list")=some (lstV H x).isSome:=by
 cases h with
 | non=>exact ⟨_,.non,rfl⟩
 | bl b=>exact ⟨_,.bl b,rfl⟩
 | int i=>exact ⟨_,.int i,rfl⟩
 | str x=>exact ⟨_,.str x,rfl⟩
 | lst e=>exact ⟨_,.lst e,by simp only [lstV,e]; rfl⟩
 | tup e=>exact ⟨_,.tup e,by simp only [lstV,e]; rfl⟩
end
def Dv2 (H:Hp) (x:V):Prop:=Dv H x/\∀ zs,tupV H x=some zs->∀ z∈zs,Dv H z
theorem Dv2.same {H H':Hp} {x:V} (h:Dv2 H x) (s:Same H H'):Dv2 H' x:=⟨h.1.same s,fun zs e z hz=>(h.2 zs (by rw [<- h.1.tupV_same s]; exact e) z hz).same s⟩
def winL (day:Int):List V->Bool
 | [.int a,.int b,.int c]=>decide (0<=a) && (decide (a<=b) && (decide (b < day) && decide (0<=c)))
 | _=>false
def winV (H:Hp) (day:Int) (x:V):Bool:=match tupV H x with
 | some xs=>winL day xs
 | none=>false
theorem Dv.winV_same {H H':Hp} {x:V} (h:Dv H x) (s:Same H H') (day:Int):winV H' day x=winV H day x:=by
 unfold winV
 rw [h.tupV_same s]
def qek9 (H:Hp) (day:Int) (x:V):Bool:=match lstV H x with
 | some xs=>xs.all (winV H day)
 | none=>false
def qez9:Sp:=fun vs H Q _=>∃ x:V,vs=[x]/\Dv H x/\Q (.bl (isWh x)) H
def qom9:Sp:=fun vs H Q _=>∃ (day:Int) (x:V),vs=[.int day,x]/\Dv2 H x/\∀ H',Same H H'->Q (.bl (winV H day x)) H'
def Dv3 (H:Hp) (x:V):Prop:=Dv H x/\∀ xs,lstV H x=some xs->xs.length<=1000/\∀ y∈xs,Dv2 H y
def qpt9:Sp:=fun vs H Q _=>∃ (day:Int) (x:V),vs=[.int day,x]/\Dv3 H x/\∀ H',Same H H'->Q (.bl (qek9 H day x)) H'
theorem qet9 {α β:Type} {xs:List α} {i:Nat} {y:α} (f:α->β) (h:xs[i]?=some y):(xs.take (i+1)).map f=(xs.take i).map f ++ [f y]:=by
 rw [List.take_add_one,h,List.map_append]
 rfl
theorem three {α:Type}:∀ {xs:List α},xs.length=3->∃ u v w,xs=[u,v,w]
 | [u,v,w],_=>⟨u,v,w,rfl⟩
theorem qha9 {x:V} (h:isWh x=true):∃ i,x=.int i:=by
 cases x <;> first | exact ⟨_,rfl⟩ | cases h
inductive Ev (H:Hp):Nat->V->Prop
 | non {n:Nat}:Ev H n .non
 | bl {n:Nat} (b:Bool):Ev H n (.bl b)
 | int {n:Nat} (i:Int):Ev H n (.int i)
 | str {n:Nat} {x:Str}:PyData.strOk x=true->Ev H n (.str x)
 | lst {n:Nat} {a:Addr} {xs:List V}:H a=some (.lst xs)->(∀ y∈xs,Ev H n y)->Ev H (n+1) (.ref a)
 | tup {n:Nat} {a:Addr} {xs:List V}:H a=some (.tup xs)->(∀ y∈xs,Ev H n y)->Ev H (n+1) (.ref a)
theorem Ev.dv {H:Hp} {n:Nat} {x:V} (h:Ev H n x):Dv H x:=by
 cases h with
 | non=>exact .non
 | bl b=>exact .bl b
 | int i=>exact .int i
 | str h=>exact .str _
 | lst e _=>exact .lst e
 | tup e _=>exact .tup e
theorem Ev.parts {H:Hp} {n:Nat} {x:V} {zs:List V} (h:Ev H (n+1) x) (e:tupV H x=some zs):∀ z∈zs,Ev H n z:=by
 obtain ⟨a,rfl,ea⟩:=qji9 e
 cases h with
 | lst e2 _=>rw [ea] at e2; cases e2
 | tup e2 p=>rw [ea] at e2; cases e2; exact p
theorem Ev.items {H:Hp} {n:Nat} {x:V} {zs:List V} (h:Ev H (n+1) x) (e:lstV H x=some zs):∀ z∈zs,Ev H n z:=by
 obtain ⟨a,rfl,ea⟩:=qit9 e
 cases h with
 | tup e2 _=>rw [ea] at e2; cases e2
 | lst e2 p=>rw [ea] at e2; cases e2; exact p
theorem Ev.d2 {H:Hp} {n:Nat} {x:V} (h:Ev H (n+1) x):Dv2 H x:=⟨h.dv,fun zs e z hz=>(h.parts e z hz).dv⟩
theorem Ev.d3 {H:Hp} {n:Nat} {x:V} (h:Ev H (n+2) x) (l:∀ zs,lstV H x=some zs->zs.length<=1000):Dv3 H x:=⟨h.dv,fun zs e=>⟨l zs e,fun z hz=>(h.items e z hz).d2⟩⟩
theorem qpi9 (ds:List PyData):PyData.eqv (.list ds) (.list [])=decide (ds.length=0):=by
 cases ds with
 | nil=>simp [PyData.eqv,PyData.eqvAll]
 | cons t r=>simp [PyData.eqv,PyData.eqvAll]
theorem qna9:SeqAt.shaped (.list [])=true:=by simp [SeqAt.shaped,PyData.canLay0,PyData.canLayAll0,PyData.depth,PyData.depthAll]
theorem Same.seqT {K:W.Frag} {H H':Hp} {a:Addr} {xs:List V} (e:Same H H') (h:SqT K H a xs):SqT K H' a xs:=by
 rcases h with (h | ⟨o,h⟩) | h
 ·exact .inl (.inl (e _ _ h))
 ·exact .inl (.inr ⟨o,e _ _ h⟩)
 ·exact .inr h
mutual
theorem rdv_same {K:W.Frag} {H H':Hp} (s:Same H H'):∀ {x:V} {d:PyData},RdV K H x d->RdV K H' x d
 | _,_,.non=>.non
 | _,_,.bl b=>.bl b
 | _,_,.int i=>.int i
 | _,_,.str x=>.str x
 | _,_,.lst h a=>.lst (s.seq h) (qkz9 s a)
 | _,_,.tup h a=>.tup (Same.seqT s h) (qkz9 s a)
theorem qkz9 {K:W.Frag} {H H':Hp} (s:Same H H'):∀ {xs:List V} {ds:List PyData},RdAll K H xs ds->RdAll K H' xs ds
 | _,_,.nil=>.nil
 | _,_,.cons h1 h2=>.cons (rdv_same s h1) (qkz9 s h2)
end
def optV:Option Int->V
 | none=>.non
 | some y=>.int y
theorem qbo9 {n:Nat} (h:n<=16000000):n < sizeLine:=by
 have e:sizeLine=16777216:=by decide +kernel
 omega
theorem qcs9 {H H1:Hp} {p:Addr} {o:HO} (hp:H p=none) (s:Same H H1):Same H (upd H1 p o):=fun b u e=>by
 rw [qaq9 (qbb9 e hp)]
 exact s _ _ e
theorem SameT.trans {P:Addr} {H H1 H2:Hp} (a:SameT P H H1) (b:SameT P H1 H2):SameT P H H2:=fun c o e n=>b c o (a c o e n) n
theorem SameT.same {P:Addr} {H H1:Hp} (a:Same H H1):SameT P H H1:=fun c o e _=>a c o e
def SameU (H H':Hp):Prop:=(∀ b o,H b=some o->(∀ z,o ≠ .tbl z)->H' b=some o)/\∀ b o,H b=some o->∃ o',H' b=some o'
theorem SameU.refl (H:Hp):SameU H H:=⟨fun _ _ e _=>e,fun _ o e=>⟨o,e⟩⟩
theorem SameU.trans {H H1 H2:Hp} (a:SameU H H1) (b:SameU H1 H2):SameU H H2:=⟨fun c o e n=>b.1 c o (a.1 c o e n) n,fun c o e=>by
 obtain ⟨o1,e1⟩:=a.2 c o e
 exact b.2 c o1 e1⟩
theorem SameU.of {H H1:Hp} (a:Same H H1):SameU H H1:=⟨fun c o e _=>a c o e,fun c o e=>⟨o,a c o e⟩⟩
theorem SameU.tab {H H1:Hp} {P:Addr} {pos pos':Pos} {q q':Str} (a:SameT P H H1) (t:TabOk H P pos q) (t':TabOk H1 P pos' q'):SameU H H1:=⟨fun c o e n=>a c o e fun z=>by
 obtain ⟨ps,hp,_⟩:=t
 rw [z,hp] at e
 exact n ps (Option.some.inj e).symm,fun c o e=>by
 by_cases z:c=P
 ·obtain ⟨ps,hp,_⟩:=t'
  exact ⟨_,by rw [z]; exact hp⟩
 ·exact ⟨o,a c o e z⟩⟩
theorem SameU.free {H H1:Hp} {p:Addr} (a:SameU H H1) (h:H1 p=none):H p=none:=by
 cases e:H p with
 | none=>rfl
 | some o =>
  obtain ⟨o',e'⟩:=a.2 p o e
  rw [h] at e'
  cases e'
theorem SameU.lst {H H1:Hp} {p:Addr} {xs:List V} (a:SameU H H1) (e:H p=some (.lst xs)):H1 p=some (.lst xs):=a.1 _ _ e fun _ z=>nomatch z
theorem SameU.tup {H H1:Hp} {p:Addr} {xs:List V} (a:SameU H H1) (e:H p=some (.tup xs)):H1 p=some (.tup xs):=a.1 _ _ e fun _ z=>nomatch z
theorem SameU.wr {H H1:Hp} {p:Addr} {o:HO} (hp:H p=none) (s:SameU H H1):SameU H (upd H1 p o):=⟨fun b u e n=>by
 rw [qaq9 (qbb9 e hp)]
 exact s.1 _ _ e n,fun b u e=>by
 rw [qaq9 (qbb9 e hp)]
 exact s.2 _ _ e⟩
theorem LA.u {α:Type} {enc:α->List V} {H H':Hp} {p:Addr} {xs:List α} (h:LA enc H p xs) (s:SameU H H'):LA enc H' p xs:=h.mono s.1
theorem Callee.imp {P:Program} {w:World} {K:W.Frag} {mg:Str->Option Value} {base:Heap} {k:Nat} {x:Str} {ps:List Str} {sp sp':Sp} (C:Callee P w K mg base k x ps sp) (h:∀ vs H Q E,sp' vs H Q E->sp vs H Q E):Callee P w K mg base k x ps sp':=by
 obtain ⟨f,fd,G,b,kp,m⟩:=C.ex
 exact ⟨f,fd,G.imp h,b,kp,m⟩
structure TB (T:Hp->Prop):Prop where
 same:∀ H H',T H->Same H H'->T H'
 wr:∀ H p xs ys,T H->H p=some (.lst xs)->T (upd H p (.lst ys))
section
variable {H H':Hp} {p:Addr} {R:List T3} {d:Int}
theorem la_mem {y:V} {vs:List V} (h:LA enc3 H p R) (hv:H p=some (.lst vs)) (hy:y∈vs):∃ r x,y=.ref r/\x∈R/\H r=some (.tup (enc3 x)):=by
 obtain ⟨vs',h1,h2,h3⟩:=h.lst
 rw [h1] at hv
 cases hv
 obtain ⟨i,hi⟩:=List.getElem?_of_mem hy
 obtain ⟨r,x,e1,e2,e3⟩:=h3 i y hi
 exact ⟨r,x,e1,List.mem_of_getElem? e2,e3⟩
theorem la_ev (h:LA enc3 H p R):Ev H 3 (.ref p):=by
 obtain ⟨vs,h1,h2,h3⟩:=h.lst
 refine .lst h1 fun y hy=>?_
 obtain ⟨r,x,rfl,_,e⟩:=la_mem h h1 hy
 refine .tup e fun z hz=>?_
 simp only [enc3,List.mem_cons,List.not_mem_nil,or_false] at hz
 rcases hz with rfl | rfl | rfl <;> exact .int _
theorem la_lst {vs:List V} (h:LA enc3 H p R) (e:lstV H (.ref p)=some vs):vs.length=R.length:=by
 obtain ⟨ws,h1,h2,h3⟩:=h.lst
 rw [qln9 h1] at e
 cases e
 exact h2
theorem la_dv3 (h:LA enc3 H p R) (hl:R.length<=1000):Dv3 H (.ref p):=Ev.d3 (n:=1) (la_ev h) fun zs e=>by rw [la_lst h e]; exact hl
theorem qot9 (h:LA enc3 H p R) (W:Ma.Wins d R):qek9 H d (.ref p)=true:=by
 obtain ⟨vs,h1,h2,h3⟩:=h.lst
 unfold qek9
 rw [qln9 h1]
 refine List.all_eq_true.mpr fun y hy=>?_
 obtain ⟨r,x,rfl,hx,e⟩:=la_mem h h1 hy
 obtain ⟨w0,w1,w2,w3⟩:=W x hx
 unfold winV
 rw [qpv9 e]
 simp [enc3,winL,w0,w1,w2,w3]
end
theorem qol9 (vs:List V) (h:Nat) (hh:h<=vs.length):cutV vs none (some (h:Int))=vs.take h:=by
 unfold cutV HT.sIx
 have h0:¬ (h:Int) < 0:=by omega
 simp only [if_neg h0,Int.toNat_natCast,List.drop_zero,Nat.sub_zero]
 rw [Nat.min_eq_left hh]
theorem qno9 (vs:List V) (h:Nat) (hh:h<=vs.length):cutV vs (some (h:Int)) none=vs.drop h:=by
 unfold cutV HT.sIx
 have h0:¬ (h:Int) < 0:=by omega
 simp only [if_neg h0,Int.toNat_natCast]
 rw [Nat.min_eq_left hh,List.take_of_length_le]
 rw [List.length_drop]
 exact Nat.le_refl _
theorem LA.part {α:Type} {enc:α->List V} {H H':Hp} {p l:Addr} {xs:List α} {vs:List V} (h:LA enc H p xs) (s:Same H H') (hv:H p=some (.lst vs)) (lo hi:Nat) (e:H' l=some (.lst ((vs.drop lo).take hi))):LA enc H' l ((xs.drop lo).take hi):=by
 obtain ⟨rs,h1,h2,h3⟩:=h.ex
 rw [h1] at hv
 cases hv
 refine ⟨(rs.drop lo).take hi,by rw [e,<- List.map_drop,<- List.map_take],by simp [h2],fun i r x e1 e2=>?_⟩
 rw [List.getElem?_take] at e1 e2
 split at e1
 ·rw [List.getElem?_drop] at e1
  rename_i c
  rw [if_pos c,List.getElem?_drop] at e2
  exact s _ _ (h3 _ r x e1 e2)
 ·cases e1
def datB (R:List T3):PyData:=.list (R.map dat3)
theorem eqvB (x y:List T3):PyData.eqv (datB x) (datB y)=decide (x=y):=qft9 eqv3 x y
theorem canB (R:List T3):PyData.canLay0 (datB R)=true:=by
 simp only [datB,PyData.canLay0]
 exact qgk9 (fun x=>by simp [dat3,PyData.canLay0,PyData.canLayAll0]) R
theorem depB (R:List T3):PyData.depth (datB R)<=3:=by
 have:=qin9 (D:=dat3) (n:=2) (fun x=>by simp [dat3,PyData.depth,PyData.depthAll]) R
 simp only [datB,PyData.depth]
 omega
theorem qlz9 (xs:List (List T3)):SeqAt.shaped (.list (xs.map datB))=true:=qen9 (n:=3) canB depB (by decide) xs
theorem qce9 {α:Type} {enc:α->List V} {H:Hp} {q l:Addr} {xs:List α} {zs ys:List V} (h:LA enc H q xs) (hz:H l=some (.lst zs)) (nq:q ≠ l):LA enc (upd H l (.lst ys)) q xs:=by
 obtain ⟨rs,h1,h2,h3⟩:=h.ex
 refine ⟨rs,by rw [qaq9 nq]; exact h1,h2,fun i r x e e'=>?_⟩
 have h4:=h3 i r x e e'
 have nr:r ≠ l:=fun z=>by rw [z,hz] at h4; cases h4
 rw [qaq9 nr]
 exact h4
theorem la_ne {α β:Type} {enc:α->List V} {enc':β->List V} {H:Hp} {p l:Addr} {xs:List α} (h:LA enc H p xs) (hl:H l=none):p ≠ l:=fun e=>by
 obtain ⟨vs,h1,_⟩:=h.lst
 rw [e,hl] at h1
 cases h1
end My
namespace L2
open PySem PySem.Spec PyProof.Rows
section
variable {P:Program} {w:World} {H H':Hp} {h h1 h2:Heap} {a:Addr} {o:HO}
theorem ObjOk.there (x:ObjOk P w H h a o):∃ ob,h.get? a=some ob:=by
 cases o with
 | lst xs=>obtain ⟨_,_,_,_,e⟩:=x; exact ⟨_,e⟩
 | tup xs=>obtain ⟨_,_,_,ob,e,_⟩:=x; exact ⟨_,e⟩
 | dK kvs=>obtain ⟨_,_,_,_,o,_,_,e,_⟩:=x; exact ⟨_,e⟩
 | dT kvs=>obtain ⟨_,_,_,_,o,_,_,e,_⟩:=x; exact ⟨_,e⟩
 | set S n=>obtain ⟨o,_,_,_,e,_⟩:=x; exact ⟨_,e⟩
 | ins C dx fs=>obtain ⟨_,_,_,e,_⟩:=x; exact ⟨_,e⟩
 | own y=>exact x
 | xd fs=>obtain ⟨_,⟨_,_,_,e,_⟩,_⟩:=x; exact ⟨_,e⟩
 | rng lo hi=>obtain ⟨_,_,_,e⟩:=x; exact ⟨_,e⟩
 | frz ob u=>obtain ⟨e,_⟩:=x; exact ⟨_,e⟩
 | tbl ps=>exact ⟨_,show h.get? a=some _ from x⟩
 | met f y=>exact ⟨_,show h.get? a=some _ from x⟩
 | ext φ=>obtain ⟨_,e,_⟩:=x; exact e
theorem HOk.gone (x:HOk P w H h) (e:h.get? a=none):H a=none:=by
 cases q:H a with
 | none=>rfl
 | some o =>
  obtain ⟨ob,z⟩:=(x a o q).there
  rw [e] at z
  cases z
end
def hides:List Addr->Heap->Heap
 | [],h=>h
 | a :: l,h=>(hides l h).hide a
theorem qed9 {b:Addr} {h:Heap}:∀ {l:List Addr},b∈l->(hides l h).get? b=none
 | a :: l,hb=>by
  show ((hides l h).hide a).get? b=none
  by_cases e:b=a
  ·rw [e]; exact Heap.hide_self _ _
  ·rw [Heap.hide_ne _ e]
   exact qed9 ((List.mem_cons.mp hb).resolve_left e)
theorem qgf9 {b:Addr} {h:Heap}:∀ {l:List Addr},b ∉ l->(hides l h).get? b=h.get? b
 | [],_=>rfl
 | a :: l,hb=>by
  show ((hides l h).hide a).get? b=_
  have ne:b ≠ a:=fun e=>hb (by rw [e]; exact List.mem_cons_self)
  rw [Heap.hide_ne _ ne]
  exact qgf9 fun z=>hb (List.mem_cons_of_mem _ z)
theorem qey9 {h:Heap} {l:List Addr}:Heap.StaysIn (hides l h) h:=fun b o e=>by
 by_cases hb:b∈l
 ·rw [qed9 hb] at e; cases e
 ·rw [qgf9 hb] at e; exact e
theorem qem9 {h h1 base:Heap} {L:List Addr}:∀ {l:List Env},h.FunFrames base l->(∀ b∈frs l,b∈L)->(∀ b o,b∈frs l->h.get? b=some o->∃ sl,h1.get? b=some { o with slots:=sl })->h1.FunFrames (hides L h1) l
 | [],_,_,_=>trivial
 | env :: r,hl,hs,k=>by
  obtain ⟨hk,⟨L',o,hf,hn,ho,hd⟩,hr⟩:=hl
  have hL:L'∈frs (env :: r):=by unfold frs; rw [List.filterMap_cons,hf]; exact List.mem_cons_self
  have sub:∀ b∈frs r,b∈frs (env :: r):=fun b hb=>by unfold frs; rw [List.filterMap_cons,hf]; exact List.mem_cons_of_mem _ hb
  obtain ⟨sl,e⟩:=k L' o hL ho
  exact ⟨hk,⟨L',_,hf,qed9 (hs L' hL),e,hd⟩,qem9 hr (fun b hb=>hs b (sub b hb)) fun b o hb=>k b o (sub b hb)⟩
def Fly (h:Heap) (H':Hp) (h1:Heap) (a:Addr) (cls:Value):Prop:=h.get? a=none/\H' a=none/\∃ oe vs T oT ts a0,h1.get? a=some oe/\oe.cls=cls/\vs[0]?=some a0/\oe.data=.fields vs/\vs[1]?=some (.ref T)/\T ≠ a/\h1.get? T=some oT/\oT.data=.fields ts/\ts[3]?=some .none/\H' T=none/\h.get? T=none
def CXE (P:Program) (w:World):CXT:=fun stk H s E e s'=>∃ a cls H',e=.ref a/\s'.os=s.os/\AllBare s'.gens/\Un (frs stk) [] H H' s.heap s'.heap/\HOk P w H' s'.heap/\Fly s.heap H' s'.heap a cls/\E cls none H'
section
variable {P:Program} {w:World} {H H':Hp} {h h1 h2 base:Heap} {a:Addr} {stk:List Env} {l:List Addr} {cls:Value}
theorem qmd9 (u:Un (frs stk) [] H H' h h1) (ok:HOk P w H' h1) (st:Heap.StaysIn (hides l h1) h2) (sl:∀ b o,h1.get? b=some o->(∀ vs,o.data ≠ .fields vs)->∃ sl,h2.get? b=some { o with slots:=sl })
  (fr:h.FunFrames base stk) (ff:∀ b∈frs stk,H b=none) (hl:∀ b∈l,b∈frs stk\/(h.get? b=none/\H' b=none)):Un (frs stk) [] H H' h h2/\HOk P w H' h2:=by
 have fk:∀ b∈frs stk,∃ o,h.get? b=some o/\∀ vs,o.data ≠ .fields vs:=fun b hb=>(fr.mem hb).2
 have ff':∀ b∈frs stk,H' b=none:=fun b hb=>by
  obtain ⟨o,ho,_⟩:=fk b hb
  exact u.free b o ho (ff b hb) (by simp)
 have stay:∀ b o,b ∉ l->h1.get? b=some o->h2.get? b=some o:=fun b o hb e=>st b o (by rw [qgf9 hb]; exact e)
 refine ⟨⟨fun b o e n hb _=>?_,fun b o e n hb _=>?_,u.free,fun b o e hx=>?_,u.tups,u.frzs,u.tbls⟩,fun b o e=>?_⟩
 ·refine stay b o (fun z=>?_) (u.keep b o e n hb (by simp))
  rcases hl b z with z | z
  ·exact hb z
  ·rw [z.1] at e; cases e
 ·obtain ⟨s1,e1⟩:=u.slot b o e n hb (by simp)
  obtain ⟨o',e',d'⟩:=fk b hb
  rw [e] at e'
  cases e'
  obtain ⟨s2,e2⟩:=sl b _ e1 d'
  exact ⟨s2,e2⟩
 ·obtain ⟨o',e'⟩:=u.there b o e hx
  by_cases hb:b∈l
  ·rcases hl b hb with z | z
   ·obtain ⟨s1,e1⟩:=u.slot b o e (ff b z) z (by simp)
    obtain ⟨o2,e2,d2⟩:=fk b z
    rw [e] at e2
    cases e2
    obtain ⟨s2,e2⟩:=sl b _ e1 d2
    exact ⟨_,e2⟩
   ·rw [z.1] at e; cases e
  ·exact ⟨_,stay b o' hb e'⟩
 ·refine (ok b o e).stay (fun c v hc q=>stay c v (fun z=>?_) q) (fun _ q=>q) fun _ _ q=>q
  have hn:H' c=none:=by
   rcases hl c z with z | z
   ·exact ff' c z
   ·exact z.2
  rcases hc with rfl | hc
  ·rw [hn] at e; cases e
  ·rw [hn] at hc; cases hc
theorem qik9 {a0:Value} (ok:HOk P w H' h1) (hn:h.get? a=none) (hn':H' a=none) (sl:∀ b o,h1.get? b=some o->(∀ vs,o.data ≠ .fields vs)->∃ sl,h2.get? b=some { o with slots:=sl })
  (hl:∀ b∈l,(∃ o,h1.get? b=some o/\∀ vs,o.data ≠ .fields vs)\/(h.get? b=none/\H' b=none)) (th:∀ b o,h.get? b=some o->∃ o',h1.get? b=some o')
  (tr:Heap.TracedW h2 (hides l h1) a cls a0):Fly h H' h2 a cls:=by
 obtain ⟨oe,vs,T,oT,ts,e1,⟨e2,e3⟩,e4,e5,e6,e7,e8,e9,e10⟩:=tr
 have key:h.get? T=none/\H' T=none:=by
  by_cases hT:T∈l
  ·rcases hl T hT with ⟨o,z1,z2⟩ | z
   ·obtain ⟨s1,q⟩:=sl T o z1 z2
    rw [e8] at q
    cases q
    exact absurd e9 (z2 ts)
   ·exact z
  ·rw [qgf9 hT] at e6
   refine ⟨?_,ok.gone e6⟩
   cases q:h.get? T with
   | none=>rfl
   | some o =>
    obtain ⟨o',q'⟩:=th T o q
    rw [e6] at q'
    cases q'
 exact ⟨hn,hn',oe,vs,T,oT,ts,a0,e1,e2,e3,e4,e5,e7,e8,e9,e10,key.2,key.1⟩
end
section
variable {X:Cx} {pins:List (Addr × Obj)} {σ:St} {H:Hp} {s:Shared} {E:XK} {e:Value} {s':Shared}
structure Own (X:Cx):Prop where
 stk:X.stack=X.env :: X.outer
 fr:X.env.frame=some X.env.locals
 ex:X.ex=[]
theorem qnc9 {E':Value->Shared->Prop} (I:Inv X pins σ H s) (c:CXE X.prog X.w X.stack H s E e s') (O:Own X) (A:Around) (hA:A.frames=some X.stack) :
  wpAny (model X.prog X.w) A (leaving X.env e) (fun _ s''=>CXE X.prog X.w X.stack H s E e s'') E' s':=by
 obtain ⟨a,cls,H',rfl,os,bare,un,ok,⟨hn,hn',oe,vs,T,oT,ts,a0,e1,e2,e3,e4,e5,e6,e7,e8,e9,e10,e11⟩,q⟩:=c
 have fr:=I.stack
 have fk:∀ b∈frs X.stack,∃ o,s.heap.get? b=some o/\∀ vs,o.data ≠ .fields vs:=fun b hb=>(fr.mem hb).2
 have fs:∀ b o,b∈frs X.stack->s.heap.get? b=some o->∃ sl,s'.heap.get? b=some { o with slots:=sl }:=fun b o hb e=>un.slot b o e (I.stkFree b hb) hb (by simp)
 have fr':s'.heap.FunFrames (hides (a :: T :: frs X.stack) s'.heap) X.stack:=qem9 fr (fun b hb=>by simp [hb]) fs
 refine wpAny_leaving_nextW (base:=hides (a :: T :: frs X.stack) s'.heap) (cls:=cls) (a0:=a0) (by rw [hA,O.stk]) (by rw [<- O.stk]; exact fr') O.fr ⟨oe,vs,T,oT,ts,e1,⟨e2,e3⟩,e4,e5,qed9 (by simp),e6,e7,e8,e9⟩ qey9 (qed9 (by simp)) fun h2 L=>?_
 obtain ⟨st,_,tr,sl⟩:=L
 have hl:∀ b∈a :: T :: frs X.stack,b∈frs X.stack\/(s.heap.get? b=none/\H' b=none):=fun b hb=>by
  rcases List.mem_cons.mp hb with rfl | hb
  ·exact .inr ⟨hn,hn'⟩
  ·rcases List.mem_cons.mp hb with rfl | hb
   ·exact .inr ⟨e11,e10⟩
   ·exact .inl hb
 obtain ⟨u2,ok2⟩:=qmd9 un ok st sl fr I.stkFree hl
 refine ⟨a,cls,H',rfl,os,bare,u2,ok2,qik9 ok hn hn' sl (fun b hb=>?_) (fun b o e=>un.there b o e (by simp)) tr,q⟩
 rcases hl b hb with z | z
 ·obtain ⟨o,z1,z2⟩:=fk b z
  obtain ⟨s1,z3⟩:=fs b o z z1
  exact .inl ⟨_,z3,z2⟩
 ·exact .inr z
theorem qpm9 {E':Value->Shared->Prop} {C:Value} {us:List Value} {x:Addr} {h':Heap} (I:Inv X pins σ H s) (m:Heap.MadeExcOf s.heap h' x C us) (O:Own X) (A:Around) (hA:A.frames=some X.stack) (q:E C none H) :
  wpAny (model X.prog X.w) A (leaving X.env (.ref x)) (fun _ s''=>CXE X.prog X.w X.stack H s E (.ref x) s'') E' { s with heap:=h' }:=by
 obtain ⟨t,e1,e2,e3⟩:=m.there
 have hn:=m.new
 have fr:=I.stack
 have hn':H x=none:=I.hok.gone hn
 have fk:∀ b∈frs X.stack,∃ o,s.heap.get? b=some o/\∀ vs,o.data ≠ .fields vs:=fun b hb=>(fr.mem hb).2
 have un:Un (frs X.stack) [] H H s.heap h':=Un.kept m.keeps
 have ok:HOk X.prog X.w H h':=I.hok.kept m.keeps
 have fs:∀ b o,b∈frs X.stack->s.heap.get? b=some o->∃ sl,h'.get? b=some { o with slots:=sl }:=fun b o hb e=>⟨o.slots,m.keeps b o e⟩
 have fr':h'.FunFrames (hides (x :: frs X.stack) h') X.stack:=qem9 fr (fun b hb=>by simp [hb]) fs
 refine wpAny_leaving_firstW (base:=hides (x :: frs X.stack) h') (by rw [hA,O.stk]) (by rw [<- O.stk]; exact fr') O.fr e1 qey9 (qed9 (by simp)) rfl rfl rfl fun h2 L=>?_
 obtain ⟨st,_,tr,sl⟩:=L
 have hl:∀ b∈x :: frs X.stack,b∈frs X.stack\/(s.heap.get? b=none/\H b=none):=fun b hb=>by
  rcases List.mem_cons.mp hb with rfl | hb
  ·exact .inr ⟨hn,hn'⟩
  ·exact .inl hb
 obtain ⟨u2,ok2⟩:=qmd9 un ok st sl fr I.stkFree hl
 refine ⟨x,C,H,rfl,rfl,I.bare,u2,ok2,qik9 ok hn hn' sl (fun b hb=>?_) (fun b o e=>⟨o,m.keeps b o e⟩) tr,q⟩
 rcases hl b hb with z | z
 ·obtain ⟨o,z1,z2⟩:=fk b z
  exact .inl ⟨_,m.keeps _ _ z1,z2⟩
 ·exact .inr z
theorem cx_drop (I:Inv X pins σ H s) (c:CXE X.prog X.w X.stack H s E e s') (O:Own X):CXE X.prog X.w X.outer X.H₀ X.s₀ E e s':=by
 obtain ⟨a,cls,H',rfl,os,bare,un,ok,⟨hn,hn',oe,vs,T,oT,ts,a0,e1,e2,e3,e4,e5,e6,e7,e8,e9,e10,e11⟩,q⟩:=c
 have J:Inv X pins σ H' s':=I.call' os un ok bare fun b z=>absurd z (by simp)
 have b:=J.base
 rw [O.ex] at b
 have old:∀ b,s.heap.get? b=none->X.s₀.heap.get? b=none:=fun b z=>by
  cases q:X.s₀.heap.get? b with
  | none=>rfl
  | some o =>
   obtain ⟨o',q'⟩:=I.base.there b o q (by rw [O.ex]; simp)
   rw [z] at q'
   cases q'
 exact ⟨a,cls,H',rfl,J.os,bare,b,ok,⟨old a hn,hn',oe,vs,T,oT,ts,a0,e1,e2,e3,e4,e5,e6,e7,e8,e9,e10,old T e11⟩,q⟩
end
abbrev cxE (P:Program) (w:World) (K:W.Frag) (mg:Str->Option Value) (base:Heap) (N:List Str) (qual:Str) (scope:Scope) (f:Addr) (cd:Value) (A:Around) (outer:List Env) (s:Shared) (H:Hp) (E:XK):Cx:=cxOf (CXE P w) P w K mg base N qual scope f cd A outer s H E
section
variable {P:Program} {w:World} {K:W.Frag} {mg:Str->Option Value} {base:Heap} {N:List Str} {qual:Str} {scope:Scope} {f:Addr} {cd:Value} {A:Around} {outer:List Env} {s:Shared} {H:Hp} {E:XK}
theorem qlh9:Own (cxE P w K mg base N qual scope f cd A outer s H E):=⟨rfl,rfl,rfl⟩
theorem passE:qgz9 (CXE P w) (cxE P w K mg base N qual scope f cd A outer s H E) E:=fun pins σ H1 s1 e s' I c =>
 wpAny_mono (qnc9 (E':=fun _ _=>False) I c qlh9 _ I.ok.frames) (fun _ _ c2=>cx_drop I c2 qlh9) fun _ _ z=>z.elim
def Makes (X:Cx) (E:XK):Prop:=∀ (pins:List (Addr × Obj)) (σ:St) (H:Hp) (s:Shared) (C:Value) (us:List Value) (x:Addr) (h':Heap),Inv X pins σ H s->Heap.MadeExcOf s.heap h' x C us->E C none H->X.xe (.ref x) { s with heap:=h' }
theorem makeE:Makes (cxE P w K mg base N qual scope f cd A outer s H E) E:=fun pins σ H1 s1 C us x h' I m q =>
 wpAny_mono (qpm9 (E':=fun _ _=>False) I m qlh9 _ I.ok.frames q) (fun _ _ c2=>cx_drop I c2 qlh9) fun _ _ z=>z.elim
end
section
variable {X:Cx} {pins:List (Addr × Obj)} {σ:St} {H:Hp} {s:Shared} {E:XK} {e:Value} {s':Shared}
theorem qml9 {E':Value->Shared->Prop} {Q:Unit->Shared->Prop} {A:Around} (I:Inv X pins σ H s) (c:CXE X.prog X.w X.stack H s E e s') (q:∀ s'',CXE X.prog X.w X.stack H s E e s''->Q () s'') :
  wpAny (model X.prog X.w) A (setFlight e none) Q E' s':=by
 obtain ⟨a,cls,H',rfl,os,bare,un,ok,⟨hn,hn',oe,vs,T,oT,ts,a0,e1,e2,e3,e4,e5,e6,e7,e8,e9,e10,e11⟩,z⟩:=c
 have fr:=I.stack
 have fk:∀ b∈frs X.stack,∃ o,s.heap.get? b=some o/\∀ vs,o.data ≠ .fields vs:=fun b hb=>(fr.mem hb).2
 have fs:∀ b o,b∈frs X.stack->s.heap.get? b=some o->∃ sl,s'.heap.get? b=some { o with slots:=sl }:=fun b o hb e=>un.slot b o e (I.stkFree b hb) hb (by simp)
 have fr':s'.heap.FunFrames (hides (a :: T :: frs X.stack) s'.heap) X.stack:=qem9 fr (fun b hb=>by simp [hb]) fs
 have hl:∀ b∈a :: T :: frs X.stack,b∈frs X.stack\/(s.heap.get? b=none/\H' b=none):=fun b hb=>by
  rcases List.mem_cons.mp hb with rfl | hb
  ·exact .inr ⟨hn,hn'⟩
  ·rcases List.mem_cons.mp hb with rfl | hb
   ·exact .inr ⟨e11,e10⟩
   ·exact .inl hb
 refine wpAny_setFlight_noneW (base:=hides (a :: T :: frs X.stack) s'.heap) (cls:=cls) (a0:=a0) (fl:=.none) qey9 fr' ⟨oe,vs,T,oT,ts,e1,⟨e2,e3⟩,e4,e5,qed9 (by simp),e6,e7,e8,e9⟩ fun h2 st _ tr k=>q _ ?_
 have sl:∀ b o,s'.heap.get? b=some o->(∀ vs,o.data ≠ .fields vs)->∃ sl,h2.get? b=some { o with slots:=sl }:=fun b o z1 z2=>⟨o.slots,k b o z1 z2⟩
 obtain ⟨u2,ok2⟩:=qmd9 un ok st sl fr I.stkFree hl
 refine ⟨a,cls,H',rfl,os,bare,u2,ok2,qik9 ok hn hn' sl (fun b hb=>?_) (fun b o e=>un.there b o e (by simp)) tr,z⟩
 rcases hl b hb with z | z
 ·obtain ⟨o,z1,z2⟩:=fk b z
  obtain ⟨s1,z3⟩:=fs b o z z1
  exact .inl ⟨_,z3,z2⟩
 ·exact .inr z
theorem qpg9 {E' E'':Value->Shared->Prop} {Q:Shared->Prop} {A:Around} (I:Inv X pins σ H s) (c:CXE X.prog X.w X.stack H s E e s') (O:Own X) (hA:A.frames=some X.stack) (q:∀ s'',CXE X.prog X.w X.stack H s E e s''->Q s'') :
  wpAny (model X.prog X.w) A (noteFrame e X.env) (fun _ s2=>wpAny (model X.prog X.w) A (setFlight e none) (fun _ s3=>Q s3) E' s2) E'' s':=by
 obtain ⟨a,cls,H',rfl,os,bare,un,ok,⟨hn,hn',oe,vs,T,oT,ts,a0,e1,e2,e3,e4,e5,e6,e7,e8,e9,e10,e11⟩,z⟩:=c
 have fr:=I.stack
 have fk:∀ b∈frs X.stack,∃ o,s.heap.get? b=some o/\∀ vs,o.data ≠ .fields vs:=fun b hb=>(fr.mem hb).2
 have fs:∀ b o,b∈frs X.stack->s.heap.get? b=some o->∃ sl,s'.heap.get? b=some { o with slots:=sl }:=fun b o hb e=>un.slot b o e (I.stkFree b hb) hb (by simp)
 have fr':s'.heap.FunFrames (hides (a :: T :: frs X.stack) s'.heap) X.stack:=qem9 fr (fun b hb=>by simp [hb]) fs
 have hl:∀ b∈a :: T :: frs X.stack,b∈frs X.stack\/(s.heap.get? b=none/\H' b=none):=fun b hb=>by
  rcases List.mem_cons.mp hb with rfl | hb
  ·exact .inr ⟨hn,hn'⟩
  ·rcases List.mem_cons.mp hb with rfl | hb
   ·exact .inr ⟨e11,e10⟩
   ·exact .inl hb
 refine wpAny_noteFrame_onW (base:=hides (a :: T :: frs X.stack) s'.heap) (cls:=cls) (a0:=a0) (by rw [hA,O.stk]) (by rw [<- O.stk]; exact fr') O.fr ⟨oe,vs,T,oT,ts,e1,⟨e2,e3⟩,e4,e5,qed9 (by simp),e6,e7,e8,e9⟩ qey9 (qed9 (by simp)) fun h1 N=>?_
 obtain ⟨st1,fr1,tr1,sl1⟩:=N
 refine wpAny_setFlight_noneW (base:=hides (a :: T :: frs X.stack) s'.heap) (cls:=cls) (a0:=a0) (l:=X.env :: X.outer) st1 fr1 tr1 fun h2 st _ tr k=>q _ ?_
 have sl:∀ b o,s'.heap.get? b=some o->(∀ vs,o.data ≠ .fields vs)->∃ sl,h2.get? b=some { o with slots:=sl }:=fun b o z1 z2=>by
  obtain ⟨sl,z3⟩:=sl1 b o z1 z2
  exact ⟨sl,k b _ z3 z2⟩
 obtain ⟨u2,ok2⟩:=qmd9 un ok st sl fr I.stkFree hl
 refine ⟨a,cls,H',rfl,os,bare,u2,ok2,qik9 ok hn hn' sl (fun b hb=>?_) (fun b o e=>un.there b o e (by simp)) tr,z⟩
 rcases hl b hb with z | z
 ·obtain ⟨o,z1,z2⟩:=fk b z
  obtain ⟨s1,z3⟩:=fs b o z z1
  exact .inl ⟨_,z3,z2⟩
 ·exact .inr z
end
def bmV:List Value:=[.type "ValueError",.type "Exception",.type "BaseException",.type "object"]
structure ExC (K:W.Frag) (C:Addr) (bm:List Value):Prop where
 ex:∃ nm q N bs hdct sn sub ab col dd k0 k1 k2 k3 k5,K.lookup C=some (excClassObj nm q C N bs bm hdct sn sub ab col dd k0 k1 k2 k3 k5 "ValueError.__new__")/\W.nsOkIn K N=true/\W.nsIn K N "__init__" = some none
 tl:W.tailIn K bmV bm=true
 bx:bm.contains (.type "BaseException")=true
section
variable {X:Cx} {C:Addr} {bm:List Value} {E:XK} {x:Str} {np cpos pos:Pos} {e:Expr} {es:List Expr} {t:TA}
def tRaise (C:Addr) (E:XK) (t:TA):TS:=fun _ σ H=>t σ H fun vs H1=>vs.length<=1000/\E (.ref C) none H1
theorem ps_raise (M:Makes X E) (c:ExC X.K C bm) (hg:Gl X x) (hm:X.mg x=some (.ref C)) (ha:PA X (e :: es) t) (hc:X.calm=true:=by rfl) (hdb:(x == ("__debug__" : Str))=false:=by decide)
  (he:starEach (e :: es) X.env=(false,eval e X.env) :: starEach es X.env:=by rfl) (hpl:(backTo cpos (starEach (e :: es) X.env)).any (·.1)=false:=by rfl) :
  PS X (.Raise (some (.Call (.Name x np) (e :: es) [] cpos)) none pos) (tRaise C E t):=by
 intro pins s σ H D I h
 obtain ⟨nm,q,N,bs,hdct,sn,sub,ab,col,dd,k0,k1,k2,k3,k5,l1,l2,l3⟩:=c.ex
 refine wpAny_Raise_call_subU (nm:=nm) (q:=q) (C:=C) (N:=N) (bs:=bs) (hdct:=hdct) (sn:=sn) (sub:=sub) (ab:=ab) (col:=col) (dd:=dd) (k0:=k0) (k1:=k1) (k2:=k2) (k3:=k3) (k5:=k5) (bm:=bm) (bmB:=bmV) (mN:=Heap.nsMap X.base N) PySem.F.excBase_ValueError (by decide) PySem.F.excBase_ValueError c.bx (I.ok.hd hc) hpl (W.nsMap_none_of_in I.ok.mod.kin l2 l3) ?_
 refine qgl9 I hg hm ⟨rfl,?_⟩ hdb
 have key:=thn (ha cpos pins s σ H _ I h) (Q':=fun us s1=>(us.length<=sizeLine)/\s1.heap.get? C=some (excClassObj nm q C N bs bm hdct sn sub ab col dd k0 k1 k2 k3 k5 "ValueError.__new__")/\s1.heap.Ns N (Heap.nsMap X.base N)/\OwnTail s1.heap bmV bm/\∀ (h':Heap) (e:Addr),Heap.MadeExcOf s1.heap h' e (.ref C) us->X.xe (.ref e) { s1 with heap:=h' }) fun us s1 ⟨vs,H1,I1,r,z,q1⟩=>?_
 ·rw [he] at key ⊢
  exact PySem.Calls.evalArgs_plain (wpAny_mono key (fun us s1 ⟨a1,a2,a3,a4,a5⟩=>⟨rfl,a1,a2,a3,a4,a5⟩) fun _ _ z=>z)
 ·refine ⟨?_,I1.kIn _ _ l1,(Heap.Ns.of_isNs (W.isNs_of_in I.ok.mod.kin l2)).keeps I1.bk,W.tail_of_in I1.kIn c.tl,fun h' e m=>M pins σ H1 s1 _ us e h' I1 m q1⟩
  rw [<- r.length]
  exact Nat.le_trans z (by decide)
end
structure CalleeX (P:Program) (w:World) (K:W.Frag) (mg:Str->Option Value) (base:Heap) (k:Nat) (x:Str) (ps:List Str) (sp:Sp):Prop where
 ex:∃ (f:Addr) (fd:FuncData),FnOk P w K mg base (CXE P w) k f fd ps sp/\Binds K fd ps []/\W.keepIn K (.ref f)=true/\mg x=some (.ref f)
section
variable {X:Cx} {k:Nat} {ps:List Str} {sp:Sp} {E:XK} {x:Str} {p pos pos':Pos} {e:Expr} {es:List Expr} {t:TA}
theorem CalleeX.up {P:Program} {w:World} {K:W.Frag} {mg:Str->Option Value} {base:Heap} {j:Nat} (c:CalleeX P w K mg base k x ps sp) (h:k<=j):CalleeX P w K mg base j x ps sp:=by
 obtain ⟨f,fd,F,b,kp,m⟩:=c.ex
 exact ⟨f,fd,F.mono h,b,kp,m⟩
theorem CalleeX.mk' {P:Program} {w:World} {K:W.Frag} {mg:Str->Option Value} {base:Heap} {f:Addr} {fd:FuncData} (G:FnOk P w K mg base (CXE P w) k f fd ps sp) (b:Binds K fd ps []) (kp:W.keepIn K (.ref f)=true) (m:mg x=some (.ref f)):CalleeX P w K mg base k x ps sp:=⟨f,fd,G,b,kp,m⟩
theorem pe_fnX (c:CalleeX X.prog X.w X.K X.mg X.base k x ps sp) (hr:Room k X.A) (hg:Gl X x) (hx:qgz9 (CXE X.prog X.w) X E) (ha:PA X (e :: es) t) (hdb:(x == ("__debug__" : Str))=false:=by decide)
  (he:starEach (e :: es) X.env=(false,eval e X.env) :: starEach es X.env:=by rfl) (hpl:(backTo pos (starEach es X.env)).any (·.1)=false:=by rfl):PE X (.Call (.Name x p) (e :: es) [] pos) (tCall sp [] E t):=by
 obtain ⟨f,fd,F,b,kp,m⟩:=c.ex
 exact pe_call F hr hg m kp b .nil hx ha hdb he hpl
def qjm9 (X:Cx) (pins:List (Addr × Obj)) (σ:St) (E:XK) (e:Value) (s':Shared):Prop:=∃ H s,Inv X pins σ H s/\CXE X.prog X.w X.stack H s E e s'
def PSx (X:Cx) (st:List Stmt) (t:XK->TS):Prop:=∀ (E:XK) (pins:List (Addr × Obj)) (s:Shared) (σ:St) (H:Hp) (D:Ends),Inv X pins σ H s->t E D σ H->wpAny (model X.prog X.w) X.A (execs st X.env) (SP X pins D) (qjm9 X pins σ E) s
def PEx (X:Cx) (e:Expr) (t:XK->TE):Prop:=∀ (E:XK) (pins:List (Addr × Obj)) (s:Shared) (σ:St) (H:Hp) (Q:VK),Inv X pins σ H s->t E σ H Q->wpAny (model X.prog X.w) X.A (eval e X.env) (EP X pins σ Q) (qjm9 X pins σ E) s
theorem run_fnX {f:Addr} {fd:FuncData} {pins:List (Addr × Obj)} {σ:St} {H:Hp} {s:Shared} {Q:VK} {us:List Value} {vs:List V} (F:FnOk X.prog X.w X.K X.mg X.base (CXE X.prog X.w) k f fd ps sp) (hr:Room k X.A) (hb:Binds X.K fd ps [])
  (I:Inv X pins σ H s) (r:Vals vs us) (h:sp (vs ++ []) H Q E):wpAny (model X.prog X.w) X.A (call (.ref f) us) (EP X pins σ Q) (qjm9 X pins σ E) s:=by
 have r2:Vals (vs ++ []) (us ++ []):=r.append .nil
 have hl:(us ++ []).length=ps.length:=by rw [<- r2.length]; exact F.len _ _ _ _ h
 refine wpAny_call (codeAny_mono (F.run X.A X.stack s H ⟨us,[]⟩ (us ++ []) (vs ++ []) Q E hr I.env0 (hb s us I.kIn hl) r2 h) fun r s' hq=>?_)
 cases r with
 | error e=>exact ⟨H,s,I,hq⟩
 | ok fl =>
  cases fl with
  | ret u=>exact I.after hq
  | next=>exact False.elim hq
  | brk=>exact False.elim hq
  | cont=>exact False.elim hq
theorem pex_fn (c:CalleeX X.prog X.w X.K X.mg X.base k x ps sp) (hr:Room k X.A) (hg:Gl X x) (ha:PA X.nox (e :: es) t) (hdb:(x == ("__debug__" : Str))=false:=by decide)
  (he:starEach (e :: es) X.env=(false,eval e X.env) :: starEach es X.env:=by rfl) (hpl:(backTo pos (starEach es X.env)).any (·.1)=false:=by rfl) :
  PEx X (.Call (.Name x p) (e :: es) [] pos) (fun E=>tCall sp [] E t):=by
 obtain ⟨f,fd,F,b,kp,m⟩:=c.ex
 intro E pins s σ H Q I h
 refine wpAny_Call_Name_kw (qgl9 I hg m ?_ hdb)
 refine W.callWith_K (h₀:=X.base) I.ok.mod.kin kp (wpAny_mono (ha pos pins s σ H _ (I.wish _) h) (fun us s1 ⟨vs,H1,I1,r,q⟩=>⟨I1.kIn,?_⟩) fun _ _ z=>z.elim) he hpl
 exact run_fnX F hr b I1.unwish r q
theorem psx_expr {te:XK->TE} (he:PEx X e te) (hs:swapsWith e none pos.line X.env=pure false:=by rfl):PSx X [.Expr e pos] (fun E=>tDrop (te E)):=by
 intro E pins s σ H D I h
 have key:wpAny (model X.prog X.w) X.A (exec (.Expr e pos) X.env) (SP X pins D) (qjm9 X pins σ E) s:=wpAny_Expr_any (thn (he E pins s σ H _ I h) fun v s1 ⟨x,H1,I1,r1,q1⟩=>⟨σ,H1,I1,q1⟩) I.quiet hs
 refine wpAny_execs_cons (thn key fun f s1 q=>?_)
 cases f with
 | next=>exact wpAny_execs_nil q
 | ret v=>exact q
 | brk=>exact q
 | cont=>exact q
end
section
variable {M:Model} {A:Around} {E:Value->Shared->Prop} {h:Heap} {g:Array GenState} {d:Drawn} {t:Nat} {os:OsState} {a C C':Addr} {oe:Obj} {Q:Bool->Shared->Prop}
theorem qmu9 {nm q N bs bm hdct sn sub ab col dd k0 k1 k2 k3 k5 nw nm' q' N' bs' bm' hdct' sn' sub' ab' col' dd' k0' k1' k2' k3' k5' nw'} (hC:h.get? C=some (excClassObj nm q C N bs bm hdct sn sub ab col dd k0 k1 k2 k3 k5 nw)) (hC':h.get? C'=some (excClassObj nm' q' C' N' bs' bm' hdct' sn' sub' ab' col' dd' k0' k1' k2' k3' k5' nw'))
  (he:h.get? a=some oe) (hc:oe.cls=.ref C') (hb:bm.contains (.type "BaseException")=true) (z:Q ((Value.ref C' :: bm').contains (.ref C)) ⟨h,g,d,t,os⟩):wpAny M A (excMatches (.ref a) (.ref C)) Q E ⟨h,g,d,t,os⟩:=by
 have isX:∀ {Q':Bool->Shared->Prop},Q' true ⟨h,g,d,t,os⟩->wpAny M A (isExcClass (.ref C)) Q' E ⟨h,g,d,t,os⟩:=fun {Q'} q1=>by
  unfold isExcClass
  refine wpAny_bind ?_
  simp only [isType,loadHead]
  refine wpAny_bind (wpAny_loadPart_at hC (wpAny_pure (wpAny_ite_true rfl (wpAny_isSubtype_exc hC ?_))))
  rw [show (Value.ref C :: bm).contains (.type "BaseException")=true by rw [List.contains_cons,hb]; simp]
  exact q1
 unfold excMatches isInstance
 simp only [typeOf]
 refine wpAny_bind (wpAny_bind (wpAny_bind (wpAny_loadPart_at hC (wpAny_pure ?_))))
 refine wpAny_of_eq tc_notTuple (wpAny_ite_false rfl (wpAny_bind (wpAny_pure ?_)))
 refine wpAny_bind ?_
 simp only [List.forIn_cons,List.forIn_nil]
 refine wpAny_bind (wpAny_bind (isX (wpAny_ite_false rfl (wpAny_pure (wpAny_pure ?_)))))
 refine wpAny_bind (wpAny_bind (wpAny_loadPart_at he (wpAny_pure ?_)))
 rw [hc]
 refine wpAny_bind (wpAny_bind (wpAny_bind (wpAny_isSubtype_exc hC' ?_)))
 cases b:(Value.ref C' :: bm').contains (.ref C) with
 | true =>
  rw [b] at z
  exact wpAny_ite_true rfl (wpAny_pure (wpAny_pure (wpAny_pure z)))
 | false =>
  rw [b] at z
  exact wpAny_ite_false rfl (wpAny_pure (wpAny_pure (wpAny_pure z)))
end
abbrev Cx.inH (X:Cx) (a:Addr):Cx:={ X with A:=X.A.mark (some (.ref a)),calm:=false,xe:=fun _ _=>False }
section
variable {X:Cx} {pins:List (Addr × Obj)} {σ:St} {H:Hp} {s:Shared} {a:Addr}
theorem Inv.inH (I:Inv X pins σ H s) (a:Addr):Inv (X.inH a) pins σ H s :=
 ⟨⟨I.ok.mod,I.ok.kind,I.ok.glob,I.ok.blt,I.ok.above,I.ok.inj,I.ok.has,I.ok.cab,(fun z=>nomatch z),I.ok.frames,I.ok.stk,I.ok.exf,I.ok.bs,I.ok.bsz,I.ok.noex,I.ok.exfs,I.ok.funs,I.ok.frf⟩,I.os,I.bare,I.base,I.loc,I.cell,I.free,I.freeC,I.pin,I.hok,I.len⟩
theorem Inv.outH (ok:X.Ok) (I:Inv (X.inH a) pins σ H s):Inv X pins σ H s:=⟨ok,I.os,I.bare,I.base,I.loc,I.cell,I.free,I.freeC,I.pin,I.hok,I.len⟩
theorem CXE.inv {E:XK} {e:Value} {s':Shared} (I:Inv X pins σ H s) (c:CXE X.prog X.w X.stack H s E e s'):∃ a cls H',e=.ref a/\Inv X pins σ H' s'/\(∃ oe,s'.heap.get? a=some oe/\oe.cls=cls)/\E cls none H':=by
 obtain ⟨a,cls,H',rfl,os,bare,un,ok,⟨hn,hn',oe,vs,T,oT,ts,a0,e1,e2,_⟩,z⟩:=c
 exact ⟨a,cls,H',rfl,I.call' os un ok bare fun b z=>absurd z (by simp),⟨oe,e1,e2⟩,z⟩
end
section
variable {X:Cx} {body suite:List Stmt} {b0:Stmt} {tb:XK->TS} {th:TS} {C:Addr} {bm:List Value} {x:Str} {np hpos pos:Pos}
end
end L2
namespace L2
open PySem PySem.W PySem.Calls PyProof.Rows
def ExQ (a D:Addr):Heap->Prop:=fun h=>∃ ox:Obj,h.get? a=some ox/\ox.cls=.ref D
structure ExK (K:Frag) (D:Addr):Prop where
 cl:(clsIn K D).isSome=true
 ga:findIn K (.ref D) "__getattribute__" = some (some (.builtin "BaseException.__getattribute__"))
 gt:findIn K (.ref D) "__getattr__" = some none
 ca:findIn K (.ref D) "__class__" = some (some (.builtin "object.__class__"))
 gg:specialIn K (.builtin "object.__class__") "__get__" = some (some (.builtin "getset_descriptor.__get__"))
 tk:takesIn K (.builtin "object.__class__")=some true
 mo:mroIn K D (.type "object")=some true
 mb:mroIn K D (.type "BaseException")=some true
section
variable {prog:Program} {w:World} {A:Around} {E:Value->Shared->Prop} {s:Shared} {K:Frag} {a D:Addr}
theorem ExQ.type {M:Model} {h:Heap} (I:ExQ a D h):Looks M h (typeOf (.ref a)) (.ref D):=by
 obtain ⟨ox,e1,e2⟩:=I
 exact e2 ▸ (Looks.ld e1).andThen .now
theorem qmz9 {M:Model} {h:Heap} (X:K.In h) (c:ExK K D):Looks M h (Builtin.ObjectAttr.find (.ref a) (.ref D) "__class__") (.bind (.builtin "getset_descriptor.__get__") (.builtin "object.__class__")):=by
 have L1:=looks_findIn (M:=M) X c.ca
 have L2:Looks M h (Builtin.ObjectAttr.getOf (some (.builtin "object.__class__"))) (some (.builtin "getset_descriptor.__get__")):=looks_specialIn X c.gg
 have L3:=looks_takesIn (M:=M) X c.tk
 exact L1.andThen (L2.andThen ((show Looks M h (Builtin.ObjectAttr.dataDescriptor? (some (.builtin "object.__class__")) (some (.builtin "getset_descriptor.__get__"))) (some (.builtin "getset_descriptor.__get__",.builtin "object.__class__")) from L3.andThen .now).andThen (Looks.tag .now)))
theorem qpn9 {R:Result->Shared->Prop} {tp:Value} (X:K.In s.heap) (I:ExQ a D s.heap) (c:ExK K D) (h:R (.ok (.ret (.ref D))) s):codeAny (model prog w) A (.call (.builtin "getset_descriptor.__get__") ⟨[.builtin "object.__class__",.ref a,tp],[]⟩) R s:=by
 obtain ⟨hh,g,dr,t,os⟩:=s
 have L0:=I.type (M:=model prog w)
 have L1:=looks_mroIn (M:=model prog w) X c.mo
 refine codeAny_call_builtin KF.slot_gs.plain KF.entry_gs (KF.slot_gs.check _ _ _ _ _ _ _ _ KF.type_class (KF.args_gs _ _ _) ?_)
 unfold Builtin.«getset_descriptor.__get__» Builtin.Getset_descriptor.descrGet
 rw [dga_obj]
 refine wpAny_bind (wpAny_pure ?_)
 unfold Builtin.Getset_descriptor.descrGetter Builtin.Getset_descriptor.descrCheckInstance Builtin.Getset_descriptor.descrNameAndClass isInstance
 simp only [KF.owner_class]
 repeat lk
 refine ⟨Code.quiet_builtin _ (by decide +kernel),codeAny_builtin KF.entry_class ?_⟩
 unfold Builtin.«object.__class__» shownTypeOf
 repeat lk
 exact h
theorem check_ga {M:Model} {nameV:Value} {Q:Unit->Shared->Prop} (X:K.In s.heap) (I:ExQ a D s.heap) (c:ExK K D) (hq:Q () s):wpAny M A (checkBuiltinCall "BaseException.__getattribute__" ⟨[.ref a,nameV],[]⟩) Q E s:=by
 obtain ⟨hh,g,d,t,os⟩:=s
 have L0:=I.type (M:=M)
 have L3:=looks_mroIn (M:=M) X c.mb
 have hk:builtinKind "BaseException.__getattribute__" = some .slot:=by decide +kernel
 have hsplit:splitId "BaseException.__getattribute__" = some ("BaseException","__getattribute__"):=by decide +kernel
 have ha:=PySem.F.args_bexc_ga (.ref a) nameV
 simp only [checkBuiltinCall,hk,hsplit]
 refine wpAny_bind ?_
 unfold isInstance
 repeat (first | lk | wp_step)
 exact hq
theorem exc_class {Q:Option Value->Shared->Prop} (X:K.In s.heap) (I:ExQ a D s.heap) (c:ExK K D) (h:Q (some (.ref D)) { s with toks:=s.toks+1 }):wpAny (model prog w) A (getAttr? (.ref a) "__class__") Q E s:=by
 obtain ⟨hh,g,d,t,os⟩:=s
 have L0:=I.type (M:=model prog w)
 have L1:=looks_findIn (M:=model prog w) X c.ga
 have L2:=looks_findIn (M:=model prog w) X c.gt
 have L3:=looks_mroIn (M:=model prog w) X c.mb
 have L4:=qmz9 (M:=model prog w) (a:=a) X c
 unfold getAttr? getAttrBy? getAttrBy
 refine wpAny_bind (wpAny_mkText (wpAny_bind (wpAny_attempt (wpAny_holding (wpAny_bind (L0.at (wpAny_bind (L1.at ?_))))))))
 have hx2:(Value.builtin "BaseException.__getattribute__" == Value.builtin "object.__getattribute__")=false:=by decide +kernel
 refine wpAny_ite_false (by rw [hx2]; rfl) ?_
 unfold getAttrByItsOwn hookBefore
 refine wpAny_bind (wpAny_ite_true rfl (L2.at ?_))
 refine wpAny_bind (wpAny_attempt (wpAny_holding ?_))
 unfold callGetattribute
 refine wpAny_ite_false rfl ?_
 unfold boundAndCalled
 refine wpAny_bind (wpAny_of_eq (PySem.F.attrBase_ValueError.ga.bind (.ref a)) ?_)
 refine wpAny_call (codeAny_call_builtin PySem.F.attrBase_ValueError.ga.plain PySem.F.entry_bexc_ga (check_ga X I c ?_))
 unfold Builtin.«object.__getattribute__»
 refine wpAny_bind (wpAny_pure ?_)
 refine wpAny_bind (wpAny_pure (wpAny_bind (L0.at (wpAny_bind (L4.at ?_)))))
 show wpAny _ _ (holding [Value.builtin "object.__class__"] (call (.builtin "getset_descriptor.__get__") [.builtin "object.__class__",.ref a,.ref D]) >>= ret) _ _ _
 refine wpAny_bind (wpAny_holding (wpAny_call (qpn9 X I c ?_)))
 exact wpAny_pure (wpAny_pure (wpAny_pure h))
theorem qpf9 (c:ExK K D):KitX K (.ref a) (.ref D) (ExQ a D) where
 ty:=fun _ _ _ I=>I.type
 it:=fun _ _ X _=>by
  obtain ⟨cdD,hcD⟩:=Option.isSome_iff_exists.mp c.cl
  unfold clsIn at hcD
  split at hcD
  ·rename_i c' d' cd' sl' ho
   intro A' Q' E' s' k q
   unfold isType loadHead
   exact wpAny_bind (wpAny_loadPart (k _ _ (X _ _ ho)) (wpAny_pure q))
  ·cases hcD
 ne:=fun h tp dd its n sl X htp=>by
  obtain ⟨cdD,hcD⟩:=Option.isSome_iff_exists.mp c.cl
  refine Bool.eq_false_iff.mpr fun q=>?_
  have e:D=tp:=Value.ref.inj (beq_iff_eq.mp q)
  subst e
  unfold clsIn at hcD
  split at hcD
  ·rename_i c' d' cd' sl' ho
   have z:=(X _ _ ho).symm.trans htp
   cases z
  ·cases hcD
 ca:=fun X I k=>exc_class X I c k
end
section
variable {X:Cx} {pins:List (Addr × Obj)} {σ:St} {H:Hp} {s:Shared}
theorem unbind_ok {M:Model} {A:Around} {E:Value->Shared->Prop} {i:Nat} {x:Str} {v:V} {Q:Unit->Shared->Prop} (I:Inv X pins σ H s) (hN:X.N.Nodup) (hi:X.N[i]?=some x) (hk:X.env.scope.names.lookup x=some .local) (hv:σ[i]?=some (some v))
  (h:∀ s',Inv X pins (σ.set i none) H s'->Q () s'):wpAny M A (unbindName X.env x) Q E s:=by
 obtain ⟨m,hn,hl⟩:=id I.loc
 have hcls:(X.env.scope.kind == .class || (X.env.scope.kind == .module && X.env.locals != X.env.globals))=false:=by rw [I.ok.kind]; rfl
 have hiσ:i < σ.length:=by rw [I.len]; exact (List.getElem?_eq_some_iff.mp hi).1
 have cne:=I.cne
 obtain ⟨u0,_,lk⟩:=hl i x v hi hv (.inl hk)
 have mx:m x=some u0:=by
  rcases lk with ⟨_,z⟩ | ⟨z,_⟩
  ·exact z
  ·have z:X.env.scope.names.lookup x=some .cell\/X.env.scope.names.lookup x=some .free:=z
   rw [hk] at z
   rcases z with z | z <;> cases z
 refine wpAny_unbindName_local hk hn mx hcls fun h' u hn' hs=>?_
 obtain ⟨oL,_,_,hoL,_⟩:=id hn
 refine h _ ⟨I.ok,I.os,I.bare,⟨fun b o e n hb hx=>?_,fun b o e n hb hx=>?_,I.base.free,fun b o e hx=>?_,I.base.tups,I.base.frzs,I.base.tbls⟩,⟨_,hn',fun j y v' e1 e2 e3=>?_⟩,fun y c e=>?_,I.free,I.freeC,fun p hp=>?_,fun b ob e=>?_,by simpa using I.len⟩
 ·exact (hs.2 b (Nat.ne_of_lt (Nat.lt_of_lt_of_le (Heap.lt_size e) I.ok.above))).trans (I.base.keep b o e n hb hx)
 ·obtain ⟨sl,e1⟩:=I.base.slot b o e n hb hx
  exact ⟨sl,(hs.2 b (Nat.ne_of_lt (Nat.lt_of_lt_of_le (Heap.lt_size e) I.ok.above))).trans e1⟩
 ·obtain ⟨o',e1⟩:=I.base.there b o e hx
  exact ⟨o',(hs.2 b (Nat.ne_of_lt (Nat.lt_of_lt_of_le (Heap.lt_size e) I.ok.above))).trans e1⟩
 ·by_cases hj:j=i
  ·subst hj
   rw [List.getElem?_set_self hiσ] at e2
   cases e2
  ·rw [List.getElem?_set_ne (Ne.symm hj)] at e2
   obtain ⟨u',r',q⟩:=hl j y v' e1 e2 e3
   refine ⟨u',r',?_⟩
   rcases q with ⟨k,e⟩ | ⟨k,c,e,z⟩
   ·refine .inl ⟨k,?_⟩
    have:y ≠ x:=fun e=>hj (qjx9 hN e1 (e ▸ hi))
    simp [this,e]
   ·exact .inr ⟨k,c,e,z.sameBut hs (cne y c e)⟩
 ·obtain ⟨w',z⟩:=I.cell y c e
  exact ⟨w',z.sameBut hs (cne y c e)⟩
 ·obtain ⟨e,n,ne,nf,d⟩:=I.pin p hp
  exact ⟨(hs.2 p.1 ne).trans e,n,ne,nf,d⟩
 ·refine (I.hok b ob e).stay (fun c w' hc q=>(hs.2 c ?_).trans q) (fun _ q=>q) fun _ _ q=>q
  rintro rfl
  rcases hc with rfl | hc
  ·rw [I.free] at e; cases e
  ·rw [I.free] at hc; cases hc
theorem CXE.track {E:XK} {e:Value} {s':Shared} {D:Addr} (hD:∀ cls H',E cls none H'->cls=.ref D) (I:Inv X pins σ H s) (c:CXE X.prog X.w X.stack H s E e s') :
  ∃ a H',e=.ref a/\H' a=none/\Inv X pins σ (upd H' a (.ext (ExQ a D))) s'/\E (.ref D) none H':=by
 obtain ⟨a,cls,H',rfl,os,bare,un,ok,⟨hn,hn',oe,vs,T,oT,ts,a0,e1,e2,_⟩,z⟩:=c
 have hc:=hD cls H' z
 subst hc
 have ne:∀ b o,H' b=some o->b ≠ a:=fun b o q z=>by rw [z,hn'] at q; cases q
 have ne0:∀ b o,s.heap.get? b=some o->b ≠ a:=fun b o q z=>by rw [z,hn] at q; cases q
 refine ⟨a,H',rfl,hn',I.call' os ⟨un.keep,un.slot,fun b o e n hx=>?_,un.there,fun b xs q=>?_,fun b o u q=>?_,fun b ps q=>?_⟩ (fun b o q=>?_) bare (fun b z=>absurd z (by simp)),z⟩
 ·rw [qaq9 (ne0 b o e)]; exact un.free b o e n hx
 ·have:=un.tups b xs q
  rw [qaq9 (ne b _ this)]; exact this
 ·have:=un.frzs b o u q
  rw [qaq9 (ne b _ this)]; exact this
 ·obtain ⟨m,this⟩:=un.tbls b ps q
  exact ⟨m,by rw [qaq9 (ne b _ this)]; exact this⟩
 ·by_cases hb:b=a
  ·subst hb
   rw [qaf9] at q
   cases q
   exact ⟨⟨oe,e1,e2⟩,⟨oe,e1⟩,fun h1 h2 ⟨ox,q1,q2⟩ k=>⟨ox,k ox q1,q2⟩⟩
  ·rw [qaq9 hb] at q
   refine (ok b o q).stay (fun _ _ _ z=>z) (fun c z=>?_) fun c xs z=>?_
   ·rw [qaq9 (ne c _ z)]; exact z
   ·rw [qaq9 (ne c _ z)]; exact z
def clsV:V->Option Value
 | .ref C=>some (.ref C)
 | .ty T=>some (.type T)
 | _=>none
theorem qou9 {v:V} {u c:Value} (r:RelV v u) (h:clsV v=some c):u=c:=by
 cases v <;> cases h
 ·exact r
 ·exact r
theorem call_isiX:CallR X (.builtin "isinstance") (fun xs H Q=>∃ (a D:Addr) (c:V) (b:Bool),xs=[.ref a,c]/\H a=some (.ext (ExQ a D))/\ExK X.K D /\
  ((∃ v,clsV c=some v/\W.kitOne X.K (.ref D) v=some b)\/∃ tp vs its,c=.ref tp/\SqT X.K H tp vs/\vs.map clsV=its.map some/\W.kitAny X.K (.ref D) its=some b)/\Q (.bl b) H):=by
 intro pins s σ H xs us Q I r h
 obtain ⟨a,D,c,b,rfl,ea,ck,alt,q⟩:=h
 obtain ⟨u,v,rfl,r1,r2⟩:=Vals.two r
 cases (show u=Value.ref a from r1)
 obtain ⟨ex,_⟩:=(show ObjOk X.prog X.w H s.heap a (.ext (ExQ a D)) from I.hok a _ ea)
 rcases alt with ⟨w',h1,h2⟩ | ⟨tp,vs,its,rfl,h1,h2,h3⟩
 ·cases qou9 r2 h1
  exact W.kia_one (qpf9 ck) I.kIn ex h2 (fun z=>nomatch z) fun tk=>⟨.bl b,H,I.tok tk,rfl,q⟩
 ·cases (show v=Value.ref tp from r2)
  obtain ⟨its',r3,⟨o,o1,o2,n,o3⟩,hz⟩:=I.tuple h1
  have e:its'=its:=by
   clear h3 o3 h1 hz
   induction r3 generalizing its with
   | nil=>cases its with | nil=>rfl | cons _ _=>cases h2
   | cons ra _ ih =>
    cases its with
    | nil=>cases h2
    | cons y ys =>
     rw [List.map_cons,List.map_cons,List.cons.injEq] at h2
     rw [qou9 ra h2.1,ih _ h2.2]
  subst e
  obtain ⟨oc,od,odt,osl⟩:=o
  cases o2
  cases o3
  exact W.kia_tup (qpf9 ck) I.kIn ex o1 h3 (fun z=>nomatch z) fun tk=>⟨.bl b,H,I.tok tk,rfl,q⟩
end
def tTryAs (K:W.Frag) (C:Addr) (i:Nat) (tb:XK->TS) (th:TS):TS:=fun D σ H=>∃ (E:XK) (G:Addr) (bm':List Value),tb E D σ H/\(∀ cls H',E cls none H'->cls=.ref G)/\ExC K G bm'/\(Value.ref G :: bm').contains (.ref C)=true /\
 ∀ (a:Addr) (H':Hp),E (.ref G) none H'->H' a=none->th { nx:=fun σ' H2=>D.nx (σ'.set i none) H2,rt:=D.rt,bk:=fun σ' H2=>D.bk (σ'.set i none) H2,ct:=fun σ' H2=>D.ct (σ'.set i none) H2 } (σ.set i (some (.ref a))) (upd H' a (.ext (ExQ a G)))
section
variable {X:Cx} {body suite:List Stmt} {b0:Stmt} {tb:XK->TS} {th:TS} {C:Addr} {bm:List Value} {x n:Str} {i:Nat} {np hpos pos:Pos}
theorem ps_tryAs (hb:PSx X body tb) (c:ExC X.K C bm) (hg:Gl X x) (hm:X.mg x=some (.ref C)) (O:Own X) (hs:∀ a,PSs (X.inH a) (b0 :: suite) th) (hN:X.N.Nodup) (hi:X.N[i]?=some n) (hk:X.env.scope.names.lookup n=some .local) (hdb:(x == ("__debug__" : Str))=false:=by decide) :
  PS X (.Try body [.ExceptHandler (some (.Name x np)) (some n) (b0 :: suite) hpos] [] [] pos) (tTryAs X.K C i tb th):=by
 intro pins s σ H D I ⟨E,G,bm',h1,hG,c',hc,h2⟩
 refine wpAny_Try_except (wpAny_mono (hb E pins s σ H D I h1) (fun f s1 q=>?_) (fun e s1 c1=>?_))
 ·cases f with
  | next=>exact wpAny_execs_nil q
  | ret v=>exact q
  | brk=>exact q
  | cont=>exact q
 obtain ⟨H1,s0,I1,c1⟩:=c1
 refine qpg9 I1 c1 O I.ok.frames fun s3 c3=>?_
 obtain ⟨a,cls,H',rfl,J,⟨oe,e1,e2⟩,z⟩:=c3.inv I1
 have ec:=hG cls H' z
 subst ec
 obtain ⟨nm,q,N,bs,hdct,sn,sub,ab,col,dd,k0,k1,k2,k3,k5,l1,_⟩:=c.ex
 obtain ⟨nm',q',N',bs',hdct',sn',sub',ab',col',dd',k0',k1',k2',k3',k5',l1',_⟩:=c'.ex
 refine wpAny_handleBy_cons (codeAny_handlers_test ?_) (fun z=>nomatch z)
 refine Calls.Name_function_global I.ok.kind hg (Calls.loadGlobal_global (by rw [I.ok.glob]; exact I.mod.glob.keeps J.bk) hm ?_) hdb
 obtain ⟨h,g,d,t,os⟩:=s3
 refine qmu9 (J.kIn _ _ l1) (J.kIn _ _ l1') e1 e2 c.bx ?_
 rw [hc]
 refine codeAny_handlers_suite_as (qml9 I1 c3 fun s4 c4=>?_)
 obtain ⟨a4,H4,e4,n4,J4,z4⟩:=c4.track hG I1
 cases e4
 refine qgn9 J4 hN hi (.inl hk) (v:=.ref a) rfl (fun s5 J5=>?_) (.inr hk)
 refine wpAny_mono (hs a pins s5 _ _ _ (J5.inH a) (h2 a H4 z4 n4)) (fun f s6 q6=>?_) fun _ _ z=>z.elim
 have fin:∀ {σ':St} {H2:Hp} {Q':Shared->Prop},Inv (X.inH a) pins σ' H2 s6->(∀ s7,Inv X pins (σ'.set i none) H2 s7->Q' s7)->wpAny (model X.prog X.w) X.A (do bindName X.env n .none; unbindBehindTheSuite X.env n hpos) (fun _ s7=>Q' s7) X.xe s6:=fun {σ' H2 Q'} J6 qq=>by
  have J6:=J6.outH I.ok
  refine wpAny_bind (wpAny_bindName (qgn9 J6 hN hi (.inl hk) (v:=.non) rfl (fun s7 J7=>?_) (.inr hk)))
  unfold unbindBehindTheSuite
  have hl:i < σ'.length:=by rw [J6.len]; exact (List.getElem?_eq_some_iff.mp hi).1
  refine wpAny_onRaise (unbind_ok J7 hN hi hk (List.getElem?_set_self hl) fun s8 J8=>qq s8 ?_)
  rw [List.set_set] at J8
  exact J8
 cases f with
 | next =>
  obtain ⟨σ',H2,J6,q7⟩:=q6
  exact fin J6 fun s7 J7=>⟨_,H2,J7,q7⟩
 | brk =>
  obtain ⟨σ',H2,J6,q7⟩:=q6
  exact fin J6 fun s7 J7=>⟨_,H2,J7,q7⟩
 | cont =>
  obtain ⟨σ',H2,J6,q7⟩:=q6
  exact fin J6 fun s7 J7=>⟨_,H2,J7,q7⟩
 | ret u =>
  obtain ⟨v,σ',H2,J6,r,q7⟩:=q6
  exact fin J6 fun s7 J7=>⟨v,_,H2,J7,r,q7⟩
end
structure QEx (X:Cx) (e:Expr) (t:XK->TE):Prop where
 run:PEx X e t
structure QSx (X:Cx) (st:List Stmt) (t:XK->TS):Prop where
 run:PSx X st t
section
variable {X:Cx} {E:XK} {x n:Str} {p np cpos hpos pos:Pos} {e:Expr} {es:List Expr} {t:TA} {k i:Nat} {ps:List Str} {sp:Sp} {body suite:List Stmt} {b0:Stmt} {tb:XK->TS} {th:TS} {C:Addr} {bm:List Value}
theorem qfg9 (M:Makes X E) (c:ExC X.K C bm) (hg:Gl X x) (hm:X.mg x=some (.ref C)) (ha:QA X (e :: es) t) (hc:X.calm=true:=by rfl) (hdb:(x == ("__debug__" : Str))=false:=by decide)
  (he:qbk9 e=true:=by rfl) (hpl:(backTo cpos (starEach (e :: es) X.env)).any (·.1)=false:=by rfl):QS X (.Raise (some (.Call (.Name x np) (e :: es) [] cpos)) none pos) (tRaise C E t):=⟨ps_raise M c hg hm ha.run hc hdb (se_of he) hpl⟩
theorem qje9 (c:CalleeX X.prog X.w X.K X.mg X.base k x ps sp) (hr:Room k X.A) (hg:Gl X x) (hx:qgz9 (CXE X.prog X.w) X E) (ha:QA X (e :: es) t) (hdb:(x == ("__debug__" : Str))=false:=by decide)
  (he:qbk9 e=true:=by rfl) (hpl:(backTo pos (starEach es X.env)).any (·.1)=false:=by rfl):QE X (.Call (.Name x p) (e :: es) [] pos) (tCall sp [] E t):=⟨pe_fnX c hr hg hx ha.run hdb (se_of he) hpl⟩
theorem qex_fn (c:CalleeX X.prog X.w X.K X.mg X.base k x ps sp) (hr:Room k X.A) (hg:Gl X x) (ha:QA X.nox (e :: es) t) (hdb:(x == ("__debug__" : Str))=false:=by decide)
  (he:qbk9 e=true:=by rfl) (hpl:(backTo pos (starEach es X.env)).any (·.1)=false:=by rfl):QEx X (.Call (.Name x p) (e :: es) [] pos) (fun E=>tCall sp [] E t):=⟨pex_fn c hr hg ha.run hdb (se_of he) hpl⟩
theorem qpl9 {te:XK->TE} (he:QEx X e te) (hs:swapsWith e none pos.line X.env=pure false:=by rfl):QSx X [.Expr e pos] (fun E=>tDrop (te E)):=⟨psx_expr he.run hs⟩
theorem qs_tryAs (hb:QSx X body tb) (c:ExC X.K C bm) (hg:Gl X x) (hm:X.mg x=some (.ref C)) (O:Own X) (hs:∀ a,QSs (X.inH a) (b0 :: suite) th) (hN:X.N.Nodup) (hi:X.N[i]?=some n) (hk:X.env.scope.names.lookup n=some .local) (hdb:(x == ("__debug__" : Str))=false:=by decide) :
  QS X (.Try body [.ExceptHandler (some (.Name x np)) (some n) (b0 :: suite) hpos] [] [] pos) (tTryAs X.K C i tb th):=⟨ps_tryAs hb.run c hg hm O (fun a=>(hs a).run) hN hi hk hdb⟩
theorem qic9 (hg:Gl X x) (hm:X.mg x=some (.ref C)) (hd:(x == ("__debug__" : Str))=false:=by decide):QE X (.Name x pos) (tC (.ref C)):=⟨pe_glob hg hm rfl hd⟩
theorem qe_tyB {T:String} (hg:Gl X x) (hm:X.mg x=none) (hv:bootBuiltins x=some (.type T)) (hn:x ≠ "__name__" := by decide) (hd:(x == ("__debug__" : Str))=false:=by decide):QE X (.Name x pos) (tC (.ty T)):=⟨pe_bltn hg hm hv rfl hn hd⟩
theorem qcf9:QCall X (.builtin "isinstance") (fun xs H Q=>∃ (a D:Addr) (c:V) (b:Bool),xs=[.ref a,c]/\H a=some (.ext (ExQ a D))/\ExK X.K D /\
  ((∃ v,clsV c=some v/\W.kitOne X.K (.ref D) v=some b)\/∃ tp vs its,c=.ref tp/\SqT X.K H tp vs/\vs.map clsV=its.map some/\W.kitAny X.K (.ref D) its=some b)/\Q (.bl b) H):=⟨call_isiX⟩
end
section
variable {P:Program} {w:World} {K:W.Frag} {mg:Str->Option Value} {base:Heap} {N:List Str} {qual:Str} {scope:Scope} {f:Addr} {cd:Value} {A:Around} {outer:List Env} {s:Shared} {H:Hp} {E:XK}
theorem own0 {CX:CXT}:Own (cxOf CX P w K mg base N qual scope f cd A outer s H E).nox:=⟨rfl,rfl,rfl⟩
theorem Fun.okX {x:Str} {st:Stmt} {fd:FuncData} {ps:List Str} {k:Nat} {sp:Sp} (F:Fun K x qual st f fd) (S:FnScope N ps (qab9 st)) (len:∀ vs H Q E,sp vs H Q E->vs.length=ps.length)
  (hbody:∀ (cdv:Value) (A:Around) (outer:List Env) (s:Shared) (H:Hp) (vs:List V) (Q:VK) (E:XK),Room k (A.deeper (envOfC qual (qab9 st) s.heap.objs.size f cdv))->sp vs H Q E ->
   ∃ t,QSs (cxE P w K mg base N qual (qab9 st) f cdv A outer s H E) (qag9 st) t/\t { nx:=fun _ H'=>Q .non H',rt:=Q } (start N vs) H):FnOk P w K mg base (CXE P w) (k+1) f fd ps sp:=by
 obtain ⟨oc,od,kV,doc,pm,an,cdv,ct,osl,rfl,lk,hcd⟩:=F.ex
 refine fn_of lk hcd S len fun A outer s H vs Q E hr hsp=>?_
 obtain ⟨t,h1,h2⟩:=hbody cdv A outer s H vs Q E hr hsp
 exact ⟨t,h1.run,h2⟩
end
section
variable {K:W.Frag} {C D:Addr}
theorem exc_of {nm q N bs bm hdct sn sub ab col dd k0 k1 k2 k3 k5} (l:K.lookup C=some (excClassObj nm q C N bs bm hdct sn sub ab col dd k0 k1 k2 k3 k5 "ValueError.__new__"))
  (e:W.excIn K C [.type "ValueError",.type "Exception",.type "BaseException",.type "object"] "ValueError.__new__" = true) (b:bm.contains (.type "BaseException")=true):ExC K C bm:=by
 unfold W.excIn at e
 rw [l] at e
 simp only [excClassObj,Bool.and_eq_true,beq_iff_eq] at e
 obtain ⟨⟨⟨_,ht⟩,hok⟩,hni⟩:=e
 exact ⟨⟨nm,q,N,bs,hdct,sn,sub,ab,col,dd,k0,k1,k2,k3,k5,l,hok,hni⟩,ht,b⟩
theorem kit_self:W.kitOne K (.ref D) (.ref D)=some true:=by
 unfold W.kitOne
 rw [if_pos (by simp)]
theorem kit_no {cd:ClassData} (c:W.clsIn K C=some cd) (t:W.typeIn K (.ref C)=some (.type "type")) (s:W.subIn K (.ref D) (.ref C)=some false) (ne:D ≠ C):W.kitOne K (.ref D) (.ref C)=some false:=by
 unfold W.kitOne
 rw [if_neg (by simp [ne])]
 unfold W.kitCls
 dsimp only
 rw [c,t]
 simp only [Option.isSome_some,Bool.true_and,beq_self_eq_true,if_true]
 exact s
theorem kit_ty {T:String} (m:W.kitMeta T=true) (s:W.subIn K (.ref D) (.type T)=some true):W.kitOne K (.ref D) (.type T)=some true:=by
 unfold W.kitOne
 rw [if_neg (by simp)]
 unfold W.kitCls
 dsimp only
 rw [if_pos m]
 exact s
end
section
variable {X:Cx} {body suite1 suite2:List Stmt} {b1 b2:Stmt} {tb:XK->TS} {th1 th2:TS} {C1 C2:Addr} {bm1 bm2:List Value} {x1 x2 n:Str} {i:Nat} {np1 hpos1 np2 hpos2 pos:Pos}
end
section
variable {P:Program} {w:World} {K:W.Frag} {mg:Str->Option Value} {base:Heap} {k:Nat} {f:Addr} {fd:FuncData} {ps:List Str} {sp sp1 sp2:Sp} {x:Str}
theorem FnOk.toX (F:FnOk P w K mg base CX0 k f fd ps sp):FnOk P w K mg base (CXE P w) k f fd ps sp:=⟨F.len,fun A outer s H args us vs Q E hr he hb hv hs=>codeAny_mono (F.run A outer s H args us vs Q E hr he hb hv hs) fun r s' h=>by
 cases r with
 | error e=>exact False.elim h
 | ok fl=>cases fl <;> exact h⟩
theorem FnOk.or {CX:CXT} (F1:FnOk P w K mg base CX k f fd ps sp1) (F2:FnOk P w K mg base CX k f fd ps sp2):FnOk P w K mg base CX k f fd ps (fun vs H Q E=>sp1 vs H Q E\/sp2 vs H Q E) :=
 ⟨fun vs H Q E h=>h.elim (F1.len vs H Q E) (F2.len vs H Q E),fun A outer s H args us vs Q E hr he hb hv hs=>hs.elim (F1.run A outer s H args us vs Q E hr he hb hv) (F2.run A outer s H args us vs Q E hr he hb hv)⟩
end
end L2
namespace Ma
def Mu (d:Int) (f:Int->Int) (m:Nat):Prop :=
 ∃ J V:List Int,J.length+V.length<=m/\(∀ b,0<=b->b < d->f b+2<=f (b+1)->b∈J)/\∀ t,0<=t->t < d->f t=f (t+1)->f t % d∈V
theorem pw_mem {R:List T3} {p:T3->T3->Prop} (h:R.Pairwise p):∀ u∈R,∀ v∈R,u=v\/p u v\/p v u:=by
 induction R with
 | nil=>intro u hu; cases hu
 | cons x l ih =>
  have h':=List.pairwise_cons.mp h
  intro u hu v hv
  rcases List.mem_cons.mp hu with rfl | hu'
  ·rcases List.mem_cons.mp hv with rfl | hv'
   ·exact .inl rfl
   ·exact .inr (.inl (h'.1 v hv'))
  ·rcases List.mem_cons.mp hv with rfl | hv'
   ·exact .inr (.inr (h'.1 u hu'))
   ·exact ih h'.2 u hu' v hv'
theorem CK.end_at {d:Int} {R:List T3} {f:Int->Int} (h:CK d R) (T:Tells d R f):∀ w∈R,0<=w.2.1/\w.2.1 < d/\f w.2.1 < f (w.2.1+1)/\(w.2.1+1 < d->f (w.2.1+1)=f w.2.1+1->f (w.2.1+1)=f (w.2.1+1+1)):=by
 intro w hw
 have C:=h.can T
 obtain ⟨m0,m1,m2,m3⟩:=C.mem w hw
 obtain ⟨e1,e2⟩:=m3 w.2.1 m1 (Int.le_refl _)
 refine ⟨by omega,m2,e2,fun k1 k2=>?_⟩
 have mo:=(h.rise T).mono (w.2.1+1) (w.2.1+1+1) (by omega)
 rcases (by omega:f (w.2.1+1)=f (w.2.1+1+1)\/f (w.2.1+1) < f (w.2.1+1+1)) with z | k3
 ·exact z
 exfalso
 obtain ⟨v,hv,v1,v2⟩:=C.cov (w.2.1+1) (by omega) k1 k3
 obtain ⟨e3,_⟩:=(C.mem v hv).2.2.2 _ v1 v2
 rcases pw_mem C.srt w hw v hv with rfl | ⟨p,q⟩ | ⟨p,q⟩
 ·omega
 ·exact q (by omega) (by omega)
 ·omega
theorem mod_ne {d x y:Int} (l:x < y) (l2:y < x+d):x % d ≠ y % d:=fun e=>by
 have a1:=Int.emod_add_mul_ediv x d
 have a2:=Int.emod_add_mul_ediv y d
 have k1:0 < d * (y / d) - d * (x / d):=by omega
 have k2:d * (y / d) - d * (x / d) < d:=by omega
 rw [<- Int.mul_sub] at k1 k2
 generalize y / d - x / d=k at k1 k2
 rcases (by omega:k<=0\/1<=k) with y | y
 ·have:=Int.mul_nonpos_of_nonneg_of_nonpos (show 0<=d by omega) y
  omega
 ·have:=Int.mul_le_mul_of_nonneg_left y (show 0<=d by omega)
  omega
theorem mu_len {d:Int} {R:List T3} {f:Int->Int} {m:Nat} (h:CK d R) (T:Tells d R f) (M:Mu d f m):R.length<=m+1:=by
 obtain ⟨J,V,hm,hJ,hV⟩:=M
 have hd:=h.d0
 have rf:=h.rise T
 let key:T3->Nat × Int:=fun w=>if w.2.1+1=d then (0,0) else if f w.2.1+2<=f (w.2.1+1) then (1,w.2.1) else (2,f (w.2.1+1) % d)
 have nd:(R.map key).Nodup:=by
  refine List.pairwise_map.mpr (h.srt.imp_of_mem fun {u v} hu hv p=>?_)
  obtain ⟨u0,u1,u2,u3⟩:=h.end_at T u hu
  obtain ⟨v0,v1,v2,v3⟩:=h.end_at T v hv
  have vl:=(h.win v hv).2.1
  intro z
  dsimp only [key] at z
  rw [if_neg (by omega)] at z
  split at z
  ·split at z
   ·cases (Prod.mk.inj z).1
   ·split at z
    ·have:=(Prod.mk.inj z).2
     omega
    ·cases (Prod.mk.inj z).1
  ·split at z
   ·cases (Prod.mk.inj z).1
   ·split at z
    ·cases (Prod.mk.inj z).1
    ·have m1:=rf.mono (u.2.1+1) v.2.1 (by omega)
     have m2:=rf.mono (v.2.1+1) (u.2.1+d) (by omega)
     have m3:=rf.mul u.2.1 1
     rw [Int.mul_one] at m3
     exact mod_ne (d:=d) (show f (u.2.1+1) < f (v.2.1+1) by omega) (by omega) (Prod.mk.inj z).2
 have:=qkk9 (l:=R.map key) (L:=(0,0) :: (J.map (fun b=>(1,b)) ++ V.map (fun b=>(2,b)))) nd fun x hx=>by
  obtain ⟨w,hw,rfl⟩:=List.mem_map.mp hx
  obtain ⟨b0,b1,e1,e2⟩:=h.end_at T w hw
  show (if w.2.1+1=d then (0,0) else if f w.2.1+2<=f (w.2.1+1) then (1,w.2.1) else (2,f (w.2.1+1) % d))∈_
  split
  ·exact List.mem_cons_self ..
  ·refine List.mem_cons_of_mem _ ?_
   split
   ·exact List.mem_append_left _ (List.mem_map.mpr ⟨_,hJ _ b0 b1 (by assumption),rfl⟩)
   ·exact List.mem_append_right _ (List.mem_map.mpr ⟨_,hV (w.2.1+1) (by omega) (by omega) (e2 (by omega) (by omega)),rfl⟩)
 simp only [List.length_map,List.length_cons,List.length_append] at this
 omega
theorem jn_cases (late:Bool) (x y:Int):(late=true/\x<=jn late x y/\y<=jn late x y/\(jn late x y=x\/jn late x y=y))\/(late=false/\jn late x y<=x/\jn late x y<=y/\(jn late x y=x\/jn late x y=y)):=by
 unfold jn
 cases late
 ·refine .inr ⟨rfl,?_⟩
  simp only [Bool.false_eq_true,if_false]
  split <;> omega
 ·refine .inl ⟨rfl,?_⟩
  simp only [if_true]
  split <;> omega
theorem mu_jn {d:Int} {late:Bool} {f g:Int->Int} {m1 m2:Nat} (rf:Rise d f) (rg:Rise d g) (M1:Mu d f m1) (M2:Mu d g m2):Mu d (fun x=>jn late (f x) (g x)) (m1+m2):=by
 obtain ⟨J1,V1,h1,j1,v1⟩:=M1
 obtain ⟨J2,V2,h2,j2,v2⟩:=M2
 refine ⟨J1 ++ J2,V1 ++ V2,by simp only [List.length_append]; omega,fun b b0 b1 e=>?_,fun t t0 t1 e=>?_⟩
 ·have f1:=rf.mono b (b+1) (by omega)
  have g1:=rg.mono b (b+1) (by omega)
  have c0:=jn_cases late (f b) (g b)
  have c1:=jn_cases late (f (b+1)) (g (b+1))
  dsimp only at e
  have:f b+2<=f (b+1)\/g b+2<=g (b+1):=by
   rcases c0 with ⟨a0,a1,a2,a3⟩ | ⟨a0,a1,a2,a3⟩ <;> rcases c1 with ⟨b0,b1,b2,b3⟩ | ⟨b0,b1,b2,b3⟩
   ·omega
   ·rw [a0] at b0; cases b0
   ·rw [a0] at b0; cases b0
   ·omega
  rcases this with z | z
  ·exact List.mem_append_left _ (j1 b b0 b1 z)
  ·exact List.mem_append_right _ (j2 b b0 b1 z)
 ·have f1:=rf.mono t (t+1) (by omega)
  have g1:=rg.mono t (t+1) (by omega)
  have c0:=jn_cases late (f t) (g t)
  have c1:=jn_cases late (f (t+1)) (g (t+1))
  dsimp only at e ⊢
  have:(f t=f (t+1)/\jn late (f t) (g t)=f t)\/(g t=g (t+1)/\jn late (f t) (g t)=g t):=by
   rcases c0 with ⟨a0,a1,a2,a3⟩ | ⟨a0,a1,a2,a3⟩ <;> rcases c1 with ⟨b0,b1,b2,b3⟩ | ⟨b0,b1,b2,b3⟩
   ·omega
   ·rw [a0] at b0; cases b0
   ·rw [a0] at b0; cases b0
   ·omega
  rcases this with ⟨z,w⟩ | ⟨z,w⟩
  ·rw [w]; exact List.mem_append_left _ (v1 t t0 t1 z)
  ·rw [w]; exact List.mem_append_right _ (v2 t t0 t1 z)
theorem Rise.at_mod {d:Int} {g:Int->Int} (rg:Rise d g) (x:Int):g (x % d)=g x - d * (x / d)/\g (x % d+1)=g (x+1) - d * (x / d):=by
 have ed:=Int.emod_add_mul_ediv x d
 have p0:=rg.mul (x % d) (x / d)
 have p1:=rg.mul (x % d+1) (x / d)
 rw [ed] at p0
 rw [show x % d+1+d * (x / d)=x+1 by omega] at p1
 omega
theorem qoa9 {d x k:Int}:(x - d * k) % d=x % d:=by
 rw [Int.sub_eq_add_neg,<- Int.mul_neg,Int.add_mul_emod_self_left]
theorem mu_comp {d:Int} (hd:0 < d) {f g:Int->Int} {m1 m2:Nat} (rf:Rise d f) (rg:Rise d g) (M1:Mu d f m1) (M2:Mu d g m2):Mu d (fun x=>g (f x)) (m1+m2):=by
 obtain ⟨J1,V1,h1,j1,v1⟩:=M1
 obtain ⟨J2,V2,h2,j2,v2⟩:=M2
 classical
 let back:Int->Int:=fun x=>if h:∃ b,0<=b/\b < d/\f b % d=x/\f b < f (b+1) then h.choose else 0
 have hback:∀ b,0<=b->b < d->f b < f (b+1)->back (f b % d)=b:=fun b b0 b1 l=>by
  have ex:∃ c,0<=c/\c < d/\f c % d=f b % d/\f c < f (c+1):=⟨b,b0,b1,rfl,l⟩
  simp only [back]
  rw [dif_pos ex]
  obtain ⟨c0,c1,c2,c3⟩:=ex.choose_spec
  generalize ex.choose=c at *
  rcases (by omega:c < b\/c=b\/b < c) with z | z | z
  ·have n1:=rf.mono (c+1) b (by omega)
   have n2:=rf.mono (b+1) (c+d) (by omega)
   have n3:=rf.mul c 1
   rw [Int.mul_one] at n3
   exact absurd c2 (mod_ne (by omega) (by omega))
  ·exact z
  ·have n1:=rf.mono (b+1) c (by omega)
   have n2:=rf.mono (c+1) (b+d) (by omega)
   have n3:=rf.mul b 1
   rw [Int.mul_one] at n3
   exact absurd c2.symm (mod_ne (by omega) (by omega))
 refine ⟨J1 ++ J2.map back,V1.map (fun u=>g u % d) ++ V2,by simp only [List.length_append,List.length_map]; omega,fun b b0 b1 e=>?_,fun t t0 t1 e=>?_⟩
 ·dsimp only at e
  have fm:=rf.mono b (b+1) (by omega)
  rcases (by omega:f b+2<=f (b+1)\/f (b+1)=f b+1\/f (b+1)=f b) with z | z | z
  ·exact List.mem_append_left _ (j1 b b0 b1 z)
  ·refine List.mem_append_right _ (List.mem_map.mpr ⟨f b % d,?_,hback b b0 b1 (by omega)⟩)
   have p:=rg.at_mod (f b)
   rw [z] at e
   exact j2 _ (Int.emod_nonneg _ (by omega)) (Int.emod_lt_of_pos _ hd) (by omega)
  ·rw [z] at e
   omega
 ·dsimp only at e ⊢
  have fm:=rf.mono t (t+1) (by omega)
  by_cases z:f t=f (t+1)
  ·refine List.mem_append_left _ (List.mem_map.mpr ⟨f t % d,v1 t t0 t1 z,?_⟩)
   rw [(rg.at_mod (f t)).1,qoa9]
  ·refine List.mem_append_right _ ?_
   have p:=rg.at_mod (f t)
   have q1:=rg.mono (f t) (f t+1) (by omega)
   have q2:=rg.mono (f t+1) (f (t+1)) (by omega)
   have:=v2 _ (Int.emod_nonneg (f t) (by omega)) (Int.emod_lt_of_pos (f t) hd) (by omega)
   rw [p.1,qoa9] at this
   exact this
theorem mu_of {d:Int} {R:List T3} {f:Int->Int} (h:CK d R) (T:Tells d R f):Mu d f (2 * R.length):=by
 have C:=h.can T
 have hd:=h.d0
 have rf:=h.rise T
 refine ⟨R.map (·.2.1),R.map (fun w=>(w.1+w.2.2) % d),by simp only [List.length_map]; omega,fun b b0 b1 e=>?_,fun t t0 t1 e=>?_⟩
 ·obtain ⟨w,hw,w1,w2⟩:=C.cov b b0 b1 (by omega)
  obtain ⟨_,_,_,m3⟩:=C.mem w hw
  refine List.mem_map.mpr ⟨w,hw,?_⟩
  rcases (by omega:w.2.1=b\/b+1<=w.2.1) with z | z
  ·exact z
  ·have a1:=(m3 b w1 w2).1
   have a2:=(m3 (b+1) (by omega) z).1
   omega
 ·obtain ⟨x,x0,x1,x2,x3⟩:=qoh9 hd rf t
  have ne:t ≠ x:=fun z=>by subst z; omega
  have fx:=rf.mono t (x - 1) (by omega)
  have fx':=rf.mono (x - 1) x (by omega)
  have p:=rf.at_mod x
  have pm:=rf.at_mod (x - 1)
  obtain ⟨w,hw,w1,w2⟩:=C.cov (x % d) (Int.emod_nonneg _ (by omega)) (Int.emod_lt_of_pos _ hd) (by omega)
  obtain ⟨m0,_,_,m3⟩:=C.mem w hw
  have a1:=(m3 _ w1 w2).1
  refine List.mem_map.mpr ⟨w,hw,?_⟩
  rcases (by omega:w.1=x % d\/w.1<=x % d - 1) with z | z
  ·rw [z,<- a1,p.1,qoa9,x2]
  ·have a2:=(m3 (x % d - 1) z (by omega)).1
   have:=rf.mul (x % d - 1) (x / d)
   have ed:=Int.emod_add_mul_ediv x d
   rw [show x % d - 1+d * (x / d)=x - 1 by omega] at this
   omega
def MuR (d:Int) (R:List T3) (m:Nat):Prop:=CK d R/\(R ≠ []->Mu d (bf d R) m)
theorem Mu.congr {d:Int} {f g:Int->Int} {m:Nat} (M:Mu d f m) (e:∀ t,f t=g t):Mu d g m:=by
 have:f=g:=funext e
 exact this ▸ M
theorem Mu.le {d:Int} {f:Int->Int} {m m':Nat} (M:Mu d f m) (l:m<=m'):Mu d f m':=by
 obtain ⟨J,V,h,a,b⟩:=M
 exact ⟨J,V,by omega,a,b⟩
theorem MuR.len {d:Int} {R:List T3} {m:Nat} (h:MuR d R m):R.length<=m+1:=by
 by_cases z:R=[]
 ·rw [z]; exact Nat.zero_le _
 ·exact mu_len h.1 (tells_bf z) (h.2 z)
theorem mur_nil {d:Int} (hd:0 < d) {m:Nat}:MuR d [] m:=⟨ck_nil hd,fun z=>absurd rfl z⟩
theorem mur_one {d:Int} {w:T3} (h:CK d [w]):MuR d [w] 2:=⟨h,fun z=>mu_of h (tells_bf z)⟩
theorem MuR.le {d:Int} {R:List T3} {m m':Nat} (h:MuR d R m) (l:m<=m'):MuR d R m':=⟨h.1,fun z=>(h.2 z).le l⟩
theorem MuR.min {d:Int} {R R1 R2:List T3} {m1 m2:Nat} (h:CK d R) (h1:MuR d R1 m1) (h2:MuR d R2 m2) (e:∀ t,bt d R t=omin (bt d R1 t) (bt d R2 t)):MuR d R (m1+m2):=by
 by_cases z1:R1=[]
 ·subst z1
  have:R=R2:=h.uniq h2.1 fun t=>by rw [e t,bt_nil]; cases bt d R2 t <;> rfl
  rw [this]
  exact h2.le (by omega)
 by_cases z2:R2=[]
 ·subst z2
  have:R=R1:=h.uniq h1.1 fun t=>by rw [e t,bt_nil]; cases bt d R1 t <;> rfl
  rw [this]
  exact h1.le (by omega)
 refine ⟨h,fun z=>(mu_jn (late:=false) (h1.1.rise (tells_bf (d:=d) z1)) (h2.1.rise (tells_bf (d:=d) z2)) (h1.2 z1) (h2.2 z2)).congr fun t=>?_⟩
 have a:=tells_bf (d:=d) z t
 rw [e t,(tells_bf (d:=d) z1).min (tells_bf (d:=d) z2) t] at a
 exact Option.some.inj a
theorem MuR.max {d:Int} {R R1 R2:List T3} {m1 m2:Nat} (h:CK d R) (h1:MuR d R1 m1) (h2:MuR d R2 m2) (e:∀ t,bt d R t=omax (bt d R1 t) (bt d R2 t)):MuR d R (m1+m2):=by
 by_cases z1:R1=[]
 ·subst z1
  have:R=[]:=h.uniq (ck_nil h.d0) fun t=>by rw [e t,bt_nil]; cases bt d R2 t <;> rfl
  rw [this]
  exact mur_nil h.d0
 by_cases z2:R2=[]
 ·subst z2
  have:R=[]:=h.uniq (ck_nil h.d0) fun t=>by rw [e t,bt_nil]; cases bt d R1 t <;> rfl
  rw [this]
  exact mur_nil h.d0
 refine ⟨h,fun z=>(mu_jn (late:=true) (h1.1.rise (tells_bf (d:=d) z1)) (h2.1.rise (tells_bf (d:=d) z2)) (h1.2 z1) (h2.2 z2)).congr fun t=>?_⟩
 have a:=tells_bf (d:=d) z t
 rw [e t,(tells_bf (d:=d) z1).max (tells_bf (d:=d) z2) t] at a
 exact Option.some.inj a
theorem MuR.bind {d:Int} {R R1 R2:List T3} {m1 m2:Nat} (h:CK d R) (h1:MuR d R1 m1) (h2:MuR d R2 m2) (e:∀ t,bt d R t=obind (bt d R1) (bt d R2) t):MuR d R (m1+m2):=by
 by_cases z1:R1=[]
 ·subst z1
  have:R=[]:=h.uniq (ck_nil h.d0) fun t=>by rw [e t]; rfl
  rw [this]
  exact mur_nil h.d0
 by_cases z2:R2=[]
 ·subst z2
  have:R=[]:=h.uniq (ck_nil h.d0) fun t=>by rw [e t]; unfold obind; cases bt d R1 t <;> rfl
  rw [this]
  exact mur_nil h.d0
 refine ⟨h,fun z=>(mu_comp h.d0 (h1.1.rise (tells_bf (d:=d) z1)) (h2.1.rise (tells_bf (d:=d) z2)) (h1.2 z1) (h2.2 z2)).congr fun t=>?_⟩
 have a:=tells_bf (d:=d) z t
 rw [e t] at a
 unfold obind at a
 rw [tells_bf (d:=d) z1 t] at a
 exact Option.some.inj ((tells_bf (d:=d) z2 _).symm.trans a)
end Ma
namespace L2
open PySem PySem.Spec PyProof.Rows
theorem qhx9 {h base base':Heap} (k:∀ b o,base.get? b=some o->base'.get? b=some o):∀ {l:List Env},h.FunFrames base' l->h.FunFrames base l
 | [],_=>trivial
 | env :: rest,⟨hk,⟨L,o,hf,hn,ho,hd⟩,hr⟩=>⟨hk,⟨L,o,hf,(by
   cases e:base.get? L with
   | none=>rfl
   | some x =>
    rw [k L x e] at hn
    cases hn),ho,hd⟩,qhx9 k hr⟩
theorem FnOk.widen {P:Program} {w:World} {K:W.Frag} {mg:Str->Option Value} {base base':Heap} {CX:CXT} {k:Nat} {f:Addr} {fd:FuncData} {ps:List Str} {sp:Sp} (F:FnOk P w K mg base CX k f fd ps sp) (m:Mod K mg base) (hk:∀ b o,base.get? b=some o->base'.get? b=some o) (hz:base.objs.size<=base'.objs.size) :
  FnOk P w K mg base' CX k f fd ps sp:=⟨F.len,fun A outer s H args us vs Q E hr e0 hb r hsp=>F.run A outer s H args us vs Q E hr ⟨e0.frames,m,fun b o e=>e0.bs b o (hk b o e),Nat.le_trans hz e0.bsz,qhx9 hk e0.funs,e0.frf,e0.hok,e0.bare⟩ hb r hsp⟩
theorem Callee.widen {P:Program} {w:World} {K:W.Frag} {mg:Str->Option Value} {base base':Heap} {k:Nat} {x:Str} {ps:List Str} {sp:Sp} (C:Callee P w K mg base k x ps sp) (m:Mod K mg base) (hk:∀ b o,base.get? b=some o->base'.get? b=some o) (hz:base.objs.size<=base'.objs.size) :
  Callee P w K mg base' k x ps sp:=by
 obtain ⟨f,fd,G,b,kp,m'⟩:=C.ex
 exact ⟨f,fd,G.widen m hk hz,b,kp,m'⟩
def tLam4 (i1 i2:Nat) (P:Addr) (pos:Pos) (qual:Str) (te1 te2 te3:TE) (spG:V->V->Addr->Addr->Sp):TE:=fun σ H Q=>∃ v1 v2,σ[i1]?=some (some v1)/\σ[i2]?=some (some v2)/\te1 σ H fun w1 H1=>te2 σ H1 fun w2 H2=>te3 σ H2 fun w3 H3=>TabOk H3 P pos qual /\
 ∀ fl c' H4,SameT P H3 H4->TabOk H4 P pos qual->H4 c'=some (.ext (CodeQ c' qual))->spG v1 v2 fl c' [w1,w2,w3,.ref fl] H4 Q E0
section
variable {X:Cx} {k:Nat} {x y1 y2:Str} {g c P cy1 cy2:Addr} {gd:FuncData} {ps2 N ps:List Str} {spG:V->V->Addr->Addr->Sp} {e1 e2 e3 body:Expr} {te1 te2 te3:TE} {params:Arguments} {sc:Scope} {lpos p pos:Pos} {clos:List (Str × Addr)}
theorem qhi9 (i1 i2:Nat) (hr:Room k X.A) (hg:Gl X x) (hm:X.mg x=some (.ref g)) (hk:W.keepIn X.K (.ref g)=true) (hbG:Binds X.K gd ps2 []) (hl2:ps2.length=4) (hcode:X.env.code=.ref c) (hC:W.CodeHd X.base c P) (hB:BMain X.mg X.base)
  (hcl:closureFor sc X.env=pure clos)
  (hN1:X.N[i1]?=some y1) (hky1:X.env.kindOf y1=some .cell) (hvy1:Vis X.env.scope y1) (hcy1:X.env.cells.lookup y1=some cy1) (hfy1:X.fn y1=true) (hcly1:clos.lookup y1=some cy1)
  (hN2:X.N[i2]?=some y2) (hky2:X.env.kindOf y2=some .cell) (hvy2:Vis X.env.scope y2) (hcy2:X.env.cells.lookup y2=some cy2) (hfy2:X.fn y2=true) (hcly2:clos.lookup y2=some cy2)
  (honly:∀ z d,clos.lookup z=some d->(z=y1/\d=cy1)\/(z=y2/\d=cy2)) (hNp:N=ps ++ [y1,y2]) (hsy1:sc.names.lookup y1=some .free) (hsy2:sc.names.lookup y2=some .free)
  (h1:PE X e1 te1) (h2:PE X e2 te2) (h3:PE X e3 te3)
  (G:∀ (base':Heap) (fl c':Addr) (v1 v2:V) (pm ctv:Value),Mod X.K X.mg X.base->(∀ b o,X.base.get? b=some o->base'.get? b=some o)->X.base.objs.size<=base'.objs.size->base'.get? fl=some (W.kla_obj "<lambda>" (X.env.qual ++ "<lambda>") params body sc clos pm c' ctv)->qid9 base' sc clos N ps [v1,v2]->FnOk X.prog X.w X.K X.mg base' CX0 k g gd ps2 (spG v1 v2 fl c'))
  (hdb:(x == ("__debug__" : Str))=false:=by decide) (hdef:defaultsOf params X.env=([],[]):=by rfl)
  (he:starEach [e1,e2,e3,.Lambda params body sc lpos] X.env=(false,eval e1 X.env) :: starEach [e2,e3,.Lambda params body sc lpos] X.env:=by rfl) (he2:starEach [e2,e3,.Lambda params body sc lpos] X.env=(false,eval e2 X.env) :: starEach [e3,.Lambda params body sc lpos] X.env:=by rfl)
  (he3:starEach [e3,.Lambda params body sc lpos] X.env=(false,eval e3 X.env) :: starEach [.Lambda params body sc lpos] X.env:=by rfl) (he4:starEach [.Lambda params body sc lpos] X.env=(false,eval (.Lambda params body sc lpos) X.env) :: starEach [] X.env:=by rfl)
  (hpl:(backTo pos (starEach [e2,e3,.Lambda params body sc lpos] X.env)).any (·.1)=false:=by rfl) :
  PE X (.Call (.Name x p) [e1,e2,e3,.Lambda params body sc lpos] [] pos) (tLam4 i1 i2 P lpos (X.env.qual ++ "<lambda>") te1 te2 te3 spG):=by
 intro pins s σ H Q I h
 obtain ⟨v1,v2,hv1,hv2,h⟩:=h
 refine wpAny_Call_Name_kw (qgl9 I hg hm ?_ hdb)
 refine W.callWith_K (h₀:=X.base) I.ok.mod.kin hk ?_ he hpl
 rw [he]
 show wpAny _ _ (spliced ((false,eval e1 X.env) :: backTo pos (starEach [e2,e3,.Lambda params body sc lpos] X.env))) _ _ s
 refine Calls.spliced_cons (thn (h1 pins s σ H _ I h) fun u1 sa z9=>?_)
 obtain ⟨w1,Ha,Ia,r1,ha⟩ := z9
 rw [he2]
 show wpAny _ _ (spliced ((false,eval e2 X.env) :: backTo pos (starEach [e3,.Lambda params body sc lpos] X.env))) _ _ sa
 refine Calls.spliced_cons (thn (h2 pins sa σ Ha _ Ia ha) fun u2 sb z9=>?_)
 obtain ⟨w2,Hb,Ib,r2,hb⟩ := z9
 rw [he3]
 show wpAny _ _ (spliced ((false,eval e3 X.env) :: backTo pos (starEach [.Lambda params body sc lpos] X.env))) _ _ sb
 refine Calls.spliced_cons (thn (h3 pins sb σ Hb _ Ib hb) fun u3 s1 z9=>?_)
 obtain ⟨w3,H1,I1,r3,tab,q1⟩ := z9
 rw [he4]
 show wpAny _ _ (spliced ((false,eval (.Lambda params body sc lpos) X.env) :: backTo pos (starEach [] X.env))) _ _ s1
 refine Calls.spliced_cons (W.kla_eval hdef ?_)
 have cellAt:∀ {i:Nat} {y:Str} {cy:Addr} {v:V},X.N[i]?=some y->X.env.kindOf y=some .cell->Vis X.env.scope y->X.env.cells.lookup y=some cy->σ[i]?=some (some v)->∀ {H2:Hp} {s2:Shared},Inv X pins σ H2 s2->∃ u,RelV v u/\s2.heap.IsCell cy (some u):=fun {i y cy v} hN hky hvy hcy hv {H2 s2} J=>by
  obtain ⟨m,_,hl⟩:=J.loc
  obtain ⟨u,ru,lk⟩:=hl i y v hN hv hvy
  rcases lk with ⟨z,_⟩ | ⟨_,d,e',q⟩
  ·rw [hky] at z; cases z
  ·rw [hcy] at e'
   cases e'
   exact ⟨u,ru,q⟩
 have fin:∀ (fl c':Addr) (pm ctv:Value) (H2:Hp) (s2:Shared),Inv X pins σ H2 s2->SameT P H1 H2->TabOk H2 P lpos (X.env.qual ++ "<lambda>")->H2 c'=some (.ext (CodeQ c' (X.env.qual ++ "<lambda>"))) ->
   s2.heap.get? fl=some (W.kla_obj "<lambda>" (X.env.qual ++ "<lambda>") params body sc clos pm c' ctv)->H2 fl=none->fl ∉ frs X.stack ->
   wpAny (model X.prog X.w) X.A (spliced (backTo pos (starEach [] X.env))) (fun vs s3=>X.K.In s3.heap/\wpAny (model X.prog X.w) X.A (call (.ref g) ([] ++ (u1 :: u2 :: u3 :: .ref fl :: vs))) (EP X pins σ Q) X.xe s3) X.xe s2:=by
  intro fl c' pm ctv H2 s2 I2 sm tb hc' hfl nfl nfs
  refine Calls.spliced_nil ⟨I2.kIn,?_⟩
  have hb1:=qes9 (X:=X) hfl nfl nfs
  have nc:∀ {y:Str} {cy:Addr},X.env.cells.lookup y=some cy->X.fn y=true->cy ∉ frs X.stack:=fun {y cy} hcy hfy z=>by
   rcases List.mem_cons.mp (I2.stkSub cy z) with e | e
   ·exact I2.cne y cy hcy e
   ·have lo:=I2.ok.cab y cy hfy hcy
    obtain ⟨_,o,eo,_⟩:=I2.ok.funs.mem e
    exact absurd (Nat.lt_of_lt_of_le (Heap.lt_size eo) lo) (Nat.lt_irrefl _)
  obtain ⟨ua,ra,oa,qa1,qa2⟩:=cellAt hN1 hky1 hvy1 hcy1 hv1 I2
  obtain ⟨ub,rb,ob,qb1,qb2⟩:=cellAt hN2 hky2 hvy2 hcy2 hv2 I2
  have hba:=qes9 (X:=X) qa1 (I2.freeC y1 cy1 hcy1) (nc hcy1 hfy1)
  have hbb:=qes9 (X:=X) qb1 (I2.freeC y2 cy2 hcy2) (nc hcy2 hfy2)
  have ca:qid9 (fixed X H2 s2.heap) sc clos N ps [v1,v2]:=by
   refine ⟨by rw [hNp,List.length_append]; rfl,fun z d e=>?_,fun j z v' e1 e2=>?_⟩
   ·rcases honly z d e with ⟨rfl,rfl⟩ | ⟨rfl,rfl⟩
    ·exact ⟨some ua,oa,hba,qa2⟩
    ·exact ⟨some ub,ob,hbb,qb2⟩
   ·rw [hNp,List.getElem?_append_right (Nat.le_add_right _ _),Nat.add_sub_cancel_left] at e1
    match j,e1,e2 with
    | 0,e1,e2 =>
     cases e1
     cases e2
     exact ⟨hsy1,cy1,ua,hcly1,⟨oa,hba,qa2⟩,ra⟩
    | 1,e1,e2 =>
     cases e1
     cases e2
     exact ⟨hsy2,cy2,ub,hcly2,⟨ob,hbb,qb2⟩,rb⟩
    | j+2,e1,e2=>cases e2
  have F:=G _ fl c' v1 v2 pm ctv I2.ok.mod I2.base_fixed (Nat.le_trans I2.env0.bsz (Nat.le_of_eq (W.hideAll_size _ _).symm)) hb1 ca
  have hsp:=q1 fl c' H2 sm tb hc'
  have bnd:BindsTo s2 gd ⟨[u1,u2,u3,.ref fl],[]⟩ (ps2.zip [u1,u2,u3,.ref fl]):=by
   have:=hbG s2 [u1,u2,u3,.ref fl] I2.kIn (by rw [hl2]; rfl)
   simpa using this
  refine wpAny_call (codeAny_mono (F.run X.A X.stack s2 H2 ⟨[u1,u2,u3,.ref fl],[]⟩ [u1,u2,u3,.ref fl] [w1,w2,w3,.ref fl] Q E0 hr I2.env_fixed bnd (.cons r1 (.cons r2 (.cons r3 (.cons rfl .nil)))) hsp) fun r s' hq=>?_)
  cases r with
  | error e=>exact False.elim hq
  | ok fl' =>
   cases fl' with
   | ret u=>exact I2.after hq
   | next=>exact False.elim hq
   | brk=>exact False.elim hq
   | cont=>exact False.elim hq
 obtain ⟨bm,ob,b1,b2,b3,b4,b5,b6⟩:=hB
 obtain ⟨ps0,hP,ht,hor⟩:=tab
 have hPo:s1.heap.get? P=some (W.tabObj ps0):=I1.hok P _ hP
 have notP:∀ b o,X.base.get? b=some o->b ≠ P:=fun b o e z=>by
  have:=(I1.bs b o e).2
  rw [z,hP] at this
  cases this
 obtain ⟨og,esg,epg,eg,dg,rg⟩:=I1.mod.glob
 have hbA:s1.heap.BuiltinsAt X.mg P:=⟨bm,ob,b1,b2,(fun z=>by rw [z,eg] at b3; cases b3; rw [b6] at dg; cases dg),notP _ _ b3,I1.bk _ _ b3,b4,b5,b6⟩
 have gl:s1.heap.Ns mainGlobals X.mg:=I1.mod.glob.keeps I1.bk
 rcases hor with hnf | ⟨c',hf,hc'⟩
 ·refine W.kla_makeFunction (mg:=X.mg) hcl I1.ok.glob gl hcode (hC.keeps I1.bk) hPo ht hnf (notP _ _ eg) hbA fun c' ctv h' tk hx hge hlt hrec htb=>?_
  have ltP:P < s1.heap.objs.size:=Heap.lt_size hPo
  have neP:P ≠ c':=Nat.ne_of_lt (Nat.lt_of_lt_of_le ltP hge)
  have nc':H1 c'=none:=I1.hok.fresh hge
  have old:∀ b o,b ≠ P->s1.heap.get? b=some o->(h'.push (W.kla_obj "<lambda>" (X.env.qual ++ "<lambda>") params body sc clos ((X.mg "__name__").getD .none) c' ctv)).get? b=some o:=fun b o n e=>Heap.get?_push_of_some _ (hx b o n e)
  have kP:∀ b o,H1 b=some o->(∀ z,o ≠ .tbl z)->b ≠ P:=fun b o e n z=>by rw [z,hP] at e; exact n ps0 (Option.some.inj e).symm
  have up:∀ b o,H1 b=some o->b ≠ P->upd (upd H1 c' (.ext (CodeQ c' (X.env.qual ++ "<lambda>")))) P (.tbl (ps0 ++ #[rawInt lpos.line,rawInt lpos.col,.ref c'])) b=some o:=fun b o e n=>by
   rw [qaq9 n,qaq9 (qbb9 e nc')]
   exact e
  have upN:∀ b,H1 b=none->b ≠ c'->upd (upd H1 c' (.ext (CodeQ c' (X.env.qual ++ "<lambda>")))) P (.tbl (ps0 ++ #[rawInt lpos.line,rawInt lpos.col,.ref c'])) b=none:=fun b e n=>by
   rw [qaq9 (fun z=>by rw [z,hP] at e; cases e),qaq9 n]
   exact e
  have u:Un X.fs [] H1 (upd (upd H1 c' (.ext (CodeQ c' (X.env.qual ++ "<lambda>")))) P (.tbl (ps0 ++ #[rawInt lpos.line,rawInt lpos.col,.ref c']))) s1.heap (h'.push (W.kla_obj "<lambda>" (X.env.qual ++ "<lambda>") params body sc clos ((X.mg "__name__").getD .none) c' ctv)):=by
   have nP:∀ b,H1 b=none->b ≠ P:=fun b n z=>by rw [z,hP] at n; cases n
   refine ⟨fun b o e n _ _=>old b o (nP b n) e,fun b o e n _ _=>⟨o.slots,old b o (nP b n) e⟩,fun b o e n _=>upN b n (Nat.ne_of_lt (Nat.lt_of_lt_of_le (Heap.lt_size e) hge)),fun b o e _=>?_,fun b xs e=>up b _ e (kP b _ e fun _ z=>nomatch z),fun b o w e=>up b _ e (kP b _ e fun _ z=>nomatch z),fun b pz e=>?_⟩
   ·by_cases hb:b=P
    ·rw [hb]
     exact ⟨_,Heap.get?_push_of_some _ htb⟩
    ·exact ⟨o,old b o hb e⟩
   ·by_cases hb:b=P
    ·rw [hb] at e ⊢
     rw [hP] at e
     cases e
     exact ⟨_,qaf9⟩
    ·exact ⟨#[],by rw [up b _ e hb]; simp⟩
  have hok:HOk X.prog X.w (upd (upd H1 c' (.ext (CodeQ c' (X.env.qual ++ "<lambda>")))) P (.tbl (ps0 ++ #[rawInt lpos.line,rawInt lpos.col,.ref c']))) (h'.push (W.kla_obj "<lambda>" (X.env.qual ++ "<lambda>") params body sc clos ((X.mg "__name__").getD .none) c' ctv)):=by
   intro b o e
   by_cases hb:b=P
   ·rw [hb,qaf9] at e
    cases e
    rw [hb]
    exact Heap.get?_push_of_some _ htb
   ·rw [qaq9 hb] at e
    by_cases hb2:b=c'
    ·rw [hb2,qaf9] at e
     cases e
     rw [hb2]
     obtain ⟨c2,oc,vs,tq,ee,hoc,rest⟩:=hrec
     cases ee
     refine ⟨⟨_,oc,vs,tq,rfl,Heap.get?_push_of_some _ hoc,rest⟩,⟨oc,Heap.get?_push_of_some _ hoc⟩,fun h1 h2 hq hk=>?_⟩
     obtain ⟨c3,o3,v3,t3,e3,g3,r3⟩:=hq
     cases e3
     exact ⟨_,o3,v3,t3,rfl,hk _ g3,r3⟩
    ·rw [qaq9 hb2] at e
     refine (I1.hok b o e).stay (fun d z hd q=>old d z ?_ q) (fun d q=>up d _ q (kP d _ q fun _ z=>nomatch z)) fun d xs q=>up d _ q (kP d _ q fun _ z=>nomatch z)
     rcases hd with hd | hd
     ·rw [hd]; exact hb
     ·exact kP d _ hd fun _ z=>nomatch z
  have I2:=I1.un (t':=tk) u hok
  refine fin h'.objs.size c' _ ctv _ _ I2 (fun b o e n=>up b o e n) ⟨_,qaf9,?_,.inr ⟨c',?_,?_⟩⟩ ?_ (Heap.get?_push_size _ rfl) ?_ ?_
  ·have:=TriplesOk_snoc lpos.line lpos.col (.ref c') ps0.toList ht
   simpa using this
  ·have:=codeAmong_snoc (pos:=lpos) (c:=.ref c') ps0.toList ht hnf
   simpa using this
  ·rw [qaq9 neP.symm,qaf9]
  ·rw [qaq9 neP.symm,qaf9]
  ·refine upN _ (I1.hok.fresh (Nat.le_trans hge (Nat.le_of_lt hlt))) (Nat.ne_of_gt hlt)
  ·exact fun z=>by
    rcases List.mem_cons.mp (I1.stkSub _ z) with e | e
    ·exact absurd (I1.lt) (by rw [<- e]; exact Nat.not_lt.mpr (Nat.le_trans hge (Nat.le_of_lt hlt)))
    ·exact I1.nofs (Nat.le_trans hge (Nat.le_of_lt hlt)) e
 ·refine W.kla_makeFunctionHit (mg:=X.mg) hcl I1.ok.glob gl hcode (hC.keeps I1.bk) hPo ht hf hbA fun ctv h' tk hk hsz=>?_
  have I2:Inv X pins σ H1 { s1 with heap:=h'.push { cls:=.type "function",data:=.func (W.kla_fn "<lambda>" (X.env.qual ++ "<lambda>") params body sc clos ((X.mg "__name__").getD .none) (.ref c') ctv) },toks:=tk }:=I1.kept (t':=tk) fun b o e=>Heap.get?_push_of_some _ (hk b o e)
  refine fin h'.objs.size c' _ ctv H1 _ I2 (fun b o e _=>e) ⟨ps0,hP,ht,.inr ⟨c',hf,hc'⟩⟩ hc' (Heap.get?_push_size _ rfl) (I1.hok.fresh hsz) ?_
  exact fun z=>by
   rcases List.mem_cons.mp (I1.stkSub _ z) with e | e
   ·exact absurd (I1.lt) (by rw [<- e]; exact Nat.not_lt.mpr hsz)
   ·exact I1.nofs hsz e
end
theorem qhy9 {X:Cx} (K:W.Frag) (hK:X.K=K):QCall X (.type "list") (fun xs H Q=>∃ p ys,xs=[.ref p]/\(SqL K H p ys\/SqT K H p ys)/\∀ l,H l=none->Q (.ref l) (upd H l (.lst ys))):=by
 subst hK
 exact qfo9
section
variable {X:Cx} {o e value:Expr} {f m x:Str} {p pos pos' apos:Pos} {ta tv:TE} {t:TA} {es:List Expr} {k:Nat} {C:Addr} {ps:List Str} {sp:Sp}
theorem qhh9 (he:QE X e ta) (hb:attributeBase e f X.env (eval e X.env)=eval e X.env:=by rfl):QE X (.Attribute e f pos) (tFld X.K ta f):=⟨pe_fld he.run hb⟩
theorem qnt9 (ha:QE X o ta) (hv:QE X value tv) (hs:swapsWith value (some (.Attribute o f pos')) pos.line X.env=pure false:=by rfl):QS X (.Assign [.Attribute o f pos'] value pos) (sFld X.K ta tv f):=⟨ps_fld ha.run hv.run hs⟩
structure MCal (P:Program) (w:World) (K:W.Frag) (mg:Str->Option Value) (base:Heap) (k:Nat) (C:Addr) (m:Str) (ps:List Str) (sp:Sp):Prop where
 ex:∃ (f:Addr) (fd:FuncData),FnOk P w K mg base CX0 k f fd ps sp/\Binds K fd ps []/\Meth K C m f
 cl:Cls K C
theorem MCal.up {P:Program} {w:World} {K:W.Frag} {mg:Str->Option Value} {base:Heap} {j:Nat} (M:MCal P w K mg base j C m ps sp) (h:j<=k):MCal P w K mg base k C m ps sp:=by
 obtain ⟨⟨f,fd,G,b,me⟩,c⟩:=M
 exact ⟨⟨f,fd,G.mono h,b,me⟩,c⟩
theorem qlv9 {pl:Sem Bool} (M:MCal X.prog X.w X.K X.mg X.base k C m ps sp) (hr:Room k X.A) (ho:QE X o ta) (ha:QA X (e :: es) t) (h:qbk9 e=true:=by rfl) (hpl:es.all qbk9=true:=by rfl)
  (ht:eval (.Call (.Attribute o m apos) (e :: es) [] pos) X.env=(do
   let ov <- eval o X.env
   standAt apos.atName
   let (f,first) <- holding [ov] (getMethod ov m pl)
   callWith pos f first (backTo pos (starEach (e :: es) X.env)) (backToKw pos (keywordEach [] X.env))):=by rfl) :
  QE X (.Call (.Attribute o m apos) (e :: es) [] pos) (tMeth C m sp [] E0 ta t):=by
 obtain ⟨⟨f,fd,G,b,me⟩,c⟩:=M
 exact ⟨pe_meth ho.run c me G hr b .nil pass0 ha.run (se_of h) (qjo9 hpl) ht⟩
structure KCal (P:Program) (w:World) (K:W.Frag) (mg:Str->Option Value) (base:Heap) (k:Nat) (x:Str) (C:Addr) (ps:List Str) (sp:Sp):Prop where
 ex:∃ (f:Addr) (fd:FuncData),Mk K C f/\FnOk P w K mg base CX0 k f fd ps sp/\Binds K fd ps []
 mg_:mg x=some (.ref C)
theorem KCal.up {P:Program} {w:World} {K:W.Frag} {mg:Str->Option Value} {base:Heap} {j:Nat} (M:KCal P w K mg base j x C ps sp) (h:j<=k):KCal P w K mg base k x C ps sp:=by
 obtain ⟨⟨f,fd,mk,G,b⟩,c⟩:=M
 exact ⟨⟨f,fd,mk,G.mono h,b⟩,c⟩
theorem qe_make (M:KCal X.prog X.w X.K X.mg X.base k x C ps sp) (hr:Room (k+1) X.A) (hg:Gl X x) (ha:QA X (e :: es) t) (h:qbk9 e=true:=by rfl) (hpl:es.all qbk9=true:=by rfl) (hdb:(x == ("__debug__" : Str))=false:=by decide) :
  QE X (.Call (.Name x p) (e :: es) [] pos) (tMake C sp [] E0 t):=by
 obtain ⟨⟨f,fd,mk,G,b⟩,c⟩:=M
 exact ⟨pe_make mk G hr hg c b .nil pass0 ha.run hdb (se_of h) (qjo9 hpl)⟩
end
structure FunD (K:W.Frag) (x qual:Str) (st:Stmt) (f:Addr) (fd:FuncData):Prop where
 ex:∃ (oc:Value) (od:Option Addr) (dV kV doc pm:Value) (an:Option Addr) (cdv ct:Value) (osl:Array (Option Value)),
  fd=W.fnOf x qual (qah9 st) (qag9 st) (qab9 st) dV kV doc pm an cdv ct/\K.lookup f=some ⟨oc,od,.func fd,osl⟩/\W.codeIn K cdv qual=true
theorem FunD.okQ {P:Program} {w:World} {K:W.Frag} {mg:Str->Option Value} {base:Heap} {x qual:Str} {st:Stmt} {f:Addr} {fd:FuncData} {N ps:List Str} {k:Nat} {sp:Sp} (F:FunD K x qual st f fd) (S:FnScope N ps (qab9 st)) (len:∀ vs H Q E,sp vs H Q E->vs.length=ps.length)
  (hbody:∀ (cdv:Value) (A:Around) (outer:List Env) (s:Shared) (H:Hp) (vs:List V) (Q:VK) (E:XK),Room k (A.deeper (envOfC qual (qab9 st) s.heap.objs.size f cdv))->sp vs H Q E ->
   ∃ t,QSs (cxOf CX0 P w K mg base N qual (qab9 st) f cdv A outer s H E).nox (qag9 st) t/\t { nx:=fun _ H'=>Q .non H',rt:=Q } (start N vs) H):FnOk P w K mg base CX0 (k+1) f fd ps sp:=by
 obtain ⟨oc,od,dV,kV,doc,pm,an,cdv,ct,osl,rfl,lk,hcd⟩:=F.ex
 refine fn_of lk hcd S len fun A outer s H vs Q E hr hsp=>?_
 obtain ⟨t,h,q⟩:=hbody cdv A outer s H vs Q E hr hsp
 exact ⟨t,h.run.nox,q⟩
section
variable {X:Cx} {o e ev:Expr} {m x kn:Str} {p pos apos kpos:Pos} {ta te:TE} {t tk:TA} {es:List Expr} {k:Nat} {C f:Addr} {fd:FuncData} {ps:List Str} {sp:Sp} {E:XK}
structure MCalX (P:Program) (w:World) (K:W.Frag) (mg:Str->Option Value) (base:Heap) (k:Nat) (C:Addr) (m:Str) (ps:List Str) (sp:Sp):Prop where
 ex:∃ (f:Addr) (fd:FuncData),FnOk P w K mg base (CXE P w) k f fd ps sp/\Binds K fd ps []/\Meth K C m f
 cl:Cls K C
theorem MCalX.up {P:Program} {w:World} {K:W.Frag} {mg:Str->Option Value} {base:Heap} {j:Nat} (M:MCalX P w K mg base j C m ps sp) (h:j<=k):MCalX P w K mg base k C m ps sp:=by
 obtain ⟨⟨f,fd,G,b,me⟩,c⟩:=M
 exact ⟨⟨f,fd,G.mono h,b,me⟩,c⟩
theorem qdt9 {pl:Sem Bool} (M:MCalX X.prog X.w X.K X.mg X.base k C m ps sp) (hr:Room k X.A) (hx:qgz9 (CXE X.prog X.w) X E) (ho:QE X o ta) (ha:QA X (e :: es) t) (h:qbk9 e=true:=by rfl) (hpl:es.all qbk9=true:=by rfl)
  (ht:eval (.Call (.Attribute o m apos) (e :: es) [] pos) X.env=(do
   let ov <- eval o X.env
   standAt apos.atName
   let (f,first) <- holding [ov] (getMethod ov m pl)
   callWith pos f first (backTo pos (starEach (e :: es) X.env)) (backToKw pos (keywordEach [] X.env))):=by rfl) :
  QE X (.Call (.Attribute o m apos) (e :: es) [] pos) (tMeth C m sp [] E ta t):=by
 obtain ⟨⟨f,fd,G,b,me⟩,c⟩:=M
 exact ⟨pe_meth ho.run c me G hr b .nil hx ha.run (se_of h) (qjo9 hpl) ht⟩
structure KCalD (P:Program) (w:World) (K:W.Frag) (mg:Str->Option Value) (base:Heap) (k:Nat) (x:Str) (C:Addr) (ps:List Str) (sp:Sp):Prop where
 ex:∃ (f:Addr) (fd:FuncData) (tk:Tok),Mk K C f/\FnOk P w K mg base CX0 k f fd ps sp/\Binds K fd ps [.int 1 tk]
 mg_:mg x=some (.ref C)
structure KCalK (P:Program) (w:World) (K:W.Frag) (mg:Str->Option Value) (base:Heap) (k:Nat) (x:Str) (C:Addr) (kn:Str) (ps:List Str) (sp:Sp):Prop where
 ex:∃ (f:Addr) (fd:FuncData),Mk K C f/\FnOk P w K mg base CX0 k f fd ps sp/\∀ (s:Shared) (us:List Value) (v:Value),K.In s.heap->us.length+1=ps.length->BindsTo s fd ⟨us,[(kn,v)]⟩ (ps.zip (us ++ [v]))
 mg_:mg x=some (.ref C)
end
section
variable {X:Cx} {e:Expr} {x:Str} {p pos:Pos} {t:TA} {es:List Expr} {k:Nat} {C:Addr} {ps:List Str} {sp:Sp} {E:XK}
theorem qsx_if {c:Expr} {a b:List Stmt} {tc:TT} {ta tb:XK->TS} (hc:QT X.nox c tc) (ha:QSx X a ta) (hb:QSx X b tb):QSx X [.If c a b pos] (fun E=>tIfS tc (ta E) (tb E)):=⟨by
 intro E pins s σ H D I h
 have key:wpAny (model X.prog X.w) X.A (exec (.If c a b pos) X.env) (SP X pins D) (qjm9 X pins σ E) s:=by
  refine wpAny_If (wpAny_mono (hc.run pins s σ H _ (I.wish _) h) (fun d s1 z9=>?_) fun _ _ z=>z.elim)
  obtain ⟨H1,I1,q1⟩ := z9
  cases d with
  | true=>exact ha.run E pins s1 σ H1 D I1.unwish q1
  | false=>exact hb.run E pins s1 σ H1 D I1.unwish q1
 refine wpAny_execs_cons (thn key fun f s1 q=>?_)
 cases f with
 | next=>exact wpAny_execs_nil q
 | ret v=>exact q
 | brk=>exact q
 | cont=>exact q⟩
structure KCalX (P:Program) (w:World) (K:W.Frag) (mg:Str->Option Value) (base:Heap) (k:Nat) (x:Str) (C:Addr) (ps:List Str) (sp:Sp):Prop where
 ex:∃ (f:Addr) (fd:FuncData),Mk K C f/\FnOk P w K mg base (CXE P w) k f fd ps sp/\Binds K fd ps []
 mg_:mg x=some (.ref C)
theorem qe_makeX (M:KCalX X.prog X.w X.K X.mg X.base k x C ps sp) (hr:Room (k+1) X.A) (hg:Gl X x) (hx:qgz9 (CXE X.prog X.w) X E) (ha:QA X (e :: es) t) (h:qbk9 e=true:=by rfl) (hpl:es.all qbk9=true:=by rfl) (hdb:(x == ("__debug__" : Str))=false:=by decide) :
  QE X (.Call (.Name x p) (e :: es) [] pos) (tMake C sp [] E t):=by
 obtain ⟨⟨f,fd,mk,G,b⟩,c⟩:=M
 exact ⟨pe_make mk G hr hg c b .nil hx ha.run hdb (se_of h) (qjo9 hpl)⟩
end
theorem FunD.okX {P:Program} {w:World} {K:W.Frag} {mg:Str->Option Value} {base:Heap} {x qual:Str} {st:Stmt} {f:Addr} {fd:FuncData} {N ps:List Str} {k:Nat} {sp:Sp} (F:FunD K x qual st f fd) (S:FnScope N ps (qab9 st)) (len:∀ vs H Q E,sp vs H Q E->vs.length=ps.length)
  (hbody:∀ (cdv:Value) (A:Around) (outer:List Env) (s:Shared) (H:Hp) (vs:List V) (Q:VK) (E:XK),Room k (A.deeper (envOfC qual (qab9 st) s.heap.objs.size f cdv))->sp vs H Q E ->
   ∃ t,QSs (cxE P w K mg base N qual (qab9 st) f cdv A outer s H E) (qag9 st) t/\t { nx:=fun _ H'=>Q .non H',rt:=Q } (start N vs) H):FnOk P w K mg base (CXE P w) (k+1) f fd ps sp:=by
 obtain ⟨oc,od,dV,kV,doc,pm,an,cdv,ct,osl,rfl,lk,hcd⟩:=F.ex
 refine fn_of lk hcd S len fun A outer s H vs Q E hr hsp=>?_
 obtain ⟨t,h1,h2⟩:=hbody cdv A outer s H vs Q E hr hsp
 exact ⟨t,h1.run,h2⟩
end L2
namespace My
open PySem L2
open Ma (T3 T4 rA rB rC)
theorem sC9 {N p:List Str} {s:Scope} (h:FnScope N p s:=by exact ⟨rfl,rfl,rfl,by decide +kernel,rfl,by decide +kernel,by decide +kernel⟩):FnScope N p s:=h
theorem qmw9:FnScope ["thing"] ["thing"] (qab9 qdg9):=sC9
theorem qko9:FnScope ["day","thing"] ["day","thing"] (qab9 qcw9):=sC9
theorem qmt9:FnScope ["day","thing"] ["day","thing"] (qab9 qdk9):=sC9
theorem qnv9:FnScope ["day","window","t"] ["day","window","t"] (qab9 qdu9):=sC9
theorem sc_next_open:FnScope ["day","window","t","hour","midnight"] ["day","window","t"] (qab9 qcu9):=sC9
theorem qkm9:FnScope ["count","thing"] ["count","thing"] (qab9 qcx9):=sC9
theorem qoo9:FnScope ["day","size","thing"] ["day","size","thing"] (qab9 qdw9):=sC9
theorem sc_is_net:FnScope ["day","size","roads"] ["day","size","roads"] (qab9 qeu9):=sC9
theorem qhs9:FnScope ["day","size","roads"] ["day","size","roads"] (qab9 qcj9):=sC9
theorem qga9:FnScope ["size","thing"] ["size","thing"] (qab9 qbs9):=sC9
theorem sc_copied:FnScope ["roads"] ["roads"] (qab9 qep9):=sC9
theorem sc_first_where:FnScope ["clock","holds","low","high","middle"] ["clock","holds"] (qab9 qbd9):=sC9
theorem sc_set_off:FnScope ["day","clock","t","hour","number","found","x"] ["day","clock","t"] (qab9 qbr9):=sC9
theorem sc_come:FnScope ["day","clock","t","departure"] ["day","clock","t"] (qab9 qhm9):=sC9
theorem qmy9:FnScope ["day"] ["day"] (qab9 qdi9):=sC9
theorem sc_stretches:FnScope ["day","clock","rows","p","a","b","c"] ["day","clock"] (qab9 qcv9):=sC9
theorem qjd9:FnScope ["row"] ["row"] (qab9 qcn9):=sC9
theorem sc_overlay:FnScope ["day","one","other","ones","others","rows","k","j","p","q"] ["day","one","other"] (qab9 qdy9):=sC9
theorem qja9:FnScope ["clock","a","b","c"] ["clock","a","b","c"] (qab9 qck9):=sC9
theorem sc_clock_from:FnScope ["day","rows","clock","k","row","following","q","v"] ["day","rows"] (qab9 qcm9):=sC9
theorem sc_picked:FnScope ["p","q","waiting","riding","late","cut","ahead","then"] ["p","q","waiting","riding","late"] (qab9 qeq9):=sC9
theorem sc_joined:FnScope ["day","one","other","late","rows","p","q","still","v","other_still","other_v"] ["day","one","other","late"] (qab9 qex9):=sC9
theorem sc_sooner:FnScope ["day","one","other"] ["day","one","other"] (qab9 qer9):=sC9
theorem sc_later:FnScope ["day","one","other"] ["day","one","other"] (qab9 qfv9):=sC9
theorem sc_ridden:FnScope ["day","p","q","ride","others","hour","midnight","k","rows","end"] ["day","p","q","ride","others"] (qab9 qcc9):=sC9
theorem sc_behind:FnScope ["day","one","other","others","rows","p","q","still","v"] ["day","one","other"] (qab9 qev9):=sC9
theorem sc_clock_within:FnScope ["day","board","half"] ["day","board"] (qab9 qbq9):=sC9
theorem qms9:FnScope ["day","board"] ["day","board"] (qab9 qdm9):=sC9
theorem qmq9:FnScope ["day","roads"] ["day","roads"] (qab9 qdj9):=sC9
theorem qph9:FnScope ["day","size","place"] ["day","size","place"] (qab9 qdv9):=sC9
theorem qhf9:FnScope ["told"] ["told"] (qab9 qbw9):=sC9
theorem sc_grown:FnScope ["day","size","place","step","found"] ["day","size","place","step"] (qab9 qcz9):=sC9
theorem sc_ride_first:FnScope ["day","fords","told","found","start","end","ford"] ["day","fords","told"] (qab9 qcl9):=sC9
theorem sc_rounds_to:FnScope ["day","size","roads","goal","fords"] ["day","size","roads","goal"] (qab9 qbh9):=sC9
theorem qgj9:FnScope ["thing"] ["thing"] (qab9 qca9):=sC9
theorem sc_guarded:FnScope ["day","roads","guard","asks","start","end","board","a","b","c"] ["day","roads","guard"] (qab9 qdx9):=sC9
theorem sc_ask_first:FnScope ["day","asks","told","found","start","end","window","barred","kept"] ["day","asks","told"] (qab9 qct9):=sC9
theorem sc_guarded_rounds:FnScope ["day","size","roads","goal","guard","asks"] ["day","size","roads","goal","guard"] (qab9 qap9):=sC9
theorem sc_level_rounds:FnScope ["day","size","roads","goal","most","found"] ["day","size","roads","goal","most"] (qab9 qbl9):=sC9
theorem sc_levels:FnScope ["day","size","roads","goal","most"] ["day","size","roads","goal","most"] (qab9 qef9):=sC9
theorem qhc9:FnScope ["script","k"] ["script","k"] (qab9 qbx9):=sC9
theorem qnd9:FnScope ["cell"] ["cell"] (qab9 qdf9):=sC9
theorem sc__law_way:FnScope ["day","cell","y","z","a","b","wide"] ["day","cell"] (qab9 qdh9):=sC9
theorem sc__law_net:FnScope ["script","start","cell","mixed","day","size","many","turn","roads","k","way","road","spot","at"] ["script","start"] (qab9 qdl9):=sC9
theorem sc__law_kinds:FnScope ["e","found"] ["e"] (qab9 qco9):=sC9
theorem sc__law_odd:FnScope ["cell","many","far"] ["cell","many"] (qab9 qde9):=sC9
theorem sc__law_bad_roads:FnScope ["day","size","roads","cell","far","bad","found"] ["day","size","roads","cell"] (qab9 qbp9):=sC9
theorem sc__law_made:FnScope ["net","most","way","cell","day","size","roads","goal"] ["net","most","way","cell"] (qab9 qci9):=sC9
theorem sc__law_asked:FnScope ["gate","net","most","way","cell","day","size","roads","goal","place","left","rows","k","w","row","x","shut","wide"] ["gate","net","most","way","cell"] (qab9 qbz9):=sC9
theorem qng9:FnScope ["way","rows"] ["way","rows"] (qab9 qdd9):=sC9
theorem sc_law:FnScope ["script","net","day","size","roads","goal","most","way","cell","gate","ahead","caught","e","rows","due"] ["script"] (qab9 qhe9):=sC9
theorem qej9:FnScope ["self","day","size","roads","goal","most"] ["self","day","size","roads","goal","most"] (qab9 qau9):=sC9
theorem qks9:FnScope ["self","place","t","left"] ["self","place","t","left"] (qab9 qbu9):=sC9
theorem qeg9:FnScope ["self","left"] ["self","left"] (qab9 qbc9):=sC9
theorem sc_Gate_need_ask:FnScope ["self","road","window","x","board"] ["self","road","window","x"] (qab9 qbf9):=sC9
theorem qfd9:FnScope ["self","place","t","left"] ["self","place","t","left"] (qab9 qbe9):=sC9
theorem qki9:FnScope ["self","place","t","left","guard"] ["self","place","t","left"] (qab9 qbv9):=sC9
theorem qjv9:FnScope ["self","road","window","x","left","way","there","here"] ["self","road","window","x","left"] (qab9 qbt9):=sC9
theorem qar9 {H:Hp} {p:Addr} {o:HO} {G:Hp->Prop} (h:H p=none) (k:∀ H1,Same H H1->H1 p=some o->G H1):∀ H1,upd H p o=H1->G H1:=fun _ e=>e ▸ k _ (qny9 h rfl).1 (qny9 h rfl).2
theorem bl_1 {us:List Value} (h:us.length=1):∃ a0:Value,us=[a0]:=match us,h with | [_],_=>⟨_,rfl⟩
theorem bl_2 {us:List Value} (h:us.length=2):∃ a0 a1:Value,us=[a0,a1]:=by
 cases us with
 | nil=>cases h
 | cons _ t =>
  obtain ⟨_,rfl⟩:=bl_1 (us:=t) (Nat.succ.inj h)
  exact ⟨_,_,rfl⟩
theorem bl_3 {us:List Value} (h:us.length=3):∃ a0 a1 a2:Value,us=[a0,a1,a2]:=by
 cases us with
 | nil=>cases h
 | cons _ t =>
  obtain ⟨_,_,rfl⟩:=bl_2 (us:=t) (Nat.succ.inj h)
  exact ⟨_,_,_,rfl⟩
theorem bl_4 {us:List Value} (h:us.length=4):∃ a0 a1 a2 a3:Value,us=[a0,a1,a2,a3]:=by
 cases us with
 | nil=>cases h
 | cons _ t =>
  obtain ⟨_,_,_,rfl⟩:=bl_3 (us:=t) (Nat.succ.inj h)
  exact ⟨_,_,_,_,rfl⟩
theorem bl_5 {us:List Value} (h:us.length=5):∃ a0 a1 a2 a3 a4:Value,us=[a0,a1,a2,a3,a4]:=by
 cases us with
 | nil=>cases h
 | cons _ t =>
  obtain ⟨_,_,_,_,rfl⟩:=bl_4 (us:=t) (Nat.succ.inj h)
  exact ⟨_,_,_,_,_,rfl⟩
theorem bl_6 {us:List Value} (h:us.length=6):∃ a0 a1 a2 a3 a4 a5:Value,us=[a0,a1,a2,a3,a4,a5]:=by
 cases us with
 | nil=>cases h
 | cons _ t =>
  obtain ⟨_,_,_,_,_,rfl⟩:=bl_5 (us:=t) (Nat.succ.inj h)
  exact ⟨_,_,_,_,_,_,rfl⟩
theorem bl_7 {us:List Value} (h:us.length=7):∃ a0 a1 a2 a3 a4 a5 a6:Value,us=[a0,a1,a2,a3,a4,a5,a6]:=by
 cases us with
 | nil=>cases h
 | cons _ t =>
  obtain ⟨_,_,_,_,_,_,rfl⟩:=bl_6 (us:=t) (Nat.succ.inj h)
  exact ⟨_,_,_,_,_,_,_,rfl⟩
def spLaw (K:W.Frag) (tabs:List (Addr × Addr)):Sp:=fun vs H Q _=>∃ (a:Addr) (ns:List Int),vs=[.ref a]/\SqL K H a (ns.map V.int)/\ns.length<=63/\(∀ t∈tabs,H t.2=some (.tbl #[]))/\∀ H',Q (.bl true) H'
theorem qeb9 (x:Int) {m:Int} (h:0 < m):0<=x % m/\x % m < m:=⟨Int.emod_nonneg x (by omega),Int.emod_lt_of_pos x h⟩
structure Bl (mg:Str->Option Value):Prop where
 len:mg "len" = none
 max:mg "max" = none
 min:mg "min" = none
 all:mg "all" = none
 range:mg "range" = none
 enumerate:mg "enumerate" = none
 isinstance:mg "isinstance" = none
 bool_:mg "bool" = none
 int_:mg "int" = none
 tuple_:mg "tuple" = none
 list_:mg "list" = none
section
variable {P:Program} {w:World} {K:W.Frag} {mg:Str->Option Value} {base:Heap} {f:Addr} {fd:FuncData} {n:Nat}
theorem qmx9 (F:Fun K "is_whole" "is_whole" qdg9 f fd) (B:Bl mg):FnOk P w K mg base CX0 (n+1) f fd ["thing"] qez9:=by
 refine F.okQ qmw9 (fun vs H Q E h=>?_) (fun cdv A outer s H vs Q E hr h=>?_)
 ·obtain ⟨_,rfl,_⟩:=h
  rfl
 obtain ⟨x,rfl,dv,q⟩:=h
 refine ⟨_,(qae9 (qax9 (qpr9 (qe_cb qfa9 rfl B.isinstance qaz9 (qa_c (qv 0) (qa_c (qhr9 (v:=.ty "int") rfl B.int_ bt_int rfl) qad9))) (qqb9 (qe_not (qe_cb qfa9 rfl B.isinstance qaz9 (qa_c (qv 0) (qa_c (qhr9 (v:=.ty "bool") rfl B.bool_ bt_bool rfl) qad9)))))))),?_⟩
 walk_at "d"
 cases dv with
 | non=>exact ⟨_,rfl,_,"int",_,_,rfl,.non,rfl,_,rfl,iteF q⟩
 | bl b=>exact ⟨_,rfl,_,"int",_,_,rfl,.bl _,rfl,_,rfl,iteT ⟨_,rfl,_,"bool",_,_,rfl,.bl _,rfl,_,rfl,q⟩⟩
 | int i=>exact ⟨_,rfl,_,"int",_,_,rfl,.int _,rfl,_,rfl,iteT ⟨_,rfl,_,"bool",_,_,rfl,.int _,rfl,_,rfl,q⟩⟩
 | str z=>exact ⟨_,rfl,_,"int",_,_,rfl,.str _,rfl,_,rfl,iteF q⟩
 | lst e=>exact ⟨_,rfl,_,"int",_,_,rfl,.lst e,rfl,_,rfl,iteF q⟩
 | tup e=>exact ⟨_,rfl,_,"int",_,_,rfl,.tup e,rfl,_,rfl,iteF q⟩
theorem qke9 (F:Fun K "is_window" "is_window" qcw9 f fd) (B:Bl mg) (Cc0:Callee P w K mg base n "is_whole" ["thing"] qez9):FnOk P w K mg base CX0 (n+1) f fd ["day","thing"] qom9:=by
 refine F.okQ qko9 (fun vs H Q E h=>?_) (fun cdv A outer s H vs Q E hr h=>?_)
 ·obtain ⟨_,_,rfl,_⟩:=h
  rfl
 obtain ⟨day,x,rfl,dv,q⟩:=h
 refine ⟨_,(qac9 (qs_if (QW.pt (qw_or (qee9 (qcq9 (qe_cb qfa9 rfl B.isinstance qaz9 (qa_c (qv 1) (qa_c (qhr9 (v:=.ty "tuple") rfl B.tuple_ qkp9 rfl) qad9))))) (qff9 (qaj9 qop_ne (qe_cb qao9 rfl B.len qby9 (qa_c (qv 1) qad9)) qaa9 (qas9 _))))) (qae9 (qax9 qe_bl)) qat9) (qac9 (qs_if (qee9 (qcq9 (qe_cb (qgc9 rfl) rfl B.all bt_all (qa_c (qfc9 ["part"] [none] (BlkOk.of rfl rfl (SubL.to subN) rfl) rfl (qi_tup (qv 1)) (fun _ _ _ _=>(qam9 (i:=0) (show (["part"]:List Str).Nodup by decide) rfl (Or.inl rfl))) (fun _ _ _ _=>(qe_fn Cc0 hr rfl (qa_c (qv 0) qad9)))) qad9)))) (qae9 (qax9 qe_bl)) qat9) (qae9 (qax9 (qpr9 (qe_chain3 qjf9 qjf9 qcy9 qaa9 (qe_ix qba9 (qv 1) qaa9 (fun _ _=>rfl)) (qe_ix qba9 (qv 1) qaa9 (fun _ _=>rfl)) (qv 0)) (qqb9 (qjb9 qop_ge (qe_ix qba9 (qv 1) qaa9 (fun _ _=>rfl)) qaa9 (qas9 _)))))))),?_⟩
 walk_at "d"
 obtain ⟨t,hty,hk⟩:=dv.1.isTup (K:=K)
 have q0:winV H day x=false->∀ H',Same H H'->Q (.bl false) H':=fun e H' s=>by
  have:=q H' s
  rw [e] at this
  exact this
 cases ht:tupV H x with
 | none =>
  rw [ht] at hk
  have hw:winV H day x=false:=by unfold winV; rw [ht]
  exact ⟨_,rfl,_,"tuple",t,_,rfl,hty,hk,_,rfl,iteT (iteT (q0 hw _ (Same.refl H)))⟩
 | some xs =>
  rw [ht] at hk
  have hwl:winV H day x=winL day xs:=by unfold winV; rw [ht]
  have dz:=dv.2 xs ht
  obtain ⟨r,rfl,er⟩:=qji9 ht
  refine ⟨_,rfl,_,"tuple",t,_,rfl,hty,hk,_,rfl,iteF ?_⟩
  refine ⟨_,rfl,r,xs,rfl,.inr (SqT.of er),rfl,_,rfl,?_⟩
  by_cases hl:xs.length=3
  ·obtain ⟨u,v,w',rfl⟩:=three hl
   refine iteN (by simp) ?_
   refine ⟨_,rfl,r,rfl,⟨_,SqT.of er⟩,?_⟩
   refine comp_tup0 (K:=K) (a:=r) (xs:=[u,v,w']) (fun D i H'=>Same H H'/\H' D=some (.lst ((([u,v,w']:List V).take i).map fun y=>V.bl (isWh y)))) (fun D hD=>⟨qan9 hD _,qaf9⟩) (fun D i H' _ _ h=>SqT.of (h.1 _ _ er)) ?_ ?_
   ·intro D i y H' hD hi z9;obtain ⟨s2,hD2⟩ := z9
    refine ⟨fun k v' e=>?_,_,rfl,y,rfl,(dz y (List.mem_of_getElem? hi)).same s2,_,hD2,(by rw [List.length_map,List.length_take]; exact qgg9 (by simp; omega)),fun b o eb=>?_,?_⟩
    ·match k,e with
     | 0,e=>cases e
     | k+1,e=>cases e
    ·rw [qaq9 (qbb9 eb hD)]
     exact s2 _ _ eb
    ·rw [qaf9,qet9 _ hi]
   ·intro D H' hD z9;obtain ⟨s2,hD2⟩ := z9
    have eD:H' D=some (.lst (([isWh u,isWh v,isWh w']:List Bool).map V.bl)):=hD2
    refine ⟨D,_,rfl,SqL.of eD,_,rfl,?_⟩
    refine ite2 (fun c=>?_) (fun c=>?_)
    ·refine q0 ?_ H' s2
     rw [hwl]
     have c':(isWh u && (isWh v && isWh w'))=false:=by cases hu:isWh u <;> cases hv:isWh v <;> cases hw:isWh w' <;> simp [hu,hv,hw] at c ⊢
     unfold winL
     split
     ·rename_i a b c e
      cases e
      exact absurd c' (by simp [isWh])
     ·rfl
    ·have c':isWh u=true/\isWh v=true/\isWh w'=true:=by simpa using c
     obtain ⟨a,rfl⟩:=qha9 c'.1
     obtain ⟨b,rfl⟩:=qha9 c'.2.1
     obtain ⟨c3,rfl⟩:=qha9 c'.2.2
     have q1:=q H' s2
     rw [hwl] at q1
     have er':=s2 _ _ er
     unfold winL at q1
     dsimp only at q1
     refine ⟨_,rfl,r,_,_,_,rfl,rfl,SqT.of er',rfl,_,_,rfl,rfl,_,rfl,?_⟩
     refine ite2 (fun c1=>?_) (fun c1=>?_)
     ·rw [c1,Bool.true_and] at q1
      refine ⟨_,rfl,r,_,_,_,rfl,rfl,SqT.of er',rfl,_,_,rfl,rfl,_,rfl,?_⟩
      refine ite2 (fun c2=>?_) (fun c2=>?_)
      ·rw [c2,Bool.true_and] at q1
       refine ⟨_,rfl,_,_,rfl,rfl,_,rfl,?_⟩
       refine ite2 (fun c3=>?_) (fun c3=>?_)
       ·rw [c3,Bool.true_and] at q1
        exact ⟨_,rfl,r,_,_,_,rfl,rfl,SqT.of er',rfl,_,_,rfl,rfl,q1⟩
       ·rw [Bool.eq_false_iff.mpr c3,Bool.false_and] at q1
        exact q1
      ·rw [Bool.eq_false_iff.mpr c2,Bool.false_and] at q1
       exact ⟨_,rfl,iteF q1⟩
     ·rw [Bool.eq_false_iff.mpr c1,Bool.false_and] at q1
      exact ⟨_,rfl,iteF q1⟩
  ·refine iteP (by simp; omega) (q0 ?_ _ (Same.refl H))
   rw [hwl]
   unfold winL
   split
   ·rename_i e
    exact absurd rfl hl
   ·rfl
theorem qmk9 (F:Fun K "is_board" "is_board" qdk9 f fd) (B:Bl mg) (Cw0:Callee P w K mg base n "is_window" ["day","thing"] qom9):FnOk P w K mg base CX0 (n+1) f fd ["day","thing"] qpt9:=by
 refine F.okQ qmt9 (fun vs H Q E h=>?_) (fun cdv A outer s H vs Q E hr h=>?_)
 ·obtain ⟨_,_,rfl,_⟩:=h
  rfl
 obtain ⟨day,x,rfl,dv,q⟩:=h
 refine ⟨_,(qae9 (qax9 (qpr9 (qe_cb qfa9 rfl B.isinstance qaz9 (qa_c (qv 1) (qa_c (qhr9 (v:=.ty "list") rfl B.list_ qgo9 rfl) qad9))) (qqb9 (qe_cb (qgc9 rfl) rfl B.all bt_all (qa_c (qfc9 ["part","day"] [none,some 0] (BlkOk.of rfl rfl (SubL.to (subC rfl subN)) rfl) rfl (qdn9 (qv 1)) (fun _ _ _ _=>(qam9 (i:=0) (show (["part","day"]:List Str).Nodup by decide) rfl (Or.inl rfl))) (fun _ _ _ _=>(qe_fn Cw0 hr rfl (qa_c (qv 1) (qa_c (qv 0) qad9))))) qad9)))))),?_⟩
 walk_at "d"
 obtain ⟨t,hty,hk⟩:=dv.1.isLst (K:=K)
 unfold qek9 at q
 cases ht:lstV H x with
 | none =>
  rw [ht] at hk q
  exact ⟨_,rfl,_,"list",t,_,rfl,hty,hk,_,rfl,iteF (q _ (Same.refl H))⟩
 | some xs =>
  rw [ht] at hk q
  obtain ⟨hlen,dz⟩:=dv.2 xs ht
  obtain ⟨p,rfl,ep⟩:=qit9 ht
  refine ⟨_,rfl,_,"list",t,_,rfl,hty,hk,_,rfl,iteT ?_⟩
  refine ⟨_,rfl,p,rfl,⟨_,SqL.of ep⟩,?_⟩
  refine qdz9 (K:=K) (a:=p) (xs:=xs) (fun D i H'=>Same H H'/\H' D=some (.lst ((xs.take i).map fun y=>V.bl (winV H day y)))) (fun D hD=>⟨qan9 hD _,qaf9⟩) (fun D i H' _ _ h=>SqL.of (h.1 _ _ ep)) ?_ ?_
  ·intro D i y H' hD hi z9;obtain ⟨s2,hD2⟩ := z9
   have d2:=dz y (List.mem_of_getElem? hi)
   refine ⟨fun k v' e=>?_,_,rfl,_,rfl,day,y,rfl,d2.same s2,fun H3 s3=>⟨_,s3 _ _ hD2,(by rw [List.length_map,List.length_take]; exact qgg9 (by omega)),fun b o eb=>?_,?_⟩⟩
   ·match k,e with
    | 0,e=>cases e
    | 1,e=>exact e
    | k+2,e=>cases e
   ·rw [qaq9 (qbb9 eb hD)]
    exact s3 _ _ (s2 _ _ eb)
   ·rw [qaf9,qet9 _ hi,d2.1.winV_same s2]
  ·intro D H' hD z9;obtain ⟨s2,hD2⟩ := z9
   have eD:H' D=some (.lst ((xs.map (winV H day)).map V.bl)):=by
    rw [hD2,List.take_length,List.map_map]
    rfl
   refine ⟨D,_,rfl,SqL.of eD,?_⟩
   have e1:(xs.map (winV H day)).all id=xs.all (winV H day):=by rw [List.all_map]; rfl
   rw [e1]
   exact q H' s2
def qfs9:Sp:=fun vs H Q _=>∃ (day:Int) (p:Addr) (R:List T3),vs=[.int day,.ref p]/\LA enc3 H p R/\R.length<=4000000/\∀ (l:Addr) (H':Hp),Same H H'->H l=none->LA enc4 H' l (Ma.strOf day R)->Q (.ref l) H'
theorem qjs9 (F:Fun K "stretches" "stretches" qcv9 f fd) (B:Bl mg):FnOk P w K mg base CX0 (n+1) f fd ["day","clock"] qfs9:=by
 refine F.okQ sc_stretches (fun vs H Q E h=>?_) (fun cdv A outer s H vs Q E hr h=>?_)
 ·obtain ⟨_,_,_,rfl,_⟩:=h
  rfl
 obtain ⟨day,p,R,rfl,hR,hlen,q⟩:=h
 refine ⟨_,(qac9 (qak9 (i:=2) sc_stretches.nd rfl (Or.inl rfl) (qbj9 qad9)) (qac9 (qak9 (i:=3) sc_stretches.nd rfl (Or.inl rfl) qaa9) (qac9 (qgb9 PassesOwn.never rfl (qdn9 (qv 1)) (qfu9 rfl (qal9 (qam9 (i:=4) sc_stretches.nd rfl (Or.inl rfl)) (qal9 (qam9 (i:=5) sc_stretches.nd rfl (Or.inl rfl)) (qal9 (qam9 (i:=6) sc_stretches.nd rfl (Or.inl rfl)) qdo9)))) (qdb9 (qs_if (qaj9 qcy9 (qv 3) (qv 4) (qas9 _)) (qae9 (qbg9 (qbm9 (qv 2) (qa_c (qbn9 (qa_c (qv 3) (qa_c (qe_op qcr9 (qv 4) qaa9) (qa_c qe_bl (qa_c (qe_op qaw9 (qv 4) (qv 6)) qad9))))) qad9)))) qat9) (qac9 (qbg9 (qbm9 (qv 2) (qa_c (qbn9 (qa_c (qv 4) (qa_c (qv 5) (qa_c qe_bl (qa_c (qv 6) qad9))))) qad9))) (qae9 (qak9 (i:=3) sc_stretches.nd rfl (Or.inl rfl) (qe_op qaw9 (qv 5) qaa9)))))) (qdb9 (qs_if (qfx9 (QW.pt (qjc9 (qaj9 qgp9 (qe_cb qao9 rfl B.len qby9 (qa_c (qv 2) qad9)) qaa9 (qas9 _)) (qgm9 (qaj9 qcy9 (qv 3) (qv 0) (qas9 _)))))) (qae9 (qbg9 (qbm9 (qv 2) (qa_c (qbn9 (qa_c (qv 3) (qa_c (qe_op qcr9 (qv 0) qaa9) (qa_c qe_bl (qa_c (qe_op qaw9 (qe_op qaw9 (qv 0) (qe_ix qba9 (qe_ix qai9 (qv 1) qaa9 (fun _ _=>rfl)) qaa9 (fun _ _=>rfl))) (qe_ix qba9 (qe_ix qai9 (qv 1) qaa9 (fun _ _=>rfl)) qaa9 (fun _ _=>rfl))) qad9))))) qad9)))) qat9) (qae9 (qax9 (qv 2))))))),?_⟩
 walk_at "d"
 refine ⟨(by show 0<=sizeLine; decide),fun pr hpr=>?_⟩
 have s0:Same H (upd H pr (.lst [])):=qan9 hpr _
 obtain ⟨ws,hw1,hw2,hw3⟩:=hR.lst
 refine ⟨_,rfl,p,rfl,⟨_,SqL.of (s0 _ _ hw1)⟩,qfi9 (K:=K) (a:=p) (xs:=ws)
  (fun i σ H'=>∃ (v1 v2 v3:Option V),σ=[some (.int day),some (.ref p),some (.ref pr),some (.int (Ma.stPre (R.take i)).2),v1,v2,v3]/\Same H H'/\LA enc4 H' pr (Ma.stPre (R.take i)).1)
  ⟨_,_,_,rfl,s0,LA.nil qaf9⟩ (fun i σ H' _ z9=>by obtain ⟨_,_,_,_,s1,_⟩ := z9;exact SqL.of (s1 _ _ hw1)) ?_ ?_⟩
 ·intro i y σ H1 hi z9;obtain ⟨v1,v2,v3,rfl,s1,hL⟩ := z9
  obtain ⟨r,x,rfl,ex,er⟩:=hw3 i y hi
  obtain ⟨a,b,c⟩:=x
  have er1:=s1 _ _ er
  have hi2:i < R.length:=(List.getElem?_eq_some_iff.mp ex).1
  have et:R.take (i+1)=R.take i ++ [(a,b,c)]:=by rw [List.take_add_one,ex]; rfl
  have ln:(Ma.stPre (R.take i)).1.length<=2 * i:=by
   have:=(Ma.stPre_len (R.take i)).1
   rw [List.length_take] at this
   omega
  rw [et,Ma.stPre_snoc]
  unfold Ma.stStep
  generalize (Ma.stPre (R.take i)).1=S at *
  generalize (Ma.stPre (R.take i)).2=pp at *
  refine ⟨r,_,rfl,SqT.of er1,rfl,_,_,rfl,_,_,rfl,_,_,rfl,rfl,?_⟩
  refine ⟨fun σ' H2=>σ'=[some (.int day),some (.ref p),some (.ref pr),some (.int pp),some (.int a),some (.int b),some (.int c)]/\Same H H2/\LA enc4 H2 pr (if pp < a then S ++ [(pp,a - 1,true,a+c)] else S),?_,?_⟩
  ·refine ⟨_,rfl,_,rfl,_,_,rfl,rfl,_,rfl,?_⟩
   refine ite2 (fun z=>?_) (fun z=>?_)
   ·rw [if_pos (of_decide_eq_true z)]
    obtain ⟨us,hu1,hu2,hu3⟩:=hL.lst
    refine ⟨_,rfl,.inl ⟨rfl,_,SqL.of hu1⟩,_,rfl,_,rfl,_,_,rfl,rfl,_,rfl,_,rfl,_,_,rfl,rfl,(by show 4<=sizeLine; decide),fun r2 hr2=>?_⟩
    have s2:=qan9 hr2 (.tup [.int pp,.int (a - 1),.bl true,.int (a+c)])
    refine ⟨pr,us,.ref r2,rfl,rfl,s2 _ _ hu1,qbo9 (by omega),rfl,qcs9 hpr (s1.trans s2),?_⟩
    exact (hL.same s2).append (x:=(pp,a - 1,true,a+c)) (s2 _ _ hu1) qaf9
   ·rw [if_neg (fun y=>z (decide_eq_true y))]
    exact ⟨rfl,s1,hL⟩
  intro σ' H2 z9;obtain ⟨rfl,s2,hL2⟩ := z9
  have ln2:(if pp < a then S ++ [(pp,a - 1,true,a+c)] else S).length<=2 * i+1:=by
   split
   ·simp; omega
   ·omega
  generalize (if pp < a then S ++ [(pp,a - 1,true,a+c)] else S)=S2 at *
  obtain ⟨us,hu1,hu2,hu3⟩:=hL2.lst
  refine ⟨_,rfl,.inl ⟨rfl,_,SqL.of hu1⟩,_,rfl,_,rfl,_,rfl,(by show 4<=sizeLine; decide),fun r2 hr2=>?_⟩
  have s3:=qan9 hr2 (.tup [.int a,.int b,.bl false,.int c])
  refine ⟨pr,us,.ref r2,rfl,rfl,s3 _ _ hu1,qbo9 (by omega),?_⟩
  refine ⟨_,rfl,_,_,rfl,rfl,_,_,_,rfl,qcs9 hpr (s2.trans s3),?_⟩
  exact (hL2.same s3).append (x:=(a,b,false,c)) (s3 _ _ hu1) qaf9
 ·intro σ H1 z9;obtain ⟨v1,v2,v3,rfl,s1,hL⟩ := z9
  rw [hw2,List.take_length] at hL ⊢
  have ln:=Ma.stPre_len R
  obtain ⟨us,hu1,hu2,hu3⟩:=hL.lst
  refine ⟨fun σ' H2=>∃ u1 u2 u3 u4,σ'=[some (.int day),some (.ref p),some (.ref pr),u1,u2,u3,u4]/\Same H H2/\LA enc4 H2 pr (Ma.strOf day R),?_,?_⟩
  ·unfold Ma.strOf
   refine ⟨fun c H2=>H2=H1/\c=decide (0 < (Ma.stPre R).1.length/\(Ma.stPre R).2 < day),?_,?_⟩
   ·refine ⟨_,rfl,pr,_,rfl,.inl (SqL.of hu1),_,_,rfl,rfl,_,rfl,?_⟩
    refine ite2 (fun z=>?_) (fun z=>?_)
    ·have z':(0:Int) < ((us.length:Nat):Int):=of_decide_eq_true z
     refine ⟨_,rfl,_,rfl,_,_,rfl,rfl,_,rfl,rfl,?_⟩
     have z2:0 < (Ma.stPre R).1.length:=by omega
     by_cases c:(Ma.stPre R).2 < day <;> simp [c,z2]
    ·refine ⟨rfl,?_⟩
     have z':¬ (0:Int) < ((us.length:Nat):Int):=fun y=>z (decide_eq_true y)
     exact (decide_eq_false (by omega)).symm
   intro c H2 z9;obtain ⟨rfl,rfl⟩ := z9
   refine ite2 (fun z=>?_) (fun z=>?_)
   ·have z':=of_decide_eq_true z
    rw [if_pos z']
    have n0:0 < R.length:=by
     rcases Nat.eq_zero_or_pos R.length with e | e
     ·have:=ln.1
      omega
     ·exact e
    obtain ⟨ws',k1,k2,k3⟩:=(hR.same s1).at (K:=K)
    obtain ⟨r0,ka,kb⟩:=k3 0 _ (Ma.r_at n0)
    refine ⟨_,rfl,.inl ⟨rfl,_,SqL.of hu1⟩,_,rfl,_,rfl,_,_,rfl,rfl,_,rfl,_,rfl,p,_,_,_,rfl,rfl,SqL.of k1,ka,r0,_,_,_,rfl,rfl,SqT.of kb,rfl,_,_,rfl,rfl,_,rfl,p,_,_,_,rfl,rfl,SqL.of k1,ka,r0,_,_,_,rfl,rfl,SqT.of kb,rfl,_,_,rfl,rfl,
     (by show 4<=sizeLine; decide),fun r2 hr2=>?_⟩
    have s3:=qan9 hr2 (.tup [.int (Ma.stPre R).2,.int (day - 1),.bl true,.int (day+Ma.rA R 0+Ma.rC R 0)])
    refine ⟨pr,us,.ref r2,rfl,rfl,s3 _ _ hu1,qbo9 (by omega),_,_,_,_,rfl,qcs9 hpr (s1.trans s3),?_⟩
    exact (hL.same s3).append (x:=((Ma.stPre R).2,day - 1,true,day+Ma.rA R 0+Ma.rC R 0)) (s3 _ _ hu1) qaf9
   ·rw [if_neg (fun y=>z (decide_eq_true y))]
    exact ⟨_,_,_,_,rfl,s1,hL⟩
  intro σ' H2 z9;obtain ⟨u1,u2,u3,u4,rfl,s2,hL2⟩ := z9
  exact ⟨_,rfl,q pr H2 s2 hpr hL2⟩
end
open Ma (T6)
def enc6 (r:T6):List V:=[.int r.1,.int r.2.1,.bl r.2.2.1,.int r.2.2.2.1,.bl r.2.2.2.2.1,.int r.2.2.2.2.2]
def qhl9:Sp:=fun vs H Q _=>∃ (r:Addr) (x:T4),vs=[.ref r]/\H r=some (.tup (enc4 x))/\Q (.int (Ma.ftold x)) H
def spPut:Sp:=fun vs H Q _=>∃ (p:Addr) (a b c:Int) (R:List T3),vs=[.ref p,.int a,.int b,.int c]/\LA enc3 H p R/\R.length<=16000000/\∀ H',SameT p H H'->LA enc3 H' p (Ma.putW R a b c)->Q .non H'
def qfw9:Sp:=fun vs H Q _=>∃ (day:Int) (p:Addr) (S:List T4) (g:Int->Int),vs=[.int day,.ref p]/\LA enc4 H p S/\S.length<=16000000/\0 < day/\Ma.Rise day g/\Ma.Cov g 0 S day /\
 ∀ (l:Addr) (R:List T3) (H':Hp),Same H H'->H l=none->LA enc3 H' l R->R.length<=S.length->Ma.Can 0 day g R->Q (.ref l) H'
def qme9:Sp:=fun vs H Q _=>∃ (day:Int) (p1 p2:Addr) (R1 R2:List T3) (f1 f2:Int->Int),vs=[.int day,.ref p1,.ref p2]/\LA enc3 H p1 R1/\LA enc3 H p2 R2/\R1.length<=1900000/\R2.length<=1900000/\Ma.CK day R1/\Ma.CK day R2/\Ma.Tells day R1 f1/\Ma.Tells day R2 f2 /\
 ∀ (l:Addr) (O:List T6) (H':Hp),Same H H'->H l=none->LA enc6 H' l O->O.length<=2 * R1.length+2 * R2.length+2->Ma.Cov2 f1 f2 0 O day->Q (.ref l) H'
def qpb9:Sp:=fun vs H Q _=>∃ (p q wt rd:Int) (late:Bool),vs=[.int p,.int q,.int wt,.int rd,.bl late]/\∀ (l:Addr) (H':Hp),Same H H'->H l=none->LA enc4 H' l (Ma.pickL p q wt rd late)->Q (.ref l) H'
def qkf9:Sp:=fun vs H Q _=>∃ (day:Int) (p1 p2:Addr) (late:Bool) (R1 R2:List T3) (f1 f2:Int->Int),vs=[.int day,.ref p1,.ref p2,.bl late]/\LA enc3 H p1 R1/\LA enc3 H p2 R2/\R1.length<=1900000/\R2.length<=1900000/\Ma.CK day R1/\Ma.CK day R2/\Ma.Tells day R1 f1/\Ma.Tells day R2 f2 /\
 ∀ (l:Addr) (R:List T3) (H':Hp),Same H H'->H l=none->LA enc3 H' l R->R.length<=4 * R1.length+4 * R2.length+4->Ma.Can 0 day (fun x=>Ma.jn late (f1 x) (f2 x)) R->Q (.ref l) H'
def spTwo (op:Option Int->Option Int->Option Int):Sp:=fun vs H Q _=>∃ (day:Int) (p1 p2:Addr) (R1 R2:List T3),vs=[.int day,.ref p1,.ref p2]/\LA enc3 H p1 R1/\LA enc3 H p2 R2/\R1.length<=1900000/\R2.length<=1900000/\Ma.CK day R1/\Ma.CK day R2 /\
 ∀ (l:Addr) (R:List T3) (H':Hp),Same H H'->H l=none->LA enc3 H' l R->R.length<=4 * R1.length+4 * R2.length+4->Ma.CK day R->(∀ t,Ma.bt day R t=op (Ma.bt day R1 t) (Ma.bt day R2 t))->Q (.ref l) H'
section
variable {P:Program} {w:World} {K:W.Frag} {mg:Str->Option Value} {base:Heap} {f:Addr} {fd:FuncData} {n:Nat}
theorem qiz9 (F:Fun K "first_told" "first_told" qcn9 f fd):FnOk P w K mg base CX0 (n+1) f fd ["row"] qhl9:=by
 refine F.okQ qjd9 (fun vs H Q E h=>?_) (fun cdv A outer s H vs Q E hr h=>?_)
 ·obtain ⟨_,_,rfl,_⟩:=h
  rfl
 obtain ⟨r,x,rfl,hx,q⟩:=h
 refine ⟨_,(qae9 (qax9 (qel9 (qcq9 (qe_ix qba9 (qv 0) qaa9 (fun _ _=>rfl))) (qe_ix qba9 (qv 0) qaa9 (fun _ _=>rfl)) (qe_op qaw9 (qe_ix qba9 (qv 0) qaa9 (fun _ _=>rfl)) (qe_ix qba9 (qv 0) qaa9 (fun _ _=>rfl)))))),?_⟩
 walk_at "d"
 refine ⟨_,rfl,r,_,_,_,rfl,rfl,SqT.of hx,rfl,_,rfl,?_⟩
 unfold Ma.ftold at q
 refine ite2 (fun c=>?_) (fun c=>?_)
 ·rw [if_pos c] at q
  exact ⟨_,rfl,r,_,_,_,rfl,rfl,SqT.of hx,rfl,q⟩
 ·rw [if_neg c] at q
  exact ⟨_,rfl,r,_,_,_,rfl,rfl,SqT.of hx,rfl,_,rfl,r,_,_,_,rfl,rfl,SqT.of hx,rfl,_,_,rfl,rfl,q⟩
theorem ok_put (F:Fun K "put_window" "put_window" qck9 f fd) (B:Bl mg):FnOk P w K mg base CX0 (n+1) f fd ["clock","a","b","c"] spPut:=by
 refine F.okQ qja9 (fun vs H Q E h=>?_) (fun cdv A outer s H vs Q E hr h=>?_)
 ·obtain ⟨_,_,_,_,_,rfl,_⟩:=h
  rfl
 obtain ⟨p,a,b,c,R,rfl,hR,hlen,q⟩:=h
 refine ⟨_,(qac9 (qs_if (qaj9 qgp9 (qv 1) (qv 2) (qas9 _)) (qae9 qs_retN) qat9) (qae9 (qs_if (qfx9 (QW.pt (qjc9 (qaj9 qgp9 (qe_cb qao9 rfl B.len qby9 (qa_c (qv 0) qad9)) qaa9 (qas9 _)) (qjc9 (qaj9 qcb9 (qe_op qaw9 (qe_ix qba9 (qe_ix qai9 (qv 0) (qds9 qaa9) (fun _ _=>rfl)) qaa9 (fun _ _=>rfl)) qaa9) (qv 1) (qas9 _)) (qgm9 (qaj9 qcb9 (qe_ix qba9 (qe_ix qai9 (qv 0) (qds9 qaa9) (fun _ _=>rfl)) qaa9 (fun _ _=>rfl)) (qv 3) (qas9 _))))))) (qae9 (qjy9 (qbn9 (qa_c (qe_ix qba9 (qe_ix qai9 (qv 0) (qds9 qaa9) (fun _ _=>rfl)) qaa9 (fun _ _=>rfl)) (qa_c (qv 2) (qa_c (qv 3) qad9)))) (qg_sub (qv 0) (qds9 qaa9) qkn9))) (qae9 (qbg9 (qbm9 (qv 0) (qa_c (qbn9 (qa_c (qv 1) (qa_c (qv 2) (qa_c (qv 3) qad9)))) qad9))))))),?_⟩
 walk_at "d"
 obtain ⟨vs,hv1,hv2,hv3⟩:=hR.lst
 have neg1:∀ (i:Int) ,(-1:Int)=-i->i=1:=fun i e=>by omega
 refine ⟨_,rfl,_,rfl,_,_,rfl,rfl,_,rfl,?_⟩
 unfold Ma.putW at q
 refine ite2 (fun z=>?_) (fun z=>?_)
 ·rw [if_pos (of_decide_eq_true z)] at q
  exact q H (fun b o e _=>e) hR
 rw [if_neg (fun y=>z (decide_eq_true y))] at q
 have app:∀ H1:Hp,H1=H->(∀ H',SameT p H H'->LA enc3 H' p (R ++ [(a,b,c)])->Q .non H')->∀ r2,H1 r2=none->Q .non (upd (upd H1 r2 (.tup [.int a,.int b,.int c])) p (.lst (vs ++ [.ref r2]))):=by
  rintro H1 rfl q' r2 hr2
  have s2:=qan9 hr2 (.tup [.int a,.int b,.int c])
  refine q' _ (fun x o e nx=>?_) ((hR.same s2).append (x:=(a,b,c)) (s2 _ _ hv1) qaf9)
  rw [qaq9 nx]
  exact s2 _ _ e
 cases hl:R.getLast? with
 | none =>
  rw [hl] at q
  have e0:=List.getLast?_eq_none_iff.mp hl
  subst e0
  have v0:vs=[]:=List.length_eq_zero_iff.mp hv2
  subst v0
  refine ⟨fun k H'=>k=false/\H'=H,?_,?_⟩
  ·exact ⟨_,rfl,p,_,rfl,.inl (SqL.of hv1),_,_,rfl,rfl,_,rfl,iteN (by simp) ⟨rfl,rfl⟩⟩
  intro k H1 z9;obtain ⟨rfl,rfl⟩ := z9
  refine iteF ⟨_,rfl,.inl ⟨rfl,_,SqL.of hv1⟩,_,rfl,_,rfl,_,rfl,(by show 3<=sizeLine; decide),fun r2 hr2=>?_⟩
  refine ⟨p,_,.ref r2,rfl,rfl,(qan9 hr2 _) _ _ hv1,qbo9 (by simp),app H1 rfl q r2 hr2⟩
 | some l =>
  rw [hl] at q
  obtain ⟨R0,rfl⟩:=List.getLast?_eq_some_iff.mp hl
  have vl:vs.length=R0.length+1:=by rw [hv2]; simp
  have vne:vs ≠ []:=fun e=>by rw [e] at vl; simp at vl
  obtain ⟨r,x,e1,e2,e3⟩:=hv3 R0.length _ (List.getElem?_eq_getElem (by omega))
  have e2':l=x:=by simpa using e2
  subst e2'
  have at1:atI vs (-1)=some (.ref r):=by
   rw [qnx9 vne,show vs.length - 1=R0.length by omega,List.getElem?_eq_getElem (by omega),e1]
  obtain ⟨la,lb,lc⟩:=l
  refine ⟨fun k H'=>k=decide (lb+1=a/\lc=c)/\H'=H,?_,?_⟩
  ·refine ⟨_,rfl,p,_,rfl,.inl (SqL.of hv1),_,_,rfl,rfl,_,rfl,iteP (decide_eq_true (by show (0:Int) < ((vs.length:Nat):Int); omega)) ?_⟩
   refine ⟨_,rfl,_,rfl,p,_,_,_,rfl,rfl,SqL.of hv1,at1,r,_,_,_,rfl,rfl,SqT.of e3,rfl,_,_,rfl,rfl,_,rfl,rfl,_,rfl,?_⟩
   refine ite2 (fun y=>?_) (fun y=>?_)
   ·have y':lb+1=a:=by
     have:=of_decide_eq_true y
     simpa [enc3] using this
    refine ⟨_,rfl,_,rfl,p,_,_,_,rfl,rfl,SqL.of hv1,at1,r,_,_,_,rfl,rfl,SqT.of e3,rfl,_,rfl,rfl,_,rfl,?_,rfl⟩
    by_cases c0:lc=c <;> simp [y',c0]
   ·have y':¬ lb+1=a:=fun e=>y (decide_eq_true (by rw [<- e]))
    exact ⟨by simp [y'],rfl⟩
  intro k H1 z9;obtain ⟨rfl,rfl⟩ := z9
  dsimp only at q
  refine ite2 (fun y=>?_) (fun y=>?_)
  ·have y':=of_decide_eq_true y
   rw [if_pos y',List.dropLast_concat] at q
   refine ⟨_,rfl,_,rfl,p,_,_,_,rfl,rfl,SqL.of hv1,at1,r,_,_,_,rfl,rfl,SqT.of e3,rfl,_,rfl,_,rfl,(by show 3<=sizeLine; decide),fun r2 hr2=>?_⟩
   have s2:=qan9 hr2 (.tup [.int la,.int b,.int c])
   have ix:ixN vs.length (-1)=some R0.length:=by
    unfold ixN
    rw [if_neg (by omega),if_pos (by omega)]
    congr 1
    omega
   refine ⟨_,rfl,_,rfl,p,vs,-1,R0.length,rfl,rfl,s2 _ _ hv1,ix,?_⟩
   refine q _ (fun x o e nx=>?_) ?_
   ·rw [qaq9 nx]
    exact s2 _ _ e
   ·have h:=(hR.same s2).setAt (x:=(la,b,c)) (j:=R0.length) (s2 _ _ hv1) qaf9
    have e:(R0 ++ [(la,lb,lc)]).set R0.length (la,b,c)=R0 ++ [(la,b,c)]:=by simp
    rw [e] at h
    exact h
  ·rw [if_neg (fun z=>y (decide_eq_true z))] at q
   refine ⟨_,rfl,.inl ⟨rfl,_,SqL.of hv1⟩,_,rfl,_,rfl,_,rfl,(by show 3<=sizeLine; decide),fun r2 hr2=>?_⟩
   exact ⟨p,_,.ref r2,rfl,rfl,(qan9 hr2 _) _ _ hv1,qbo9 (by omega),app H1 rfl q r2 hr2⟩
theorem qjl9 (F:Fun K "clock_from" "clock_from" qcm9 f fd) (B:Bl mg) (Cr0:Callee P w K mg base n "first_told" ["row"] qhl9) (Cs0:Callee P w K mg base n "put_window" ["clock","a","b","c"] spPut) :
  FnOk P w K mg base CX0 (n+1) f fd ["day","rows"] qfw9:=by
 refine F.okQ sc_clock_from (fun vs H Q E h=>?_) (fun cdv A outer s H vs Q E hr h=>?_)
 ·obtain ⟨_,_,_,_,rfl,_⟩:=h
  rfl
 obtain ⟨day,p,S,g,rfl,hS,hlen,hd,rg,hC,q⟩:=h
 refine ⟨_,(qac9 (qak9 (i:=2) sc_clock_from.nd rfl (Or.inl rfl) (qbj9 qad9)) (qac9 (qgb9 PassesOwn.never rfl (qi_enum rfl B.enumerate (qa_c (qv 1) qad9)) (qfu9 rfl (qal9 (qam9 (i:=3) sc_clock_from.nd rfl (Or.inl rfl)) (qal9 (qam9 (i:=4) sc_clock_from.nd rfl (Or.inl rfl)) qdo9))) (qac9 (qak9 (i:=5) sc_clock_from.nd rfl (Or.inl rfl) (qkj9 (qel9 (qaj9 qcy9 (qe_op qaw9 (qv 3) qaa9) (qe_cb qao9 rfl B.len qby9 (qa_c (qv 1) qad9)) (qas9 _)) (qe_fn Cr0 hr rfl (qa_c (qe_ix qai9 (qv 1) (qe_op qaw9 (qv 3) qaa9) (fun _ _=>rfl)) qad9)) (qe_op qaw9 (qv 0) (qe_fn Cr0 hr rfl (qa_c (qe_ix qai9 (qv 1) qaa9 (fun _ _=>rfl)) qad9)))))) (qac9 (qak9 (i:=6) sc_clock_from.nd rfl (Or.inl rfl) (qe_ix qba9 (qv 4) qaa9 (fun _ _=>rfl))) (qac9 (qak9 (i:=7) sc_clock_from.nd rfl (Or.inl rfl) (qe_ix qba9 (qv 4) qaa9 (fun _ _=>rfl))) (qae9 (qs_if (qcq9 (qe_ix qba9 (qv 4) qaa9 (fun _ _=>rfl))) (qae9 (qbg9 (qe_fn Cs0 hr rfl (qa_c (qv 2) (qa_c (qv 6) (qa_c (qkj9 (qel9 (qaj9 qcy9 (qv 7) (qv 5) (qas9 _)) (qv 6) (qe_op qcr9 (qv 6) qaa9))) (qa_c (qe_op qcr9 (qv 7) (qv 6)) qad9))))))) (qae9 (qbg9 (qe_fn Cs0 hr rfl (qa_c (qv 2) (qa_c (qe_ix qba9 (qv 4) qaa9 (fun _ _=>rfl)) (qa_c (qkj9 (qel9 (qaj9 qcy9 (qe_op qaw9 (qv 6) (qv 7)) (qv 5) (qas9 _)) (qv 6) (qe_op qcr9 (qv 6) qaa9))) (qa_c (qv 7) qad9))))))))))))) (qae9 (qax9 (qv 2))))),?_⟩
 walk_at "d"
 refine ⟨(by show 0<=sizeLine; decide),fun pc hpc=>?_⟩
 have s0:Same H (upd H pc (.lst [])):=qan9 hpc _
 obtain ⟨ws,hw1,hw2,hw3⟩:=hS.lst
 refine ⟨_,rfl,p,rfl,⟨_,SqL.of (s0 _ _ hw1)⟩,for_enum (K:=K) (a:=p) (xs:=ws)
  (fun i σ H'=>∃ (R:List T3) (at_:Int) (v1 v2 v3 v4 v5:Option V),σ=[some (.int day),some (.ref p),some (.ref pc),v1,v2,v3,v4,v5]/\Same H H'/\LA enc3 H' pc R/\R.length<=i/\0<=at_/\Ma.Can 0 at_ g R/\(∀ r,S[i]?=some r->r.1=at_)/\(i=S.length->at_=day))
  ⟨[],0,_,_,_,_,_,rfl,s0,LA.nil qaf9,Nat.le_refl _,Int.le_refl _,⟨List.Pairwise.nil,(fun w hw=>by cases hw),fun x x0 x1=>by omega⟩,fun r e=>(hC.get e).2.2.2.2.1 rfl,fun e=>?_⟩
  (fun i σ H' _ z9=>by obtain ⟨_,_,_,_,_,_,_,_,s1,_⟩ := z9;exact SqL.of (s1 _ _ hw1)) ?_ ?_⟩
 ·have:S=[]:=List.length_eq_zero_iff.mp e.symm
  rw [this] at hC
  exact hC
 ·intro i y pe σ H1 hi z9 hpe;obtain ⟨R,at_,v1,v2,v3,v4,v5,rfl,s1,hR,hRl,a0,hCan,hat,_⟩ := z9
  obtain ⟨r,x,rfl,ex,er⟩:=hw3 i y hi
  have e1:=hat x ex
  obtain ⟨g1,g2,g3,g4,g5,g6,g7⟩:=hC.get ex
  have hi2:i < S.length:=(List.getElem?_eq_some_iff.mp ex).1
  have s2:=qan9 hpe (.tup [.int i,.ref r])
  generalize hg2:upd H1 pe (.tup [.int i,.ref r])=H2 at *
  have ep:H2 pe=some (.tup [.int i,.ref r]):=by rw [<- hg2]; exact qaf9
  clear hg2
  have s02:=s1.trans s2
  have er2:=s02 _ _ er
  have hw12:=s02 _ _ hw1
  have fo:=Ma.cfo_eq hC rg.per ex
  have step:=hCan.row a0 x e1 g2 g4
  rw [<- fo] at step
  refine ⟨pe,_,rfl,SqT.of ep,rfl,_,_,rfl,_,_,rfl,rfl,?_⟩
  refine ⟨fun v H'=>H'=H2/\v=.int (Ma.cfo day S i),?_,?_⟩
  ·refine ⟨_,rfl,_,_,rfl,rfl,_,rfl,p,_,rfl,.inl (SqL.of hw12),_,_,rfl,rfl,_,rfl,?_⟩
   obtain ⟨ws',k1,k2,k3⟩:=(hS.same s02).at (K:=K)
   rw [hw12] at k1
   cases k1
   unfold Ma.cfo
   refine ite2 (fun c=>?_) (fun c=>?_)
   ·have c':(i:Int)+1 < ((ws.length:Nat):Int):=of_decide_eq_true c
    have hi3:i+1 < S.length:=by omega
    obtain ⟨r3,ka,kb⟩:=k3 (i+1) _ (List.getElem?_eq_getElem hi3)
    rw [List.getElem?_eq_getElem hi3]
    exact ⟨_,rfl,_,rfl,_,_,rfl,rfl,p,_,_,_,rfl,rfl,SqL.of hw12,ka,r3,_,rfl,kb,rfl,rfl⟩
   ·have c':¬ (i:Int)+1 < ((ws.length:Nat):Int):=fun z=>c (decide_eq_true z)
    have hi3:S.length<=i+1:=by omega
    obtain ⟨r3,ka,kb⟩:=k3 0 _ (List.getElem?_eq_getElem (by omega:0 < S.length))
    rw [List.getElem?_eq_none_iff.mpr hi3,List.getElem?_eq_getElem (by omega:0 < S.length)]
    exact ⟨_,rfl,_,rfl,p,_,_,_,rfl,rfl,SqL.of hw12,ka,r3,_,rfl,kb,_,_,rfl,rfl,rfl,rfl⟩
  intro v H3 z9;obtain ⟨rfl,rfl⟩ := z9
  generalize Ma.cfo day S i=fol at *
  obtain ⟨xp,xq,xs,xv⟩:=x
  refine ⟨_,rfl,r,_,_,_,rfl,rfl,SqT.of er2,rfl,?_⟩
  refine ⟨_,rfl,r,_,_,_,rfl,rfl,SqT.of er2,rfl,?_⟩
  have hR2:=hR.same s2
  have fin:∀ (H4:Hp) (u1 u2 u3 u4 u5:Option V),SameT pc H3 H4->LA enc3 H4 pc (Ma.cfStep fol (xp,xq,xs,xv) R)->∃ (R:List T3) (at_:Int) (v1 v2 v3 v4 v5:Option V),[some (.int day),some (.ref p),some (.ref pc),u1,u2,u3,u4,u5]=[some (.int day),some (.ref p),some (.ref pc),v1,v2,v3,v4,v5]/\Same H H4/\LA enc3 H4 pc R/\R.length<=i+1/\0<=at_/\Ma.Can 0 at_ g R/\(∀ r,S[i+1]?=some r->r.1=at_)/\(i+1=S.length->at_=day):=by
   intro H4 u1 u2 u3 u4 u5 s4 h4
   refine ⟨_,xq+1,u1,u2,u3,u4,u5,rfl,fun b o e=>s4 b o (s02 _ _ e) (qbb9 e hpc),h4,?_,?_,step,fun r' e'=>g6 r' e',fun e=>g7 e⟩
   ·have:=Ma.cfStep_len fol (xp,xq,xs,xv) R
    omega
   ·have g1':0<=xp:=g1
    have g2':xp<=xq:=g2
    omega
  unfold Ma.cfStep at fin
  dsimp only at fin
  refine ⟨_,rfl,r,_,_,_,rfl,rfl,SqT.of er2,rfl,_,rfl,?_⟩
  refine ite2 (fun c=>?_) (fun c=>?_)
  ·have c':xs=true:=c
   rw [if_pos c'] at fin
   refine ⟨_,rfl,_,rfl,?_⟩
   refine ⟨fun v H'=>H'=H3/\v=.int (if xv < fol then xq else xq - 1),?_,?_⟩
   ·refine ⟨_,rfl,_,rfl,_,_,rfl,rfl,_,rfl,?_⟩
    refine ite2 (fun z=>?_) (fun z=>?_)
    ·exact ⟨_,rfl,rfl,by rw [if_pos (of_decide_eq_true z)]⟩
    ·exact ⟨_,rfl,_,_,rfl,rfl,rfl,by rw [if_neg (fun y=>z (decide_eq_true y))]⟩
   intro v H4 z9;obtain ⟨rfl,rfl⟩ := z9
   exact ⟨_,rfl,_,rfl,_,_,rfl,rfl,pc,_,_,_,R,rfl,hR2,by omega,fun H5 s5 h5=>fin H5 _ _ _ _ _ s5 h5⟩
  ·have c':¬ xs=true:=c
   rw [if_neg c'] at fin
   refine ⟨_,rfl,_,rfl,r,_,_,_,rfl,rfl,SqT.of er2,rfl,?_⟩
   refine ⟨fun v H'=>H'=H3/\v=.int (if xq+xv < fol then xq else xq - 1),?_,?_⟩
   ·refine ⟨_,rfl,_,rfl,_,_,rfl,rfl,_,rfl,_,_,rfl,rfl,_,rfl,?_⟩
    refine ite2 (fun z=>?_) (fun z=>?_)
    ·exact ⟨_,rfl,rfl,by rw [if_pos (of_decide_eq_true z)]⟩
    ·exact ⟨_,rfl,_,_,rfl,rfl,rfl,by rw [if_neg (fun y=>z (decide_eq_true y))]⟩
   intro v H4 z9;obtain ⟨rfl,rfl⟩ := z9
   exact ⟨_,rfl,pc,_,_,_,R,rfl,hR2,by omega,fun H5 s5 h5=>fin H5 _ _ _ _ _ s5 h5⟩
 ·intro σ H1 z9;obtain ⟨R,at_,v1,v2,v3,v4,v5,rfl,s1,hR,hRl,a0,hCan,hat,hend⟩ := z9
  have e:=hend hw2
  subst e
  exact ⟨_,rfl,q pc R H1 s1 hpc hR (by omega) hCan⟩
theorem qpe9 (F:Fun K "overlay" "overlay" qdy9 f fd) (B:Bl mg) (Cg0:Callee P w K mg base n "stretches" ["day","clock"] qfs9):FnOk P w K mg base CX0 (n+1) f fd ["day","one","other"] qme9:=by
 refine F.okQ sc_overlay (fun vs H Q E h=>?_) (fun cdv A outer s H vs Q E hr h=>?_)
 ·obtain ⟨_,_,_,_,_,_,_,rfl,_⟩:=h
  rfl
 obtain ⟨day,p1,p2,R1,R2,f1,f2,rfl,hR1,hR2,hl1,hl2,ck1,ck2,T1,T2,q⟩:=h
 refine ⟨_,(qac9 (qak9 (i:=3) sc_overlay.nd rfl (Or.inl rfl) (qe_fn Cg0 hr rfl (qa_c (qv 0) (qa_c (qv 1) qad9)))) (qac9 (qak9 (i:=4) sc_overlay.nd rfl (Or.inl rfl) (qe_fn Cg0 hr rfl (qa_c (qv 0) (qa_c (qv 2) qad9)))) (qac9 (qak9 (i:=5) sc_overlay.nd rfl (Or.inl rfl) (qbj9 qad9)) (qac9 (qak9 (i:=6) sc_overlay.nd rfl (Or.inl rfl) qaa9) (qac9 (qak9 (i:=7) sc_overlay.nd rfl (Or.inl rfl) qaa9) (qac9 (qak9 (i:=8) sc_overlay.nd rfl (Or.inl rfl) qaa9) (qac9 (qfm9 PassesOwn.never (qaj9 qcy9 (qv 8) (qv 0) (qas9 _)) (qac9 (qak9 (i:=9) sc_overlay.nd rfl (Or.inl rfl) (qe_cb (qge9 rfl) rfl B.min qib9 (qa_c (qe_ix qba9 (qe_ix qai9 (qv 3) (qv 6) (fun _ _=>rfl)) qaa9 (fun _ _=>rfl)) (qa_c (qe_ix qba9 (qe_ix qai9 (qv 4) (qv 7) (fun _ _=>rfl)) qaa9 (fun _ _=>rfl)) qad9)))) (qac9 (qbg9 (qbm9 (qv 5) (qa_c (qbn9 (qa_c (qv 8) (qa_c (qv 9) (qa_c (qe_ix qba9 (qe_ix qai9 (qv 3) (qv 6) (fun _ _=>rfl)) qaa9 (fun _ _=>rfl)) (qa_c (qe_ix qba9 (qe_ix qai9 (qv 3) (qv 6) (fun _ _=>rfl)) qaa9 (fun _ _=>rfl)) (qa_c (qe_ix qba9 (qe_ix qai9 (qv 4) (qv 7) (fun _ _=>rfl)) qaa9 (fun _ _=>rfl)) (qa_c (qe_ix qba9 (qe_ix qai9 (qv 4) (qv 7) (fun _ _=>rfl)) qaa9 (fun _ _=>rfl)) qad9))))))) qad9))) (qdb9 (qs_if (qaj9 qcb9 (qe_ix qba9 (qe_ix qai9 (qv 3) (qv 6) (fun _ _=>rfl)) qaa9 (fun _ _=>rfl)) (qv 9) (qas9 _)) (qae9 (qs_aug (i:=6) sc_overlay.nd rfl (Or.inl rfl) ip_add qaa9)) qat9) (qdb9 (qs_if (qaj9 qcb9 (qe_ix qba9 (qe_ix qai9 (qv 4) (qv 7) (fun _ _=>rfl)) qaa9 (fun _ _=>rfl)) (qv 9) (qas9 _)) (qae9 (qs_aug (i:=7) sc_overlay.nd rfl (Or.inl rfl) ip_add qaa9)) qat9) (qae9 (qak9 (i:=8) sc_overlay.nd rfl (Or.inl rfl) (qe_op qaw9 (qv 9) qaa9)))))))) (qae9 (qax9 (qv 5)))))))))),?_⟩
 walk_at "d"
 refine ⟨_,rfl,_,rfl,day,p1,R1,rfl,hR1,by omega,fun l1 H1 s1 fr1 hS1=>?_⟩
 refine ⟨_,rfl,_,rfl,day,p2,R2,rfl,hR2.same s1,by omega,fun l2 H2 s2 fr2 hS2=>?_⟩
 have C1:=Ma.str_cov ck1 T1
 have C2:=Ma.str_cov ck2 T2
 have b1:=Ma.strOf_len day R1
 have b2:=Ma.strOf_len day R2
 have hS1:=hS1.same s2
 generalize Ma.strOf day R1=S1 at *
 generalize Ma.strOf day R2=S2 at *
 have s02:=s1.trans s2
 have hd:=ck1.d0
 refine ⟨(by show 0<=sizeLine; decide),fun pr hpr=>?_⟩
 have sr:Same H2 (upd H2 pr (.lst [])):=qan9 hpr _
 refine qfj9 (fun σ H'=>∃ (O:List T6) (k j:Nat) (p:Int) (v:Option V),σ=[some (.int day),some (.ref p1),some (.ref p2),some (.ref l1),some (.ref l2),some (.ref pr),some (.int k),some (.int j),some (.int p),v] /\
   Same H2 H'/\LA enc6 H' pr O/\Ma.Cov2 f1 f2 0 O p/\0<=p/\p<=day/\O.length<=k+j/\k<=S1.length/\j<=S2.length/\(p < day->∃ r1 r2,S1[k]?=some r1/\r1.1<=p/\p<=r1.2.1/\S2[j]?=some r2/\r2.1<=p/\p<=r2.2.1))
  (fun σ _=>match σ with | [_,_,_,_,_,_,_,_,some (.int p),_]=>(day - p).toNat | _=>0) ?_ ?_ ?_
 ·refine ⟨[],0,0,0,none,rfl,sr,LA.nil qaf9,rfl,Int.le_refl _,by omega,by simp,Nat.zero_le _,Nat.zero_le _,fun h=>?_⟩
  have n1:0 < S1.length:=by
   rcases Nat.eq_zero_or_pos S1.length with e | e
   ·rw [List.length_eq_zero_iff.mp e] at C1
    have:(0:Int)=day:=C1
    omega
   ·exact e
  have n2:0 < S2.length:=by
   rcases Nat.eq_zero_or_pos S2.length with e | e
   ·rw [List.length_eq_zero_iff.mp e] at C2
    have:(0:Int)=day:=C2
    omega
   ·exact e
  have e1:=List.getElem?_eq_getElem n1
  have e2:=List.getElem?_eq_getElem n2
  obtain ⟨g1,g2,g3,g4,g5,g6,g7⟩:=C1.get e1
  obtain ⟨h1,h2,h3,h4,h5,h6,h7⟩:=C2.get e2
  have:=g5 rfl
  have:=h5 rfl
  exact ⟨_,_,e1,by omega,by omega,e2,by omega,by omega⟩
 ·intro σ H3 z9;obtain ⟨O,k,j,p,v,rfl,s3,hO,cv,p0,pd,ol,kl,jl,hin⟩ := z9
  refine ⟨_,rfl,_,rfl,_,_,rfl,rfl,_,rfl,?_⟩
  refine ite2 (fun c=>?_) (fun c=>?_)
  ·have c':p < day:=of_decide_eq_true c
   obtain ⟨r1,r2,e1,x1,x2,e2,y1,y2⟩:=hin c'
   obtain ⟨g1,g2,g3,g4,g5,g6,g7⟩:=C1.get e1
   obtain ⟨h1,h2,h3,h4,h5,h6,h7⟩:=C2.get e2
   obtain ⟨us1,u1,u2,u3⟩:=(hS1.same s3).at (K:=K)
   obtain ⟨us2,w1,w2,w3⟩:=(hS2.same s3).at (K:=K)
   obtain ⟨a1,ua,ub⟩:=u3 k _ e1
   obtain ⟨a2,wa,wb⟩:=w3 j _ e2
   obtain ⟨q1p,q1q,q1s,q1v⟩:=r1
   obtain ⟨q2p,q2q,q2s,q2v⟩:=r2
   have x2':p<=q1q:=x2
   have y2':p<=q2q:=y2
   refine ⟨_,rfl,_,rfl,l1,_,_,_,rfl,rfl,SqL.of u1,ua,a1,_,_,_,rfl,rfl,SqT.of ub,rfl,_,rfl,_,rfl,l2,_,_,_,rfl,rfl,SqL.of w1,wa,a2,_,_,_,rfl,rfl,SqT.of wb,rfl,_,_,rfl,?_⟩
   generalize hq:(if q2q < q1q then q2q else q1q)=qq
   have qp:p<=qq:=by rw [<- hq]; split <;> omega
   have qa:qq<=q1q:=by rw [<- hq]; split <;> omega
   have qb:qq<=q2q:=by rw [<- hq]; split <;> omega
   have qe:qq=q1q\/qq=q2q:=by rw [<- hq]; split <;> simp
   obtain ⟨vs,v1,v2,v3⟩:=hO.lst
   refine ⟨_,rfl,.inl ⟨rfl,_,SqL.of v1⟩,_,rfl,_,rfl,_,rfl,_,rfl,l1,_,_,_,rfl,rfl,SqL.of u1,ua,a1,_,_,_,rfl,rfl,SqT.of ub,rfl,_,rfl,_,rfl,l1,_,_,_,rfl,rfl,SqL.of u1,ua,a1,_,_,_,rfl,rfl,SqT.of ub,rfl,
    _,rfl,_,rfl,l2,_,_,_,rfl,rfl,SqL.of w1,wa,a2,_,_,_,rfl,rfl,SqT.of wb,rfl,_,rfl,_,rfl,l2,_,_,_,rfl,rfl,SqL.of w1,wa,a2,_,_,_,rfl,rfl,SqT.of wb,rfl,(by show 6<=sizeLine; decide),fun rn hrn=>?_⟩
   have s4:=qan9 hrn (.tup [.int p,.int qq,.bl q1s,.int q1v,.bl q2s,.int q2v])
   refine ⟨pr,vs,.ref rn,rfl,rfl,s4 _ _ v1,qbo9 (by omega),?_⟩
   have hO5:=(hO.same s4).append (x:=(p,qq,q1s,q1v,q2s,q2v)) (s4 _ _ v1) qaf9
   have s5:=qcs9 (o:=.lst (vs ++ [.ref rn])) hpr (s3.trans s4)
   have cv5:Ma.Cov2 f1 f2 0 (O ++ [(p,qq,q1s,q1v,q2s,q2v)]) (qq+1):=Ma.Cov2.snoc (r:=(p,qq,q1s,q1v,q2s,q2v)) qp (fun x a b=>by
    have a':p<=x:=a
    have b':x<=qq:=b
    exact ⟨g4 x (by show q1p<=x; have:q1p<=p:=x1; omega) (by show x<=q1q; omega),h4 x (by show q2p<=x; have:q2p<=p:=y1; omega) (by show x<=q2q; omega)⟩) cv
   generalize upd (upd H3 rn _) pr _=H5 at *
   have hS15:=hS1.same s5
   have hS25:=hS2.same s5
   obtain ⟨us1,u1,u2,u3⟩:=hS15.at (K:=K)
   obtain ⟨us2,w1,w2,w3⟩:=hS25.at (K:=K)
   obtain ⟨a1,ua,ub⟩:=u3 k _ e1
   obtain ⟨a2,wa,wb⟩:=w3 j _ e2
   refine ⟨fun σ' H'=>H'=H5/\∃ k':Nat,σ'=[some (.int day),some (.ref p1),some (.ref p2),some (.ref l1),some (.ref l2),some (.ref pr),some (.int k'),some (.int j),some (.int p),some (.int qq)]/\((qq=q1q/\k'=k+1)\/(qq < q1q/\k'=k)),?_,?_⟩
   ·refine ⟨_,rfl,_,rfl,l1,_,_,_,rfl,rfl,SqL.of u1,ua,a1,_,_,_,rfl,rfl,SqT.of ub,rfl,_,rfl,rfl,_,rfl,?_⟩
    refine ite2 (fun z=>?_) (fun z=>?_)
    ·have z':=of_decide_eq_true z
     injection z' with z'
     exact ⟨_,rfl,_,_,rfl,rfl,rfl,k+1,rfl,.inl ⟨z'.symm,rfl⟩⟩
    ·have z':¬ q1q=qq:=fun e=>z (decide_eq_true (by rw [e]))
     exact ⟨rfl,k,rfl,.inr ⟨by omega,rfl⟩⟩
   intro σ' H6 z9;obtain ⟨rfl,k',rfl,hk'⟩ := z9
   refine ⟨fun σ' H'=>H'=H6/\∃ j':Nat,σ'=[some (.int day),some (.ref p1),some (.ref p2),some (.ref l1),some (.ref l2),some (.ref pr),some (.int k'),some (.int j'),some (.int p),some (.int qq)]/\((qq=q2q/\j'=j+1)\/(qq < q2q/\j'=j)),?_,?_⟩
   ·refine ⟨_,rfl,_,rfl,l2,_,_,_,rfl,rfl,SqL.of w1,wa,a2,_,_,_,rfl,rfl,SqT.of wb,rfl,_,rfl,rfl,_,rfl,?_⟩
    refine ite2 (fun z=>?_) (fun z=>?_)
    ·have z':=of_decide_eq_true z
     injection z' with z'
     exact ⟨_,rfl,_,_,rfl,rfl,rfl,j+1,rfl,.inl ⟨z'.symm,rfl⟩⟩
    ·have z':¬ q2q=qq:=fun e=>z (decide_eq_true (by rw [e]))
     exact ⟨rfl,j,rfl,.inr ⟨by omega,rfl⟩⟩
   intro σ' H7 z9;obtain ⟨rfl,j',rfl,hj'⟩ := z9
   have kS:k < S1.length:=(List.getElem?_eq_some_iff.mp e1).1
   have jS:j < S2.length:=(List.getElem?_eq_some_iff.mp e2).1
   refine ⟨_,rfl,_,_,rfl,rfl,⟨_,k',j',qq+1,_,rfl,s5,hO5,cv5,by omega,?_,?_,by omega,by omega,fun lt=>?_⟩,?_⟩
   ·have:q1q < day:=g3
    omega
   ·rw [List.length_append,List.length_singleton]
    omega
   ·have A:∃ r1,S1[k']?=some r1/\r1.1<=qq+1/\qq+1<=r1.2.1:=by
     rcases hk' with ⟨z,rfl⟩ | ⟨z,rfl⟩
     ·have hk1:k+1 < S1.length:=by
       rcases (by omega:k+1 < S1.length\/k+1=S1.length) with y | y
       ·exact y
       ·have:=g7 y
        have:q1q+1=day:=this
        omega
      have e:=List.getElem?_eq_getElem hk1
      have:=g6 _ e
      have:=(C1.get e).2.1
      have:(S1[k+1]).1=q1q+1:=g6 _ e
      exact ⟨_,e,by omega,by omega⟩
     ·exact ⟨_,e1,by show q1p<=qq+1; have:q1p<=p:=x1; omega,by show qq+1<=q1q; omega⟩
    have A2:∃ r2,S2[j']?=some r2/\r2.1<=qq+1/\qq+1<=r2.2.1:=by
     rcases hj' with ⟨z,rfl⟩ | ⟨z,rfl⟩
     ·have hk1:j+1 < S2.length:=by
       rcases (by omega:j+1 < S2.length\/j+1=S2.length) with y | y
       ·exact y
       ·have:=h7 y
        have:q2q+1=day:=this
        omega
      have e:=List.getElem?_eq_getElem hk1
      have:=(C2.get e).2.1
      have:(S2[j+1]).1=q2q+1:=h6 _ e
      exact ⟨_,e,by omega,by omega⟩
     ·exact ⟨_,e2,by show q2p<=qq+1; have:q2p<=p:=y1; omega,by show qq+1<=q2q; omega⟩
    obtain ⟨r1',b1,b2,b3⟩:=A
    obtain ⟨r2',d1,d2,d3⟩:=A2
    exact ⟨r1',r2',b1,b2,b3,d1,d2,d3⟩
   ·show (day - (qq+1)).toNat < (day - p).toNat
    omega
  ·have c':¬ p < day:=fun z=>c (decide_eq_true z)
   have e:p=day:=by omega
   subst e
   refine ⟨_,rfl,q pr O H3 (s02.trans s3) (s02.free hpr) hO (by omega) cv⟩
 ·intro σ H' Q1 Q2 hq z9;obtain ⟨v,e1,v',e2,i,j,e3,e4,k,e5,q1⟩ := z9
  exact ⟨v,e1,v',e2,i,j,e3,e4,k,e5,hq _ _ q1⟩
theorem ok_picked (F:Fun K "picked" "picked" qeq9 f fd) (B:Bl mg):FnOk P w K mg base CX0 (n+1) f fd ["p","q","waiting","riding","late"] qpb9:=by
 refine F.okQ sc_picked (fun vs H Q E h=>?_) (fun cdv A outer s H vs Q E hr h=>?_)
 ·obtain ⟨_,_,_,_,_,rfl,_⟩:=h
  rfl
 obtain ⟨p,qq,wt,rd,late,rfl,q⟩:=h
 refine ⟨_,(qac9 (qak9 (i:=5) sc_picked.nd rfl (Or.inl rfl) (qe_op qcr9 (qv 2) (qv 3))) (qac9 (qak9 (i:=6) sc_picked.nd rfl (Or.inl rfl) (qbn9 (qa_c (qv 0) (qa_c (qe_cb (qge9 rfl) rfl B.min qib9 (qa_c (qv 1) (qa_c (qv 5) qad9))) (qa_c (qv 4) (qa_c (qkj9 (qel9 (qcq9 (qv 4)) (qv 2) (qv 3))) qad9)))))) (qac9 (qak9 (i:=7) sc_picked.nd rfl (Or.inl rfl) (qbn9 (qa_c (qe_cb (qij9 rfl) rfl B.max bt_max (qa_c (qv 0) (qa_c (qe_op qaw9 (qv 5) qaa9) qad9))) (qa_c (qv 1) (qa_c (qe_not (qv 4)) (qa_c (qkj9 (qel9 (qcq9 (qv 4)) (qv 3) (qv 2))) qad9)))))) (qae9 (qax9 (qlk9 ["part"] [none] (BlkOk.of rfl rfl (SubL.to subN) rfl) rfl (qi_tup (qbn9 (qa_c (qv 6) (qa_c (qv 7) qad9)))) (fun _ _ _ _=>(qam9 (i:=0) (show (["part"]:List Str).Nodup by decide) rfl (Or.inl rfl))) (fun _ _ _ _=>(qaj9 qjf9 (qe_ix (qku9 K rfl) (qv 0) qaa9 (fun _ _=>rfl)) (qe_ix (qku9 K rfl) (qv 0) qaa9 (fun _ _=>rfl)) (qas9 _))) (fun _ _ _ _=>(qv 0)))))))),?_⟩
 walk_at "d"
 refine ⟨_,rfl,_,rfl,_,_,rfl,rfl,?_⟩
 refine ⟨_,rfl,_,rfl,_,rfl,_,_,rfl,_,rfl,?_⟩
 refine ⟨fun v H'=>H'=H/\v=.int (if late=true then wt else rd),?_,?_⟩
 ·refine ⟨_,rfl,_,rfl,?_⟩
  cases late
  ·exact iteF ⟨_,rfl,rfl,rfl⟩
  ·exact iteT ⟨_,rfl,rfl,rfl⟩
 intro v H1 z9;obtain ⟨rfl,rfl⟩ := z9
 refine ⟨(by show 4<=sizeLine; decide),fun ra hra=>?_⟩
 generalize hgH2:upd _ ra _=H2
 revert H2
 refine qar9 hra fun H2 s2 e2=>?_
 refine ⟨_,rfl,_,rfl,_,_,rfl,rfl,_,_,rfl,_,rfl,_,rfl,_,rfl,?_⟩
 refine ⟨fun v H'=>H'=H2/\v=.int (if late=true then rd else wt),?_,?_⟩
 ·refine ⟨_,rfl,_,rfl,?_⟩
  cases late
  ·exact iteF ⟨_,rfl,rfl,rfl⟩
  ·exact iteT ⟨_,rfl,rfl,rfl⟩
 intro v H2 z9;obtain ⟨rfl,rfl⟩ := z9
 refine ⟨(by show 4<=sizeLine; decide),fun rt hrt=>?_⟩
 generalize hgH3:upd _ rt _=H3
 revert H3
 refine qar9 hrt fun H3 s3 e3=>?_
 have e23:=s3 _ _ e2
 refine ⟨_,rfl,_,rfl,(by show 2<=sizeLine; decide),fun rp hrp=>?_⟩
 generalize hgH4:upd _ rp _=H4
 revert H4
 refine qar9 hrp fun H4 s4 e4=>?_
 have e24:=s4 _ _ e23
 have e34:=s4 _ _ e3
 have s14:=(s2.trans s3).trans s4
 unfold Ma.pickL at q
 generalize hx1:(if wt - rd < qq then wt - rd else qq)=x1 at *
 generalize hx2:(if wt - rd+1 > p then wt - rd+1 else p)=x2 at *
 generalize (if late=true then wt else rd)=v1 at *
 generalize (if late=true then rd else wt)=v2 at *
 refine ⟨rp,rfl,⟨_,SqT.of e4⟩,?_⟩
 refine qoq9 (K:=K) (a:=rp) (xs:=[.ref ra,.ref rt]) (fun D i H'=>Same H4 H'/\LA enc4 H' D (if i=0 then [] else if i=1 then (if p<=x1 then [(p,x1,late,v1)] else []) else (if p<=x1 then [(p,x1,late,v1)] else []) ++ (if x2<=qq then [(x2,qq,!late,v2)] else [])))
  (fun D hD=>⟨qan9 hD _,LA.nil qaf9⟩) (fun D i H' _ _ h=>SqT.of (h.1 _ _ e4)) ?_ ?_
 ·intro D i y H' hD hi z9;obtain ⟨sD,hD2⟩ := z9
  obtain ⟨ds,hd1,hd2,hd3⟩:=hD2.lst
  refine ⟨fun k v e=>?_,?_⟩
  ·match k,e with
   | 0,e=>cases e
   | k+1,e=>cases e
  match i,hi with
  | 0,hi =>
   have ey:y=.ref ra:=by simpa using hi.symm
   subst ey
   have er:=sD _ _ e24
   refine ⟨_,rfl,ra,_,_,_,rfl,rfl,SqT.of er,rfl,_,rfl,ra,_,_,_,rfl,rfl,SqT.of er,rfl,_,_,rfl,rfl,_,rfl,?_⟩
   refine ite2 (fun c=>?_) (fun c=>?_)
   ·refine ⟨_,rfl,ds,hd1,qbo9 (by rw [hd2]; simp),qcs9 hD sD,?_⟩
    have c':p<=x1:=of_decide_eq_true c
    have:=hD2.append (x:=(p,x1,late,v1)) hd1 er
    simpa [c'] using this
   ·have c':¬ p<=x1:=fun z=>c (decide_eq_true z)
    exact ⟨sD,by simpa [c'] using hD2⟩
  | 1,hi =>
   have ey:y=.ref rt:=by simpa using hi.symm
   subst ey
   have er:=sD _ _ e34
   refine ⟨_,rfl,rt,_,_,_,rfl,rfl,SqT.of er,rfl,_,rfl,rt,_,_,_,rfl,rfl,SqT.of er,rfl,_,_,rfl,rfl,_,rfl,?_⟩
   refine ite2 (fun c=>?_) (fun c=>?_)
   ·refine ⟨_,rfl,ds,hd1,qbo9 (by rw [hd2]; simp; split <;> simp),qcs9 hD sD,?_⟩
    have c':x2<=qq:=of_decide_eq_true c
    have:=hD2.append (x:=(x2,qq,!late,v2)) hd1 er
    simpa [c'] using this
   ·have c':¬ x2<=qq:=fun z=>c (decide_eq_true z)
    exact ⟨sD,by simpa [c'] using hD2⟩
  | k+2,hi=>simp at hi
 ·intro D H' hD z9;obtain ⟨sD,hD2⟩ := z9
  exact q D H' (s14.trans sD) (s14.free hD) (by simpa using hD2)
theorem ok_joined (F:Fun K "joined" "joined" qex9 f fd) (B:Bl mg) (Ch1:Callee P w K mg base n "overlay" ["day","one","other"] qme9) (Cc1:Callee P w K mg base n "picked" ["p","q","waiting","riding","late"] qpb9) (Cj0:Callee P w K mg base n "clock_from" ["day","rows"] qfw9) :
  FnOk P w K mg base CX0 (n+1) f fd ["day","one","other","late"] qkf9:=by
 refine F.okQ sc_joined (fun vs H Q E h=>?_) (fun cdv A outer s H vs Q E hr h=>?_)
 ·obtain ⟨_,_,_,_,_,_,_,_,rfl,_⟩:=h
  rfl
 obtain ⟨day,p1,p2,late,R1,R2,f1,f2,rfl,hR1,hR2,hl1,hl2,ck1,ck2,T1,T2,q⟩:=h
 refine ⟨_,(qac9 (qak9 (i:=4) sc_joined.nd rfl (Or.inl rfl) (qbj9 qad9)) (qac9 (qgb9 PassesOwn.never rfl (qdn9 (qe_fn Ch1 hr rfl (qa_c (qv 0) (qa_c (qv 1) (qa_c (qv 2) qad9))))) (qfu9 rfl (qal9 (qam9 (i:=5) sc_joined.nd rfl (Or.inl rfl)) (qal9 (qam9 (i:=6) sc_joined.nd rfl (Or.inl rfl)) (qal9 (qam9 (i:=7) sc_joined.nd rfl (Or.inl rfl)) (qal9 (qam9 (i:=8) sc_joined.nd rfl (Or.inl rfl)) (qal9 (qam9 (i:=9) sc_joined.nd rfl (Or.inl rfl)) (qal9 (qam9 (i:=10) sc_joined.nd rfl (Or.inl rfl)) qdo9))))))) (qae9 (qs_if (qaj9 qcb9 (qv 7) (qv 9) (qas9 _)) (qae9 (qbg9 (qbm9 (qv 4) (qa_c (qbn9 (qa_c (qv 5) (qa_c (qv 6) (qa_c (qv 7) (qa_c (qkj9 (qel9 (qcq9 (qv 3)) (qe_cb (qij9 rfl) rfl B.max bt_max (qa_c (qv 8) (qa_c (qv 10) qad9))) (qe_cb (qge9 rfl) rfl B.min qib9 (qa_c (qv 8) (qa_c (qv 10) qad9))))) qad9))))) qad9)))) (qae9 (qs_if (qcq9 (qv 7)) (qae9 (qbg9 (qiq9 (qv 4) (qa_c (qe_fn Cc1 hr rfl (qa_c (qv 5) (qa_c (qv 6) (qa_c (qv 8) (qa_c (qv 10) (qa_c (qv 3) qad9)))))) qad9)))) (qae9 (qbg9 (qiq9 (qv 4) (qa_c (qe_fn Cc1 hr rfl (qa_c (qv 5) (qa_c (qv 6) (qa_c (qv 10) (qa_c (qv 8) (qa_c (qv 3) qad9)))))) qad9))))))))) (qae9 (qax9 (qe_fn Cj0 hr rfl (qa_c (qv 0) (qa_c (qv 4) qad9))))))),?_⟩
 walk_at "d"
 refine ⟨(by show 0<=sizeLine; decide),fun pr hpr=>?_⟩
 have s0:Same H (upd H pr (.lst [])):=qan9 hpr _
 refine ⟨_,rfl,_,rfl,_,rfl,day,p1,p2,R1,R2,f1,f2,rfl,hR1.same s0,hR2.same s0,hl1,hl2,ck1,ck2,T1,T2,fun lo O H1 s1 fr1 hO hOl cv=>?_⟩
 have er1:H1 pr=some (.lst []):=s1 _ _ qaf9
 have nlo:lo ≠ pr:=fun e=>by rw [e,qaf9] at fr1; cases fr1
 have s01:=s0.trans s1
 clear fr1 s1
 obtain ⟨ws,hw1,hw2,hw3⟩:=hO.lst
 have nws:∀ (i:Nat) r,ws[i]?=some (.ref r)->r ≠ pr:=fun i r e z=>by
  obtain ⟨r',x,e1,_,e2⟩:=hw3 i _ e
  cases e1
  rw [z,er1] at e2
  cases e2
 have rg:=Ma.rise_jn late (ck1.rise T1) (ck2.rise T2)
 refine ⟨lo,rfl,⟨_,SqL.of hw1⟩,qfi9 (K:=K) (a:=lo) (xs:=ws)
  (fun i σ H'=>∃ (S:List T4) (at_:Int) (v1 v2 v3 v4 v5 v6:Option V),σ=[some (.int day),some (.ref p1),some (.ref p2),some (.bl late),some (.ref pr),v1,v2,v3,v4,v5,v6]/\Same H H'/\SameT pr H1 H'/\LA enc4 H' pr S/\S.length<=2 * i/\Ma.Cov (fun x=>Ma.jn late (f1 x) (f2 x)) 0 S at_/\(∀ r,O[i]?=some r->r.1=at_)/\(i=O.length->at_=day))
  ⟨[],0,_,_,_,_,_,_,rfl,s01,fun b o e _=>e,LA.nil er1,by simp,rfl,fun r e=>(cv.get e).2.2.2.2.1 rfl,fun e=>?_⟩
  (fun i σ H' _ z9=>by obtain ⟨_,_,_,_,_,_,_,_,_,_,s1,_⟩ := z9;exact SqL.of (s1 _ _ hw1 nlo)) ?_ ?_⟩
 ·rw [List.length_eq_zero_iff.mp e.symm] at cv
  exact cv
 ·intro i y σ H2 hi z9;obtain ⟨S,at_,v1,v2,v3,v4,v5,v6,rfl,sH,s2,hS,hSl,hC,hat,_⟩ := z9
  obtain ⟨r,x,rfl,ex,er⟩:=hw3 i y hi
  have e1:=hat x ex
  obtain ⟨g1,g2,g3,g4,g5,g6,g7⟩:=cv.get ex
  have er2:=s2 _ _ er (nws i r hi)
  have hi2:i < O.length:=(List.getElem?_eq_some_iff.mp ex).1
  have jr:=Ma.joinRow_cov (late:=late) g2 g4
  rw [e1] at jr
  have hC2:=hC.append jr
  have jl:=Ma.joinRow_len late x
  obtain ⟨us,hu1,hu2,hu3⟩:=hS.lst
  have fin:∀ (H4:Hp) (u1 u2 u3 u4 u5 u6:Option V),SameT pr H2 H4->LA enc4 H4 pr (S ++ Ma.joinRow late x)->∃ (S:List T4) (at_:Int) (v1 v2 v3 v4 v5 v6:Option V),[some (.int day),some (.ref p1),some (.ref p2),some (.bl late),some (.ref pr),u1,u2,u3,u4,u5,u6]=[some (.int day),some (.ref p1),some (.ref p2),some (.bl late),some (.ref pr),v1,v2,v3,v4,v5,v6]/\Same H H4/\SameT pr H1 H4/\LA enc4 H4 pr S/\S.length<=2 * (i+1)/\Ma.Cov (fun x=>Ma.jn late (f1 x) (f2 x)) 0 S at_/\(∀ r,O[i+1]?=some r->r.1=at_)/\(i+1=O.length->at_=day):=by
   intro H4 u1 u2 u3 u4 u5 u6 s4 h4
   refine ⟨_,_,u1,u2,u3,u4,u5,u6,rfl,fun b o e=>s4 _ _ (sH _ _ e) (qbb9 e hpr),fun b o e nb=>s4 _ _ (s2 _ _ e nb) nb,h4,?_,hC2,fun r' e'=>g6 r' e',fun e=>g7 e⟩
   rw [List.length_append]
   omega
  obtain ⟨xp,xq,xs,xv,xs',xv'⟩:=x
  unfold Ma.joinRow at fin
  dsimp only at fin
  refine ⟨r,_,rfl,SqT.of er2,rfl,_,_,rfl,_,_,rfl,_,_,rfl,_,_,rfl,_,_,rfl,_,_,rfl,rfl,?_⟩
  refine ⟨_,rfl,_,rfl,rfl,_,rfl,?_⟩
  refine ite2 (fun c=>?_) (fun c=>?_)
  ·have c':xs=xs':=by
    have:=of_decide_eq_true c
    injection this
   rw [if_pos c'] at fin
   refine ⟨_,rfl,.inl ⟨rfl,_,SqL.of hu1⟩,_,rfl,_,rfl,_,rfl,?_⟩
   refine ⟨fun v H'=>H'=H2/\v=.int (Ma.jn late xv xv'),?_,?_⟩
   ·refine ⟨_,rfl,_,rfl,?_⟩
    unfold Ma.jn
    cases late
    ·exact iteF ⟨_,rfl,_,rfl,_,_,rfl,rfl,rfl⟩
    ·exact iteT ⟨_,rfl,_,rfl,_,_,rfl,rfl,rfl⟩
   intro v H3 z9;obtain ⟨rfl,rfl⟩ := z9
   refine ⟨(by show 4<=sizeLine; decide),fun rn hrn=>?_⟩
   have s4:=qan9 hrn (.tup [.int xp,.int xq,.bl xs,.int (Ma.jn late xv xv')])
   refine ⟨pr,us,.ref rn,rfl,rfl,s4 _ _ hu1,qbo9 (by omega),?_⟩
   refine fin _ _ _ _ _ _ _ (fun b o e nb=>?_) ((hS.same s4).append (x:=(xp,xq,xs,Ma.jn late xv xv')) (s4 _ _ hu1) qaf9)
   rw [qaq9 nb]
   exact s4 _ _ e
  ·have c':¬ xs=xs':=fun e=>c (decide_eq_true (by rw [e]))
   rw [if_neg c'] at fin
   refine ⟨_,rfl,_,rfl,?_⟩
   have ext:∀ (L:List T4),L.length<=2->(∀ (H4:Hp) (u1 u2 u3 u4 u5 u6:Option V),SameT pr H2 H4->LA enc4 H4 pr (S ++ L)->∃ (S:List T4) (at_:Int) (v1 v2 v3 v4 v5 v6:Option V),[some (.int day),some (.ref p1),some (.ref p2),some (.bl late),some (.ref pr),u1,u2,u3,u4,u5,u6]=[some (.int day),some (.ref p1),some (.ref p2),some (.bl late),some (.ref pr),v1,v2,v3,v4,v5,v6]/\Same H H4/\SameT pr H1 H4/\LA enc4 H4 pr S/\S.length<=2 * (i+1)/\Ma.Cov (fun x=>Ma.jn late (f1 x) (f2 x)) 0 S at_/\(∀ r,O[i+1]?=some r->r.1=at_)/\(i+1=O.length->at_=day)) ->
     ∀ (l:Addr) (H3:Hp),Same H2 H3->LA enc4 H3 l L->∀ (u1 u2 u3 u4 u5 u6:Option V),∃ (l2 b:Addr) (ys zs:List V),V.ref pr=.ref l2/\[V.ref l]=[.ref b]/\H3 l2=some (.lst ys)/\H3 b=some (.lst zs)/\ys.length+zs.length<=sizeLine/\∃ (S:List T4) (at_:Int) (v1 v2 v3 v4 v5 v6:Option V),[some (.int day),some (.ref p1),some (.ref p2),some (.bl late),some (.ref pr),u1,u2,u3,u4,u5,u6]=[some (.int day),some (.ref p1),some (.ref p2),some (.bl late),some (.ref pr),v1,v2,v3,v4,v5,v6]/\Same H (upd H3 l2 (.lst (ys ++ zs)))/\SameT pr H1 (upd H3 l2 (.lst (ys ++ zs)))/\LA enc4 (upd H3 l2 (.lst (ys ++ zs))) pr S/\S.length<=2 * (i+1)/\Ma.Cov (fun x=>Ma.jn late (f1 x) (f2 x)) 0 S at_/\(∀ r,O[i+1]?=some r->r.1=at_)/\(i+1=O.length->at_=day):=by
    intro L hL fin' l H3 s3 hl u1 u2 u3 u4 u5 u6
    obtain ⟨zs,z1,z2,z3⟩:=hl.lst
    refine ⟨pr,l,us,zs,rfl,rfl,s3 _ _ hu1,z1,?_,fin' _ _ _ _ _ _ _ (fun b o e nb=>?_) ((hS.same s3).extend hl (s3 _ _ hu1) z1)⟩
    ·have:=qbo9 (n:=us.length+zs.length) (by omega)
     omega
    ·rw [qaq9 nb]
     exact s3 _ _ e
   cases xs with
   | true =>
    rw [if_pos rfl] at fin
    refine iteT ⟨_,rfl,.inl ⟨rfl,_,SqL.of hu1⟩,_,rfl,_,rfl,_,rfl,_,rfl,_,rfl,xp,xq,xv,xv',late,rfl,fun l H3 s3 _ hl=>?_⟩
    exact ext _ (Ma.pick_len ..) fin l H3 s3 hl _ _ _ _ _ _
   | false =>
    rw [if_neg (by decide)] at fin
    refine iteF ⟨_,rfl,.inl ⟨rfl,_,SqL.of hu1⟩,_,rfl,_,rfl,_,rfl,_,rfl,_,rfl,xp,xq,xv',xv,late,rfl,fun l H3 s3 _ hl=>?_⟩
    exact ext _ (Ma.pick_len ..) fin l H3 s3 hl _ _ _ _ _ _
 ·intro σ H2 z9;obtain ⟨S,at_,v1,v2,v3,v4,v5,v6,rfl,sH,s2,hS,hSl,hC,hat,hend⟩ := z9
  have e:=hend hw2
  subst e
  refine ⟨_,rfl,_,rfl,at_,pr,S,_,rfl,hS,by omega,ck1.d0,rg,hC,fun l R H3 s3 fl hR hRl can=>?_⟩
  exact q l R H3 (sH.trans s3) (sH.free fl) hR (by omega) can
theorem ok_sooner (F:Fun K "sooner" "sooner" qer9 f fd) (B:Bl mg) (Ct0:Callee P w K mg base n "joined" ["day","one","other","late"] qkf9):FnOk P w K mg base CX0 (n+1) f fd ["day","one","other"] (spTwo Ma.omin):=by
 refine F.okQ sc_sooner (fun vs H Q E h=>?_) (fun cdv A outer s H vs Q E hr h=>?_)
 ·obtain ⟨_,_,_,_,_,rfl,_⟩:=h
  rfl
 obtain ⟨day,p1,p2,R1,R2,rfl,hR1,hR2,hl1,hl2,ck1,ck2,q⟩:=h
 refine ⟨_,(qac9 (qs_if (qfx9 (QW.pt (qw_or (qaj9 qcb9 (qe_cb qao9 rfl B.len qby9 (qa_c (qv 1) qad9)) qaa9 (qas9 _)) (qff9 (qaj9 qcb9 (qe_cb qao9 rfl B.len qby9 (qa_c (qv 2) qad9)) qaa9 (qas9 _)))))) (qae9 (qax9 (qe_op qhu9 (qv 1) (qv 2)))) qat9) (qae9 (qax9 (qe_fn Ct0 hr rfl (qa_c (qv 0) (qa_c (qv 1) (qa_c (qv 2) (qa_c qe_bl qad9)))))))),?_⟩
 walk_at "d"
 obtain ⟨us,hu1,hu2,hu3⟩:=hR1.lst
 obtain ⟨ws,hw1,hw2,hw3⟩:=hR2.lst
 refine ⟨fun b H'=>H'=H/\b=decide (R1=[]\/R2=[]),?_,?_⟩
 ·refine ⟨_,rfl,p1,_,rfl,.inl (SqL.of hu1),rfl,_,rfl,?_⟩
  refine ite2 (fun c=>?_) (fun c=>?_)
  ·have c':=of_decide_eq_true c
   injection c' with c'
   have e:R1=[]:=List.length_eq_zero_iff.mp (by omega)
   exact ⟨rfl,by simp [e]⟩
  ·have n1:R1 ≠ []:=fun e=>c (decide_eq_true (by rw [hu2,e]; rfl))
   refine ⟨_,rfl,p2,_,rfl,.inl (SqL.of hw1),rfl,_,rfl,rfl,?_⟩
   rw [hw2]
   cases R2 with
   | nil=>simp
   | cons x r=>simp [n1]; omega
 intro b H1 z9;obtain ⟨rfl,rfl⟩ := z9
 refine ite2 (fun c=>?_) (fun c=>?_)
 ·have c':=of_decide_eq_true c
  refine ⟨_,rfl,_,rfl,p1,p2,us,ws,rfl,rfl,hu1,hw1,?_,fun l hl=>?_⟩
  ·have:=qbo9 (n:=us.length+ws.length) (by omega)
   omega
  refine q l (R1 ++ R2) _ (qan9 hl _) hl (hR1.cat hR2 hu1 hw1 hl) (by rw [List.length_append]; omega) ?_ (fun t=>Ma.bt_append day R1 R2 t)
  rcases c' with e | e
  ·rw [e]; exact ck2
  ·rw [e,List.append_nil]; exact ck1
 ·have c':¬ (R1=[]\/R2=[]):=fun z=>c (decide_eq_true z)
  have n1:R1 ≠ []:=fun e=>c' (.inl e)
  have n2:R2 ≠ []:=fun e=>c' (.inr e)
  have T1:=Ma.tells_bf (d:=day) n1
  have T2:=Ma.tells_bf (d:=day) n2
  refine ⟨_,rfl,_,rfl,_,rfl,day,p1,p2,false,R1,R2,_,_,rfl,hR1,hR2,hl1,hl2,ck1,ck2,T1,T2,fun l R H2 s2 fl hR hRl can=>?_⟩
  have rg:=Ma.rise_jn false (ck1.rise T1) (ck2.rise T2)
  exact q l R H2 s2 fl hR hRl (can.ck ck1.d0 rg) fun t=>by rw [can.tells ck1.d0 rg t,T1.min T2 t]
theorem ok_later (F:Fun K "later" "later" qfv9 f fd) (B:Bl mg) (Ct0:Callee P w K mg base n "joined" ["day","one","other","late"] qkf9):FnOk P w K mg base CX0 (n+1) f fd ["day","one","other"] (spTwo Ma.omax):=by
 refine F.okQ sc_later (fun vs H Q E h=>?_) (fun cdv A outer s H vs Q E hr h=>?_)
 ·obtain ⟨_,_,_,_,_,rfl,_⟩:=h
  rfl
 obtain ⟨day,p1,p2,R1,R2,rfl,hR1,hR2,hl1,hl2,ck1,ck2,q⟩:=h
 refine ⟨_,(qac9 (qs_if (qfx9 (QW.pt (qw_or (qaj9 qcb9 (qe_cb qao9 rfl B.len qby9 (qa_c (qv 1) qad9)) qaa9 (qas9 _)) (qff9 (qaj9 qcb9 (qe_cb qao9 rfl B.len qby9 (qa_c (qv 2) qad9)) qaa9 (qas9 _)))))) (qae9 (qax9 (qbj9 qad9))) qat9) (qae9 (qax9 (qe_fn Ct0 hr rfl (qa_c (qv 0) (qa_c (qv 1) (qa_c (qv 2) (qa_c qe_bl qad9)))))))),?_⟩
 walk_at "d"
 obtain ⟨us,hu1,hu2,hu3⟩:=hR1.lst
 obtain ⟨ws,hw1,hw2,hw3⟩:=hR2.lst
 refine ⟨fun b H'=>H'=H/\b=decide (R1=[]\/R2=[]),?_,?_⟩
 ·refine ⟨_,rfl,p1,_,rfl,.inl (SqL.of hu1),rfl,_,rfl,?_⟩
  refine ite2 (fun c=>?_) (fun c=>?_)
  ·have c':=of_decide_eq_true c
   injection c' with c'
   have e:R1=[]:=List.length_eq_zero_iff.mp (by omega)
   exact ⟨rfl,by simp [e]⟩
  ·have n1:R1 ≠ []:=fun e=>c (decide_eq_true (by rw [hu2,e]; rfl))
   refine ⟨_,rfl,p2,_,rfl,.inl (SqL.of hw1),rfl,_,rfl,rfl,?_⟩
   rw [hw2]
   cases R2 with
   | nil=>simp
   | cons x r=>simp [n1]; omega
 intro b H1 z9;obtain ⟨rfl,rfl⟩ := z9
 refine ite2 (fun c=>?_) (fun c=>?_)
 ·have c':=of_decide_eq_true c
  refine ⟨(by show 0<=sizeLine; decide),fun l hl=>?_⟩
  refine q l [] _ (qan9 hl _) hl (LA.nil qaf9) (by simp) (Ma.ck_nil ck1.d0) fun t=>?_
  rcases c' with e | e
  ·rw [e]; rfl
  ·rw [e,Ma.bt_nil]; cases Ma.bt day R1 t <;> rfl
 ·have c':¬ (R1=[]\/R2=[]):=fun z=>c (decide_eq_true z)
  have n1:R1 ≠ []:=fun e=>c' (.inl e)
  have n2:R2 ≠ []:=fun e=>c' (.inr e)
  have T1:=Ma.tells_bf (d:=day) n1
  have T2:=Ma.tells_bf (d:=day) n2
  refine ⟨_,rfl,_,rfl,_,rfl,day,p1,p2,true,R1,R2,_,_,rfl,hR1,hR2,hl1,hl2,ck1,ck2,T1,T2,fun l R H2 s2 fl hR hRl can=>?_⟩
  have rg:=Ma.rise_jn true (ck1.rise T1) (ck2.rise T2)
  exact q l R H2 s2 fl hR hRl (can.ck ck1.d0 rg) fun t=>by rw [can.tells ck1.d0 rg t,T1.max T2 t]
def qjz9 (m:Nat):Sp:=fun vs H Q _=>∃ (day:Int) (p:Addr) (R:List T3),vs=[.int day,.ref p]/\LA enc3 H p R/\R.length<=2 ^ m/\R.length<=900000/\0 < day/\Ma.Wins day R /\
 ∀ (l:Addr) (R':List T3) (H':Hp),Same H H'->H l=none->LA enc3 H' l R'->R'.length<=2 * R.length+1->Ma.CK day R'->(∀ t,Ma.bt day R' t=Ma.bt day R t)->Q (.ref l) H'
theorem qof9 {d:Int} {R:List T3} (hd:0 < d) (hW:Ma.Wins d R) (hl:R.length<=1):Ma.CK d R:=match R,hl,hW with
 | [],_,_=>Ma.ck_nil hd
 | [x],_,hW=>Ma.ck_one hd (hW x (List.mem_singleton.mpr rfl))
theorem qlr9 (F:Fun K "clock_within" "clock_within" qbq9 f fd) (B:Bl mg) (bd:Binds K fd ["day","board"] []) (kp:W.keepIn K (.ref f)=true) (mgf:mg "clock_within" = some (.ref f)) (Ce2:Callee P w K mg base n "sooner" ["day","one","other"] (spTwo Ma.omin)) :
  ∀ m,FnOk P w K mg base CX0 (n+m+1) f fd ["day","board"] (qjz9 m)
 | 0=>by
  refine F.okQ sc_clock_within (fun vs H Q E h=>?_) (fun cdv A outer s H vs Q E hr h=>?_)
  ·obtain ⟨_,_,_,rfl,_⟩:=h
   rfl
  obtain ⟨day,p,R,rfl,hR,hl,hl9,hd,hW,q⟩:=h
  have Ch0:Callee P w K mg base (n+0) "sooner" ["day","one","other"] (fun _ _ _ _=>False):=by
   obtain ⟨f,fd,G,b,kp,m⟩:=Ce2.ex
   exact ⟨f,fd,⟨fun _ _ _ _ h=>h.elim,fun _ _ _ _ _ _ _ _ _ _ _ _ _ h=>h.elim⟩,b,kp,m⟩
  have Cd0:Callee P w K mg base (n+0) "clock_within" ["day","board"] (fun _ _ _ _=>False):=⟨f,fd,⟨fun _ _ _ _ h=>h.elim,fun _ _ _ _ _ _ _ _ _ _ _ _ _ h=>h.elim⟩,bd,kp,mgf⟩
  refine ⟨_,(qac9 (qs_if (qaj9 qcy9 (qe_cb qao9 rfl B.len qby9 (qa_c (qv 1) qad9)) qaa9 (qas9 _)) (qae9 (qax9 (qe_ct qfo9 rfl B.list_ qgo9 (qa_c (qv 1) qad9)))) qat9) (qac9 (qak9 (i:=2) sc_clock_within.nd rfl (Or.inl rfl) (qe_op qay9 (qe_cb qao9 rfl B.len qby9 (qa_c (qv 1) qad9)) qaa9)) (qae9 (qax9 (qe_fn Ch0 hr rfl (qa_c (qv 0) (qa_c (qe_fn Cd0 hr rfl (qa_c (qv 0) (qa_c (qmv9 (qv 1) qho9 (qhv9 (qv 2))) qad9))) (qa_c (qe_fn Cd0 hr rfl (qa_c (qv 0) (qa_c (qmv9 (qv 1) (qhv9 (qv 2)) qho9) qad9))) qad9)))))))),?_⟩
  walk_at "d"
  obtain ⟨us,hu1,hu2,hu3⟩:=hR.lst
  have hl':R.length<=1:=hl
  refine ⟨_,rfl,p,_,rfl,.inl (SqL.of hu1),_,_,rfl,rfl,_,rfl,iteP (decide_eq_true (by show ((us.length:Nat):Int) < 2; omega)) ?_⟩
  refine ⟨_,rfl,p,_,rfl,.inl (SqL.of hu1),fun pl hpl=>?_⟩
  generalize hgH1:upd _ pl _=H1
  revert H1
  refine qar9 hpl fun H1 s1 e1=>?_
  have hR1:=hR.copy s1 hu1 e1
  refine q pl R H1 s1 hpl hR1 (by omega) ?_ fun t=>rfl
  exact qof9 hd hW hl'
 | m+1=>by
  have Cd0:Callee P w K mg base (n+m+1) "clock_within" ["day","board"] (qjz9 m):=Callee.mk' (qlr9 F B bd kp mgf Ce2 m) bd kp mgf
  have Ch0:=Ce2.up (show n<=n+m+1 by omega)
  refine F.okQ sc_clock_within (fun vs H Q E h=>?_) (fun cdv A outer s H vs Q E hr h=>?_)
  ·obtain ⟨_,_,_,rfl,_⟩:=h
   rfl
  obtain ⟨day,p,R,rfl,hR,hl,hl9,hd,hW,q⟩:=h
  refine ⟨_,(qac9 (qs_if (qaj9 qcy9 (qe_cb qao9 rfl B.len qby9 (qa_c (qv 1) qad9)) qaa9 (qas9 _)) (qae9 (qax9 (qe_ct qfo9 rfl B.list_ qgo9 (qa_c (qv 1) qad9)))) qat9) (qac9 (qak9 (i:=2) sc_clock_within.nd rfl (Or.inl rfl) (qe_op qay9 (qe_cb qao9 rfl B.len qby9 (qa_c (qv 1) qad9)) qaa9)) (qae9 (qax9 (qe_fn Ch0 hr rfl (qa_c (qv 0) (qa_c (qe_fn Cd0 hr rfl (qa_c (qv 0) (qa_c (qmv9 (qv 1) qho9 (qhv9 (qv 2))) qad9))) (qa_c (qe_fn Cd0 hr rfl (qa_c (qv 0) (qa_c (qmv9 (qv 1) (qhv9 (qv 2)) qho9) qad9))) qad9)))))))),?_⟩
  walk_at "d"
  obtain ⟨us,hu1,hu2,hu3⟩:=hR.lst
  refine ⟨_,rfl,p,_,rfl,.inl (SqL.of hu1),_,_,rfl,rfl,_,rfl,?_⟩
  refine ite2 (fun c=>?_) (fun c=>?_)
  ·have c':((us.length:Nat):Int) < 2:=of_decide_eq_true c
   refine ⟨_,rfl,p,_,rfl,.inl (SqL.of hu1),fun pl hpl=>?_⟩
   generalize hgH1:upd _ pl _=H1
   revert H1
   refine qar9 hpl fun H1 s1 e1=>?_
   have hR1:=hR.copy s1 hu1 e1
   have hl':R.length<=1:=by omega
   refine q pl R H1 s1 hpl hR1 (by omega) ?_ fun t=>rfl
   exact qof9 hd hW hl'
  have c':¬ ((us.length:Nat):Int) < 2:=fun z=>c (decide_eq_true z)
  refine ⟨_,rfl,p,_,rfl,.inl (SqL.of hu1),_,_,rfl,rfl,⟨by decide,by decide⟩,?_⟩
  have eh:((us.length:Nat):Int) / 2=((R.length / 2:Nat):Int):=by rw [hu2]; rfl
  dsimp only
  rw [eh]
  generalize hh:R.length / 2=h
  have h1:0 < h:=by omega
  have h2:h<=us.length:=by omega
  have pw:2 ^ (m+1)=2 * 2 ^ m:=by rw [Nat.pow_succ,Nat.mul_comm]
  refine ⟨_,rfl,_,rfl,_,rfl,_,rfl,_,rfl,p,us,rfl,SqL.of hu1,fun pa hpa=>?_⟩
  rw [qol9 us h h2]
  have ea:us.take h=(us.drop 0).take h:=by simp
  rw [ea]
  generalize hgH1:upd _ pa _=H1
  revert H1
  refine qar9 hpa fun H1 s1 e1=>?_
  have hA:=hR.part s1 hu1 0 h e1
  rw [List.drop_zero] at hA
  refine ⟨day,pa,R.take h,rfl,hA,by rw [List.length_take]; omega,by rw [List.length_take]; omega,hd,fun w hw=>hW w (List.mem_of_mem_take hw),fun la Ra H2 s2 fa ha hal cka bta=>?_⟩
  have hu12:=s2 _ _ (s1 _ _ hu1)
  have hR2:=(hR.same s1).same s2
  refine ⟨_,rfl,_,rfl,_,rfl,_,rfl,p,us,rfl,SqL.of hu12,fun pb hpb=>?_⟩
  rw [qno9 us h h2]
  have eb:us.drop h=(us.drop h).take us.length:=by rw [List.take_of_length_le]; simp
  rw [eb]
  generalize hgH3:upd _ pb _=H3
  revert H3
  refine qar9 hpb fun H3 s3 e3=>?_
  have hB:=hR2.part s3 hu12 h us.length e3
  rw [List.take_of_length_le (by rw [List.length_drop]; omega)] at hB
  refine ⟨day,pb,R.drop h,rfl,hB,by rw [List.length_drop]; omega,by rw [List.length_drop]; omega,hd,fun w hw=>hW w (List.mem_of_mem_drop hw),fun lb Rb H4 s4 fb hb hbl ckb btb=>?_⟩
  have s34:=s3.trans s4
  rw [List.length_take] at hal
  rw [List.length_drop] at hbl
  refine ⟨day,la,lb,Ra,Rb,rfl,ha.same s34,hb,by omega,by omega,cka,ckb,fun l R' H5 s5 fl hR' hl' ck' bt'=>?_⟩
  have s05:=((s1.trans s2).trans s34).trans s5
  have eb:∀ t,Ma.bt day R' t=Ma.bt day R t:=fun t=>by rw [bt',bta,btb,<- Ma.bt_append,List.take_append_drop]
  exact q l R' H5 s05 (((s1.trans s2).trans s34).free fl) hR' (Ma.ck_len ck' hW eb) ck' eb
def qmh9:Sp:=fun vs H Q _=>∃ (day:Int) (p:Addr) (R:List T3),vs=[.int day,.ref p]/\LA enc3 H p R/\R.length<=1000/\0 < day/\Ma.Wins day R /\
 ∀ (l:Addr) (R':List T3) (H':Hp),Same H H'->H l=none->LA enc3 H' l R'->R'.length<=2 * R.length+1->Ma.CK day R'->(∀ t,Ma.bt day R' t=Ma.bt day R t)->Q (.ref l) H'
theorem qmp9 (F:Fun K "clock_of" "clock_of" qdm9 f fd) (Cn0:Callee P w K mg base n "is_board" ["day","thing"] qpt9) (Cd0:Callee P w K mg base n "clock_within" ["day","board"] (qjz9 10)):FnOk P w K mg base CX0 (n+1) f fd ["day","board"] qmh9:=by
 refine F.okQ qms9 (fun vs H Q E h=>?_) (fun cdv A outer s H vs Q E hr h=>?_)
 ·obtain ⟨_,_,_,rfl,_⟩:=h
  rfl
 obtain ⟨day,p,R,rfl,hR,hl,hd,hW,q⟩:=h
 refine ⟨_,(qac9 (qs_if (qee9 (qcq9 (qe_fn Cn0 hr rfl (qa_c (qv 0) (qa_c (qv 1) qad9))))) (qae9 qgu9) qat9) (qae9 (qax9 (qe_fn Cd0 hr rfl (qa_c (qv 0) (qa_c (qv 1) qad9)))))),?_⟩
 walk_at "d"
 refine ⟨_,rfl,_,rfl,day,.ref p,rfl,la_dv3 hR hl,fun H1 s1=>?_⟩
 rw [qot9 hR hW]
 refine ⟨_,rfl,iteF ?_⟩
 exact ⟨_,rfl,_,rfl,day,p,R,rfl,hR.same s1,(by show R.length<=1024; omega),by omega,hd,hW,fun l R' H2 s2 fl h1 h2 h3 h4=>q l R' H2 (s1.trans s2) (s1.free fl) h1 h2 h3 h4⟩
theorem ok_cell (F:Fun K "_law_cell_at" "_law_cell_at" qbx9 f fd) (B:Bl mg):FnOk P w K mg base CX0 (n+1) f fd ["script","k"] (spCell K):=by
 refine F.okQ qhc9 (fun vs H Q E h=>?_) (fun cdv A outer s H vs Q E hr h=>?_)
 ·obtain ⟨_,_,_,rfl,_⟩:=h
  rfl
 obtain ⟨a,ns,k,rfl,hS,h0,q⟩:=h
 refine ⟨_,(qac9 (qs_if (qaj9 qcy9 (qv 1) (qe_cb qao9 rfl B.len qby9 (qa_c (qv 0) qad9)) (qas9 _)) (qae9 (qax9 (qe_ix qai9 (qv 0) (qv 1) (fun _ _=>rfl)))) qat9) (qae9 (qax9 qaa9))),?_⟩
 walk_at "d"
 have hl:(ns.map V.int).length=ns.length:=List.length_map _
 refine ⟨_,rfl,_,rfl,a,_,rfl,.inl hS,_,_,rfl,rfl,_,rfl,?_⟩
 refine ite2 (fun c=>?_) (fun c=>?_)
 ·have c':k < (((ns.map V.int).length:Nat):Int):=of_decide_eq_true c
  rw [hl] at c'
  obtain ⟨v,hv⟩:=at_int (ns:=ns) h0 (by omega)
  exact ⟨_,rfl,_,rfl,a,_,_,_,rfl,rfl,hS,hv,q v⟩
 ·exact q 0
theorem ok_day (F:Fun K "_law_day" "_law_day" qdf9 f fd):FnOk P w K mg base CX0 (n+1) f fd ["cell"] spDay:=by
 refine F.okQ qnd9 (fun vs H Q E h=>?_) (fun cdv A outer s H vs Q E hr h=>?_)
 ·obtain ⟨_,rfl,_⟩:=h
  rfl
 obtain ⟨c,rfl,q⟩:=h
 refine ⟨_,(qac9 (qs_if (qaj9 qcb9 (qe_op qav9 (qv 0) qaa9) qaa9 (qas9 _)) (qae9 (qax9 (qe_ix qai9 (qbj9 (qa_c qaa9 (qa_c qaa9 (qa_c qaa9 (qa_c qaa9 (qa_c qaa9 (qa_c (qe_op qgv9 qaa9 qaa9) qad9))))))) (qe_op qav9 (qe_op qay9 (qv 0) qaa9) qaa9) (fun _ _=>rfl)))) qat9) (qac9 (qs_if (qaj9 qcb9 (qe_op qav9 (qv 0) qaa9) qaa9 (qas9 _)) (qae9 (qax9 (qe_op qaw9 qaa9 (qe_op qav9 (qe_op qay9 (qv 0) qaa9) qaa9)))) qat9) (qae9 (qax9 (qe_op qaw9 qaa9 (qe_op qav9 (qe_op qay9 (qv 0) qaa9) (qe_op qgv9 qaa9 qaa9))))))),?_⟩
 walk_at "d"
 refine ⟨_,rfl,_,_,rfl,rfl,(by show (0:Int) < 3; decide),rfl,_,rfl,?_⟩
 refine ite2 (fun _=>?_) (fun _=>?_)
 ·refine ⟨_,_,rfl,rfl,⟨by decide,by decide,by decide⟩,(by show 6<=sizeLine; decide),fun p hp=>?_⟩
  obtain ⟨v,hv,v1,v2⟩:=day6 (c:=(10:Int) ^ (15:Int).toNat) (j:=c / 3 % 6) (by rw [pow15]; decide) (Int.emod_nonneg _ (by decide)) (Int.emod_lt_of_pos _ (by decide))
  refine ⟨_,rfl,_,_,rfl,rfl,⟨by decide,by decide⟩,_,_,rfl,rfl,(by show (0:Int) < 6; decide),p,_,_,.int v,rfl,rfl,SqL.of qaf9,hv,?_⟩
  exact q v _ v1 v2 (qan9 hp _)
 refine ⟨_,rfl,_,_,rfl,rfl,(by show (0:Int) < 3; decide),rfl,_,rfl,?_⟩
 refine ite2 (fun _=>?_) (fun _=>?_)
 ·refine ⟨_,rfl,_,_,rfl,rfl,⟨by decide,by decide⟩,_,_,rfl,rfl,(by show (0:Int) < 60; decide),_,_,rfl,rfl,?_⟩
  have h0:=Int.emod_nonneg (c / 3) (show (60:Int) ≠ 0 by decide)
  have h1:=Int.emod_lt_of_pos (c / 3) (show (0:Int) < 60 by decide)
  exact q _ H (by omega) (by omega) (Same.refl H)
 ·refine ⟨_,rfl,_,_,rfl,rfl,⟨by decide,by decide⟩,_,_,rfl,rfl,⟨by decide,by decide,by decide⟩,_,_,rfl,rfl,(by show (0:Int) < 10 ^ (15:Int).toNat; rw [pow15]; decide),_,_,rfl,rfl,?_⟩
  have h0:=Int.emod_nonneg (c / 3) (show ((10:Int) ^ (15:Int).toNat) ≠ 0 by rw [pow15]; decide)
  have h1:=Int.emod_lt_of_pos (c / 3) (show (0:Int) < (10:Int) ^ (15:Int).toNat by rw [pow15]; decide)
  refine q (1+c / 3 % (10:Int) ^ (15:Int).toNat) H ?_ ?_ (Same.refl H)
  ·generalize c / 3 % (10:Int) ^ (15:Int).toNat=v at *
   rw [pow15] at h1
   omega
  ·generalize c / 3 % (10:Int) ^ (15:Int).toNat=v at *
   rw [pow15] at h1
   omega
def spNext:Sp:=fun vs H Q _=>∃ (day:Int) (r:Addr) (a b c t:Int),vs=[.int day,.ref r,.int t]/\0 < day/\Tup3 H r a b c/\Q (.int (Ma.nextO day a b t)) H
theorem ok_next (F:Fun K "next_open" "next_open" qcu9 f fd) (B:Bl mg):FnOk P w K mg base CX0 (n+1) f fd ["day","window","t"] spNext:=by
 refine F.okQ sc_next_open (fun vs H Q E h=>?_) (fun cdv A outer s H vs Q E hr h=>?_)
 ·obtain ⟨_,_,_,_,_,_,rfl,_⟩:=h
  rfl
 obtain ⟨day,r,a,b,c,t,rfl,hd,hw,q⟩:=h
 refine ⟨_,(qac9 (qak9 (i:=3) sc_next_open.nd rfl (Or.inl rfl) (qe_op qav9 (qv 2) (qv 0))) (qac9 (qak9 (i:=4) sc_next_open.nd rfl (Or.inl rfl) (qe_op qcr9 (qv 2) (qv 3))) (qac9 (qs_if (qaj9 qgp9 (qv 3) (qe_ix qba9 (qv 1) qaa9 (fun _ _=>rfl)) (qas9 _)) (qae9 (qax9 (qe_op qaw9 (qe_op qaw9 (qv 4) (qv 0)) (qe_ix qba9 (qv 1) qaa9 (fun _ _=>rfl))))) qat9) (qae9 (qax9 (qe_op qaw9 (qv 4) (qe_cb (qij9 rfl) rfl B.max bt_max (qa_c (qv 3) (qa_c (qe_ix qba9 (qv 1) qaa9 (fun _ _=>rfl)) qad9))))))))),?_⟩
 walk_at "d"
 refine ⟨_,rfl,_,rfl,_,_,rfl,rfl,hd,?_⟩
 refine ⟨_,rfl,_,rfl,_,_,rfl,rfl,?_⟩
 refine ⟨_,rfl,_,rfl,r,_,_,_,rfl,rfl,SqT.of hw,rfl,_,_,rfl,rfl,_,rfl,?_⟩
 unfold Ma.nextO at q
 refine ite2 (fun c1=>?_) (fun c1=>?_)
 ·rw [if_pos (of_decide_eq_true c1)] at q
  exact ⟨_,rfl,_,rfl,_,_,rfl,rfl,_,rfl,r,_,_,_,rfl,rfl,SqT.of hw,rfl,_,_,rfl,rfl,q⟩
 ·rw [if_neg (fun z=>c1 (decide_eq_true z))] at q
  exact ⟨_,rfl,_,rfl,_,rfl,r,_,_,_,rfl,rfl,SqT.of hw,rfl,_,_,rfl,_,_,rfl,rfl,q⟩
theorem RowsAt.sameT {H H':Hp} {p P:Addr} {R:List T3} {pos:Pos} {qual:Str} (h:RowsAt H p R) (s:SameT P H H') (t:TabOk H P pos qual):RowsAt H' p R:=h.mono fun b o e n=>s b o e fun z=>by
 obtain ⟨ps,hp,_⟩:=t
 rw [z,hp] at e
 exact n ps (Option.some.inj e).symm
def pAt (p:T3->Bool) (R:List T3) (i:Nat):Bool:=p (rA R i,rB R i,rC R i)
def spLam (p:T3->Bool) (c':Addr) (qual:Str):Sp:=fun vs H Q _=>∃ (r:Addr) (t:T3),vs=[.ref r]/\H c'=some (.ext (CodeQ c' qual))/\H r=some (.tup [.int t.1,.int t.2.1,.int t.2.2])/\Q (.bl (p t)) H
def spFW (p:T3->Bool) (fl c':Addr) (qual:Str):Sp:=fun vs H Q _=>∃ (pc:Addr) (R:List T3),vs=[.ref pc,.ref fl]/\H c'=some (.ext (CodeQ c' qual))/\RowsAt H pc R/\(∀ i j,i < j->j < R.length->pAt p R i=true->pAt p R j=true) /\
 ∀ m:Nat,m<=R.length->(∀ i,i < m->pAt p R i=false)->(m < R.length->pAt p R m=true)->Q (.int m) H
theorem qie9 {p:T3->Bool} {fl c':Addr} {fdl:FuncData} {qual:Str} (F:Fun K "first_where" "first_where" qbd9 f fd) (B:Bl mg) (G:FnOk P w K mg base CX0 n fl fdl ["window"] (spLam p c' qual)) (bG:Binds K fdl ["window"] []) (ho:W.FnAt fl base) :
  FnOk P w K mg base CX0 (n+1) f fd ["clock","holds"] (spFW p fl c' qual):=by
 refine F.okQ sc_first_where (fun vs H Q E h=>?_) (fun cdv A outer s H vs Q E hr h=>?_)
 ·obtain ⟨_,_,rfl,_⟩:=h
  rfl
 obtain ⟨pc,R,rfl,hc,hR,hmono,q⟩:=h
 refine ⟨_,(qac9 (qak9 (i:=2) sc_first_where.nd rfl (Or.inl rfl) qaa9) (qac9 (qak9 (i:=3) sc_first_where.nd rfl (Or.inl rfl) (qe_cb qao9 rfl B.len qby9 (qa_c (qv 0) qad9))) (qac9 (qfm9 PassesOwn.never (qaj9 qcy9 (qv 2) (qv 3) (qas9 _)) (qac9 (qak9 (i:=4) sc_first_where.nd rfl (Or.inl rfl) (qe_op qay9 (qe_op qaw9 (qv 2) (qv 3)) qaa9)) (qae9 (qs_if (qcq9 ⟨pe_clo 1 G hr bG ho (qa_c (qe_ix qai9 (qv 0) (qv 4) (fun _ _=>rfl)) qad9).run⟩) (qae9 (qak9 (i:=3) sc_first_where.nd rfl (Or.inl rfl) (qv 4))) (qae9 (qak9 (i:=2) sc_first_where.nd rfl (Or.inl rfl) (qe_op qaw9 (qv 4) qaa9))))))) (qae9 (qax9 (qv 2)))))),?_⟩
 walk_at "d"
 obtain ⟨xs,hS,hlen,hat⟩:=hR.at (K:=K)
 refine ⟨_,rfl,pc,_,rfl,.inl hS,?_⟩
 refine qfj9 (fun σ H'=>H'=H/\∃ (lo hi:Nat) (v:Option V),σ=[some (.ref pc),some (.ref fl),some (.int lo),some (.int hi),v]/\lo<=hi/\hi<=R.length/\(∀ i,i < lo->pAt p R i=false)/\(∀ i,hi<=i->i < R.length->pAt p R i=true))
  (fun σ _=>match σ with | [_,_,some (.int l),some (.int h),_]=>(h - l).toNat | _=>0) ⟨rfl,0,R.length,none,by rw [hlen]; rfl,Nat.zero_le _,Nat.le_refl _,fun i hi=>absurd hi (Nat.not_lt_zero _),fun i h1 h2=>absurd h2 (Nat.not_lt.mpr h1)⟩ ?_ ?_
 ·intro σ H' z9;obtain ⟨rfl,lo,hi,v,rfl,l1,l2,l3,l4⟩ := z9
  refine ⟨_,rfl,_,rfl,_,_,rfl,rfl,_,rfl,?_⟩
  refine ite2 (fun c1=>?_) (fun c1=>?_)
  ·have c2:(lo:Int) < (hi:Int):=of_decide_eq_true c1
   refine ⟨_,rfl,_,rfl,_,_,rfl,rfl,_,_,rfl,rfl,⟨by decide,by decide⟩,?_⟩
   have m1:(lo:Int)<=((lo:Int)+hi) / 2:=by omega
   have m2:((lo:Int)+hi) / 2 < (hi:Int):=by omega
   obtain ⟨r,ha,hr'⟩:=hat (((lo:Int)+hi) / 2) (by omega) (by omega)
   refine ⟨rfl,_,rfl,_,rfl,pc,_,_,_,rfl,rfl,hS,ha,r,(rA R (((lo:Int)+hi) / 2).toNat,rB R (((lo:Int)+hi) / 2).toNat,rC R (((lo:Int)+hi) / 2).toNat),rfl,hc,hr',_,rfl,?_⟩
   refine ite2 (fun c3=>?_) (fun c3=>?_)
   ·refine ⟨_,rfl,⟨rfl,lo,(((lo:Int)+hi) / 2).toNat,some (.int (((lo:Int)+hi) / 2)),?_,by omega,by omega,l3,fun i h1 h2=>?_⟩,?_⟩
    ·show _=([some (.ref pc),some (.ref fl),some (.int lo),some (.int (((((lo:Int)+hi) / 2).toNat:Nat):Int)),some (.int (((lo:Int)+hi) / 2))]:List (Option V))
     rw [show (((((lo:Int)+hi) / 2).toNat:Nat):Int)=(((lo:Int)+hi) / 2) by omega]
     rfl
    ·rcases (by omega:i=(((lo:Int)+hi) / 2).toNat\/(((lo:Int)+hi) / 2).toNat < i) with e | e
     ·rw [e]; exact c3
     ·exact hmono _ _ e h2 c3
    ·show ((((lo:Int)+hi) / 2) - (lo:Int)).toNat < ((hi:Int) - (lo:Int)).toNat
     omega
   ·refine ⟨_,rfl,_,_,rfl,rfl,⟨rfl,(((lo:Int)+hi) / 2).toNat+1,hi,some (.int (((lo:Int)+hi) / 2)),?_,by omega,l2,fun i h1=>?_,l4⟩,?_⟩
    ·show _=([some (.ref pc),some (.ref fl),some (.int (((((lo:Int)+hi) / 2).toNat+1:Nat):Int)),some (.int hi),some (.int (((lo:Int)+hi) / 2))]:List (Option V))
     rw [show (((((lo:Int)+hi) / 2).toNat+1:Nat):Int)=(((lo:Int)+hi) / 2)+1 by omega]
     rfl
    ·have c4:pAt p R (((lo:Int)+hi) / 2).toNat=false:=Bool.eq_false_iff.mpr c3
     rcases (by omega:i=(((lo:Int)+hi) / 2).toNat\/i < (((lo:Int)+hi) / 2).toNat) with e | e
     ·rw [e]; exact c4
     ·refine Bool.eq_false_iff.mpr fun z=>?_
      have:=hmono _ _ e (by omega) z
      rw [c4] at this
      cases this
    ·show ((hi:Int) - ((((lo:Int)+hi) / 2)+1)).toNat < ((hi:Int) - (lo:Int)).toNat
     omega
  ·have c2:¬ (lo:Int) < (hi:Int):=fun z=>c1 (decide_eq_true z)
   have e:lo=hi:=by omega
   subst e
   exact ⟨_,rfl,q lo l2 l3 fun h=>l4 lo (Nat.le_refl _) h⟩
 ·intro σ H' Q1 Q2 hq z9;obtain ⟨v,e1,v',e2,i,j,e3,e4,k,e5,q1⟩ := z9
  exact ⟨v,e1,v',e2,i,j,e3,e4,k,e5,hq _ _ q1⟩
end
def lamQ (x:Str):Str:=(x ++ ".<locals>.") ++ "<lambda>"
def lamIn:Stmt->Expr
 | .Assign _ (.Call _ [_,l] _ _) _=>l
 | _=>.Constant .none 0 ⟨0,0,0,0⟩
def lamSc:Expr->Scope
 | .Lambda _ _ sc _=>sc
 | _=>{ kind:=.function,names:=[],isGenerator:=false,isCoroutine:=false }
def qlf9:Expr->Expr
 | .Lambda _ b _ _=>b
 | e=>e
def qlb9:Expr->Arguments
 | .Lambda a _ _ _=>a
 | _=>{ posonlyargs:=[],args:=[],vararg:=none,kwonlyargs:=[],kw_defaults:=[],kwarg:=none,defaults:=[] }
theorem qfe9 {y:Str} {c:Addr} (z:Str) (d:Addr) (e:([(y,c)]:List (Str × Addr)).lookup z=some d):z=y/\d=c:=by
 rw [List.lookup_cons] at e
 cases h:z == y with
 | true=>rw [h] at e; cases e; exact ⟨eq_of_beq h,rfl⟩
 | false=>rw [h] at e; cases e
theorem qmf9 {a b x:Str} {c:Addr} (h:([(a,NameKind.local),(b,NameKind.free)]:List (Str × NameKind)).lookup x=some .free):∃ d,([(b,c)]:List (Str × Addr)).lookup x=some d:=by
 rw [List.lookup_cons] at h
 cases h1:x == a with
 | true=>rw [h1] at h; cases h
 | false =>
  rw [h1] at h
  have h':([(b,NameKind.free)]:List (Str × NameKind)).lookup x=some .free:=h
  rw [List.lookup_cons] at h'
  cases h2:x == b with
  | true=>exact ⟨c,by rw [List.lookup_cons,h2]⟩
  | false=>rw [h2] at h'; cases h'
def qpk9 (P0:Addr) (pos:Pos):Sp:=fun vs H Q _=>∃ (day:Int) (pc:Addr) (t:Int) (R:List T3),vs=[.int day,.ref pc,.int t]/\RowsAt H pc R/\TabOk H P0 pos (lamQ "set_off")/\Ma.Clk day R.length (rA R) (rB R) (rC R) /\
 (R.length=0->Q .non H)/\(R.length ≠ 0->∀ (x y:Int) (r:Addr) (H':Hp),Ma.First day R.length (rA R) (rB R) (rC R) t x y->SameT P0 H H'->TabOk H' P0 pos (lamQ "set_off")->H' r=some (.tup [.int x,.int y])->Q (.ref r) H')
def spCome (P0:Addr) (pos:Pos):Sp:=fun vs H Q _=>∃ (day:Int) (pc:Addr) (t:Int) (R:List T3),vs=[.int day,.ref pc,.int t]/\RowsAt H pc R/\TabOk H P0 pos (lamQ "set_off")/\Ma.Clk day R.length (rA R) (rB R) (rC R) /\
 (R.length=0->Q .non H)/\(R.length ≠ 0->∀ (x y:Int) (H':Hp),Ma.First day R.length (rA R) (rB R) (rC R) t x y->SameT P0 H H'->TabOk H' P0 pos (lamQ "set_off")->Q (.int y) H')
theorem TabOk.same {H H1:Hp} {P:Addr} {pos:Pos} {q:Str} (t:TabOk H P pos q) (a:Same H H1):TabOk H1 P pos q:=by
 obtain ⟨ps,h1,h2,h3⟩:=t
 refine ⟨ps,a _ _ h1,h2,?_⟩
 rcases h3 with h3 | ⟨c,h3,h4⟩
 ·exact .inl h3
 ·exact .inr ⟨c,h3,a _ _ h4⟩
abbrev lamS:Expr:=lamIn ((qag9 qbr9).getD 2 (.Pass ⟨0,0,0,0⟩))
theorem sc_lamS (c:Addr):LamScope ["window","hour"] ["window"] (lamSc lamS) [("hour",c)]:=⟨rfl,rfl,rfl,by decide,rfl,by decide +kernel,by decide +kernel,fun _ h=>qmf9 h,fun x y d h1 h2=>(qfe9 x d h1).1.trans (qfe9 y d h2).1.symm⟩
def spGS (v:V) (fl c':Addr):Sp:=match v with
 | .int hour=>spFW (fun t=>decide (hour<=t.2.1)) fl c' (lamQ "set_off")
 | _=>fun _ _ _ _=>False
section
variable {P:Program} {w:World} {K:W.Frag} {mg:Str->Option Value} {base:Heap} {f g:Addr} {fd gd:FuncData} {n:Nat}
theorem qda9 {k:Nat} {ps:List Str} {f:Addr} {fd:FuncData}:FnOk P w K mg base CX0 k f fd ps (fun _ _ _ _=>False):=⟨fun _ _ _ _ h=>h.elim,fun _ _ _ _ _ _ _ _ _ _ _ _ _ h=>h.elim⟩
theorem ok_lamS {v:V} {fl c' cy:Addr} {pm ctv:Value} (FW:Fun K "first_where" "first_where" qbd9 g gd) (B:Bl mg)
  (hfl:base.get? fl=some (W.kla_obj "<lambda>" (lamQ "set_off") (qlb9 lamS) (qlf9 lamS) (lamSc lamS) [("hour",cy)] pm c' ctv)) (hca:qid9 base (lamSc lamS) [("hour",cy)] ["window","hour"] ["window"] [v]) :
  FnOk P w K mg base CX0 2 g gd ["clock","holds"] (spGS v fl c'):=by
 cases v with
 | int hour =>
  refine qie9 (n:=1) FW B (lam_ok (k:=0) (N:=["window","hour"]) (cs:=[.int hour]) hfl (fun vs H Q E h=>?_) (sc_lamS cy) hca (fun vs H Q E h=>?_) (fun A outer s H vs Q E hr h=>?_)) (Binds.all fun us hl=>match us,hl with | [_],_=>rfl) ⟨_,_,_,_,hfl⟩
  ·obtain ⟨_,_,_,h,_⟩:=h
   exact h
  ·obtain ⟨_,_,rfl,_⟩:=h
   rfl
  ·obtain ⟨r,t,rfl,hc,hr',q⟩:=h
   refine ⟨_,qni9 op_le (pv 1) (pe_ix ix_tup (pv 0) pe_int (fun _ _=>rfl)) (qas9 _),?_⟩
   exact ⟨_,rfl,_,rfl,r,_,_,_,rfl,rfl,SqT.of hr',rfl,_,_,rfl,rfl,q⟩
 | non=>exact qda9
 | bl b=>exact qda9
 | str x=>exact qda9
 | byt b=>exact qda9
 | flt b=>exact qda9
 | ref a=>exact qda9
 | ty n=>exact qda9
theorem K0 {d:Int} {n:Nat} {A B C:Nat->Int} (h:Ma.Clk d n A B C):0 < d:=h.d0
theorem qop9 {c P0:Addr} {oc kV doc pm ct:Value} {od an:Option Addr} {osl:Array (Option Value)} (lk:K.lookup f=some ⟨oc,od,.func (W.fnOf "set_off" "set_off" (qah9 qbr9) (qag9 qbr9) (qab9 qbr9) .none kV doc pm an (.ref c) ct),osl⟩) (hcd:W.codeIn K (.ref c) "set_off" = true)
  (B:Bl mg) (hC:W.CodeHd base c P0) (hB:BMain mg base) (FW:Fun K "first_where" "first_where" qbd9 g gd) (bW:Binds K gd ["clock","holds"] []) (mW:mg "first_where" = some (.ref g)) (Cx0:Callee P w K mg base 2 "next_open" ["day","window","t"] spNext) :
  FnOk P w K mg base CX0 3 f (W.fnOf "set_off" "set_off" (qah9 qbr9) (qag9 qbr9) (qab9 qbr9) .none kV doc pm an (.ref c) ct) ["day","clock","t"] (qpk9 P0 ⟨77,32,77,64⟩):=by
 refine fn_of lk hcd sc_set_off (fun vs H Q E h=>?_) (fun A outer s H vs Q E hr h=>?_)
 ·obtain ⟨_,_,_,_,rfl,_⟩:=h
  rfl
 obtain ⟨day,pc,t,R,rfl,hR,tab,hK,q0,q1⟩:=h
 refine ⟨_,PSs.nox (QSs.run (qac9 (qs_if (qaj9 qcb9 (qe_cb qao9 rfl B.len qby9 (qa_c (qv 1) qad9)) qaa9 (qas9 _)) (qae9 (qax9 qih9)) qat9) (qac9 (qak9 (i:=3) sc_set_off.nd rfl (Or.inr rfl) (qe_op qav9 (qv 2) (qv 0))) (qac9 (qak9 (i:=4) sc_set_off.nd rfl (Or.inl rfl) ⟨qir9 (N:=["window","hour"]) (ps:=["window"]) 3 hr rfl mW FW.kp bW rfl rfl hC hB rfl rfl rfl (Or.inr (Or.inl rfl)) rfl rfl rfl qfe9 rfl rfl (pv 1) (fun base' fl c' v pm ctv hfl hca=>ok_lamS FW B hfl hca)⟩) (qac9 (qak9 (i:=5) sc_set_off.nd rfl (Or.inl rfl) (qe_ix qai9 (qv 1) (qe_op qav9 (qv 4) (qe_cb qao9 rfl B.len qby9 (qa_c (qv 1) qad9))) (fun _ _=>rfl))) (qac9 (qak9 (i:=6) sc_set_off.nd rfl (Or.inl rfl) (qe_fn Cx0 hr rfl (qa_c (qv 0) (qa_c (qv 5) (qa_c (qv 2) qad9))))) (qae9 (qax9 (qbn9 (qa_c (qv 6) (qa_c (qe_op qaw9 (qv 6) (qe_ix qba9 (qv 5) qaa9 (fun _ _=>rfl))) qad9))))))))))),?_⟩
 walk_at "d"
 obtain ⟨xs,hS,hlen,hat⟩:=hR.at (K:=K)
 refine ⟨_,rfl,pc,_,rfl,.inl hS,rfl,_,rfl,?_⟩
 refine ite2 (fun c1=>?_) (fun c1=>?_)
 ·have c2:V.int ((xs.length:Nat):Int)=V.int 0:=of_decide_eq_true c1
  injection c2 with c3
  exact q0 (by omega)
 have n0:R.length ≠ 0:=fun z=>c1 (decide_eq_true (by rw [hlen,z]; rfl))
 refine ⟨_,rfl,_,rfl,_,_,rfl,rfl,K0 hK,?_⟩
 refine ⟨_,rfl,_,rfl,tab,fun fl c' H2 sm tb hc'=>?_⟩
 refine ⟨pc,R,rfl,hc',hR.sameT sm tab,fun i j hij hj hp=>?_,fun m m1 m2 m3=>?_⟩
 ·have a1:=of_decide_eq_true hp
  have:=hK.lt i j hij hj
  have:=hK.ab j hj
  exact decide_eq_true (by show t % day<=rB R j; have a2:t % day<=rB R i:=a1; omega)
 have hR2:=hR.sameT sm tab
 obtain ⟨xs2,hS2,hlen2,hat2⟩:=hR2.at (K:=K)
 have hm:((m:Int) % ((xs2.length:Nat):Int))=((m % R.length:Nat):Int):=by rw [hlen2]; rfl
 have hml:m % R.length < R.length:=Nat.mod_lt _ (by omega)
 obtain ⟨r,ha,hr'⟩:=hat2 ((m % R.length:Nat):Int) (Int.natCast_nonneg _) (by omega)
 refine ⟨_,rfl,_,rfl,_,rfl,pc,_,rfl,.inl hS2,_,_,rfl,rfl,(by show 0 < ((xs2.length:Nat):Int); omega),pc,_,_,.ref r,rfl,rfl,hS2,by rw [hm]; exact ha,?_⟩
 refine ⟨_,rfl,_,rfl,_,rfl,day,r,_,_,_,t,rfl,hK.d0,hr',?_⟩
 refine ⟨_,rfl,_,rfl,_,rfl,r,_,_,_,rfl,rfl,SqT.of hr',rfl,_,_,rfl,rfl,(by show 2<=sizeLine; decide),fun r2 hr2=>?_⟩
 refine q1 n0 _ _ r2 _ (Ma.first_of hK (by omega) m1 (fun i hi=>?_) (fun hi=>?_) (i:=m % R.length) rfl) (SameT.trans sm (SameT.same (qan9 hr2 _))) (TabOk.same tb (qan9 hr2 _)) qaf9
 ·have z:=m2 i hi
  exact of_decide_eq_false z
 ·exact of_decide_eq_true (m3 hi)
theorem ok_come {P0:Addr} {pos:Pos} (F:Fun K "come" "come" qhm9 f fd) (Ci1:Callee P w K mg base n "set_off" ["day","clock","t"] (qpk9 P0 pos)):FnOk P w K mg base CX0 (n+1) f fd ["day","clock","t"] (spCome P0 pos):=by
 refine F.okQ sc_come (fun vs H Q E h=>?_) (fun cdv A outer s H vs Q E hr h=>?_)
 ·obtain ⟨_,_,_,_,rfl,_⟩:=h
  rfl
 obtain ⟨day,pc,t,R,rfl,hR,tab,hK,q0,q1⟩:=h
 refine ⟨_,(qac9 (qak9 (i:=3) sc_come.nd rfl (Or.inl rfl) (qe_fn Ci1 hr rfl (qa_c (qv 0) (qa_c (qv 1) (qa_c (qv 2) qad9))))) (qac9 (qs_if (qt_isN (qv 3)) (qae9 (qax9 qih9)) qat9) (qae9 (qax9 (qe_ix qba9 (qv 3) qaa9 (fun _ _=>rfl)))))),?_⟩
 walk_at "d"
 refine ⟨_,rfl,_,rfl,_,rfl,day,pc,t,R,rfl,hR,tab,hK,fun e0=>?_,fun n0 x y r H' hF sm tb hr'=>?_⟩
 ·refine ⟨_,rfl,_,rfl,iteP (decide_eq_true rfl) (q0 e0)⟩
 ·refine ⟨_,rfl,_,rfl,iteN (by simp) ?_⟩
  exact ⟨_,rfl,r,_,_,_,rfl,rfl,SqT.of hr',rfl,q1 n0 x y H' hF sm tb⟩
end
theorem tab_wr {H:Hp} {P p:Addr} {pos:Pos} {q:Str} {xs ys:List V} (t:TabOk H P pos q) (e:H p=some (.lst xs)):TabOk (upd H p (.lst ys)) P pos q:=by
 obtain ⟨ps,h1,h2,h3⟩:=t
 refine ⟨ps,by rw [qaq9 (fun z=>by rw [z,e] at h1; cases h1)]; exact h1,h2,?_⟩
 rcases h3 with h3 | ⟨c,h3,h4⟩
 ·exact .inl h3
 ·exact .inr ⟨c,h3,by rw [qaq9 (fun z=>by rw [z,e] at h4; cases h4)]; exact h4⟩
theorem tb_one (P:Addr) (pos:Pos) (q:Str):TB fun H=>TabOk H P pos q:=⟨fun _ _ t s=>TabOk.same t s,fun _ _ _ _ t e=>tab_wr t e⟩
theorem TB.and {T T':Hp->Prop} (h:TB T) (h':TB T'):TB fun H=>T H/\T' H:=⟨fun H H' t s=>⟨h.same H H' t.1 s,h'.same H H' t.2 s⟩,fun H p xs ys t e=>⟨h.wr H p xs ys t.1 e,h'.wr H p xs ys t.2 e⟩⟩
def qoz9 (T:Hp->Prop):Sp:=fun vs H Q _=>∃ (day:Int) (p:Addr) (t:Int) (R:List T3),vs=[.int day,.ref p,.int t]/\LA enc3 H p R/\T H/\Ma.CK day R/\∀ H',SameU H H'->T H'->Q (optV (Ma.bt day R t)) H'
theorem come_T {P:Program} {w:World} {K:W.Frag} {mg:Str->Option Value} {base:Heap} {n:Nat} {T:Hp->Prop} {P0:Addr} {pos:Pos} (C:Callee P w K mg base n "come" ["day","clock","t"] (spCome P0 pos)) (h1:∀ H,T H->TabOk H P0 pos (lamQ "set_off"))
  (h2:∀ H H',T H->SameT P0 H H'->TabOk H' P0 pos (lamQ "set_off")->T H'):Callee P w K mg base n "come" ["day","clock","t"] (qoz9 T):=Callee.imp C fun vs H Q E h=>by
 obtain ⟨day,p,t,R,rfl,hR,hT,ck,q⟩:=h
 refine ⟨day,p,t,R,rfl,hR.rows,h1 H hT,ck.clk,fun e=>?_,fun n0 x y H' hF sm tb=>?_⟩
 ·have e':=List.length_eq_zero_iff.mp e
  subst e'
  exact q H (SameU.refl H) hT
 ·have:=q H' (SameU.tab sm (h1 H hT) tb) (h2 H H' hT sm tb)
  rw [Ma.first_bt ck.clk hF] at this
  exact this
theorem qcg9 {H H':Hp} {P P0:Addr} {pos pos0:Pos} {q q0:Str} (t:TabOk H P pos q) (t0:TabOk H P0 pos0 q0) (s:SameT P0 H H') (ne:P ≠ P0):TabOk H' P pos q:=by
 obtain ⟨ps,h1,h2,h3⟩:=t
 refine ⟨ps,s _ _ h1 ne,h2,?_⟩
 rcases h3 with h3 | ⟨c,h3,h4⟩
 ·exact .inl h3
 ·refine .inr ⟨c,h3,s _ _ h4 fun z=>?_⟩
  obtain ⟨ps0,g1,_⟩:=t0
  rw [z,g1] at h4
  cases h4
def spLamG {α:Type} (enc:α->List V) (p:α->Bool) (c':Addr) (qual:Str):Sp:=fun vs H Q _=>∃ (r:Addr) (x:α),vs=[.ref r]/\H c'=some (.ext (CodeQ c' qual))/\H r=some (.tup (enc x))/\Q (.bl (p x)) H
def spFWG {α:Type} (enc:α->List V) (p:α->Bool) (fl c':Addr) (qual:Str):Sp:=fun vs H Q _=>∃ (pc:Addr) (xs:List α),vs=[.ref pc,.ref fl]/\H c'=some (.ext (CodeQ c' qual))/\LA enc H pc xs /\
 (∀ (i j:Nat) x y,i < j->xs[i]?=some x->xs[j]?=some y->p x=true->p y=true) /\
 ∀ m:Nat,m<=xs.length->(∀ (i:Nat) x,i < m->xs[i]?=some x->p x=false)->(∀ x,xs[m]?=some x->p x=true)->Q (.int m) H
section
variable {P:Program} {w:World} {K:W.Frag} {mg:Str->Option Value} {base:Heap} {f:Addr} {fd:FuncData} {n:Nat}
theorem qhg9 {α:Type} {enc:α->List V} {p:α->Bool} {fl c':Addr} {fdl:FuncData} {qual:Str} {v0:Str} (F:Fun K "first_where" "first_where" qbd9 f fd) (B:Bl mg) (G:FnOk P w K mg base CX0 n fl fdl [v0] (spLamG enc p c' qual)) (bG:Binds K fdl [v0] []) (ho:W.FnAt fl base) :
  FnOk P w K mg base CX0 (n+1) f fd ["clock","holds"] (spFWG enc p fl c' qual):=by
 refine F.okQ sc_first_where (fun vs H Q E h=>?_) (fun cdv A outer s H vs Q E hr h=>?_)
 ·obtain ⟨_,_,rfl,_⟩:=h
  rfl
 obtain ⟨pc,xs,rfl,hc,hR,hmono,q⟩:=h
 refine ⟨_,(qac9 (qak9 (i:=2) sc_first_where.nd rfl (Or.inl rfl) qaa9) (qac9 (qak9 (i:=3) sc_first_where.nd rfl (Or.inl rfl) (qe_cb qao9 rfl B.len qby9 (qa_c (qv 0) qad9))) (qac9 (qfm9 PassesOwn.never (qaj9 qcy9 (qv 2) (qv 3) (qas9 _)) (qac9 (qak9 (i:=4) sc_first_where.nd rfl (Or.inl rfl) (qe_op qay9 (qe_op qaw9 (qv 2) (qv 3)) qaa9)) (qae9 (qs_if (qcq9 ⟨pe_clo 1 G hr bG ho (qa_c (qe_ix qai9 (qv 0) (qv 4) (fun _ _=>rfl)) qad9).run⟩) (qae9 (qak9 (i:=3) sc_first_where.nd rfl (Or.inl rfl) (qv 4))) (qae9 (qak9 (i:=2) sc_first_where.nd rfl (Or.inl rfl) (qe_op qaw9 (qv 4) qaa9))))))) (qae9 (qax9 (qv 2)))))),?_⟩
 walk_at "d"
 obtain ⟨vs,hv,hlen,hat⟩:=hR.at (K:=K)
 refine ⟨_,rfl,pc,_,rfl,.inl (SqL.of hv),?_⟩
 refine qfj9 (fun σ H'=>H'=H/\∃ (lo hi:Nat) (v:Option V),σ=[some (.ref pc),some (.ref fl),some (.int lo),some (.int hi),v]/\lo<=hi/\hi<=xs.length/\(∀ (i:Nat) x,i < lo->xs[i]?=some x->p x=false)/\(∀ (i:Nat) x,hi<=i->xs[i]?=some x->p x=true))
  (fun σ _=>match σ with | [_,_,some (.int l),some (.int h),_]=>(h - l).toNat | _=>0) ⟨rfl,0,xs.length,none,by rw [hlen]; rfl,Nat.zero_le _,Nat.le_refl _,fun i x hi=>absurd hi (Nat.not_lt_zero _),fun i x h1 h2=>absurd (List.getElem?_eq_some_iff.mp h2).1 (Nat.not_lt.mpr h1)⟩ ?_ ?_
 ·intro σ H' z9;obtain ⟨rfl,lo,hi,v,rfl,l1,l2,l3,l4⟩ := z9
  refine ⟨_,rfl,_,rfl,_,_,rfl,rfl,_,rfl,?_⟩
  refine ite2 (fun c1=>?_) (fun c1=>?_)
  ·have c2:(lo:Int) < (hi:Int):=of_decide_eq_true c1
   refine ⟨_,rfl,_,rfl,_,_,rfl,rfl,_,_,rfl,rfl,⟨by decide,by decide⟩,?_⟩
   have m1:(lo:Int)<=((lo:Int)+hi) / 2:=by omega
   have m2:((lo:Int)+hi) / 2 < (hi:Int):=by omega
   have hk:(((lo:Int)+hi) / 2).toNat < xs.length:=by omega
   have ex:=List.getElem?_eq_getElem hk
   obtain ⟨r,ha,hr'⟩:=hat _ _ ex
   have ek:((((((lo:Int)+hi) / 2).toNat:Nat)):Int)=((lo:Int)+hi) / 2:=by omega
   rw [ek] at ha
   refine ⟨rfl,_,rfl,_,rfl,pc,_,_,_,rfl,rfl,SqL.of hv,ha,r,_,rfl,hc,hr',_,rfl,?_⟩
   refine ite2 (fun c3=>?_) (fun c3=>?_)
   ·refine ⟨_,rfl,⟨rfl,lo,(((lo:Int)+hi) / 2).toNat,some (.int (((lo:Int)+hi) / 2)),?_,by omega,by omega,l3,fun i x h1 h2=>?_⟩,?_⟩
    ·rw [ek]
     rfl
    ·rcases (by omega:i=(((lo:Int)+hi) / 2).toNat\/(((lo:Int)+hi) / 2).toNat < i) with e | e
     ·rw [e,ex] at h2
      cases h2
      exact c3
     ·exact hmono _ _ _ _ e ex h2 c3
    ·show ((((lo:Int)+hi) / 2) - (lo:Int)).toNat < ((hi:Int) - (lo:Int)).toNat
     omega
   ·refine ⟨_,rfl,_,_,rfl,rfl,⟨rfl,(((lo:Int)+hi) / 2).toNat+1,hi,some (.int (((lo:Int)+hi) / 2)),?_,by omega,l2,fun i x h1 h2=>?_,l4⟩,?_⟩
    ·rw [show (((((lo:Int)+hi) / 2).toNat+1:Nat):Int)=(((lo:Int)+hi) / 2)+1 by omega]
     rfl
    ·have c4:p xs[(((lo:Int)+hi) / 2).toNat]=false:=Bool.eq_false_iff.mpr c3
     rcases (by omega:i=(((lo:Int)+hi) / 2).toNat\/i < (((lo:Int)+hi) / 2).toNat) with e | e
     ·rw [e,ex] at h2
      cases h2
      exact c4
     ·refine Bool.eq_false_iff.mpr fun z=>?_
      have:=hmono _ _ _ _ e h2 ex z
      rw [c4] at this
      cases this
    ·show ((hi:Int) - ((((lo:Int)+hi) / 2)+1)).toNat < ((hi:Int) - (lo:Int)).toNat
     omega
  ·have c2:¬ (lo:Int) < (hi:Int):=fun z=>c1 (decide_eq_true z)
   have e:lo=hi:=by omega
   subst e
   exact ⟨_,rfl,q lo l2 l3 fun x h=>l4 lo x (Nat.le_refl _) h⟩
 ·intro σ H' Q1 Q2 hq z9;obtain ⟨v,e1,v',e2,i,j,e3,e4,k,e5,q1⟩ := z9
  exact ⟨v,e1,v',e2,i,j,e3,e4,k,e5,hq _ _ q1⟩
end
def qqk9 (P0:Addr) (pos:Pos):Sp:=fun vs H Q _=>∃ (day p qq ride:Int) (po:Addr) (S:List T4) (g:Int->Int),vs=[.int day,.int p,.int qq,.int ride,.ref po]/\LA enc4 H po S/\TabOk H P0 pos (lamQ "ridden")/\S.length<=4000000/\0 < day/\p<=qq/\qq < p+day/\Ma.Rise day g/\Ma.Cov g 0 S day /\
 ∀ (l:Addr) (S':List T4) (H':Hp),SameT P0 H H'->TabOk H' P0 pos (lamQ "ridden")->H l=none->LA enc4 H' l S'->S'.length<=S.length+1->Ma.Cov (fun x=>g (x+ride)) p S' (qq+1)->Q (.ref l) H'
abbrev lamR:Expr:=lamIn ((qag9 qcc9).getD 2 (.Pass ⟨0,0,0,0⟩))
theorem sc_lamR (c:Addr):LamScope ["row","hour"] ["row"] (lamSc lamR) [("hour",c)]:=⟨rfl,rfl,rfl,by decide,rfl,by decide +kernel,by decide +kernel,fun _ h=>qmf9 h,fun x y d h1 h2=>(qfe9 x d h1).1.trans (qfe9 y d h2).1.symm⟩
def spGR (v:V) (fl c':Addr):Sp:=match v with
 | .int hour=>spFWG enc4 (fun t=>decide (hour<=t.2.1)) fl c' (lamQ "ridden")
 | _=>fun _ _ _ _=>False
section
variable {P:Program} {w:World} {K:W.Frag} {mg:Str->Option Value} {base:Heap} {f g:Addr} {fd gd:FuncData} {n:Nat}
theorem ok_lamR {v:V} {fl c' cy:Addr} {pm ctv:Value} (FW:Fun K "first_where" "first_where" qbd9 g gd) (B:Bl mg)
  (hfl:base.get? fl=some (W.kla_obj "<lambda>" (lamQ "ridden") (qlb9 lamR) (qlf9 lamR) (lamSc lamR) [("hour",cy)] pm c' ctv)) (hca:qid9 base (lamSc lamR) [("hour",cy)] ["row","hour"] ["row"] [v]) :
  FnOk P w K mg base CX0 2 g gd ["clock","holds"] (spGR v fl c'):=by
 cases v with
 | int hour =>
  refine qhg9 (n:=1) (v0 := "row") FW B (lam_ok (k:=0) (N:=["row","hour"]) (cs:=[.int hour]) hfl (fun vs H Q E h=>?_) (sc_lamR cy) hca (fun vs H Q E h=>?_) (fun A outer s H vs Q E hr h=>?_)) (Binds.all fun us hl=>match us,hl with | [_],_=>rfl) ⟨_,_,_,_,hfl⟩
  ·obtain ⟨_,_,_,h,_⟩:=h
   exact h
  ·obtain ⟨_,_,rfl,_⟩:=h
   rfl
  ·obtain ⟨r,t,rfl,hc,hr',q⟩:=h
   refine ⟨_,qni9 op_le (pv 1) (pe_ix ix_tup (pv 0) pe_int (fun _ _=>rfl)) (qas9 _),?_⟩
   exact ⟨_,rfl,_,rfl,r,_,_,_,rfl,rfl,SqT.of hr',rfl,_,_,rfl,rfl,q⟩
 | non=>exact qda9
 | bl b=>exact qda9
 | str x=>exact qda9
 | byt b=>exact qda9
 | flt b=>exact qda9
 | ref a=>exact qda9
 | ty n=>exact qda9
theorem ok_ridden {c P0:Addr} {oc kV doc pm ct:Value} {od an:Option Addr} {osl:Array (Option Value)} (lk:K.lookup f=some ⟨oc,od,.func (W.fnOf "ridden" "ridden" (qah9 qcc9) (qag9 qcc9) (qab9 qcc9) .none kV doc pm an (.ref c) ct),osl⟩) (hcd:W.codeIn K (.ref c) "ridden" = true)
  (B:Bl mg) (hC:W.CodeHd base c P0) (hB:BMain mg base) (FW:Fun K "first_where" "first_where" qbd9 g gd) (bW:Binds K gd ["clock","holds"] []) (mW:mg "first_where" = some (.ref g)) :
  FnOk P w K mg base CX0 3 f (W.fnOf "ridden" "ridden" (qah9 qcc9) (qag9 qcc9) (qab9 qcc9) .none kV doc pm an (.ref c) ct) ["day","p","q","ride","others"] (qqk9 P0 ⟨163,28,163,54⟩):=by
 refine fn_of lk hcd sc_ridden (fun vs H Q E h=>?_) (fun A outer s H vs Q E hr h=>?_)
 ·obtain ⟨_,_,_,_,_,_,_,rfl,_⟩:=h
  rfl
 obtain ⟨day,p0,qq,ride,po,S,gg,rfl,hS,tab,hSl,hd,pq,qd,rg,hCv,q⟩:=h
 refine ⟨_,PSs.nox (QSs.run (qac9 (qak9 (i:=5) sc_ridden.nd rfl (Or.inr rfl) (qe_op qav9 (qe_op qaw9 (qv 1) (qv 3)) (qv 0))) (qac9 (qak9 (i:=6) sc_ridden.nd rfl (Or.inl rfl) (qe_op qcr9 (qe_op qaw9 (qv 1) (qv 3)) (qv 5))) (qac9 (qak9 (i:=7) sc_ridden.nd rfl (Or.inl rfl) ⟨qir9 (N:=["row","hour"]) (ps:=["row"]) 5 hr rfl mW FW.kp bW rfl rfl hC hB rfl rfl rfl (Or.inr (Or.inl rfl)) rfl rfl rfl qfe9 rfl rfl (pv 4) (fun base' fl c' v pm ctv hfl hca=>ok_lamR FW B hfl hca)⟩) (qac9 (qak9 (i:=8) sc_ridden.nd rfl (Or.inl rfl) (qbj9 qad9)) (qac9 (qfm9 PassesOwn.never (qaj9 qjf9 (qv 1) (qv 2) (qas9 _)) (qac9 (qak9 (i:=9) sc_ridden.nd rfl (Or.inl rfl) (qe_cb (qge9 rfl) rfl B.min qib9 (qa_c (qv 2) (qa_c (qe_op qcr9 (qe_op qaw9 (qv 6) (qe_ix qba9 (qe_ix qai9 (qv 4) (qv 7) (fun _ _=>rfl)) qaa9 (fun _ _=>rfl))) (qv 3)) qad9)))) (qdb9 (qs_if (qcq9 (qe_ix qba9 (qe_ix qai9 (qv 4) (qv 7) (fun _ _=>rfl)) qaa9 (fun _ _=>rfl))) (qae9 (qbg9 (qbm9 (qv 8) (qa_c (qbn9 (qa_c (qv 1) (qa_c (qv 9) (qa_c qe_bl (qa_c (qe_op qaw9 (qv 6) (qe_ix qba9 (qe_ix qai9 (qv 4) (qv 7) (fun _ _=>rfl)) qaa9 (fun _ _=>rfl))) qad9))))) qad9)))) (qae9 (qbg9 (qbm9 (qv 8) (qa_c (qbn9 (qa_c (qv 1) (qa_c (qv 9) (qa_c qe_bl (qa_c (qe_op qaw9 (qv 3) (qe_ix qba9 (qe_ix qai9 (qv 4) (qv 7) (fun _ _=>rfl)) qaa9 (fun _ _=>rfl))) qad9))))) qad9))))) (qac9 (qak9 (i:=1) sc_ridden.nd rfl (Or.inl rfl) (qe_op qaw9 (qv 9) qaa9)) (qac9 (qs_aug (i:=7) sc_ridden.nd rfl (Or.inl rfl) ip_add qaa9) (qae9 (qs_if (qaj9 qcb9 (qv 7) (qe_cb qao9 rfl B.len qby9 (qa_c (qv 4) qad9)) (qas9 _)) (qac9 (qak9 (i:=7) sc_ridden.nd rfl (Or.inl rfl) qaa9) (qae9 (qs_aug (i:=6) sc_ridden.nd rfl (Or.inl rfl) ip_add (qv 0)))) qat9))))))) (qae9 (qax9 (qv 8))))))))),?_⟩
 walk_at "d"
 refine ⟨_,rfl,_,rfl,_,_,rfl,rfl,_,rfl,_,_,rfl,rfl,hd,?_⟩
 obtain ⟨qt,eq0,h0,h1⟩:=Ma.split day (p0+ride) hd
 dsimp only
 generalize (p0+ride) % day=hour at *
 refine ⟨_,rfl,_,rfl,_,_,rfl,rfl,_,rfl,_,_,rfl,rfl,?_⟩
 dsimp only
 generalize hm0:p0+ride - hour=mid0
 have em0:mid0=day * qt:=by omega
 refine ⟨_,rfl,_,rfl,tab,fun fl c' H2 sm tb hc'=>?_⟩
 have su:=SameU.tab sm tab tb
 have hS2:=hS.u su
 refine ⟨po,S,rfl,hc',hS2,fun i j x y hij ex ey hp=>?_,fun k0 m1 m2 m3=>?_⟩
 ·have a1:hour<=x.2.1:=of_decide_eq_true hp
  have:=hCv.lt ex ey hij
  have:=(hCv.get ey).2.1
  exact decide_eq_true (by show hour<=y.2.1; omega)
 have hk0:k0 < S.length:=by
  rcases Nat.lt_or_ge k0 S.length with z | z
  ·exact z
  ·exfalso
   obtain ⟨i,r,er,r1,r2⟩:=hCv.find h0 h1
   have hi:=(List.getElem?_eq_some_iff.mp er).1
   have:=of_decide_eq_false (m2 i r (by omega) er)
   omega
 have er0:=List.getElem?_eq_getElem hk0
 generalize hr0:S[k0]=r0 at *
 have r0b:hour<=r0.2.1:=of_decide_eq_true (m3 r0 er0)
 have r0a:r0.1<=hour:=by
  rcases Nat.eq_zero_or_pos k0 with z | z
  ·have:=(hCv.get er0).2.2.2.2.1 z
   omega
  ·have hk:k0 - 1 < S.length:=by omega
   have e1:=List.getElem?_eq_getElem hk
   have:=of_decide_eq_false (m2 (k0 - 1) _ (by omega) e1)
   have:=(hCv.get e1).2.2.2.2.2.1 r0 (by rw [show k0 - 1+1=k0 by omega]; exact er0)
   omega
 refine ⟨(by show 0<=sizeLine; decide),fun pr hpr=>?_⟩
 have sr:Same H2 (upd H2 pr (.lst [])):=qan9 hpr _
 refine qfj9 (fun σ H'=>∃ (S':List T4) (p m:Int) (k:Nat) (v:Option V),σ=[some (.int day),some (.int p),some (.int qq),some (.int ride),some (.ref po),some (.int hour),some (.int m),some (.int k),some (.ref pr),v] /\
   Same H2 H'/\LA enc4 H' pr S'/\Ma.Cov (fun x=>gg (x+ride)) p0 S' p/\p<=qq+1/\S'.length<=S.length+1 /\
   (p<=qq->(∃ kk,m=day * kk)/\(∃ r,S[k]?=some r/\m+r.1<=p+ride/\p+ride<=m+r.2.1)/\((m=mid0/\S'.length+k0=k)\/(m=mid0+day/\S'.length+k0=S.length+k/\k<=k0))))
  (fun σ _=>match σ with | [_,some (.int p),_,_,_,_,_,_,_,_]=>(qq+1 - p).toNat | _=>0) ?_ ?_ ?_
 ·exact ⟨[],p0,mid0,k0,none,rfl,sr,LA.nil qaf9,rfl,by omega,by simp,fun _=>⟨⟨qt,em0⟩,⟨r0,er0,by omega,by omega⟩,.inl ⟨rfl,by simp⟩⟩⟩
 ·intro σ H3 z9;obtain ⟨S',p,m,k,v,rfl,s3,hS',cv,pl,sl,hin⟩ := z9
  refine ⟨_,rfl,_,rfl,_,_,rfl,rfl,_,rfl,?_⟩
  refine ite2 (fun c=>?_) (fun c=>?_)
  ·have c':p<=qq:=of_decide_eq_true c
   obtain ⟨⟨kk,em⟩,⟨r,er,x1,x2⟩,hw⟩:=hin c'
   obtain ⟨g1,g2,g3,g4,g5,g6,g7⟩:=hCv.get er
   have hkS:=(List.getElem?_eq_some_iff.mp er).1
   obtain ⟨us,u1,u2,u3⟩:=(hS2.same s3).at (K:=K)
   obtain ⟨ra,ua,ub⟩:=u3 k _ er
   refine ⟨_,rfl,_,rfl,_,rfl,_,rfl,po,_,_,_,rfl,rfl,SqL.of u1,ua,ra,_,_,_,rfl,rfl,SqT.of ub,rfl,_,_,rfl,rfl,_,rfl,_,_,rfl,rfl,_,_,rfl,?_⟩
   generalize he:(if m+r.2.1 - ride < qq then m+r.2.1 - ride else qq)=e
   have e1:p<=e:=by rw [<- he]; split <;> omega
   have e2:e<=qq:=by rw [<- he]; split <;> omega
   have e3:e+ride<=m+r.2.1:=by rw [<- he]; split <;> omega
   have e4:e < qq->e+ride=m+r.2.1:=by rw [<- he]; split <;> omega
   have rc:=Ma.ride_cov rg em e1 x1 e3 g4
   obtain ⟨vs,v1,v2,v3⟩:=hS'.lst
   refine ⟨fun σ' H'=>σ'=[some (.int day),some (.int p),some (.int qq),some (.int ride),some (.ref po),some (.int hour),some (.int m),some (.int k),some (.ref pr),some (.int e)]/\Same H2 H'/\LA enc4 H' pr (S' ++ [Ma.rideRow p e m ride r]),?_,?_⟩
   ·refine ⟨_,rfl,_,rfl,po,_,_,_,rfl,rfl,SqL.of u1,ua,ra,_,_,_,rfl,rfl,SqT.of ub,rfl,_,rfl,?_⟩
    unfold Ma.rideRow
    refine ite2 (fun z=>?_) (fun z=>?_)
    ·rw [if_pos z]
     refine ⟨_,rfl,.inl ⟨rfl,_,SqL.of v1⟩,_,rfl,_,rfl,_,rfl,_,rfl,_,rfl,po,_,_,_,rfl,rfl,SqL.of u1,ua,ra,_,_,_,rfl,rfl,SqT.of ub,rfl,_,_,rfl,rfl,(by show 4<=sizeLine; decide),fun rn hrn=>?_⟩
     have s4:=qan9 hrn (.tup [.int p,.int e,.bl true,.int (m+r.2.2.2)])
     exact ⟨pr,vs,.ref rn,rfl,rfl,s4 _ _ v1,qbo9 (by omega),rfl,qcs9 hpr (s3.trans s4),(hS'.same s4).append (x:=(p,e,true,m+r.2.2.2)) (s4 _ _ v1) qaf9⟩
    ·rw [if_neg z]
     refine ⟨_,rfl,.inl ⟨rfl,_,SqL.of v1⟩,_,rfl,_,rfl,_,rfl,_,rfl,_,rfl,po,_,_,_,rfl,rfl,SqL.of u1,ua,ra,_,_,_,rfl,rfl,SqT.of ub,rfl,_,_,rfl,rfl,(by show 4<=sizeLine; decide),fun rn hrn=>?_⟩
     have s4:=qan9 hrn (.tup [.int p,.int e,.bl false,.int (ride+r.2.2.2)])
     exact ⟨pr,vs,.ref rn,rfl,rfl,s4 _ _ v1,qbo9 (by omega),rfl,qcs9 hpr (s3.trans s4),(hS'.same s4).append (x:=(p,e,false,ride+r.2.2.2)) (s4 _ _ v1) qaf9⟩
   intro σ' H4 z9;obtain ⟨rfl,s4,hS4⟩ := z9
   refine ⟨_,rfl,_,_,rfl,rfl,?_⟩
   refine ⟨_,rfl,_,_,rfl,rfl,?_⟩
   obtain ⟨us,u1,u2,u3⟩:=(hS2.same s4).at (K:=K)
   have cv4:=cv.append rc
   have sl4:(S' ++ [Ma.rideRow p e m ride r]).length<=S.length+1:=by
    rw [List.length_append,List.length_singleton]
    rcases hw with ⟨_,z⟩ | ⟨_,z,z2⟩ <;> omega
   have ek:((k:Int)+1)=(((k+1:Nat)):Int):=by omega
   have nxt:∀ (m':Int) (k':Nat),(k+1 < S.length->m'=m/\k'=k+1)->(k+1=S.length->m'=m+day/\k'=0)->(e+1<=qq->(∃ kk,m'=day * kk)/\(∃ r,S[k']?=some r/\m'+r.1<=e+1+ride/\e+1+ride<=m'+r.2.1)/\((m'=mid0/\(S' ++ [Ma.rideRow p e m ride r]).length+k0=k')\/(m'=mid0+day/\(S' ++ [Ma.rideRow p e m ride r]).length+k0=S.length+k'/\k'<=k0))):=by
    intro m' k' ha hb lt
    have e5:=e4 (by omega)
    rw [List.length_append,List.length_singleton]
    rcases (by omega:k+1 < S.length\/k+1=S.length) with z | z
    ·obtain ⟨rfl,rfl⟩:=ha z
     have en:=List.getElem?_eq_getElem z
     have q1:=g6 _ en
     have q2:=(hCv.get en).2.1
     refine ⟨⟨kk,em⟩,⟨_,en,by omega,by omega⟩,?_⟩
     rcases hw with ⟨y1,y2⟩ | ⟨y1,y2,y3⟩
     ·exact .inl ⟨y1,by omega⟩
     ·refine .inr ⟨y1,by omega,?_⟩
      rcases (by omega:k < k0\/k=k0) with y | y
      ·omega
      ·exfalso
       have er':=er
       rw [y,er0] at er'
       cases er'
       omega
    ·obtain ⟨rfl,rfl⟩:=hb z
     have q1:=g7 z
     have hn0:0 < S.length:=by omega
     have en:=List.getElem?_eq_getElem hn0
     have q2:=(hCv.get en).2.2.2.2.1 rfl
     have q3:=(hCv.get en).2.1
     refine ⟨⟨kk+1,by rw [em,Int.mul_add,Int.mul_one]⟩,⟨_,en,by omega,by omega⟩,?_⟩
     rcases hw with ⟨y1,y2⟩ | ⟨y1,y2,y3⟩
     ·exact .inr ⟨by omega,by omega,Nat.zero_le _⟩
     ·exfalso
      have y:k=k0:=by omega
      have er':=er
      rw [y,er0] at er'
      cases er'
      omega
   dsimp only
   rw [ek]
   refine ⟨_,rfl,_,rfl,po,_,rfl,.inl (SqL.of u1),rfl,_,rfl,?_⟩
   refine ite2 (fun z=>?_) (fun z=>?_)
   ·have z':=of_decide_eq_true z
    injection z' with z'
    refine ⟨_,rfl,_,rfl,_,_,rfl,rfl,⟨_,e+1,m+day,0,_,rfl,s4,hS4,cv4,by omega,sl4,nxt (m+day) 0 (fun y=>by omega) fun _=>⟨rfl,rfl⟩⟩,?_⟩
    show (qq+1 - (e+1)).toNat < (qq+1 - p).toNat
    omega
   ·have z':¬ (((k+1:Nat)):Int)=((us.length:Nat):Int):=fun y=>z (decide_eq_true (by rw [y]))
    refine ⟨⟨_,e+1,m,k+1,_,rfl,s4,hS4,cv4,by omega,sl4,nxt m (k+1) (fun _=>⟨rfl,rfl⟩) fun y=>by omega⟩,?_⟩
    show (qq+1 - (e+1)).toNat < (qq+1 - p).toNat
    omega
  ·have c':¬ p<=qq:=fun z=>c (decide_eq_true z)
   have e:p=qq+1:=by omega
   subst e
   have fr:H pr=none:=by
    cases eh:H pr with
    | none=>rfl
    | some o =>
     by_cases zp:pr=P0
     ·obtain ⟨ps,hp,_⟩:=tb
      rw [zp,hp] at hpr
      cases hpr
     ·rw [sm _ _ eh zp] at hpr
      cases hpr
   exact ⟨_,rfl,q pr S' H3 (SameT.trans sm (SameT.same s3)) (TabOk.same tb s3) fr hS' sl cv⟩
 ·intro σ H' Q1 Q2 hq z9;obtain ⟨v,e1,v',e2,i,j,e3,e4,k,e5,q1⟩ := z9
  exact ⟨v,e1,v',e2,i,j,e3,e4,k,e5,hq _ _ q1⟩
end
def qlq9 (T:Hp->Prop):Sp:=fun vs H Q _=>∃ (day p qq ride:Int) (po:Addr) (S:List T4) (g:Int->Int),vs=[.int day,.int p,.int qq,.int ride,.ref po]/\LA enc4 H po S/\T H/\S.length<=4000000/\0 < day/\p<=qq/\qq < p+day/\Ma.Rise day g/\Ma.Cov g 0 S day /\
 ∀ (l:Addr) (S':List T4) (H':Hp),SameU H H'->T H'->H l=none->LA enc4 H' l S'->S'.length<=S.length+1->Ma.Cov (fun x=>g (x+ride)) p S' (qq+1)->Q (.ref l) H'
theorem ridden_T {P:Program} {w:World} {K:W.Frag} {mg:Str->Option Value} {base:Heap} {n:Nat} {T:Hp->Prop} {P0:Addr} {pos:Pos} (C:Callee P w K mg base n "ridden" ["day","p","q","ride","others"] (qqk9 P0 pos)) (h1:∀ H,T H->TabOk H P0 pos (lamQ "ridden"))
  (h2:∀ H H',T H->SameT P0 H H'->TabOk H' P0 pos (lamQ "ridden")->T H'):Callee P w K mg base n "ridden" ["day","p","q","ride","others"] (qlq9 T):=Callee.imp C fun vs H Q E h=>by
 obtain ⟨day,p,qq,ride,po,S,g,rfl,hS,hT,a1,a2,a3,a4,a5,a6,q⟩:=h
 exact ⟨day,p,qq,ride,po,S,g,rfl,hS,h1 H hT,a1,a2,a3,a4,a5,a6,fun l S' H' sm tb=>q l S' H' (SameU.tab sm (h1 H hT) tb) (h2 H H' hT sm tb)⟩
def qhz9 (T:Hp->Prop):Sp:=fun vs H Q _=>∃ (day:Int) (p1 p2:Addr) (R1 R2:List T3),vs=[.int day,.ref p1,.ref p2]/\LA enc3 H p1 R1/\LA enc3 H p2 R2/\T H/\R1.length<=1900000/\R2.length<=1900000/\(2 * R1.length+1) * (2 * R2.length+2)<=16000000/\Ma.CK day R1/\Ma.CK day R2 /\
 ∀ (l:Addr) (R:List T3) (H':Hp),SameU H H'->T H'->H l=none->LA enc3 H' l R->R.length<=(2 * R1.length+1) * (2 * R2.length+2)->Ma.CK day R->(∀ t,Ma.bt day R t=Ma.obind (Ma.bt day R1) (Ma.bt day R2) t)->Q (.ref l) H'
section
variable {P:Program} {w:World} {K:W.Frag} {mg:Str->Option Value} {base:Heap} {f:Addr} {fd:FuncData} {n:Nat} {T:Hp->Prop}
theorem ok_behind (hTB:TB T) (F:Fun K "behind" "behind" qev9 f fd) (B:Bl mg) (Cg0:Callee P w K mg base n "stretches" ["day","clock"] qfs9) (Cj1:Callee P w K mg base n "come" ["day","clock","t"] (qoz9 T)) (Cn1:Callee P w K mg base n "ridden" ["day","p","q","ride","others"] (qlq9 T))
  (Cj0:Callee P w K mg base n "clock_from" ["day","rows"] qfw9):FnOk P w K mg base CX0 (n+1) f fd ["day","one","other"] (qhz9 T):=by
 refine F.okQ sc_behind (fun vs H Q E h=>?_) (fun cdv A outer s H vs Q E hr h=>?_)
 ·obtain ⟨_,_,_,_,_,rfl,_⟩:=h
  rfl
 obtain ⟨day,p1,p2,R1,R2,rfl,hR1,hR2,hT,hl1,hl2,hl3,ck1,ck2,q⟩:=h
 refine ⟨_,(qac9 (qs_if (qfx9 (QW.pt (qw_or (qaj9 qcb9 (qe_cb qao9 rfl B.len qby9 (qa_c (qv 1) qad9)) qaa9 (qas9 _)) (qff9 (qaj9 qcb9 (qe_cb qao9 rfl B.len qby9 (qa_c (qv 2) qad9)) qaa9 (qas9 _)))))) (qae9 (qax9 (qbj9 qad9))) qat9) (qac9 (qak9 (i:=3) sc_behind.nd rfl (Or.inl rfl) (qe_fn Cg0 hr rfl (qa_c (qv 0) (qa_c (qv 2) qad9)))) (qac9 (qak9 (i:=4) sc_behind.nd rfl (Or.inl rfl) (qbj9 qad9)) (qac9 (qgb9 PassesOwn.never rfl (qdn9 (qe_fn Cg0 hr rfl (qa_c (qv 0) (qa_c (qv 1) qad9)))) (qfu9 rfl (qal9 (qam9 (i:=5) sc_behind.nd rfl (Or.inl rfl)) (qal9 (qam9 (i:=6) sc_behind.nd rfl (Or.inl rfl)) (qal9 (qam9 (i:=7) sc_behind.nd rfl (Or.inl rfl)) (qal9 (qam9 (i:=8) sc_behind.nd rfl (Or.inl rfl)) qdo9))))) (qae9 (qs_if (qcq9 (qv 7)) (qae9 (qbg9 (qbm9 (qv 4) (qa_c (qbn9 (qa_c (qv 5) (qa_c (qv 6) (qa_c qe_bl (qa_c (qe_fn Cj1 hr rfl (qa_c (qv 0) (qa_c (qv 2) (qa_c (qv 8) qad9)))) qad9))))) qad9)))) (qae9 (qbg9 (qiq9 (qv 4) (qa_c (qe_fn Cn1 hr rfl (qa_c (qv 0) (qa_c (qv 5) (qa_c (qv 6) (qa_c (qv 8) (qa_c (qv 3) qad9)))))) qad9))))))) (qae9 (qax9 (qe_fn Cj0 hr rfl (qa_c (qv 0) (qa_c (qv 4) qad9))))))))),?_⟩
 walk_at "d"
 obtain ⟨us,hu1,hu2,hu3⟩:=hR1.lst
 obtain ⟨ws,hw1,hw2,hw3⟩:=hR2.lst
 refine ⟨fun b H'=>H'=H/\b=decide (R1=[]\/R2=[]),?_,?_⟩
 ·refine ⟨_,rfl,p1,_,rfl,.inl (SqL.of hu1),rfl,_,rfl,?_⟩
  refine ite2 (fun c=>?_) (fun c=>?_)
  ·have c':=of_decide_eq_true c
   injection c' with c'
   have e:R1=[]:=List.length_eq_zero_iff.mp (by omega)
   exact ⟨rfl,by simp [e]⟩
  ·have n1:R1 ≠ []:=fun e=>c (decide_eq_true (by rw [hu2,e]; rfl))
   refine ⟨_,rfl,p2,_,rfl,.inl (SqL.of hw1),rfl,_,rfl,rfl,?_⟩
   rw [hw2]
   cases R2 with
   | nil=>simp
   | cons x r=>simp [n1]; omega
 intro b H1 z9;obtain ⟨rfl,rfl⟩ := z9
 refine ite2 (fun c=>?_) (fun c=>?_)
 ·have c':=of_decide_eq_true c
  refine ⟨(by show 0<=sizeLine; decide),fun l hl=>?_⟩
  refine q l [] _ (SameU.of (qan9 hl _)) (hTB.same _ _ hT (qan9 hl _)) hl (LA.nil qaf9) (by simp) (Ma.ck_nil ck1.d0) fun t=>?_
  unfold Ma.obind
  rcases c' with e | e
  ·rw [e]; rfl
  ·rw [e,Ma.bt_nil]; cases Ma.bt day R1 t <;> rfl
 have c':¬ (R1=[]\/R2=[]):=fun z=>c (decide_eq_true z)
 have T1:=Ma.tells_bf (d:=day) (fun e=>c' (.inl e))
 have T2:=Ma.tells_bf (d:=day) (fun e=>c' (.inr e))
 have rf:=ck1.rise T1
 have rg:=ck2.rise T2
 have C1:=Ma.str_cov ck1 T1
 have C2:=Ma.str_cov ck2 T2
 have b1:=Ma.strOf_len day R1
 have b2:=Ma.strOf_len day R2
 have hd:=ck1.d0
 refine ⟨_,rfl,_,rfl,day,p2,R2,rfl,hR2,by omega,fun l2 H2 s2 f2 hS2=>?_⟩
 refine ⟨(by show 0<=sizeLine; decide),fun pr hpr=>?_⟩
 have s3:Same H2 (upd H2 pr (.lst [])):=qan9 hpr _
 have s13:=s2.trans s3
 refine ⟨_,rfl,_,rfl,day,p1,R1,rfl,hR1.same s13,by omega,fun l1 H4 s4 f4 hS1=>?_⟩
 have er4:H4 pr=some (.lst []):=s4 _ _ qaf9
 have n1:l1 ≠ pr:=fun e=>by rw [e,qaf9] at f4; cases f4
 have s14:=s13.trans s4
 have hS2:=(hS2.same s3).same s4
 have n2:l2 ≠ pr:=fun e=>by
  have h:=s2.free hpr
  obtain ⟨vs,z,_⟩:=hS2.lst
  rw [e,er4] at z
  cases z
  obtain ⟨vs',z',_⟩:=(show LA enc4 H2 l2 (Ma.strOf day R2) from by assumption).lst
  rw [e,hpr] at z'
  cases z'
 have hR2:=(hR2.same s14)
 have np2:p2 ≠ pr:=fun e=>by
  have z:=s2 _ _ hw1
  rw [e,hpr] at z
  cases z
 have hT4:=hTB.same _ _ hT s14
 have hfr:H1 pr=none:=s2.free hpr
 clear s3 f4 f2
 generalize Ma.strOf day R1=S1 at *
 generalize Ma.strOf day R2=S2 at *
 generalize Ma.bf day R1=f1 at *
 generalize Ma.bf day R2=f2 at *
 obtain ⟨xs,hx1,hx2,hx3⟩:=hS1.lst
 have hrow:∀ {α:Type} {enc:α->List V} {l:Addr} {ys:List α} {H':Hp},LA enc H4 l ys->l ≠ pr->(∀ b o,H4 b=some o->b ≠ pr->(∀ z,o ≠ .tbl z)->H' b=some o)->LA enc H' l ys:=fun {α enc l ys H'} h nl st=>by
  obtain ⟨rs,h1,h2,h3⟩:=h.ex
  refine ⟨rs,st _ _ h1 nl (fun _ z=>nomatch z),h2,fun i r x e e'=>?_⟩
  have h4:=h3 i r x e e'
  exact st _ _ h4 (fun z=>by rw [z,er4] at h4; cases h4) (fun _ z=>nomatch z)
 refine ⟨l1,rfl,⟨_,SqL.of hx1⟩,qfi9 (K:=K) (a:=l1) (xs:=xs)
  (fun i σ H'=>∃ (S:List T4) (at_:Int) (v1 v2 v3 v4:Option V),σ=[some (.int day),some (.ref p1),some (.ref p2),some (.ref l2),some (.ref pr),v1,v2,v3,v4]/\SameU H1 H'/\T H'/\(∀ b o,H4 b=some o->b ≠ pr->(∀ z,o ≠ .tbl z)->H' b=some o)/\LA enc4 H' pr S/\S.length<=i * (S2.length+1)/\Ma.Cov (fun x=>f2 (f1 x)) 0 S at_/\(∀ r,S1[i]?=some r->r.1=at_)/\(i=S1.length->at_=day))
  ⟨[],0,_,_,_,_,rfl,SameU.of s14,hT4,fun b o e _ _=>e,LA.nil er4,by simp,rfl,fun r e=>(C1.get e).2.2.2.2.1 rfl,fun e=>?_⟩
  (fun i σ H' _ ⟨_,_,_,_,_,_,_,_,_,s1,_⟩=>SqL.of (s1 _ _ hx1 n1 (fun _ z=>nomatch z))) ?_ ?_⟩
 ·rw [List.length_eq_zero_iff.mp e.symm] at C1
  exact C1
 ·intro i y σ H5 hi z9;obtain ⟨S,at_,v1,v2,v3,v4,rfl,sU,t5,st,hS,hSl,hC,hat,_⟩ := z9
  obtain ⟨r,x,rfl,ex,er⟩:=hx3 i y hi
  have e1:=hat x ex
  obtain ⟨g1,g2,g3,g4,g5,g6,g7⟩:=C1.get ex
  have nr:r ≠ pr:=fun z=>by rw [z,er4] at er; cases er
  have er5:=st _ _ er nr (fun _ z=>nomatch z)
  have hi2:i < S1.length:=(List.getElem?_eq_some_iff.mp ex).1
  obtain ⟨xp,xq,xs',xv⟩:=x
  have e1':xp=at_:=e1
  subst e1'
  have g2':xp<=xq:=g2
  have g3':xq < day:=g3
  have g1':0<=xp:=g1
  have g4':∀ x,xp<=x->x<=xq->f1 x=if xs'=true then xv else x+xv:=g4
  obtain ⟨vs,hv1,hv2,hv3⟩:=hS.lst
  have bnd:(i+1) * (S2.length+1)<=16000000:=by
   have:(i+1) * (S2.length+1)<=(2 * R1.length+1) * (2 * R2.length+2):=Nat.mul_le_mul (by omega) (by omega)
   omega
  rw [Nat.succ_mul] at bnd
  refine ⟨r,_,rfl,SqT.of er5,rfl,_,_,rfl,_,_,rfl,_,_,rfl,_,_,rfl,rfl,?_⟩
  refine ⟨_,rfl,_,rfl,?_⟩
  cases xs' with
  | true =>
   refine iteT ⟨_,rfl,.inl ⟨rfl,_,SqL.of hv1⟩,_,rfl,_,rfl,_,rfl,_,rfl,_,rfl,day,p2,xv,R2,rfl,hrow hR2 np2 st,t5,ck2,fun H6 u6 t6=>?_⟩
   rw [T2 xv]
   refine ⟨(by show 4<=sizeLine; decide),fun rn hrn=>?_⟩
   have s7:=qan9 hrn (.tup [.int xp,.int xq,.bl true,.int (f2 xv)])
   have u7:=u6.trans (SameU.of s7)
   have hv7:=u7.lst hv1
   refine ⟨pr,vs,.ref rn,rfl,rfl,hv7,qbo9 (by omega),?_⟩
   have cr:Ma.Cov (fun x=>f2 (f1 x)) xp [(xp,xq,true,f2 xv)] (xq+1):=Ma.Cov.one (r:=(xp,xq,true,f2 xv)) g2' fun x x0 x1=>by
    have:=g4' x x0 x1
    rw [if_pos rfl] at this
    show f2 (f1 x)=f2 xv
    rw [this]
   refine ⟨_,_,_,_,_,_,rfl,SameU.wr hfr (sU.trans u7),hTB.wr _ _ _ _ (hTB.same _ _ t6 s7) hv7,fun b o e nb nt=>?_,((hS.u u6).same s7).append (x:=(xp,xq,true,f2 xv)) hv7 qaf9,?_,hC.append cr,fun r' e'=>g6 r' e',fun e=>g7 e⟩
   ·rw [qaq9 nb]
    exact u7.1 _ _ (st _ _ e nb nt) nt
   ·rw [List.length_append,List.length_singleton,Nat.succ_mul]
    omega
  | false =>
   refine iteF ⟨_,rfl,.inl ⟨rfl,_,SqL.of hv1⟩,_,rfl,_,rfl,_,rfl,_,rfl,_,rfl,day,xp,xq,xv,l2,S2,f2,rfl,hrow hS2 n2 st,t5,by omega,hd,g2',by omega,rg,C2,fun l S' H6 u6 t6 fl hS' hSl' cr=>?_⟩
   obtain ⟨zs,hz1,hz2,hz3⟩:=hS'.lst
   have hv6:=u6.lst hv1
   refine ⟨pr,l,vs,zs,rfl,rfl,hv6,hz1,Nat.le_of_lt (qbo9 (by omega)),?_⟩
   have cr':Ma.Cov (fun x=>f2 (f1 x)) xp S' (xq+1):=by
    refine Ma.Cov.congr (fun x x0 x1=>?_) cr
    have:=g4' x x0 (by omega)
    rw [if_neg (by decide)] at this
    show f2 (x+xv)=f2 (f1 x)
    rw [this]
   refine ⟨_,_,_,_,_,_,rfl,SameU.wr hfr (sU.trans u6),hTB.wr _ _ _ _ t6 hv6,fun b o e nb nt=>?_,(hS.u u6).extend hS' hv6 hz1,?_,hC.append cr',fun r' e'=>g6 r' e',fun e=>g7 e⟩
   ·rw [qaq9 nb]
    exact u6.1 _ _ (st _ _ e nb nt) nt
   ·rw [List.length_append,Nat.succ_mul]
    omega
 ·intro σ H5 z9;obtain ⟨S,at_,v1,v2,v3,v4,rfl,sU,t5,st,hS,hSl,hC,hat,hend⟩ := z9
  have e:=hend hx2
  subst e
  rw [hx2] at hSl
  have bnd:S1.length * (S2.length+1)<=(2 * R1.length+1) * (2 * R2.length+2):=Nat.mul_le_mul b1 (by omega)
  have rc:=Ma.rise_comp rf rg
  refine ⟨_,rfl,_,rfl,at_,pr,S,_,rfl,hS,by omega,hd,rc,hC,fun l R H6 s6 fl hR hRl can=>?_⟩
  refine q l R H6 (sU.trans (SameU.of s6)) (hTB.same _ _ t5 s6) (sU.free fl) hR (by omega) (can.ck hd rc) fun t=>?_
  rw [can.tells hd rc t]
  unfold Ma.obind
  rw [T1 t]
  exact (T2 _).symm
end
abbrev RdT:=Int × Int × Addr × List T3
def keyN (m:RdT):Int × Int × Addr:=(m.1,m.2.1,m.2.2.1)
def encK (k:Int × Int × Addr):List V:=[.int k.1,.int k.2.1,.ref k.2.2]
structure NA (H:Hp) (p:Addr) (N:List RdT):Prop where
 la:LA encK H p (N.map keyN)
 bd:∀ m∈N,LA enc3 H m.2.2.1 m.2.2.2/\m.2.2.1 ≠ p
 nd:(N.map fun m=>m.2.2.1).Nodup
section
variable {K:W.Frag} {H H':Hp} {p r b:Addr} {N:List RdT} {s e:Int} {vs us:List V}
theorem NA.nil (h:H p=some (.lst [])):NA H p []:=⟨LA.nil h,(fun m hm=>by cases hm),List.Pairwise.nil⟩
theorem NA.mono (h:NA H p N) (s:∀ b o,H b=some o->(∀ z,o ≠ .tbl z)->H' b=some o):NA H' p N:=⟨h.la.mono s,fun m hm=>⟨(h.bd m hm).1.mono s,(h.bd m hm).2⟩,h.nd⟩
theorem NA.same (h:NA H p N) (s:Same H H'):NA H' p N:=h.mono fun b o e _=>s b o e
theorem NA.fresh (h:NA H p N) (fb:H b=none):b ≠ p/\b ∉ N.map fun m=>m.2.2.1:=by
 refine ⟨fun z=>?_,fun hm=>?_⟩
 ·obtain ⟨vs,h1,_⟩:=h.la.lst
  rw [<- z,fb] at h1
  cases h1
 ·obtain ⟨m,hm',e⟩:=List.mem_map.mp hm
  obtain ⟨vs,h1,_⟩:=(h.bd m hm').1.lst
  rw [e,fb] at h1
  cases h1
theorem NA.snoc (h:NA H p N) (fb:b ≠ p/\b ∉ N.map fun m=>m.2.2.1) (hx:H p=some (.lst vs)) (hb:H b=some (.lst [])) (hr:H r=some (.tup [.int s,.int e,.ref b])):NA (upd H p (.lst (vs ++ [.ref r]))) p (N ++ [(s,e,b,[])]):=by
 refine ⟨?_,fun m hm=>?_,?_⟩
 ·rw [List.map_append]
  exact h.la.append (x:=(s,e,b)) hx hr
 ·rcases List.mem_append.mp hm with hm | hm
  ·obtain ⟨h1,h2⟩:=h.bd m hm
   exact ⟨qce9 h1 hx h2,h2⟩
  ·rw [List.mem_singleton] at hm
   subst hm
   exact ⟨LA.nil (by rw [qaq9 fb.1]; exact hb),fb.1⟩
 ·rw [List.map_append]
  refine List.nodup_append.mpr ⟨h.nd,by simp,fun x hx y hy=>?_⟩
  simp only [List.map_cons,List.map_nil,List.mem_singleton] at hy
  subst hy
  exact fun z=>fb.2 (z ▸ hx)
end
def NFr (H:Hp) (N:List RdT):Prop:=∀ m∈N,H m.2.2.1=none
theorem NFr.snoc {H:Hp} {N:List RdT} {m:RdT} (h:NFr H N) (e:H m.2.2.1=none):NFr H (N ++ [m]):=fun x hx=>by
 rcases List.mem_append.mp hx with hx | hx
 ·exact h x hx
 ·rw [List.mem_singleton] at hx
  subst hx
  exact e
theorem NA.add {H:Hp} {p r b:Addr} {N:List RdT} {s e:Int} {vs:List V} {R:List T3} (h:NA H p N) (fb:b ≠ p/\b ∉ N.map fun m=>m.2.2.1) (hx:H p=some (.lst vs)) (hb:LA enc3 H b R) (hr:H r=some (.tup [.int s,.int e,.ref b])):NA (upd H p (.lst (vs ++ [.ref r]))) p (N ++ [(s,e,b,R)]):=by
 refine ⟨?_,fun m hm=>?_,?_⟩
 ·rw [List.map_append]
  exact h.la.append (x:=(s,e,b)) hx hr
 ·rcases List.mem_append.mp hm with hm | hm
  ·obtain ⟨h1,h2⟩:=h.bd m hm
   exact ⟨qce9 h1 hx h2,h2⟩
  ·rw [List.mem_singleton] at hm
   subst hm
   exact ⟨qce9 hb hx fb.1,fb.1⟩
 ·rw [List.map_append]
  refine List.nodup_append.mpr ⟨h.nd,by simp,fun x hx y hy=>?_⟩
  simp only [List.map_cons,List.map_nil,List.mem_singleton] at hy
  subst hy
  exact fun z=>fb.2 (z ▸ hx)
def strip (m:RdT):Int × Int × List T3:=(m.1,m.2.1,m.2.2.2)
def numV (count:Int):V->Bool
 | .int i=>decide (0<=i) && decide (i < count)
 | _=>false
def posW (H:Hp) (x:V):Bool:=match tupV H x with
 | some [_,_,.int c]=>decide (0 < c)
 | _=>false
def posB (H:Hp) (x:V):Bool:=match lstV H x with
 | some ws=>ws.all (posW H)
 | none=>false
def roadL (H:Hp) (day size:Int):List V->Bool
 | [s,e,b]=>numV size s && (numV size e && (qek9 H day b && posB H b))
 | _=>false
def roadV (H:Hp) (day size:Int) (x:V):Bool:=match tupV H x with
 | some xs=>roadL H day size xs
 | none=>false
def netV (H:Hp) (day:Int) (size roads:V):Bool:=match size with
 | .int n=>decide (1<=n) && (match lstV H roads with
  | some xs=>xs.all (roadV H day n)
  | none=>false)
 | _=>false
def DvR (H:Hp) (x:V):Prop:=Dv H x/\∀ zs,tupV H x=some zs->∀ z∈zs,Dv3 H z
def DvN (H:Hp) (x:V):Prop:=Dv H x/\∀ xs,lstV H x=some xs->xs.length<=1000/\∀ y∈xs,DvR H y
theorem Dv3.same {H H':Hp} {x:V} (h:Dv3 H x) (s:Same H H'):Dv3 H' x:=⟨h.1.same s,fun xs e=>by
 rw [h.1.lstV_same s] at e
 exact ⟨(h.2 xs e).1,fun y hy=>((h.2 xs e).2 y hy).same s⟩⟩
theorem DvR.same {H H':Hp} {x:V} (h:DvR H x) (s:Same H H'):DvR H' x:=⟨h.1.same s,fun xs e=>by
 rw [h.1.tupV_same s] at e
 exact fun y hy=>(h.2 xs e y hy).same s⟩
theorem Dv3.boardV_same {H H':Hp} {x:V} (h:Dv3 H x) (s:Same H H') (day:Int):qek9 H' day x=qek9 H day x:=by
 unfold qek9
 rw [h.1.lstV_same s]
 cases e:lstV H x with
 | none=>rfl
 | some xs =>
  rw [Bool.eq_iff_iff,List.all_eq_true,List.all_eq_true]
  exact ⟨fun z y hy=>by rw [<- ((h.2 xs e).2 y hy).1.winV_same s day]; exact z y hy,fun z y hy=>by rw [((h.2 xs e).2 y hy).1.winV_same s day]; exact z y hy⟩
theorem Dv2.posW_same {H H':Hp} {x:V} (h:Dv2 H x) (s:Same H H'):posW H' x=posW H x:=by
 unfold posW
 rw [h.1.tupV_same s]
theorem Dv3.posB_same {H H':Hp} {x:V} (h:Dv3 H x) (s:Same H H'):posB H' x=posB H x:=by
 unfold posB
 rw [h.1.lstV_same s]
 cases e:lstV H x with
 | none=>rfl
 | some xs =>
  rw [Bool.eq_iff_iff,List.all_eq_true,List.all_eq_true]
  exact ⟨fun z y hy=>by rw [<- ((h.2 xs e).2 y hy).posW_same s]; exact z y hy,fun z y hy=>by rw [((h.2 xs e).2 y hy).posW_same s]; exact z y hy⟩
theorem DvR.roadV_same {H H':Hp} {x:V} (h:DvR H x) (s:Same H H') (day size:Int):roadV H' day size x=roadV H day size x:=by
 unfold roadV
 rw [h.1.tupV_same s]
 cases e:tupV H x with
 | none=>rfl
 | some xs =>
  have hz:=h.2 xs e
  show roadL H' day size xs=roadL H day size xs
  unfold roadL
  split
  ·rw [(hz _ (by simp)).boardV_same s,(hz _ (by simp)).posB_same s]
  ·rfl
theorem qox9 {H:Hp} {day:Int} {x:V} (h:winV H day x=true):∃ (r:Addr) (a b c:Int),x=.ref r/\H r=some (.tup [.int a,.int b,.int c]):=by
 unfold winV at h
 split at h
 ·rename_i xs e
  obtain ⟨r,rfl,er⟩:=qji9 e
  unfold winL at h
  split at h
  ·exact ⟨r,_,_,_,rfl,er⟩
  ·cases h
 ·cases h
def qfk9:Sp:=fun vs H Q _=>∃ (count:Int) (x:V),vs=[.int count,x]/\Dv H x/\Q (.bl (numV count x)) H
def spRoad:Sp:=fun vs H Q _=>∃ (day size:Int) (x:V),vs=[.int day,.int size,x]/\DvR H x/\∀ H',Same H H'->Q (.bl (roadV H day size x)) H'
def qnh9:Sp:=fun vs H Q _=>∃ (day:Int) (size x:V),vs=[.int day,size,x]/\Dv H size/\DvN H x/\∀ H',Same H H'->Q (.bl (netV H day size x)) H'
section
variable {P:Program} {w:World} {K:W.Frag} {mg:Str->Option Value} {base:Heap} {f:Addr} {fd:FuncData} {n:Nat}
theorem qkl9 (F:Fun K "is_number" "is_number" qcx9 f fd) (Cc0:Callee P w K mg base n "is_whole" ["thing"] qez9):FnOk P w K mg base CX0 (n+1) f fd ["count","thing"] qfk9:=by
 refine F.okQ qkm9 (fun vs H Q E h=>?_) (fun cdv A outer s H vs Q E hr h=>?_)
 ·obtain ⟨_,_,rfl,_⟩:=h
  rfl
 obtain ⟨count,x,rfl,dv,q⟩:=h
 refine ⟨_,(qae9 (qax9 (qpr9 (qe_fn Cc0 hr rfl (qa_c (qv 1) qad9)) (qqb9 (qoe9 qjf9 qcy9 qaa9 (qv 1) (qv 0)))))),?_⟩
 walk_at "d"
 refine ⟨_,rfl,x,rfl,dv,_,rfl,?_⟩
 cases hw:isWh x with
 | false =>
  refine iteF ?_
  have e:numV count x=false:=by
   unfold numV
   split
   ·cases hw
   ·rfl
  rw [e] at q
  exact q
 | true =>
  obtain ⟨i,rfl⟩:=qha9 hw
  unfold numV at q
  dsimp only at q
  refine iteT ⟨_,rfl,_,_,rfl,rfl,_,rfl,ite2 (fun c=>?_) (fun c=>?_)⟩
  ·rw [c,Bool.true_and] at q
   exact ⟨_,rfl,_,_,rfl,rfl,q⟩
  ·rw [Bool.eq_false_iff.mpr c,Bool.false_and] at q
   exact q
theorem qnm9 (F:Fun K "is_road" "is_road" qdw9 f fd) (B:Bl mg) (Cb0:Callee P w K mg base n "is_number" ["count","thing"] qfk9) (Cn0:Callee P w K mg base n "is_board" ["day","thing"] qpt9):FnOk P w K mg base CX0 (n+1) f fd ["day","size","thing"] spRoad:=by
 refine F.okQ qoo9 (fun vs H Q E h=>?_) (fun cdv A outer s H vs Q E hr h=>?_)
 ·obtain ⟨_,_,_,rfl,_⟩:=h
  rfl
 obtain ⟨day,size,x,rfl,dv,q⟩:=h
 refine ⟨_,(qac9 (qs_if (QW.pt (qw_or (qee9 (qcq9 (qe_cb qfa9 rfl B.isinstance qaz9 (qa_c (qv 2) (qa_c (qhr9 (v:=.ty "tuple") rfl B.tuple_ qkp9 rfl) qad9))))) (qff9 (qaj9 qop_ne (qe_cb qao9 rfl B.len qby9 (qa_c (qv 2) qad9)) qaa9 (qas9 _))))) (qae9 (qax9 qe_bl)) qat9) (qac9 (qs_if (QW.pt (qw_or (qee9 (qcq9 (qe_fn Cb0 hr rfl (qa_c (qv 1) (qa_c (qe_ix qba9 (qv 2) qaa9 (fun _ _=>rfl)) qad9))))) (qff9 (qee9 (qcq9 (qe_fn Cb0 hr rfl (qa_c (qv 1) (qa_c (qe_ix qba9 (qv 2) qaa9 (fun _ _=>rfl)) qad9)))))))) (qae9 (qax9 qe_bl)) qat9) (qae9 (qax9 (qpr9 (qe_fn Cn0 hr rfl (qa_c (qv 0) (qa_c (qe_ix qba9 (qv 2) qaa9 (fun _ _=>rfl)) qad9))) (qqb9 (qe_cb (qgc9 rfl) rfl B.all bt_all (qa_c (qfc9 ["window"] [none] (BlkOk.of rfl rfl (SubL.to subN) rfl) rfl (qdn9 (qe_ix qba9 (qv 2) qaa9 (fun _ _=>rfl))) (fun _ _ _ _=>(qam9 (i:=0) (show (["window"]:List Str).Nodup by decide) rfl (Or.inl rfl))) (fun _ _ _ _=>(qjb9 qgp9 (qe_ix (qku9 K rfl) (qv 0) qaa9 (fun _ _=>rfl)) qaa9 (qas9 _)))) qad9)))))))),?_⟩
 walk_at "d"
 obtain ⟨t,hty,hk⟩:=dv.1.isTup (K:=K)
 have q0:roadV H day size x=false->∀ H',Same H H'->Q (.bl false) H':=fun e H' s=>by
  have:=q H' s
  rw [e] at this
  exact this
 cases ht:tupV H x with
 | none =>
  rw [ht] at hk
  have hw:roadV H day size x=false:=by unfold roadV; rw [ht]
  exact ⟨_,rfl,_,"tuple",t,_,rfl,hty,hk,_,rfl,iteT (iteT (q0 hw _ (Same.refl H)))⟩
 | some xs =>
  rw [ht] at hk
  have hwl:roadV H day size x=roadL H day size xs:=by unfold roadV; rw [ht]
  have dz:=dv.2 xs ht
  obtain ⟨r,rfl,er⟩:=qji9 ht
  refine ⟨_,rfl,_,"tuple",t,_,rfl,hty,hk,_,rfl,iteF ?_⟩
  refine ⟨_,rfl,r,xs,rfl,.inr (SqT.of er),rfl,_,rfl,?_⟩
  by_cases hl:xs.length=3
  ·obtain ⟨u,v,b,rfl⟩:=three hl
   refine iteN (by simp) ?_
   have eL:roadL H day size [u,v,b]=(numV size u && (numV size v && (qek9 H day b && posB H b))):=rfl
   rw [eL] at hwl
   refine ⟨_,rfl,_,rfl,r,_,_,_,rfl,rfl,SqT.of er,rfl,size,u,rfl,(dz u (by simp)).1,_,rfl,?_⟩
   cases hu:numV size u with
   | false=>exact iteT (iteT (q0 (by rw [hwl,hu]; rfl) _ (Same.refl H)))
   | true =>
    refine iteF ⟨_,rfl,_,rfl,r,_,_,_,rfl,rfl,SqT.of er,rfl,size,v,rfl,(dz v (by simp)).1,_,rfl,?_⟩
    cases hv:numV size v with
    | false=>exact iteT (q0 (by rw [hwl,hu,hv]; rfl) _ (Same.refl H))
    | true =>
     refine iteF ?_
     have db:=dz b (by simp)
     refine ⟨_,rfl,_,rfl,r,_,_,_,rfl,rfl,SqT.of er,rfl,day,b,rfl,db,fun H1 s1=>⟨_,rfl,?_⟩⟩
     cases hb:qek9 H day b with
     | false=>exact iteF (q0 (by rw [hwl,hu,hv,hb]; rfl) _ s1)
     | true =>
      refine iteT ?_
      rw [hwl,hu,hv,hb] at q
      simp only [Bool.true_and] at q
      unfold qek9 at hb
      split at hb
      ·rename_i ws hws
       obtain ⟨hlen,_⟩:=db.2 ws hws
       obtain ⟨p,rfl,ep⟩:=qit9 hws
       rw [List.all_eq_true] at hb
       have ep1:=s1 _ _ ep
       refine ⟨_,rfl,r,_,_,_,rfl,rfl,SqT.of (s1 _ _ er),rfl,p,rfl,⟨_,SqL.of ep1⟩,?_⟩
       refine qdz9 (K:=K) (a:=p) (xs:=ws) (fun D i H'=>Same H1 H'/\H' D=some (.lst ((ws.take i).map fun y=>V.bl (posW H y)))) (fun D hD=>⟨qan9 hD _,qaf9⟩) (fun D i H' _ _ h=>SqL.of (h.1 _ _ ep1)) ?_ ?_
       ·intro D i y H' hD hi z9;obtain ⟨s2,hD2⟩ := z9
        obtain ⟨r2,a,b,c,rfl,e2⟩:=qox9 (hb y (List.mem_of_getElem? hi))
        refine ⟨fun k v' e=>?_,?_⟩
        ·match k,e with
         | 0,e=>cases e
         | k+1,e=>cases e
        refine ⟨_,rfl,r2,_,_,_,rfl,rfl,SqT.of (s2 _ _ (s1 _ _ e2)),rfl,_,_,rfl,rfl,_,hD2,(by rw [List.length_map,List.length_take]; exact qgg9 (by omega)),fun b o eb=>?_,?_⟩
        ·rw [qaq9 (qbb9 eb hD)]
         exact s2 _ _ eb
        ·rw [qaf9,qet9 _ hi]
         simp [posW,tupV,e2]
       ·intro D H' hD z9;obtain ⟨s2,hD2⟩ := z9
        have eD:H' D=some (.lst ((ws.map (posW H)).map V.bl)):=by
         rw [hD2,List.take_length,List.map_map]
         rfl
        refine ⟨D,_,rfl,SqL.of eD,?_⟩
        have e1:(ws.map (posW H)).all id=ws.all (posW H):=by rw [List.all_map]; rfl
        rw [e1]
        have:=q H' (s1.trans s2)
        unfold posB at this
        rw [hws] at this
        exact this
      ·cases hb
  ·refine iteP (by simp; omega) (q0 ?_ _ (Same.refl H))
   rw [hwl]
   unfold roadL
   split
   ·rename_i e
    exact absurd rfl hl
   ·rfl
theorem ok_is_net (F:Fun K "is_net" "is_net" qeu9 f fd) (B:Bl mg) (Cc0:Callee P w K mg base n "is_whole" ["thing"] qez9) (Ck1:Callee P w K mg base n "is_road" ["day","size","thing"] spRoad):FnOk P w K mg base CX0 (n+1) f fd ["day","size","roads"] qnh9:=by
 refine F.okQ sc_is_net (fun vs H Q E h=>?_) (fun cdv A outer s H vs Q E hr h=>?_)
 ·obtain ⟨_,_,_,rfl,_⟩:=h
  rfl
 obtain ⟨day,size,x,rfl,ds,dv,q⟩:=h
 refine ⟨_,(qac9 (qs_if (QW.pt (qw_or (qee9 (qcq9 (qe_fn Cc0 hr rfl (qa_c (qv 1) qad9)))) (qw_or (qaj9 qcy9 (qv 1) qaa9 (qas9 _)) (qff9 (qee9 (qcq9 (qe_cb qfa9 rfl B.isinstance qaz9 (qa_c (qv 2) (qa_c (qhr9 (v:=.ty "list") rfl B.list_ qgo9 rfl) qad9))))))))) (qae9 (qax9 qe_bl)) qat9) (qae9 (qax9 (qe_cb (qgc9 rfl) rfl B.all bt_all (qa_c (qfc9 ["road","day","size"] [none,some 0,some 1] (BlkOk.of rfl rfl (SubL.to (subC rfl (subC rfl subN))) rfl) rfl (qdn9 (qv 2)) (fun _ _ _ _=>(qam9 (i:=0) (show (["road","day","size"]:List Str).Nodup by decide) rfl (Or.inl rfl))) (fun _ _ _ _=>(qe_fn Ck1 hr rfl (qa_c (qv 1) (qa_c (qv 2) (qa_c (qv 0) qad9)))))) qad9))))),?_⟩
 walk_at "d"
 refine ⟨_,rfl,size,rfl,ds,_,rfl,?_⟩
 cases hw:isWh size with
 | false =>
  have e:netV H day size x=false:=by
   unfold netV
   split
   ·cases hw
   ·rfl
  have q':=q H (Same.refl H)
  rw [e] at q'
  exact iteT (iteT q')
 | true =>
  obtain ⟨m,rfl⟩:=qha9 hw
  unfold netV at q
  dsimp only at q
  refine iteF ⟨_,rfl,_,_,rfl,rfl,_,rfl,ite2 (fun c=>?_) (fun c=>?_)⟩
  ·have c':m < 1:=of_decide_eq_true c
   have q':=q H (Same.refl H)
   rw [decide_eq_false (show ¬ 1<=m by omega)] at q'
   exact iteT q'
  have c':1<=m:=by
   have:¬ m < 1:=fun z=>c (decide_eq_true z)
   omega
  rw [decide_eq_true c',Bool.true_and] at q
  obtain ⟨t,hty,hk⟩:=dv.1.isLst (K:=K)
  cases ht:lstV H x with
  | none =>
   rw [ht] at hk q
   exact ⟨_,rfl,_,"list",t,_,rfl,hty,hk,_,rfl,iteT (q _ (Same.refl H))⟩
  | some xs =>
   rw [ht] at hk q
   obtain ⟨hlen,dz⟩:=dv.2 xs ht
   obtain ⟨p,rfl,ep⟩:=qit9 ht
   refine ⟨_,rfl,_,"list",t,_,rfl,hty,hk,_,rfl,iteF ?_⟩
   refine ⟨_,rfl,p,rfl,⟨_,SqL.of ep⟩,?_⟩
   refine qdz9 (K:=K) (a:=p) (xs:=xs) (fun D i H'=>Same H H'/\H' D=some (.lst ((xs.take i).map fun y=>V.bl (roadV H day m y)))) (fun D hD=>⟨qan9 hD _,qaf9⟩) (fun D i H' _ _ h=>SqL.of (h.1 _ _ ep)) ?_ ?_
   ·intro D i y H' hD hi z9;obtain ⟨s2,hD2⟩ := z9
    have d2:=dz y (List.mem_of_getElem? hi)
    refine ⟨fun k v' e=>?_,_,rfl,_,rfl,_,rfl,day,m,y,rfl,d2.same s2,fun H3 s3=>⟨_,s3 _ _ hD2,(by rw [List.length_map,List.length_take]; exact qgg9 (by omega)),fun b o eb=>?_,?_⟩⟩
    ·match k,e with
     | 0,e=>cases e
     | 1,e=>exact e
     | 2,e=>exact e
     | k+3,e=>cases e
    ·rw [qaq9 (qbb9 eb hD)]
     exact s3 _ _ (s2 _ _ eb)
    ·rw [qaf9,qet9 _ hi,d2.roadV_same s2]
   ·intro D H' hD z9;obtain ⟨s2,hD2⟩ := z9
    have eD:H' D=some (.lst ((xs.map (roadV H day m)).map V.bl)):=by
     rw [hD2,List.take_length,List.map_map]
     rfl
    refine ⟨D,_,rfl,SqL.of eD,?_⟩
    have e1:(xs.map (roadV H day m)).all id=xs.all (roadV H day m):=by rw [List.all_map]; rfl
    rw [e1]
    exact q H' s2
end
inductive Ew (H:Hp):Nat->V->Prop
 | non {n:Nat}:Ew H n .non
 | bl {n:Nat} (b:Bool):Ew H n (.bl b)
 | int {n:Nat} (i:Int):Ew H n (.int i)
 | str {n:Nat} (x:Str):Ew H n (.str x)
 | lst {n:Nat} {a:Addr} {xs:List V}:H a=some (.lst xs)->xs.length<=1000->(∀ y∈xs,Ew H n y)->Ew H (n+1) (.ref a)
 | tup {n:Nat} {a:Addr} {xs:List V}:H a=some (.tup xs)->(∀ y∈xs,Ew H n y)->Ew H (n+1) (.ref a)
theorem Ew.same {H H':Hp} (s:Same H H'):∀ {n:Nat} {x:V},Ew H n x->Ew H' n x:=by
 intro n x h
 induction h with
 | non=>exact .non
 | bl b=>exact .bl b
 | int i=>exact .int i
 | str x=>exact .str x
 | lst e l _ ih=>exact .lst (s _ _ e) l ih
 | tup e _ ih=>exact .tup (s _ _ e) ih
theorem Ew.dv {H:Hp} {n:Nat} {x:V} (h:Ew H n x):Dv H x:=by
 cases h with
 | non=>exact .non
 | bl b=>exact .bl b
 | int i=>exact .int i
 | str x=>exact .str x
 | lst e _ _=>exact .lst e
 | tup e _=>exact .tup e
theorem Ew.parts {H:Hp} {n:Nat} {x:V} {zs:List V} (h:Ew H (n+1) x) (e:tupV H x=some zs):∀ z∈zs,Ew H n z:=by
 obtain ⟨a,rfl,ea⟩:=qji9 e
 cases h with
 | lst e2 _ _=>rw [ea] at e2; cases e2
 | tup e2 p=>rw [ea] at e2; cases e2; exact p
theorem Ew.items {H:Hp} {n:Nat} {x:V} {zs:List V} (h:Ew H (n+1) x) (e:lstV H x=some zs):zs.length<=1000/\∀ z∈zs,Ew H n z:=by
 obtain ⟨a,rfl,ea⟩:=qit9 e
 cases h with
 | tup e2 _=>rw [ea] at e2; cases e2
 | lst e2 l p=>rw [ea] at e2; cases e2; exact ⟨l,p⟩
theorem Ew.d2 {H:Hp} {n:Nat} {x:V} (h:Ew H (n+1) x):Dv2 H x:=⟨h.dv,fun zs e z hz=>(h.parts e z hz).dv⟩
theorem Ew.d3 {H:Hp} {n:Nat} {x:V} (h:Ew H (n+2) x):Dv3 H x:=⟨h.dv,fun zs e=>⟨(h.items e).1,fun z hz=>((h.items e).2 z hz).d2⟩⟩
theorem Ew.dr {H:Hp} {n:Nat} {x:V} (h:Ew H (n+3) x):DvR H x:=⟨h.dv,fun zs e z hz=>(h.parts e z hz).d3⟩
theorem Ew.dn {H:Hp} {n:Nat} {x:V} (h:Ew H (n+4) x):DvN H x:=⟨h.dv,fun zs e=>⟨(h.items e).1,fun z hz=>((h.items e).2 z hz).dr⟩⟩
def hide (p:Addr) (H:Hp):Hp:=fun b=>if b=p then none else H b
theorem qdr9 {p b:Addr} {H:Hp} {o:HO} (e:H b=some o) (n:b ≠ p):hide p H b=some o:=by
 unfold hide
 rw [if_neg n]
 exact e
theorem qhk9 {p:Addr} {H:Hp}:Same (hide p H) H:=fun b o e=>by
 unfold hide at e
 split at e
 ·cases e
 ·exact e
def since (H H':Hp):Hp:=fun b=>match H b with
 | none=>H' b
 | some _=>none
theorem qfh9 {H H':Hp} {b:Addr} {o:HO} (h:H b=none) (e:H' b=some o):since H H' b=some o:=by
 unfold since
 rw [h]
 exact e
theorem qkb9 {H H':Hp} {b:Addr} {o:HO} (h:since H H' b=some o):H b=none/\H' b=some o:=by
 unfold since at h
 split at h
 ·rename_i e
  exact ⟨e,h⟩
 ·cases h
def Nw (H H':Hp) (n:Nat) (v:V):Prop:=Ew (since H H') n v
section
variable {H H1 H2:Hp} {n:Nat} {q:Addr} {xs:List V} {v:V}
theorem Nw.same (h:Nw H H1 n v) (s:Same H1 H2):Nw H H2 n v:=Ew.same (fun b o e=>qfh9 (qkb9 e).1 (s _ _ (qkb9 e).2)) h
theorem Nw.ew (h:Nw H H1 n v):Ew H1 n v:=Ew.same (fun b o e=>(qkb9 e).2) h
theorem Nw.int (i:Int):Nw H H1 n (.int i):=Ew.int i
theorem Nw.bl (b:Bool):Nw H H1 n (.bl b):=Ew.bl b
theorem Nw.non:Nw H H1 n .non:=Ew.non
end
theorem la_ew {H:Hp} {p b:Addr} {R:List T3} {zs:List V} (h:LA enc3 H b R) (hp:H p=some (.lst zs)) (nb:b ≠ p) (l:R.length<=1000):Ew (hide p H) 2 (.ref b):=by
 obtain ⟨vs,h1,h2,h3⟩:=h.lst
 refine .lst (qdr9 h1 nb) (by omega) fun y hy=>?_
 obtain ⟨i,hi⟩:=List.mem_iff_getElem?.mp hy
 obtain ⟨r,x,rfl,_,er⟩:=h3 i y hi
 refine .tup (qdr9 er fun z=>by rw [z,hp] at er; cases er) fun y hy=>?_
 simp only [enc3,List.mem_cons,List.not_mem_nil,or_false] at hy
 rcases hy with rfl | rfl | rfl <;> exact .int _
theorem qnj9 {xs:List V} {j:Int} (h0:0<=j) (h1:j < (xs.length:Int)):∃ v,atI xs j=some v/\v∈xs:=by
 obtain ⟨k,rfl⟩:=Int.eq_ofNat_of_zero_le h0
 have hk:k < xs.length:=by omega
 exact ⟨xs[k],qgr9 (List.getElem?_eq_getElem hk),List.getElem_mem hk⟩
theorem NA.item {H:Hp} {p:Addr} {N:List RdT} {vs:List V} {y:V} (h:NA H p N) (l:∀ m∈N,m.2.2.2.length<=1000) (e:H p=some (.lst vs)) (hy:y∈vs):Ew (hide p H) 3 y:=by
 obtain ⟨vs',h1,h2,h3⟩:=h.la.lst
 rw [h1] at e
 cases e
 obtain ⟨i,hi⟩:=List.mem_iff_getElem?.mp hy
 obtain ⟨r,x,rfl,ex,er⟩:=h3 i y hi
 obtain ⟨m,hm,rfl⟩:=List.mem_map.mp (List.mem_of_getElem? ex)
 refine .tup (qdr9 er fun z=>by rw [z,h1] at er; cases er) fun y hy=>?_
 simp only [encK,keyN,List.mem_cons,List.not_mem_nil,or_false] at hy
 rcases hy with rfl | rfl | rfl
 ·exact .int _
 ·exact .int _
 ·exact la_ew (h.bd m hm).1 h1 (h.bd m hm).2 (l m hm)
theorem NA.ew {H:Hp} {p:Addr} {N:List RdT} (h:NA H p N) (l:∀ m∈N,m.2.2.2.length<=1000) (l2:N.length<=1000):Ew H 4 (.ref p):=by
 obtain ⟨vs,h1,h2,_⟩:=h.la.lst
 exact .lst h1 (by rw [h2,List.length_map]; exact l2) fun y hy=>(h.item l h1 hy).same qhk9
def BA (H:Hp) (p:Addr) (Bs:List (List T3)):Prop:=∃ rs:List Addr,H p=some (.lst (rs.map V.ref))/\rs.length=Bs.length/\p ∉ rs/\rs.Nodup/\∀ (i:Nat) r B,rs[i]?=some r->Bs[i]?=some B->LA enc3 H r B
section
variable {H H':Hp} {p q:Addr} {Bs:List (List T3)} {d:Int}
theorem BA.nil (h:H p=some (.lst [])):BA H p []:=⟨[],h,rfl,by simp,List.nodup_nil,fun i r B e=>by simp at e⟩
theorem BA.u (h:BA H p Bs) (s:SameU H H'):BA H' p Bs:=by
 obtain ⟨rs,h1,h2,h3,h4,h5⟩:=h
 exact ⟨rs,s.lst h1,h2,h3,h4,fun i r B a b=>(h5 i r B a b).u s⟩
theorem BA.rd {K:W.Frag} (h:BA H p Bs):RdV K H (.ref p) (.list (Bs.map datB)):=by
 obtain ⟨rs,h1,h2,-,-,h5⟩:=h
 refine .lst (SqL.of h1) ?_
 clear h1
 induction rs generalizing Bs with
 | nil =>
  cases Bs with
  | nil=>exact .nil
  | cons B Bs=>simp at h2
 | cons r rs ih =>
  cases Bs with
  | nil=>simp at h2
  | cons B Bs=>exact .cons (rd3 (h5 0 r B rfl rfl)) (ih (Bs:=Bs) (by simpa using h2) fun i r B a b=>h5 (i+1) r B a b)
theorem BA.snoc {r:Addr} {rs:List Addr} {B:List T3} (h:BA H p Bs) (hx:H p=some (.lst (rs.map V.ref))) (hr:LA enc3 H r B) (n1:r ≠ p) (n2:r ∉ rs):BA (upd H p (.lst (rs.map V.ref ++ [.ref r]))) p (Bs ++ [B]):=by
 obtain ⟨rs',h1,h2,h3,h4,h5⟩:=h
 rw [hx] at h1
 have e:rs=rs':=by
  have:rs.map V.ref=rs'.map V.ref:=by
   injection h1 with h1
   injection h1
  exact (List.map_inj_right fun a b z=>by cases z; rfl).mp this
 subst e
 refine ⟨rs ++ [r],by rw [qaf9]; simp,by simp [h2],by simp [h3,Ne.symm n1],?_,fun i r' B' a b=>?_⟩
 ·rw [List.nodup_append]
  exact ⟨h4,by simp,fun a ha b hb=>by rw [List.mem_singleton] at hb; subst hb; exact fun z=>n2 (z ▸ ha)⟩
 ·rcases Nat.lt_or_ge i rs.length with z | z
  ·rw [List.getElem?_append_left z] at a
   rw [List.getElem?_append_left (by omega)] at b
   exact qce9 (h5 i r' B' a b) hx fun z=>h3 (z ▸ List.mem_of_getElem? a)
  ·obtain ⟨lt,_⟩:=List.getElem?_eq_some_iff.mp a
   have ei:i=rs.length:=by simp at lt; omega
   subst ei
   rw [List.getElem?_append_right (Nat.le_refl _),Nat.sub_self] at a
   rw [List.getElem?_append_right (by omega),show rs.length - Bs.length=0 by omega] at b
   cases a
   cases b
   exact qce9 hr hx n1
end
def Yg (H H':Hp) (p:Addr):Prop:=∀ rs:List Addr,H' p=some (.lst (rs.map V.ref))->∀ r∈rs,H r=none
theorem qhp9 {rs rs':List Addr} (h:(HO.lst (rs.map V.ref))=.lst (rs'.map V.ref)):rs=rs':=by
 injection h with h
 exact (List.map_inj_right fun a b z=>by cases z; rfl).mp h
theorem Yg.of {H H':Hp} {p:Addr} {rs:List Addr} (e:H' p=some (.lst (rs.map V.ref))) (h:∀ r∈rs,H r=none):Yg H H' p:=fun rs' e'=>by
 rw [e] at e'
 rw [<- qhp9 (Option.some.inj e')]
 exact h
theorem Ma.bt_still {d:Int} (hd:0 < d) (t:Int):Ma.bt d [(0,d - 1,0)] t=some t:=by
 have h:=Ma.bt_snoc d [] (0,d - 1,0) t
 rw [List.nil_append,Ma.bt_nil] at h
 rw [h]
 unfold Ma.btS
 dsimp only
 rw [Ma.nextO_eq d 0 (d - 1) t (by omega)]
 have m:=qeb9 t hd
 rw [if_neg (by omega),if_neg (by omega),Int.add_zero]
theorem Ma.ck_still {d:Int} (hd:0 < d):Ma.CK d [(0,d - 1,0)]:=Ma.ck_one hd ⟨Int.le_refl _,by show 0<=d - 1; omega,by show d - 1 < d; omega,Int.le_refl _⟩
theorem LA.one {H:Hp} {p r:Addr} {x:T3} (h:H p=some (.lst [.ref r])) (e:H r=some (.tup (enc3 x))):LA enc3 H p [x]:=LA.of h rfl fun i y hi=>by
 match i,hi with
 | 0,hi=>cases hi; exact ⟨r,rfl,fun z hz=>by cases hz; exact e⟩
 | k+1,hi=>simp at hi
theorem qeh9 {α:Type} {L:List α} {i:Nat} {x:α} (h:L[i]?=some x):L.take (i+1)=L.take i ++ [x]:=by rw [List.take_succ,h]; rfl
abbrev Tb:=List (List T3)
def cl (Cs:Tb) (p:Int):List T3:=Cs.getD p.toNat []
def ways (d:Int) (F:List RdT) (Cs:Tb) (p t:Int) (o:Option Int):Option Int:=F.foldl (fun acc m=>if m.1=p then Ma.omin acc (Ma.obind (Ma.bt d m.2.2.2) (Ma.bt d (cl Cs m.2.1)) t) else acc) o
def stepT (d:Int) (F:List RdT) (Cs:Tb) (p t:Int):Option Int:=ways d F Cs p t (Ma.bt d (cl Cs p) t)
theorem ways_snoc {d:Int} {F:List RdT} {m:RdT} {Cs:Tb} {p t:Int} {o:Option Int}:ways d (F ++ [m]) Cs p t o=if m.1=p then Ma.omin (ways d F Cs p t o) (Ma.obind (Ma.bt d m.2.2.2) (Ma.bt d (cl Cs m.2.1)) t) else ways d F Cs p t o:=by simp [ways]
def stay (d:Int) (n:Nat) (p:Int):Tb:=(List.range n).map fun (i:Nat)=>if (i:Int)=p then [(0,d - 1,0)] else []
theorem cl_at {Cs:Tb} {p:Int} (h0:0<=p) (h1:p < (Cs.length:Int)):Cs[p.toNat]?=some (cl Cs p):=by
 unfold cl
 rw [List.getD_eq_getElem?_getD,List.getElem?_eq_getElem (by omega)]
 rfl
theorem qjj9 {Cs:Tb} {p:Int} (h0:0<=p) (h1:p < (Cs.length:Int)):cl Cs p∈Cs:=List.mem_of_getElem? (cl_at h0 h1)
theorem cl_set {Cs:Tb} {p q:Int} {R:List T3} (h0:0<=p) (h1:p < (Cs.length:Int)) (g0:0<=q) (g1:q < (Cs.length:Int)):cl (Cs.set q.toNat R) p=if q=p then R else cl Cs p:=by
 unfold cl
 rw [List.getD_eq_getElem?_getD,List.getD_eq_getElem?_getD,List.getElem?_set]
 by_cases e:q=p
 ·subst e
  rw [if_pos rfl,if_pos rfl,if_pos (by omega)]
  rfl
 ·rw [if_neg e,if_neg (by omega)]
theorem qmj9 {d:Int} {n:Nat} {p q:Int} (h0:0<=q) (h1:q < (n:Int)):cl (stay d n p) q=if q=p then [(0,d - 1,0)] else []:=by
 unfold cl stay
 rw [List.getD_eq_getElem?_getD,List.getElem?_map,List.getElem?_range (by omega)]
 show (if ((q.toNat:Nat):Int)=p then _ else _)=_
 rw [show ((q.toNat:Nat):Int)=q by omega]
def TOk (d:Int) (M:Nat) (Cs:Tb):Prop:=∀ C∈Cs,Ma.MuR d C M
def FOk (d size:Int) (m:Nat) (F:List RdT):Prop:=∀ f∈F,(0<=f.1/\f.1 < size)/\(0<=f.2.1/\f.2.1 < size)/\Ma.MuR d f.2.2.2 m
theorem TOk.le {d:Int} {M M':Nat} {Cs:Tb} (h:TOk d M Cs) (l:M<=M'):TOk d M' Cs:=fun C hC=>(h C hC).le l
def mxT (f m:Nat):Nat->Nat
 | 0=>2
 | k+1=>mxT f m k+f * (m+mxT f m k)
structure NetOk (d size:Int) (N:List RdT):Prop where
 all:∀ m∈N,(0<=m.1/\m.1 < size)/\(0<=m.2.1/\m.2.1 < size)/\m.2.2.2.length<=100/\∀ w∈m.2.2.2,0<=w.1/\w.1<=w.2.1/\w.2.1 < d/\1<=w.2.2
def Fords (d:Int) (N F:List RdT):Prop:=F.length=N.length/\∀ (i:Nat) m f,N[i]?=some m->F[i]?=some f->f.1=m.1/\f.2.1=m.2.1/\Ma.CK d f.2.2.2/\f.2.2.2.length<=2 * m.2.2.2.length+1/\∀ t,Ma.bt d f.2.2.2 t=Ma.bt d m.2.2.2 t
theorem NetOk.wins {d size:Int} {N:List RdT} (h:NetOk d size N) {m:RdT} (hm:m∈N):Ma.Wins d m.2.2.2:=fun w hw=>by
 obtain ⟨a,b,c,e⟩:=(h.all m hm).2.2.2 w hw
 exact ⟨a,b,c,by omega⟩
theorem Fords.ok {d size:Int} {N F:List RdT} {m:Nat} (h:Fords d N F) (hN:NetOk d size N) (l:∀ x∈N,4 * x.2.2.2.length+2<=m):FOk d size m F:=fun f hf=>by
 obtain ⟨i,hi⟩:=List.getElem?_of_mem hf
 have lt:=(List.getElem?_eq_some_iff.mp hi).1
 have hx:=List.getElem?_eq_getElem (show i < N.length by rw [<- h.1]; exact lt)
 obtain ⟨e1,e2,ck,ln,_⟩:=h.2 i _ f hx hi
 have hm:=List.mem_of_getElem? hx
 have:=hN.all _ hm
 have:=l _ hm
 exact ⟨by rw [e1]; exact (hN.all _ hm).1,by rw [e2]; exact (hN.all _ hm).2.1,ck,fun z=>(Ma.mu_of ck (Ma.tells_bf z)).le (by omega)⟩
structure FA (H:Hp) (p:Addr) (F:List RdT):Prop where
 la:LA encK H p (F.map keyN)
 bd:∀ m∈F,LA enc3 H m.2.2.1 m.2.2.2
theorem FA.u {H H':Hp} {p:Addr} {F:List RdT} (h:FA H p F) (s:SameU H H'):FA H' p F:=⟨h.la.u s,fun m hm=>(h.bd m hm).u s⟩
theorem NA.u {H H':Hp} {p:Addr} {N:List RdT} (h:NA H p N) (s:SameU H H'):NA H' p N:=⟨h.la.u s,fun m hm=>⟨(h.bd m hm).1.u s,(h.bd m hm).2⟩,h.nd⟩
theorem NA.net {H:Hp} {p:Addr} {N:List RdT} {d size:Int} (h:NA H p N) (hN:NetOk d size N) (h1:1<=size):netV H d (.int size) (.ref p)=true:=by
 obtain ⟨vs,e1,e2,e3⟩:=h.la.lst
 unfold netV
 rw [qln9 e1]
 simp only [Bool.and_eq_true,decide_eq_true_eq]
 refine ⟨h1,List.all_eq_true.mpr fun y hy=>?_⟩
 obtain ⟨i,hi⟩:=List.mem_iff_getElem?.mp hy
 obtain ⟨r,x,rfl,ex,er⟩:=e3 i y hi
 obtain ⟨m,hm,rfl⟩:=List.mem_map.mp (List.mem_of_getElem? ex)
 obtain ⟨⟨a1,a2⟩,⟨b1,b2⟩,_,w⟩:=hN.all m hm
 unfold roadV
 rw [qpv9 er]
 have hb:=(h.bd m hm).1
 have hB:=qot9 hb (hN.wins hm)
 show (numV size (.int m.1) && (numV size (.int m.2.1) && (qek9 H d (.ref m.2.2.1) && posB H (.ref m.2.2.1))))=true
 rw [hB]
 simp only [numV,Bool.and_eq_true,decide_eq_true_eq]
 refine ⟨⟨a1,a2⟩,⟨b1,b2⟩,trivial,?_⟩
 obtain ⟨us,u1,u2,u3⟩:=hb.lst
 unfold posB
 rw [qln9 u1]
 refine List.all_eq_true.mpr fun y hy=>?_
 obtain ⟨i,hi⟩:=List.mem_iff_getElem?.mp hy
 obtain ⟨r,x,rfl,ex,er⟩:=u3 i y hi
 unfold posW
 rw [qpv9 er]
 have:=(w x (List.mem_of_getElem? ex)).2.2.2
 simp only [enc3,decide_eq_true_eq]
 omega
theorem BA.at {H:Hp} {p:Addr} {Cs:Tb} {i:Int} (h:BA H p Cs) (h0:0<=i) (h1:i < (Cs.length:Int)):∃ (rs:List Addr) (r:Addr),H p=some (.lst (rs.map V.ref))/\atI (rs.map V.ref) i=some (.ref r)/\rs[i.toNat]?=some r/\rs.length=Cs.length/\LA enc3 H r (cl Cs i):=by
 obtain ⟨rs,e1,e2,e3,e4,e5⟩:=h
 have hr:rs[i.toNat]?=some (rs[i.toNat]'(by omega)):=List.getElem?_eq_getElem (by omega)
 refine ⟨rs,_,e1,?_,hr,e2,e5 _ _ _ hr (cl_at h0 h1)⟩
 have:=qgr9 (j:=i.toNat) (v:=V.ref (rs[i.toNat]'(by omega))) (xs:=rs.map V.ref) (by rw [List.getElem?_map,hr]; rfl)
 rw [show ((i.toNat:Nat):Int)=i by omega] at this
 exact this
theorem ixN_pos {n:Nat} {i:Int} (h0:0<=i) (h1:i < (n:Int)):ixN n i=some i.toNat:=by
 unfold ixN
 rw [if_pos h0,if_pos h1]
theorem BA.set {H:Hp} {p r:Addr} {Cs:Tb} {rs:List Addr} {i:Nat} {R:List T3} (h:BA H p Cs) (hx:H p=some (.lst (rs.map V.ref))) (hr:LA enc3 H r R) (n1:r ≠ p) (n2:r ∉ rs) (hi:i < Cs.length):BA (upd H p (.lst ((rs.map V.ref).set i (.ref r)))) p (Cs.set i R):=by
 obtain ⟨rs',e1,e2,e3,e4,e5⟩:=h
 rw [hx] at e1
 have e:=qhp9 (Option.some.inj e1)
 subst e
 have ms:(rs.map V.ref).set i (.ref r)=(rs.set i r).map V.ref:=by rw [List.map_set]
 refine ⟨rs.set i r,by rw [qaf9,ms],by simp [e2],fun z=>?_,?_,fun j r' B a b=>?_⟩
 ·rcases List.mem_or_eq_of_mem_set z with z | z
  ·exact e3 z
  ·exact n1 z.symm
 ·rw [List.nodup_iff_pairwise_ne,List.pairwise_iff_getElem]
  intro a b ha hb hab
  rw [List.getElem_set,List.getElem_set]
  have ha':a < rs.length:=by simpa using ha
  have hb':b < rs.length:=by simpa using hb
  by_cases z1:i=a
  ·rw [if_pos z1,if_neg (by omega)]
   exact fun z=>n2 (z ▸ List.getElem_mem hb')
  ·rw [if_neg z1]
   by_cases z2:i=b
   ·rw [if_pos z2]
    exact fun z=>n2 (z ▸ List.getElem_mem ha')
   ·rw [if_neg z2]
    intro z
    have:=(List.getElem_inj e4).mp z
    omega
 ·rw [List.getElem?_set] at a b
  by_cases z:i=j
  ·rw [if_pos z,if_pos (by omega)] at a b
   cases a
   cases b
   exact qce9 hr hx n1
  ·rw [if_neg z] at a b
   exact qce9 (e5 j r' B a b) hx fun z=>e3 (z ▸ List.mem_of_getElem? a)
theorem comp_copy {K:W.Frag} {H:Hp} {p:Addr} {Cs:Tb} {σ:L2.St} {Q:VK} (hB:BA H p Cs) (hl:Cs.length<=1000) (q:∀ (l:Addr) (H':Hp),Same H H'->H l=none->BA H' l Cs->Yg H H' l->Q (.ref l) H') :
  cBody [none] (gName 0) tTrue (tCB (fun xs H Q=>∃ p ys,xs=[V.ref p]/\(SqL K H p ys\/SqT K H p ys)/\∀ l,H l=none->Q (V.ref l) (upd H l (.lst ys))) (tCons (tVar 0) tNil)) σ Q (Itl K p) H:=by
 obtain ⟨rs,h1,h2,h3,h4,h5⟩:=id hB
 have hrl:(rs.map V.ref).length=Cs.length:=by simp [h2]
 refine qdz9 (K:=K) (a:=p) (xs:=rs.map V.ref) (fun D i H'=>Same H H'/\BA H' D (Cs.take i)/\Yg H H' D) (fun D hD=>⟨qan9 hD _,BA.nil qaf9,Yg.of (rs:=[]) qaf9 (fun r hr=>by cases hr)⟩) (fun D i H' _ _ h=>SqL.of (h.1 _ _ h1)) ?_ ?_
 ·intro D i y H' hD hi z9;obtain ⟨sD,hB',hY⟩ := z9
  have hil:i < rs.length:=by
   have:=(List.getElem?_eq_some_iff.mp hi).1
   simpa using this
  have hr':rs[i]?=some rs[i]:=List.getElem?_eq_getElem hil
  have ey:y=.ref rs[i]:=by
   rw [List.getElem?_map,hr'] at hi
   exact (Option.some.inj hi).symm
  subst ey
  have hb:Cs[i]?=some (Cs[i]'(by omega)):=List.getElem?_eq_getElem (by omega)
  have la:=(h5 i _ _ hr' hb).same sD
  generalize Cs[i]'(by omega)=C at hb la
  generalize rs[i]=rc at la
  obtain ⟨us,hu1,hu2,hu3⟩:=la.lst
  refine ⟨fun k v e=>?_,?_⟩
  ·match k,e with
   | 0,e=>cases e
   | k+1,e=>cases e
  refine ⟨_,rfl,rc,_,rfl,.inl (SqL.of hu1),fun l hl'=>?_⟩
  have hl0:=hl'
  have s1:=qan9 hl' (.lst us)
  have hc:=la.copy s1 hu1 qaf9
  generalize upd H' l (.lst us)=H1 at *
  obtain ⟨os,o1,o2,o3,o4,o5⟩:=id hB'
  have hol:os.length=i:=by rw [o2,List.length_take]; omega
  have nlD:l ≠ D:=fun z=>by rw [z,o1] at hl0; cases hl0
  have nlo:l ∉ os:=fun z=>by
   obtain ⟨j,hj⟩:=List.getElem?_of_mem z
   have lj:=(List.getElem?_eq_some_iff.mp hj).1
   exact la_ne (enc':=enc3) (o5 j l _ hj (List.getElem?_eq_getElem (by omega))) hl0 rfl
  refine ⟨_,s1 _ _ o1,qbo9 (by simp; omega),qcs9 hD (sD.trans s1),?_,Yg.of (rs:=os ++ [l]) (by rw [qaf9]; simp) fun r hr=>?_⟩
  ·rw [qeh9 hb]
   exact (hB'.u (SameU.of s1)).snoc (s1 _ _ o1) hc nlD nlo
  ·rcases List.mem_append.mp hr with hr | hr
   ·exact hY os o1 r hr
   ·rw [List.mem_singleton] at hr
    subst hr
    exact sD.free hl0
 ·intro D H' hD z9;obtain ⟨sD,hB',hY⟩ := z9
  rw [hrl,List.take_length] at hB'
  exact q D H' sD hD hB' hY
def qio9:Sp:=fun vs H Q _=>∃ (d size:Int) (p:Addr) (N:List RdT),vs=[.int d,.int size,.ref p]/\NA H p N/\N.length<=1000/\NetOk d size N/\1<=size/\∀ H',Same H H'->Q .non H'
def qeo9:Sp:=fun vs H Q _=>∃ size p:Int,vs=[.int size,.int p]/\0<=p/\p < size/\Q .non H
def qls9:Sp:=fun vs H Q _=>∃ (d size:Int) (p:Addr) (N:List RdT),vs=[.int d,.ref p]/\NA H p N/\N.length<=1000/\0 < d/\NetOk d size N/\∀ (l:Addr) (F:List RdT) (H':Hp),Same H H'->FA H' l F->Fords d N F->Q (.ref l) H'
def spStand:Sp:=fun vs H Q _=>∃ day:Int,vs=[.int day]/\∀ (l:Addr) (H':Hp),Same H H'->H l=none->LA enc3 H' l [(0,day - 1,0)]->Q (.ref l) H'
def qea9:Sp:=fun vs H Q _=>∃ (d:Int) (n:Nat) (p:Int),vs=[.int d,.int n,.int p]/\n<=1000/\∀ (l:Addr) (H':Hp),Same H H'->H l=none->BA H' l (stay d n p)->Yg H H' l->Q (.ref l) H'
def qec9:Sp:=fun vs H Q _=>∃ (p:Addr) (Cs:Tb),vs=[.ref p]/\BA H p Cs/\Cs.length<=1000/\∀ (l:Addr) (H':Hp),Same H H'->H l=none->BA H' l Cs->Yg H H' l->Q (.ref l) H'
def spRide (T:Hp->Prop) (stp:Int->List RdT->Tb->Int->Int->Option Int):Sp:=fun vs H Q _=>∃ (d:Int) (pF:Addr) (F:List RdT) (pt:Addr) (Cs:Tb) (M m:Nat),vs=[.int d,.ref pF,.ref pt]/\FA H pF F/\BA H pt Cs/\T H/\FOk d Cs.length m F/\TOk d M Cs/\M+F.length * (m+M)<=1000000/\(2 * (m+1)+2) * (2 * (M+1)+2)<=16000000/\Cs.length<=1000 /\
 ∀ (l:Addr) (Ds:Tb) (H':Hp),SameU H H'->T H'->H l=none->BA H' l Ds->Yg H H' l->Ds.length=Cs.length->TOk d (M+F.length * (m+M)) Ds->(∀ p,0<=p->p < (Cs.length:Int)->∀ t,Ma.bt d (cl Ds p) t=stp d F Cs p t)->Q (.ref l) H'
section
variable {P:Program} {w:World} {K:W.Frag} {mg:Str->Option Value} {base:Heap} {f:Addr} {fd:FuncData} {n:Nat} {T:Hp->Prop}
theorem qhn9 (F:Fun K "need_net" "need_net" qcj9 f fd) (Cp0:Callee P w K mg base n "is_net" ["day","size","roads"] qnh9):FnOk P w K mg base CX0 (n+1) f fd ["day","size","roads"] qio9:=by
 refine F.okQ qhs9 (fun vs H Q E h=>?_) (fun cdv A outer s H vs Q E hr h=>?_)
 ·obtain ⟨_,_,_,_,rfl,_⟩:=h
  rfl
 obtain ⟨d,size,p,N,rfl,hN,nl,ok,h1,q⟩:=h
 refine ⟨_,(qae9 (qs_if (qee9 (qcq9 (qe_fn Cp0 hr rfl (qa_c (qv 0) (qa_c (qv 1) (qa_c (qv 2) qad9)))))) (qae9 qgu9) qat9)),?_⟩
 walk_at "d"
 have ew:=hN.ew (fun m hm=>by have:=(ok.all m hm).2.2.1; omega) nl
 refine ⟨_,rfl,_,rfl,_,rfl,d,.int size,.ref p,rfl,.int _,Ew.dn (n:=0) ew,fun H1 s1=>?_⟩
 rw [hN.net ok h1]
 exact ⟨_,rfl,iteF (q H1 s1)⟩
theorem qfz9 (F:Fun K "need_place" "need_place" qbs9 f fd) (Cb0:Callee P w K mg base n "is_number" ["count","thing"] qfk9):FnOk P w K mg base CX0 (n+1) f fd ["size","thing"] qeo9:=by
 refine F.okQ qga9 (fun vs H Q E h=>?_) (fun cdv A outer s H vs Q E hr h=>?_)
 ·obtain ⟨_,_,rfl,_⟩:=h
  rfl
 obtain ⟨size,p,rfl,h0,h1,q⟩:=h
 refine ⟨_,(qae9 (qs_if (qee9 (qcq9 (qe_fn Cb0 hr rfl (qa_c (qv 0) (qa_c (qv 1) qad9))))) (qae9 qgu9) qat9)),?_⟩
 walk_at "d"
 refine ⟨_,rfl,_,rfl,size,.int p,rfl,.int _,?_⟩
 have e:numV size (.int p)=true:=by simp [numV,h0,h1]
 rw [e]
 exact ⟨_,rfl,iteF q⟩
theorem ok_stand (F:Fun K "standing" "standing" qdi9 f fd):FnOk P w K mg base CX0 (n+1) f fd ["day"] spStand:=by
 refine F.okQ qmy9 (fun vs H Q E h=>?_) (fun cdv A outer s H vs Q E hr h=>?_)
 ·obtain ⟨_,rfl,_⟩:=h
  rfl
 obtain ⟨day,rfl,q⟩:=h
 refine ⟨_,(qae9 (qax9 (qbj9 (qa_c (qbn9 (qa_c qaa9 (qa_c (qe_op qcr9 (qv 0) qaa9) (qa_c qaa9 qad9)))) qad9)))),?_⟩
 walk_at "d"
 refine ⟨_,rfl,_,_,rfl,rfl,(by show 3<=sizeLine; decide),fun r1 hr1=>?_⟩
 generalize hgH1:upd _ r1 _=H1
 revert H1
 refine qar9 hr1 fun H1 s1 e1=>?_
 refine ⟨(by show 1<=sizeLine; decide),fun pl hpl=>?_⟩
 generalize hgH2:upd _ pl _=H2
 revert H2
 refine qar9 hpl fun H2 s2 e2=>?_
 exact q pl H2 (s1.trans s2) (s1.free hpl) (LA.one e2 (s2 _ _ e1))
theorem qmm9 (F:Fun K "fords_of" "fords_of" qdj9 f fd) (Cd1:Callee P w K mg base n "clock_of" ["day","board"] qmh9):FnOk P w K mg base CX0 (n+1) f fd ["day","roads"] qls9:=by
 refine F.okQ qmq9 (fun vs H Q E h=>?_) (fun cdv A outer s H vs Q E hr h=>?_)
 ·obtain ⟨_,_,_,_,rfl,_⟩:=h
  rfl
 obtain ⟨d,size,pr,N,rfl,hN,nl,hd,ok,q⟩:=h
 refine ⟨_,(qae9 (qax9 (qfc9 ["start","end","board","day"] [none,none,none,some 0] (BlkOk.of rfl rfl (SubL.to (subC rfl subN)) rfl) rfl (qdn9 (qv 1)) (fun _ _ _ _=>(qnz9 (n:=3) K rfl rfl (qal9 (qam9 (i:=0) (show (["start","end","board","day"]:List Str).Nodup by decide) rfl (Or.inl rfl)) (qal9 (qam9 (i:=1) (show (["start","end","board","day"]:List Str).Nodup by decide) rfl (Or.inl rfl)) (qal9 (qam9 (i:=2) (show (["start","end","board","day"]:List Str).Nodup by decide) rfl (Or.inl rfl)) qdo9))))) (fun _ _ _ _=>(qbn9 (qa_c (qv 0) (qa_c (qv 1) (qa_c (qe_fn Cd1 hr rfl (qa_c (qv 3) (qa_c (qv 2) qad9))) qad9)))))))),?_⟩
 walk_at "d"
 obtain ⟨ws,hw1,hw2,hw3⟩:=hN.la.lst
 rw [List.length_map] at hw2
 refine ⟨_,rfl,pr,rfl,⟨_,SqL.of hw1⟩,?_⟩
 refine qdz9 (K:=K) (a:=pr) (xs:=ws) (fun D i H'=>Same H H'/\∃ F,FA H' D F/\(∀ m∈F,m.2.2.1 ≠ D)/\Fords d (N.take i) F) (fun D hD=>⟨qan9 hD _,[],⟨LA.nil qaf9,fun m hm=>by cases hm⟩,(fun m hm=>by cases hm),by simp,fun i m f a b=>by simp at b⟩) (fun D i H' _ _ h=>SqL.of (h.1 _ _ hw1)) ?_ ?_
 ·intro D i y H' hD hi z9;obtain ⟨sD,F,hF,hne,fo⟩ := z9
  obtain ⟨r,x,rfl,ex,er⟩:=hw3 i y hi
  have hi2:i < N.length:=by
   have:=(List.getElem?_eq_some_iff.mp hi).1
   omega
  have em:=List.getElem?_eq_getElem hi2
  rw [List.getElem?_map,em] at ex
  cases ex
  have hm:=List.getElem_mem hi2
  have hb:=(hN.bd _ hm).1
  generalize N[i]=m at *
  refine ⟨r,_,rfl,SqT.of (sD _ _ er),rfl,_,_,rfl,_,_,rfl,_,_,rfl,rfl,fun k v e=>?_,?_⟩
  ·match k,e with
   | 0,e=>cases e
   | 1,e=>cases e
   | 2,e=>cases e
   | 3,e=>exact e
   | k+4,e=>cases e
  have lb:=(ok.all m hm).2.2.1
  refine ⟨_,rfl,_,rfl,_,rfl,_,rfl,d,m.2.2.1,m.2.2.2,rfl,hb.same sD,by omega,hd,ok.wins hm,fun l R' H1 s1 f1 la1 l1 ck1 e1=>?_⟩
  refine ⟨(by show 3<=sizeLine; decide),fun rr hrr=>?_⟩
  generalize hgH2:upd _ rr _=H2
  revert H2
  refine qar9 hrr fun H2 s2 e2=>?_
  have s12:=s1.trans s2
  obtain ⟨vs,hv1,hv2,_⟩:=(hF.u (SameU.of s12)).la.lst
  have ml:F.length=i:=by rw [fo.1,List.length_take]; omega
  rw [List.length_map] at hv2
  have nlD:l ≠ D:=fun z=>by
   obtain ⟨us,u1,_⟩:=hF.la.lst
   rw [z,u1] at f1
   cases f1
  refine ⟨_,hv1,qbo9 (by omega),qcs9 hD (sD.trans s12),F ++ [(m.1,m.2.1,l,R')],⟨?_,fun x hx=>?_⟩,fun x hx=>?_,?_,fun j a b ha hb'=>?_⟩
  ·rw [List.map_append]
   exact (hF.u (SameU.of s12)).la.append (x:=(m.1,m.2.1,l)) hv1 e2
  ·rcases List.mem_append.mp hx with hx | hx
   ·exact qce9 ((hF.u (SameU.of s12)).bd x hx) hv1 (hne x hx)
   ·rw [List.mem_singleton] at hx
    subst hx
    exact qce9 (la1.same s2) hv1 nlD
  ·rcases List.mem_append.mp hx with hx | hx
   ·exact hne x hx
   ·rw [List.mem_singleton] at hx
    subst hx
    exact nlD
  ·rw [List.length_append,ml,List.length_take]
   simp
   omega
  ·rw [qeh9 em] at ha
   rcases Nat.lt_or_ge j i with z | z
   ·rw [List.getElem?_append_left (by simp; omega)] at ha
    rw [List.getElem?_append_left (by omega)] at hb'
    exact fo.2 j a b ha hb'
   ·have:=(List.getElem?_eq_some_iff.mp hb').1
    simp at this
    have ej:j=i:=by omega
    subst ej
    rw [List.getElem?_append_right (by simp; omega),List.length_take,show j - min j N.length=0 by omega] at ha
    rw [List.getElem?_append_right (by omega),ml,Nat.sub_self] at hb'
    cases ha
    cases hb'
    exact ⟨rfl,rfl,ck1,l1,e1⟩
 ·intro D H' hD z9;obtain ⟨sD,F,hF,hne,fo⟩ := z9
  rw [hw2,List.take_length] at fo
  exact q D F H' sD hF fo
theorem ok_copied (F:Fun K "copied_table" "copied_table" qbw9 f fd) (B:Bl mg):FnOk P w K mg base CX0 (n+1) f fd ["told"] qec9:=by
 refine F.okQ qhf9 (fun vs H Q E h=>?_) (fun cdv A outer s H vs Q E hr h=>?_)
 ·obtain ⟨_,_,rfl,_⟩:=h
  rfl
 obtain ⟨p,Cs,rfl,hB,hl,q⟩:=h
 refine ⟨_,(qae9 (qax9 (qfc9 ["clock"] [none] (BlkOk.of rfl rfl (SubL.to subN) rfl) rfl (qdn9 (qv 0)) (fun _ _ _ _=>(qam9 (i:=0) (show (["clock"]:List Str).Nodup by decide) rfl (Or.inl rfl))) (fun _ _ _ _=>(qe_ct (qhy9 K rfl) rfl B.list_ qgo9 (qa_c (qv 0) qad9)))))),?_⟩
 walk_at "d"
 obtain ⟨rs,h1,h2,h3,h4,h5⟩:=id hB
 refine ⟨_,rfl,p,rfl,⟨_,SqL.of h1⟩,?_⟩
 exact comp_copy hB hl q
theorem qqg9 (F:Fun K "staying" "staying" qdv9 f fd) (B:Bl mg) (Ce1:Callee P w K mg base n "standing" ["day"] spStand):FnOk P w K mg base CX0 (n+1) f fd ["day","size","place"] qea9:=by
 refine F.okQ qph9 (fun vs H Q E h=>?_) (fun cdv A outer s H vs Q E hr h=>?_)
 ·obtain ⟨_,_,_,rfl,_⟩:=h
  rfl
 obtain ⟨d,m,p,rfl,ml,q⟩:=h
 refine ⟨_,(qae9 (qax9 (qfc9 ["number","day","place"] [none,some 0,some 2] (BlkOk.of rfl rfl (SubL.to (subC rfl (subC rfl subN))) rfl) rfl (qfb9 rfl B.range (qa_c (qv 1) qad9)) (fun _ _ _ _=>(qam9 (i:=0) (show (["number","day","place"]:List Str).Nodup by decide) rfl (Or.inl rfl))) (fun _ _ _ _=>(qkj9 (qel9 (qaj9 qcb9 (qv 0) (qv 2) (qas9 _)) (qe_fn Ce1 hr rfl (qa_c (qv 1) qad9)) (qbj9 qad9))))))),?_⟩
 walk_at "d"
 refine ⟨_,rfl,(m:Int),rfl,by omega,by omega,?_⟩
 have mt:((m:Nat):Int).toNat=m:=by omega
 refine qhw9 (lo:=0) (n:=((m:Nat):Int).toNat) (fun D i H'=>Same H H'/\BA H' D (stay d i p)/\Yg H H' D) (fun D hD=>⟨qan9 hD _,BA.nil qaf9,Yg.of (rs:=[]) qaf9 (fun r hr=>by cases hr)⟩) ?_ ?_
 ·intro D i H' hD hi z9;obtain ⟨sD,hB,hY⟩ := z9
  refine ⟨fun k v e=>?_,?_⟩
  ·match k,e with
   | 0,e=>cases e
   | 1,e=>exact e
   | 2,e=>exact e
   | k+3,e=>cases e
  have fin:∀ (l:Addr) (C:List T3) (H1:Hp),Same H' H1->H' l=none->LA enc3 H1 l C->C=(if (i:Int)=p then [(0,d - 1,0)] else [])->∃ ys,H1 D=some (.lst ys)/\ys.length < sizeLine/\Same H (upd H1 D (.lst (ys ++ [.ref l])))/\BA (upd H1 D (.lst (ys ++ [.ref l]))) D (stay d (i+1) p)/\Yg H (upd H1 D (.lst (ys ++ [.ref l]))) D:=fun l C H1 s1 fl hC eC=>by
   obtain ⟨os,o1,o2,o3,o4,o5⟩:=id hB
   have hol:os.length=i:=by rw [o2]; simp [stay]
   have nlD:l ≠ D:=fun z=>by rw [z,o1] at fl; cases fl
   have nlo:l ∉ os:=fun z=>by
    obtain ⟨j,hj⟩:=List.getElem?_of_mem z
    have lj:=(List.getElem?_eq_some_iff.mp hj).1
    exact la_ne (enc':=enc3) (o5 j l _ hj (List.getElem?_eq_getElem (by omega))) fl rfl
   refine ⟨_,s1 _ _ o1,qbo9 (by simp; omega),qcs9 hD (sD.trans s1),?_,Yg.of (rs:=os ++ [l]) (by rw [qaf9]; simp) fun r hr=>?_⟩
   ·have:=(hB.u (SameU.of s1)).snoc (s1 _ _ o1) hC nlD nlo
    have e:stay d (i+1) p=stay d i p ++ [C]:=by
     unfold stay
     rw [List.range_succ,List.map_append,eC]
     rfl
    rw [e]
    exact this
   ·rcases List.mem_append.mp hr with hr | hr
    ·exact hY os o1 r hr
    ·rw [List.mem_singleton] at hr
     subst hr
     exact sD.free fl
  rw [show (0:Int)+((i:Nat):Int)=(i:Int) by omega]
  refine ⟨fun v H1=>∃ (l:Addr) (C:List T3),v=.ref l/\Same H' H1/\H' l=none/\LA enc3 H1 l C/\C=(if (i:Int)=p then [(0,d - 1,0)] else []),?_,?_⟩
  ·refine ⟨_,rfl,_,rfl,rfl,_,rfl,ite2 (fun c=>?_) (fun c=>?_)⟩
   ·have c':(i:Int)=p:=by
     have:=of_decide_eq_true c
     injection this
    refine ⟨_,rfl,d,rfl,fun l H1 s1 f1 la1=>⟨l,_,rfl,s1,f1,la1,by rw [if_pos c']⟩⟩
   ·have c':¬ (i:Int)=p:=fun z=>c (decide_eq_true (by rw [z]))
    refine ⟨(by show 0<=sizeLine; decide),fun l hl=>⟨l,[],rfl,qan9 hl _,hl,LA.nil qaf9,by rw [if_neg c']⟩⟩
  intro v H1 z9;obtain ⟨l,C,rfl,s1,f1,la1,eC⟩ := z9
  exact fin l C H1 s1 f1 la1 eC
 ·intro D H' hD z9;obtain ⟨sD,hB,hY⟩ := z9
  rw [mt] at hB
  exact q D H' sD hD hB hY
theorem qjk9 (hTB:TB T) (F:Fun K "ride_first" "ride_first" qcl9 f fd) (Ca0:Callee P w K mg base n "copied_table" ["told"] qec9) (Ch0:Callee P w K mg base n "sooner" ["day","one","other"] (spTwo Ma.omin)) (Cl0:Callee P w K mg base n "behind" ["day","one","other"] (qhz9 T)):FnOk P w K mg base CX0 (n+1) f fd ["day","fords","told"] (spRide T stepT):=by
 refine F.okQ sc_ride_first (fun vs H Q E h=>?_) (fun cdv A outer s H vs Q E hr h=>?_)
 ·obtain ⟨_,_,_,_,_,_,_,rfl,_⟩:=h
  rfl
 obtain ⟨d,pF,F,pt,Cs,M,m,rfl,hF,hB,hT,fok,tok,b1,b2,nl,q⟩:=h
 refine ⟨_,(qac9 (qak9 (i:=3) sc_ride_first.nd rfl (Or.inl rfl) (qe_fn Ca0 hr rfl (qa_c (qv 2) qad9))) (qac9 (qgb9 PassesOwn.never rfl (qdn9 (qv 1)) (qfu9 rfl (qal9 (qam9 (i:=4) sc_ride_first.nd rfl (Or.inl rfl)) (qal9 (qam9 (i:=5) sc_ride_first.nd rfl (Or.inl rfl)) (qal9 (qam9 (i:=6) sc_ride_first.nd rfl (Or.inl rfl)) qdo9)))) (qae9 (qjy9 (qe_fn Ch0 hr rfl (qa_c (qv 0) (qa_c (qe_ix qai9 (qv 3) (qv 4) (fun _ _=>rfl)) (qa_c (qe_fn Cl0 hr rfl (qa_c (qv 0) (qa_c (qv 6) (qa_c (qe_ix qai9 (qv 2) (qv 5) (fun _ _=>rfl)) qad9)))) qad9)))) (qg_sub (qv 3) (qv 4) qkn9)))) (qae9 (qax9 (qv 3))))),?_⟩
 walk_at "d"
 refine ⟨_,rfl,pt,Cs,rfl,hB,nl,fun pn H1 s1 f1 B1 Y1=>?_⟩
 have u1:=SameU.of s1
 obtain ⟨ws,hw1,hw2,hw3⟩:=hF.la.lst
 rw [List.length_map] at hw2
 refine ⟨_,rfl,pF,rfl,⟨_,SqL.of (s1 _ _ hw1)⟩,qfi9 (K:=K) (a:=pF) (xs:=ws)
  (fun i σ H'=>∃ (Ds:Tb) (v4 v5 v6:Option V),σ=[some (.int d),some (.ref pF),some (.ref pt),some (.ref pn),v4,v5,v6]/\SameU H H'/\T H'/\BA H' pn Ds/\Yg H H' pn/\Ds.length=Cs.length/\TOk d (M+i * (m+M)) Ds/\∀ p,0<=p->p < (Cs.length:Int)->∀ t,Ma.bt d (cl Ds p) t=ways d (F.take i) Cs p t (Ma.bt d (cl Cs p) t))
  ⟨Cs,_,_,_,rfl,u1,hTB.same _ _ hT s1,B1,Y1,rfl,by simpa using tok,fun p _ _ t=>rfl⟩ (fun i σ H' _ z9=>by obtain ⟨_,_,_,_,_,u,_⟩ := z9;exact SqL.of (u.lst hw1)) ?_ ?_⟩
 ·intro i y σ H2 hi z9;obtain ⟨Ds,v4,v5,v6,rfl,u2,t2,B2,Y2,l2,tok2,e2⟩ := z9
  obtain ⟨r,x,rfl,ex,er⟩:=hw3 i y hi
  have hi2:i < F.length:=by
   have:=(List.getElem?_eq_some_iff.mp hi).1
   omega
  have em:=List.getElem?_eq_getElem hi2
  rw [List.getElem?_map,em] at ex
  cases ex
  have hm:=List.getElem_mem hi2
  generalize F[i]=g at *
  obtain ⟨⟨a0,a1⟩,⟨b0,b1'⟩,mu⟩:=fok g hm
  refine ⟨r,_,rfl,SqT.of (u2.tup er),rfl,_,_,rfl,_,_,rfl,_,_,rfl,rfl,?_⟩
  obtain ⟨rs,rc,r1,r2,r3,r4,r5⟩:=B2.at a0 (by rw [l2]; exact a1)
  obtain ⟨ts,tc,q1,q2,q3,q4,q5⟩:=(hB.u u2).at b0 b1'
  have muD:=tok2 _ (qjj9 a0 (by rw [l2]; exact a1))
  have muC:=tok _ (qjj9 b0 b1')
  have lg:=mu.len
  have lC:=muC.len
  have lD:=muD.len
  have im:M+i * (m+M)<=M+F.length * (m+M):=Nat.add_le_add_left (Nat.mul_le_mul_right _ (by omega)) _
  have im2:M+(i+1) * (m+M)<=M+F.length * (m+M):=Nat.add_le_add_left (Nat.mul_le_mul_right _ (by omega)) _
  have ie:M+(i+1) * (m+M)=M+i * (m+M)+(m+M):=by rw [Nat.add_mul,Nat.one_mul]; omega
  have bnd:(2 * g.2.2.2.length+1) * (2 * (cl Cs g.2.1).length+2)<=16000000:=Nat.le_trans (Nat.mul_le_mul (by omega) (by omega)) b2
  refine ⟨_,rfl,_,rfl,_,rfl,pn,_,_,_,rfl,rfl,SqL.of r1,r2,_,rfl,_,rfl,_,rfl,_,rfl,pt,_,_,_,rfl,rfl,SqL.of q1,q2,d,g.2.2.1,tc,g.2.2.2,cl Cs g.2.1,rfl,(hF.u u2).bd g hm,q5,t2,by omega,by omega,bnd,mu.1,muC.1,fun l3 R3 H3 u3 t3 f3 la3 _ ck3 e3=>?_⟩
  have mu3:=Ma.MuR.bind ck3 mu muC e3
  have l3':=mu3.len
  refine ⟨d,rc,l3,cl Ds g.1,R3,rfl,r5.u u3,la3,by omega,by omega,muD.1,ck3,fun l4 R4 H4 s4 f4 la4 _ ck4 e4=>?_⟩
  have mu4:=Ma.MuR.min ck4 muD mu3 e4
  have u24:=u3.trans (SameU.of s4)
  have r14:=u24.lst r1
  have nlp:l4 ≠ pn:=fun z=>by rw [z,u3.lst r1] at f4; cases f4
  have nlr:l4 ∉ rs:=fun z=>by
   obtain ⟨rs',x1,x2,x3,x4,x5⟩:=B2.u u3
   rw [u3.lst r1] at x1
   have:=qhp9 (Option.some.inj x1)
   subst this
   obtain ⟨j,hj⟩:=List.getElem?_of_mem z
   have lj:=(List.getElem?_eq_some_iff.mp hj).1
   exact la_ne (enc':=enc3) (x5 j l4 _ hj (List.getElem?_eq_getElem (by omega))) f4 rfl
  refine ⟨_,rfl,_,rfl,pn,_,_,g.1.toNat,rfl,rfl,r14,ixN_pos a0 (by rw [List.length_map,r4,l2]; exact a1),?_⟩
  refine ⟨Ds.set g.1.toNat R4,_,_,_,rfl,SameU.wr f1 (u2.trans u24),hTB.wr _ _ _ _ (hTB.same _ _ t3 s4) r14,(B2.u u24).set r14 la4 nlp nlr (by omega),Yg.of (rs:=rs.set g.1.toNat l4) (by rw [qaf9,List.map_set]) fun r' hr'=>?_,by simp [l2],fun C hC=>?_,fun p p0 p1 t=>?_⟩
  ·rcases List.mem_or_eq_of_mem_set hr' with z | z
   ·exact Y2 rs r1 r' z
   ·subst z
    exact (u2.trans u3).free f4
  ·rw [ie]
   rcases List.mem_or_eq_of_mem_set hC with z | z
   ·exact (tok2 C z).le (by omega)
   ·subst z
    exact mu4
  ·rw [qeh9 em,ways_snoc,cl_set p0 (by rw [l2]; exact p1) a0 (by rw [l2]; exact a1)]
   by_cases z:g.1=p
   ·rw [if_pos z,if_pos z,e4,e2 g.1 a0 a1,e3,z]
   ·rw [if_neg z,if_neg z,e2 p p0 p1]
 ·intro σ H2 z9;obtain ⟨Ds,v4,v5,v6,rfl,u2,t2,B2,Y2,l2,tok2,e2⟩ := z9
  rw [hw2] at tok2 e2
  rw [List.take_length] at e2
  exact ⟨_,rfl,q pn Ds H2 u2 t2 f1 B2 Y2 l2 tok2 e2⟩
end
def TL (H0 H:Hp) (p:Addr) (Ts:List Tb):Prop:=∃ qs:List (Addr × List Addr),H p=some (.lst (qs.map fun q=>V.ref q.1))/\qs.length=Ts.length/\(p :: qs.flatMap fun q=>q.1 :: q.2).Nodup/\(∀ a∈p :: qs.flatMap fun q=>q.1 :: q.2,H0 a=none) /\
 ∀ (i:Nat) q B,qs[i]?=some q->Ts[i]?=some B->H q.1=some (.lst (q.2.map V.ref))/\q.2.length=B.length/\∀ (j:Nat) r C,q.2[j]?=some r->B[j]?=some C->LA enc3 H r C
section
variable {H0 H H':Hp} {p:Addr} {Ts:List Tb}
theorem TL.live {qs:List (Addr × List Addr)} (e1:H p=some (.lst (qs.map fun q=>V.ref q.1))) (e2:qs.length=Ts.length) (e5:∀ (i:Nat) q B,qs[i]?=some q->Ts[i]?=some B->H q.1=some (.lst (q.2.map V.ref))/\q.2.length=B.length/\∀ (j:Nat) r C,q.2[j]?=some r->B[j]?=some C->LA enc3 H r C) :
  ∀ a∈p :: qs.flatMap fun q=>q.1 :: q.2,H a ≠ none:=fun a ha z=>by
 rcases List.mem_cons.mp ha with e | e
 ·rw [e,e1] at z
  cases z
 ·obtain ⟨q,hq,hm⟩:=List.mem_flatMap.mp e
  obtain ⟨i,hi⟩:=List.getElem?_of_mem hq
  have lt:=(List.getElem?_eq_some_iff.mp hi).1
  obtain ⟨g1,g2,g3⟩:=e5 i q _ hi (List.getElem?_eq_getElem (by omega))
  rcases List.mem_cons.mp hm with e | e
  ·rw [e,g1] at z
   cases z
  ·obtain ⟨j,hj⟩:=List.getElem?_of_mem e
   have lj:=(List.getElem?_eq_some_iff.mp hj).1
   exact la_ne (enc':=enc3) (g3 j a _ hj (List.getElem?_eq_getElem (by omega))) z rfl
theorem TL.old {H1:Hp} (h:TL H1 H p Ts) (s:SameU H0 H1):TL H0 H p Ts:=by
 obtain ⟨qs,e1,e2,e3,e4,e5⟩:=h
 exact ⟨qs,e1,e2,e3,fun a ha=>s.free (e4 a ha),e5⟩
theorem TL.lst (h:TL H0 H p Ts):∃ xs:List V,H p=some (.lst xs)/\xs.length=Ts.length:=by
 obtain ⟨qs,e1,e2,_⟩:=h
 exact ⟨_,e1,by simp [e2]⟩
theorem TL.at {i:Nat} {B:Tb} {xs:List V} (h:TL H0 H p Ts) (hx:H p=some (.lst xs)) (hi:Ts[i]?=some B):∃ q:Addr,xs[i]?=some (.ref q)/\BA H q B/\H0 q=none/\Yg H0 H q/\q ≠ p:=by
 obtain ⟨qs,e1,e2,e3,e4,e5⟩:=h
 rw [e1] at hx
 cases hx
 have lt:=(List.getElem?_eq_some_iff.mp hi).1
 have hq:qs[i]?=some (qs[i]'(by omega)):=List.getElem?_eq_getElem (by omega)
 have hm:=List.mem_of_getElem? hq
 generalize qs[i]'(by omega)=q at hq hm
 obtain ⟨g1,g2,g3⟩:=e5 i q B hq hi
 have fm:∀ a∈q.1 :: q.2,a∈qs.flatMap fun q=>q.1 :: q.2:=fun a ha=>List.mem_flatMap.mpr ⟨q,hm,ha⟩
 have nd:(q.1 :: q.2).Nodup:=by
  have:=(List.nodup_cons.mp e3).2
  obtain ⟨as,bs,rfl⟩:=List.append_of_mem hm
  rw [List.flatMap_append,List.flatMap_cons] at this
  exact (List.nodup_append.mp ((List.nodup_append.mp this).2.1)).1
 obtain ⟨nd1,nd2⟩:=List.nodup_cons.mp nd
 refine ⟨q.1,by rw [List.getElem?_map,hq]; rfl,⟨q.2,g1,g2,nd1,nd2,g3⟩,e4 _ (List.mem_cons_of_mem _ (fm _ (List.mem_cons_self ..))),Yg.of g1 fun r hr=>e4 _ (List.mem_cons_of_mem _ (fm _ (List.mem_cons_of_mem _ hr))),fun z=>?_⟩
 exact (List.nodup_cons.mp e3).1 (z ▸ fm _ (List.mem_cons_self ..))
theorem TL.one {q:Addr} {B:Tb} (hB:BA H q B) (hp:H p=none) (fp:H0 p=none) (fq:H0 q=none) (Y:Yg H0 H q):TL H0 (upd H p (.lst [.ref q])) p [B]:=by
 obtain ⟨rs,b1,b2,b3,b4,b5⟩:=hB
 have fr:=Y rs b1
 have nq:q ≠ p:=fun z=>by rw [z,hp] at b1; cases b1
 have nr:p ∉ rs:=fun z=>by
  obtain ⟨j,hj⟩:=List.getElem?_of_mem z
  have lj:=(List.getElem?_eq_some_iff.mp hj).1
  exact la_ne (enc':=enc3) (b5 j p _ hj (List.getElem?_eq_getElem (by omega))) hp rfl
 refine ⟨[(q,rs)],qaf9,rfl,?_,fun a ha=>?_,fun i q' B' a b=>?_⟩
 ·show (p :: (q :: rs ++ [])).Nodup
  rw [List.append_nil]
  refine List.nodup_cons.mpr ⟨fun z=>?_,List.nodup_cons.mpr ⟨b3,b4⟩⟩
  rcases List.mem_cons.mp z with e | e
  ·exact nq e.symm
  ·exact nr e
 ·have ha:a∈p :: (q :: rs ++ []):=ha
  rw [List.append_nil] at ha
  rcases List.mem_cons.mp ha with e | e
  ·rw [e]; exact fp
  ·rcases List.mem_cons.mp e with e | e
   ·rw [e]; exact fq
   ·exact fr a e
 ·match i,a,b with
  | 0,a,b =>
   cases a
   cases b
   exact ⟨by rw [qaq9 nq]; exact b1,b2,fun j r C x y=>(b5 j r C x y).same (qan9 hp _)⟩
  | i+1,a,b=>simp at a
theorem qfl9 {α:Type} {xs:List α} {k:Nat} (h1:1<=k) (h2:k<=xs.length):atI xs (-(k:Int))=xs[xs.length - k]?:=by
 unfold atI ixN
 rw [if_neg (by omega),if_pos (by omega)]
 show xs[(-(k:Int)+(xs.length:Int)).toNat]?=_
 congr 1
 omega
theorem TL.snoc {Ha:Hp} {q:Addr} {B:Tb} {xs:List V} (h:TL H0 Ha p Ts) (s:SameU Ha H) (fq:Ha q=none) (hB:BA H q B) (hY:Yg Ha H q) (u:SameU H0 Ha) (hx:H p=some (.lst xs)):TL H0 (upd H p (.lst (xs ++ [.ref q]))) p (Ts ++ [B]):=by
 obtain ⟨qs,e1,e2,e3,e4,e5⟩:=h
 have lv:=TL.live e1 e2 e5
 obtain ⟨rs,b1,b2,b3,b4,b5⟩:=hB
 have fr:=hY rs b1
 rw [s.lst e1] at hx
 cases hx
 have ap:∀ a∈q :: rs,a ≠ p/\a ∉ (qs.flatMap fun q=>q.1 :: q.2)/\Ha a=none:=fun a ha=>by
  have z:Ha a=none:=by
   rcases List.mem_cons.mp ha with e | e
   ·rw [e]; exact fq
   ·exact fr a e
  exact ⟨fun y=>lv a (by rw [y]; exact List.mem_cons_self ..) z,fun y=>lv a (List.mem_cons_of_mem _ y) z,z⟩
 have hp:∀ {r:Addr} {C:List T3},r ≠ p->LA enc3 H r C->LA enc3 (upd H p (.lst ((qs.map fun q=>V.ref q.1) ++ [.ref q]))) r C:=fun n h=>qce9 h (s.lst e1) n
 refine ⟨qs ++ [(q,rs)],by rw [qaf9,List.map_append]; rfl,by simp [e2],?_,fun a ha=>?_,fun i q' B' a b=>?_⟩
 ·obtain ⟨n1,n2⟩:=List.nodup_cons.mp e3
  rw [List.flatMap_append,List.flatMap_cons,List.flatMap_nil,List.append_nil]
  refine List.nodup_cons.mpr ⟨fun z=>?_,List.nodup_append.mpr ⟨n2,List.nodup_cons.mpr ⟨b3,b4⟩,fun a ha b hb e=>(ap b hb).2.1 (e ▸ ha)⟩⟩
  rcases List.mem_append.mp z with z | z
  ·exact n1 z
  ·exact (ap p z).1 rfl
 ·rw [List.flatMap_append,List.flatMap_cons,List.flatMap_nil,List.append_nil] at ha
  rcases List.mem_cons.mp ha with e | e
  ·exact e4 a (by rw [e]; exact List.mem_cons_self ..)
  ·rcases List.mem_append.mp e with e | e
   ·exact e4 a (List.mem_cons_of_mem _ e)
   ·exact u.free (ap a e).2.2
 ·rcases Nat.lt_or_ge i qs.length with z | z
  ·rw [List.getElem?_append_left z] at a
   rw [List.getElem?_append_left (by omega)] at b
   obtain ⟨g1,g2,g3⟩:=e5 i q' B' a b
   have hm:=List.mem_of_getElem? a
   have np:∀ x∈q'.1 :: q'.2,x ≠ p:=fun x hx e=>(List.nodup_cons.mp e3).1 (e ▸ List.mem_flatMap.mpr ⟨q',hm,hx⟩)
   exact ⟨by rw [qaq9 (np _ (List.mem_cons_self ..))]; exact s.lst g1,g2,fun j r C x y=>hp (np r (List.mem_cons_of_mem _ (List.mem_of_getElem? x))) ((g3 j r C x y).u s)⟩
  ·have lt:=(List.getElem?_eq_some_iff.mp a).1
   simp at lt
   have ei:i=qs.length:=by omega
   subst ei
   rw [List.getElem?_append_right (Nat.le_refl _),Nat.sub_self] at a
   rw [List.getElem?_append_right (by omega),show qs.length - Ts.length=0 by omega] at b
   cases a
   cases b
   exact ⟨by rw [qaq9 (ap q (List.mem_cons_self ..)).1]; exact b1,b2,fun j r C x y=>hp (ap r (List.mem_cons_of_mem _ (List.mem_of_getElem? x))).1 (b5 j r C x y)⟩
end
def spStep (T:Hp->Prop) (stp:Int->List RdT->Tb->Int->Int->Option Int) (qual:Str) (v1 v2:V) (c':Addr):Sp:=match v1,v2 with
 | .int d,.ref pF=>fun vs H Q E=>H c'=some (.ext (CodeQ c' qual))/\∃ pt:Addr,vs=[.ref pt]/\spRide T stp [.int d,.ref pF,.ref pt] H Q E
 | _,_=>fun _ _ _ _=>False
structure TsOk (d:Int) (n:Nat) (p:Int) (F:List RdT) (m:Nat) (stp:Int->List RdT->Tb->Int->Int->Option Int) (Ts:List Tb):Prop where
 first:Ts[0]?=some (stay d n p)
 each:∀ (i:Nat) A,Ts[i]?=some A->A.length=n/\TOk d (mxT F.length m i) A
 grow:∀ (i:Nat) A B,Ts[i]?=some A->Ts[i+1]?=some B->∀ p,0<=p->p < (n:Int)->∀ t,Ma.bt d (cl B p) t=stp d F A p t
def Few (f m n:Nat):Prop:=∀ k,k+1 < n->mxT f m (k+1)<=1000000/\(2 * (m+1)+2) * (2 * (mxT f m k+1)+2)<=16000000
def qoj9 (T:Hp->Prop) (stp:Int->List RdT->Tb->Int->Int->Option Int) (qual:Str) (v1 v2:V) (fl c':Addr):Sp:=match v1,v2 with
 | .int d,.ref pF=>fun vs H Q _=>∃ (n:Nat) (p:Int) (F:List RdT) (m:Nat),vs=[.int d,.int n,.int p,.ref fl]/\H c'=some (.ext (CodeQ c' qual))/\FA H pF F/\T H/\1<=n/\n<=1000/\0 < d/\FOk d n m F/\Few F.length m n /\
  ∀ (l:Addr) (Ts:List Tb) (H':Hp),SameU H H'->T H'->TL H H' l Ts->Ts.length=n->TsOk d n p F m stp Ts->Q (.ref l) H'
 | _,_=>fun _ _ _ _=>False
theorem stay_ok {d:Int} (hd:0 < d) {n:Nat} {p:Int}:TOk d 2 (stay d n p):=fun C hC=>by
 obtain ⟨i,_,rfl⟩:=List.mem_map.mp hC
 split
 ·exact Ma.mur_one (Ma.ck_still hd)
 ·exact Ma.mur_nil hd
section
variable {P:Program} {w:World} {K:W.Frag} {mg:Str->Option Value} {base:Heap} {f:Addr} {fd:FuncData} {n:Nat} {T:Hp->Prop}
theorem ok_grown {v1 v2:V} {fl c':Addr} {fdl:FuncData} {qual:Str} {stp:Int->List RdT->Tb->Int->Int->Option Int} (hTB:TB T) (F:Fun K "grown" "grown" qcz9 f fd) (B:Bl mg) (Ce0:Callee P w K mg base n "staying" ["day","size","place"] qea9) (Ca0:Callee P w K mg base n "copied_table" ["told"] qec9)
  (G:FnOk P w K mg base CX0 n fl fdl ["told"] (spStep T stp qual v1 v2 c')) (bG:Binds K fdl ["told"] []) (ho:W.FnAt fl base):FnOk P w K mg base CX0 (n+1) f fd ["day","size","place","step"] (qoj9 T stp qual v1 v2 fl c'):=by
 unfold qoj9
 split
 case h_2=>exact qda9
 rename_i d pF
 refine F.okQ sc_grown (fun vs H Q E h=>?_) (fun cdv A outer s H vs Q E hr h=>?_)
 ·obtain ⟨_,_,_,_,rfl,_⟩:=h
  rfl
 obtain ⟨N,p,Fs,m,rfl,hc,hF,hT,N1,N2,hd,fok,few,q⟩:=h
 refine ⟨_,(qac9 (qak9 (i:=4) sc_grown.nd rfl (Or.inl rfl) (qbj9 (qa_c (qe_fn Ce0 hr rfl (qa_c (qv 0) (qa_c (qv 1) (qa_c (qv 2) qad9)))) qad9))) (qac9 (qfm9 PassesOwn.never (qaj9 qcy9 (qe_cb qao9 rfl B.len qby9 (qa_c (qv 4) qad9)) (qv 1) (qas9 _)) (qae9 (qs_if (qfx9 (QW.pt (qjc9 (qaj9 qgp9 (qe_cb qao9 rfl B.len qby9 (qa_c (qv 4) qad9)) qaa9 (qas9 _)) (qgm9 (qaj9 (qmb9 hr.units) (qe_ix qai9 (qv 4) (qds9 qaa9) (fun _ _=>rfl)) (qe_ix qai9 (qv 4) (qds9 qaa9) (fun _ _=>rfl)) (qas9 _)))))) (qae9 (qbg9 (qbm9 (qv 4) (qa_c (qe_fn Ca0 hr rfl (qa_c (qe_ix qai9 (qv 4) (qds9 qaa9) (fun _ _=>rfl)) qad9)) qad9)))) (qae9 (qbg9 (qbm9 (qv 4) (qa_c ⟨pe_clo 3 G hr bG ho (qa_c (qe_ix qai9 (qv 4) (qds9 qaa9) (fun _ _=>rfl)) qad9).run⟩ qad9))))))) (qae9 (qax9 (qv 4))))),?_⟩
 walk_at "d"
 refine ⟨_,rfl,_,rfl,_,rfl,d,N,p,rfl,N2,fun q0 H1 s1 f1 B1 Y1=>⟨(by show 1<=sizeLine; decide),fun pf hpf=>?_⟩⟩
 have L1:=TL.one (H0:=H) B1 hpf (s1.free hpf) f1 Y1
 have s12:=qan9 hpf (.lst [.ref q0])
 have S2:=s1.trans s12
 have k0:stay d N p∈[stay d N p]:=List.mem_singleton.mpr rfl
 have ok1:TsOk d N p Fs m stp [stay d N p]:=⟨rfl,fun i A hA=>by
   match i,hA with
   | 0,hA =>
    cases hA
    exact ⟨by simp [stay],stay_ok hd⟩
   | i+1,hA=>simp at hA,fun i A B hA hB=>by simp at hB⟩
 generalize upd H1 pf (.lst [.ref q0])=H2 at *
 refine qfj9 (fun σ H'=>σ=[some (.int d),some (.int N),some (.int p),some (.ref fl),some (.ref pf)]/\SameU H H'/\T H'/\∃ Ts:List Tb,TL H H' pf Ts/\1<=Ts.length/\Ts.length<=N/\TsOk d N p Fs m stp Ts)
  (fun _ H'=>match H' pf with | some (.lst xs)=>N - xs.length | _=>0) ⟨rfl,SameU.of S2,hTB.same _ _ hT S2,_,L1,Nat.le_refl _,N1,ok1⟩ ?_ ?_
 ·intro σ H3 z9;obtain ⟨rfl,u3,t3,Ts,L3,l1,l2,ok⟩ := z9
  obtain ⟨xs,x1,xl⟩:=L3.lst
  refine ⟨_,rfl,pf,_,rfl,.inl (SqL.of x1),_,rfl,_,_,rfl,rfl,_,rfl,ite2 (fun c=>?_) (fun c=>?_)⟩
  ·have c':(xs.length:Int) < (N:Int):=of_decide_eq_true c
   have hA:Ts[Ts.length - 1]?=some (Ts[Ts.length - 1]'(by omega)):=List.getElem?_eq_getElem (by omega)
   generalize Ts[Ts.length - 1]'(by omega)=A at hA
   obtain ⟨qa,qa1,qa2,qa3,qa4,qa5⟩:=L3.at x1 hA
   obtain ⟨oA1,oA2⟩:=ok.each _ A hA
   have a1:atI xs (-1)=some (.ref qa):=by
    have:=qfl9 (xs:=xs) (k:=1) (Nat.le_refl _) (by omega)
    rw [xl] at this
    exact this.trans qa1
   have mu0:∀ ys:List V,H3 pf=some (.lst ys)->ys=xs:=fun ys e=>by
    rw [x1] at e
    cases e
    rfl
   have fin:∀ (l:Addr) (B:Tb) (H4:Hp),SameU H3 H4->T H4->H3 l=none->BA H4 l B->Yg H3 H4 l->B.length=N->TOk d (mxT Fs.length m Ts.length) B->(∀ p,0<=p->p < (N:Int)->∀ t,Ma.bt d (cl B p) t=stp d Fs A p t)->∃ p_1 xs v,(V.ref pf:V)=.ref p_1/\[V.ref l]=[v]/\H4 p_1=some (.lst xs)/\xs.length < sizeLine /\
     ((([some (.int d),some (.int N),some (.int p),some (.ref fl),some (.ref pf)]:L2.St)=[some (.int d),some (.int N),some (.int p),some (.ref fl),some (.ref pf)]/\SameU H (upd H4 p_1 (.lst (xs ++ [v])))/\T (upd H4 p_1 (.lst (xs ++ [v])))/\∃ Ts:List Tb,TL H (upd H4 p_1 (.lst (xs ++ [v]))) pf Ts/\1<=Ts.length/\Ts.length<=N/\TsOk d N p Fs m stp Ts) /\
     (match upd H4 p_1 (.lst (xs ++ [v])) pf with | some (.lst xs)=>N - xs.length | _=>0) < (match H3 pf with | some (.lst xs)=>N - xs.length | _=>0)):=by
    intro l B H4 u4 t4 fl4 hB hY bl tB gB
    have x4:=u4.lst x1
    have L4:=L3.snoc u4 fl4 hB hY u3 x4
    obtain ⟨qs0,z1,_,_,z4,_⟩:=id L3
    have fpf:H pf=none:=z4 pf (List.mem_cons_self ..)
    refine ⟨pf,xs,_,rfl,rfl,x4,qbo9 (by omega),⟨rfl,SameU.wr fpf (u3.trans u4),hTB.wr _ _ _ _ t4 x4,Ts ++ [B],L4,by simp,by simp; omega,?_,?_,?_⟩,?_⟩
    ·rw [List.getElem?_append_left (by omega)]
     exact ok.first
    ·intro i C hC
     rcases Nat.lt_or_ge i Ts.length with z | z
     ·rw [List.getElem?_append_left z] at hC
      exact ok.each i C hC
     ·have:=(List.getElem?_eq_some_iff.mp hC).1
      simp at this
      have ei:i=Ts.length:=by omega
      subst ei
      rw [List.getElem?_append_right (Nat.le_refl _),Nat.sub_self] at hC
      cases hC
      exact ⟨bl,tB⟩
    ·intro i C D hC hD
     rcases Nat.lt_or_ge (i+1) Ts.length with z | z
     ·rw [List.getElem?_append_left (by omega)] at hC
      rw [List.getElem?_append_left z] at hD
      exact ok.grow i C D hC hD
     ·have:=(List.getElem?_eq_some_iff.mp hD).1
      simp at this
      have ei:i=Ts.length - 1:=by omega
      subst ei
      rw [List.getElem?_append_left (by omega),hA] at hC
      rw [List.getElem?_append_right (by omega),show Ts.length - 1+1 - Ts.length=0 by omega] at hD
      cases hC
      cases hD
      exact gB
    ·rw [qaf9,x1]
     show N - (xs ++ [V.ref l]).length < N - xs.length
     rw [List.length_append,List.length_singleton]
     omega
   have em:mxT Fs.length m Ts.length=mxT Fs.length m (Ts.length - 1)+Fs.length * (m+mxT Fs.length m (Ts.length - 1)):=by
    rw [show Ts.length=Ts.length - 1+1 by omega]
    rfl
   refine ⟨fun b H'=>H'=H3/\(b=true->∃ A',Ts[Ts.length - 1 - 1]?=some A'/\2<=Ts.length/\A'=A),?_,?_⟩
   ·refine ⟨_,rfl,pf,_,rfl,.inl (SqL.of x1),_,_,rfl,rfl,_,rfl,ite2 (fun c2=>?_) (fun c2=>⟨rfl,fun z=>by cases z⟩)⟩
    have c2':(1:Int) < (xs.length:Int):=of_decide_eq_true c2
    have hA':Ts[Ts.length - 1 - 1]?=some (Ts[Ts.length - 1 - 1]'(by omega)):=List.getElem?_eq_getElem (by omega)
    generalize Ts[Ts.length - 1 - 1]'(by omega)=A' at hA'
    obtain ⟨qb,qb1,qb2,qb3,qb4,qb5⟩:=L3.at x1 hA'
    have a2:atI xs (-2)=some (.ref qb):=by
     have:=qfl9 (xs:=xs) (k:=2) (by omega) (by omega)
     rw [xl,show Ts.length - 2=Ts.length - 1 - 1 by omega] at this
     exact this.trans qb1
    refine ⟨_,rfl,_,rfl,pf,_,_,_,rfl,rfl,SqL.of x1,a1,_,rfl,_,rfl,pf,_,_,_,rfl,rfl,SqL.of x1,a2,_,_,qa2.rd,qb2.rd,qlz9 _,qlz9 _,_,rfl,rfl,fun z=>⟨A',hA',by omega,?_⟩⟩
    rw [qft9 eqvB] at z
    exact (of_decide_eq_true z).symm
   intro b H3' z9;obtain ⟨rfl,hb⟩ := z9
   refine ite2 (fun cb=>?_) (fun cb=>?_)
   ·obtain ⟨A',hA',l2',rfl⟩:=hb cb
    refine ⟨_,rfl,.inl ⟨rfl,_,SqL.of x1⟩,_,rfl,_,rfl,pf,_,_,_,rfl,rfl,SqL.of x1,a1,qa,A',rfl,qa2,by omega,fun l H4 s4 f4 B4 Y4=>?_⟩
    refine fin l A' H4 (SameU.of s4) (hTB.same _ _ t3 s4) f4 B4 Y4 oA1 (oA2.le (by rw [em]; omega)) fun p' p0 p1 t=>?_
    exact ok.grow _ A' A' hA' (by rw [show Ts.length - 1 - 1+1=Ts.length - 1 by omega]; exact hA) p' p0 p1 t
   ·have fw:=few (Ts.length - 1) (by omega)
    rw [show Ts.length - 1+1=Ts.length by omega] at fw
    refine ⟨_,rfl,.inl ⟨rfl,_,SqL.of x1⟩,rfl,_,rfl,_,rfl,pf,_,_,_,rfl,rfl,SqL.of x1,a1,u3.1 _ _ hc (fun z y=>by cases y),qa,rfl,d,pF,Fs,qa,A,_,m,rfl,hF.u u3,qa2,t3,by rw [oA1]; exact fok,oA2,by rw [<- em]; exact fw.1,fw.2,by omega,fun l Ds H4 u4 t4 f4 B4 Y4 l4 tk4 e4=>?_⟩
    refine fin l Ds H4 u4 t4 f4 B4 Y4 (l4.trans oA1) (by rw [em]; exact tk4) fun p' p0 p1 t=>e4 p' p0 (by rw [oA1]; exact p1) t
  ·have c':¬ (xs.length:Int) < (N:Int):=fun z=>c (decide_eq_true z)
   exact ⟨_,rfl,q pf Ts H3 u3 t3 L3 (by omega) ok⟩
 ·intro σ H' Q1 Q2 hq z9;obtain ⟨v,e1,p1,ys,e2,e3,v2,e4,i,j,e5,e6,k,e7,q1⟩ := z9
  exact ⟨v,e1,p1,ys,e2,e3,v2,e4,i,j,e5,e6,k,e7,hq _ _ q1⟩
end
def lamRet:Stmt->Expr
 | .Return (some (.Call _ [_,_,_,l] _ _)) _=>l
 | _=>.Constant .none 0 ⟨0,0,0,0⟩
theorem qgh9 {y1 y2:Str} {c1 c2:Addr} (z:Str) (d:Addr) (e:([(y2,c2),(y1,c1)]:List (Str × Addr)).lookup z=some d):(z=y1/\d=c1)\/(z=y2/\d=c2):=by
 rw [List.lookup_cons] at e
 cases h:z == y2 with
 | true=>rw [h] at e; cases e; exact .inr ⟨eq_of_beq h,rfl⟩
 | false =>
  rw [h] at e
  exact .inl (qfe9 z d e)
theorem qll9 {y1 y2:Str} {c1 c2:Addr} (ne:c1 ≠ c2) (x y:Str) (c:Addr) (h1:([(y2,c2),(y1,c1)]:List (Str × Addr)).lookup x=some c) (h2:([(y2,c2),(y1,c1)]:List (Str × Addr)).lookup y=some c):x=y:=by
 rcases qgh9 x c h1 with ⟨a,b⟩ | ⟨a,b⟩ <;> rcases qgh9 y c h2 with ⟨a',b'⟩ | ⟨a',b'⟩
 ·exact a.trans a'.symm
 ·exact absurd (b.symm.trans b') ne
 ·exact absurd (b'.symm.trans b) ne
 ·exact a.trans a'.symm
theorem qqf9 {y1 y2:Str} {c1 c2:Addr} {sc:Scope} (h:∀ y∈sc.names,y.2=.free->y.1=y1\/y.1=y2) (x:Str) (e:sc.names.lookup x=some .free):∃ d,([(y2,c2),(y1,c1)]:List (Str × Addr)).lookup x=some d:=by
 have hm:=PySem.mem_of_lookup e
 rw [List.lookup_cons]
 rcases h _ hm rfl with z | z
 ·have z:x=y1:=z
  cases h2:x == y2 with
  | true=>exact ⟨c2,rfl⟩
  | false =>
   refine ⟨c1,?_⟩
   rw [z,List.lookup_cons]
   simp
 ·have z:x=y2:=z
  rw [z]
  exact ⟨c2,by simp⟩
abbrev lamT:Expr:=lamRet ((qag9 qbh9).getD 1 (.Pass ⟨0,0,0,0⟩))
theorem sc_lamT (c1 c2:Addr) (ne:c1 ≠ c2):LamScope ["told","day","fords"] ["told"] (lamSc lamT) [("fords",c2),("day",c1)]:=⟨rfl,rfl,rfl,by decide,rfl,by decide +kernel,by decide +kernel,qqf9 (by decide +kernel),qll9 ne⟩
section
variable {P:Program} {w:World} {K:W.Frag} {mg:Str->Option Value} {base:Heap} {f g:Addr} {fd gd:FuncData} {n:Nat} {T:Hp->Prop}
theorem ok_lamT {v1 v2:V} {fl c' c1 c2:Addr} {pm ctv:Value} (ne:c1 ≠ c2) (hTB:TB T) (FG:Fun K "grown" "grown" qcz9 g gd) (B:Bl mg) (Ce0:Callee P w K mg base (n+1) "staying" ["day","size","place"] qea9) (Ca0:Callee P w K mg base (n+1) "copied_table" ["told"] qec9) (Cm0:Callee P w K mg base n "ride_first" ["day","fords","told"] (spRide T stepT))
  (hfl:base.get? fl=some (W.kla_obj "<lambda>" (lamQ "rounds_to") (qlb9 lamT) (qlf9 lamT) (lamSc lamT) [("fords",c2),("day",c1)] pm c' ctv)) (hca:qid9 base (lamSc lamT) [("fords",c2),("day",c1)] ["told","day","fords"] ["told"] [v1,v2]) :
  FnOk P w K mg base CX0 (n+2) g gd ["day","size","place","step"] (qoj9 T stepT (lamQ "rounds_to") v1 v2 fl c'):=by
 refine ok_grown (n:=n+1) hTB FG B Ce0 Ca0 (lam_ok (k:=n) (N:=["told","day","fords"]) (cs:=[v1,v2]) hfl (fun vs H Q E h=>?_) (sc_lamT c1 c2 ne) hca (fun vs H Q E h=>?_) (fun A outer s H vs Q E hr h=>?_)) (Binds.all fun us hl=>match us,hl with | [_],_=>rfl) ⟨_,_,_,_,hfl⟩
 all_goals unfold spStep at h
 all_goals split at h
 all_goals first | exact h.elim | skip
 ·exact h.1
 ·obtain ⟨_,_,rfl,_⟩:=h
  rfl
 ·obtain ⟨hc,pt,rfl,h⟩:=h
  refine ⟨_,pe_fn Cm0 hr rfl (pa_c (pv 1) (pa_c (pv 2) (pa_c (pv 0) pa_nil))),?_⟩
  exact ⟨_,rfl,_,rfl,_,rfl,h⟩
def qpx9 (T:Hp->Prop):Sp:=fun vs H Q _=>∃ (d:Int) (n:Nat) (pr:Addr) (N:List RdT) (goal:Int) (m:Nat),vs=[.int d,.int n,.ref pr,.int goal]/\NA H pr N/\T H/\0 < d/\NetOk d n N/\1<=n/\n<=1000/\N.length<=1000/\(∀ x∈N,4 * x.2.2.2.length+2<=m)/\Few N.length m n/\0<=goal/\goal < (n:Int) /\
 ∀ (l:Addr) (F:List RdT) (Ts:List Tb) (H':Hp),SameU H H'->T H'->Fords d N F->TL H H' l Ts->Ts.length=n->TsOk d n goal F m stepT Ts->Q (.ref l) H'
theorem qjt9 {c P0:Addr} {oc kV doc pm ct:Value} {od an:Option Addr} {osl:Array (Option Value)} (lk:K.lookup f=some ⟨oc,od,.func (W.fnOf "rounds_to" "rounds_to" (qah9 qbh9) (qag9 qbh9) (qab9 qbh9) .none kV doc pm an (.ref c) ct),osl⟩) (hcd:W.codeIn K (.ref c) "rounds_to" = true)
  (B:Bl mg) (hC:W.CodeHd base c P0) (hB:BMain mg base) (FG:Fun K "grown" "grown" qcz9 g gd) (bG:Binds K gd ["day","size","place","step"] []) (mG:mg "grown" = some (.ref g)) (hTB:TB T) (h1:∀ H,T H->TabOk H P0 ⟨219,34,219,75⟩ (lamQ "rounds_to")) (h2:∀ H H',T H->SameT P0 H H'->TabOk H' P0 ⟨219,34,219,75⟩ (lamQ "rounds_to")->T H')
  (Cf1:Callee P w K mg base (n+2) "fords_of" ["day","roads"] qls9) (Ce0:Callee P w K mg base (n+1) "staying" ["day","size","place"] qea9) (Ca0:Callee P w K mg base (n+1) "copied_table" ["told"] qec9) (Cm0:Callee P w K mg base n "ride_first" ["day","fords","told"] (spRide T stepT)) :
  FnOk P w K mg base CX0 (n+3) f (W.fnOf "rounds_to" "rounds_to" (qah9 qbh9) (qag9 qbh9) (qab9 qbh9) .none kV doc pm an (.ref c) ct) ["day","size","roads","goal"] (qpx9 T):=by
 refine fn_of lk hcd sc_rounds_to (fun vs H Q E h=>?_) (fun A outer s H vs Q E hr h=>?_)
 ·obtain ⟨_,_,_,_,_,_,rfl,_⟩:=h
  rfl
 obtain ⟨d,N,pr,Ns,goal,m,rfl,hN,hT,hd,nok,N1,N2,nl,lm,few,g0,g1,q⟩:=h
 refine ⟨_,PSs.nox (QSs.run (qac9 (qak9 (i:=4) sc_rounds_to.nd rfl (Or.inr rfl) (qe_fn Cf1 hr rfl (qa_c (qv 0) (qa_c (qv 2) qad9)))) (qae9 (qax9 ⟨qhi9 (N:=["told","day","fords"]) (ps:=["told"]) 0 4 hr rfl mG FG.kp bG rfl rfl hC hB rfl rfl rfl (Or.inr (Or.inl rfl)) rfl rfl rfl rfl rfl (Or.inr (Or.inl rfl)) rfl rfl rfl qgh9 rfl rfl rfl (pv 0) (pv 1) (pv 3) (fun base' fl c' v1 v2 pm ctv md hk hz hfl hca=>ok_lamT (Nat.ne_of_lt (Nat.lt_succ_self _)) hTB FG B (Ce0.widen md hk hz) (Ca0.widen md hk hz) (Cm0.widen md hk hz) hfl hca)⟩)))),?_⟩
 walk_at "d"
 refine ⟨_,rfl,_,rfl,d,N,pr,Ns,rfl,hN,nl,hd,nok,fun pF F H1 s1 hF fo=>?_⟩
 have t1:=hTB.same _ _ hT s1
 refine ⟨_,_,rfl,rfl,_,rfl,_,rfl,_,rfl,h1 _ t1,fun fl c' H2 sm tb hc'=>?_⟩
 have u2:=SameU.tab sm (h1 _ t1) tb
 have u02:=(SameU.of s1).trans u2
 refine ⟨N,goal,F,m,rfl,hc',hF.u u2,h2 _ _ t1 sm tb,N1,N2,hd,fo.ok nok lm,by rw [fo.1]; exact few,fun l Ts H3 u3 t3 L3 l3 ok3=>?_⟩
 exact q l F Ts H3 (u02.trans u3) t3 fo (L3.old u02) l3 ok3
end
theorem qpp9 {d:Int} {C:List T3} (ck:Ma.CK d C) {t z:Int} (h:Ma.bt d C t=some z):t<=z:=by
 have n0:C ≠ []:=fun e=>by rw [e] at h; cases h
 have T:=Ma.tells_bf (d:=d) n0
 rw [T t] at h
 cases h
 exact (ck.rise T).ge t
section
variable {d:Int} {F:List RdT}
end
theorem qla9 {f f' m:Nat} (h:f<=f'):∀ k,mxT f m k<=mxT f' m k
 | 0=>Nat.le_refl _
 | k+1=>by
  have:=qla9 (m:=m) h k
  exact Nat.add_le_add this (Nat.mul_le_mul h (by omega))
theorem few16 {f n:Nat} (h:f<=16) (hn:n<=4):Few f 66 n:=fun k hk=>by
 have h1:=qla9 (m:=66) h (k+1)
 have h2:=qla9 (m:=66) h k
 have b1:mxT 16 66 (k+1)<=1000000:=by
  match k,hk with
  | 0,_=>decide
  | 1,_=>decide
  | 2,_=>decide
  | k+3,hk=>omega
 have b2:mxT 16 66 k<=19586:=by
  match k,hk with
  | 0,_=>decide
  | 1,_=>decide
  | 2,_=>decide
  | k+3,hk=>omega
 exact ⟨by omega,Nat.le_trans (Nat.mul_le_mul_left _ (show 2 * (mxT f 66 k+1)+2<=2 * 19587+2 by omega)) (by decide)⟩
section
variable {P:Program} {w:World} {K:W.Frag} {mg:Str->Option Value} {base:Heap} {f:Addr} {fd:FuncData} {n:Nat}
end
section
variable {d:Int} {F F':List RdT}
end
theorem qia9 (x y:Option Int):Ma.omin x y=Ma.omin y x:=by
 cases x with
 | none=>cases y <;> rfl
 | some x =>
  cases y with
  | none=>rfl
  | some y =>
   show some (Ma.jn false x y)=some (Ma.jn false y x)
   congr 1
   rcases Ma.jn_cases false x y with ⟨h,_⟩ | ⟨_,h1,h2,h3⟩
   ·cases h
   rcases Ma.jn_cases false y x with ⟨h,_⟩ | ⟨_,k1,k2,k3⟩
   ·cases h
   omega
theorem qdp9 (x y z:Option Int):Ma.omin (Ma.omin x y) z=Ma.omin x (Ma.omin y z):=by
 cases x with
 | none=>rfl
 | some x =>
  cases y with
  | none=>cases z <;> rfl
  | some y =>
   cases z with
   | none=>rfl
   | some z =>
    show some (Ma.jn false (Ma.jn false x y) z)=some (Ma.jn false x (Ma.jn false y z))
    congr 1
    rcases Ma.jn_cases false x y with ⟨h,_⟩ | ⟨_,h1,h2,h3⟩
    ·cases h
    rcases Ma.jn_cases false y z with ⟨h,_⟩ | ⟨_,k1,k2,k3⟩
    ·cases h
    rcases Ma.jn_cases false (Ma.jn false x y) z with ⟨h,_⟩ | ⟨_,l1,l2,l3⟩
    ·cases h
    rcases Ma.jn_cases false x (Ma.jn false y z) with ⟨h,_⟩ | ⟨_,m1,m2,m3⟩
    ·cases h
    omega
theorem qif9 (x:Option Int):Ma.omin x x=x:=by
 cases x with
 | none=>rfl
 | some x =>
  show some (Ma.jn false x x)=_
  congr 1
  rcases Ma.jn_cases false x x with ⟨h,_⟩ | ⟨_,h1,h2,h3⟩
  ·cases h
  omega
def LeO (x y:Option Int):Prop:=Ma.omin x y=x
theorem LeO.refl (x:Option Int):LeO x x:=qif9 x
theorem LeO.left (x y:Option Int):LeO (Ma.omin x y) x:=by
 show Ma.omin (Ma.omin x y) x=Ma.omin x y
 rw [qia9,<- qdp9,qif9]
theorem LeO.min {x x' y y':Option Int} (h:LeO x x') (k:LeO y y'):LeO (Ma.omin x y) (Ma.omin x' y'):=by
 show Ma.omin (Ma.omin x y) (Ma.omin x' y')=Ma.omin x y
 rw [qdp9,<- qdp9 y x' y',qia9 y x',qdp9 x' y y',<- qdp9 x x',show Ma.omin x x'=x from h,show Ma.omin y y'=y from k]
theorem LeO.none (x:Option Int):LeO x Option.none:=by
 show Ma.omin x Option.none=x
 cases x <;> rfl
theorem LeO.some {x y:Int}:LeO (some x) (some y)↔x<=y:=by
 show Option.some (Ma.jn false x y)=Option.some x↔_
 rcases Ma.jn_cases false x y with ⟨h,_⟩ | ⟨_,h1,h2,h3⟩
 ·cases h
 constructor
 ·intro e
  have:=Option.some.inj e
  omega
 ·intro e
  congr 1
  omega
theorem LeO.max {x x' y y':Option Int} (h:LeO x x') (k:LeO y y'):LeO (Ma.omax x y) (Ma.omax x' y'):=by
 cases x' with
 | none=>exact LeO.none _
 | some x' =>
  cases y' with
  | none=>exact LeO.none _
  | some y' =>
   cases x with
   | none=>cases (show Ma.omin Option.none (Option.some x')=Option.none from h)
   | some x =>
    cases y with
    | none=>cases (show Ma.omin Option.none (Option.some y')=Option.none from k)
    | some y =>
     refine LeO.some.mpr ?_
     have a:=LeO.some.mp h
     have b:=LeO.some.mp k
     rcases Ma.jn_cases true x y with ⟨_,h1,h2,h3⟩ | ⟨h,_⟩
     ·rcases Ma.jn_cases true x' y' with ⟨_,k1,k2,k3⟩ | ⟨h,_⟩
      ·omega
      ·cases h
     ·cases h
theorem rise_jn {d:Int} {late:Bool} {f g:Int->Int} (rf:Ma.Rise d f) (rg:Ma.Rise d g):Ma.Rise d fun x=>Ma.jn late (f x) (g x):=by
 refine ⟨fun t=>?_,fun t u h=>?_,fun t=>?_⟩
 ·have:=rf.ge t
  have:=rg.ge t
  rcases Ma.jn_cases late (f t) (g t) with ⟨_,h1,h2,h3⟩ | ⟨_,h1,h2,h3⟩ <;> omega
 ·have:=rf.mono t u h
  have:=rg.mono t u h
  rcases Ma.jn_cases late (f t) (g t) with ⟨e,h1,h2,h3⟩ | ⟨e,h1,h2,h3⟩ <;> rcases Ma.jn_cases late (f u) (g u) with ⟨e',k1,k2,k3⟩ | ⟨e',k1,k2,k3⟩
  ·omega
  ·rw [e] at e'; cases e'
  ·rw [e] at e'; cases e'
  ·omega
 ·have a:=rf.per t
  have b:=rg.per t
  rcases Ma.jn_cases late (f t) (g t) with ⟨e,h1,h2,h3⟩ | ⟨e,h1,h2,h3⟩ <;> rcases Ma.jn_cases late (f (t+d)) (g (t+d)) with ⟨e',k1,k2,k3⟩ | ⟨e',k1,k2,k3⟩
  ·omega
  ·rw [e] at e'; cases e'
  ·rw [e] at e'; cases e'
  ·omega
theorem rise_comp {d:Int} {f g:Int->Int} (rf:Ma.Rise d f) (rg:Ma.Rise d g):Ma.Rise d fun x=>g (f x):=by
 refine ⟨fun t=>?_,fun t u h=>rg.mono _ _ (rf.mono _ _ h),fun t=>?_⟩
 ·have:=rf.ge t
  have:=rg.ge (f t)
  omega
 ·show g (f (t+d))=_
  rw [rf.per,rg.per]
def MuO (d:Int) (F:Int->Option Int) (m:Nat):Prop:=(∀ t,F t=none)\/∃ f:Int->Int,Ma.Rise d f/\Ma.Mu d f m/\∀ t,F t=some (f t)
section
variable {d:Int} {F G:Int->Option Int} {a b:Nat}
theorem MuR.o {R:List T3} (h:Ma.MuR d R a):MuO d (Ma.bt d R) a:=by
 by_cases z:R=[]
 ·subst z
  exact .inl fun t=>rfl
 ·have T:=Ma.tells_bf (d:=d) z
  exact .inr ⟨_,h.1.rise T,h.2 z,T⟩
theorem MuO.r {R:List T3} (ck:Ma.CK d R) (h:MuO d (Ma.bt d R) a):Ma.MuR d R a:=by
 refine ⟨ck,fun z=>?_⟩
 have T:=Ma.tells_bf (d:=d) z
 rcases h with h | ⟨f,_,mu,e⟩
 ·have:=T 0
  rw [h] at this
  cases this
 ·exact mu.congr fun t=>Option.some.inj ((e t).symm.trans (T t))
theorem MuO.le (h:MuO d F a) (l:a<=b):MuO d F b:=h.imp id fun ⟨f,r,m,e⟩=>⟨f,r,m.le l,e⟩
theorem MuO.congr (h:MuO d F a) (e:∀ t,G t=F t):MuO d G a:=by
 have:G=F:=funext e
 rw [this]
 exact h
theorem MuO.none:MuO d (fun _=>Option.none) a:=.inl fun _=>rfl
theorem MuO.min (h:MuO d F a) (k:MuO d G b):MuO d (fun t=>Ma.omin (F t) (G t)) (a+b):=by
 rcases h with h | ⟨f,rf,mf,ef⟩
 ·refine (k.le (Nat.le_add_left ..)).congr fun t=>?_
  rw [h]
  rfl
 rcases k with k | ⟨g,rg,mg,eg⟩
 ·refine (show MuO d F (a+b) from .inr ⟨f,rf,mf.le (Nat.le_add_right ..),ef⟩).congr fun t=>?_
  rw [k,ef]
  rfl
 exact .inr ⟨_,rise_jn rf rg,Ma.mu_jn (late:=false) rf rg mf mg,fun t=>by dsimp only; rw [ef,eg]; rfl⟩
theorem MuO.max (h:MuO d F a) (k:MuO d G b):MuO d (fun t=>Ma.omax (F t) (G t)) (a+b):=by
 rcases h with h | ⟨f,rf,mf,ef⟩
 ·exact .inl fun t=>by dsimp only; rw [h]; rfl
 rcases k with k | ⟨g,rg,mg,eg⟩
 ·exact .inl fun t=>by dsimp only; rw [k,ef]; rfl
 exact .inr ⟨_,rise_jn rf rg,Ma.mu_jn (late:=true) rf rg mf mg,fun t=>by dsimp only; rw [ef,eg]; rfl⟩
theorem MuO.bind (hd:0 < d) (h:MuO d F a) (k:MuO d G b):MuO d (Ma.obind F G) (a+b):=by
 rcases h with h | ⟨f,rf,mf,ef⟩
 ·exact .inl fun t=>by unfold Ma.obind; rw [h]; rfl
 rcases k with k | ⟨g,rg,mg,eg⟩
 ·exact .inl fun t=>by unfold Ma.obind; rw [ef]; exact k _
 exact .inr ⟨_,rise_comp rf rg,Ma.mu_comp hd rf rg mf mg,fun t=>by unfold Ma.obind; rw [ef]; exact eg _⟩
theorem MuO.id:MuO d (fun t=>some t) 0:=.inr ⟨fun t=>t,⟨fun t=>Int.le_refl _,fun _ _ h=>h,fun _=>rfl⟩,⟨[],[],Nat.le_refl _,fun b _ _ h=>by dsimp only at h; omega,fun t _ _ h=>by dsimp only at h; omega⟩,fun _=>rfl⟩
end
section
variable {ι:Type} {st:ι->Int} {p:Int}
def fo (st:ι->Int) (val:ι->Option Int) (p:Int) (A:List ι) (o:Option Int):Option Int:=A.foldl (fun acc a=>if st a=p then Ma.omin acc (val a) else acc) o
theorem fo_o {val:ι->Option Int}:∀ {A:List ι} {o:Option Int},fo st val p A o=Ma.omin o (fo st val p A none)
 | [],o=>(LeO.none o).symm
 | a :: A,o=>by
  show fo st val p A (if st a=p then _ else _)=Ma.omin o (fo st val p A (if st a=p then _ else _))
  by_cases e:st a=p
  ·rw [if_pos e,if_pos e,fo_o,fo_o (o:=Ma.omin none (val a)),<- qdp9]
   rfl
  ·rw [if_neg e,if_neg e,fo_o]
theorem fo_le {val val':ι->Option Int}:∀ {A:List ι} {o o':Option Int},(∀ a∈A,LeO (val a) (val' a))->LeO o o'->LeO (fo st val p A o) (fo st val' p A o')
 | [],o,o',_,h=>h
 | a :: A,o,o',hA,h=>by
  show LeO (fo st val p A (if st a=p then _ else _)) (fo st val' p A (if st a=p then _ else _))
  refine fo_le (fun x hx=>hA x (List.mem_cons_of_mem _ hx)) ?_
  by_cases e:st a=p
  ·rw [if_pos e,if_pos e]
   exact h.min (hA a (List.mem_cons_self ..))
  ·rw [if_neg e,if_neg e]
   exact h
theorem fo_ge {val:ι->Option Int} {t:Int}:∀ {A:List ι},(∀ a∈A,∀ y,val a=some y->t<=y)->LeO (some t) (fo st val p A none)
 | [],_=>LeO.none _
 | a :: A,hA=>by
  show LeO _ (fo st val p A (if st a=p then _ else _))
  have ih:=fo_ge (A:=A) fun x hx=>hA x (List.mem_cons_of_mem _ hx)
  by_cases e:st a=p
  ·rw [if_pos e,fo_o,<- qif9 (some t)]
   refine LeO.min ?_ ih
   show LeO _ (val a)
   cases ev:val a with
   | none=>exact LeO.none _
   | some y=>exact LeO.some.mpr (hA a (List.mem_cons_self ..) y ev)
  ·rw [if_neg e]
   exact ih
def wsum (q:ι->Prop) [DecidablePred q] (wt:ι->Nat):List ι->Nat
 | []=>0
 | a :: A=>(if q a then wt a else 0)+wsum q wt A
theorem wsum_two {q:ι->Prop} [DecidablePred q] {wt:ι->Nat}:∀ {A:List ι},wsum q wt A+wsum (fun a=>¬ q a) wt A=(A.map wt).sum
 | []=>rfl
 | a :: A=>by
  have:=wsum_two (q:=q) (wt:=wt) (A:=A)
  show (if q a then wt a else 0)+wsum q wt A+((if ¬ q a then wt a else 0)+wsum (fun a=>¬ q a) wt A)=wt a+(A.map wt).sum
  by_cases e:q a
  ·rw [if_pos e,if_neg (not_not_intro e)]; omega
  ·rw [if_neg e,if_pos e]; omega
theorem fo_mu {d:Int} {val:ι->Int->Option Int} {q:ι->Prop} [DecidablePred q] {wt:ι->Nat} {m c:Nat}:∀ {A:List ι},(∀ a∈A,q a->MuO d (val a) (wt a * m))->(∀ a∈A,¬ q a->MuO d (val a) (wt a * c))->MuO d (fun t=>fo st (fun a=>val a t) p A none) (wsum q wt A * m+wsum (fun a=>¬ q a) wt A * c)
 | [],_,_=>MuO.none
 | a :: A,h1,h2=>by
  have ih:=fo_mu (A:=A) (fun x hx=>h1 x (List.mem_cons_of_mem _ hx)) (fun x hx=>h2 x (List.mem_cons_of_mem _ hx))
  by_cases e:st a=p
  ·have e2:∀ t,fo st (fun a=>val a t) p (a :: A) none=Ma.omin (val a t) (fo st (fun a=>val a t) p A none):=fun t=>by
    show fo st (fun a=>val a t) p A (if st a=p then _ else _)=_
    rw [if_pos e,fo_o]
    rfl
   show MuO d _ (((if q a then wt a else 0)+wsum q wt A) * m+((if ¬ q a then wt a else 0)+wsum (fun a=>¬ q a) wt A) * c)
   by_cases z:q a
   ·rw [if_pos z,if_neg (not_not_intro z),Nat.zero_add,Nat.add_mul,Nat.add_assoc]
    exact ((h1 a (List.mem_cons_self ..) z).min ih).congr e2
   ·rw [if_neg z,if_pos z,Nat.zero_add,Nat.add_mul]
    exact (((h2 a (List.mem_cons_self ..) z).min ih).congr e2).le (by omega)
  ·have e2:∀ t,fo st (fun a=>val a t) p (a :: A) none=fo st (fun a=>val a t) p A none:=fun t=>by
    show fo st (fun a=>val a t) p A (if st a=p then _ else _)=_
    rw [if_neg e]
   refine (ih.congr e2).le ?_
   show _<=((if q a then wt a else 0)+wsum q wt A) * m+((if ¬ q a then wt a else 0)+wsum (fun a=>¬ q a) wt A) * c
   exact Nat.add_le_add (Nat.mul_le_mul_right _ (by omega)) (Nat.mul_le_mul_right _ (by omega))
end
def bdF (g s m:Nat):Nat->Nat
 | 0=>0
 | 1=>g * m
 | j+2=>g * m+s * (m+bdF g s m (j+1))
structure Grow (d:Int) (n:Nat) (goal:Int) {ι:Type} (st en:ι->Int) (val:Tb->ι->Int->Option Int) (A:List ι) (Ts:List Tb):Prop where
 first:Ts[0]?=some (stay d n goal)
 ck:∀ (i:Nat) X,Ts[i]?=some X->∀ p,0<=p->p < (n:Int)->Ma.CK d (cl X p)
 grow:∀ (i:Nat) X Y,Ts[i]?=some X->Ts[i+1]?=some Y->∀ p,0<=p->p < (n:Int)->∀ t,Ma.bt d (cl Y p) t=fo st (fun a=>val X a t) p A (Ma.bt d (cl X p) t)
structure Item (d:Int) (n:Nat) {ι:Type} (en:ι->Int) (val:Tb->ι->Int->Option Int) (wt:ι->Nat) (m:Nat) (a:ι):Prop where
 rng:0<=en a/\en a < (n:Int)
 le:∀ X Y:Tb,(∀ t,LeO (Ma.bt d (cl X (en a)) t) (Ma.bt d (cl Y (en a)) t))->∀ t,LeO (val X a t) (val Y a t)
 ge:∀ X:Tb,Ma.CK d (cl X (en a))->∀ t y,val X a t=some y->t<=y
 mu:∀ (X:Tb) (b:Nat),MuO d (Ma.bt d (cl X (en a))) b->MuO d (val X a) (wt a * (m+b))
 none:∀ X:Tb,cl X (en a)=[]->∀ t,val X a t=Option.none
section
variable {d:Int} {n:Nat} {goal:Int} {ι:Type} {st en:ι->Int} {val:Tb->ι->Int->Option Int} {wt:ι->Nat} {m:Nat} {A:List ι} {Ts:List Tb}
theorem Grow.base (hI:∀ a∈A,Item d n en val wt m a) (h:Grow d n goal st en val A Ts):∀ (j:Nat) (X Y:Tb),Ts[j]?=some X->Ts[j+1]?=some Y->∀ p,0<=p->p < (n:Int)->∀ t,Ma.bt d (cl Y p) t=Ma.omin (Ma.bt d (cl (stay d n goal) p) t) (fo st (fun a=>val X a t) p A none)
 | 0,X,Y,hX,hY,p,p0,p1,t=>by
  rw [h.grow 0 X Y hX hY p p0 p1 t]
  have:=h.first
  rw [hX] at this
  cases this
  exact fo_o
 | j+1,X,Y,hX,hY,p,p0,p1,t=>by
  rw [h.grow (j+1) X Y hX hY p p0 p1 t,fo_o]
  have lt:=(List.getElem?_eq_some_iff.mp hX).1
  have hW:=List.getElem?_eq_getElem (show j < Ts.length by omega)
  generalize Ts[j]=W at hW
  rw [h.base hI j W X hW hX p p0 p1 t]
  have le:LeO (fo st (fun a=>val X a t) p A none) (fo st (fun a=>val W a t) p A none):=by
   refine fo_le (fun a ha=>?_) (LeO.refl _)
   refine (hI a ha).le X W (fun t=>?_) t
   rw [h.grow j W X hW hX _ (hI a ha).rng.1 (hI a ha).rng.2 t,fo_o]
   exact LeO.left _ _
  rw [qdp9,qia9 (fo st (fun a=>val W a t) p A none),show Ma.omin (fo st (fun a=>val X a t) p A none) (fo st (fun a=>val W a t) p A none)=_ from le]
theorem Grow.fine (hd:0 < d) (hI:∀ a∈A,Item d n en val wt m a) (h:Grow d n goal st en val A Ts):∀ (j:Nat) (X:Tb),Ts[j]?=some X->∀ p,0<=p->p < (n:Int)->(p=goal->∀ t,Ma.bt d (cl X p) t=some t)/\Ma.MuR d (cl X p) (bdF (wsum (fun a=>en a=goal) wt A) (wsum (fun a=>¬ en a=goal) wt A) m j)/\(j=0->p ≠ goal->cl X p=[])
 | 0,X,hX,p,p0,p1=>by
  have:=h.first
  rw [hX] at this
  cases this
  rw [qmj9 p0 p1]
  by_cases e:p=goal
  ·rw [if_pos e]
   have ck:Ma.CK d [(0,d - 1,0)]:=Ma.ck_still hd
   exact ⟨fun _ t=>Ma.bt_still hd t,MuO.r ck (MuO.id.congr fun t=>Ma.bt_still hd t),fun _ z=>absurd e z⟩
  ·rw [if_neg e]
   exact ⟨fun z=>absurd z e,Ma.mur_nil hd,fun _ _=>rfl⟩
 | j+1,Y,hY,p,p0,p1=>by
  have lt:=(List.getElem?_eq_some_iff.mp hY).1
  have hX:=List.getElem?_eq_getElem (show j < Ts.length by omega)
  generalize Ts[j]=X at hX
  have ih:=h.fine hd hI j X hX
  have e:=h.base hI j X Y hX hY p p0 p1
  have ckY:=h.ck _ Y hY p p0 p1
  refine ⟨fun g t=>?_,MuO.r ckY ?_,fun z=>by cases z⟩
  ·rw [e,qmj9 p0 p1,if_pos g,Ma.bt_still hd]
   exact fo_ge fun a ha y hy=>(hI a ha).ge X (h.ck _ X hX _ (hI a ha).rng.1 (hI a ha).rng.2) t y hy
  ·by_cases g:p=goal
   ·refine (MuO.id.le (Nat.zero_le _)).congr fun t=>?_
    rw [e,qmj9 p0 p1,if_pos g,Ma.bt_still hd]
    exact fo_ge fun a ha y hy=>(hI a ha).ge X (h.ck _ X hX _ (hI a ha).rng.1 (hI a ha).rng.2) t y hy
   ·have e2:∀ t,Ma.bt d (cl Y p) t=fo st (fun a=>val X a t) p A none:=fun t=>by
     rw [e,qmj9 p0 p1,if_neg g]
     rfl
    have h1:∀ a∈A,en a=goal->MuO d (val X a) (wt a * m):=fun a ha ea=>by
     have:=(hI a ha).mu X 0 (MuO.id.congr ((ih _ (hI a ha).rng.1 (hI a ha).rng.2).1 ea))
     rw [Nat.add_zero] at this
     exact this
    match j,ih with
    | 0,ih =>
     have h2:∀ a∈A,¬ en a=goal->MuO d (val X a) (wt a * 0):=fun a ha ea=>.inl ((hI a ha).none X ((ih _ (hI a ha).rng.1 (hI a ha).rng.2).2.2 rfl ea))
     refine ((fo_mu (st:=st) (p:=p) h1 h2).congr e2).le ?_
     rw [Nat.mul_zero,Nat.add_zero]
     exact Nat.le_refl _
    | j+1,ih =>
     have h2:∀ a∈A,¬ en a=goal->MuO d (val X a) (wt a * (m+bdF (wsum (fun a=>en a=goal) wt A) (wsum (fun a=>¬ en a=goal) wt A) m (j+1))):=fun a ha ea=>(hI a ha).mu X _ (MuR.o (ih _ (hI a ha).rng.1 (hI a ha).rng.2).2.1)
     exact (fo_mu (st:=st) (p:=p) h1 h2).congr e2
end
theorem bdF_le (g s m:Nat) (h:g+s<=6):bdF g s m 0<=15 * m/\bdF g s m 1<=15 * m/\bdF g s m 2<=15 * m/\bdF g s m 3<=62 * m:=by
 have k2:∀ g,g<=6->∀ s,s<=6->g+s<=6->g+s * (1+g)<=15/\g+s * (1+(g+s * (1+g)))<=62:=by decide
 obtain ⟨a,b⟩:=k2 g (by omega) s (by omega) h
 have e1:bdF g s m 1=g * m:=rfl
 have e2:bdF g s m 2=(g+s * (1+g)) * m:=by
  show g * m+s * (m+g * m)=_
  rw [Nat.add_mul,Nat.mul_assoc,Nat.add_mul,Nat.one_mul]
 have e3:bdF g s m 3=(g+s * (1+(g+s * (1+g)))) * m:=by
  show g * m+s * (m+bdF g s m 2)=_
  rw [e2,Nat.add_mul g (s * (1+(g+s * (1+g)))),Nat.mul_assoc s,Nat.add_mul 1,Nat.one_mul]
 refine ⟨Nat.zero_le _,?_,?_,?_⟩
 ·rw [e1]; exact Nat.mul_le_mul_right _ (by omega)
 ·rw [e2]; exact Nat.mul_le_mul_right _ a
 ·rw [e3]; exact Nat.mul_le_mul_right _ b
theorem bdF_le4 (g s m:Nat) (h:g+s<=4):bdF g s m 0<=8 * m/\bdF g s m 1<=8 * m/\bdF g s m 2<=8 * m/\bdF g s m 3<=25 * m:=by
 have k2:∀ g,g<=4->∀ s,s<=4->g+s<=4->g+s * (1+g)<=8/\g+s * (1+(g+s * (1+g)))<=25:=by decide
 obtain ⟨a,b⟩:=k2 g (by omega) s (by omega) h
 have e1:bdF g s m 1=g * m:=rfl
 have e2:bdF g s m 2=(g+s * (1+g)) * m:=by
  show g * m+s * (m+g * m)=_
  rw [Nat.add_mul,Nat.mul_assoc,Nat.add_mul,Nat.one_mul]
 have e3:bdF g s m 3=(g+s * (1+(g+s * (1+g)))) * m:=by
  show g * m+s * (m+bdF g s m 2)=_
  rw [e2,Nat.add_mul g (s * (1+(g+s * (1+g)))),Nat.mul_assoc s,Nat.add_mul 1,Nat.one_mul]
 refine ⟨Nat.zero_le _,?_,?_,?_⟩
 ·rw [e1]; exact Nat.mul_le_mul_right _ (by omega)
 ·rw [e2]; exact Nat.mul_le_mul_right _ a
 ·rw [e3]; exact Nat.mul_le_mul_right _ b
abbrev AskT:=Int × Int × Addr × T3 × Addr × List T3
def keyA (a:AskT):Int × Int × Addr × Addr:=(a.1,a.2.1,a.2.2.1,a.2.2.2.2.1)
def encA (k:Int × Int × Addr × Addr):List V:=[.int k.1,.int k.2.1,.ref k.2.2.1,.ref k.2.2.2]
structure AA (H:Hp) (p:Addr) (A:List AskT):Prop where
 la:LA encA H p (A.map keyA)
 bd:∀ a∈A,LA enc3 H a.2.2.1 [a.2.2.2.1]/\LA enc3 H a.2.2.2.2.1 a.2.2.2.2.2
theorem AA.u {H H':Hp} {p:Addr} {A:List AskT} (h:AA H p A) (s:SameU H H'):AA H' p A:=⟨h.la.u s,fun a ha=>⟨(h.bd a ha).1.u s,(h.bd a ha).2.u s⟩⟩
def AOk (d size:Int) (m:Nat) (A:List AskT):Prop:=∀ a∈A,(0<=a.1/\a.1 < size)/\(0<=a.2.1/\a.2.1 < size)/\Ma.CK d [a.2.2.2.1]/\∃ mb,mb+2<=m/\Ma.MuR d a.2.2.2.2.2 mb
def askO (d:Int) (Cs:Tb) (a:AskT) (t:Int):Option Int:=Ma.omax (Ma.obind (Ma.bt d [a.2.2.2.1]) (Ma.bt d (cl Cs a.2.1)) t) (Ma.bt d a.2.2.2.2.2 t)
def asksO (d:Int) (A:List AskT) (Cs:Tb) (p t:Int) (o:Option Int):Option Int:=A.foldl (fun acc a=>if a.1=p then Ma.omin acc (askO d Cs a t) else acc) o
def stepA (d:Int) (A:List AskT) (Cs:Tb) (p t:Int):Option Int:=asksO d A Cs p t (Ma.bt d (cl Cs p) t)
theorem qqc9 {d:Int} {A:List AskT} {a:AskT} {Cs:Tb} {p t:Int} {o:Option Int}:asksO d (A ++ [a]) Cs p t o=if a.1=p then Ma.omin (asksO d A Cs p t o) (askO d Cs a t) else asksO d A Cs p t o:=by simp [asksO]
def spAsk (T:Hp->Prop) (stp:Int->List AskT->Tb->Int->Int->Option Int):Sp:=fun vs H Q _=>∃ (d:Int) (pF:Addr) (F:List AskT) (pt:Addr) (Cs:Tb) (M m:Nat),vs=[.int d,.ref pF,.ref pt]/\AA H pF F/\BA H pt Cs/\T H/\AOk d Cs.length m F/\TOk d M Cs/\M+F.length * (m+M)<=1800000/\m<=1000000/\Cs.length<=1000 /\
 ∀ (l:Addr) (Ds:Tb) (H':Hp),SameU H H'->T H'->H l=none->BA H' l Ds->Yg H H' l->Ds.length=Cs.length->TOk d (M+F.length * (m+M)) Ds->(∀ p,0<=p->p < (Cs.length:Int)->∀ t,Ma.bt d (cl Ds p) t=stp d F Cs p t)->Q (.ref l) H'
def dscA (a:AskT):Int × Int × T3:=(a.1,a.2.1,a.2.2.2.1)
def wsN (N:List RdT):List (Int × Int × T3):=N.flatMap fun m=>m.2.2.2.map fun w=>(m.1,m.2.1,w)
theorem qlj9 {N M:List RdT}:wsN (N ++ M)=wsN N ++ wsN M:=by unfold wsN; rw [List.flatMap_append]
theorem qei9 {m:RdT} {N:List RdT}:wsN (m :: N)=(m.2.2.2.map fun w=>(m.1,m.2.1,w)) ++ wsN N:=by unfold wsN; rw [List.flatMap_cons]
theorem wsN_snoc {N:List RdT} {m:RdT}:wsN (N ++ [m])=wsN N ++ m.2.2.2.map fun w=>(m.1,m.2.1,w):=by simp [wsN]
def BrOk (d:Int) (G:Tb) (a:AskT):Prop:=∀ t,Ma.bt d a.2.2.2.2.2 t=Ma.bt d (cl G a.1) (Ma.nextO d a.2.2.2.1.1 a.2.2.2.1.2.1 t+1)
def qlo9 (T:Hp->Prop):Sp:=fun vs H Q _=>∃ (d:Int) (n:Nat) (pr:Addr) (N:List RdT) (pg:Addr) (G:Tb) (Mg:Nat),vs=[.int d,.ref pr,.ref pg]/\NA H pr N/\BA H pg G/\T H/\0 < d/\NetOk d n N/\G.length=n/\TOk d Mg G/\Mg<=100000/\(wsN N).length<=1000 /\
 ∀ (l:Addr) (A:List AskT) (H':Hp),SameU H H'->T H'->AA H' l A->A.map dscA=wsN N->(∀ a∈A,BrOk d G a)->AOk d n (Mg+4) A->Q (.ref l) H'
section
variable {P:Program} {w:World} {K:W.Frag} {mg:Str->Option Value} {base:Heap} {f:Addr} {fd:FuncData} {n:Nat} {T:Hp->Prop}
theorem qkv9 (hTB:TB T) (F:Fun K "ask_first" "ask_first" qct9 f fd) (Ca0:Callee P w K mg base n "copied_table" ["told"] qec9) (Ch0:Callee P w K mg base n "sooner" ["day","one","other"] (spTwo Ma.omin)) (Cs1:Callee P w K mg base n "later" ["day","one","other"] (spTwo Ma.omax)) (Cl0:Callee P w K mg base n "behind" ["day","one","other"] (qhz9 T)):FnOk P w K mg base CX0 (n+1) f fd ["day","asks","told"] (spAsk T stepA):=by
 refine F.okQ sc_ask_first (fun vs H Q E h=>?_) (fun cdv A outer s H vs Q E hr h=>?_)
 ·obtain ⟨_,_,_,_,_,_,_,rfl,_⟩:=h
  rfl
 obtain ⟨d,pF,F,pt,Cs,M,m,rfl,hF,hB,hT,fok,tok,b1,b2,nl,q⟩:=h
 refine ⟨_,(qac9 (qak9 (i:=3) sc_ask_first.nd rfl (Or.inl rfl) (qe_fn Ca0 hr rfl (qa_c (qv 2) qad9))) (qac9 (qgb9 PassesOwn.never rfl (qdn9 (qv 1)) (qfu9 rfl (qal9 (qam9 (i:=4) sc_ask_first.nd rfl (Or.inl rfl)) (qal9 (qam9 (i:=5) sc_ask_first.nd rfl (Or.inl rfl)) (qal9 (qam9 (i:=6) sc_ask_first.nd rfl (Or.inl rfl)) (qal9 (qam9 (i:=7) sc_ask_first.nd rfl (Or.inl rfl)) qdo9))))) (qac9 (qak9 (i:=8) sc_ask_first.nd rfl (Or.inl rfl) (qe_fn Cs1 hr rfl (qa_c (qv 0) (qa_c (qe_fn Cl0 hr rfl (qa_c (qv 0) (qa_c (qv 6) (qa_c (qe_ix qai9 (qv 2) (qv 5) (fun _ _=>rfl)) qad9)))) (qa_c (qv 7) qad9))))) (qae9 (qjy9 (qe_fn Ch0 hr rfl (qa_c (qv 0) (qa_c (qe_ix qai9 (qv 3) (qv 4) (fun _ _=>rfl)) (qa_c (qv 8) qad9)))) (qg_sub (qv 3) (qv 4) qkn9))))) (qae9 (qax9 (qv 3))))),?_⟩
 walk_at "d"
 refine ⟨_,rfl,pt,Cs,rfl,hB,nl,fun pn H1 s1 f1 B1 Y1=>?_⟩
 have u1:=SameU.of s1
 obtain ⟨ws,hw1,hw2,hw3⟩:=hF.la.lst
 rw [List.length_map] at hw2
 refine ⟨_,rfl,pF,rfl,⟨_,SqL.of (s1 _ _ hw1)⟩,qfi9 (K:=K) (a:=pF) (xs:=ws)
  (fun i σ H'=>∃ (Ds:Tb) (v4 v5 v6 v7 v8:Option V),σ=[some (.int d),some (.ref pF),some (.ref pt),some (.ref pn),v4,v5,v6,v7,v8]/\SameU H H'/\T H'/\BA H' pn Ds/\Yg H H' pn/\Ds.length=Cs.length/\TOk d (M+i * (m+M)) Ds/\∀ p,0<=p->p < (Cs.length:Int)->∀ t,Ma.bt d (cl Ds p) t=asksO d (F.take i) Cs p t (Ma.bt d (cl Cs p) t))
  ⟨Cs,_,_,_,_,_,rfl,u1,hTB.same _ _ hT s1,B1,Y1,rfl,by simpa using tok,fun p _ _ t=>rfl⟩ (fun i σ H' _ z9=>by obtain ⟨_,_,_,_,_,_,_,u,_⟩ := z9;exact SqL.of (u.lst hw1)) ?_ ?_⟩
 ·intro i y σ H2 hi z9;obtain ⟨Ds,v4,v5,v6,v7,v8,rfl,u2,t2,B2,Y2,l2,tok2,e2⟩ := z9
  obtain ⟨r,x,rfl,ex,er⟩:=hw3 i y hi
  have hi2:i < F.length:=by
   have:=(List.getElem?_eq_some_iff.mp hi).1
   omega
  have em:=List.getElem?_eq_getElem hi2
  rw [List.getElem?_map,em] at ex
  cases ex
  have hm:=List.getElem_mem hi2
  generalize F[i]=g at *
  obtain ⟨⟨a0,a1⟩,⟨b0,b1'⟩,ckw,mb,hmb,mub⟩:=fok g hm
  refine ⟨r,_,rfl,SqT.of (u2.tup er),rfl,_,_,rfl,_,_,rfl,_,_,rfl,_,_,rfl,rfl,?_⟩
  obtain ⟨rs,rc,r1,r2,r3,r4,r5⟩:=B2.at a0 (by rw [l2]; exact a1)
  obtain ⟨ts,tc,q1,q2,q3,q4,q5⟩:=(hB.u u2).at b0 b1'
  have muD:=tok2 _ (qjj9 a0 (by rw [l2]; exact a1))
  have muC:=tok _ (qjj9 b0 b1')
  have muw:=Ma.mur_one ckw
  have lb:=mub.len
  have lC:=muC.len
  have lD:=muD.len
  have im:M+i * (m+M)<=M+F.length * (m+M):=Nat.add_le_add_left (Nat.mul_le_mul_right _ (by omega)) _
  have im2:M+(i+1) * (m+M)<=M+F.length * (m+M):=Nat.add_le_add_left (Nat.mul_le_mul_right _ (by omega)) _
  have ie:M+(i+1) * (m+M)=M+i * (m+M)+(m+M):=by rw [Nat.add_mul,Nat.one_mul]; omega
  have bnd:(2 * [g.2.2.2.1].length+1) * (2 * (cl Cs g.2.1).length+2)<=16000000:=by
   show 3 * (2 * (cl Cs g.2.1).length+2)<=16000000
   omega
  refine ⟨_,rfl,_,rfl,_,rfl,_,rfl,_,rfl,pt,_,_,_,rfl,rfl,SqL.of q1,q2,d,g.2.2.1,tc,[g.2.2.2.1],cl Cs g.2.1,rfl,((hF.u u2).bd g hm).1,q5,t2,by simp,by omega,bnd,ckw,muC.1,fun l3 R3 H3 u3 t3 f3 la3 _ ck3 e3=>?_⟩
  have mu3:=Ma.MuR.bind ck3 muw muC e3
  have l3':=mu3.len
  refine ⟨_,rfl,d,l3,g.2.2.2.2.1,R3,g.2.2.2.2.2,rfl,la3,((hF.u (u2.trans u3)).bd g hm).2,by omega,by omega,ck3,mub.1,fun l4 R4 H4 s4 f4 la4 _ ck4 e4=>?_⟩
  have mu4:=Ma.MuR.max ck4 mu3 mub e4
  have l4':=mu4.len
  have u24:=u3.trans (SameU.of s4)
  have t4:=hTB.same _ _ t3 s4
  refine ⟨_,rfl,_,rfl,_,rfl,pn,_,_,_,rfl,rfl,SqL.of (u24.lst r1),r2,_,rfl,d,rc,l4,cl Ds g.1,R4,rfl,r5.u u24,la4,by omega,by omega,muD.1,ck4,fun l5 R5 H5 s5 f5 la5 _ ck5 e5=>?_⟩
  have mu5:=Ma.MuR.min ck5 muD mu4 e5
  have u25:=u24.trans (SameU.of s5)
  have r15:=u25.lst r1
  have nlp:l5 ≠ pn:=fun z=>by rw [z,u24.lst r1] at f5; cases f5
  have nlr:l5 ∉ rs:=fun z=>by
   obtain ⟨rs',x1,x2,x3,x4,x5⟩:=B2.u u24
   rw [u24.lst r1] at x1
   have:=qhp9 (Option.some.inj x1)
   subst this
   obtain ⟨j,hj⟩:=List.getElem?_of_mem z
   have lj:=(List.getElem?_eq_some_iff.mp hj).1
   exact la_ne (enc':=enc3) (x5 j l5 _ hj (List.getElem?_eq_getElem (by omega))) f5 rfl
  refine ⟨_,rfl,_,rfl,pn,_,_,g.1.toNat,rfl,rfl,r15,ixN_pos a0 (by rw [List.length_map,r4,l2]; exact a1),?_⟩
  refine ⟨Ds.set g.1.toNat R5,_,_,_,_,_,rfl,SameU.wr f1 (u2.trans u25),hTB.wr _ _ _ _ (hTB.same _ _ t4 s5) r15,(B2.u u25).set r15 la5 nlp nlr (by omega),Yg.of (rs:=rs.set g.1.toNat l5) (by rw [qaf9,List.map_set]) fun r' hr'=>?_,by simp [l2],fun C hC=>?_,fun p p0 p1 t=>?_⟩
  ·rcases List.mem_or_eq_of_mem_set hr' with z | z
   ·exact Y2 rs r1 r' z
   ·subst z
    exact (u2.trans u24).free f5
  ·rw [ie]
   rcases List.mem_or_eq_of_mem_set hC with z | z
   ·exact (tok2 C z).le (by omega)
   ·subst z
    exact mu5.le (by omega)
  ·rw [qeh9 em,qqc9,cl_set p0 (by rw [l2]; exact p1) a0 (by rw [l2]; exact a1)]
   by_cases z:g.1=p
   ·rw [if_pos z,if_pos z,e5,e2 g.1 a0 a1,e4,e3,z]
    rfl
   ·rw [if_neg z,if_neg z,e2 p p0 p1]
 ·intro σ H2 z9;obtain ⟨Ds,v4,v5,v6,v7,v8,rfl,u2,t2,B2,Y2,l2,tok2,e2⟩ := z9
  rw [hw2] at tok2 e2
  rw [List.take_length] at e2
  exact ⟨_,rfl,q pn Ds H2 u2 t2 f1 B2 Y2 l2 tok2 e2⟩
theorem qoc9 (hTB:TB T) (F:Fun K "guarded" "guarded" qdx9 f fd) (Cl0:Callee P w K mg base n "behind" ["day","one","other"] (qhz9 T)):FnOk P w K mg base CX0 (n+1) f fd ["day","roads","guard"] (qlo9 T):=by
 refine F.okQ sc_guarded (fun vs H Q E h=>?_) (fun cdv A outer s H vs Q E hr h=>?_)
 ·obtain ⟨_,_,_,_,_,_,_,rfl,_⟩:=h
  rfl
 obtain ⟨d,n',pr,N,pg,G,Mg,rfl,hN,hG,hT,hd,nok,lG,tokG,M5,lW,q⟩:=h
 refine ⟨_,(qac9 (qak9 (i:=3) sc_guarded.nd rfl (Or.inl rfl) (qbj9 qad9)) (qac9 (qgb9 PassesOwn.never rfl (qdn9 (qv 1)) (qfu9 rfl (qal9 (qam9 (i:=4) sc_guarded.nd rfl (Or.inl rfl)) (qal9 (qam9 (i:=5) sc_guarded.nd rfl (Or.inl rfl)) (qal9 (qam9 (i:=6) sc_guarded.nd rfl (Or.inl rfl)) qdo9)))) (qae9 (qgb9 PassesOwn.never rfl (qdn9 (qv 6)) (qfu9 rfl (qal9 (qam9 (i:=7) sc_guarded.nd rfl (Or.inl rfl)) (qal9 (qam9 (i:=8) sc_guarded.nd rfl (Or.inl rfl)) (qal9 (qam9 (i:=9) sc_guarded.nd rfl (Or.inl rfl)) qdo9)))) (qae9 (qbg9 (qbm9 (qv 3) (qa_c (qbn9 (qa_c (qv 4) (qa_c (qv 5) (qa_c (qbj9 (qa_c (qbn9 (qa_c (qv 7) (qa_c (qv 8) (qa_c (qv 9) qad9)))) qad9)) (qa_c (qe_fn Cl0 hr rfl (qa_c (qv 0) (qa_c (qbj9 (qa_c (qbn9 (qa_c (qv 7) (qa_c (qv 8) (qa_c qaa9 qad9)))) qad9)) (qa_c (qe_ix qai9 (qv 2) (qv 4) (fun _ _=>rfl)) qad9)))) qad9))))) qad9))))))) (qae9 (qax9 (qv 3))))),?_⟩
 walk_at "d"
 refine ⟨(by show 0<=sizeLine; decide),fun pA hpA=>?_⟩
 have fpA:=hpA
 generalize hgH1:upd _ pA _=H1
 revert H1
 refine qar9 hpA fun H1 s1 e1=>?_
 obtain ⟨ws,w1,w2,w3⟩:=hN.la.lst
 rw [List.length_map] at w2
 have lenT:∀ i (h:i < N.length) j,(wsN (N.take i) ++ ((N[i]).2.2.2.take j).map fun w=>((N[i]).1,(N[i]).2.1,w)).length<=(wsN N).length:=fun i h j=>by
  have h1:wsN N=wsN (N.take i) ++ wsN (N.drop i):=by
   have:=qlj9 (N:=N.take i) (M:=N.drop i)
   rw [List.take_append_drop] at this
   exact this
  have h2:N.drop i=N[i] :: N.drop (i+1):=List.drop_eq_getElem_cons h
  rw [h1,h2,List.length_append,List.length_append]
  rw [qei9,List.length_append,List.length_map,List.length_map,List.length_take]
  omega
 refine ⟨_,rfl,pr,rfl,⟨_,SqL.of (s1 _ _ w1)⟩,qfi9 (K:=K) (a:=pr) (xs:=ws)
  (fun i σ H'=>∃ (A:List AskT) (v4 v5 v6 v7 v8 v9:Option V),σ=[some (.int d),some (.ref pr),some (.ref pg),some (.ref pA),v4,v5,v6,v7,v8,v9]/\SameU H H'/\T H'/\AA H' pA A/\(∀ a∈A,a.2.2.1 ≠ pA/\a.2.2.2.2.1 ≠ pA)/\A.map dscA=wsN (N.take i)/\(∀ a∈A,BrOk d G a)/\AOk d n' (Mg+4) A)
  ⟨[],_,_,_,_,_,_,rfl,SameU.of s1,hTB.same _ _ hT s1,⟨LA.nil e1,fun a ha=>(by cases ha)⟩,fun a ha=>(by cases ha),rfl,fun a ha=>(by cases ha),fun a ha=>(by cases ha)⟩ (fun i σ H' _ z9=>by obtain ⟨_,_,_,_,_,_,_,_,u,_⟩ := z9;exact SqL.of (u.lst w1)) ?_ ?_⟩
 ·intro i y σ H2 hi z9;obtain ⟨A2,v4,v5,v6,v7,v8,v9,rfl,u2,t2,hA,neA,dA,brA,okA⟩ := z9
  obtain ⟨r,x,rfl,ex,er⟩:=w3 i y hi
  have hi2:i < N.length:=by
   have:=(List.getElem?_eq_some_iff.mp hi).1
   omega
  have em:=List.getElem?_eq_getElem hi2
  rw [List.getElem?_map,em] at ex
  cases ex
  have hm:=List.getElem_mem hi2
  have lenI:=lenT i hi2
  generalize N[i]=m at *
  obtain ⟨⟨a0,a1⟩,⟨b0,b1⟩,_,wm⟩:=nok.all m hm
  refine ⟨r,_,rfl,SqT.of (u2.tup er),rfl,_,_,rfl,_,_,rfl,_,_,rfl,rfl,?_⟩
  obtain ⟨bs,c1,c2,c3⟩:=(hN.bd m hm).1.lst
  refine ⟨_,rfl,m.2.2.1,rfl,⟨_,SqL.of (u2.lst c1)⟩,qfi9 (K:=K) (a:=m.2.2.1) (xs:=bs)
   (fun j σ H'=>∃ (A:List AskT) (v7 v8 v9:Option V),σ=[some (.int d),some (.ref pr),some (.ref pg),some (.ref pA),some (.int m.1),some (.int m.2.1),some (.ref m.2.2.1),v7,v8,v9]/\SameU H H'/\T H'/\AA H' pA A/\(∀ a∈A,a.2.2.1 ≠ pA/\a.2.2.2.2.1 ≠ pA)/\A.map dscA=wsN (N.take i) ++ (m.2.2.2.take j).map (fun w=>(m.1,m.2.1,w))/\(∀ a∈A,BrOk d G a)/\AOk d n' (Mg+4) A)
   ⟨A2,_,_,_,rfl,u2,t2,hA,neA,by simpa using dA,brA,okA⟩ (fun j σ H' _ z9=>by obtain ⟨_,_,_,_,_,u,_⟩ := z9;exact SqL.of (u.lst c1)) ?_ ?_⟩
  ·intro j y σ H3 hj z9;obtain ⟨A3,v7',v8',v9',rfl,u3,t3,hA3,neA3,dA3,brA3,okA3⟩ := z9
   obtain ⟨rw',xw,rfl,exw,erw⟩:=c3 j y hj
   have hxw:=List.mem_of_getElem? exw
   obtain ⟨x0,x1,x2,x3⟩:=wm xw hxw
   refine ⟨rw',_,rfl,SqT.of (u3.tup erw),rfl,_,_,rfl,_,_,rfl,_,_,rfl,rfl,?_⟩
   obtain ⟨vs,f1,f2,_⟩:=hA3.la.lst
   refine ⟨_,rfl,.inl ⟨rfl,_,SqL.of f1⟩,_,rfl,_,rfl,_,rfl,_,rfl,_,rfl,(by show 3<=sizeLine; decide),fun r4 hr4=>?_⟩
   generalize hgH4:upd _ r4 _=H4
   revert H4
   refine qar9 hr4 fun H4 s4 e4=>?_
   refine ⟨(by show 1<=sizeLine; decide),fun p5 hp5=>?_⟩
   have np5:p5 ≠ pA:=fun z=>by rw [z,s4 _ _ f1] at hp5; cases hp5
   generalize hgH5:upd _ p5 _=H5
   revert H5
   refine qar9 hp5 fun H5 s5 e5=>?_
   have l5:LA enc3 H5 p5 [xw]:=LA.one e5 (s5 _ _ e4)
   refine ⟨_,rfl,_,rfl,_,rfl,(by show 3<=sizeLine; decide),fun r6 hr6=>?_⟩
   generalize hgH6:upd _ r6 _=H6
   revert H6
   refine qar9 hr6 fun H6 s6 e6=>?_
   refine ⟨(by show 1<=sizeLine; decide),fun p7 hp7=>?_⟩
   generalize hgH7:upd _ p7 _=H7
   revert H7
   refine qar9 hp7 fun H7 s7 e7=>?_
   have l7:LA enc3 H7 p7 [(xw.1,xw.2.1,1)]:=LA.one e7 (s7 _ _ e6)
   have s37:=((s4.trans s5).trans s6).trans s7
   have u7:=u3.trans (SameU.of s37)
   obtain ⟨gs,gc,g1,g2,g3,g4,g5⟩:=(hG.u u7).at a0 (by rw [lG]; exact a1)
   have muG:=tokG _ (qjj9 (Cs:=G) a0 (by rw [lG]; exact a1))
   have lGc:=muG.len
   have ck1:Ma.CK d [(xw.1,xw.2.1,1)]:=Ma.ck_one hd ⟨x0,x1,x2,by show (0:Int)<=1; decide⟩
   refine ⟨_,rfl,_,rfl,pg,_,_,_,rfl,rfl,SqL.of g1,g2,d,p7,gc,_,cl G m.1,rfl,l7,g5,hTB.same _ _ t3 s37,by simp,by omega,?_,ck1,muG.1,fun l8 R8 H8 u8 t8 f8 la8 _ ck8 e8=>?_⟩
   ·show 3 * (2 * (cl G m.1).length+2)<=16000000
    omega
   have mu8:=Ma.MuR.bind ck8 (Ma.mur_one ck1) muG e8
   refine ⟨(by show 4<=sizeLine; decide),fun r9 hr9=>?_⟩
   generalize hgH9:upd _ r9 _=H9
   revert H9
   refine qar9 hr9 fun H9 s9 e9=>?_
   have u39:=(SameU.of s37).trans (u8.trans (SameU.of s9))
   have f1':=u39.lst f1
   have n8:l8 ≠ pA:=fun z=>by rw [z,s37 _ _ f1] at f8; cases f8
   have hA9:=hA3.u u39
   have l5':=l5.u ((SameU.of (s6.trans s7)).trans (u8.trans (SameU.of s9)))
   have la8':=la8.same s9
   have lenA:A3.length<=1000:=by
    have h1:=congrArg List.length dA3
    rw [List.length_map] at h1
    have:=lenI j
    omega
   have br8:BrOk d G (m.1,m.2.1,p5,xw,l8,R8):=fun t=>by
    show Ma.bt d R8 t=Ma.bt d (cl G m.1) (Ma.nextO d xw.1 xw.2.1 t+1)
    rw [e8]
    rfl
   refine ⟨pA,vs,.ref r9,rfl,rfl,f1',qbo9 (by rw [f2,List.length_map]; omega),A3 ++ [(m.1,m.2.1,p5,xw,l8,R8)],_,_,_,rfl,SameU.wr fpA (u3.trans u39),hTB.wr _ _ _ _ (hTB.same _ _ t8 s9) f1',⟨?_,fun a ha=>?_⟩,fun a ha=>?_,?_,fun a ha=>?_,fun a ha=>?_⟩
   ·rw [List.map_append]
    exact hA9.la.append (x:=(m.1,m.2.1,p5,l8)) f1' e9
   ·rcases List.mem_append.mp ha with ha | ha
    ·exact ⟨qce9 (hA9.bd a ha).1 f1' (neA3 a ha).1,qce9 (hA9.bd a ha).2 f1' (neA3 a ha).2⟩
    ·rw [List.mem_singleton] at ha
     subst ha
     exact ⟨qce9 l5' f1' np5,qce9 la8' f1' n8⟩
   ·rcases List.mem_append.mp ha with ha | ha
    ·exact neA3 a ha
    ·rw [List.mem_singleton] at ha
     subst ha
     exact ⟨np5,n8⟩
   ·rw [List.map_append,dA3,qet9 _ exw,List.append_assoc]
    rfl
   ·rcases List.mem_append.mp ha with ha | ha
    ·exact brA3 a ha
    ·rw [List.mem_singleton] at ha
     subst ha
     exact br8
   ·rcases List.mem_append.mp ha with ha | ha
    ·exact okA3 a ha
    ·rw [List.mem_singleton] at ha
     subst ha
     exact ⟨⟨a0,a1⟩,⟨b0,b1⟩,Ma.ck_one hd ⟨x0,x1,x2,by show 0<=xw.2.2; omega⟩,2+Mg,by omega,mu8⟩
  ·intro σ H3 z9;obtain ⟨A3,v7',v8',v9',rfl,u3,t3,hA3,neA3,dA3,brA3,okA3⟩ := z9
   refine ⟨A3,_,_,_,_,_,_,rfl,u3,t3,hA3,neA3,?_,brA3,okA3⟩
   rw [dA3,qeh9 em,wsN_snoc,c2,List.take_length]
 ·intro σ H2 z9;obtain ⟨A2,v4,v5,v6,v7,v8,v9,rfl,u2,t2,hA,neA,dA,brA,okA⟩ := z9
  rw [w2,List.take_length] at dA
  exact ⟨_,rfl,q pA A2 H2 u2 t2 hA dA brA okA⟩
def spStepA (T:Hp->Prop) (stp:Int->List AskT->Tb->Int->Int->Option Int) (qual:Str) (v1 v2:V) (c':Addr):Sp:=match v1,v2 with
 | .int d,.ref pF=>fun vs H Q E=>H c'=some (.ext (CodeQ c' qual))/\∃ pt:Addr,vs=[.ref pt]/\spAsk T stp [.int d,.ref pF,.ref pt] H Q E
 | _,_=>fun _ _ _ _=>False
abbrev gF (p:Int) (F:List AskT):Nat:=wsum (fun a:AskT=>a.2.1=p) (fun _=>1) F
abbrev sF (p:Int) (F:List AskT):Nat:=wsum (fun a:AskT=>¬ a.2.1=p) (fun _=>1) F
theorem gs_len {p:Int} {F:List AskT}:gF p F+sF p F=F.length:=by
 have h:(F.map fun _:AskT=>1).sum=F.length:=by
  induction F with
  | nil=>rfl
  | cons a F ih=>rw [List.map_cons,List.sum_cons,ih,List.length_cons]; omega
 exact wsum_two.trans h
theorem ask_item {d:Int} {n:Nat} {m:Nat} {F:List AskT} (hd:0 < d) (fok:AOk d n m F):∀ a∈F,Item d n (fun a:AskT=>a.2.1) (fun X a t=>askO d X a t) (fun _=>1) m a:=fun a ha=>by
 obtain ⟨_,b,ckw,mb,hmb,mub⟩:=fok a ha
 refine ⟨b,fun X Y h t=>?_,fun X ck t y e=>?_,fun X b hX=>?_,fun X e t=>?_⟩
 ·refine LeO.max ?_ (LeO.refl _)
  unfold Ma.obind
  cases Ma.bt d [a.2.2.2.1] t with
  | none=>exact LeO.refl _
  | some x=>exact h x
 ·have r1:=ckw.rise (Ma.tells_bf (d:=d) (R:=[a.2.2.2.1]) (by simp))
  have T1:=Ma.tells_bf (d:=d) (R:=[a.2.2.2.1]) (by simp) t
  unfold askO Ma.obind at e
  rw [T1] at e
  have g1:=r1.ge t
  generalize Ma.bf d [a.2.2.2.1] t=x at e g1
  have e':Ma.omax (Ma.bt d (cl X a.2.1) x) (Ma.bt d a.2.2.2.2.2 t)=some y:=e
  cases ez:Ma.bt d (cl X a.2.1) x with
  | none=>rw [ez] at e'; cases e'
  | some z =>
   have lz:=qpp9 ck ez
   rw [ez] at e'
   cases eu:Ma.bt d a.2.2.2.2.2 t with
   | none=>rw [eu] at e'; cases e'
   | some u =>
    rw [eu] at e'
    have:Ma.jn true z u=y:=Option.some.inj e'
    rcases Ma.jn_cases true z u with ⟨_,h1,_,_⟩ | ⟨h,_⟩
    ·omega
    ·cases h
 ·have:=(MuO.bind hd (MuR.o (Ma.mur_one ckw)) hX).max (MuR.o mub)
  exact this.le (by omega)
 ·unfold askO Ma.obind
  have h:∀ x,Ma.bt d (cl X a.2.1) x=none:=fun x=>by rw [e]; rfl
  cases Ma.bt d [a.2.2.2.1] t with
  | none=>rfl
  | some x=>show Ma.omax (Ma.bt d (cl X a.2.1) x) _=none; rw [h]; rfl
structure TsOkA (d:Int) (n:Nat) (p:Int) (F:List AskT) (m:Nat) (stp:Int->List AskT->Tb->Int->Int->Option Int) (Ts:List Tb):Prop where
 first:Ts[0]?=some (stay d n p)
 each:∀ (i:Nat) A,Ts[i]?=some A->A.length=n/\TOk d (bdF (gF p F) (sF p F) m i) A
 grow:∀ (i:Nat) A B,Ts[i]?=some A->Ts[i+1]?=some B->∀ p,0<=p->p < (n:Int)->∀ t,Ma.bt d (cl B p) t=stp d F A p t
def qkd9 (T:Hp->Prop) (stp:Int->List AskT->Tb->Int->Int->Option Int) (qual:Str) (v1 v2:V) (fl c':Addr):Sp:=match v1,v2 with
 | .int d,.ref pF=>fun vs H Q _=>∃ (n:Nat) (p:Int) (F:List AskT) (m:Nat),vs=[.int d,.int n,.int p,.ref fl]/\H c'=some (.ext (CodeQ c' qual))/\AA H pF F/\T H/\1<=n/\n<=1000/\0 < d/\AOk d n m F/\m<=1000000/\(∀ i,i+1 < n->bdF (gF p F) (sF p F) m i+F.length * (m+bdF (gF p F) (sF p F) m i)<=1800000) /\
  ∀ (l:Addr) (Ts:List Tb) (H':Hp),SameU H H'->T H'->TL H H' l Ts->Ts.length=n->TsOkA d n p F m stp Ts->Q (.ref l) H'
 | _,_=>fun _ _ _ _=>False
theorem ok_grownA {v1 v2:V} {fl c':Addr} {fdl:FuncData} {qual:Str} {stp:Int->List AskT->Tb->Int->Int->Option Int} (hst:stp=stepA) (hTB:TB T) (F:Fun K "grown" "grown" qcz9 f fd) (B:Bl mg) (Ce0:Callee P w K mg base n "staying" ["day","size","place"] qea9) (Ca0:Callee P w K mg base n "copied_table" ["told"] qec9)
  (G:FnOk P w K mg base CX0 n fl fdl ["told"] (spStepA T stp qual v1 v2 c')) (bG:Binds K fdl ["told"] []) (ho:W.FnAt fl base):FnOk P w K mg base CX0 (n+1) f fd ["day","size","place","step"] (qkd9 T stp qual v1 v2 fl c'):=by
 subst hst
 unfold qkd9
 split
 case h_2=>exact qda9
 rename_i d pF
 refine F.okQ sc_grown (fun vs H Q E h=>?_) (fun cdv A outer s H vs Q E hr h=>?_)
 ·obtain ⟨_,_,_,_,rfl,_⟩:=h
  rfl
 obtain ⟨N,p,Fs,m,rfl,hc,hF,hT,N1,N2,hd,fok,m6,few,q⟩:=h
 refine ⟨_,(qac9 (qak9 (i:=4) sc_grown.nd rfl (Or.inl rfl) (qbj9 (qa_c (qe_fn Ce0 hr rfl (qa_c (qv 0) (qa_c (qv 1) (qa_c (qv 2) qad9)))) qad9))) (qac9 (qfm9 PassesOwn.never (qaj9 qcy9 (qe_cb qao9 rfl B.len qby9 (qa_c (qv 4) qad9)) (qv 1) (qas9 _)) (qae9 (qs_if (qfx9 (QW.pt (qjc9 (qaj9 qgp9 (qe_cb qao9 rfl B.len qby9 (qa_c (qv 4) qad9)) qaa9 (qas9 _)) (qgm9 (qaj9 (qmb9 hr.units) (qe_ix qai9 (qv 4) (qds9 qaa9) (fun _ _=>rfl)) (qe_ix qai9 (qv 4) (qds9 qaa9) (fun _ _=>rfl)) (qas9 _)))))) (qae9 (qbg9 (qbm9 (qv 4) (qa_c (qe_fn Ca0 hr rfl (qa_c (qe_ix qai9 (qv 4) (qds9 qaa9) (fun _ _=>rfl)) qad9)) qad9)))) (qae9 (qbg9 (qbm9 (qv 4) (qa_c ⟨pe_clo 3 G hr bG ho (qa_c (qe_ix qai9 (qv 4) (qds9 qaa9) (fun _ _=>rfl)) qad9).run⟩ qad9))))))) (qae9 (qax9 (qv 4))))),?_⟩
 walk_at "d"
 refine ⟨_,rfl,_,rfl,_,rfl,d,N,p,rfl,N2,fun q0 H1 s1 f1 B1 Y1=>⟨(by show 1<=sizeLine; decide),fun pf hpf=>?_⟩⟩
 have L1:=TL.one (H0:=H) B1 hpf (s1.free hpf) f1 Y1
 have s12:=qan9 hpf (.lst [.ref q0])
 have S2:=s1.trans s12
 have k0:stay d N p∈[stay d N p]:=List.mem_singleton.mpr rfl
 have ok1:TsOkA d N p Fs m stepA [stay d N p]:=⟨rfl,fun i A hA=>by
   match i,hA with
   | 0,hA =>
    cases hA
    refine ⟨by simp [stay],fun C hC=>?_⟩
    obtain ⟨i,_,rfl⟩:=List.mem_map.mp hC
    split
    ·exact MuO.r (Ma.ck_still hd) (MuO.id.congr fun t=>Ma.bt_still hd t)
    ·exact Ma.mur_nil hd
   | i+1,hA=>simp at hA,fun i A B hA hB=>by simp at hB⟩
 generalize upd H1 pf (.lst [.ref q0])=H2 at *
 refine qfj9 (fun σ H'=>σ=[some (.int d),some (.int N),some (.int p),some (.ref fl),some (.ref pf)]/\SameU H H'/\T H'/\∃ Ts:List Tb,TL H H' pf Ts/\1<=Ts.length/\Ts.length<=N/\TsOkA d N p Fs m stepA Ts)
  (fun _ H'=>match H' pf with | some (.lst xs)=>N - xs.length | _=>0) ⟨rfl,SameU.of S2,hTB.same _ _ hT S2,_,L1,Nat.le_refl _,N1,ok1⟩ ?_ ?_
 ·intro σ H3 z9;obtain ⟨rfl,u3,t3,Ts,L3,l1,l2,ok⟩ := z9
  obtain ⟨xs,x1,xl⟩:=L3.lst
  refine ⟨_,rfl,pf,_,rfl,.inl (SqL.of x1),_,rfl,_,_,rfl,rfl,_,rfl,ite2 (fun c=>?_) (fun c=>?_)⟩
  ·have c':(xs.length:Int) < (N:Int):=of_decide_eq_true c
   have hA:Ts[Ts.length - 1]?=some (Ts[Ts.length - 1]'(by omega)):=List.getElem?_eq_getElem (by omega)
   generalize Ts[Ts.length - 1]'(by omega)=A at hA
   obtain ⟨qa,qa1,qa2,qa3,qa4,qa5⟩:=L3.at x1 hA
   obtain ⟨oA1,oA2⟩:=ok.each _ A hA
   have a1:atI xs (-1)=some (.ref qa):=by
    have:=qfl9 (xs:=xs) (k:=1) (Nat.le_refl _) (by omega)
    rw [xl] at this
    exact this.trans qa1
   have mu0:∀ ys:List V,H3 pf=some (.lst ys)->ys=xs:=fun ys e=>by
    rw [x1] at e
    cases e
    rfl
   have fin:∀ (l:Addr) (B:Tb) (H4:Hp),SameU H3 H4->T H4->H3 l=none->BA H4 l B->Yg H3 H4 l->B.length=N->(∀ C∈B,Ma.CK d C)->(∀ p,0<=p->p < (N:Int)->∀ t,Ma.bt d (cl B p) t=stepA d Fs A p t)->∃ p_1 xs v,(V.ref pf:V)=.ref p_1/\[V.ref l]=[v]/\H4 p_1=some (.lst xs)/\xs.length < sizeLine /\
     ((([some (.int d),some (.int N),some (.int p),some (.ref fl),some (.ref pf)]:L2.St)=[some (.int d),some (.int N),some (.int p),some (.ref fl),some (.ref pf)]/\SameU H (upd H4 p_1 (.lst (xs ++ [v])))/\T (upd H4 p_1 (.lst (xs ++ [v])))/\∃ Ts:List Tb,TL H (upd H4 p_1 (.lst (xs ++ [v]))) pf Ts/\1<=Ts.length/\Ts.length<=N/\TsOkA d N p Fs m stepA Ts) /\
     (match upd H4 p_1 (.lst (xs ++ [v])) pf with | some (.lst xs)=>N - xs.length | _=>0) < (match H3 pf with | some (.lst xs)=>N - xs.length | _=>0)):=by
    intro l B H4 u4 t4 fl4 hB hY bl ckB gB
    have x4:=u4.lst x1
    have L4:=L3.snoc u4 fl4 hB hY u3 x4
    obtain ⟨qs0,z1,_,_,z4,_⟩:=id L3
    have fpf:H pf=none:=z4 pf (List.mem_cons_self ..)
    have F1:(Ts ++ [B])[0]?=some (stay d N p):=by
     rw [List.getElem?_append_left (by omega)]
     exact ok.first
    have F2:∀ (i:Nat) C,(Ts ++ [B])[i]?=some C->C.length=N/\∀ R∈C,Ma.CK d R:=by
     intro i C hC
     rcases Nat.lt_or_ge i Ts.length with z | z
     ·rw [List.getElem?_append_left z] at hC
      exact ⟨(ok.each i C hC).1,fun R hR=>((ok.each i C hC).2 R hR).1⟩
     ·have:=(List.getElem?_eq_some_iff.mp hC).1
      simp at this
      have ei:i=Ts.length:=by omega
      subst ei
      rw [List.getElem?_append_right (Nat.le_refl _),Nat.sub_self] at hC
      cases hC
      exact ⟨bl,ckB⟩
    have F3:∀ (i:Nat) C D,(Ts ++ [B])[i]?=some C->(Ts ++ [B])[i+1]?=some D->∀ p,0<=p->p < (N:Int)->∀ t,Ma.bt d (cl D p) t=stepA d Fs C p t:=by
     intro i C D hC hD
     rcases Nat.lt_or_ge (i+1) Ts.length with z | z
     ·rw [List.getElem?_append_left (by omega)] at hC
      rw [List.getElem?_append_left z] at hD
      exact ok.grow i C D hC hD
     ·have:=(List.getElem?_eq_some_iff.mp hD).1
      simp at this
      have ei:i=Ts.length - 1:=by omega
      subst ei
      rw [List.getElem?_append_left (by omega),hA] at hC
      rw [List.getElem?_append_right (by omega),show Ts.length - 1+1 - Ts.length=0 by omega] at hD
      cases hC
      cases hD
      exact gB
    have GR:Grow d N p (fun a:AskT=>a.1) (fun a:AskT=>a.2.1) (fun X a t=>askO d X a t) Fs (Ts ++ [B]):=⟨F1,fun i X hX q q0 q1=>(F2 i X hX).2 _ (qjj9 q0 (by rw [(F2 i X hX).1]; exact q1)),F3⟩
    have E4:∀ (i:Nat) C,(Ts ++ [B])[i]?=some C->C.length=N/\TOk d (bdF (gF p Fs) (sF p Fs) m i) C:=fun i C hC=>by
     refine ⟨(F2 i C hC).1,fun R hR=>?_⟩
     obtain ⟨j,hj⟩:=List.getElem?_of_mem hR
     have lj:=(List.getElem?_eq_some_iff.mp hj).1
     have hl:=(F2 i C hC).1
     have:=(GR.fine hd (ask_item hd fok) i C hC (j:Int) (by omega) (by omega)).2.1
     have ec:cl C (j:Int)=R:=by
      unfold cl
      rw [List.getD_eq_getElem?_getD,Int.toNat_natCast,hj]
      rfl
     rw [ec] at this
     exact this
    refine ⟨pf,xs,_,rfl,rfl,x4,qbo9 (by omega),⟨rfl,SameU.wr fpf (u3.trans u4),hTB.wr _ _ _ _ t4 x4,Ts ++ [B],L4,by simp,by simp; omega,⟨F1,E4,F3⟩⟩,?_⟩
    ·rw [qaf9,x1]
     show N - (xs ++ [V.ref l]).length < N - xs.length
     rw [List.length_append,List.length_singleton]
     omega
   refine ⟨fun b H'=>H'=H3/\(b=true->∃ A',Ts[Ts.length - 1 - 1]?=some A'/\2<=Ts.length/\A'=A),?_,?_⟩
   ·refine ⟨_,rfl,pf,_,rfl,.inl (SqL.of x1),_,_,rfl,rfl,_,rfl,ite2 (fun c2=>?_) (fun c2=>⟨rfl,fun z=>by cases z⟩)⟩
    have c2':(1:Int) < (xs.length:Int):=of_decide_eq_true c2
    have hA':Ts[Ts.length - 1 - 1]?=some (Ts[Ts.length - 1 - 1]'(by omega)):=List.getElem?_eq_getElem (by omega)
    generalize Ts[Ts.length - 1 - 1]'(by omega)=A' at hA'
    obtain ⟨qb,qb1,qb2,qb3,qb4,qb5⟩:=L3.at x1 hA'
    have a2:atI xs (-2)=some (.ref qb):=by
     have:=qfl9 (xs:=xs) (k:=2) (by omega) (by omega)
     rw [xl,show Ts.length - 2=Ts.length - 1 - 1 by omega] at this
     exact this.trans qb1
    refine ⟨_,rfl,_,rfl,pf,_,_,_,rfl,rfl,SqL.of x1,a1,_,rfl,_,rfl,pf,_,_,_,rfl,rfl,SqL.of x1,a2,_,_,qa2.rd,qb2.rd,qlz9 _,qlz9 _,_,rfl,rfl,fun z=>⟨A',hA',by omega,?_⟩⟩
    rw [qft9 eqvB] at z
    exact (of_decide_eq_true z).symm
   intro b H3' z9;obtain ⟨rfl,hb⟩ := z9
   refine ite2 (fun cb=>?_) (fun cb=>?_)
   ·obtain ⟨A',hA',l2',rfl⟩:=hb cb
    refine ⟨_,rfl,.inl ⟨rfl,_,SqL.of x1⟩,_,rfl,_,rfl,pf,_,_,_,rfl,rfl,SqL.of x1,a1,qa,A',rfl,qa2,by omega,fun l H4 s4 f4 B4 Y4=>?_⟩
    refine fin l A' H4 (SameU.of s4) (hTB.same _ _ t3 s4) f4 B4 Y4 oA1 (fun R hR=>(oA2 R hR).1) fun p' p0 p1 t=>?_
    exact ok.grow _ A' A' hA' (by rw [show Ts.length - 1 - 1+1=Ts.length - 1 by omega]; exact hA) p' p0 p1 t
   ·have fw:=few (Ts.length - 1) (by omega)
    refine ⟨_,rfl,.inl ⟨rfl,_,SqL.of x1⟩,rfl,_,rfl,_,rfl,pf,_,_,_,rfl,rfl,SqL.of x1,a1,u3.1 _ _ hc (fun z y=>by cases y),qa,rfl,d,pF,Fs,qa,A,_,m,rfl,hF.u u3,qa2,t3,by rw [oA1]; exact fok,oA2,fw,m6,by omega,fun l Ds H4 u4 t4 f4 B4 Y4 l4 tk4 e4=>?_⟩
    refine fin l Ds H4 u4 t4 f4 B4 Y4 (l4.trans oA1) (fun R hR=>(tk4 R hR).1) fun p' p0 p1 t=>e4 p' p0 (by rw [oA1]; exact p1) t
  ·have c':¬ (xs.length:Int) < (N:Int):=fun z=>c (decide_eq_true z)
   exact ⟨_,rfl,q pf Ts H3 u3 t3 L3 (by omega) ok⟩
 ·intro σ H' Q1 Q2 hq z9;obtain ⟨v,e1,p1,ys,e2,e3,v2,e4,i,j,e5,e6,k,e7,q1⟩ := z9
  exact ⟨v,e1,p1,ys,e2,e3,v2,e4,i,j,e5,e6,k,e7,hq _ _ q1⟩
end
def Ways (W c Mx:Nat):Prop:=(W<=6/\c=62/\Mx=8000)\/(W<=4/\c=25/\Mx=34000)
theorem few_fine {g s f Mg i c Mx W:Nat} (hw:Ways W c Mx) (h:g+s<=W) (hM:Mg<=Mx) (hi:i<=2) (hf:f<=W):bdF g s (Mg+4) i+f * (Mg+4+bdF g s (Mg+4) i)<=1800000:=by
 rcases hw with ⟨w,rfl,rfl⟩ | ⟨w,rfl,rfl⟩
 ·obtain ⟨a,b,c,_⟩:=bdF_le g s (Mg+4) (by omega)
  have k:bdF g s (Mg+4) i<=15 * (Mg+4):=by
   match i,hi with
   | 0,_=>exact a
   | 1,_=>exact b
   | 2,_=>exact c
  have:=Nat.mul_le_mul_right (Mg+4+bdF g s (Mg+4) i) (show f<=6 by omega)
  omega
 ·obtain ⟨a,b,c,_⟩:=bdF_le4 g s (Mg+4) (by omega)
  have k:bdF g s (Mg+4) i<=8 * (Mg+4):=by
   match i,hi with
   | 0,_=>exact a
   | 1,_=>exact b
   | 2,_=>exact c
  have:=Nat.mul_le_mul_right (Mg+4+bdF g s (Mg+4) i) (show f<=4 by omega)
  omega
theorem qlx9 {g s m i c Mx W:Nat} (hw:Ways W c Mx) (h:g+s<=W) (hi:i<=3):bdF g s m i<=c * m:=by
 rcases hw with ⟨w,rfl,rfl⟩ | ⟨w,rfl,rfl⟩
 ·obtain ⟨a,b,c,e⟩:=bdF_le g s m (by omega)
  match i,hi with
  | 0,_=>omega
  | 1,_=>omega
  | 2,_=>omega
  | 3,_=>exact e
 ·obtain ⟨a,b,c,e⟩:=bdF_le4 g s m (by omega)
  match i,hi with
  | 0,_=>omega
  | 1,_=>omega
  | 2,_=>omega
  | 3,_=>exact e
abbrev lamA:Expr:=lamRet ((qag9 qap9).getD 1 (.Pass ⟨0,0,0,0⟩))
theorem sc_lamA (c1 c2:Addr) (ne:c1 ≠ c2):LamScope ["told","day","asks"] ["told"] (lamSc lamA) [("day",c1),("asks",c2)]:=⟨rfl,rfl,rfl,by decide,rfl,by decide +kernel,by decide +kernel,qqf9 (by decide +kernel),qll9 (Ne.symm ne)⟩
def qlw9 (T:Hp->Prop):Sp:=fun vs H Q _=>∃ (d:Int) (n:Nat) (pr:Addr) (N:List RdT) (goal:Int) (pg:Addr) (G:Tb) (Mg:Nat),vs=[.int d,.int n,.ref pr,.int goal,.ref pg]/\NA H pr N/\BA H pg G/\T H/\0 < d/\NetOk d n N/\1<=n/\n<=1000/\G.length=n/\TOk d Mg G/\(∃ c Mx,Ways (wsN N).length c Mx/\Mg<=Mx)/\n<=4 /\
 ∀ (l:Addr) (A:List AskT) (Ts:List Tb) (H':Hp),SameU H H'->T H'->TL H H' l Ts->Ts.length=n->A.map dscA=wsN N->(∀ a∈A,BrOk d G a)->TsOkA d n goal A (Mg+4) stepA Ts->Q (.ref l) H'
section
variable {P:Program} {w:World} {K:W.Frag} {mg:Str->Option Value} {base:Heap} {f g:Addr} {fd gd:FuncData} {n:Nat} {T:Hp->Prop}
theorem ok_lamA {v1 v2:V} {fl c' c1 c2:Addr} {pm ctv:Value} (ne:c1 ≠ c2) (hTB:TB T) (FG:Fun K "grown" "grown" qcz9 g gd) (B:Bl mg) (Ce0:Callee P w K mg base (n+1) "staying" ["day","size","place"] qea9) (Ca0:Callee P w K mg base (n+1) "copied_table" ["told"] qec9) (Co0:Callee P w K mg base n "ask_first" ["day","asks","told"] (spAsk T stepA))
  (hfl:base.get? fl=some (W.kla_obj "<lambda>" (lamQ "guarded_rounds") (qlb9 lamA) (qlf9 lamA) (lamSc lamA) [("day",c1),("asks",c2)] pm c' ctv)) (hca:qid9 base (lamSc lamA) [("day",c1),("asks",c2)] ["told","day","asks"] ["told"] [v1,v2]) :
  FnOk P w K mg base CX0 (n+2) g gd ["day","size","place","step"] (qkd9 T stepA (lamQ "guarded_rounds") v1 v2 fl c'):=by
 refine ok_grownA (n:=n+1) rfl hTB FG B Ce0 Ca0 (lam_ok (k:=n) (N:=["told","day","asks"]) (cs:=[v1,v2]) hfl (fun vs H Q E h=>?_) (sc_lamA c1 c2 ne) hca (fun vs H Q E h=>?_) (fun A outer s H vs Q E hr h=>?_)) (Binds.all fun us hl=>match us,hl with | [_],_=>rfl) ⟨_,_,_,_,hfl⟩
 all_goals unfold spStepA at h
 all_goals split at h
 all_goals first | exact h.elim | skip
 ·exact h.1
 ·obtain ⟨_,_,rfl,_⟩:=h
  rfl
 ·obtain ⟨hc,pt,rfl,h⟩:=h
  refine ⟨_,pe_fn Co0 hr rfl (pa_c (pv 1) (pa_c (pv 2) (pa_c (pv 0) pa_nil))),?_⟩
  exact ⟨_,rfl,_,rfl,_,rfl,h⟩
theorem qnn9 {c P0:Addr} {oc kV doc pm ct:Value} {od an:Option Addr} {osl:Array (Option Value)} (lk:K.lookup f=some ⟨oc,od,.func (W.fnOf "guarded_rounds" "guarded_rounds" (qah9 qap9) (qag9 qap9) (qab9 qap9) .none kV doc pm an (.ref c) ct),osl⟩) (hcd:W.codeIn K (.ref c) "guarded_rounds" = true)
  (B:Bl mg) (hC:W.CodeHd base c P0) (hB:BMain mg base) (FG:Fun K "grown" "grown" qcz9 g gd) (bG:Binds K gd ["day","size","place","step"] []) (mG:mg "grown" = some (.ref g)) (hTB:TB T) (h1:∀ H,T H->TabOk H P0 ⟨238,34,238,73⟩ (lamQ "guarded_rounds")) (h2:∀ H H',T H->SameT P0 H H'->TabOk H' P0 ⟨238,34,238,73⟩ (lamQ "guarded_rounds")->T H')
  (Cl1:Callee P w K mg base (n+2) "guarded" ["day","roads","guard"] (qlo9 T)) (Ce0:Callee P w K mg base (n+1) "staying" ["day","size","place"] qea9) (Ca0:Callee P w K mg base (n+1) "copied_table" ["told"] qec9) (Co0:Callee P w K mg base n "ask_first" ["day","asks","told"] (spAsk T stepA)) :
  FnOk P w K mg base CX0 (n+3) f (W.fnOf "guarded_rounds" "guarded_rounds" (qah9 qap9) (qag9 qap9) (qab9 qap9) .none kV doc pm an (.ref c) ct) ["day","size","roads","goal","guard"] (qlw9 T):=by
 refine fn_of lk hcd sc_guarded_rounds (fun vs H Q E h=>?_) (fun A outer s H vs Q E hr h=>?_)
 ·obtain ⟨_,_,_,_,_,_,_,_,rfl,_⟩:=h
  rfl
 obtain ⟨d,N,pr,Ns,goal,pg,G,Mg,rfl,hN,hG,hT,hd,nok,N1,N2,lG,tokG,⟨c,Mx,hw,M5⟩,n4,q⟩:=h
 have lW:(wsN Ns).length<=6:=by rcases hw with ⟨w,_⟩ | ⟨w,_⟩ <;> omega
 have Mx5:Mx<=34000:=by rcases hw with ⟨_,_,w⟩ | ⟨_,_,w⟩ <;> omega
 refine ⟨_,PSs.nox (QSs.run (qac9 (qak9 (i:=5) sc_guarded_rounds.nd rfl (Or.inr rfl) (qe_fn Cl1 hr rfl (qa_c (qv 0) (qa_c (qv 2) (qa_c (qv 4) qad9))))) (qae9 (qax9 ⟨qhi9 (N:=["told","day","asks"]) (ps:=["told"]) 0 5 hr rfl mG FG.kp bG rfl rfl hC hB rfl rfl rfl (Or.inr (Or.inl rfl)) rfl rfl rfl rfl rfl (Or.inr (Or.inl rfl)) rfl rfl rfl (fun z d e=>(qgh9 z d e).symm) rfl rfl rfl (pv 0) (pv 1) (pv 3) (fun base' fl c' v1 v2 pm ctv md hk hz hfl hca=>ok_lamA (Nat.ne_of_lt (Nat.lt_succ_self _)) hTB FG B (Ce0.widen md hk hz) (Ca0.widen md hk hz) (Co0.widen md hk hz) hfl hca)⟩)))),?_⟩
 walk_at "d"
 refine ⟨_,rfl,_,rfl,_,rfl,d,N,pr,Ns,pg,G,Mg,rfl,hN,hG,hT,hd,nok,lG,tokG,by omega,by omega,fun pA As H1 u1 t1 hA dA brA okA=>?_⟩
 refine ⟨_,_,rfl,rfl,_,rfl,_,rfl,_,rfl,h1 _ t1,fun fl c' H2 sm tb hc'=>?_⟩
 have u2:=SameU.tab sm (h1 _ t1) tb
 have u02:=u1.trans u2
 have lA:As.length=(wsN Ns).length:=by rw [<- dA,List.length_map]
 refine ⟨N,goal,As,Mg+4,rfl,hc',hA.u u2,h2 _ _ t1 sm tb,N1,N2,hd,okA,by omega,fun i hi=>few_fine hw (by rw [gs_len,lA]; exact Nat.le_refl _) M5 (by omega) (by rw [lA]; exact Nat.le_refl _),fun l Ts H3 u3 t3 L3 l3 ok3=>?_⟩
 exact q l As Ts H3 (u02.trans u3) t3 (L3.old u02) l3 dA brA ok3
end
def L0 (d:Int) (n:Nat) (goal:Int) (N:List RdT) (C:Tb):Prop:=∃ (F:List RdT) (m:Nat) (Ts:List Tb),Fords d N F/\FOk d n m F/\TsOk d n goal F m stepT Ts/\Ts[n - 1]?=some C
def L1 (d:Int) (n:Nat) (goal:Int) (N:List RdT) (G C:Tb):Prop:=∃ (A:List AskT) (m:Nat) (Ts:List Tb),A.map dscA=wsN N/\(∀ a∈A,BrOk d G a)/\TsOkA d n goal A m stepA Ts/\Ts[n - 1]?=some C
def mkF (c:Nat):Nat->Nat
 | 0=>c * 2
 | k+1=>c * (mkF c k+4)
theorem qpz9 {ι κ:Type} {st:ι->Int} {st':κ->Int} {val:ι->Option Int} {val':κ->Option Int} {p:Int}:∀ {A:List ι} {B:List κ} {o:Option Int},A.length=B.length->(∀ (i:Nat) a b,A[i]?=some a->B[i]?=some b->st a=st' b/\val a=val' b)->fo st val p A o=fo st' val' p B o
 | [],[],o,_,_=>rfl
 | [],b :: B,o,h,_=>by cases h
 | a :: A,[],o,h,_=>by cases h
 | a :: A,b :: B,o,h,hv=>by
  obtain ⟨e1,e2⟩:=hv 0 a b rfl rfl
  show fo st val p A (if st a=p then _ else _)=fo st' val' p B (if st' b=p then _ else _)
  rw [e1,e2]
  exact qpz9 (Nat.succ.inj h) fun i x y hx hy=>hv (i+1) x y hx hy
theorem qpq9 {d:Int} (hd:0 < d):∀ {R:List T3},Ma.Wins d R->MuO d (Ma.bt d R) (R.length * 2)
 | [],_=>.inl fun t=>rfl
 | w :: R,W=>by
  have h1:=MuR.o (Ma.mur_one (Ma.ck_one hd (W w (List.mem_cons_self ..))))
  have h2:=qpq9 hd (R:=R) fun x hx=>W x (List.mem_cons_of_mem _ hx)
  refine ((h1.min h2).le (by rw [List.length_cons]; omega)).congr fun t=>?_
  exact Ma.bt_append d [w] R t
theorem road_item {d:Int} {n:Nat} {N:List RdT} (hd:0 < d) (nok:NetOk d n N):∀ a∈N,Item d n (fun m:RdT=>m.2.1) (fun X m t=>Ma.obind (Ma.bt d m.2.2.2) (Ma.bt d (cl X m.2.1)) t) (fun m=>m.2.2.2.length) 2 a:=fun a ha=>by
 have W:=nok.wins ha
 refine ⟨(nok.all a ha).2.1,fun X Y h t=>?_,fun X ck t y e=>?_,fun X b hX=>?_,fun X e t=>?_⟩
 ·unfold Ma.obind
  cases Ma.bt d a.2.2.2 t with
  | none=>exact LeO.refl _
  | some x=>exact h x
 ·unfold Ma.obind at e
  cases ex:Ma.bt d a.2.2.2 t with
  | none=>rw [ex] at e; cases e
  | some x =>
   rw [ex] at e
   have n0:a.2.2.2 ≠ []:=fun z=>by rw [z] at ex; cases ex
   have T:=Ma.tells_bf (d:=d) n0
   have:=(Ma.board_rise hd W T).ge t
   rw [T t] at ex
   have:=Option.some.inj ex
   have:=qpp9 ck (show Ma.bt d (cl X a.2.1) x=some y from e)
   omega
 ·by_cases z:a.2.2.2=[]
  ·exact .inl fun t=>by unfold Ma.obind; rw [z]; rfl
  ·have lp:=List.length_pos_iff.mpr z
   refine (MuO.bind hd (qpq9 hd W) hX).le ?_
   have:=Nat.mul_le_mul_right b (show 1<=a.2.2.2.length from lp)
   rw [Nat.mul_add]
   omega
 ·unfold Ma.obind
  have h:∀ x,Ma.bt d (cl X a.2.1) x=none:=fun x=>by rw [e]; rfl
  cases Ma.bt d a.2.2.2 t with
  | none=>rfl
  | some x=>exact h x
theorem ws_sum {N:List RdT}:(N.map fun m:RdT=>m.2.2.2.length).sum=(wsN N).length:=by
 induction N with
 | nil=>rfl
 | cons m N ih=>rw [List.map_cons,List.sum_cons,qei9,List.length_append,List.length_map,ih]
theorem L0.fine {d:Int} {n:Nat} {goal:Int} {N:List RdT} {C:Tb} {c Mx:Nat} (hd:0 < d) (nok:NetOk d n N) (hw:Ways (wsN N).length c Mx) (n4:n<=4) (n1:1<=n) (h:L0 d n goal N C):C.length=n/\TOk d (mkF c 0) C:=by
 obtain ⟨F,m,Ts,fo',fok,ok,hC⟩:=h
 have GR:Grow d n goal (fun m:RdT=>m.1) (fun m:RdT=>m.2.1) (fun X m t=>Ma.obind (Ma.bt d m.2.2.2) (Ma.bt d (cl X m.2.1)) t) N Ts:=by
  refine ⟨ok.first,fun i X hX q q0 q1=>((ok.each i X hX).2 _ (qjj9 q0 (by rw [(ok.each i X hX).1]; exact q1))).1,fun i X Y hX hY q q0 q1 t=>?_⟩
  rw [ok.grow i X Y hX hY q q0 q1 t]
  refine qpz9 fo'.1 fun i f x hf hx=>?_
  obtain ⟨e1,e2,_,_,e5⟩:=fo'.2 i x f hx hf
  refine ⟨e1,?_⟩
  unfold Ma.obind
  rw [e5,e2]
 refine ⟨(ok.each _ C hC).1,fun R hR=>?_⟩
 obtain ⟨j,hj⟩:=List.getElem?_of_mem hR
 have lj:=(List.getElem?_eq_some_iff.mp hj).1
 have hl:=(ok.each _ C hC).1
 have:=(GR.fine hd (road_item hd nok) (n - 1) C hC (j:Int) (by omega) (by omega)).2.1
 have ec:cl C (j:Int)=R:=by
  unfold cl
  rw [List.getD_eq_getElem?_getD,Int.toNat_natCast,hj]
  rfl
 rw [ec] at this
 refine this.le (qlx9 (m:=2) hw (by rw [wsum_two,ws_sum]; exact Nat.le_refl _) (by omega))
structure LvOk (d:Int) (n:Nat) (goal:Int) (N:List RdT) (Cs:List Tb):Prop where
 zero:∀ C,Cs[0]?=some C->L0 d n goal N C
 suc:∀ k G C,Cs[k]?=some G->Cs[k+1]?=some C->L1 d n goal N G C
 each:∀ (k:Nat) C,Cs[k]?=some C->C.length=n/\∃ M,TOk d M C
theorem LvOk.ckAt {d:Int} {n:Nat} {goal:Int} {N:List RdT} {Cs:List Tb} (ok:LvOk d n goal N Cs) {k:Nat} {G:Tb} (hG:Cs[k]?=some G) {p:Int} (p0:0<=p) (p1:p < (n:Int)):Ma.CK d (cl G p):=by
 obtain ⟨l,M,h⟩:=ok.each k G hG
 exact (h _ (qjj9 p0 (by rw [l]; exact p1))).1
theorem hide_u {p:Addr} {H H':Hp} (s:SameU H H'):SameU (hide p H) (hide p H'):=by
 refine ⟨fun b o e nt=>?_,fun b o e=>?_⟩
 ·unfold hide at e ⊢
  by_cases c:b=p
  ·rw [if_pos c] at e
   cases e
  ·rw [if_neg c] at e ⊢
   exact s.1 b o e nt
 ·unfold hide at e ⊢
  by_cases c:b=p
  ·rw [if_pos c] at e
   cases e
  ·rw [if_neg c] at e ⊢
   exact s.2 b o e
theorem hide_wr {p:Addr} {H:Hp} {o:HO}:hide p (upd H p o)=hide p H:=funext fun b=>by
 unfold hide
 by_cases c:b=p
 ·rw [if_pos c,if_pos c]
 ·rw [if_neg c,if_neg c,qaq9 c]
theorem LA.hide {H:Hp} {p b:Addr} {R:List T3} {zs:List V} (h:LA enc3 H b R) (hp:H p=some (.lst zs)) (nb:b ≠ p):LA enc3 (hide p H) b R:=by
 obtain ⟨rs,h1,h2,h3⟩:=h.ex
 refine ⟨rs,qdr9 h1 nb,h2,fun i r x e1 e2=>?_⟩
 have:=h3 i r x e1 e2
 exact qdr9 this fun z=>by rw [z,hp] at this; cases this
theorem BA.hide {H:Hp} {p q:Addr} {C:Tb} {zs:List V} (h:BA H q C) (hp:H p=some (.lst zs)) (nq:q ≠ p) (nr:∀ rs:List Addr,H q=some (.lst (rs.map V.ref))->p ∉ rs):BA (hide p H) q C:=by
 obtain ⟨rs,h1,h2,h3,h4,h5⟩:=h
 exact ⟨rs,qdr9 h1 nq,h2,h3,h4,fun i r B a b=>(h5 i r B a b).hide hp fun z=>nr rs h1 (z ▸ List.mem_of_getElem? a)⟩
def LR (H:Hp) (p:Addr) (Cs:List Tb):Prop:=∃ ls:List Addr,H p=some (.lst (ls.map V.ref))/\ls.length=Cs.length/\∀ (i:Nat) l C,ls[i]?=some l->Cs[i]?=some C->∃ (xs:List V) (q:Addr),hide p H l=some (.lst xs)/\atI xs (-1)=some (.ref q)/\BA (hide p H) q C
theorem LR.u {H H':Hp} {p:Addr} {Cs:List Tb} (h:LR H p Cs) (s:SameU H H'):LR H' p Cs:=by
 obtain ⟨ls,h1,h2,h3⟩:=h
 refine ⟨ls,s.lst h1,h2,fun i l C a b=>?_⟩
 obtain ⟨xs,q,e1,e2,e3⟩:=h3 i l C a b
 exact ⟨xs,q,(hide_u s).lst e1,e2,e3.u (hide_u s)⟩
theorem LR.snoc {H:Hp} {p l q:Addr} {Cs:List Tb} {C:Tb} {ls:List Addr} {xs:List V} (h:LR H p Cs) (hx:H p=some (.lst (ls.map V.ref))) (e1:hide p H l=some (.lst xs)) (e2:atI xs (-1)=some (.ref q)) (e3:BA (hide p H) q C):LR (upd H p (.lst (ls.map V.ref ++ [.ref l]))) p (Cs ++ [C]):=by
 obtain ⟨ls',h1,h2,h3⟩:=h
 rw [hx] at h1
 have e:=qhp9 (Option.some.inj h1)
 subst e
 refine ⟨ls ++ [l],by rw [qaf9,List.map_append]; rfl,by simp [h2],fun i l' C' a b=>?_⟩
 rw [hide_wr]
 rcases Nat.lt_or_ge i ls.length with c | c
 ·rw [List.getElem?_append_left c] at a
  rw [List.getElem?_append_left (by omega)] at b
  exact h3 i l' C' a b
 ·have li:=(List.getElem?_eq_some_iff.mp a).1
  rw [List.length_append,List.length_singleton] at li
  have:i=ls.length:=by omega
  subst this
  rw [List.getElem?_append_right (Nat.le_refl _),Nat.sub_self] at a
  rw [List.getElem?_append_right (by omega),show ls.length - Cs.length=0 by omega] at b
  cases a
  cases b
  exact ⟨xs,q,e1,e2,e3⟩
def spTurn:Sp:=fun vs H Q _=>∃ k:Int,vs=[.int k]/\0<=k/\Q .non H
def LvIn (T:Hp->Prop) (d:Int) (n:Nat) (pr:Addr) (N:List RdT) (goal:Int) (most m:Nat) (H:Hp):Prop:=NA H pr N/\T H/\0 < d/\NetOk d n N/\1<=n/\n<=1000/\N.length<=1000/\(∀ x∈N,4 * x.2.2.2.length+2<=m)/\Few N.length m n/\((wsN N).length<=6/\most<=2\/(wsN N).length<=4/\most<=3)/\n<=4/\0<=goal/\goal < (n:Int)
def qlu9 (T:Hp->Prop):Sp:=fun vs H Q _=>∃ (d:Int) (n:Nat) (pr:Addr) (N:List RdT) (goal:Int) (most m:Nat),vs=[.int d,.int n,.ref pr,.int goal,.int most]/\LvIn T d n pr N goal most m H /\
 ∀ (l:Addr) (Cs:List Tb) (H':Hp),SameU H H'->T H'->LR H' l Cs->Cs.length=most+1->LvOk d n goal N Cs->Q (.ref l) H'
section
variable {P:Program} {w:World} {K:W.Frag} {mg:Str->Option Value} {base:Heap} {f:Addr} {fd:FuncData} {n:Nat} {T:Hp->Prop}
theorem qkt9 (F:Fun K "need_turn" "need_turn" qca9 f fd) (Cc0:Callee P w K mg base n "is_whole" ["thing"] qez9):FnOk P w K mg base CX0 (n+1) f fd ["thing"] spTurn:=by
 refine F.okQ qgj9 (fun vs H Q E h=>?_) (fun cdv A outer s H vs Q E hr h=>?_)
 ·obtain ⟨_,rfl,_⟩:=h
  rfl
 obtain ⟨k,rfl,k0,q⟩:=h
 refine ⟨_,(qae9 (qs_if (QW.pt (qw_or (qee9 (qcq9 (qe_fn Cc0 hr rfl (qa_c (qv 0) qad9)))) (qff9 (qaj9 qcy9 (qv 0) qaa9 (qas9 _))))) (qae9 qgu9) qat9)),?_⟩
 walk_at "d"
 refine ⟨_,rfl,.int k,rfl,.int _,_,rfl,iteF ?_⟩
 exact ⟨_,rfl,_,_,rfl,rfl,_,rfl,iteN (by simp; omega) q⟩
theorem qok9 (hTB:TB T) (F:Fun K "level_rounds" "level_rounds" qbl9 f fd) (B:Bl mg) (Cg1:Callee P w K mg base n "need_net" ["day","size","roads"] qio9) (Ck0:Callee P w K mg base n "need_place" ["size","thing"] qeo9) (Cy0:Callee P w K mg base n "need_turn" ["thing"] spTurn) (Cz0:Callee P w K mg base n "rounds_to" ["day","size","roads","goal"] (qpx9 T)) (Cq0:Callee P w K mg base n "guarded_rounds" ["day","size","roads","goal","guard"] (qlw9 T)):FnOk P w K mg base CX0 (n+1) f fd ["day","size","roads","goal","most"] (qlu9 T):=by
 refine F.okQ sc_level_rounds (fun vs H Q E h=>?_) (fun cdv A outer s H vs Q E hr h=>?_)
 ·obtain ⟨_,_,_,_,_,_,_,rfl,_⟩:=h
  rfl
 obtain ⟨d,N,pr,Ns,goal,most,m,rfl,⟨hN,hT,hd,nok,N1,N2,nl,lm,few,lW,n4,g0,g1⟩,q⟩:=h
 refine ⟨_,(qac9 (qbg9 (qe_fn Cg1 hr rfl (qa_c (qv 0) (qa_c (qv 1) (qa_c (qv 2) qad9))))) (qac9 (qbg9 (qe_fn Ck0 hr rfl (qa_c (qv 1) (qa_c (qv 3) qad9)))) (qac9 (qbg9 (qe_fn Cy0 hr rfl (qa_c (qv 4) qad9))) (qac9 (qak9 (i:=5) sc_level_rounds.nd rfl (Or.inl rfl) (qbj9 (qa_c (qe_fn Cz0 hr rfl (qa_c (qv 0) (qa_c (qv 1) (qa_c (qv 2) (qa_c (qv 3) qad9))))) qad9))) (qac9 (qfm9 PassesOwn.never (qaj9 qjf9 (qe_cb qao9 rfl B.len qby9 (qa_c (qv 5) qad9)) (qv 4) (qas9 _)) (qae9 (qbg9 (qbm9 (qv 5) (qa_c (qe_fn Cq0 hr rfl (qa_c (qv 0) (qa_c (qv 1) (qa_c (qv 2) (qa_c (qv 3) (qa_c (qe_ix qai9 (qe_ix qai9 (qv 5) (qds9 qaa9) (fun _ _=>rfl)) (qds9 qaa9) (fun _ _=>rfl)) qad9)))))) qad9))))) (qae9 (qax9 (qv 5)))))))),?_⟩
 walk_at "d"
 obtain ⟨cc,Mx,hw,hmk,m100⟩:∃ c Mx,Ways (wsN Ns).length c Mx/\(∀ k,k+1<=most->mkF c k<=Mx)/\most<=3:=by
  rcases lW with ⟨a,b⟩ | ⟨a,b⟩
  ·refine ⟨62,8000,.inl ⟨a,rfl,rfl⟩,fun k hk=>?_,by omega⟩
   rcases (by omega:k=0\/k=1) with e | e <;> rw [e] <;> decide
  ·refine ⟨25,34000,.inr ⟨a,rfl,rfl⟩,fun k hk=>?_,b⟩
   rcases (by omega:k=0\/k=1\/k=2) with e | e | e <;> rw [e] <;> decide
 refine ⟨_,rfl,_,rfl,_,rfl,d,N,pr,Ns,rfl,hN,nl,nok,by omega,fun H1 s1=>?_⟩
 refine ⟨_,rfl,_,rfl,N,goal,rfl,g0,g1,?_⟩
 refine ⟨_,rfl,(most:Int),rfl,by omega,?_⟩
 refine ⟨_,rfl,_,rfl,_,rfl,_,rfl,d,N,pr,Ns,goal,m,rfl,hN.same s1,hTB.same _ _ hT s1,hd,nok,N1,N2,nl,lm,few,g0,g1,fun l0 Fs Ts H2 u2 t2 fo L2' l2 ok2=>?_⟩
 refine ⟨(by show 1<=sizeLine; decide),fun pf hpf=>?_⟩
 have fpf:H pf=none:=s1.free (u2.free hpf)
 have hC:Ts[N - 1]?=some (Ts[N - 1]'(by omega)):=List.getElem?_eq_getElem (by omega)
 generalize Ts[N - 1]'(by omega)=C at hC
 obtain ⟨xs,x1,xl⟩:=L2'.lst
 obtain ⟨qa,qa1,qa2,qa3,qa4,qa5⟩:=L2'.at x1 hC
 have a1:atI xs (-1)=some (.ref qa):=by
  have:=qfl9 (xs:=xs) (k:=1) (Nat.le_refl _) (by omega)
  rw [xl,l2] at this
  exact this.trans qa1
 have nl0:l0 ≠ pf:=fun z=>by rw [z,hpf] at x1; cases x1
 have s23:=qan9 hpf (.lst [.ref l0])
 have e3:upd H2 pf (.lst [.ref l0]) pf=some (.lst ([l0].map V.ref)):=qaf9
 have LR3:LR (upd H2 pf (.lst [.ref l0])) pf [C]:=by
  refine ⟨[l0],e3,rfl,fun i l C' a b=>?_⟩
  match i,a,b with
  | 0,a,b =>
   cases a
   cases b
   refine ⟨xs,qa,qdr9 (s23 _ _ x1) nl0,a1,(qa2.u (SameU.of s23)).hide qaf9 (fun z=>?_) fun rs hr hm=>?_⟩
   ·obtain ⟨rs,z1,_⟩:=qa2
    rw [z,hpf] at z1
    cases z1
   ·obtain ⟨rs',z1,z2,z3,z4,z5⟩:=qa2
    rw [s23 _ _ z1] at hr
    have e:=qhp9 (Option.some.inj hr)
    subst e
    obtain ⟨j,hj⟩:=List.getElem?_of_mem hm
    have lj:=(List.getElem?_eq_some_iff.mp hj).1
    exact la_ne (enc':=enc3) (z5 j pf _ hj (List.getElem?_eq_getElem (by omega))) hpf rfl
  | k+1,a,b=>simp at a
 have ok3:LvOk d N goal Ns [C]/\∀ (k:Nat) C',[C][k]?=some C'->C'.length=N/\TOk d (mkF cc k) C':=⟨⟨fun C' e=>by cases e; exact ⟨Fs,m,Ts,fo,fo.ok nok lm,ok2,hC⟩,fun k G C' _ e=>by simp at e,fun k C' e=>by
  match k,e with
  | 0,e =>
   cases e
   have:=L0.fine hd nok hw n4 N1 ⟨Fs,m,Ts,fo,fo.ok nok lm,ok2,hC⟩
   exact ⟨this.1,_,this.2⟩
  | k+1,e=>simp at e⟩,fun k C' e=>by
  match k,e with
  | 0,e =>
   cases e
   exact L0.fine hd nok hw n4 N1 ⟨Fs,m,Ts,fo,fo.ok nok lm,ok2,hC⟩
  | k+1,e=>simp at e⟩
 have u3:SameU H (upd H2 pf (.lst [.ref l0])):=(SameU.of s1).trans (u2.trans (SameU.of s23))
 have t3:=hTB.same _ _ t2 s23
 generalize upd H2 pf (.lst [.ref l0])=H3 at *
 refine qfj9 (fun σ H'=>σ=[some (.int d),some (.int N),some (.ref pr),some (.int goal),some (.int most),some (.ref pf)]/\SameU H H'/\T H'/\∃ Cs:List Tb,LR H' pf Cs/\1<=Cs.length/\Cs.length<=most+1/\LvOk d N goal Ns Cs/\∀ (k:Nat) C',Cs[k]?=some C'->C'.length=N/\TOk d (mkF cc k) C')
  (fun _ H'=>match H' pf with | some (.lst xs)=>most+1 - xs.length | _=>0) ⟨rfl,u3,t3,[C],LR3,Nat.le_refl _,by simp,ok3⟩ ?_ ?_
 ·intro σ H4 z9;obtain ⟨rfl,u4,t4,Cs,R4,c1,c2,ok4,bd4⟩ := z9
  obtain ⟨ls,r1,r2,r3⟩:=id R4
  refine ⟨_,rfl,pf,_,rfl,.inl (SqL.of r1),_,rfl,_,_,rfl,rfl,_,rfl,ite2 (fun c=>?_) (fun c=>?_)⟩
  ·have c':(((ls.map V.ref).length:Nat):Int)<=(most:Int):=of_decide_eq_true c
   rw [List.length_map] at c'
   have hG:=List.getElem?_eq_getElem (show Cs.length - 1 < Cs.length by omega)
   have hl:=List.getElem?_eq_getElem (show Cs.length - 1 < ls.length by omega)
   generalize Cs[Cs.length - 1]=G at hG
   generalize ls[Cs.length - 1]=lg at hl
   obtain ⟨xg,qg,g1',g2',g3'⟩:=r3 _ lg G hl hG
   have b1:atI (ls.map V.ref) (-1)=some (.ref lg):=by
    have:=qfl9 (xs:=ls.map V.ref) (k:=1) (Nat.le_refl _) (by rw [List.length_map]; omega)
    rw [List.length_map,r2,List.getElem?_map,hl] at this
    exact this
   have hG4:BA H4 qg G:=g3'.u (SameU.of qhk9)
   have hx4:H4 lg=some (.lst xg):=qhk9 _ _ g1'
   obtain ⟨lG,tokG⟩:=bd4 _ G hG
   have mg1:mkF cc (Cs.length - 1)<=Mx:=hmk _ (by omega)
   refine ⟨_,rfl,.inl ⟨rfl,_,SqL.of r1⟩,_,rfl,_,rfl,_,rfl,_,rfl,_,rfl,_,rfl,pf,_,_,_,rfl,rfl,SqL.of r1,b1,_,rfl,lg,_,_,_,rfl,rfl,SqL.of hx4,g2',d,N,pr,Ns,goal,qg,G,_,rfl,hN.u u4,hG4,t4,hd,nok,N1,N2,lG,tokG,⟨cc,Mx,hw,mg1⟩,n4,fun l5 As Ts5 H5 u5 t5 L5 l5' dA brA ok5=>?_⟩
   have hC5:Ts5[N - 1]?=some (Ts5[N - 1]'(by omega)):=List.getElem?_eq_getElem (by omega)
   generalize Ts5[N - 1]'(by omega)=C5 at hC5
   obtain ⟨ys,y1,yl⟩:=L5.lst
   obtain ⟨qb,qb1,qb2,qb3,qb4,qb5⟩:=L5.at y1 hC5
   have a5:atI ys (-1)=some (.ref qb):=by
    have:=qfl9 (xs:=ys) (k:=1) (Nat.le_refl _) (by omega)
    rw [yl,l5'] at this
    exact this.trans qb1
   have nl5:l5 ≠ pf:=fun z=>by
    obtain ⟨qs0,z1,_,_,z4,_⟩:=id L5
    have:=z4 l5 (List.mem_cons_self ..)
    rw [z,r1] at this
    cases this
   have nq5:qb ≠ pf:=fun z=>by rw [z,r1] at qb3; cases qb3
   have hB5:BA (hide pf H5) qb C5:=qb2.hide (u5.lst r1) nq5 fun rs hr hm=>by
    have:=qb4 rs hr pf hm
    rw [r1] at this
    cases this
   have R6:=(R4.u u5).snoc (u5.lst r1) (qdr9 y1 nl5) a5 hB5
   have lA:As.length=(wsN Ns).length:=by rw [<- dA,List.length_map]
   have bd6:∀ (k:Nat) C',(Cs ++ [C5])[k]?=some C'->C'.length=N/\TOk d (mkF cc k) C':=fun k C' e=>by
    rcases Nat.lt_or_ge k Cs.length with z | z
    ·rw [List.getElem?_append_left z] at e
     exact bd4 k C' e
    ·have lk:=(List.getElem?_eq_some_iff.mp e).1
     rw [List.length_append,List.length_singleton] at lk
     have ek:k=Cs.length - 1+1:=by omega
     rw [List.getElem?_append_right (by omega),show k - Cs.length=0 by omega] at e
     cases e
     have:=ok5.each _ _ hC5
     rw [ek]
     exact ⟨this.1,this.2.le (qlx9 (m:=mkF cc (Cs.length - 1)+4) hw (by rw [gs_len,lA]; exact Nat.le_refl _) (by omega))⟩
   refine ⟨pf,_,.ref l5,rfl,rfl,u5.lst r1,qbo9 (by rw [List.length_map]; omega),⟨rfl,SameU.wr fpf (u4.trans u5),hTB.wr _ _ _ _ t5 (u5.lst r1),Cs ++ [C5],R6,by simp,by simp; omega,⟨fun C' e=>?_,fun k G' C' e e'=>?_,fun k C' e=>⟨(bd6 k C' e).1,_,(bd6 k C' e).2⟩⟩,bd6⟩,?_⟩
   ·rw [List.getElem?_append_left (by omega)] at e
    exact ok4.zero C' e
   ·rcases Nat.lt_or_ge (k+1) Cs.length with z | z
    ·rw [List.getElem?_append_left (by omega)] at e
     rw [List.getElem?_append_left z] at e'
     exact ok4.suc k G' C' e e'
    ·have lk:=(List.getElem?_eq_some_iff.mp e').1
     rw [List.length_append,List.length_singleton] at lk
     have ek:k=Cs.length - 1:=by omega
     subst ek
     rw [List.getElem?_append_left (by omega),hG] at e
     rw [List.getElem?_append_right (by omega),show Cs.length - 1+1 - Cs.length=0 by omega] at e'
     cases e
     cases e'
     exact ⟨As,_,Ts5,dA,brA,ok5,hC5⟩
   ·rw [qaf9,r1]
    show most+1 - (ls.map V.ref ++ [V.ref l5]).length < most+1 - (ls.map V.ref).length
    rw [List.length_append,List.length_singleton,List.length_map]
    omega
  ·have c':¬ (((ls.map V.ref).length:Nat):Int)<=(most:Int):=fun z=>c (decide_eq_true z)
   rw [List.length_map] at c'
   exact ⟨_,rfl,q pf Cs H4 u4 t4 R4 (by omega) ok4⟩
 ·intro σ H' Q1 Q2 hq z9;obtain ⟨v,e1,p1,ys,e2,e3,v2,e4,i,j,e5,e6,k,e7,q1⟩ := z9
  exact ⟨v,e1,p1,ys,e2,e3,v2,e4,i,j,e5,e6,k,e7,hq _ _ q1⟩
end
def WinOk (d:Int) (w:T3):Prop:=0<=w.1/\w.1<=w.2.1/\w.2.1 < d/\1<=w.2.2
def spWay:Sp:=fun vs H Q _=>∃ d cell:Int,vs=[.int d,.int cell]/\1<=d/\d<=1000000000000000/\∀ (r:Addr) (x:T3) (H':Hp),Same H H'->H' r=some (.tup (enc3 x))->WinOk d x->Q (.ref r) H'
theorem menu4w {a b c j:Int} (ha:1<=a) (hb:1<=b) (hc:1<=c) (h0:0<=j) (h1:j < 4):∃ v:Int,atI [V.int 3,V.int a,V.int b,V.int c] j=some (.int v)/\1<=v:=by
 rcases (by omega:j=0\/j=1\/j=2\/j=3) with rfl | rfl | rfl | rfl
 ·exact ⟨3,rfl,by decide⟩
 ·exact ⟨a,rfl,ha⟩
 ·exact ⟨b,rfl,hb⟩
 ·exact ⟨c,rfl,hc⟩
section
variable {P:Program} {w:World} {K:W.Frag} {mg:Str->Option Value} {base:Heap} {f:Addr} {fd:FuncData} {n:Nat}
theorem ok_way (F:Fun K "_law_way" "_law_way" qdh9 f fd):FnOk P w K mg base CX0 (n+1) f fd ["day","cell"] spWay:=by
 refine F.okQ sc__law_way (fun vs H Q E h=>?_) (fun cdv A outer s H vs Q E hr h=>?_)
 ·obtain ⟨_,_,rfl,_⟩:=h
  rfl
 obtain ⟨d,cell,rfl,d1,d2,q⟩:=h
 refine ⟨_,(qac9 (qak9 (i:=2) sc__law_way.nd rfl (Or.inl rfl) (qe_op qav9 (qe_op qgw9 (qv 1) qaa9) qaa9)) (qac9 (qak9 (i:=3) sc__law_way.nd rfl (Or.inl rfl) (qe_op qav9 (qe_op qgw9 (qv 1) qaa9) qaa9)) (qac9 (qak9 (i:=4) sc__law_way.nd rfl (Or.inl rfl) (qe_op qav9 (qv 1) (qv 0))) (qac9 (qak9 (i:=5) sc__law_way.nd rfl (Or.inl rfl) (qv 4)) (qdb9 (qs_if (qaj9 qcb9 (qe_op qav9 (qv 2) qaa9) qaa9 (qas9 _)) (qac9 (qak9 (i:=4) sc__law_way.nd rfl (Or.inl rfl) qaa9) (qae9 (qak9 (i:=5) sc__law_way.nd rfl (Or.inl rfl) (qe_op qcr9 (qv 0) qaa9)))) qat9) (qdb9 (qs_if (qaj9 qgp9 (qe_op qav9 (qv 2) qaa9) qaa9 (qas9 _)) (qae9 (qak9 (i:=5) sc__law_way.nd rfl (Or.inl rfl) (qe_op qaw9 (qv 4) (qe_op qav9 (qe_op qay9 (qv 2) qaa9) (qe_op qcr9 (qv 0) (qv 4)))))) qat9) (qac9 (qak9 (i:=6) sc__law_way.nd rfl (Or.inl rfl) (qe_ix qai9 (qbj9 (qa_c qaa9 (qa_c (qe_op qaw9 qaa9 (qe_op qay9 (qv 0) qaa9)) (qa_c (qe_op qaw9 (qv 0) qaa9) (qa_c (qe_op qgv9 qaa9 qaa9) qad9))))) (qe_op qav9 (qv 3) qaa9) (fun _ _=>rfl))) (qae9 (qax9 (qbn9 (qa_c (qv 4) (qa_c (qv 5) (qa_c (qe_op qaw9 qaa9 (qe_op qav9 (qe_op qgw9 (qe_op qay9 (qv 3) qaa9) qaa9) (qv 6))) qad9))))))))))))),?_⟩
 walk_at "d"
 have hd:0 < d:=by omega
 refine ⟨_,rfl,_,_,rfl,rfl,.inr ⟨by decide,by decide⟩,_,_,rfl,rfl,(by show (0:Int) < 2147483647; decide),?_⟩
 refine ⟨_,rfl,_,_,rfl,rfl,.inr ⟨by decide,by decide⟩,_,_,rfl,rfl,(by show (0:Int) < 2147483629; decide),?_⟩
 dsimp only
 generalize cell * 1103515245 % 2147483647=y
 generalize cell * 1664525013 % 2147483629=z
 refine ⟨_,rfl,_,rfl,_,_,rfl,rfl,hd,?_⟩
 refine ⟨_,rfl,?_⟩
 have e0:=qeb9 cell hd
 refine ⟨fun σ' H'=>H'=H/\∃ a b:Int,σ'=[some (.int d),some (.int cell),some (.int y),some (.int z),some (.int a),some (.int b),none]/\0<=a/\a<=b/\b < d,?_,?_⟩
 ·refine ⟨_,rfl,_,_,rfl,rfl,(by show (0:Int) < 4; decide),rfl,_,rfl,ite2 (fun _=>?_) (fun _=>⟨rfl,_,_,rfl,e0.1,Int.le_refl _,e0.2⟩)⟩
  exact ⟨_,rfl,_,_,rfl,rfl,rfl,0,d - 1,rfl,Int.le_refl _,by omega,by omega⟩
 intro σ' H1 z9;obtain ⟨rfl,a,b,rfl,a0,ab,bd⟩ := z9
 refine ⟨fun σ' H'=>H'=H1/\∃ b:Int,σ'=[some (.int d),some (.int cell),some (.int y),some (.int z),some (.int a),some (.int b),none]/\a<=b/\b < d,?_,?_⟩
 ·refine ⟨_,rfl,_,_,rfl,rfl,(by show (0:Int) < 4; decide),_,_,rfl,rfl,_,rfl,ite2 (fun _=>?_) (fun _=>⟨rfl,b,rfl,ab,bd⟩)⟩
  have pa:0 < d - a:=by omega
  have em:=qeb9 (y / 4) pa
  exact ⟨_,rfl,_,rfl,_,_,rfl,rfl,⟨by decide,by decide⟩,_,rfl,_,rfl,_,_,rfl,rfl,_,_,rfl,rfl,pa,_,_,rfl,rfl,rfl,_,rfl,by omega,by omega⟩
 intro σ' H2 z9;obtain ⟨rfl,b',rfl,ab',bd'⟩ := z9
 refine ⟨_,rfl,_,_,rfl,rfl,⟨by decide,by decide⟩,_,_,rfl,rfl,_,rfl,_,_,rfl,rfl,_,_,rfl,rfl,⟨by decide,by decide,by decide⟩,(by show 4<=sizeLine; decide),fun p hp=>?_⟩
 have h2:1<=1+d / 2:=by
  have:=Int.ediv_nonneg (show 0<=d by omega) (show (0:Int)<=2 by decide)
  omega
 obtain ⟨v,hv,v1⟩:=menu4w (a:=1+d / 2) (b:=d+1) (c:=(10:Int) ^ (15:Int).toNat) (j:=z % 4) h2 (by omega) (by rw [pow15]; decide) (Int.emod_nonneg _ (by decide)) (Int.emod_lt_of_pos _ (by decide))
 generalize hgH3:upd _ p _=H3
 revert H3
 refine qar9 hp fun H3 s3 e3=>?_
 refine ⟨_,rfl,_,_,rfl,rfl,(by show (0:Int) < 4; decide),p,_,_,.int v,rfl,rfl,SqL.of e3,hv,?_⟩
 have em:=qeb9 (z / 4 * 1000003) (show 0 < v by omega)
 refine ⟨_,rfl,_,rfl,_,rfl,_,_,rfl,rfl,⟨by decide,by decide⟩,_,_,rfl,rfl,.inr ⟨by decide,by decide⟩,_,rfl,_,_,rfl,rfl,(by omega),_,_,rfl,rfl,(by show 3<=sizeLine; decide),fun rr hrr=>?_⟩
 generalize hgH4:upd _ rr _=H4
 revert H4
 refine qar9 hrr fun H4 s4 e4=>?_
 exact q rr (a,b',1+z / 4 * 1000003 % v) H4 (s3.trans s4) e4 ⟨a0,ab',bd',by show 1<=1+z / 4 * 1000003 % v; omega⟩
end
section
variable {H H':Hp} {p r b:Addr} {N:List RdT} {us:List V}
theorem NA.atG {i:Nat} {m:RdT} (h:NA H p N) (g:N[i]?=some m):∃ (ws:List V) (r:Addr),H p=some (.lst ws)/\ws.length=N.length/\atI ws (i:Int)=some (.ref r)/\H r=some (.tup [.int m.1,.int m.2.1,.ref m.2.2.1]):=by
 obtain ⟨ws,hw1,hw2,hw3⟩:=h.la.lst
 rw [List.length_map] at hw2
 have hi:=(List.getElem?_eq_some_iff.mp g).1
 obtain ⟨r,x',y,ex,er⟩:=hw3 i _ (List.getElem?_eq_getElem (by omega))
 rw [List.getElem?_map,g] at ex
 cases ex
 exact ⟨ws,r,hw1,hw2,by rw [<- y]; exact qgr9 (List.getElem?_eq_getElem (by omega)),er⟩
theorem qld9 {α β:Type} {f:α->β} {N:List α} {i:Nat} {m m':α} (g:N[i]?=some m) (e:f m'=f m):(N.set i m').map f=N.map f:=by
 refine List.ext_getElem? fun j=>?_
 rw [List.getElem?_map,List.getElem?_map,List.getElem?_set]
 have hi:=(List.getElem?_eq_some_iff.mp g).1
 by_cases c:i=j
 ·subst c
  rw [if_pos rfl,if_pos hi,g]
  exact congrArg some e
 ·rw [if_neg c]
theorem NA.pushAt {i:Nat} {m:RdT} {x:T3} (h:NA H p N) (g:N[i]?=some m) (hb:H m.2.2.1=some (.lst us)) (hr:H r=some (.tup (enc3 x))):NA (upd H m.2.2.1 (.lst (us ++ [.ref r]))) p (N.set i (m.1,m.2.1,m.2.2.1,m.2.2.2 ++ [x])):=by
 have hm:=List.mem_of_getElem? g
 have hl:=h.bd m hm
 refine ⟨?_,fun m2 hm2=>?_,?_⟩
 ·rw [qld9 (f:=keyN) (m':=(m.1,m.2.1,m.2.2.1,m.2.2.2 ++ [x])) g rfl]
  exact qce9 (ys:=us ++ [.ref r]) h.la hb (Ne.symm hl.2)
 ·obtain ⟨j,hj⟩:=List.getElem?_of_mem hm2
  rw [List.getElem?_set] at hj
  by_cases c:i=j
  ·subst c
   rw [if_pos rfl,if_pos (List.getElem?_eq_some_iff.mp g).1] at hj
   cases hj
   exact ⟨hl.1.append (x:=x) hb hr,hl.2⟩
  ·rw [if_neg c] at hj
   obtain ⟨h1,h2⟩:=h.bd m2 (List.mem_of_getElem? hj)
   refine ⟨qce9 h1 hb fun z=>c ?_,h2⟩
   have e1:(N.map fun m=>m.2.2.1)[i]?=some m.2.2.1:=by rw [List.getElem?_map,g]; rfl
   have e2:(N.map fun m=>m.2.2.1)[j]?=some m.2.2.1:=by rw [List.getElem?_map,hj,<- z]; rfl
   have li:=(List.getElem?_eq_some_iff.mp e1).1
   exact (List.getElem?_inj li h.nd).mp (e1.trans e2.symm)
 ·rw [qld9 (f:=fun m:RdT=>m.2.2.1) (m':=(m.1,m.2.1,m.2.2.1,m.2.2.2 ++ [x])) g rfl]
  exact h.nd
theorem NA.rot {k:Nat} {xs:List V} (h:NA H p N) (s:Same H H') (hx:H p=some (.lst xs)) (hr:H r=none) (e:H' r=some (.lst (xs.drop k ++ xs.take k))):NA H' r (N.drop k ++ N.take k):=by
 have sub:∀ m∈N.drop k ++ N.take k,m∈N:=fun m hm=>(List.mem_append.mp hm).elim List.mem_of_mem_drop List.mem_of_mem_take
 obtain ⟨ws,w1,w2,w3⟩:=h.la.lst
 rw [hx] at w1
 cases w1
 rw [List.length_map] at w2
 refine ⟨LA.of e (by simp [w2]) fun i y hy=>?_,fun m hm=>?_,?_⟩
 ·have hle:(xs.drop k).length=(N.drop k).length:=by simp [w2]
  rcases Nat.lt_or_ge i (xs.drop k).length with c | c
  ·rw [List.getElem?_append_left c,List.getElem?_drop] at hy
   obtain ⟨r',x,e1,e2,e3⟩:=w3 _ y hy
   refine ⟨r',e1,fun x' hx'=>?_⟩
   rw [List.map_append,List.getElem?_append_left (by rw [List.length_map]; omega),List.map_drop,List.getElem?_drop,e2] at hx'
   cases hx'
   exact s _ _ e3
  ·rw [List.getElem?_append_right c,List.getElem?_take] at hy
   by_cases z:i - (xs.drop k).length < k
   ·rw [if_pos z] at hy
    obtain ⟨r',x,e1,e2,e3⟩:=w3 _ y hy
    refine ⟨r',e1,fun x' hx'=>?_⟩
    rw [List.map_append,List.getElem?_append_right (by rw [List.length_map]; omega),List.length_map,<- hle,List.map_take,List.getElem?_take,if_pos z,e2] at hx'
    cases hx'
    exact s _ _ e3
   ·rw [if_neg z] at hy
    cases hy
 ·obtain ⟨h1,_⟩:=h.bd m (sub m hm)
  refine ⟨h1.same s,fun z=>?_⟩
  obtain ⟨vs,v1,_⟩:=h1.lst
  rw [z,hr] at v1
  cases v1
 ·have nd:=h.nd
  rw [<- List.take_append_drop k N,List.map_append] at nd
  obtain ⟨n1,n2,n3⟩:=List.nodup_append.mp nd
  rw [List.map_append]
  exact List.nodup_append.mpr ⟨n2,n1,fun x hx y hy z=>n3 y hy x hx z.symm⟩
end
theorem ws_rot {N:List RdT} (k:Nat):(wsN (N.drop k ++ N.take k)).length=(wsN N).length:=by
 have e:=congrArg List.length (congrArg wsN (List.take_append_drop k N))
 rw [qlj9,List.length_append] at e
 rw [qlj9,List.length_append]
 omega
theorem ws_push:∀ {N:List RdT} {i:Nat} {m:RdT} {x:T3},N[i]?=some m->(wsN (N.set i (m.1,m.2.1,m.2.2.1,m.2.2.2 ++ [x]))).length=(wsN N).length+1
 | [],i,m,x,h=>by simp at h
 | y :: N,0,m,x,h=>by
  cases h
  show (wsN ((y.1,y.2.1,y.2.2.1,y.2.2.2 ++ [x]) :: N)).length=_
  rw [qei9,qei9,List.length_append,List.length_append,List.length_map,List.length_map,List.length_append,List.length_singleton]
  omega
 | y :: N,i+1,m,x,h=>by
  show (wsN (y :: N.set i _)).length=_
  rw [qei9,qei9,List.length_append,List.length_append,ws_push (N:=N) (i:=i) h]
  omega
theorem ws_nil:∀ {N:List RdT},(∀ m∈N,m.2.2.2=[])->(wsN N).length=0
 | [],_=>rfl
 | y :: N,h=>by
  rw [qei9,List.length_append,List.length_map,h y (List.mem_cons_self ..),ws_nil fun m hm=>h m (List.mem_cons_of_mem _ hm)]
  rfl
theorem qkh9 {N:List RdT} {m:RdT} (hm:m∈N):m.2.2.2.length<=(wsN N).length:=by
 obtain ⟨a,b,rfl⟩:=List.append_of_mem hm
 rw [qlj9,qei9,List.length_append,List.length_append,List.length_map]
 omega
structure GNet (d:Int) (n:Nat) (N:List RdT):Prop where
 rng:∀ m∈N,(0<=m.1/\m.1 < (n:Int))/\(0<=m.2.1/\m.2.1 < (n:Int))/\∀ w∈m.2.2.2,WinOk d w
 len:N.length<=5
 ws:(wsN N).length<=6
theorem GNet.ok {d:Int} {n:Nat} {N:List RdT} (h:GNet d n N):NetOk d n N:=⟨fun m hm=>⟨(h.rng m hm).1,(h.rng m hm).2.1,by have:=qkh9 hm; have:=h.ws; omega,(h.rng m hm).2.2⟩⟩
def spNetG (K:W.Frag):Sp:=fun vs H Q _=>∃ (a:Addr) (ns:List Int) (st:Int),vs=[.ref a,.int st]/\SqL K H a (ns.map V.int)/\0<=st /\
 ∀ (r l:Addr) (d:Int) (n:Nat) (goal:Int) (N:List RdT) (H':Hp),Same H H'->H' r=some (.tup [.int d,.int n,.ref l,.int goal])->NA H' l N->1<=d->d<=1000000000000000->1<=n->n<=4->0<=goal->goal < (n:Int)->GNet d n N->NFr H N->Q (.ref r) H'
theorem menu8s {a b c d e f g h j:Int} {ok:Int->Prop} (ha:ok a) (hb:ok b) (hc:ok c) (hd:ok d) (he:ok e) (hf:ok f) (hg:ok g) (hh:ok h) (h0:0<=j) (h1:j < 8):∃ v:Int,atI [V.int a,V.int b,V.int c,V.int d,V.int e,V.int f,V.int g,V.int h] j=some (.int v)/\ok v:=by
 rcases (by omega:j=0\/j=1\/j=2\/j=3\/j=4\/j=5\/j=6\/j=7) with rfl | rfl | rfl | rfl | rfl | rfl | rfl | rfl
 ·exact ⟨a,rfl,ha⟩
 ·exact ⟨b,rfl,hb⟩
 ·exact ⟨c,rfl,hc⟩
 ·exact ⟨d,rfl,hd⟩
 ·exact ⟨e,rfl,he⟩
 ·exact ⟨f,rfl,hf⟩
 ·exact ⟨g,rfl,hg⟩
 ·exact ⟨h,rfl,hh⟩
theorem menu6s {a b c d e f j:Int} {ok:Int->Prop} (ha:ok a) (hb:ok b) (hc:ok c) (hd:ok d) (he:ok e) (hf:ok f) (h0:0<=j) (h1:j < 6):∃ v:Int,atI [V.int a,V.int b,V.int c,V.int d,V.int e,V.int f] j=some (.int v)/\ok v:=by
 rcases (by omega:j=0\/j=1\/j=2\/j=3\/j=4\/j=5) with rfl | rfl | rfl | rfl | rfl | rfl
 ·exact ⟨a,rfl,ha⟩
 ·exact ⟨b,rfl,hb⟩
 ·exact ⟨c,rfl,hc⟩
 ·exact ⟨d,rfl,hd⟩
 ·exact ⟨e,rfl,he⟩
 ·exact ⟨f,rfl,hf⟩
section
variable {P:Program} {w:World} {K:W.Frag} {mg:Str->Option Value} {base:Heap} {f:Addr} {fd:FuncData} {n:Nat}
theorem ok_netG (F:Fun K "_law_net" "_law_net" qdl9 f fd) (B:Bl mg) (Cf0:Callee P w K mg base n "_law_cell_at" ["script","k"] (spCell K)) (Ca2:Callee P w K mg base n "_law_day" ["cell"] spDay) (Cb2:Callee P w K mg base n "_law_way" ["day","cell"] spWay):FnOk P w K mg base CX0 (n+1) f fd ["script","start"] (spNetG K):=by
 refine F.okQ sc__law_net (fun vs H Q E h=>?_) (fun cdv A outer s H vs Q E hr h=>?_)
 ·obtain ⟨_,_,_,rfl,_⟩:=h
  rfl
 obtain ⟨a,ns,st,rfl,hS,st0,q⟩:=h
 refine ⟨_,(qac9 (qak9 (i:=2) sc__law_net.nd rfl (Or.inl rfl) (qe_fn Cf0 hr rfl (qa_c (qv 0) (qa_c (qv 1) qad9)))) (qac9 (qak9 (i:=3) sc__law_net.nd rfl (Or.inl rfl) (qe_op qav9 (qe_op qgw9 (qv 2) qaa9) qaa9)) (qac9 (qak9 (i:=4) sc__law_net.nd rfl (Or.inl rfl) (qe_fn Ca2 hr rfl (qa_c (qe_fn Cf0 hr rfl (qa_c (qv 0) (qa_c (qe_op qaw9 (qv 1) qaa9) qad9))) qad9))) (qac9 (qak9 (i:=5) sc__law_net.nd rfl (Or.inl rfl) (qe_ix qai9 (qbj9 (qa_c qaa9 (qa_c qaa9 (qa_c qaa9 (qa_c qaa9 (qa_c qaa9 (qa_c qaa9 (qa_c qaa9 (qa_c qaa9 qad9))))))))) (qe_op qav9 (qv 2) qaa9) (fun _ _=>rfl))) (qac9 (qak9 (i:=6) sc__law_net.nd rfl (Or.inl rfl) (qe_ix qai9 (qbj9 (qa_c qaa9 (qa_c qaa9 (qa_c qaa9 (qa_c qaa9 (qa_c qaa9 (qa_c qaa9 (qa_c qaa9 (qa_c qaa9 qad9))))))))) (qe_op qav9 (qv 3) qaa9) (fun _ _=>rfl))) (qac9 (qak9 (i:=7) sc__law_net.nd rfl (Or.inl rfl) (qe_op qav9 (qe_op qay9 (qv 3) qaa9) (qv 5))) (qac9 (qak9 (i:=8) sc__law_net.nd rfl (Or.inl rfl) (qbj9 qad9)) (qac9 (qgb9 PassesOwn.never rfl (qfb9 rfl B.range (qa_c (qv 6) qad9)) (qam9 (i:=9) sc__law_net.nd rfl (Or.inl rfl)) (qac9 (qak9 (i:=10) sc__law_net.nd rfl (Or.inl rfl) (qe_fn Cf0 hr rfl (qa_c (qv 0) (qa_c (qe_op qaw9 (qe_op qaw9 (qv 1) qaa9) (qv 9)) qad9)))) (qac9 (qak9 (i:=11) sc__law_net.nd rfl (Or.inl rfl) (qbn9 (qa_c (qe_op qav9 (qe_op qay9 (qv 10) qaa9) (qv 5)) (qa_c (qe_op qav9 (qe_op qay9 (qv 10) (qe_op qgw9 qaa9 (qv 5))) (qv 5)) (qa_c (qbj9 qad9) qad9))))) (qdb9 (qs_if (qfx9 (QW.pt (qjc9 (qaj9 qcy9 (qe_op qaw9 (qv 9) qaa9) (qv 5) (qas9 _)) (qgm9 (QW.pt (qw_or (qaj9 qcb9 (qe_op qav9 (qv 10) qaa9) qaa9 (qas9 _)) (qff9 (qaj9 qgp9 (qe_op qav9 (qe_op qay9 (qv 3) qaa9) qaa9) qaa9 (qas9 _))))))))) (qae9 (qak9 (i:=11) sc__law_net.nd rfl (Or.inl rfl) (qbn9 (qa_c (qe_op qav9 (qe_op qaw9 (qe_op qaw9 (qv 9) qaa9) (qv 7)) (qv 5)) (qa_c (qe_op qav9 (qe_op qaw9 (qv 9) (qv 7)) (qv 5)) (qa_c (qbj9 qad9) qad9)))))) qat9) (qae9 (qbg9 (qbm9 (qv 8) (qa_c (qv 11) qad9)))))))) (qac9 (qgb9 PassesOwn.never rfl (qfb9 rfl B.range (qa_c (qe_ix qai9 (qbj9 (qa_c qaa9 (qa_c qaa9 (qa_c qaa9 (qa_c qaa9 (qa_c qaa9 (qa_c qaa9 qad9))))))) (qe_op qav9 (qe_op qay9 (qv 3) qaa9) qaa9) (fun _ _=>rfl)) qad9)) (qam9 (i:=9) sc__law_net.nd rfl (Or.inl rfl)) (qac9 (qak9 (i:=12) sc__law_net.nd rfl (Or.inl rfl) (qe_fn Cf0 hr rfl (qa_c (qv 0) (qa_c (qe_op qaw9 (qe_op qaw9 (qv 1) qaa9) (qv 9)) qad9)))) (qae9 (qs_if (qaj9 qgp9 (qv 6) qaa9 (qas9 _)) (qac9 (qak9 (i:=13) sc__law_net.nd rfl (Or.inl rfl) (qe_op qav9 (qv 12) (qv 6))) (qdb9 (qs_if (qaj9 qcy9 (qv 9) (qv 6) (qas9 _)) (qae9 (qak9 (i:=13) sc__law_net.nd rfl (Or.inl rfl) (qv 9))) qat9) (qae9 (qbg9 (qbm9 (qe_ix qba9 (qe_ix qai9 (qv 8) (qv 13) (fun _ _=>rfl)) qaa9 (fun _ _=>rfl)) (qa_c (qe_fn Cb2 hr rfl (qa_c (qv 4) (qa_c (qe_op qay9 (qv 12) (qv 6)) qad9))) qad9)))))) qat9)))) (qac9 (qak9 (i:=13) sc__law_net.nd rfl (Or.inl rfl) (qe_op qav9 (qe_op qay9 (qv 3) qaa9) (qe_op qaw9 (qv 6) qaa9))) (qac9 (qak9 (i:=8) sc__law_net.nd rfl (Or.inl rfl) (qe_op qhu9 (qmv9 (qv 8) (qhv9 (qv 13)) qho9) (qmv9 (qv 8) qho9 (qhv9 (qv 13))))) (qdb9 (qs_if (qaj9 qcb9 (qe_op qav9 (qe_op qay9 (qv 3) qaa9) qaa9) qaa9 (qas9 _)) (qae9 (qak9 (i:=7) sc__law_net.nd rfl (Or.inl rfl) (qe_op qav9 (qe_op qay9 (qv 3) qaa9) (qv 5)))) qat9) (qae9 (qax9 (qbn9 (qa_c (qv 4) (qa_c (qv 5) (qa_c (qv 8) (qa_c (qv 7) qad9))))))))))))))))))),?_⟩
 walk_at "d"
 refine ⟨_,rfl,_,rfl,a,ns,st,rfl,hS,st0,fun cell=>?_⟩
 refine ⟨_,rfl,_,_,rfl,rfl,.inr ⟨by decide,by decide⟩,_,_,rfl,rfl,(by show (0:Int) < 2147483647; decide),?_⟩
 dsimp only
 generalize cell * 1103515245 % 2147483647=mixed
 refine ⟨_,rfl,_,rfl,_,_,rfl,rfl,a,ns,st+1,rfl,hS,by omega,fun c1=>⟨c1,rfl,fun d H1 d1 d2 s1=>?_⟩⟩
 have hd:0 < d:=by omega
 refine ⟨(by show 8<=sizeLine; decide),fun p2 hp2=>?_⟩
 generalize hgH2:upd _ p2 _=H2
 revert H2
 refine qar9 hp2 fun H2 s2 e2=>?_
 obtain ⟨sz,hsz,z1,z2⟩:=menu8s (a:=3) (b:=4) (c:=2) (d:=3) (e:=4) (f:=3) (g:=4) (h:=1) (j:=cell % 8) (ok:=fun v=>1<=v/\v<=4) (by decide) (by decide) (by decide) (by decide) (by decide) (by decide) (by decide) (by decide) (Int.emod_nonneg _ (by decide)) (Int.emod_lt_of_pos _ (by decide))
 refine ⟨_,rfl,_,_,rfl,rfl,(by show (0:Int) < 8; decide),p2,_,_,.int sz,rfl,rfl,SqL.of e2,hsz,?_⟩
 obtain ⟨N,rfl⟩:∃ N:Nat,sz=(N:Int):=⟨sz.toNat,by omega⟩
 have NP:(0:Int) < N:=by omega
 refine ⟨(by show 8<=sizeLine; decide),fun p3 hp3=>?_⟩
 generalize hgH3:upd _ p3 _=H3
 revert H3
 refine qar9 hp3 fun H3 s3 e3=>?_
 obtain ⟨mn,hmn,m1,m2⟩:=menu8s (a:=3) (b:=4) (c:=5) (d:=4) (e:=5) (f:=4) (g:=5) (h:=0) (j:=mixed % 8) (ok:=fun v=>0<=v/\v<=5) (by decide) (by decide) (by decide) (by decide) (by decide) (by decide) (by decide) (by decide) (Int.emod_nonneg _ (by decide)) (Int.emod_lt_of_pos _ (by decide))
 refine ⟨_,rfl,_,_,rfl,rfl,(by show (0:Int) < 8; decide),p3,_,_,.int mn,rfl,rfl,SqL.of e3,hmn,?_⟩
 obtain ⟨M,rfl⟩:∃ M:Nat,mn=(M:Int):=⟨mn.toNat,by omega⟩
 have s03:=(s1.trans s2).trans s3
 refine ⟨_,rfl,_,_,rfl,rfl,⟨by decide,by decide⟩,_,rfl,_,_,rfl,rfl,NP,?_⟩
 have gb:=qeb9 (mixed / 1000) NP
 dsimp only
 generalize mixed / 1000 % (N:Int)=turn at gb
 refine ⟨(by show 0<=sizeLine; decide),fun pr hpr=>?_⟩
 have fpr:H pr=none:=s03.free hpr
 generalize hgH4:upd _ pr _=H4
 revert H4
 refine qar9 hpr fun H4 s4 e4=>?_
 have s04:=s03.trans s4
 refine ⟨_,rfl,(M:Int),rfl,by omega,by omega,qgi9 (lo:=0) (n:=((M:Int)).toNat)
  (fun i σ H'=>∃ (Ns:List RdT) (v9 v10 v11:Option V),σ=[some (.ref a),some (.int st),some (.int cell),some (.int mixed),some (.int d),some (.int N),some (.int M),some (.int turn),some (.ref pr),v9,v10,v11,none,none]/\Same H H'/\NA H' pr Ns/\NFr H Ns/\Ns.length=i/\∀ m∈Ns,(0<=m.1/\m.1 < (N:Int))/\(0<=m.2.1/\m.2.1 < (N:Int))/\m.2.2.2=[])
  ⟨[],_,_,_,rfl,s04,NA.nil e4,fun m hm=>(by cases hm),rfl,fun m hm=>(by cases hm)⟩ ?_ ?_⟩
 ·intro i σ H5 hi z9;obtain ⟨Ns,v9,v10,v11,rfl,s5,hN,hfr,hl,hrg⟩ := z9
  rw [Int.toNat_natCast] at hi
  refine ⟨_,rfl,_,rfl,_,_,rfl,rfl,_,rfl,_,_,rfl,rfl,a,ns,_,rfl,s5.seq hS,by omega,fun way=>?_⟩
  refine ⟨_,rfl,_,_,rfl,rfl,⟨by decide,by decide⟩,_,rfl,_,_,rfl,rfl,NP,_,rfl,_,rfl,_,_,rfl,rfl,.inl ⟨by decide,by decide⟩,_,_,rfl,rfl,⟨by show (0:Int) < 2 * N; omega,by show 2 * (N:Int) < _; omega⟩,_,rfl,_,_,rfl,rfl,NP,(by show 0<=sizeLine; decide),fun pb hpb=>?_⟩
  have fb:=hN.fresh hpb
  have fb0:H pb=none:=s5.free hpb
  generalize hgH6:upd _ pb _=H6
  revert H6
  refine qar9 hpb fun H6 s6 e6=>?_
  refine ⟨(by show 3<=sizeLine; decide),fun rr hrr=>?_⟩
  generalize hgH7:upd _ rr _=H7
  revert H7
  refine qar9 hrr fun H7 s7 e7=>?_
  have s57:=s6.trans s7
  refine ⟨fun σ' H'=>∃ (x e:Int) (b r:Addr),σ'=[some (.ref a),some (.int st),some (.int cell),some (.int mixed),some (.int d),some (.int N),some (.int M),some (.int turn),some (.ref pr),some (.int (0+(i:Int))),some (.int way),some (.ref r),none,none]/\Same H5 H'/\H' r=some (.tup [.int x,.int e,.ref b])/\H' b=some (.lst [])/\H b=none/\(b ≠ pr/\b ∉ Ns.map fun m=>m.2.2.1)/\(0<=x/\x < (N:Int))/\(0<=e/\e < (N:Int)),?_,?_⟩
  ·refine ⟨fun b H'=>H'=H7,?_,?_⟩
   ·refine ⟨_,rfl,_,_,rfl,rfl,_,rfl,_,_,rfl,rfl,_,rfl,ite2 (fun _=>?_) (fun _=>rfl)⟩
    refine ⟨_,rfl,_,_,rfl,rfl,(by show (0:Int) < 2; decide),rfl,_,rfl,ite2 (fun _=>rfl) (fun _=>?_)⟩
    exact ⟨_,rfl,_,_,rfl,rfl,⟨by decide,by decide⟩,_,_,rfl,rfl,(by show (0:Int) < 6; decide),_,_,rfl,rfl,_,rfl,rfl⟩
   rintro b H7' rfl
   refine ite2 (fun _=>?_) (fun _=>?_)
   ·refine ⟨_,rfl,_,_,rfl,rfl,_,rfl,_,_,rfl,rfl,_,rfl,_,_,rfl,rfl,NP,_,rfl,_,rfl,_,_,rfl,rfl,_,rfl,_,_,rfl,rfl,NP,(by show 0<=sizeLine; decide),fun p8 hp8=>?_⟩
    have fb8:=(hN.same s57).fresh hp8
    have fb80:H p8=none:=(s5.trans s57).free hp8
    generalize hgH8:upd _ p8 _=H8
    revert H8
    refine qar9 hp8 fun H8 s8 e8=>?_
    refine ⟨(by show 3<=sizeLine; decide),fun r9 hr9=>?_⟩
    generalize hgH9:upd _ r9 _=H9
    revert H9
    refine qar9 hr9 fun H9 s9 e9=>?_
    exact ⟨_,_,p8,r9,rfl,(s57.trans s8).trans s9,e9,s9 _ _ e8,fb80,fb8,qeb9 _ NP,qeb9 _ NP⟩
   ·exact ⟨_,_,pb,rr,rfl,s57,e7,s7 _ _ e6,fb0,fb,qeb9 _ NP,qeb9 _ NP⟩
  intro σ' H8 z9;obtain ⟨x,e,b,r,rfl,s8,er,eb,fb0',fb',xr,er'⟩ := z9
  have hN8:=hN.same s8
  obtain ⟨vs,hv1,hv2,_⟩:=hN8.la.lst
  rw [List.length_map] at hv2
  refine ⟨_,rfl,.inl ⟨rfl,_,SqL.of hv1⟩,_,rfl,pr,_,.ref r,rfl,rfl,hv1,qbo9 (by omega),?_⟩
  refine ⟨Ns ++ [(x,e,b,[])],_,_,_,rfl,qcs9 fpr (s5.trans s8),hN8.snoc fb' hv1 eb er,hfr.snoc fb0',by simp [hl],fun m hm=>?_⟩
  rcases List.mem_append.mp hm with hm | hm
  ·exact hrg m hm
  ·rw [List.mem_singleton] at hm
   subst hm
   exact ⟨xr,er',rfl⟩
 intro σ H5 z9;obtain ⟨Ns,v9,v10,v11,rfl,s5,hN,hfr,hl,hrg⟩ := z9
 rw [Int.toNat_natCast] at hl
 refine ⟨(by show 6<=sizeLine; decide),fun p6 hp6=>?_⟩
 generalize hgH6:upd _ p6 _=H6
 revert H6
 refine qar9 hp6 fun H6 s6 e6=>?_
 obtain ⟨cn,hcn,n1,n2⟩:=menu6s (a:=4) (b:=5) (c:=3) (d:=6) (e:=4) (f:=2) (j:=mixed / 8 % 6) (ok:=fun v=>0<=v/\v<=6) (by decide) (by decide) (by decide) (by decide) (by decide) (by decide) (Int.emod_nonneg _ (by decide)) (Int.emod_lt_of_pos _ (by decide))
 refine ⟨_,rfl,_,_,rfl,rfl,⟨by decide,by decide⟩,_,_,rfl,rfl,(by show (0:Int) < 6; decide),p6,_,_,.int cn,rfl,rfl,SqL.of e6,hcn,?_⟩
 refine ⟨cn,rfl,by omega,by omega,qgi9 (lo:=0) (n:=cn.toNat)
  (fun i σ H'=>∃ (Ns:List RdT) (v9 v10 v11 v12 v13:Option V),σ=[some (.ref a),some (.int st),some (.int cell),some (.int mixed),some (.int d),some (.int N),some (.int M),some (.int turn),some (.ref pr),v9,v10,v11,v12,v13]/\Same H H'/\NA H' pr Ns/\NFr H Ns/\Ns.length=M/\(wsN Ns).length<=i/\∀ m∈Ns,(0<=m.1/\m.1 < (N:Int))/\(0<=m.2.1/\m.2.1 < (N:Int))/\∀ w∈m.2.2.2,WinOk d w)
  ⟨Ns,_,_,_,_,_,rfl,s5.trans s6,hN.same s6,hfr,hl,Nat.le_of_eq (ws_nil fun m hm=>(hrg m hm).2.2),fun m hm=>⟨(hrg m hm).1,(hrg m hm).2.1,fun w hw=>by rw [(hrg m hm).2.2] at hw; cases hw⟩⟩ ?_ ?_⟩
 ·clear hN hfr hl hrg s6 e6 s5
  intro i σ H7 hi z9;obtain ⟨Ns,v9,v10,v11,v12,v13,rfl,s7,hN,hfr,hl,hw,hrg⟩ := z9
  refine ⟨_,rfl,_,rfl,_,_,rfl,rfl,_,rfl,_,_,rfl,rfl,a,ns,_,rfl,s7.seq hS,by omega,fun sp=>?_⟩
  refine ⟨_,rfl,_,_,rfl,rfl,_,rfl,ite2 (fun c=>?_) (fun c=>⟨Ns,_,_,_,_,_,rfl,s7,hN,hfr,hl,by omega,hrg⟩)⟩
  have MP:(0:Int) < M:=of_decide_eq_true c
  refine ⟨_,rfl,_,rfl,_,_,rfl,rfl,MP,?_⟩
  refine ⟨fun σ' H'=>H'=H7/\∃ at_:Nat,σ'=[some (.ref a),some (.int st),some (.int cell),some (.int mixed),some (.int d),some (.int N),some (.int M),some (.int turn),some (.ref pr),some (.int (0+(i:Int))),v10,v11,some (.int sp),some (.int at_)]/\at_ < M,?_,?_⟩
  ·refine ⟨_,rfl,_,rfl,_,_,rfl,rfl,_,rfl,ite2 (fun c=>?_) (fun _=>?_)⟩
   ·have c':0+(i:Int) < (M:Int):=of_decide_eq_true c
    exact ⟨_,rfl,rfl,i,by rw [Int.zero_add]; rfl,by omega⟩
   ·have em:=qeb9 sp MP
    exact ⟨rfl,(sp % (M:Int)).toNat,by rw [Int.toNat_of_nonneg em.1]; rfl,by omega⟩
  intro σ' H7' z9;obtain ⟨rfl,at_,rfl,la⟩ := z9
  have hm:=List.getElem?_eq_getElem (show at_ < Ns.length by omega)
  generalize Ns[at_]=m at hm
  obtain ⟨ws,r,w1,w2,w3,w4⟩:=hN.atG hm
  have mm:=List.mem_of_getElem? hm
  have hb:=(hN.bd m mm).1
  obtain ⟨us,u1,u2,_⟩:=hb.lst
  refine ⟨_,rfl,_,rfl,pr,_,_,_,rfl,rfl,SqL.of w1,w3,r,_,_,_,rfl,rfl,SqT.of w4,rfl,.inl ⟨rfl,_,SqL.of u1⟩,_,rfl,_,rfl,_,rfl,_,_,rfl,rfl,⟨MP,by show (M:Int) < _; omega⟩,d,_,rfl,d1,d2,fun r2 x H8 s8 e8 wok=>?_⟩
  have bl:=qkh9 mm
  refine ⟨m.2.2.1,us,.ref r2,rfl,rfl,s8 _ _ u1,qbo9 (by omega),?_⟩
  refine ⟨Ns.set at_ (m.1,m.2.1,m.2.2.1,m.2.2.2 ++ [x]),_,_,_,_,_,rfl,qcs9 (hfr m mm) (s7.trans s8),(hN.same s8).pushAt hm (s8 _ _ u1) e8,fun m2 hm2=>?_,by rw [List.length_set]; exact hl,by rw [ws_push hm]; omega,fun m2 hm2=>?_⟩
  ·rcases List.mem_or_eq_of_mem_set hm2 with z | z
   ·exact hfr m2 z
   ·subst z
    exact hfr m mm
  ·rcases List.mem_or_eq_of_mem_set hm2 with z | z
   ·exact hrg m2 z
   ·subst z
    obtain ⟨i1,i2,i3⟩:=hrg m mm
    refine ⟨i1,i2,fun w hw=>?_⟩
    rcases List.mem_append.mp hw with hw | hw
    ·exact i3 w hw
    ·rw [List.mem_singleton] at hw
     subst hw
     exact wok
 clear hN hfr hl hrg s6 e6 s5
 intro σ H7 z9;obtain ⟨Ns,v9',v10',v11',v12,v13,rfl,s7,hN,hfr,hl,hw,hrg⟩ := z9
 have MP1:(0:Int) < (M:Int)+1:=by omega
 refine ⟨_,rfl,_,_,rfl,rfl,⟨by decide,by decide⟩,_,rfl,_,_,rfl,rfl,_,_,rfl,rfl,MP1,?_⟩
 have ab:=qeb9 (mixed / 300) MP1
 dsimp only
 generalize mixed / 300 % ((M:Int)+1)=at_ at ab
 obtain ⟨k,rfl⟩:∃ k:Nat,at_=(k:Int):=⟨at_.toNat,by omega⟩
 obtain ⟨ws,w1,w2,_⟩:=hN.la.lst
 rw [List.length_map] at w2
 refine ⟨_,rfl,_,rfl,_,rfl,pr,_,rfl,SqL.of w1,fun p8 hp8=>?_⟩
 rw [qno9 ws k (by omega)]
 generalize hgH8:upd _ p8 _=H8
 revert H8
 refine qar9 hp8 fun H8 s8 e8=>?_
 refine ⟨_,rfl,_,rfl,_,rfl,pr,_,rfl,SqL.of (s8 _ _ w1),fun p9 hp9=>?_⟩
 rw [qol9 ws k (by omega)]
 generalize hgH9:upd _ p9 _=H9
 revert H9
 refine qar9 hp9 fun H9 s9 e9=>?_
 refine ⟨p8,p9,_,_,rfl,rfl,s9 _ _ e8,e9,Nat.le_of_lt (qbo9 (by simp; omega)),fun pz hpz=>?_⟩
 have fpz:H7 pz=none:=(s8.trans s9).free hpz
 generalize hgHA:upd _ pz _=HA
 revert HA
 refine qar9 hpz fun HA sA eA=>?_
 have s7A:=(s8.trans s9).trans sA
 have hR:=hN.rot s7A w1 fpz eA
 have SA:=s7.trans s7A
 have gn:GNet d N (Ns.drop k ++ Ns.take k):=⟨fun m hm=>hrg m ((List.mem_append.mp hm).elim List.mem_of_mem_drop List.mem_of_mem_take),by simp; omega,by rw [ws_rot]; omega⟩
 have hfr2:NFr H (Ns.drop k ++ Ns.take k):=fun m hm=>hfr m ((List.mem_append.mp hm).elim List.mem_of_mem_drop List.mem_of_mem_take)
 refine ⟨fun σ' H'=>H'=HA/\∃ turn:Int,σ'=[some (.ref a),some (.int st),some (.int cell),some (.int mixed),some (.int d),some (.int N),some (.int M),some (.int turn),some (.ref pz),v9',v10',v11',v12,some (.int (k:Int))]/\0<=turn/\turn < (N:Int),?_,?_⟩
 ·refine ⟨_,rfl,_,_,rfl,rfl,⟨by decide,by decide⟩,_,_,rfl,rfl,(by show (0:Int) < 6; decide),rfl,_,rfl,ite2 (fun _=>?_) (fun _=>⟨rfl,turn,rfl,gb.1,gb.2⟩)⟩
  exact ⟨_,rfl,_,_,rfl,rfl,⟨by decide,by decide⟩,_,rfl,_,_,rfl,rfl,NP,rfl,_,rfl,qeb9 _ NP⟩
 intro σ' HA' z9;obtain ⟨rfl,goal,rfl,g0,g1⟩ := z9
 refine ⟨_,rfl,_,rfl,_,rfl,_,rfl,(by show 4<=sizeLine; decide),fun rz hrz=>?_⟩
 generalize hgHB:upd _ rz _=HB
 revert HB
 refine qar9 hrz fun HB sB eB=>?_
 exact q rz pz d N goal _ HB (SA.trans sB) eB (hR.same sB) d1 d2 (by omega) (by omega) g0 g1 gn hfr2
def spCopyF:Sp:=fun vs H Q _=>∃ (p:Addr) (N:List RdT),vs=[.ref p]/\NA H p N/\N.length<=100/\∀ (l:Addr) (M:List RdT) (H':Hp),Same H H'->NA H' l M->M.map strip=N.map strip->NFr H M->Q (.ref l) H'
theorem qne9 (F:Fun K "copied" "copied" qep9 f fd) (B:Bl mg):FnOk P w K mg base CX0 (n+1) f fd ["roads"] spCopyF:=by
 refine F.okQ sc_copied (fun vs H Q E h=>?_) (fun cdv A outer s H vs Q E hr h=>?_)
 ·obtain ⟨_,_,rfl,_⟩:=h
  rfl
 obtain ⟨pr,N,rfl,hN,hl,q⟩:=h
 refine ⟨_,(qae9 (qax9 (qfc9 ["start","end","board"] [none,none,none] (BlkOk.of rfl rfl (SubL.to subN) rfl) rfl (qdn9 (qv 0)) (fun _ _ _ _=>(qnz9 (n:=3) K rfl rfl (qal9 (qam9 (i:=0) (show (["start","end","board"]:List Str).Nodup by decide) rfl (Or.inl rfl)) (qal9 (qam9 (i:=1) (show (["start","end","board"]:List Str).Nodup by decide) rfl (Or.inl rfl)) (qal9 (qam9 (i:=2) (show (["start","end","board"]:List Str).Nodup by decide) rfl (Or.inl rfl)) qdo9))))) (fun _ _ _ _=>(qbn9 (qa_c (qv 0) (qa_c (qv 1) (qa_c (qe_ct (qhy9 K rfl) rfl B.list_ qgo9 (qa_c (qv 2) qad9)) qad9)))))))),?_⟩
 walk_at "d"
 obtain ⟨ws,hw1,hw2,hw3⟩:=hN.la.lst
 rw [List.length_map] at hw2
 refine ⟨_,rfl,pr,rfl,⟨_,SqL.of hw1⟩,?_⟩
 refine qdz9 (K:=K) (a:=pr) (xs:=ws) (fun D i H'=>Same H H'/\∃ M,NA H' D M/\M.map strip=(N.take i).map strip/\NFr H M) (fun D hD=>⟨qan9 hD _,[],NA.nil qaf9,rfl,fun m hm=>by cases hm⟩) (fun D i H' _ _ h=>SqL.of (h.1 _ _ hw1)) ?_ ?_
 ·intro D i y H' hD hi z9;obtain ⟨sD,M,hM,eM,fM⟩ := z9
  obtain ⟨r,x,rfl,ex,er⟩:=hw3 i y hi
  have hi2:i < N.length:=by
   have:=(List.getElem?_eq_some_iff.mp hi).1
   omega
  have em:=List.getElem?_eq_getElem hi2
  rw [List.getElem?_map,em] at ex
  cases ex
  have hb:=(hN.bd _ (List.getElem_mem hi2)).1
  generalize hm:N[i]=m at *
  refine ⟨r,_,rfl,SqT.of (sD _ _ er),rfl,_,_,rfl,_,_,rfl,_,_,rfl,rfl,fun k v e=>?_,?_⟩
  ·match k,e with
   | 0,e=>cases e
   | 1,e=>cases e
   | 2,e=>cases e
   | k+3,e=>cases e
  obtain ⟨bs,hb1,hb2,hb3⟩:=(hb.same sD).lst
  refine ⟨_,rfl,_,rfl,_,rfl,m.2.2.1,_,rfl,.inl (SqL.of hb1),fun p1 hp1=>?_⟩
  have fb:=hM.fresh hp1
  have f0:=sD.free hp1
  generalize hgH1:upd _ p1 _=H1
  revert H1
  refine qar9 hp1 fun H1 s1 e1=>?_
  have hc:=(hb.same sD).copy s1 hb1 e1
  refine ⟨(by show 3<=sizeLine; decide),fun rr hrr=>?_⟩
  generalize hgH2:upd _ rr _=H2
  revert H2
  refine qar9 hrr fun H2 s2 e2=>?_
  obtain ⟨vs,hv1,hv2,_⟩:=((hM.same s1).same s2).la.lst
  have ml:M.length=i:=by
   have:=congrArg List.length eM
   rw [List.length_map,List.length_map,List.length_take] at this
   omega
  rw [List.length_map] at hv2
  refine ⟨_,hv1,qbo9 (by omega),qcs9 hD ((sD.trans s1).trans s2),M ++ [(m.1,m.2.1,p1,m.2.2.2)],((hM.same s1).same s2).add fb hv1 (hc.same s2) e2,?_,fM.snoc f0⟩
  rw [List.map_append,eM,qet9 strip em]
  rfl
 ·intro D H' hD z9;obtain ⟨sD,M,hM,eM,fM⟩ := z9
  rw [hw2,List.take_length] at eM
  exact q D M H' sD hM eM fM
end
def CsOk (d:Int) (n:Nat) (Cs:List Tb):Prop:=∀ (j:Nat) C,Cs[j]?=some C->C.length=n/\∀ p,0<=p->p < (n:Int)->Ma.CK d (cl C p)
theorem LvOk.cs {d:Int} {n:Nat} {goal:Int} {N:List RdT} {Cs:List Tb} (ok:LvOk d n goal N Cs):CsOk d n Cs:=fun j C hC=>⟨(ok.each j C hC).1,fun p p0 p1=>ok.ckAt hC p0 p1⟩
theorem upd_two {H:Hp} {x:Addr} {a b:HO}:upd (upd H x a) x b=upd H x b:=funext fun c=>by
 by_cases e:c=x
 ·rw [e,qaf9,qaf9]
 ·rw [qaq9 e,qaq9 e,qaq9 e]
def TBI (T:Hp->Prop):Prop:=∀ (H:Hp) (x C dx:Addr) (fs fs':List (Str × V)),T H->H x=some (.ins C dx fs)->T (upd H x (.ins C dx fs'))
theorem qlp9 (P:Addr) (pos:Pos) (q:Str):TBI fun H=>TabOk H P pos q:=fun H x C dx fs fs' t e=>by
 obtain ⟨ps,h1,h2,h3⟩:=t
 refine ⟨ps,by rw [qaq9 (fun z=>by rw [z,e] at h1; cases h1)]; exact h1,h2,?_⟩
 rcases h3 with h3 | ⟨c,h3,h4⟩
 ·exact .inl h3
 ·exact .inr ⟨c,h3,by rw [qaq9 (fun z=>by rw [z,e] at h4; cases h4)]; exact h4⟩
theorem TBI.and {T T':Hp->Prop} (h:TBI T) (h':TBI T'):TBI fun H=>T H/\T' H:=fun H x C dx fs fs' t e=>⟨h H x C dx fs fs' t.1 e,h' H x C dx fs fs' t.2 e⟩
theorem hide_updI (H:Hp) (x:Addr) (o:HO):SameU (hide x H) (upd H x o):=by
 refine SameU.of fun b u e=>?_
 unfold hide at e
 by_cases c:b=x
 ·rw [if_pos c] at e
  cases e
 ·rw [if_neg c] at e
  rw [qaq9 c]
  exact e
section
variable {H:Hp} {x C dx:Addr} {fs:List (Str × V)}
theorem LA.hideI {α:Type} {enc:α->List V} {p:Addr} {R:List α} (h:LA enc H p R) (e:H x=some (.ins C dx fs)):LA enc (My.hide x H) p R:=by
 obtain ⟨rs,h1,h2,h3⟩:=h.ex
 refine ⟨rs,qdr9 h1 (fun z=>by rw [z,e] at h1; cases h1),h2,fun i r y e1 e2=>?_⟩
 have:=h3 i r y e1 e2
 exact qdr9 this fun z=>by rw [z,e] at this; cases this
theorem NA.hideI {p:Addr} {N:List RdT} (h:NA H p N) (e:H x=some (.ins C dx fs)):NA (My.hide x H) p N:=⟨h.la.hideI e,fun m hm=>⟨(h.bd m hm).1.hideI e,(h.bd m hm).2⟩,h.nd⟩
theorem BA.hideI {p:Addr} {D:Tb} (h:BA H p D) (e:H x=some (.ins C dx fs)):BA (My.hide x H) p D:=by
 obtain ⟨rs,h1,h2,h3,h4,h5⟩:=h
 exact ⟨rs,qdr9 h1 (fun z=>by rw [z,e] at h1; cases h1),h2,h3,h4,fun i r B a b=>(h5 i r B a b).hideI e⟩
theorem hide_swap (p x:Addr) (H:Hp):hide p (hide x H)=hide x (hide p H):=funext fun b=>by
 unfold hide
 by_cases c:b=p
 ·by_cases c2:b=x
  ·rw [if_pos c,if_pos c2]
  ·rw [if_pos c,if_neg c2,if_pos c]
 ·by_cases c2:b=x
  ·rw [if_neg c,if_pos c2,if_pos c2]
  ·rw [if_neg c,if_neg c2,if_neg c2,if_neg c]
theorem LR.hideI {p:Addr} {Cs:List Tb} (h:LR H p Cs) (e:H x=some (.ins C dx fs)):LR (My.hide x H) p Cs:=by
 obtain ⟨ls,h1,h2,h3⟩:=h
 have np:x ≠ p:=fun z=>by rw [<- z,e] at h1; cases h1
 refine ⟨ls,qdr9 h1 (Ne.symm np),h2,fun i l D a b=>?_⟩
 obtain ⟨ys,q,e1,e2,e3⟩:=h3 i l D a b
 have ex:My.hide p H x=some (.ins C dx fs):=qdr9 e np
 rw [hide_swap]
 exact ⟨ys,q,qdr9 e1 (fun z=>by rw [z,ex] at e1; cases e1),e2,e3.hideI ex⟩
end
theorem LR.at {H:Hp} {p:Addr} {Cs:List Tb} {k:Nat} {C:Tb} (h:LR H p Cs) (g:Cs[k]?=some C):∃ (xs ys:List V) (l q:Addr),H p=some (.lst xs)/\xs.length=Cs.length/\atI xs (k:Int)=some (.ref l)/\H l=some (.lst ys)/\atI ys (-1)=some (.ref q)/\BA H q C:=by
 obtain ⟨ls,h1,h2,h3⟩:=h
 have hk:=(List.getElem?_eq_some_iff.mp g).1
 have hq:=List.getElem?_eq_getElem (show k < ls.length by omega)
 obtain ⟨ys,q,e1,e2,e3⟩:=h3 k _ C hq g
 refine ⟨_,ys,ls[k],q,h1,by rw [List.length_map]; exact h2,?_,qhk9 _ _ e1,e2,e3.u (SameU.of qhk9)⟩
 have:(ls.map V.ref)[k]?=some (V.ref ls[k]):=by rw [List.getElem?_map,hq]; rfl
 exact qgr9 this
abbrev gfs (l pr:Addr) (d:Int) (n:Nat):List (Str × V):=[("levels",.ref l),("day",.int d),("size",.int n),("roads",.ref pr)]
structure GateAt (C:Addr) (H:Hp) (x:Addr) (d:Int) (n:Nat) (M:List RdT) (Cs:List Tb):Prop where
 ex:∃ dx l pr,H x=some (.ins C dx (gfs l pr d n))/\LR H l Cs/\NA H pr M
theorem GateAt.u {C:Addr} {H H':Hp} {x:Addr} {d:Int} {n:Nat} {M:List RdT} {Cs:List Tb} (h:GateAt C H x d n M Cs) (s:SameU H H'):GateAt C H' x d n M Cs:=by
 obtain ⟨dx,l,pr,h1,h2,h3⟩:=h.ex
 exact ⟨dx,l,pr,s.1 _ _ h1 (fun _ z=>nomatch z),h2.u s,h3.u s⟩
structure GTxt (K:W.Frag) (C:Addr):Prop where
 cl:Cls K C
 nl:NoAttr K C "levels"
 nd:NoAttr K C "day"
 ns:NoAttr K C "size"
 nr:NoAttr K C "roads"
def spInit (T:Hp->Prop) (C:Addr):Sp:=fun vs H Q _=>∃ (x dx:Addr) (d:Int) (n:Nat) (pr:Addr) (N:List RdT) (goal:Int) (most:Nat) (H0:Hp),vs=[.ref x,.int d,.int n,.ref pr,.int goal,.int most]/\H x=some (.ins C dx [])/\H0 x=none/\SameU H0 H/\NA H0 pr N/\LvIn T d n pr N goal most 66 H/\N.length<=100 /\
 ∀ (H':Hp) (M:List RdT) (Cs:List Tb),SameU H0 H'->T H'->GateAt C H' x d n M Cs->Cs.length=most+1->LvOk d n goal N Cs->M.map strip=N.map strip->Q .non H'
def qmr9 (T:Hp->Prop) (C:Addr):Sp:=fun vs H Q _=>∃ (x:Addr) (d:Int) (n:Nat) (M:List RdT) (Cs:List Tb) (p t:Int) (k:Nat) (D:Tb),vs=[.ref x,.int p,.int t,.int k]/\GateAt C H x d n M Cs/\T H/\Cs[k]?=some D/\CsOk d n Cs/\0<=p/\p < (n:Int) /\
 ∀ H',SameU H H'->T H'->Q (optV (Ma.bt d (cl D p) t)) H'
def spLeft (C:Addr):Sp:=fun vs H Q _=>∃ (x:Addr) (d:Int) (n:Nat) (M:List RdT) (Cs:List Tb) (k:Nat),vs=[.ref x,.int k]/\GateAt C H x d n M Cs/\k < Cs.length/\Q .non H
theorem qgs9 {c k:Nat} (h:k < c):numV (c:Int) (.int (k:Int))=true:=by
 simp [numV,isWh]
 omega
section
variable {P:Program} {w:World} {K:W.Frag} {mg:Str->Option Value} {base:Heap} {f:Addr} {fd:FuncData} {n:Nat} {T:Hp->Prop} {C:Addr}
theorem ok_init (G:GTxt K C) (hTB:TB T) (hTI:TBI T) (F:FunD K "__init__" "Gate.__init__" qau9 f fd) (Cu0:Callee P w K mg base n "level_rounds" ["day","size","roads","goal","most"] (qlu9 T)) (Co1:Callee P w K mg base n "copied" ["roads"] spCopyF):FnOk P w K mg base CX0 (n+1) f fd ["self","day","size","roads","goal","most"] (spInit T C):=by
 refine F.okQ qej9 (fun vs H Q E h=>?_) (fun cdv A outer s H vs Q E hr h=>?_)
 ·obtain ⟨_,_,_,_,_,_,_,_,_,rfl,_⟩:=h
  rfl
 obtain ⟨x,dx,d,N,pr,Ns,goal,most,H0,rfl,hx,fx,s0,hN0,hin,l100,q⟩:=h
 refine ⟨_,(qac9 (qnt9 (qv 0) (qe_fn Cu0 hr rfl (qa_c (qv 1) (qa_c (qv 2) (qa_c (qv 3) (qa_c (qv 4) (qa_c (qv 5) qad9))))))) (qac9 (qnt9 (qv 0) (qv 1)) (qac9 (qnt9 (qv 0) (qv 2)) (qae9 (qnt9 (qv 0) (qe_fn Co1 hr rfl (qa_c (qv 3) qad9))))))),?_⟩
 walk_at "d"
 refine ⟨_,rfl,_,rfl,_,rfl,_,rfl,_,rfl,d,N,pr,Ns,goal,most,66,rfl,hin,fun l Cs H1 u1 t1 R1 lC ok=>?_⟩
 have x1:=u1.1 _ _ hx (fun _ z=>nomatch z)
 have few:∀ {k:Nat} {f:Str} {v:V} {fs:List (Str × V)},fs.length<=k->(putF f v fs).length<=k+1:=fun h=>Nat.le_trans (qfy9 _ _ _) (Nat.succ_le_succ h)
 refine ⟨_,rfl,x,C,dx,_,rfl,x1,G.cl,G.nl,(by show 0 < 1000; decide),?_⟩
 refine ⟨_,rfl,_,rfl,x,C,dx,_,rfl,qaf9,G.cl,G.nd,Nat.lt_of_le_of_lt (few (Nat.le_refl 0)) (by decide),?_⟩
 rw [upd_two]
 refine ⟨_,rfl,_,rfl,x,C,dx,_,rfl,qaf9,G.cl,G.ns,Nat.lt_of_le_of_lt (few (few (Nat.le_refl 0))) (by decide),?_⟩
 rw [upd_two]
 have l3:(putF "size" (V.int N) (putF "day" (V.int d) (putF "levels" (V.ref l) []))).length<=3:=few (few (few (Nat.le_refl 0)))
 have e4:∀ r,putF "roads" (V.ref r) (putF "size" (V.int N) (putF "day" (V.int d) (putF "levels" (V.ref l) [])))=gfs l r d N:=fun r=>by kernel_rfl
 generalize putF "size" (V.int N) (putF "day" (V.int d) (putF "levels" (V.ref l) []))=f3 at l3 e4
 have u3:SameU H0 (upd H1 x (.ins C dx f3)):=SameU.wr fx (s0.trans u1)
 have t3:=hTI _ x C dx _ f3 t1 x1
 refine ⟨_,rfl,pr,Ns,rfl,hN0.u u3,l100,fun pr' M H4 s4 hM eM hfr=>?_⟩
 have x4:H4 x=some (.ins C dx f3):=s4 _ _ qaf9
 refine ⟨_,rfl,x,C,dx,_,rfl,x4,G.cl,G.nr,by omega,?_⟩
 rw [e4]
 have u4:=u3.trans (SameU.of s4)
 refine q _ M Cs (SameU.wr fx u4) (hTI _ x C dx _ _ (hTB.same _ _ t3 s4) x4) ⟨dx,l,pr',qaf9,?_,(hM.hideI x4).u (hide_updI _ _ _)⟩ lC ok eM
 refine (R1.hideI x1).u (SameU.of fun b o e=>?_)
 have nb:b ≠ x:=fun z=>by
  rw [z] at e
  unfold hide at e
  rw [if_pos rfl] at e
  cases e
 rw [qaq9 nb]
 refine s4 _ _ ?_
 rw [qaq9 nb]
 unfold hide at e
 rw [if_neg nb] at e
 exact e
theorem ok_told (G:GTxt K C) (F:Fun K "told" "Gate.told" qbu9 f fd) (Cj1:Callee P w K mg base n "come" ["day","clock","t"] (qoz9 T)):FnOk P w K mg base CX0 (n+1) f fd ["self","place","t","left"] (qmr9 T C):=by
 refine F.okQ qks9 (fun vs H Q E h=>?_) (fun cdv A outer s H vs Q E hr h=>?_)
 ·obtain ⟨_,_,_,_,_,_,_,_,_,rfl,_⟩:=h
  rfl
 obtain ⟨x,d,N,M,Cs,p,t,k,D,rfl,hg,hT,hD,cs,p0,p1,q⟩:=h
 refine ⟨_,(qae9 (qax9 (qe_fn Cj1 hr rfl (qa_c (qhh9 (qv 0)) (qa_c (qe_ix qai9 (qe_ix qai9 (qe_ix qai9 (qhh9 (qv 0)) (qv 3) (fun _ _=>rfl)) (qds9 qaa9) (fun _ _=>rfl)) (qv 1) (fun _ _=>rfl)) (qa_c (qv 2) qad9)))))),?_⟩
 walk_at "d"
 obtain ⟨dx,l,pr,x1,R1,hM⟩:=hg.ex
 obtain ⟨xs,ys,lk,qk,e1,e2,e3,e4,e5,e6⟩:=R1.at hD
 obtain ⟨lD,ckD⟩:=cs k D hD
 obtain ⟨rs,rc,r1,r2,r3,r4,r5⟩:=e6.at p0 (by rw [lD]; exact p1)
 refine ⟨_,rfl,x,C,dx,_,_,rfl,x1,G.cl,G.nd,rfl,_,rfl,x,C,dx,_,_,rfl,x1,G.cl,G.nl,rfl,_,rfl,l,_,_,_,rfl,rfl,SqL.of e1,e3,_,rfl,lk,_,_,_,rfl,rfl,SqL.of e4,e5,_,rfl,qk,_,_,_,rfl,rfl,SqL.of r1,r2,_,rfl,d,rc,t,_,rfl,r5,hT,ckD _ p0 p1,q⟩
theorem qkc9 (G:GTxt K C) (F:Fun K "need_left" "Gate.need_left" qbc9 f fd) (B:Bl mg) (Cb0:Callee P w K mg base n "is_number" ["count","thing"] qfk9):FnOk P w K mg base CX0 (n+1) f fd ["self","left"] (spLeft C):=by
 refine F.okQ qeg9 (fun vs H Q E h=>?_) (fun cdv A outer s H vs Q E hr h=>?_)
 ·obtain ⟨_,_,_,_,_,_,rfl,_⟩:=h
  rfl
 obtain ⟨x,d,N,M,Cs,k,rfl,hg,hk,q⟩:=h
 refine ⟨_,(qae9 (qs_if (qee9 (qcq9 (qe_fn Cb0 hr rfl (qa_c (qe_cb qao9 rfl B.len qby9 (qa_c (qhh9 (qv 0)) qad9)) (qa_c (qv 1) qad9))))) (qae9 qgu9) qat9)),?_⟩
 walk_at "d"
 obtain ⟨dx,l,pr,x1,R1,hM⟩:=hg.ex
 obtain ⟨xs,ys,lk,qk,e1,e2,e3,e4,e5,e6⟩:=R1.at (List.getElem?_eq_getElem hk)
 refine ⟨_,rfl,x,C,dx,_,_,rfl,x1,G.cl,G.nl,rfl,l,_,rfl,.inl (SqL.of e1),_,rfl,_,_,rfl,.int _,_,rfl,?_⟩
 rw [e2,qgs9 hk]
 exact iteF q
theorem qoy9 (G:GTxt K C) (F:Fun K "soonest" "Gate.soonest" qbe9 f fd) (Ck0:Callee P w K mg base n "need_place" ["size","thing"] qeo9) (Ca1:MCal P w K mg base n C "need_left" ["self","left"] (spLeft C)) (Ct1:MCal P w K mg base n C "told" ["self","place","t","left"] (qmr9 T C)):FnOk P w K mg base CX0 (n+1) f fd ["self","place","t","left"] (qmr9 T C):=by
 refine F.okQ qfd9 (fun vs H Q E h=>?_) (fun cdv A outer s H vs Q E hr h=>?_)
 ·obtain ⟨_,_,_,_,_,_,_,_,_,rfl,_⟩:=h
  rfl
 obtain ⟨x,d,N,M,Cs,p,t,k,D,rfl,hg,hT,hD,cs,p0,p1,q⟩:=h
 refine ⟨_,(qac9 (qbg9 (qe_fn Ck0 hr rfl (qa_c (qhh9 (qv 0)) (qa_c (qv 1) qad9)))) (qac9 (qbg9 (qlv9 Ca1 hr (qv 0) (qa_c (qv 3) qad9))) (qae9 (qax9 (qlv9 Ct1 hr (qv 0) (qa_c (qv 1) (qa_c (qv 2) (qa_c (qv 3) qad9)))))))),?_⟩
 walk_at "d"
 obtain ⟨dx,l,pr,x1,R1,hM⟩:=hg.ex
 have hk:=(List.getElem?_eq_some_iff.mp hD).1
 refine ⟨_,rfl,x,C,dx,_,_,rfl,x1,G.cl,G.ns,rfl,_,rfl,N,p,rfl,p0,p1,?_⟩
 refine ⟨_,rfl,x,dx,_,rfl,x1,rfl,_,rfl,x,d,N,M,Cs,k,rfl,hg,hk,?_⟩
 exact ⟨_,rfl,x,dx,_,rfl,x1,rfl,_,rfl,_,rfl,_,rfl,x,d,N,M,Cs,p,t,k,D,rfl,hg,hT,hD,cs,p0,p1,q⟩
end
def XCl (K:W.Frag) (mg:Str->Option Value) (x:Str) (C:Addr) (bm:List Value):Prop:=ExC K C bm/\mg x=some (.ref C)
theorem DvN.same {H H':Hp} {x:V} (h:DvN H x) (s:Same H H'):DvN H' x:=⟨h.1.same s,fun xs e=>by
 rw [h.1.lstV_same s] at e
 exact ⟨(h.2 xs e).1,fun y hy=>((h.2 xs e).2 y hy).same s⟩⟩
theorem DvN.netV_same {H H':Hp} {x:V} (h:DvN H x) (s:Same H H') (day:Int) (size:V):netV H' day size x=netV H day size x:=by
 unfold netV
 rw [h.1.lstV_same s]
 split
 ·congr 1
  cases e:lstV H x with
  | none=>rfl
  | some xs =>
   rw [Bool.eq_iff_iff,List.all_eq_true,List.all_eq_true]
   exact ⟨fun z y hy=>by rw [<- ((h.2 xs e).2 y hy).roadV_same s]; exact z y hy,fun z y hy=>by rw [((h.2 xs e).2 y hy).roadV_same s]; exact z y hy⟩
 ·rfl
def spNetX (CN:Addr):Sp:=fun vs H _ E=>∃ (d:Int) (size x:V),vs=[.int d,size,x]/\Dv H size/\DvN H x/\netV H d size x=false/\∀ H',Same H H'->E (.ref CN) none H'
def qos9 (CP:Addr):Sp:=fun vs H _ E=>∃ (size:Int) (x:V),vs=[.int size,x]/\Dv H x/\numV size x=false/\E (.ref CP) none H
abbrev spNetB (CN:Addr):Sp:=fun vs H Q E=>qio9 vs H Q E\/spNetX CN vs H Q E
abbrev qky9 (CP:Addr):Sp:=fun vs H Q E=>qeo9 vs H Q E\/qos9 CP vs H Q E
def turnV:V->Bool
 | .int k=>decide (0<=k)
 | _=>false
def spTurnX (CT:Addr):Sp:=fun vs H _ E=>∃ x:V,vs=[x]/\Dv H x/\turnV x=false/\E (.ref CT) none H
def RefL (CN CP CT:Addr) (d:Int) (size roads goal most:V) (H:Hp) (E:XK):Prop:=(Dv H size/\DvN H roads/\netV H d size roads=false/\∀ H',Same H H'->E (.ref CN) none H') \/
 ∃ (N:Int) (p:Addr) (Ns:List RdT),size=.int N/\roads=.ref p/\NA H p Ns/\Ns.length<=1000/\NetOk d N Ns/\1<=N/\((Dv H goal/\numV N goal=false/\∀ H',Same H H'->E (.ref CP) none H') \/
  ∃ g:Int,goal=.int g/\0<=g/\g < N/\Dv H most/\turnV most=false/\∀ H',Same H H'->E (.ref CT) none H')
def spLRX (CN CP CT:Addr):Sp:=fun vs H _ E=>∃ (d:Int) (size roads goal most:V),vs=[.int d,size,roads,goal,most]/\RefL CN CP CT d size roads goal most H E
def qqe9 (CN CP CT:Addr):Sp:=fun vs H _ E=>∃ (x:Addr) (d:Int) (size roads goal most:V),vs=[.ref x,.int d,size,roads,goal,most]/\RefL CN CP CT d size roads goal most H E
def qjg9 (C CT:Addr):Sp:=fun vs H _ E=>∃ (x:Addr) (d:Int) (n:Nat) (M:List RdT) (Cs:List Tb) (v:V),vs=[.ref x,v]/\GateAt C H x d n M Cs/\1<=Cs.length/\Dv H v/\numV Cs.length v=false/\E (.ref CT) none H
def qht9 (C CP CT:Addr):Sp:=fun vs H _ E=>∃ (x:Addr) (d:Int) (n:Nat) (M:List RdT) (Cs:List Tb) (pl:V) (t:Int) (lf:V),vs=[.ref x,pl,.int t,lf]/\GateAt C H x d n M Cs/\1<=Cs.length/\((Dv H pl/\numV n pl=false/\E (.ref CP) none H) \/
 ∃ p:Int,pl=.int p/\0<=p/\p < (n:Int)/\Dv H lf/\numV Cs.length lf=false/\E (.ref CT) none H)
def spOpenB:Sp:=fun vs H Q _=>∃ (d:Int) (r:Addr) (wd:T3) (t:Int),vs=[.int d,.ref r,.int t]/\0 < d/\H r=some (.tup (enc3 wd))/\Q (.bl (decide (wd.1<=t % d) && decide (t % d<=wd.2.1))) H
def AskX (H:Hp) (d:Int) (M:List RdT) (rd wd:V) (t:Int):Prop:=(Dv H rd/\numV M.length rd=false)\/∃ (k:Nat) (m:RdT),rd=.int k/\M[k]?=some m/\((Dv H wd/\numV m.2.2.2.length wd=false)\/∃ (j:Nat) (w:T3),wd=.int j/\m.2.2.2[j]?=some w/\¬ (w.1<=t % d/\t % d<=w.2.1))
def AskOk (d:Int) (M:List RdT) (rd wd:V) (t:Int):Prop:=∃ (k:Nat) (m:RdT) (j:Nat) (w:T3),rd=.int k/\M[k]?=some m/\wd=.int j/\m.2.2.2[j]?=some w/\w.1<=t % d/\t % d<=w.2.1
def spAskX (C CR:Addr):Sp:=fun vs H Q E=>∃ (x:Addr) (d:Int) (n:Nat) (M:List RdT) (Cs:List Tb) (rd wd:V) (t:Int),vs=[.ref x,rd,wd,.int t]/\GateAt C H x d n M Cs/\0 < d/\((AskOk d M rd wd t/\Q .non H)\/(AskX H d M rd wd t/\E (.ref CR) none H))
def qnu9 (C CR CT:Addr):Sp:=fun vs H _ E=>∃ (x:Addr) (d:Int) (n:Nat) (M:List RdT) (Cs:List Tb) (rd wd:V) (t:Int) (lf:V),vs=[.ref x,rd,wd,.int t,lf]/\GateAt C H x d n M Cs/\0 < d/\1<=Cs.length/\((AskX H d M rd wd t/\E (.ref CR) none H)\/(AskOk d M rd wd t/\Dv H lf/\numV Cs.length lf=false/\E (.ref CT) none H))
section
variable {P:Program} {w:World} {K:W.Frag} {mg:Str->Option Value} {base:Heap} {f:Addr} {fd:FuncData} {n:Nat} {CN CP CT CR C:Addr} {bm bmP:List Value} {T:Hp->Prop}
theorem qkg9 (X_NoNet:XCl K mg "NoNet" CN bm) (F:Fun K "need_net" "need_net" qcj9 f fd) (Cp0:Callee P w K mg base n "is_net" ["day","size","roads"] qnh9):FnOk P w K mg base (CXE P w) (n+1) f fd ["day","size","roads"] (spNetX CN):=by
 refine F.okX qhs9 (fun vs H Q E h=>?_) (fun cdv A outer s H vs Q E hr h=>?_)
 ·obtain ⟨_,_,_,rfl,_⟩:=h
  rfl
 obtain ⟨d,size,x,rfl,dv,dn,hb,q⟩:=h
 refine ⟨_,(qae9 (qs_if (qee9 (qcq9 (qe_fn Cp0 hr rfl (qa_c (qv 0) (qa_c (qv 1) (qa_c (qv 2) qad9)))))) (qae9 (qfg9 makeE X_NoNet.1 rfl X_NoNet.2 (qa_c qgq9 qad9))) qat9)),?_⟩
 walk_at "d"
 refine ⟨_,rfl,_,rfl,_,rfl,d,size,x,rfl,dv,dn,fun H1 s1=>?_⟩
 rw [hb]
 exact ⟨_,rfl,iteT ⟨by decide,q H1 s1⟩⟩
theorem qim9 (X_NoPlace:XCl K mg "NoPlace" CP bmP) (F:Fun K "need_place" "need_place" qbs9 f fd) (Cb0:Callee P w K mg base n "is_number" ["count","thing"] qfk9):FnOk P w K mg base (CXE P w) (n+1) f fd ["size","thing"] (qos9 CP):=by
 refine F.okX qga9 (fun vs H Q E h=>?_) (fun cdv A outer s H vs Q E hr h=>?_)
 ·obtain ⟨_,_,rfl,_⟩:=h
  rfl
 obtain ⟨N,x,rfl,dv,hb,q⟩:=h
 refine ⟨_,(qae9 (qs_if (qee9 (qcq9 (qe_fn Cb0 hr rfl (qa_c (qv 0) (qa_c (qv 1) qad9))))) (qae9 (qfg9 makeE X_NoPlace.1 rfl X_NoPlace.2 (qa_c qgq9 qad9))) qat9)),?_⟩
 walk_at "d"
 refine ⟨_,rfl,_,rfl,N,x,rfl,dv,?_⟩
 rw [hb]
 exact ⟨_,rfl,iteT ⟨by decide,q⟩⟩
theorem qiv9 (X_NoTurn:XCl K mg "NoTurn" CT bm) (F:Fun K "need_turn" "need_turn" qca9 f fd) (Cc0:Callee P w K mg base n "is_whole" ["thing"] qez9):FnOk P w K mg base (CXE P w) (n+1) f fd ["thing"] (spTurnX CT):=by
 refine F.okX qgj9 (fun vs H Q E h=>?_) (fun cdv A outer s H vs Q E hr h=>?_)
 ·obtain ⟨_,rfl,_⟩:=h
  rfl
 obtain ⟨x,rfl,dv,hb,q⟩:=h
 refine ⟨_,(qae9 (qs_if (QW.pt (qw_or (qee9 (qcq9 (qe_fn Cc0 hr rfl (qa_c (qv 0) qad9)))) (qff9 (qaj9 qcy9 (qv 0) qaa9 (qas9 _))))) (qae9 (qfg9 makeE X_NoTurn.1 rfl X_NoTurn.2 (qa_c qgq9 qad9))) qat9)),?_⟩
 walk_at "d"
 refine ⟨_,rfl,x,rfl,dv,_,rfl,?_⟩
 cases hw:isWh x with
 | false=>exact iteT ⟨by decide,q⟩
 | true =>
  obtain ⟨k,rfl⟩:∃ k,x=.int k:=by
   cases x <;> first | exact ⟨_,rfl⟩ | cases hw
  have k0:k < 0:=by
   have:=of_decide_eq_false hb
   omega
  exact iteF ⟨_,rfl,_,_,rfl,rfl,_,rfl,iteP (by simpa using k0) ⟨by decide,q⟩⟩
theorem qnf9 (F:Fun K "level_rounds" "level_rounds" qbl9 f fd) (CX_need_net:CalleeX P w K mg base n "need_net" ["day","size","roads"] (spNetB CN)) (CX_need_place:CalleeX P w K mg base n "need_place" ["size","thing"] (qky9 CP)) (CX_need_turn:CalleeX P w K mg base n "need_turn" ["thing"] (spTurnX CT)):FnOk P w K mg base (CXE P w) (n+1) f fd ["day","size","roads","goal","most"] (spLRX CN CP CT):=by
 refine F.okX sc_level_rounds (fun vs H Q E h=>?_) (fun cdv A outer s H vs Q E hr h=>?_)
 ·obtain ⟨_,_,_,_,_,rfl,_⟩:=h
  rfl
 obtain ⟨d,size,roads,goal,most,rfl,alt⟩:=h
 refine ⟨_,qac9 (qbg9 (qje9 CX_need_net hr rfl passE (qa_c (qv 0) (qa_c (qv 1) (qa_c (qv 2) qad9))))) (qac9 (qbg9 (qje9 CX_need_place hr rfl passE (qa_c (qv 1) (qa_c (qv 3) qad9)))) (qac9 (qbg9 (qje9 CX_need_turn hr rfl passE (qa_c (qv 4) qad9))) qfn9)),?_⟩
 rcases alt with ⟨dv,dn,hb,q⟩ | ⟨N,p,Ns,rfl,rfl,hN,hl,nok,n1,alt⟩
 ·exact ⟨_,rfl,_,rfl,_,rfl,.inr ⟨d,size,roads,rfl,dv,dn,hb,q⟩⟩
 refine ⟨_,rfl,_,rfl,_,rfl,.inl ⟨d,N,p,Ns,rfl,hN,hl,nok,n1,fun H1 s1=>?_⟩⟩
 rcases alt with ⟨dv,hb,q⟩ | ⟨g,rfl,g0,g1,dv,hb,q⟩
 ·exact ⟨_,rfl,_,rfl,.inr ⟨N,goal,rfl,dv.same s1,hb,q H1 s1⟩⟩
 ·exact ⟨_,rfl,_,rfl,.inl ⟨N,g,rfl,g0,g1,_,rfl,most,rfl,dv.same s1,hb,q H1 s1⟩⟩
theorem qpu9 (F:Fun K "levels" "levels" qef9 f fd) (CX_level_rounds:CalleeX P w K mg base n "level_rounds" ["day","size","roads","goal","most"] (spLRX CN CP CT)):FnOk P w K mg base (CXE P w) (n+1) f fd ["day","size","roads","goal","most"] (spLRX CN CP CT):=by
 refine F.okX sc_levels (fun vs H Q E h=>?_) (fun cdv A outer s H vs Q E hr h=>?_)
 ·obtain ⟨_,_,_,_,_,rfl,_⟩:=h
  rfl
 obtain ⟨d,size,roads,goal,most,rfl,alt⟩:=h
 refine ⟨_,(qae9 (qax9 (qfc9 ["tables"] [none] (BlkOk.of rfl rfl (SubL.to subN) rfl) rfl (qdn9 (qje9 CX_level_rounds hr rfl passE (qa_c (qv 0) (qa_c (qv 1) (qa_c (qv 2) (qa_c (qv 3) (qa_c (qv 4) qad9))))))) (fun _ _ _ _=>(qam9 (i:=0) (show (["tables"]:List Str).Nodup by decide) rfl (Or.inl rfl))) (fun _ _ _ _=>(qe_ix (qix_listK K rfl) (qv 0) (qds9 qaa9) (fun _ _=>rfl)))))),?_⟩
 walk_at "d"
 exact ⟨_,rfl,_,rfl,_,rfl,_,rfl,_,rfl,d,size,roads,goal,most,rfl,alt⟩
theorem ok_initX (F:FunD K "__init__" "Gate.__init__" qau9 f fd) (CX_level_rounds:CalleeX P w K mg base n "level_rounds" ["day","size","roads","goal","most"] (spLRX CN CP CT)):FnOk P w K mg base (CXE P w) (n+1) f fd ["self","day","size","roads","goal","most"] (qqe9 CN CP CT):=by
 refine F.okX qej9 (fun vs H Q E h=>?_) (fun cdv A outer s H vs Q E hr h=>?_)
 ·obtain ⟨_,_,_,_,_,_,rfl,_⟩:=h
  rfl
 obtain ⟨x,d,size,roads,goal,most,rfl,alt⟩:=h
 refine ⟨_,qac9 (qnt9 (qv 0) (qje9 CX_level_rounds hr rfl passE (qa_c (qv 1) (qa_c (qv 2) (qa_c (qv 3) (qa_c (qv 4) (qa_c (qv 5) qad9))))))) qfn9,?_⟩
 exact ⟨_,rfl,_,rfl,_,rfl,_,rfl,_,rfl,d,size,roads,goal,most,rfl,alt⟩
theorem qiu9 (X_NoTurn:XCl K mg "NoTurn" CT bm) (G:GTxt K C) (F:Fun K "need_left" "Gate.need_left" qbc9 f fd) (B:Bl mg) (Cb0:Callee P w K mg base n "is_number" ["count","thing"] qfk9):FnOk P w K mg base (CXE P w) (n+1) f fd ["self","left"] (qjg9 C CT):=by
 refine F.okX qeg9 (fun vs H Q E h=>?_) (fun cdv A outer s H vs Q E hr h=>?_)
 ·obtain ⟨_,_,_,_,_,_,rfl,_⟩:=h
  rfl
 obtain ⟨x,d,N,M,Cs,v,rfl,hg,h1,dv,hb,q⟩:=h
 refine ⟨_,(qae9 (qs_if (qee9 (qcq9 (qe_fn Cb0 hr rfl (qa_c (qe_cb qao9 rfl B.len qby9 (qa_c (qhh9 (qv 0)) qad9)) (qa_c (qv 1) qad9))))) (qae9 (qfg9 makeE X_NoTurn.1 rfl X_NoTurn.2 (qa_c qgq9 qad9))) qat9)),?_⟩
 walk_at "d"
 obtain ⟨dx,l,pr,x1,R1,hM⟩:=hg.ex
 obtain ⟨xs,ys,lk,qk,e1,e2,_⟩:=R1.at (List.getElem?_eq_getElem (show 0 < Cs.length by omega))
 refine ⟨_,rfl,x,C,dx,_,_,rfl,x1,G.cl,G.nl,rfl,l,_,rfl,.inl (SqL.of e1),_,rfl,_,_,rfl,dv,_,rfl,?_⟩
 rw [e2,hb]
 exact iteT ⟨by decide,q⟩
theorem qmo9 (G:GTxt K C) (F:Fun K "soonest" "Gate.soonest" qbe9 f fd) (CX_need_place:CalleeX P w K mg base n "need_place" ["size","thing"] (qky9 CP)) (MX_need_left:MCalX P w K mg base n C "need_left" ["self","left"] (qjg9 C CT)):FnOk P w K mg base (CXE P w) (n+1) f fd ["self","place","t","left"] (qht9 C CP CT):=by
 refine F.okX qfd9 (fun vs H Q E h=>?_) (fun cdv A outer s H vs Q E hr h=>?_)
 ·obtain ⟨_,_,_,_,_,_,_,_,rfl,_⟩:=h
  rfl
 obtain ⟨x,d,N,M,Cs,pl,t,lf,rfl,hg,h1,alt⟩:=h
 refine ⟨_,qac9 (qbg9 (qje9 CX_need_place hr rfl passE (qa_c (qhh9 (qv 0)) (qa_c (qv 1) qad9)))) (qac9 (qbg9 (qdt9 MX_need_left hr passE (qv 0) (qa_c (qv 3) qad9))) qfn9),?_⟩
 obtain ⟨dx,l,pr,x1,R1,hM⟩:=hg.ex
 refine ⟨_,rfl,x,C,dx,_,_,rfl,x1,G.cl,G.ns,rfl,_,rfl,?_⟩
 rcases alt with ⟨dv,hb,q⟩ | ⟨p,rfl,p0,p1,dv,hb,q⟩
 ·exact .inr ⟨N,pl,rfl,dv,hb,q⟩
 ·exact .inl ⟨N,p,rfl,p0,p1,_,rfl,x,dx,_,rfl,x1,rfl,_,rfl,x,d,N,M,Cs,lf,rfl,hg,h1,dv,hb,q⟩
theorem ok_planX (G:GTxt K C) (F:Fun K "plan" "Gate.plan" qbv9 f fd) (CX_need_place:CalleeX P w K mg base n "need_place" ["size","thing"] (qky9 CP)) (MX_need_left:MCalX P w K mg base n C "need_left" ["self","left"] (qjg9 C CT)):FnOk P w K mg base (CXE P w) (n+1) f fd ["self","place","t","left"] (qht9 C CP CT):=by
 refine F.okX qki9 (fun vs H Q E h=>?_) (fun cdv A outer s H vs Q E hr h=>?_)
 ·obtain ⟨_,_,_,_,_,_,_,_,rfl,_⟩:=h
  rfl
 obtain ⟨x,d,N,M,Cs,pl,t,lf,rfl,hg,h1,alt⟩:=h
 refine ⟨_,qac9 (qbg9 (qje9 CX_need_place hr rfl passE (qa_c (qhh9 (qv 0)) (qa_c (qv 1) qad9)))) (qac9 (qbg9 (qdt9 MX_need_left hr passE (qv 0) (qa_c (qv 3) qad9))) qfn9),?_⟩
 obtain ⟨dx,l,pr,x1,R1,hM⟩:=hg.ex
 refine ⟨_,rfl,x,C,dx,_,_,rfl,x1,G.cl,G.ns,rfl,_,rfl,?_⟩
 rcases alt with ⟨dv,hb,q⟩ | ⟨p,rfl,p0,p1,dv,hb,q⟩
 ·exact .inr ⟨N,pl,rfl,dv,hb,q⟩
 ·exact .inl ⟨N,p,rfl,p0,p1,_,rfl,x,dx,_,rfl,x1,rfl,_,rfl,x,d,N,M,Cs,lf,rfl,hg,h1,dv,hb,q⟩
theorem ok_openB (F:Fun K "open_at" "open_at" qdu9 f fd):FnOk P w K mg base CX0 (n+1) f fd ["day","window","t"] spOpenB:=by
 refine F.okQ qnv9 (fun vs H Q E h=>?_) (fun cdv A outer s H vs Q E hr h=>?_)
 ·obtain ⟨_,_,_,_,rfl,_⟩:=h
  rfl
 obtain ⟨d,r,wd,t,rfl,hd,er,q⟩:=h
 refine ⟨_,(qae9 (qax9 (qoe9 qjf9 qjf9 (qe_ix qba9 (qv 1) qaa9 (fun _ _=>rfl)) (qe_op qav9 (qv 2) (qv 0)) (qe_ix qba9 (qv 1) qaa9 (fun _ _=>rfl))))),?_⟩
 walk_at "d"
 refine ⟨_,rfl,r,_,_,_,rfl,rfl,SqT.of er,rfl,_,rfl,_,rfl,_,_,rfl,rfl,hd,_,_,rfl,rfl,_,rfl,?_⟩
 refine ite2 (fun c=>?_) (fun c=>?_)
 ·refine ⟨_,rfl,r,_,_,_,rfl,rfl,SqT.of er,rfl,_,_,rfl,rfl,?_⟩
  have c':wd.1<=t % d:=of_decide_eq_true c
  rw [decide_eq_true c',Bool.true_and] at q
  exact q
 ·have c':¬ wd.1<=t % d:=fun z=>c (decide_eq_true z)
  rw [decide_eq_false c',Bool.false_and] at q
  exact q
theorem qju9 (X_NoRoad:XCl K mg "NoRoad" CR bm) (G:GTxt K C) (F:Fun K "need_ask" "Gate.need_ask" qbf9 f fd) (B:Bl mg) (Cb0:Callee P w K mg base n "is_number" ["count","thing"] qfk9) (Cm1:Callee P w K mg base n "open_at" ["day","window","t"] spOpenB):FnOk P w K mg base (CXE P w) (n+1) f fd ["self","road","window","x"] (spAskX C CR):=by
 refine F.okX sc_Gate_need_ask (fun vs H Q E h=>?_) (fun cdv A outer s H vs Q E hr h=>?_)
 ·obtain ⟨_,_,_,_,_,_,_,_,rfl,_⟩:=h
  rfl
 obtain ⟨x,d,N,M,Cs,rd,wd,t,rfl,hg,hd,alt⟩:=h
 refine ⟨_,(qac9 (qs_if (qee9 (qcq9 (qe_fn Cb0 hr rfl (qa_c (qe_cb qao9 rfl B.len qby9 (qa_c (qhh9 (qv 0)) qad9)) (qa_c (qv 1) qad9))))) (qae9 (qfg9 makeE X_NoRoad.1 rfl X_NoRoad.2 (qa_c qgq9 qad9))) qat9) (qac9 (qak9 (i:=4) sc_Gate_need_ask.nd rfl (Or.inl rfl) (qe_ix qba9 (qe_ix qai9 (qhh9 (qv 0)) (qv 1) (fun _ _=>rfl)) qaa9 (fun _ _=>rfl))) (qac9 (qs_if (qee9 (qcq9 (qe_fn Cb0 hr rfl (qa_c (qe_cb qao9 rfl B.len qby9 (qa_c (qv 4) qad9)) (qa_c (qv 2) qad9))))) (qae9 (qfg9 makeE X_NoRoad.1 rfl X_NoRoad.2 (qa_c qgq9 qad9))) qat9) (qae9 (qs_if (qee9 (qcq9 (qe_fn Cm1 hr rfl (qa_c (qhh9 (qv 0)) (qa_c (qe_ix qai9 (qv 4) (qv 2) (fun _ _=>rfl)) (qa_c (qv 3) qad9)))))) (qae9 (qfg9 makeE X_NoRoad.1 rfl X_NoRoad.2 (qa_c qgq9 qad9))) qat9))))),?_⟩
 walk_at "d"
 obtain ⟨dx,l,pr,x1,R1,hM⟩:=hg.ex
 rcases alt with ⟨⟨k,m,j,wd',rfl,hm,rfl,hw,o1,o2⟩,q⟩ | ⟨⟨dv,hb⟩ | ⟨k,m,rfl,hm,alt⟩,q⟩
 ·obtain ⟨ws,r,w1,w2,w3,w4⟩:=hM.atG hm
  have hk:=(List.getElem?_eq_some_iff.mp hm).1
  have hj:=(List.getElem?_eq_some_iff.mp hw).1
  obtain ⟨vs,v1,v2,v3⟩:=(hM.bd m (List.mem_of_getElem? hm)).1.at (K:=K)
  obtain ⟨rw',a1,a2⟩:=v3 j wd' hw
  refine ⟨_,rfl,x,C,dx,_,_,rfl,x1,G.cl,G.nr,rfl,pr,_,rfl,.inl (SqL.of w1),_,rfl,_,_,rfl,.int _,_,rfl,?_⟩
  rw [w2,qgs9 hk]
  refine iteF ?_
  refine ⟨_,rfl,x,C,dx,_,_,rfl,x1,G.cl,G.nr,rfl,_,rfl,pr,_,_,_,rfl,rfl,SqL.of w1,w3,r,_,_,_,rfl,rfl,SqT.of w4,rfl,?_⟩
  refine ⟨_,rfl,m.2.2.1,_,rfl,.inl (SqL.of v1),_,rfl,_,_,rfl,.int _,_,rfl,?_⟩
  rw [v2,qgs9 hj]
  refine iteF ?_
  refine ⟨_,rfl,x,C,dx,_,_,rfl,x1,G.cl,G.nd,rfl,_,rfl,_,rfl,m.2.2.1,_,_,_,rfl,rfl,SqL.of v1,a1,_,rfl,d,rw',wd',t,rfl,hd,a2,_,rfl,?_⟩
  rw [decide_eq_true o1,decide_eq_true o2]
  exact iteF q
 ·obtain ⟨ws,w1,w2,_⟩:=hM.la.lst
  rw [List.length_map] at w2
  refine ⟨_,rfl,x,C,dx,_,_,rfl,x1,G.cl,G.nr,rfl,pr,_,rfl,.inl (SqL.of w1),_,rfl,_,_,rfl,dv,_,rfl,?_⟩
  rw [w2,hb]
  exact iteT ⟨by decide,q⟩
 ·obtain ⟨ws,r,w1,w2,w3,w4⟩:=hM.atG hm
  have hk:=(List.getElem?_eq_some_iff.mp hm).1
  obtain ⟨vs,v1,v2,v3⟩:=(hM.bd m (List.mem_of_getElem? hm)).1.at (K:=K)
  refine ⟨_,rfl,x,C,dx,_,_,rfl,x1,G.cl,G.nr,rfl,pr,_,rfl,.inl (SqL.of w1),_,rfl,_,_,rfl,.int _,_,rfl,?_⟩
  rw [w2,qgs9 hk]
  refine iteF ?_
  refine ⟨_,rfl,x,C,dx,_,_,rfl,x1,G.cl,G.nr,rfl,_,rfl,pr,_,_,_,rfl,rfl,SqL.of w1,w3,r,_,_,_,rfl,rfl,SqT.of w4,rfl,?_⟩
  rcases alt with ⟨dv,hb⟩ | ⟨j,wd',rfl,hw,no⟩
  ·refine ⟨_,rfl,m.2.2.1,_,rfl,.inl (SqL.of v1),_,rfl,_,_,rfl,dv,_,rfl,?_⟩
   rw [v2,hb]
   exact iteT ⟨by decide,q⟩
  ·have hj:=(List.getElem?_eq_some_iff.mp hw).1
   obtain ⟨rw',a1,a2⟩:=v3 j wd' hw
   refine ⟨_,rfl,m.2.2.1,_,rfl,.inl (SqL.of v1),_,rfl,_,_,rfl,.int _,_,rfl,?_⟩
   rw [v2,qgs9 hj]
   refine iteF ?_
   refine ⟨_,rfl,x,C,dx,_,_,rfl,x1,G.cl,G.nd,rfl,_,rfl,_,rfl,m.2.2.1,_,_,_,rfl,rfl,SqL.of v1,a1,_,rfl,d,rw',wd',t,rfl,hd,a2,_,rfl,?_⟩
   have e:(decide (wd'.1<=t % d) && decide (t % d<=wd'.2.1))=false:=by
    rw [<- Bool.decide_and]
    exact decide_eq_false no
   rw [e]
   exact iteT ⟨by decide,q⟩
theorem ok_letsX (F:Fun K "lets" "Gate.lets" qbt9 f fd) (MX_need_ask:MCalX P w K mg base n C "need_ask" ["self","road","window","x"] (spAskX C CR)) (MX_need_left:MCalX P w K mg base n C "need_left" ["self","left"] (qjg9 C CT)):FnOk P w K mg base (CXE P w) (n+1) f fd ["self","road","window","x","left"] (qnu9 C CR CT):=by
 refine F.okX qjv9 (fun vs H Q E h=>?_) (fun cdv A outer s H vs Q E hr h=>?_)
 ·obtain ⟨_,_,_,_,_,_,_,_,_,rfl,_⟩:=h
  rfl
 obtain ⟨x,d,N,M,Cs,rd,wd,t,lf,rfl,hg,hd,h1,alt⟩:=h
 refine ⟨_,qac9 (qbg9 (qdt9 MX_need_ask hr passE (qv 0) (qa_c (qv 1) (qa_c (qv 2) (qa_c (qv 3) qad9))))) (qac9 (qbg9 (qdt9 MX_need_left hr passE (qv 0) (qa_c (qv 4) qad9))) qfn9),?_⟩
 obtain ⟨dx,l,pr,x1,R1,hM⟩:=id hg.ex
 refine ⟨_,rfl,x,dx,_,rfl,x1,rfl,_,rfl,_,rfl,_,rfl,x,d,N,M,Cs,rd,wd,t,rfl,hg,hd,?_⟩
 rcases alt with ⟨ax,q⟩ | ⟨ao,dv,hb,q⟩
 ·exact .inr ⟨ax,q⟩
 ·exact .inl ⟨ao,_,rfl,x,dx,_,rfl,x1,rfl,_,rfl,x,d,N,M,Cs,lf,rfl,hg,h1,dv,hb,q⟩
end
def exkB (K:W.Frag) (D:Addr):Bool:=(W.clsIn K D).isSome && (W.findIn K (.ref D) "__getattribute__" == some (some (.builtin "BaseException.__getattribute__")) && (W.findIn K (.ref D) "__getattr__" == some none && (W.findIn K (.ref D) "__class__" == some (some (.builtin "object.__class__")) &&
 (W.specialIn K (.builtin "object.__class__") "__get__" == some (some (.builtin "getset_descriptor.__get__")) && (W.takesIn K (.builtin "object.__class__") == some true && (W.mroIn K D (.type "object") == some true && W.mroIn K D (.type "BaseException") == some true))))))
theorem exk_of {K:W.Frag} {D:Addr} (h:exkB K D=true):ExK K D:=by
 simp only [exkB,Bool.and_eq_true,beq_iff_eq] at h
 obtain ⟨a,b,c,d,e,f,g,i⟩:=h
 exact ⟨a,b,c,d,e,f,g,i⟩
def isB (K:W.Frag) (D c:Addr) (y:Bool):Bool:=(y && Nat.beq D c) || (!y && (!Nat.beq D c && ((W.clsIn K c).isSome && (W.typeIn K (.ref c) == some (.type "type") && W.subIn K (.ref D) (.ref c) == some false))))
theorem kit_is {K:W.Frag} {D c:Addr} {y:Bool} (h:isB K D c y=true):W.kitOne K (.ref D) (.ref c)=some y:=by
 cases y with
 | true =>
  simp only [isB,Bool.true_and,Bool.not_true,Bool.false_and,Bool.or_false] at h
  have:D=c:=Nat.eq_of_beq_eq_true h
  subst this
  exact kit_self
 | false =>
  simp only [isB,Bool.false_and,Bool.not_false,Bool.true_and,Bool.false_or,Bool.and_eq_true,beq_iff_eq] at h
  obtain ⟨ne,hs,t,s⟩:=h
  obtain ⟨cd,hc⟩:=Option.isSome_iff_exists.mp hs
  refine kit_no hc t s fun z=>?_
  subst z
  simp at ne
def kindB (K:W.Frag) (D:Addr) (cs:List (Addr × Bool)):Bool:=exkB K D && (W.kitMeta "ValueError" && (W.subIn K (.ref D) (.type "ValueError") == some true && cs.all fun c=>isB K D c.1 c.2))
structure Kd (K:W.Frag) (D:Addr) (cs:List (Addr × Bool)):Prop where
 ek:ExK K D
 kv:W.kitOne K (.ref D) (.type "ValueError")=some true
 ks:∀ c∈cs,W.kitOne K (.ref D) (.ref c.1)=some c.2
theorem kd_of {K:W.Frag} {D:Addr} {cs:List (Addr × Bool)} (h:kindB K D cs=true):Kd K D cs:=by
 simp only [kindB,Bool.and_eq_true,beq_iff_eq] at h
 obtain ⟨a,b,c,d⟩:=h
 exact ⟨exk_of a,kit_ty b c,fun c hc=>kit_is (List.all_eq_true.mp d c hc)⟩
theorem qjn9:bootBuiltins "ValueError" = some (.type "ValueError"):=by decide +kernel
structure Mgs (mg:Str->Option Value) (cb cn cp cr ct cx cw cm co:Addr):Prop where
 ve:mg "ValueError" = none
 b:mg "NoBoard" = some (.ref cb)
 n:mg "NoNet" = some (.ref cn)
 p:mg "NoPlace" = some (.ref cp)
 r:mg "NoRoad" = some (.ref cr)
 t:mg "NoTurn" = some (.ref ct)
 x:mg "NoText" = some (.ref cx)
 w:mg "NoRow" = some (.ref cw)
 m:mg "NoName" = some (.ref cm)
 o:mg "NoWindow" = some (.ref co)
abbrev due67 (cb cn cp cr ct cx cw cm co:Addr) (i:Nat):List (Addr × Bool):=[(cb,false),(cn,i == 1),(cp,i == 2),(cr,i == 3),(ct,i == 4),(cx,false),(cw,false),(cm,false),(co,false)]
def kindsL (i:Nat):List Bool:=[false,i == 1,i == 2,i == 3,i == 4,false,false,false,false,false]
def spKinds (K:W.Frag) (cb cn cp cr ct cx cw cm co:Addr):Sp:=fun vs H Q _=>∃ (a D:Addr) (i:Nat),vs=[.ref a]/\H a=some (.ext (ExQ a D))/\Kd K D (due67 cb cn cp cr ct cx cw cm co i)/\∀ (l:Addr) (H':Hp),Same H H'->H' l=some (.lst ((kindsL i).map V.bl))->Q (.ref l) H'
def spOddN:Sp:=fun vs H Q _=>∃ cell N:Int,vs=[.int cell,.int N]/\0<=N/\N<=1000/\∀ (v:V) (H':Hp),Same H H'->Dv H' v->numV N v=false->Q v H'
def spDue:Sp:=fun vs H Q _=>∃ (way:Int) (rows:Bool),vs=[.int way,.bl rows]/\0<=way/\way < 12/\∀ (v:Int) (H':Hp),Same H H'->v=(if way=0\/way=1\/way=4 then 1 else if way=2\/way=5\/way=6\/way=7 then 2 else if way=3\/way=8\/(way=11/\rows=true) then 4 else 3)->Q (.int v) H'
section
variable {P:Program} {w:World} {K:W.Frag} {mg:Str->Option Value} {base:Heap} {f:Addr} {fd:FuncData} {n:Nat} {cb cn cp cr ct cx cw cm co:Addr}
theorem ok_kinds (ms:Mgs mg cb cn cp cr ct cx cw cm co) (F:Fun K "_law_kinds" "_law_kinds" qco9 f fd) (B:Bl mg):FnOk P w K mg base CX0 (n+1) f fd ["e"] (spKinds K cb cn cp cr ct cx cw cm co):=by
 refine F.okQ sc__law_kinds (fun vs H Q E h=>?_) (fun cdv A outer s H vs Q E hr h=>?_)
 ·obtain ⟨_,_,_,rfl,_⟩:=h
  rfl
 obtain ⟨a,D,i,rfl,e,kd,q⟩:=h
 refine ⟨_,(qac9 (qak9 (i:=1) sc__law_kinds.nd rfl (Or.inl rfl) (qbj9 (qa_c (qe_cb qcf9 rfl B.isinstance qaz9 (qa_c (qv 0) (qa_c (qic9 rfl ms.b) qad9))) (qa_c (qe_cb qcf9 rfl B.isinstance qaz9 (qa_c (qv 0) (qa_c (qic9 rfl ms.n) qad9))) (qa_c (qe_cb qcf9 rfl B.isinstance qaz9 (qa_c (qv 0) (qa_c (qic9 rfl ms.p) qad9))) (qa_c (qe_cb qcf9 rfl B.isinstance qaz9 (qa_c (qv 0) (qa_c (qic9 rfl ms.r) qad9))) qad9)))))) (qac9 (qak9 (i:=1) sc__law_kinds.nd rfl (Or.inl rfl) (qe_op qhu9 (qv 1) (qbj9 (qa_c (qe_cb qcf9 rfl B.isinstance qaz9 (qa_c (qv 0) (qa_c (qic9 rfl ms.t) qad9))) (qa_c (qe_cb qcf9 rfl B.isinstance qaz9 (qa_c (qv 0) (qa_c (qic9 rfl ms.x) qad9))) (qa_c (qe_cb qcf9 rfl B.isinstance qaz9 (qa_c (qv 0) (qa_c (qic9 rfl ms.w) qad9))) qad9)))))) (qae9 (qax9 (qe_op qhu9 (qv 1) (qbj9 (qa_c (qe_cb qcf9 rfl B.isinstance qaz9 (qa_c (qv 0) (qa_c (qic9 rfl ms.m) qad9))) (qa_c (qe_cb qcf9 rfl B.isinstance qaz9 (qa_c (qv 0) (qa_c (qic9 rfl ms.o) qad9))) (qa_c (qe_not (qe_cb qcf9 rfl B.isinstance qaz9 (qa_c (qv 0) (qa_c (qe_tyB rfl ms.ve qjn9) qad9)))) qad9))))))))),?_⟩
 walk_at "d"
 have kcb:W.kitOne K (.ref D) (.ref cb)=some (false):=kd.ks (cb,false) (by simp)
 have kcn:W.kitOne K (.ref D) (.ref cn)=some (i == 1):=kd.ks (cn,i == 1) (by simp)
 have kcp:W.kitOne K (.ref D) (.ref cp)=some (i == 2):=kd.ks (cp,i == 2) (by simp)
 have kcr:W.kitOne K (.ref D) (.ref cr)=some (i == 3):=kd.ks (cr,i == 3) (by simp)
 have kct:W.kitOne K (.ref D) (.ref ct)=some (i == 4):=kd.ks (ct,i == 4) (by simp)
 have kcx:W.kitOne K (.ref D) (.ref cx)=some (false):=kd.ks (cx,false) (by simp)
 have kcw:W.kitOne K (.ref D) (.ref cw)=some (false):=kd.ks (cw,false) (by simp)
 have kcm:W.kitOne K (.ref D) (.ref cm)=some (false):=kd.ks (cm,false) (by simp)
 have kco:W.kitOne K (.ref D) (.ref co)=some (false):=kd.ks (co,false) (by simp)
 refine ⟨_,rfl,a,D,_,_,rfl,e,kd.ek,.inl ⟨_,rfl,kcb⟩,_,rfl,a,D,_,_,rfl,e,kd.ek,.inl ⟨_,rfl,kcn⟩,_,rfl,a,D,_,_,rfl,e,kd.ek,.inl ⟨_,rfl,kcp⟩,_,rfl,a,D,_,_,rfl,e,kd.ek,.inl ⟨_,rfl,kcr⟩,(by show 4<=sizeLine; decide),fun p1 hp1=>?_⟩
 generalize hgH1:upd _ p1 _=H1
 revert H1
 refine qar9 hp1 fun H1 s1 e1=>?_
 have e:=s1 _ _ e
 refine ⟨_,rfl,_,rfl,a,D,_,_,rfl,e,kd.ek,.inl ⟨_,rfl,kct⟩,_,rfl,a,D,_,_,rfl,e,kd.ek,.inl ⟨_,rfl,kcx⟩,_,rfl,a,D,_,_,rfl,e,kd.ek,.inl ⟨_,rfl,kcw⟩,(by show 3<=sizeLine; decide),fun p2 hp2=>?_⟩
 generalize hgH2:upd _ p2 _=H2
 revert H2
 refine qar9 hp2 fun H2 s2 e2=>?_
 refine ⟨p1,p2,_,_,rfl,rfl,s2 _ _ e1,e2,(by show 7<=sizeLine; decide),fun p3 hp3=>?_⟩
 have e:=s2 _ _ e
 generalize hgH3:upd _ p3 _=H3
 revert H3
 refine qar9 hp3 fun H3 s3 e3=>?_
 have e:=s3 _ _ e
 refine ⟨_,rfl,_,rfl,a,D,_,_,rfl,e,kd.ek,.inl ⟨_,rfl,kcm⟩,_,rfl,a,D,_,_,rfl,e,kd.ek,.inl ⟨_,rfl,kco⟩,_,rfl,a,D,_,true,rfl,e,kd.ek,.inl ⟨_,rfl,kd.kv⟩,_,rfl,(by show 3<=sizeLine; decide),fun p4 hp4=>?_⟩
 generalize hgH4:upd _ p4 _=H4
 revert H4
 refine qar9 hp4 fun H4 s4 e4=>?_
 refine ⟨p3,p4,_,_,rfl,rfl,s4 _ _ e3,e4,(by show 10<=sizeLine; decide),fun p5 hp5=>?_⟩
 generalize hgH5:upd _ p5 _=H5
 revert H5
 refine qar9 hp5 fun H5 s5 e5=>?_
 exact q p5 H5 (s1.trans (s2.trans (s3.trans (s4.trans s5)))) e5
theorem ok_odd (F:Fun K "_law_odd" "_law_odd" qde9 f fd):FnOk P w K mg base CX0 (n+1) f fd ["cell","many"] spOddN:=by
 refine F.okQ sc__law_odd (fun vs H Q E h=>?_) (fun cdv A outer s H vs Q E hr h=>?_)
 ·obtain ⟨_,_,rfl,_⟩:=h
  rfl
 obtain ⟨cell,N,rfl,n0,n2,q⟩:=h
 refine ⟨_,(qac9 (qak9 (i:=2) sc__law_odd.nd rfl (Or.inl rfl) (qe_op qav9 (qe_op qay9 (qv 0) qaa9) (qe_op qgv9 qaa9 qaa9))) (qae9 (qax9 (qe_ix qai9 (qbj9 (qa_c (qv 1) (qa_c (qe_op qaw9 (qv 1) (qv 2)) (qa_c (qe_op qcr9 (qds9 qaa9) (qv 2)) (qa_c qe_bl (qa_c qih9 (qa_c qgq9 (qa_c (qbn9 (qa_c qaa9 qad9)) (qa_c (qbj9 (qa_c qaa9 qad9)) (qa_c qe_bl qad9)))))))))) (qe_op qav9 (qv 0) qaa9) (fun _ _=>rfl))))),?_⟩
 walk_at "d"
 refine ⟨_,rfl,_,_,rfl,rfl,⟨by decide,by decide⟩,_,_,rfl,rfl,⟨by decide,by decide,by decide⟩,_,_,rfl,rfl,(by show (0:Int) < 10 ^ (20:Int).toNat; rw [pow20]; decide),?_⟩
 have f0:=Int.emod_nonneg (cell / 9) (show (10:Int) ^ (20:Int).toNat ≠ 0 by rw [pow20]; decide)
 dsimp only
 generalize cell / 9 % 10 ^ (20:Int).toNat=far at *
 refine ⟨_,rfl,_,rfl,_,rfl,_,_,rfl,rfl,_,rfl,_,rfl,_,_,rfl,rfl,(by show 1<=sizeLine; decide),fun p1 hp1=>?_⟩
 generalize hgH1:upd _ p1 _=H1
 revert H1
 refine qar9 hp1 fun H1 s1 e1=>?_
 refine ⟨(by show 1<=sizeLine; decide),fun p2 hp2=>?_⟩
 generalize hgH2:upd _ p2 _=H2
 revert H2
 refine qar9 hp2 fun H2 s2 e2=>?_
 refine ⟨(by show 9<=sizeLine; decide),fun p3 hp3=>?_⟩
 generalize hgH3:upd _ p3 _=H3
 revert H3
 refine qar9 hp3 fun H3 s3 e3=>?_
 have em:=qeb9 cell (show (0:Int) < 9 by decide)
 obtain ⟨v,hv,vm⟩:=qnj9 (xs:=[V.int N,V.int (N+far),V.int (-1 - far),V.bl true,V.non,V.str "0",V.ref p1,V.ref p2,V.bl false]) em.1 em.2
 refine ⟨_,rfl,_,_,rfl,rfl,(by show (0:Int) < 9; decide),p3,_,_,v,rfl,rfl,SqL.of e3,hv,q v H3 (s1.trans (s2.trans s3)) ?_ ?_⟩
 ·simp only [List.mem_cons,List.not_mem_nil,or_false] at vm
  rcases vm with rfl | rfl | rfl | rfl | rfl | rfl | rfl | rfl | rfl
  ·exact .int _
  ·exact .int _
  ·exact .int _
  ·exact .bl _
  ·exact .non
  ·exact .str _
  ·exact .tup (s3 _ _ (s2 _ _ e1))
  ·exact .lst (s3 _ _ e2)
  ·exact .bl _
 ·simp only [List.mem_cons,List.not_mem_nil,or_false] at vm
  rcases vm with rfl | rfl | rfl | rfl | rfl | rfl | rfl | rfl | rfl <;> simp [numV] <;> omega
theorem ok_due (F:Fun K "_law_due" "_law_due" qdd9 f fd):FnOk P w K mg base CX0 (n+1) f fd ["way","rows"] spDue:=by
 refine F.okQ qng9 (fun vs H Q E h=>?_) (fun cdv A outer s H vs Q E hr h=>?_)
 ·obtain ⟨_,_,rfl,_⟩:=h
  rfl
 obtain ⟨way,rows,rfl,w0,w1,q⟩:=h
 refine ⟨_,(qac9 (qs_if (qaj9 qcy9 (qv 0) qaa9 (qas9 _)) (qae9 (qax9 (qe_ix qai9 (qbj9 (qa_c qaa9 (qa_c qaa9 (qa_c qaa9 (qa_c qaa9 (qa_c qaa9 (qa_c qaa9 qad9))))))) (qv 0) (fun _ _=>rfl)))) qat9) (qac9 (qs_if (qaj9 qcy9 (qv 0) qaa9 (qas9 _)) (qae9 (qax9 (qe_ix qai9 (qbj9 (qa_c qaa9 (qa_c qaa9 (qa_c qaa9 qad9)))) (qe_op qcr9 (qv 0) qaa9) (fun _ _=>rfl)))) qat9) (qac9 (qs_if (QW.pt (qjc9 (qaj9 qcb9 (qv 0) qaa9 (qas9 _)) (qgm9 (qcq9 (qv 1))))) (qae9 (qax9 qaa9)) qat9) (qae9 (qax9 qaa9))))),?_⟩
 walk_at "d"
 refine ⟨_,rfl,_,_,rfl,rfl,_,rfl,ite2 (fun c=>?_) (fun c=>?_)⟩
 ·have c':way < 6:=of_decide_eq_true c
  refine ⟨(by show 6<=sizeLine; decide),fun p1 hp1=>?_⟩
  generalize hgH1:upd _ p1 _=H1
  revert H1
  refine qar9 hp1 fun H1 s1 e1=>?_
  obtain ⟨v,hv,ev⟩:∃ v:Int,atI [V.int 1,V.int 1,V.int 2,V.int 4,V.int 1,V.int 2] way=some (.int v)/\v=(if way=0\/way=1\/way=4 then 1 else if way=2\/way=5\/way=6\/way=7 then 2 else if way=3\/way=8\/(way=11/\rows=true) then 4 else 3):=by
   rcases (by omega:way=0\/way=1\/way=2\/way=3\/way=4\/way=5) with rfl | rfl | rfl | rfl | rfl | rfl <;> exact ⟨_,rfl,by simp⟩
  exact ⟨_,rfl,p1,_,_,_,rfl,rfl,SqL.of e1,hv,q v H1 s1 ev⟩
 have c1:¬ way < 6:=fun z=>c (decide_eq_true z)
 refine ⟨_,rfl,_,_,rfl,rfl,_,rfl,ite2 (fun c=>?_) (fun c=>?_)⟩
 ·have c':way < 9:=of_decide_eq_true c
  refine ⟨(by show 3<=sizeLine; decide),fun p1 hp1=>?_⟩
  generalize hgH1:upd _ p1 _=H1
  revert H1
  refine qar9 hp1 fun H1 s1 e1=>?_
  obtain ⟨v,hv,ev⟩:∃ v:Int,atI [V.int 2,V.int 2,V.int 4] (way - 6)=some (.int v)/\v=(if way=0\/way=1\/way=4 then 1 else if way=2\/way=5\/way=6\/way=7 then 2 else if way=3\/way=8\/(way=11/\rows=true) then 4 else 3):=by
   rcases (by omega:way=6\/way=7\/way=8) with rfl | rfl | rfl <;> exact ⟨_,rfl,by simp⟩
  exact ⟨_,rfl,_,_,rfl,rfl,p1,_,_,_,rfl,rfl,SqL.of e1,hv,q v H1 s1 ev⟩
 have c2:¬ way < 9:=fun z=>c (decide_eq_true z)
 have no:¬ (way=0\/way=1\/way=4)/\¬ (way=2\/way=5\/way=6\/way=7):=⟨by omega,by omega⟩
 have q:=fun v h=>q v H (Same.refl H) h
 rw [if_neg no.1,if_neg no.2] at q
 refine ⟨_,rfl,rfl,_,rfl,ite2 (fun c=>?_) (fun c=>?_)⟩
 ·have c':way=11:=by
   have:=of_decide_eq_true c
   injection this
  refine ⟨_,rfl,_,rfl,?_⟩
  cases rows with
  | true=>exact iteT (q 4 (by rw [if_pos (.inr (.inr ⟨c',rfl⟩))]))
  | false=>exact iteF (q 3 (by rw [if_neg (fun z=>by rcases z with z | z | ⟨_,z⟩ <;> first | omega | cases z)]))
 ·have c':¬ way=11:=fun z=>c (decide_eq_true (by rw [z]))
  exact q 3 (by rw [if_neg (fun z=>by rcases z with z | z | ⟨z,_⟩ <;> omega)])
end
theorem roadV_tup {H:Hp} {p:Addr} {xs:List V} {d N:Int} (e:H p=some (.tup xs)):roadV H d N (.ref p)=roadL H d N xs:=by
 unfold roadV
 rw [show tupV H (.ref p)=some xs by simp [tupV,e]]
theorem roadV_non {H:Hp} {x:V} {d N:Int} (e:tupV H x=none):roadV H d N x=false:=by
 unfold roadV
 rw [e]
theorem board_bad {H:Hp} {p:Addr} {xs:List V} {y:V} {d:Int} (e:H p=some (.lst xs)) (hy:y∈xs) (h:(winV H d y && posW H y)=false):(qek9 H d (.ref p) && posB H (.ref p))=false:=by
 have el:lstV H (.ref p)=some xs:=by simp [lstV,e]
 refine Bool.eq_false_iff.mpr fun z=>?_
 rw [Bool.and_eq_true] at z
 unfold qek9 posB at z
 rw [el] at z
 have h1:=List.all_eq_true.mp z.1 y hy
 have h2:=List.all_eq_true.mp z.2 y hy
 rw [h1,h2] at h
 cases h
def Bd (d N:Int) (H0 H:Hp) (v:V):Prop:=Nw H0 H 3 v/\roadV H d N v=false
theorem Bd.same {d N:Int} {H0 H H':Hp} {v:V} (h:Bd d N H0 H v) (s:Same H H'):Bd d N H0 H' v:=⟨h.1.same s,by rw [(Nw.ew h.1).dr.roadV_same s]; exact h.2⟩
theorem qix9 {d N:Int} {H0 H:Hp} {t:Addr} {xs:List V} (f:H0 t=none) (e:H t=some (.tup xs)) (h:∀ y∈xs,Nw H0 H 2 y) (hr:roadL H d N xs=false):Bd d N H0 H (.ref t):=⟨Ew.tup (qfh9 f e) h,by rw [roadV_tup e]; exact hr⟩
theorem qjp9 {H0 H:Hp} {l:Addr} {n:Nat} (f:H0 l=none) (e:H l=some (.lst [])):Nw H0 H (n+1) (.ref l):=Ew.lst (qfh9 f e) (by simp) (by simp)
theorem qii9 {d N:Int} {H0 H:Hp} {t l:Addr} {xs:List V} {y:V} (ft:H0 t=none) (fl:H0 l=none) (et:H t=some (.tup [.int 0,.int 0,.ref l])) (el:H l=some (.lst xs)) (l3:xs.length<=3) (hx:∀ z∈xs,Nw H0 H 1 z) (hy:y∈xs) (hw:(winV H d y && posW H y)=false):Bd d N H0 H (.ref t):=by
 refine qix9 ft et (fun z hz=>?_) ?_
 ·simp only [List.mem_cons,List.not_mem_nil,or_false] at hz
  rcases hz with rfl | rfl | rfl
  ·exact .int _
  ·exact .int _
  ·exact Ew.lst (qfh9 fl el) (by omega) hx
 ·have:=board_bad (d:=d) el hy hw
  simp only [roadL,this,Bool.and_false]
theorem qqi9 {H:Hp} {p:Addr} {xs:List V} {d:Int} (e:H p=some (.tup xs)):winV H d (.ref p)=winL d xs:=by
 unfold winV
 rw [show tupV H (.ref p)=some xs by simp [tupV,e]]
theorem net_bad {H:Hp} {p:Addr} {xs:List V} {y:V} {d N:Int} (e:H p=some (.lst xs)) (hy:y∈xs) (h:roadV H d N y=false):netV H d (.int N) (.ref p)=false:=by
 unfold netV
 rw [show lstV H (.ref p)=some xs by simp [lstV,e]]
 refine Bool.eq_false_iff.mpr fun z=>?_
 rw [Bool.and_eq_true] at z
 have:=List.all_eq_true.mp z.2 y hy
 rw [h] at this
 cases this
theorem net_no {H:Hp} {v:V} {d N:Int} (e:lstV H v=none):netV H d (.int N) v=false:=by
 unfold netV
 rw [e]
 simp
def spBadR:Sp:=fun vs H Q _=>∃ (d N:Int) (pr:Addr) (cell:Int) (Ns:List RdT),vs=[.int d,.int N,.ref pr,.int cell]/\NA H pr Ns/\Ns.length<=100/\(∀ m∈Ns,m.2.2.2.length<=1000)/\1<=d/\∀ (v:V) (H':Hp),Same H H'->DvN H' v->netV H' d (.int N) v=false->Q v H'
section
variable {P:Program} {w:World} {K:W.Frag} {mg:Str->Option Value} {base:Heap} {f:Addr} {fd:FuncData} {n:Nat}
theorem ok_badR (F:Fun K "_law_bad_roads" "_law_bad_roads" qbp9 f fd) (B:Bl mg):FnOk P w K mg base CX0 (n+1) f fd ["day","size","roads","cell"] spBadR:=by
 refine F.okQ sc__law_bad_roads (fun vs H Q E h=>?_) (fun cdv A outer s H vs Q E hr h=>?_)
 ·obtain ⟨_,_,_,_,_,rfl,_⟩:=h
  rfl
 obtain ⟨d,N,pr,cell,Ns,rfl,hN,lN,lW,d1,q⟩:=h
 refine ⟨_,(qac9 (qak9 (i:=4) sc__law_bad_roads.nd rfl (Or.inl rfl) (qe_op qav9 (qe_op qay9 (qv 3) qaa9) (qe_op qgv9 qaa9 qaa9))) (qac9 (qak9 (i:=5) sc__law_bad_roads.nd rfl (Or.inl rfl) (qbj9 (qa_c (qbn9 (qa_c (qv 1) (qa_c qaa9 (qa_c (qbj9 qad9) qad9)))) (qa_c (qbn9 (qa_c qaa9 (qa_c (qe_op qcr9 (qds9 qaa9) (qv 4)) (qa_c (qbj9 qad9) qad9)))) (qa_c (qbn9 (qa_c qaa9 (qa_c qe_bl (qa_c (qbj9 qad9) qad9)))) (qa_c (qbn9 (qa_c qaa9 (qa_c qaa9 qad9))) (qa_c (qbj9 (qa_c qaa9 (qa_c qaa9 (qa_c (qbj9 qad9) qad9)))) (qa_c (qbn9 (qa_c qaa9 (qa_c qaa9 (qa_c (qbj9 qad9) (qa_c qaa9 qad9))))) (qa_c (qbn9 (qa_c qaa9 (qa_c qaa9 (qa_c qih9 qad9)))) qad9))))))))) (qac9 (qak9 (i:=5) sc__law_bad_roads.nd rfl (Or.inl rfl) (qe_op qhu9 (qv 5) (qbj9 (qa_c (qbn9 (qa_c qaa9 (qa_c qaa9 (qa_c (qbn9 (qa_c (qbn9 (qa_c qaa9 (qa_c qaa9 (qa_c qaa9 qad9)))) qad9)) qad9)))) (qa_c (qbn9 (qa_c qaa9 (qa_c qaa9 (qa_c (qbj9 (qa_c (qbn9 (qa_c qaa9 (qa_c qaa9 (qa_c qaa9 qad9)))) qad9)) qad9)))) (qa_c (qbn9 (qa_c qaa9 (qa_c qaa9 (qa_c (qbj9 (qa_c (qbn9 (qa_c qaa9 (qa_c (qe_op qaw9 (qv 0) (qv 4)) (qa_c qaa9 qad9)))) qad9)) qad9)))) (qa_c (qbn9 (qa_c qaa9 (qa_c qaa9 (qa_c (qbj9 (qa_c (qbn9 (qa_c qaa9 (qa_c qaa9 (qa_c qe_bl qad9)))) qad9)) qad9)))) qad9))))))) (qac9 (qak9 (i:=5) sc__law_bad_roads.nd rfl (Or.inl rfl) (qe_op qhu9 (qv 5) (qbj9 (qa_c (qbn9 (qa_c qaa9 (qa_c qaa9 (qa_c (qbj9 (qa_c (qbn9 (qa_c qaa9 (qa_c qaa9 (qa_c qaa9 qad9)))) (qa_c (qbn9 (qa_c qaa9 (qa_c qaa9 qad9))) qad9))) qad9)))) (qa_c qih9 qad9))))) (qac9 (qs_if (qaj9 qgp9 (qe_op qav9 (qv 3) qaa9) qaa9 (qas9 _)) (qae9 (qax9 (qe_ix qai9 (qbj9 (qa_c (qe_ct qmn9 rfl B.tuple_ qkp9 (qa_c (qv 2) qad9)) (qa_c qih9 (qa_c qgq9 qad9)))) (qe_op qcr9 (qe_op qav9 (qv 3) qaa9) qaa9) (fun _ _=>rfl)))) qat9) (qac9 (qak9 (i:=6) sc__law_bad_roads.nd rfl (Or.inl rfl) (qe_ct qfo9 rfl B.list_ qgo9 (qa_c (qv 2) qad9))) (qac9 (qbg9 (qe_insert (qv 6) (qa_c (qe_op qav9 (qv 4) (qe_op qaw9 (qe_cb qao9 rfl B.len qby9 (qa_c (qv 2) qad9)) qaa9)) (qa_c (qe_ix qai9 (qv 5) (qe_op qav9 (qv 3) qaa9) (fun _ _=>rfl)) qad9)))) (qae9 (qax9 (qv 6)))))))))),?_⟩
 walk_at "d"
 refine ⟨_,rfl,_,_,rfl,rfl,⟨by decide,by decide⟩,_,_,rfl,rfl,⟨by decide,by decide,by decide⟩,_,_,rfl,rfl,(by show (0:Int) < 10 ^ (20:Int).toNat; rw [pow20]; decide),?_⟩
 have far0:=Int.emod_nonneg (cell / 16) (show (10:Int) ^ (20:Int).toNat ≠ 0 by rw [pow20]; decide)
 dsimp only
 generalize cell / 16 % 10 ^ (20:Int).toNat=far at *
 have z0:(0:Nat)<=sizeLine:=by decide
 have z1:(1:Nat)<=sizeLine:=by decide
 have z2:(2:Nat)<=sizeLine:=by decide
 have z3:(3:Nat)<=sizeLine:=by decide
 have z4:(4:Nat)<=sizeLine:=by decide
 refine ⟨_,rfl,z0,fun l1 hl1=>?_⟩
 have fl1:=hl1
 generalize hgH1:upd _ l1 _=H1
 revert H1
 refine qar9 hl1 fun H1 s1 e1=>?_
 refine ⟨z3,fun t1 ht1=>?_⟩
 have ft1:=s1.free ht1
 generalize hgH2:upd _ t1 _=H2
 revert H2
 refine qar9 ht1 fun H2 s2 e2=>?_
 have S2:=s1.trans s2
 have b1:Bd d N H H2 (.ref t1):=qix9 ft1 e2 (fun y hy=>by
  simp only [List.mem_cons,List.not_mem_nil,or_false] at hy
  rcases hy with rfl | rfl | rfl
  ·exact .int _
  ·exact .int _
  ·exact qjp9 fl1 (s2 _ _ e1)) (by simp [roadL,numV])
 refine ⟨_,rfl,_,rfl,_,_,rfl,rfl,z0,fun l2 hl2=>?_⟩
 have fl2:=S2.free hl2
 generalize hgH3:upd _ l2 _=H3
 revert H3
 refine qar9 hl2 fun H3 s3 e3=>?_
 refine ⟨z3,fun t2 ht2=>?_⟩
 have ft2:=(S2.trans s3).free ht2
 generalize hgH4:upd _ t2 _=H4
 revert H4
 refine qar9 ht2 fun H4 s4 e4=>?_
 have S4:=(S2.trans s3).trans s4
 have b1:=b1.same (s3.trans s4)
 have b2:Bd d N H H4 (.ref t2):=qix9 ft2 e4 (fun y hy=>by
  simp only [List.mem_cons,List.not_mem_nil,or_false] at hy
  rcases hy with rfl | rfl | rfl
  ·exact .int _
  ·exact .int _
  ·exact qjp9 fl2 (s4 _ _ e3)) (by
   have e:numV N (.int (-1 - far))=false:=by
    show (decide ((0:Int)<=-1 - far) && decide (-1 - far < N))=false
    rw [decide_eq_false (by omega)]
    rfl
   simp only [roadL,e,Bool.false_and,Bool.and_false])
 refine ⟨z0,fun l3 hl3=>?_⟩
 have fl3:=S4.free hl3
 generalize hgH5:upd _ l3 _=H5
 revert H5
 refine qar9 hl3 fun H5 s5 e5=>?_
 refine ⟨z3,fun t3 ht3=>?_⟩
 have ft3:=(S4.trans s5).free ht3
 generalize hgH6:upd _ t3 _=H6
 revert H6
 refine qar9 ht3 fun H6 s6 e6=>?_
 have S6:=(S4.trans s5).trans s6
 have b3:Bd d N H H6 (.ref t3):=qix9 ft3 e6 (fun y hy=>by
  simp only [List.mem_cons,List.not_mem_nil,or_false] at hy
  rcases hy with rfl | rfl | rfl
  ·exact .int _
  ·exact .bl _
  ·exact qjp9 fl3 (s6 _ _ e5)) (by simp [roadL,numV])
 refine ⟨z2,fun t4 ht4=>?_⟩
 have ft4:=S6.free ht4
 generalize hgH7:upd _ t4 _=H7
 revert H7
 refine qar9 ht4 fun H7 s7 e7=>?_
 have S7:=S6.trans s7
 have two:∀ {Hx:Hp} {y:V},y∈[V.int 0,V.int 0]->Nw H Hx 2 y:=fun hy=>by
  simp at hy
  subst hy
  exact .int _
 have b4:Bd d N H H7 (.ref t4):=qix9 ft4 e7 (fun y hy=>two hy) rfl
 refine ⟨z0,fun l5 hl5=>?_⟩
 have fl5:=S7.free hl5
 generalize hgH8:upd _ l5 _=H8
 revert H8
 refine qar9 hl5 fun H8 s8 e8=>?_
 refine ⟨z3,fun m5 hm5=>?_⟩
 have fm5:=(S7.trans s8).free hm5
 generalize hgH9:upd _ m5 _=H9
 revert H9
 refine qar9 hm5 fun H9 s9 e9=>?_
 have S9:=(S7.trans s8).trans s9
 have b5:Bd d N H H9 (.ref m5):=⟨Ew.lst (qfh9 fm5 e9) (by simp) (fun y hy=>by
  simp only [List.mem_cons,List.not_mem_nil,or_false] at hy
  rcases hy with rfl | rfl | rfl
  ·exact .int _
  ·exact .int _
  ·exact qjp9 fl5 (s9 _ _ e8)),roadV_non (by simp [tupV,e9])⟩
 refine ⟨z0,fun l6 hl6=>?_⟩
 have fl6:=S9.free hl6
 generalize hgH10:upd _ l6 _=H10
 revert H10
 refine qar9 hl6 fun H10 s10 e10=>?_
 refine ⟨z4,fun t6 ht6=>?_⟩
 have ft6:=(S9.trans s10).free ht6
 generalize hgH11:upd _ t6 _=H11
 revert H11
 refine qar9 ht6 fun H11 s11 e11=>?_
 have S11:=(S9.trans s10).trans s11
 have b6:Bd d N H H11 (.ref t6):=qix9 ft6 e11 (fun y hy=>by
  simp only [List.mem_cons,List.not_mem_nil,or_false] at hy
  rcases hy with rfl | rfl | rfl | rfl
  ·exact .int _
  ·exact .int _
  ·exact qjp9 fl6 (s11 _ _ e10)
  ·exact .int _) rfl
 refine ⟨z3,fun t7 ht7=>?_⟩
 have ft7:=S11.free ht7
 generalize hgH12:upd _ t7 _=H12
 revert H12
 refine qar9 ht7 fun H12 s12 e12=>?_
 have S12:=S11.trans s12
 have b7:Bd d N H H12 (.ref t7):=qix9 ft7 e12 (fun y hy=>by
  simp only [List.mem_cons,List.not_mem_nil,or_false] at hy
  rcases hy with rfl | rfl | rfl
  ·exact .int _
  ·exact .int _
  ·exact .non) (by simp [roadL,qek9,lstV])
 refine ⟨(by show 7<=sizeLine; decide),fun q1 hq1=>?_⟩
 generalize hgH13:upd _ q1 _=H13
 revert H13
 refine qar9 hq1 fun H13 s13 e13=>?_
 have S13:=S12.trans s13
 refine ⟨_,rfl,z3,fun w8 hw8=>?_⟩
 have fw8:=S13.free hw8
 generalize hgH14:upd _ w8 _=H14
 revert H14
 refine qar9 hw8 fun H14 s14 e14=>?_
 refine ⟨z1,fun v8 hv8=>?_⟩
 have fv8:=(S13.trans s14).free hv8
 generalize hgH15:upd _ v8 _=H15
 revert H15
 refine qar9 hv8 fun H15 s15 e15=>?_
 refine ⟨z3,fun t8 ht8=>?_⟩
 have ft8:=((S13.trans s14).trans s15).free ht8
 generalize hgH16:upd _ t8 _=H16
 revert H16
 refine qar9 ht8 fun H16 s16 e16=>?_
 have S16:=((S13.trans s14).trans s15).trans s16
 have int3:∀ {Hx:Hp} {k:Nat} {xs:List V} {r:Addr},H r=none->Hx r=some (.tup xs)->(∀ y∈xs,(∃ i:Int,y=.int i)\/y=.bl true)->Nw H Hx (k+1) (.ref r):=fun fr er hx=>Ew.tup (qfh9 fr er) fun y hy=>by
  rcases hx y hy with ⟨i,rfl⟩ | rfl
  ·exact .int _
  ·exact .bl _
 have b8:Bd d N H H16 (.ref t8):=qix9 ft8 e16 (fun y hy=>by
  simp only [List.mem_cons,List.not_mem_nil,or_false] at hy
  rcases hy with rfl | rfl | rfl
  ·exact .int _
  ·exact .int _
  ·refine Ew.tup (qfh9 fv8 (s16 _ _ e15)) fun z hz=>?_
   rw [List.mem_singleton.mp hz]
   exact int3 (k:=0) fw8 (s16 _ _ (s15 _ _ e14)) (by simp)) (by
  have:qek9 H16 d (.ref v8)=false:=by simp [qek9,lstV,s16 _ _ e15]
  simp [roadL,this])
 refine ⟨z3,fun w9 hw9=>?_⟩
 have fw9:=S16.free hw9
 generalize hgH17:upd _ w9 _=H17
 revert H17
 refine qar9 hw9 fun H17 s17 e17=>?_
 refine ⟨z1,fun l9 hl9=>?_⟩
 have fl9:=(S16.trans s17).free hl9
 generalize hgH18:upd _ l9 _=H18
 revert H18
 refine qar9 hl9 fun H18 s18 e18=>?_
 refine ⟨z3,fun t9 ht9=>?_⟩
 have ft9:=((S16.trans s17).trans s18).free ht9
 generalize hgH19:upd _ t9 _=H19
 revert H19
 refine qar9 ht9 fun H19 s19 e19=>?_
 have S19:=((S16.trans s17).trans s18).trans s19
 have g9:=s19 _ _ (s18 _ _ e17)
 have b9:Bd d N H H19 (.ref t9):=qii9 ft9 fl9 e19 (s19 _ _ e18) (by simp) (fun z hz=>by rw [List.mem_singleton.mp hz]; exact int3 fw9 g9 (by simp)) (y:=.ref w9) (by simp) (by
  have:posW H19 (.ref w9)=false:=by
   unfold posW
   rw [show tupV H19 (.ref w9)=some [.int 0,.int 0,.int 0] by simp [tupV,g9]]
   rfl
  rw [this,Bool.and_false])
 refine ⟨_,rfl,_,rfl,_,_,rfl,rfl,z3,fun wa hwa=>?_⟩
 have fwa:=S19.free hwa
 generalize hgH20:upd _ wa _=H20
 revert H20
 refine qar9 hwa fun H20 s20 e20=>?_
 refine ⟨z1,fun la hla=>?_⟩
 have fla:=(S19.trans s20).free hla
 generalize hgH21:upd _ la _=H21
 revert H21
 refine qar9 hla fun H21 s21 e21=>?_
 refine ⟨z3,fun ta hta=>?_⟩
 have fta:=((S19.trans s20).trans s21).free hta
 generalize hgH22:upd _ ta _=H22
 revert H22
 refine qar9 hta fun H22 s22 e22=>?_
 have S22:=((S19.trans s20).trans s21).trans s22
 have ga:=s22 _ _ (s21 _ _ e20)
 have ba:Bd d N H H22 (.ref ta):=qii9 fta fla e22 (s22 _ _ e21) (by simp) (fun z hz=>by rw [List.mem_singleton.mp hz]; exact int3 fwa ga (by simp)) (y:=.ref wa) (by simp) (by
  have:winL d [.int 0,.int (d+far),.int 1]=false:=by
   have:¬ d+far < d:=by omega
   simp [winL,this]
  rw [qqi9 ga,this,Bool.false_and])
 refine ⟨z3,fun wb hwb=>?_⟩
 have fwb:=S22.free hwb
 generalize hgH23:upd _ wb _=H23
 revert H23
 refine qar9 hwb fun H23 s23 e23=>?_
 refine ⟨z1,fun lb hlb=>?_⟩
 have flb:=(S22.trans s23).free hlb
 generalize hgH24:upd _ lb _=H24
 revert H24
 refine qar9 hlb fun H24 s24 e24=>?_
 refine ⟨z3,fun tb htb=>?_⟩
 have ftb:=((S22.trans s23).trans s24).free htb
 generalize hgH25:upd _ tb _=H25
 revert H25
 refine qar9 htb fun H25 s25 e25=>?_
 have S25:=((S22.trans s23).trans s24).trans s25
 have gb:=s25 _ _ (s24 _ _ e23)
 have bb:Bd d N H H25 (.ref tb):=qii9 ftb flb e25 (s25 _ _ e24) (by simp) (fun z hz=>by rw [List.mem_singleton.mp hz]; exact int3 fwb gb (by simp)) (y:=.ref wb) (by simp) (by rw [qqi9 gb]; rfl)
 refine ⟨z4,fun q2 hq2=>?_⟩
 generalize hgH26:upd _ q2 _=H26
 revert H26
 refine qar9 hq2 fun H26 s26 e26=>?_
 have x13:Same H13 H26:=((((s14.trans s15).trans s16).trans ((s17.trans s18).trans s19)).trans (((s20.trans s21).trans s22).trans ((s23.trans s24).trans s25))).trans s26
 refine ⟨q1,q2,_,_,rfl,rfl,x13 _ _ e13,e26,(by show 11<=sizeLine; decide),fun q3 hq3=>?_⟩
 generalize hgH27:upd _ q3 _=H27
 revert H27
 refine qar9 hq3 fun H27 s27 e27=>?_
 have S27:=(S25.trans s26).trans s27
 refine ⟨_,rfl,z3,fun wc hwc=>?_⟩
 have fwc:=S27.free hwc
 generalize hgH28:upd _ wc _=H28
 revert H28
 refine qar9 hwc fun H28 s28 e28=>?_
 refine ⟨z2,fun wd hwd=>?_⟩
 have fwd:=(S27.trans s28).free hwd
 generalize hgH29:upd _ wd _=H29
 revert H29
 refine qar9 hwd fun H29 s29 e29=>?_
 refine ⟨z2,fun lc hlc=>?_⟩
 have flc:=((S27.trans s28).trans s29).free hlc
 generalize hgH30:upd _ lc _=H30
 revert H30
 refine qar9 hlc fun H30 s30 e30=>?_
 refine ⟨z3,fun tc htc=>?_⟩
 have ftc:=(((S27.trans s28).trans s29).trans s30).free htc
 generalize hgH31:upd _ tc _=H31
 revert H31
 refine qar9 htc fun H31 s31 e31=>?_
 have S31:=(((S27.trans s28).trans s29).trans s30).trans s31
 have gc:=s31 _ _ (s30 _ _ (s29 _ _ e28))
 have gd:=s31 _ _ (s30 _ _ e29)
 have bc:Bd d N H H31 (.ref tc):=qii9 ftc flc e31 (s31 _ _ e30) (by simp) (fun z hz=>by
  simp only [List.mem_cons,List.not_mem_nil,or_false] at hz
  rcases hz with rfl | rfl
  ·exact int3 fwc gc (by simp)
  ·exact int3 fwd gd (by simp)) (y:=.ref wd) (by simp) (by rw [qqi9 gd]; rfl)
 refine ⟨z2,fun q4 hq4=>?_⟩
 generalize hgH32:upd _ q4 _=H32
 revert H32
 refine qar9 hq4 fun H32 s32 e32=>?_
 have x27:Same H27 H32:=(((s28.trans s29).trans s30).trans s31).trans s32
 refine ⟨q3,q4,_,_,rfl,rfl,x27 _ _ e27,e32,(by show 13<=sizeLine; decide),fun q5 hq5=>?_⟩
 generalize hgH33:upd _ q5 _=H33
 revert H33
 refine qar9 hq5 fun H33 s33 e33=>?_
 have S33:=(S31.trans s32).trans s33
 have y31:=s32.trans s33
 have y25:Same H25 H33:=(s26.trans s27).trans (x27.trans s33)
 have y22:=((s23.trans s24).trans s25).trans y25
 have y19:=((s20.trans s21).trans s22).trans y22
 have y16:=((s17.trans s18).trans s19).trans y19
 have y12:=s13.trans (((s14.trans s15).trans s16).trans y16)
 have y11:=s12.trans y12
 have y9:=(s10.trans s11).trans y11
 have y7:=(s8.trans s9).trans y9
 have y6:=s7.trans y7
 have y4:=(s5.trans s6).trans y6
 have all:∀ v∈[V.ref t1,V.ref t2,V.ref t3,V.ref t4,V.ref m5,V.ref t6,V.ref t7,V.ref t8,V.ref t9,V.ref ta,V.ref tb,V.ref tc,V.non],Bd d N H H33 v:=fun v hv=>by
  simp only [List.mem_cons,List.not_mem_nil,or_false] at hv
  rcases hv with rfl | rfl | rfl | rfl | rfl | rfl | rfl | rfl | rfl | rfl | rfl | rfl | rfl
  ·exact b1.same y4
  ·exact b2.same y4
  ·exact b3.same y6
  ·exact b4.same y7
  ·exact b5.same y9
  ·exact b6.same y11
  ·exact b7.same y12
  ·exact b8.same y16
  ·exact b9.same y19
  ·exact ba.same y22
  ·exact bb.same y25
  ·exact bc.same y31
  ·exact ⟨.non,rfl⟩
 clear b1 b2 b3 b4 b5 b6 b7 b8 b9 ba bb bc
 have em:=qeb9 cell (show (0:Int) < 16 by decide)
 obtain ⟨vs,hv1,hv2,_⟩:=hN.la.lst
 rw [List.length_map] at hv2
 have v33:=S33 _ _ hv1
 refine ⟨_,rfl,_,_,rfl,rfl,(by show (0:Int) < 16; decide),_,_,rfl,rfl,_,rfl,ite2 (fun c=>?_) (fun c=>?_)⟩
 ·have c':cell % 16 > 12:=of_decide_eq_true c
  refine ⟨_,rfl,pr,_,rfl,.inl ⟨SqL.of v33,fun pt hpt=>?_⟩⟩
  generalize hgH34:upd _ pt _=H34
  revert H34
  refine qar9 hpt fun H34 s34 e34=>?_
  refine ⟨z3,fun q6 hq6=>?_⟩
  generalize hgH35:upd _ q6 _=H35
  revert H35
  refine qar9 hq6 fun H35 s35 e35=>?_
  obtain ⟨v,hv,vm⟩:=qnj9 (xs:=[V.ref pt,V.non,V.str "roads"]) (j:=cell % 16 - 13) (by omega) (by show cell % 16 - 13 < 3; omega)
  have S35:=(S33.trans s34).trans s35
  have g34:=s35 _ _ e34
  refine ⟨_,rfl,_,_,rfl,rfl,(by show (0:Int) < 16; decide),_,_,rfl,rfl,q6,_,_,v,rfl,rfl,SqL.of e35,hv,q v H35 S35 ?_ ?_⟩
  ·simp only [List.mem_cons,List.not_mem_nil,or_false] at vm
   rcases vm with rfl | rfl | rfl
   ·exact ⟨.tup g34,fun xs z=>by simp [lstV,g34] at z⟩
   ·exact ⟨.non,fun xs z=>by simp [lstV] at z⟩
   ·exact ⟨.str _,fun xs z=>by simp [lstV] at z⟩
  ·simp only [List.mem_cons,List.not_mem_nil,or_false] at vm
   rcases vm with rfl | rfl | rfl
   ·exact net_no (by simp [lstV,g34])
   ·exact net_no rfl
   ·exact net_no rfl
 ·have c':¬ cell % 16 > 12:=fun z=>c (decide_eq_true z)
  refine ⟨_,rfl,pr,_,rfl,.inl (SqL.of v33),fun pf hpf=>?_⟩
  have fpf:=S33.free hpf
  have nprf:pr ≠ pf:=fun z=>by rw [<- z,v33] at hpf; cases hpf
  have n5f:q5 ≠ pf:=fun z=>by rw [<- z,e33] at hpf; cases hpf
  have s34:=qan9 hpf (.lst vs)
  have e34:upd H33 pf (.lst vs) pf=some (.lst vs):=qaf9
  have S34:=S33.trans s34
  obtain ⟨v,hv,vm⟩:=qnj9 (xs:=[V.ref t1,V.ref t2,V.ref t3,V.ref t4,V.ref m5,V.ref t6,V.ref t7,V.ref t8,V.ref t9,V.ref ta,V.ref tb,V.ref tc,V.non]) (j:=cell % 16) em.1 (by show cell % 16 < 13; omega)
  have bv:=all v vm
  refine ⟨_,rfl,.inl ⟨rfl,_,SqL.of e34⟩,_,rfl,_,rfl,pr,_,rfl,.inl (SqL.of (s34 _ _ v33)),_,_,rfl,rfl,_,_,rfl,rfl,(by show (0:Int) < ((vs.length:Nat):Int)+1; omega),_,rfl,_,rfl,_,_,rfl,rfl,(by show (0:Int) < 16; decide),q5,_,_,v,rfl,rfl,SqL.of (s34 _ _ e33),hv,?_⟩
  have ef:=qeb9 far (show (0:Int) < ((vs.length:Nat):Int)+1 by omega)
  refine ⟨pf,_,_,_,rfl,rfl,e34,ef.1,by omega,qbo9 (by omega),?_⟩
  have sF:∀ ys:List V,Same H33 (upd (upd H33 pf (.lst vs)) pf (.lst ys)):=fun ys=>qcs9 hpf s34
  generalize far % (((vs.length:Nat):Int)+1)=at_ at ef
  have eF:upd (upd H33 pf (.lst vs)) pf (.lst (vs.take at_.toNat ++ v :: vs.drop at_.toNat)) pf=some (.lst (vs.take at_.toNat ++ v :: vs.drop at_.toNat)):=qaf9
  have sF:=sF (vs.take at_.toNat ++ v :: vs.drop at_.toNat)
  generalize upd (upd H33 pf (.lst vs)) pf (.lst (vs.take at_.toNat ++ v :: vs.drop at_.toNat))=HF at *
  refine ⟨_,rfl,q _ HF (S33.trans sF) ?_ (net_bad eF (by simp) (bv.same sF).2)⟩
  refine Ew.dn (n:=0) (Ew.lst eF (by simp; omega) fun y hy=>?_)
  have old:∀ y∈vs,Ew HF 3 y:=fun y hy=>((hN.item lW hv1 hy).same qhk9).same (S33.trans sF)
  rcases List.mem_append.mp hy with hy | hy
  ·exact old y (List.mem_of_mem_take hy)
  ·rcases List.mem_cons.mp hy with rfl | hy
   ·exact Nw.ew (bv.same sF).1
   ·exact old y (List.mem_of_mem_drop hy)
end
theorem RefL.same {CN CP CT:Addr} {d:Int} {size roads goal most:V} {H H1:Hp} {E:XK} (h:RefL CN CP CT d size roads goal most H E) (s:Same H H1):RefL CN CP CT d size roads goal most H1 E:=by
 rcases h with ⟨a,b,c,q⟩ | ⟨N,p,Ns,a,b,c,e,g,i,alt⟩
 ·exact .inl ⟨a.same s,b.same s,by rw [b.netV_same s]; exact c,fun H' s'=>q H' (s.trans s')⟩
 ·refine .inr ⟨N,p,Ns,a,b,c.same s,e,g,i,?_⟩
  rcases alt with ⟨a,b,q⟩ | ⟨k,a,b,c,e,g,q⟩
  ·exact .inl ⟨a.same s,b,fun H' s'=>q H' (s.trans s')⟩
  ·exact .inr ⟨k,a,b,c,e.same s,g,fun H' s'=>q H' (s.trans s')⟩
def made67 (CN CP CT:Addr) (way:Int):Addr:=if way=2\/way=5 then CP else if way=3 then CT else CN
def spMadeX (CN CP CT:Addr):Sp:=fun vs H _ E=>∃ (r pr:Addr) (d:Int) (n:Nat) (goal:Int) (Ns:List RdT) (mo:Nat) (way cell:Int),vs=[.ref r,.int mo,.int way,.int cell]/\H r=some (.tup [.int d,.int n,.ref pr,.int goal])/\NA H pr Ns/\Ns.length<=100/\NetOk d n Ns/\(∀ m∈Ns,m.2.2.2.length<=1000)/\1<=d/\1<=n/\n<=4/\0<=goal/\goal < (n:Int)/\0<=way/\way < 6 /\
 ∀ H',Same H H'->E (.ref (made67 CN CP CT way)) none H'
theorem netV_size {H:Hp} {d:Int} {v roads:V} (h:∀ k:Int,v=.int k->k < 1):netV H d v roads=false:=by
 unfold netV
 cases v with
 | int k =>
  dsimp only
  rw [decide_eq_false (by have:=h k rfl; omega)]
  rfl
 | _=>rfl
section
variable {P:Program} {w:World} {K:W.Frag} {mg:Str->Option Value} {base:Heap} {f:Addr} {fd:FuncData} {n:Nat} {CN CP CT C:Addr}
theorem ok_made (F:Fun K "_law_made" "_law_made" qci9 f fd) (Cq1:Callee P w K mg base (n+1) "_law_bad_roads" ["day","size","roads","cell"] spBadR) (Ci0:Callee P w K mg base (n+1) "_law_odd" ["cell","many"] spOddN) (CX_levels:CalleeX P w K mg base (n+1) "levels" ["day","size","roads","goal","most"] (spLRX CN CP CT)) (KX_Gate:KCalX P w K mg base n "Gate" C ["self","day","size","roads","goal","most"] (qqe9 CN CP CT)):FnOk P w K mg base (CXE P w) (n+2) f fd ["net","most","way","cell"] (spMadeX CN CP CT):=by
 refine F.okX sc__law_made (fun vs H Q E h=>?_) (fun cdv A outer s H vs Q E hr h=>?_)
 ·obtain ⟨_,_,_,_,_,_,_,_,_,rfl,_⟩:=h
  rfl
 obtain ⟨r,pr,d,N,goal,Ns,mo,way,cell,rfl,er,hN,lN,nok,lW,d1,n1,n4,g0,g1,w0,w6,q⟩:=h
 refine ⟨_,(qac9 (qjy9 (qv 0) (qfu9 rfl (qal9 (qam9 (i:=4) sc__law_made.nd rfl (Or.inl rfl)) (qal9 (qam9 (i:=5) sc__law_made.nd rfl (Or.inl rfl)) (qal9 (qam9 (i:=6) sc__law_made.nd rfl (Or.inl rfl)) (qal9 (qam9 (i:=7) sc__law_made.nd rfl (Or.inl rfl)) qdo9)))))) (qdb9 (qs_if (qfx9 (QW.pt (qw_or (qaj9 qcb9 (qv 2) qaa9 (qas9 _)) (qff9 (qaj9 qcb9 (qv 2) qaa9 (qas9 _)))))) (qae9 (qak9 (i:=6) sc__law_made.nd rfl (Or.inl rfl) (qe_fn Cq1 hr rfl (qa_c (qv 4) (qa_c (qv 5) (qa_c (qv 6) (qa_c (qv 3) qad9))))))) qat9) (qdb9 (qs_if (qaj9 qcb9 (qv 2) qaa9 (qas9 _)) (qae9 (qak9 (i:=5) sc__law_made.nd rfl (Or.inl rfl) (qe_ix qai9 (qbj9 (qa_c qaa9 (qa_c (qe_op qcr9 (qds9 qaa9) (qe_op qav9 (qe_op qay9 (qv 3) qaa9) qaa9)) (qa_c qe_bl (qa_c qih9 (qa_c qgq9 (qa_c (qbn9 (qa_c qaa9 qad9)) (qa_c (qbj9 (qa_c qaa9 qad9)) (qa_c qe_bl qad9))))))))) (qe_op qav9 (qv 3) qaa9) (fun _ _=>rfl)))) qat9) (qdb9 (qs_if (qfx9 (QW.pt (qw_or (qaj9 qcb9 (qv 2) qaa9 (qas9 _)) (qw_or (qaj9 qcb9 (qv 2) qaa9 (qas9 _)) (qff9 (qaj9 qcb9 (qv 2) qaa9 (qas9 _))))))) (qae9 (qak9 (i:=7) sc__law_made.nd rfl (Or.inl rfl) (qe_fn Ci0 hr rfl (qa_c (qv 3) (qa_c (qv 5) qad9))))) qat9) (qdb9 (qs_if (qfx9 (QW.pt (qw_or (qaj9 qcb9 (qv 2) qaa9 (qas9 _)) (qw_or (qaj9 qcb9 (qv 2) qaa9 (qas9 _)) (qff9 (qaj9 qcb9 (qv 2) qaa9 (qas9 _))))))) (qae9 (qak9 (i:=1) sc__law_made.nd rfl (Or.inl rfl) (qe_ix qai9 (qbj9 (qa_c (qds9 qaa9) (qa_c (qe_op qcr9 (qds9 qaa9) (qe_op qav9 (qe_op qay9 (qv 3) qaa9) qaa9)) (qa_c qe_bl (qa_c qih9 (qa_c qgq9 (qa_c (qbn9 (qa_c qaa9 qad9)) (qa_c (qbj9 (qa_c qaa9 qad9)) (qa_c qe_bl qad9))))))))) (qe_op qav9 (qv 3) qaa9) (fun _ _=>rfl)))) qat9) (qac9 (qs_if (qaj9 qcb9 (qe_op qav9 (qe_op qay9 (qv 3) qaa9) qaa9) qaa9 (qas9 _)) (qae9 (qax9 (qje9 CX_levels hr rfl passE (qa_c (qv 4) (qa_c (qv 5) (qa_c (qv 6) (qa_c (qv 7) (qa_c (qv 1) qad9)))))))) qat9) (qae9 (qax9 (qe_makeX KX_Gate hr rfl passE (qa_c (qv 4) (qa_c (qv 5) (qa_c (qv 6) (qa_c (qv 7) (qa_c (qv 1) qad9)))))))))))))),?_⟩
 walk_at "d"
 refine ⟨_,rfl,r,_,rfl,SqT.of er,rfl,_,_,rfl,_,_,rfl,_,_,rfl,_,_,rfl,rfl,?_⟩
 have wE:∀ {k:Int},decide (V.int way=V.int k)=true↔way=k:=by
  intro k
  rw [decide_eq_true_eq]
  exact ⟨fun z=>by injection z,fun z=>by rw [z]⟩
 refine ⟨fun σ' H'=>∃ rv:V,σ'=[some (.ref r),some (.int mo),some (.int way),some (.int cell),some (.int d),some (.int N),some rv,some (.int goal)]/\Same H H'/\((way=0\/way=4)->DvN H' rv/\netV H' d (.int N) rv=false)/\(¬ (way=0\/way=4)->rv=.ref pr),?_,?_⟩
 ·refine ⟨fun b H'=>H'=H/\(b=true↔(way=0\/way=4)),?_,?_⟩
  ·exact ⟨_,rfl,rfl,_,rfl,ite2 (fun c=>⟨rfl,fun _=>.inl (wE.mp c),fun _=>rfl⟩) (fun c=>⟨_,rfl,rfl,_,rfl,rfl,wE.trans ⟨.inr,fun z=>z.resolve_left fun z=>c (wE.mpr z)⟩⟩)⟩
  intro b _ z9;obtain ⟨rfl,hb⟩ := z9
  refine ite2 (fun c=>?_) (fun c=>?_)
  ·refine ⟨_,rfl,_,rfl,_,rfl,_,rfl,d,N,pr,cell,Ns,rfl,hN,lN,lW,d1,fun v H1 s1 dv hb'=>?_⟩
   exact ⟨v,rfl,s1,fun _=>⟨dv,hb'⟩,fun z=>absurd (hb.mp c) z⟩
  ·exact ⟨.ref pr,rfl,Same.refl _,fun z=>absurd (hb.mpr z) c,fun _=>rfl⟩
 intro σ' H1 z9;obtain ⟨rv,rfl,s1,r1,r2⟩ := z9
 have menu:∀ {Hx:Hp} {a b:Int} {x:Str} {p1 p2:Addr} {xs ys:List V},a < 1->b < 0->Hx p1=some (.tup xs)->Hx p2=some (.lst ys)->∀ v∈[V.int a,V.int b,V.bl true,V.non,V.str x,V.ref p1,V.ref p2,V.bl false],Dv Hx v/\∀ k:Int,v=.int k->k=a\/k < 0:=fun ha hb e1 e2 v hv=>by
  simp only [List.mem_cons,List.not_mem_nil,or_false] at hv
  rcases hv with rfl | rfl | rfl | rfl | rfl | rfl | rfl | rfl
  ·exact ⟨.int _,fun k e=>by cases e; exact .inl rfl⟩
  ·exact ⟨.int _,fun k e=>by cases e; exact .inr hb⟩
  ·exact ⟨.bl _,fun k e=>nomatch e⟩
  ·exact ⟨.non,fun k e=>nomatch e⟩
  ·exact ⟨.str _,fun k e=>nomatch e⟩
  ·exact ⟨.tup e1,fun k e=>nomatch e⟩
  ·exact ⟨.lst e2,fun k e=>nomatch e⟩
  ·exact ⟨.bl _,fun k e=>nomatch e⟩
 have em:=qeb9 cell (show (0:Int) < 8 by decide)
 have e99:=Int.emod_nonneg (cell / 8) (show (99:Int) ≠ 0 by decide)
 refine ⟨fun σ' H'=>∃ sv:V,σ'=[some (.ref r),some (.int mo),some (.int way),some (.int cell),some (.int d),some sv,some rv,some (.int goal)]/\Same H1 H'/\(way=1->Dv H' sv/\∀ k:Int,sv=.int k->k < 1)/\(way ≠ 1->sv=.int N),?_,?_⟩
 ·refine ⟨_,rfl,rfl,_,rfl,ite2 (fun c=>?_) (fun c=>⟨_,rfl,Same.refl _,fun z=>absurd (wE.mpr z) c,fun _=>rfl⟩)⟩
  refine ⟨_,rfl,_,rfl,_,_,rfl,rfl,⟨by decide,by decide⟩,_,_,rfl,rfl,(by show (0:Int) < 99; decide),_,_,rfl,rfl,(by show 1<=sizeLine; decide),fun p1 hp1=>?_⟩
  generalize hgG1:upd _ p1 _=G1
  revert G1
  refine qar9 hp1 fun G1 z1 y1=>?_
  refine ⟨(by show 1<=sizeLine; decide),fun p2 hp2=>?_⟩
  generalize hgG2:upd _ p2 _=G2
  revert G2
  refine qar9 hp2 fun G2 z2 y2=>?_
  refine ⟨(by show 8<=sizeLine; decide),fun p3 hp3=>?_⟩
  generalize hgG3:upd _ p3 _=G3
  revert G3
  refine qar9 hp3 fun G3 z3 y3=>?_
  obtain ⟨v,hv,vm⟩:=qnj9 (xs:=[V.int 0,V.int (-1 - cell / 8 % 99),V.bl true,V.non,V.str "2",V.ref p1,V.ref p2,V.bl false]) em.1 em.2
  refine ⟨_,rfl,_,_,rfl,rfl,(by show (0:Int) < 8; decide),p3,_,_,v,rfl,rfl,SqL.of y3,hv,?_⟩
  obtain ⟨dv,hk⟩:=menu (by decide) (by omega) (z3 _ _ (z2 _ _ y1)) (z3 _ _ y2) v vm
  exact ⟨v,rfl,(z1.trans z2).trans z3,fun _=>⟨dv,fun k e=>by rcases hk k e with z | z <;> omega⟩,fun z=>absurd (wE.mp c) z⟩
 intro σ' H2 z9;obtain ⟨sv,rfl,s2,v1,v2⟩ := z9
 refine ⟨fun σ' H'=>∃ gv:V,σ'=[some (.ref r),some (.int mo),some (.int way),some (.int cell),some (.int d),some sv,some rv,some gv]/\Same H2 H'/\((way=2\/way=4\/way=5)->Dv H' gv/\numV N gv=false)/\(¬ (way=2\/way=4\/way=5)->gv=.int goal),?_,?_⟩
 ·refine ⟨fun b H'=>H'=H2/\(b=true↔(way=2\/way=4\/way=5)),?_,?_⟩
  ·exact ⟨_,rfl,rfl,_,rfl,ite2 (fun c=>⟨rfl,fun _=>.inl (wE.mp c),fun _=>rfl⟩) (fun c=>⟨_,rfl,rfl,_,rfl,ite2 (fun c'=>⟨rfl,fun _=>.inr (.inl (wE.mp c')),fun _=>rfl⟩) (fun c'=>⟨_,rfl,rfl,_,rfl,rfl,wE.trans ⟨fun z=>.inr (.inr z),fun z=>(z.resolve_left fun z=>c (wE.mpr z)).resolve_left fun z=>c' (wE.mpr z)⟩⟩)⟩)⟩
  intro b _ z9;obtain ⟨rfl,hb⟩ := z9
  refine ite2 (fun c=>?_) (fun c=>⟨_,rfl,Same.refl _,fun z=>absurd (hb.mpr z) c,fun _=>rfl⟩)
  have wc:=hb.mp c
  rw [v2 (by omega)]
  refine ⟨_,rfl,_,rfl,cell,N,rfl,by omega,by omega,fun v H3 s3 dv hn=>?_⟩
  exact ⟨v,rfl,s3,fun _=>⟨dv,hn⟩,fun z=>absurd wc z⟩
 intro σ' H3 z9;obtain ⟨gv,rfl,s3,g2,g3⟩ := z9
 refine ⟨fun σ' H'=>∃ mv:V,σ'=[some (.ref r),some mv,some (.int way),some (.int cell),some (.int d),some sv,some rv,some gv]/\Same H3 H'/\((way=3\/way=4\/way=5)->Dv H' mv/\turnV mv=false)/\(¬ (way=3\/way=4\/way=5)->mv=.int mo),?_,?_⟩
 ·refine ⟨fun b H'=>H'=H3/\(b=true↔(way=3\/way=4\/way=5)),?_,?_⟩
  ·exact ⟨_,rfl,rfl,_,rfl,ite2 (fun c=>⟨rfl,fun _=>.inl (wE.mp c),fun _=>rfl⟩) (fun c=>⟨_,rfl,rfl,_,rfl,ite2 (fun c'=>⟨rfl,fun _=>.inr (.inl (wE.mp c')),fun _=>rfl⟩) (fun c'=>⟨_,rfl,rfl,_,rfl,rfl,wE.trans ⟨fun z=>.inr (.inr z),fun z=>(z.resolve_left fun z=>c (wE.mpr z)).resolve_left fun z=>c' (wE.mpr z)⟩⟩)⟩)⟩
  intro b _ z9;obtain ⟨rfl,hb⟩ := z9
  refine ite2 (fun c=>?_) (fun c=>⟨_,rfl,Same.refl _,fun z=>absurd (hb.mpr z) c,fun _=>rfl⟩)
  refine ⟨_,rfl,_,rfl,_,rfl,_,_,rfl,rfl,⟨by decide,by decide⟩,_,_,rfl,rfl,(by show (0:Int) < 99; decide),_,_,rfl,rfl,(by show 1<=sizeLine; decide),fun p1 hp1=>?_⟩
  generalize hgG1:upd _ p1 _=G1
  revert G1
  refine qar9 hp1 fun G1 z1 y1=>?_
  refine ⟨(by show 1<=sizeLine; decide),fun p2 hp2=>?_⟩
  generalize hgG2:upd _ p2 _=G2
  revert G2
  refine qar9 hp2 fun G2 z2 y2=>?_
  refine ⟨(by show 8<=sizeLine; decide),fun p3 hp3=>?_⟩
  generalize hgG3:upd _ p3 _=G3
  revert G3
  refine qar9 hp3 fun G3 z3 y3=>?_
  obtain ⟨v,hv,vm⟩:=qnj9 (xs:=[V.int (-1),V.int (-1 - cell / 8 % 99),V.bl true,V.non,V.str "1",V.ref p1,V.ref p2,V.bl false]) em.1 em.2
  refine ⟨_,rfl,_,_,rfl,rfl,(by show (0:Int) < 8; decide),p3,_,_,v,rfl,rfl,SqL.of y3,hv,?_⟩
  obtain ⟨dv,hk⟩:=menu (by decide) (by omega) (z3 _ _ (z2 _ _ y1)) (z3 _ _ y2) v vm
  refine ⟨v,rfl,(z1.trans z2).trans z3,fun _=>⟨dv,?_⟩,fun z=>absurd (hb.mp c) z⟩
  cases v with
  | int k =>
   have:=hk k rfl
   exact decide_eq_false (by omega)
  | _=>rfl
 intro σ' H4 z9;obtain ⟨mv,rfl,s4,m2,m3⟩ := z9
 have S4:=((s1.trans s2).trans s3).trans s4
 have hN4:=hN.same S4
 have dvn:DvN H4 (.ref pr):=Ew.dn (n:=0) (hN4.ew lW (by omega))
 have ref:RefL CN CP CT d sv rv gv mv H4 E:=by
  have q:=fun H' s'=>q H' (S4.trans s')
  unfold made67 at q
  by_cases a0:way=0\/way=4
  ·rw [if_neg (by omega),if_neg (by omega)] at q
   obtain ⟨b1,b2⟩:=r1 a0
   rw [v2 (by omega)]
   have s14:=(s2.trans s3).trans s4
   exact .inl ⟨.int _,b1.same s14,by rw [b1.netV_same s14]; exact b2,q⟩
  have er2:=r2 a0
  subst er2
  by_cases a1:way=1
  ·rw [if_neg (by omega),if_neg (by omega)] at q
   obtain ⟨b1,b2⟩:=v1 a1
   exact .inl ⟨b1.same (s3.trans s4),dvn,netV_size b2,q⟩
  rw [v2 a1]
  refine .inr ⟨N,pr,Ns,rfl,rfl,hN4,by omega,nok,by omega,?_⟩
  by_cases a2:way=2\/way=5
  ·rw [if_pos a2] at q
   obtain ⟨b1,b2⟩:=g2 (by omega)
   exact .inl ⟨b1.same s4,b2,q⟩
  ·rw [if_neg a2,if_pos (by omega)] at q
   obtain ⟨b1,b2⟩:=m2 (by omega)
   exact .inr ⟨goal,g3 (by omega),g0,g1,b1,b2,q⟩
 refine ⟨_,rfl,_,_,rfl,rfl,⟨by decide,by decide⟩,_,_,rfl,rfl,(by show (0:Int) < 2; decide),rfl,_,rfl,ite2 (fun _=>?_) (fun _=>?_)⟩
 ·exact ⟨_,rfl,_,rfl,_,rfl,_,rfl,_,rfl,d,sv,rv,gv,mv,rfl,ref⟩
 ·refine ⟨_,rfl,_,rfl,_,rfl,_,rfl,_,rfl,fun x dx fx fdx _=>⟨x,d,sv,rv,gv,mv,rfl,ref.same fun b o e=>?_⟩⟩
  rw [qaq9 (qbb9 e fx),qaq9 (qbb9 e fdx)]
  exact e
end
abbrev F5:=Int × Int × Int × Int × Int
def enc5 (r:F5):List V:=[.int r.1,.int r.2.1,.int r.2.2.1,.int r.2.2.2.1,.int r.2.2.2.2]
def rowAt (d c:Int) (k j:Nat) (w:T3):F5:=((k:Int),(j:Int),w.1+d * c,w.2.1+1+d * c,w.2.1 - w.1+1)
def RowOf (d c:Int) (Ns:List RdT) (e:F5):Prop:=∃ (k j:Nat) (m:RdT) (w:T3),Ns[k]?=some m/\m.2.2.2[j]?=some w/\e=rowAt d c k j w
def qhq9 (CP CT CR:Addr) (way:Int) (rows:Prop) [Decidable rows]:Addr:=if way=6\/way=7 then CP else if way=8\/(way=11/\rows) then CT else CR
def qow9 (C CP CT CR:Addr):Sp:=fun vs H _ E=>∃ (x r pr:Addr) (d:Int) (n:Nat) (goal:Int) (Ns M:List RdT) (Cs:List Tb) (mo:Nat) (way cell:Int),vs=[.ref x,.ref r,.int mo,.int way,.int cell]/\H r=some (.tup [.int d,.int n,.ref pr,.int goal])/\NA H pr Ns/\GateAt C H x d n M Cs/\Cs.length=mo+1/\mo<=10/\M.map strip=Ns.map strip/\Ns.length<=100/\(wsN Ns).length<=100/\NetOk d n Ns/\1<=d/\d<=1000000000000000/\1<=n/\n<=4/\6<=way/\way < 12 /\
 ∀ H',Same H H'->E (.ref (qhq9 CP CT CR way (wsN Ns ≠ []))) none H'
theorem qnk9 {N M:List RdT} (e:M.map strip=N.map strip) {i:Nat} {m:RdT} (h:N[i]?=some m):∃ m',M[i]?=some m'/\m'.2.2.2=m.2.2.2:=by
 have:(M.map strip)[i]?=some (strip m):=by rw [e,List.getElem?_map,h]; rfl
 rw [List.getElem?_map] at this
 obtain ⟨m',hm',em⟩:=Option.map_eq_some_iff.mp this
 exact ⟨m',hm',congrArg (fun x:Int × Int × List T3=>x.2.2) em⟩
theorem qor9 {Ns:List RdT} {i:Nat} {m:RdT} (h:Ns[i]?=some m):(wsN (Ns.take (i+1))).length=(wsN (Ns.take i)).length+m.2.2.2.length:=by
 rw [List.take_add_one,h]
 simp [wsN]
theorem qkq9 (Ns:List RdT) (i:Nat):(wsN (Ns.take i)).length<=(wsN Ns).length:=by
 have e:wsN Ns=wsN (Ns.take i) ++ wsN (Ns.drop i):=by
  unfold wsN
  rw [<- List.flatMap_append,List.take_append_drop]
 rw [e,List.length_append]
 omega
theorem row_open {d c:Int} {w:T3} (hd:0 < d) (h:0<=w.1/\w.1<=w.2.1/\w.2.1 < d):w.1<=(w.1+d * c) % d/\(w.1+d * c) % d<=w.2.1:=by
 rw [Int.add_mul_emod_self_left,Int.emod_eq_of_lt h.1 (by omega)]
 omega
theorem row_shut {d c:Int} {w:T3} (hd:0 < d) (h:0<=w.1/\w.1<=w.2.1/\w.2.1 < d) (n:w.2.1 - w.1+1 < d):¬ (w.1<=(w.2.1+1+d * c) % d/\(w.2.1+1+d * c) % d<=w.2.1):=by
 rw [Int.add_mul_emod_self_left]
 rcases (by omega:w.2.1+1 < d\/w.2.1+1=d) with z | z
 ·rw [Int.emod_eq_of_lt (by omega) z]
  omega
 ·rw [z,Int.emod_self]
  omega
def dat5 (r:F5):PyData:=.tuple [.int r.1,.int r.2.1,.int r.2.2.1,.int r.2.2.2.1,.int r.2.2.2.2]
theorem LA.rd5 {K:W.Frag} {H:Hp} {l:Addr} {L:List F5} (h:LA enc5 H l L):RdV K H (.ref l) (.list (L.map dat5)):=h.rd (ds:=fun r=>[.int r.1,.int r.2.1,.int r.2.2.1,.int r.2.2.2.1,.int r.2.2.2.2]) fun x=>.cons (.int _) (.cons (.int _) (.cons (.int _) (.cons (.int _) (.cons (.int _) .nil))))
theorem shaped5 (L:List F5):SeqAt.shaped (.list (L.map dat5))=true:=qen9 (n:=5) (fun x=>by simp [dat5,PyData.canLay0,PyData.canLayAll0]) (fun x=>by simp [dat5,PyData.depth,PyData.depthAll]) (by decide) L
section
variable {P:Program} {w:World} {K:W.Frag} {mg:Str->Option Value} {base:Heap} {f:Addr} {fd:FuncData} {n:Nat} {CP CT CR C:Addr}
theorem ok_asked (F:Fun K "_law_asked" "_law_asked" qbz9 f fd) (B:Bl mg) (Ci0:Callee P w K mg base n "_law_odd" ["cell","many"] spOddN) (MX_soonest:MCalX P w K mg base n C "soonest" ["self","place","t","left"] (qht9 C CP CT)) (MX_plan:MCalX P w K mg base n C "plan" ["self","place","t","left"] (qht9 C CP CT)) (MX_lets:MCalX P w K mg base n C "lets" ["self","road","window","x","left"] (qnu9 C CR CT)):FnOk P w K mg base (CXE P w) (n+1) f fd ["gate","net","most","way","cell"] (qow9 C CP CT CR):=by
 refine F.okX sc__law_asked (fun vs H Q E h=>?_) (fun cdv A outer s H vs Q E hr h=>?_)
 ·obtain ⟨_,_,_,_,_,_,_,_,_,_,_,_,rfl,_⟩:=h
  rfl
 obtain ⟨x,r,pr,d,N,goal,Ns,M,Cs,mo,way,cell,rfl,er,hN,hg,lC,m10,eM,lN,lWs,nok,d1,d2,n1,n4,w6,w12,q⟩:=h
 refine ⟨_,(qac9 (qjy9 (qv 1) (qfu9 rfl (qal9 (qam9 (i:=5) sc__law_asked.nd rfl (Or.inl rfl)) (qal9 (qam9 (i:=6) sc__law_asked.nd rfl (Or.inl rfl)) (qal9 (qam9 (i:=7) sc__law_asked.nd rfl (Or.inl rfl)) (qal9 (qam9 (i:=8) sc__law_asked.nd rfl (Or.inl rfl)) qdo9)))))) (qac9 (qs_if (qaj9 qcy9 (qv 3) qaa9 (qas9 _)) (qac9 (qak9 (i:=9) sc__law_asked.nd rfl (Or.inl rfl) (qe_op qav9 (qe_op qay9 (qv 4) qaa9) (qv 6))) (qac9 (qak9 (i:=10) sc__law_asked.nd rfl (Or.inl rfl) (qe_op qav9 (qe_op qay9 (qv 4) qaa9) (qe_op qaw9 (qv 2) qaa9))) (qdb9 (qs_if (qaj9 qop_ne (qv 3) qaa9 (qas9 _)) (qae9 (qak9 (i:=9) sc__law_asked.nd rfl (Or.inl rfl) (qe_fn Ci0 hr rfl (qa_c (qv 4) (qa_c (qv 6) qad9))))) qat9) (qdb9 (qs_if (qaj9 qop_ne (qv 3) qaa9 (qas9 _)) (qae9 (qak9 (i:=10) sc__law_asked.nd rfl (Or.inl rfl) (qe_fn Ci0 hr rfl (qa_c (qe_op qay9 (qv 4) qaa9) (qa_c (qe_op qaw9 (qv 2) qaa9) qad9))))) qat9) (qac9 (qs_if (qaj9 qcb9 (qe_op qav9 (qe_op qay9 (qv 4) qaa9) qaa9) qaa9 (qas9 _)) (qae9 (qax9 (qdt9 MX_soonest hr passE (qv 0) (qa_c (qv 9) (qa_c (qe_op qav9 (qv 4) (qe_op qgv9 qaa9 qaa9)) (qa_c (qv 10) qad9)))))) qat9) (qae9 (qax9 (qdt9 MX_plan hr passE (qv 0) (qa_c (qv 9) (qa_c (qe_op qav9 (qv 4) (qe_op qgv9 qaa9 qaa9)) (qa_c (qv 10) qad9))))))))))) qat9) (qac9 (qak9 (i:=11) sc__law_asked.nd rfl (Or.inl rfl) (qbj9 qad9)) (qac9 (qgb9 PassesOwn.leaving rfl (qfb9 rfl B.range (qa_c (qe_cb qao9 rfl B.len qby9 (qa_c (qv 7) qad9)) qad9)) (qam9 (i:=12) sc__law_asked.nd rfl (Or.inl rfl)) (qae9 (qgb9 PassesOwn.leaving rfl (qfb9 rfl B.range (qa_c (qe_cb qao9 rfl B.len qby9 (qa_c (qe_ix qba9 (qe_ix qai9 (qv 7) (qv 12) (fun _ _=>rfl)) qaa9 (fun _ _=>rfl)) qad9)) qad9)) (qam9 (i:=13) sc__law_asked.nd rfl (Or.inl rfl)) (qac9 (qak9 (i:=14) sc__law_asked.nd rfl (Or.inl rfl) (qe_ix qai9 (qe_ix qba9 (qe_ix qai9 (qv 7) (qv 12) (fun _ _=>rfl)) qaa9 (fun _ _=>rfl)) (qv 13) (fun _ _=>rfl))) (qae9 (qbg9 (qbm9 (qv 11) (qa_c (qbn9 (qa_c (qv 12) (qa_c (qv 13) (qa_c (qe_op qaw9 (qe_ix qba9 (qv 14) qaa9 (fun _ _=>rfl)) (qe_op qgw9 (qv 5) (qe_op qav9 (qv 4) qaa9))) (qa_c (qe_op qaw9 (qe_op qaw9 (qe_ix qba9 (qv 14) qaa9 (fun _ _=>rfl)) qaa9) (qe_op qgw9 (qv 5) (qe_op qav9 (qv 4) qaa9))) (qa_c (qe_op qaw9 (qe_op qcr9 (qe_ix qba9 (qv 14) qaa9 (fun _ _=>rfl)) (qe_ix qba9 (qv 14) qaa9 (fun _ _=>rfl))) qaa9) qad9)))))) qad9)))))))) (qac9 (qs_if (qfx9 (QW.pt (qw_or (qaj9 (qmb9 hr.units) (qv 11) (qbj9 qad9) (qas9 _)) (qff9 (qaj9 qcb9 (qv 3) qaa9 (qas9 _)))))) (qae9 (qax9 (qdt9 MX_lets hr passE (qv 0) (qa_c (qe_fn Ci0 hr rfl (qa_c (qv 4) (qa_c (qe_cb qao9 rfl B.len qby9 (qa_c (qv 7) qad9)) qad9))) (qa_c qaa9 (qa_c qaa9 (qa_c (qe_fn Ci0 hr rfl (qa_c (qe_op qay9 (qv 4) qaa9) (qa_c (qe_op qaw9 (qv 2) qaa9) qad9))) qad9))))))) qat9) (qac9 (qjy9 (qe_ix qai9 (qv 11) (qe_op qav9 (qe_op qay9 (qv 4) qaa9) (qe_cb qao9 rfl B.len qby9 (qa_c (qv 11) qad9))) (fun _ _=>rfl)) (qfu9 rfl (qal9 (qam9 (i:=12) sc__law_asked.nd rfl (Or.inl rfl)) (qal9 (qam9 (i:=13) sc__law_asked.nd rfl (Or.inl rfl)) (qal9 (qam9 (i:=15) sc__law_asked.nd rfl (Or.inl rfl)) (qal9 (qam9 (i:=16) sc__law_asked.nd rfl (Or.inl rfl)) (qal9 (qam9 (i:=17) sc__law_asked.nd rfl (Or.inl rfl)) qdo9))))))) (qac9 (qs_if (qaj9 qcb9 (qv 3) qaa9 (qas9 _)) (qae9 (qax9 (qdt9 MX_lets hr passE (qv 0) (qa_c (qv 12) (qa_c (qv 13) (qa_c (qv 15) (qa_c (qe_fn Ci0 hr rfl (qa_c (qv 4) (qa_c (qe_op qaw9 (qv 2) qaa9) qad9))) qad9))))))) qat9) (qac9 (qs_if (qfx9 (QW.pt (qjc9 (qaj9 qcb9 (qv 3) qaa9 (qas9 _)) (qgm9 (qaj9 qcy9 (qv 17) (qv 5) (qas9 _)))))) (qae9 (qax9 (qdt9 MX_lets hr passE (qv 0) (qa_c (qv 12) (qa_c (qv 13) (qa_c (qv 16) (qa_c (qe_fn Ci0 hr rfl (qa_c (qv 4) (qa_c (qe_op qaw9 (qv 2) qaa9) qad9))) qad9))))))) qat9) (qae9 (qax9 (qdt9 MX_lets hr passE (qv 0) (qa_c (qv 12) (qa_c (qe_fn Ci0 hr rfl (qa_c (qv 4) (qa_c (qe_cb qao9 rfl B.len qby9 (qa_c (qe_ix qba9 (qe_ix qai9 (qv 7) (qv 12) (fun _ _=>rfl)) qaa9 (fun _ _=>rfl)) qad9)) qad9))) (qa_c (qv 15) (qa_c qaa9 qad9))))))))))))))),?_⟩
 walk_at "d"
 refine ⟨_,rfl,r,_,rfl,SqT.of er,rfl,_,_,rfl,_,_,rfl,_,_,rfl,_,_,rfl,rfl,?_⟩
 have hd:0 < d:=by omega
 have wE:∀ {k:Int},decide (V.int way=V.int k)=true↔way=k:=by
  intro k
  rw [decide_eq_true_eq]
  exact ⟨fun z=>by injection z,fun z=>by rw [z]⟩
 have cM:(((Cs.length:Nat)):Int)=(mo:Int)+1:=by omega
 have C1:1<=Cs.length:=by omega
 obtain ⟨dx,gl,gp,x1,_,_⟩:=id hg.ex
 refine ⟨_,rfl,_,_,rfl,rfl,_,rfl,ite2 (fun c=>?_) (fun c=>?_)⟩
 ·have c9:way < 9:=of_decide_eq_true c
  have NP:(0:Int) < (N:Int):=by omega
  have pb:=qeb9 (cell / 9) NP
  refine ⟨_,rfl,_,_,rfl,rfl,⟨by decide,by decide⟩,_,rfl,_,_,rfl,rfl,NP,?_⟩
  refine ⟨_,rfl,_,_,rfl,rfl,⟨by decide,by decide⟩,_,rfl,_,_,rfl,rfl,_,_,rfl,rfl,(by show (0:Int) < (mo:Int)+1; omega),?_⟩
  dsimp only
  generalize cell / 9 % (N:Int)=p0 at *
  generalize cell / 9 % ((mo:Int)+1)=l0
  refine ⟨fun σ' H'=>∃ pv:V,σ'=[some (.ref x),some (.ref r),some (.int mo),some (.int way),some (.int cell),some (.int d),some (.int N),some (.ref pr),some (.int goal),some pv,some (.int l0),none,none,none,none,none,none,none]/\Same H H'/\(way ≠ 8->Dv H' pv/\numV N pv=false)/\(way=8->pv=.int p0),?_,?_⟩
  ·refine ⟨_,rfl,rfl,_,rfl,ite2 (fun c=>?_) (fun c=>?_)⟩
   ·refine ⟨_,rfl,_,rfl,cell,N,rfl,by omega,by omega,fun v H1 s1 dv hn=>⟨v,rfl,s1,fun _=>⟨dv,hn⟩,fun z=>?_⟩⟩
    rw [z] at c
    simp at c
   ·refine ⟨_,rfl,Same.refl _,fun z=>absurd ?_ c,fun _=>rfl⟩
    simpa using z
  intro σ' H1 z9;obtain ⟨pv,rfl,s1,p2,p3⟩ := z9
  refine ⟨fun σ' H'=>∃ lv:V,σ'=[some (.ref x),some (.ref r),some (.int mo),some (.int way),some (.int cell),some (.int d),some (.int N),some (.ref pr),some (.int goal),some pv,some lv,none,none,none,none,none,none,none]/\Same H1 H'/\(way ≠ 7->Dv H' lv/\numV ((mo:Int)+1) lv=false),?_,?_⟩
  ·refine ⟨_,rfl,rfl,_,rfl,ite2 (fun c=>?_) (fun c=>?_)⟩
   ·exact ⟨_,rfl,_,_,rfl,rfl,⟨by decide,by decide⟩,_,rfl,_,_,rfl,rfl,cell / 2,(mo:Int)+1,rfl,by omega,by omega,fun v H2 s2 dv hn=>⟨v,rfl,s2,fun _=>⟨dv,hn⟩⟩⟩
   ·refine ⟨_,rfl,Same.refl _,fun z=>absurd ?_ c⟩
    simpa using z
  intro σ' H2 z9;obtain ⟨lv,rfl,s2,l2⟩ := z9
  have S2:=s1.trans s2
  have x2:=S2 _ _ x1
  have hg2:=hg.u (SameU.of S2)
  have q:=q H2 S2
  unfold qhq9 at q
  have alt:(Dv H2 pv/\numV N pv=false/\E (.ref CP) none H2)\/∃ p:Int,pv=.int p/\0<=p/\p < (N:Int)/\Dv H2 lv/\numV Cs.length lv=false/\E (.ref CT) none H2:=by
   by_cases e8:way=8
   ·rw [if_neg (by omega),if_pos (.inl e8)] at q
    obtain ⟨a,b⟩:=l2 (by omega)
    exact .inr ⟨p0,p3 e8,pb.1,pb.2,a,by rw [cM]; exact b,q⟩
   ·rw [if_pos (by omega)] at q
    obtain ⟨a,b⟩:=p2 e8
    exact .inl ⟨a.same s2,b,q⟩
  refine ⟨_,rfl,_,_,rfl,rfl,⟨by decide,by decide⟩,_,_,rfl,rfl,(by show (0:Int) < 2; decide),rfl,_,rfl,ite2 (fun _=>?_) (fun _=>?_)⟩
  ·exact ⟨_,rfl,x,dx,_,rfl,x2,rfl,_,rfl,_,rfl,_,_,rfl,rfl,⟨by decide,by decide,by decide⟩,_,_,rfl,rfl,(by show (0:Int) < 10 ^ (30:Int).toNat; decide +kernel),_,rfl,x,d,N,M,Cs,pv,_,lv,rfl,hg2,C1,alt⟩
  ·exact ⟨_,rfl,x,dx,_,rfl,x2,rfl,_,rfl,_,rfl,_,_,rfl,rfl,⟨by decide,by decide,by decide⟩,_,_,rfl,rfl,(by show (0:Int) < 10 ^ (30:Int).toNat; decide +kernel),_,rfl,x,d,N,M,Cs,pv,_,lv,rfl,hg2,C1,alt⟩
 have c9:¬ way < 9:=fun z=>c (decide_eq_true z)
 have q:=fun H' s'=>q H' s'
 unfold qhq9 at q
 rw [if_neg (by omega)] at q
 refine ⟨(by show 0<=sizeLine; decide),fun pq hpq=>?_⟩
 generalize hgH1:upd _ pq _=H1
 revert H1
 refine qar9 hpq fun H1 s1 e1=>?_
 obtain ⟨ws,hw1,hw2,_⟩:=hN.la.lst
 rw [List.length_map] at hw2
 have c99:-(2 ^ 64) < d/\d < 2 ^ 64:=⟨by omega,by omega⟩
 refine ⟨_,rfl,pr,_,rfl,.inl (SqL.of (s1 _ _ hw1)),_,rfl,by omega,by omega,qgi9 (lo:=0) (n:=(((ws.length:Nat):Int)).toNat)
  (fun i σ H'=>∃ (L:List F5) (v12 v13 v14:Option V),σ=[some (.ref x),some (.ref r),some (.int mo),some (.int way),some (.int cell),some (.int d),some (.int N),some (.ref pr),some (.int goal),none,none,some (.ref pq),v12,v13,v14,none,none,none]/\Same H H'/\LA enc5 H' pq L/\(∀ e∈L,RowOf d (cell % 99) Ns e)/\L.length=(wsN (Ns.take i)).length)
  ⟨[],_,_,_,rfl,s1,LA.nil e1,(fun e he=>by cases he),rfl⟩ ?_ ?_⟩
 ·intro i σ H2 hi z9;obtain ⟨L,v12,v13,v14,rfl,s2,la2,ro2,ll2⟩ := z9
  have hi2:i < Ns.length:=by omega
  have em:=List.getElem?_eq_getElem hi2
  generalize Ns[i]=m at em
  obtain ⟨_,_,_,aw⟩:=nok.all m (List.mem_of_getElem? em)
  obtain ⟨ws',r2,y1,y2,y3,y4⟩:=hN.atG em
  rw [hw1] at y1
  cases y1
  have y3':atI ws ((0:Int)+(i:Int))=some (.ref r2):=by rw [Int.zero_add]; exact y3
  obtain ⟨bs,b1,b2,b3⟩:=(hN.bd m (List.mem_of_getElem? em)).1.at (K:=K)
  have tl:=qkq9 Ns i
  have tl2:=qkq9 Ns (i+1)
  have tk:=qor9 em
  refine ⟨_,rfl,_,rfl,pr,_,_,_,rfl,rfl,SqL.of (s2 _ _ hw1),y3',r2,_,_,_,rfl,rfl,SqT.of (s2 _ _ y4),rfl,m.2.2.1,_,rfl,.inl (SqL.of (s2 _ _ b1)),_,rfl,by omega,by omega,qgi9 (lo:=0) (n:=(((bs.length:Nat):Int)).toNat)
   (fun j σ H'=>∃ (L:List F5) (v13 v14:Option V),σ=[some (.ref x),some (.ref r),some (.int mo),some (.int way),some (.int cell),some (.int d),some (.int N),some (.ref pr),some (.int goal),none,none,some (.ref pq),some (.int ((0:Int)+(i:Int))),v13,v14,none,none,none]/\Same H H'/\LA enc5 H' pq L/\(∀ e∈L,RowOf d (cell % 99) Ns e)/\L.length=(wsN (Ns.take i)).length+j)
   ⟨L,_,_,rfl,s2,la2,ro2,ll2⟩ ?_ ?_⟩
  ·intro j σ H3 hj z9;obtain ⟨L,v13,v14,rfl,s3,la3,ro3,ll3⟩ := z9
   have hj2:j < m.2.2.2.length:=by omega
   have ew:=List.getElem?_eq_getElem hj2
   generalize m.2.2.2[j]=wd at ew
   obtain ⟨rw',a1,a2⟩:=b3 j wd ew
   have a1':atI bs ((0:Int)+(j:Int))=some (.ref rw'):=by rw [Int.zero_add]; exact a1
   have a3:=s3 _ _ a2
   refine ⟨_,rfl,_,rfl,pr,_,_,_,rfl,rfl,SqL.of (s3 _ _ hw1),y3',r2,_,_,_,rfl,rfl,SqT.of (s3 _ _ y4),rfl,_,rfl,m.2.2.1,_,_,_,rfl,rfl,SqL.of (s3 _ _ b1),a1',?_⟩
   obtain ⟨vs,g1,g2,_⟩:=la3.lst
   refine ⟨_,rfl,.inl ⟨rfl,_,SqL.of g1⟩,_,rfl,_,rfl,_,rfl,rw',_,_,_,rfl,rfl,SqT.of a3,rfl,_,rfl,_,rfl,_,_,rfl,rfl,(by show (0:Int) < 99; decide),_,_,rfl,rfl,.inl c99,_,_,rfl,rfl,_,rfl,rw',_,_,_,rfl,rfl,SqT.of a3,rfl,_,_,rfl,rfl,_,rfl,_,rfl,_,_,rfl,rfl,(by show (0:Int) < 99; decide),_,_,rfl,rfl,.inl c99,_,_,rfl,rfl,_,rfl,rw',_,_,_,rfl,rfl,SqT.of a3,rfl,_,rfl,rw',_,_,_,rfl,rfl,SqT.of a3,rfl,_,_,rfl,rfl,_,_,rfl,rfl,(by show 5<=sizeLine; decide),fun rr hrr=>?_⟩
   generalize hgH4:upd _ rr _=H4
   revert H4
   refine qar9 hrr fun H4 s4 e4=>?_
   have e4:H4 rr=some (.tup (enc5 (rowAt d (cell % 99) i j wd))):=by
    rw [e4]
    simp [enc5,rowAt]
   refine ⟨pq,_,_,rfl,rfl,s4 _ _ g1,qbo9 (by omega),?_⟩
   refine ⟨L ++ [rowAt d (cell % 99) i j wd],_,_,rfl,qcs9 hpq (s3.trans s4),(la3.same s4).append (s4 _ _ g1) e4,fun e he=>?_,by simp; omega⟩
   rcases List.mem_append.mp he with he | he
   ·exact ro3 e he
   ·rw [List.mem_singleton.mp he]
    exact ⟨i,j,m,wd,em,ew,rfl⟩
  ·intro σ H3 z9;obtain ⟨L,v13,v14,rfl,s3,la3,ro3,ll3⟩ := z9
   exact ⟨L,_,_,_,rfl,s3,la3,ro3,by omega⟩
 intro σ H2 z9;obtain ⟨L,v12,v13,v14,rfl,s2,la2,ro2,ll2⟩ := z9
 rw [show (((ws.length:Nat):Int)).toNat=Ns.length by omega,List.take_length] at ll2
 have nL:L=[]↔wsN Ns=[]:=by rw [<- List.length_eq_zero_iff,<- List.length_eq_zero_iff,ll2]
 have xg:∀ {Hx:Hp},Same H Hx->Hx x=some (.ins C dx (gfs gl gp d N)):=fun s=>s _ _ x1
 refine ⟨fun b H'=>Same H2 H'/\(b=true↔(L=[]\/way=9)),?_,?_⟩
 ·refine ⟨_,rfl,(by show 0<=sizeLine; decide),fun p3 hp3=>?_⟩
  generalize hgH3:upd _ p3 _=H3
  revert H3
  refine qar9 hp3 fun H3 s3 e3=>?_
  refine ⟨_,_,(la2.same s3).rd5,.lst (SqL.of e3) .nil,shaped5 _,qna9,_,rfl,?_⟩
  rw [qpi9,List.length_map]
  refine ite2 (fun c=>⟨s3,fun _=>.inl (List.length_eq_zero_iff.mp (of_decide_eq_true c)),fun _=>rfl⟩) (fun c=>⟨_,rfl,rfl,_,rfl,s3,wE.trans ⟨.inr,fun z=>z.resolve_left fun z=>c (decide_eq_true (by rw [z]; rfl))⟩⟩)
 intro b H3 z9;obtain ⟨s3,hb⟩ := z9
 have S3:=s2.trans s3
 refine ite2 (fun c=>?_) (fun c=>?_)
 ·have w3:=S3 _ _ hw1
  refine ⟨_,rfl,x,dx,_,rfl,xg S3,rfl,_,rfl,_,rfl,pr,_,rfl,.inl (SqL.of w3),cell,_,rfl,by omega,by omega,fun v H4 s4 dv hn=>?_⟩
  refine ⟨_,rfl,_,_,rfl,rfl,⟨by decide,by decide⟩,_,rfl,_,_,rfl,rfl,cell / 2,(mo:Int)+1,rfl,by omega,by omega,fun v5 H5 s5 _ _=>?_⟩
  have S5:=(S3.trans s4).trans s5
  refine ⟨x,d,N,M,Cs,v,.int 0,0,v5,rfl,hg.u (SameU.of S5),hd,C1,.inl ⟨.inl ⟨dv.same s5,?_⟩,?_⟩⟩
  ·have:M.length=ws.length:=by
    have:=congrArg List.length eM
    simp at this
    omega
   rw [this]
   exact hn
  ·have:=q H5 S5
   rw [if_neg (by
    rintro (z | ⟨z,z'⟩)
    ·omega
    ·rcases hb.mp c with y | y
     ·exact z' (nL.mp y)
     ·omega)] at this
   exact this
 have nw:¬ (L=[]\/way=9):=fun z=>c (hb.mpr z)
 have hL:L ≠ []:=fun z=>nw (.inl z)
 have w10:way=10\/way=11:=by
  have:=fun z=>nw (.inr z)
  omega
 have la3:=la2.same s3
 obtain ⟨vs,g1,g2,g3⟩:=la3.at (K:=K)
 have lp:0 < L.length:=List.length_pos_iff.mpr hL
 have eb:=qeb9 (cell / 9) (show (0:Int) < ((vs.length:Nat):Int) by omega)
 obtain ⟨jj,ej⟩:∃ jj:Nat,cell / 9 % ((vs.length:Nat):Int)=(jj:Int):=⟨(cell / 9 % ((vs.length:Nat):Int)).toNat,by omega⟩
 have ee:=List.getElem?_eq_getElem (show jj < L.length by omega)
 generalize L[jj]=ent at ee
 obtain ⟨rr,h1,h2⟩:=g3 jj ent ee
 obtain ⟨k,j,m,wd,ek,ew,rfl⟩:=ro2 ent (List.mem_of_getElem? ee)
 refine ⟨_,rfl,_,rfl,_,_,rfl,rfl,⟨by decide,by decide⟩,_,rfl,pq,_,rfl,.inl (SqL.of g1),_,_,rfl,rfl,(by show (0:Int) < ((vs.length:Nat):Int); omega),pq,_,_,_,rfl,rfl,SqL.of g1,by rw [ej]; exact h1,?_⟩
 refine ⟨rr,_,rfl,SqT.of h2,rfl,_,_,rfl,_,_,rfl,_,_,rfl,_,_,rfl,_,_,rfl,rfl,?_⟩
 obtain ⟨_,_,_,aw⟩:=nok.all m (List.mem_of_getElem? ek)
 have ww:=aw wd (List.mem_of_getElem? ew)
 obtain ⟨m',em',eb'⟩:=qnk9 eM ek
 have ew':m'.2.2.2[j]?=some wd:=by rw [eb']; exact ew
 have op:=row_open (c:=cell % 99) hd ⟨ww.1,ww.2.1,ww.2.2.1⟩
 refine ⟨_,rfl,rfl,_,rfl,ite2 (fun c1=>?_) (fun c1=>?_)⟩
 ·have e11:=wE.mp c1
  refine ⟨_,rfl,x,dx,_,rfl,xg S3,rfl,_,rfl,_,rfl,_,rfl,_,rfl,_,rfl,_,_,rfl,rfl,cell,(mo:Int)+1,rfl,by omega,by omega,fun v H4 s4 dv hn=>?_⟩
  have S4:=S3.trans s4
  refine ⟨x,d,N,M,Cs,_,_,_,v,rfl,hg.u (SameU.of S4),hd,C1,.inr ⟨⟨k,m',j,wd,rfl,em',rfl,ew',op⟩,dv,by rw [cM]; exact hn,?_⟩⟩
  have:=q H4 S4
  rw [if_pos (.inr ⟨e11,fun z=>hL (nL.mpr z)⟩)] at this
  exact this
 have e10:way=10:=by
  have:¬ way=11:=fun z=>c1 (wE.mpr z)
  omega
 have q:=fun H' s'=>q H' s'
 rw [if_neg (by rintro (z | ⟨z,_⟩) <;> omega)] at q
 refine ⟨fun b H'=>H'=H3/\(b=true↔wd.2.1 - wd.1+1 < d),?_,?_⟩
 ·refine ⟨_,rfl,rfl,_,rfl,ite2 (fun _=>⟨_,rfl,_,rfl,_,_,rfl,rfl,_,rfl,rfl,decide_eq_true_iff⟩) (fun c2=>absurd (wE.mpr e10) c2)⟩
 intro b _ z9;obtain ⟨rfl,hb2⟩ := z9
 refine ite2 (fun c2=>?_) (fun c2=>?_)
 ·refine ⟨_,rfl,x,dx,_,rfl,xg S3,rfl,_,rfl,_,rfl,_,rfl,_,rfl,_,rfl,_,_,rfl,rfl,cell,(mo:Int)+1,rfl,by omega,by omega,fun v H4 s4 dv hn=>?_⟩
  have S4:=S3.trans s4
  exact ⟨x,d,N,M,Cs,_,_,_,v,rfl,hg.u (SameU.of S4),hd,C1,.inl ⟨.inr ⟨k,m',rfl,em',.inr ⟨j,wd,rfl,ew',row_shut hd ⟨ww.1,ww.2.1,ww.2.2.1⟩ (hb2.mp c2)⟩⟩,q H4 S4⟩⟩
 ·obtain ⟨ws',r2,y1,y2,y3,y4⟩:=hN.atG ek
  rw [hw1] at y1
  cases y1
  obtain ⟨bs,b1,b2,b3⟩:=(hN.bd m (List.mem_of_getElem? ek)).1.at (K:=K)
  have lb:bs.length<=1000:=by
   have:=qkq9 Ns (k+1)
   have:=qor9 ek
   omega
  refine ⟨_,rfl,x,dx,_,rfl,xg S3,rfl,_,rfl,_,rfl,_,rfl,_,rfl,pr,_,_,_,rfl,rfl,SqL.of (S3 _ _ hw1),y3,r2,_,_,_,rfl,rfl,SqT.of (S3 _ _ y4),rfl,m.2.2.1,_,rfl,.inl (SqL.of (S3 _ _ b1)),cell,_,rfl,by omega,by omega,fun v H4 s4 dv hn=>?_⟩
  have S4:=S3.trans s4
  refine ⟨_,rfl,x,d,N,M,Cs,_,v,_,.int 0,rfl,hg.u (SameU.of S4),hd,C1,.inl ⟨.inr ⟨k,m',rfl,em',.inl ⟨dv,?_⟩⟩,q H4 S4⟩⟩
  rw [eb',<- b2]
  exact hn
end
theorem menu4g {a b c e j:Int} (h0:0<=j) (h1:j < 4):∃ v:Int,atI [V.int a,V.int b,V.int c,V.int e] j=some (.int v)/\(v=a\/v=b\/v=c\/v=e):=by
 rcases (by omega:j=0\/j=1\/j=2\/j=3) with rfl | rfl | rfl | rfl
 ·exact ⟨_,rfl,.inl rfl⟩
 ·exact ⟨_,rfl,.inr (.inl rfl)⟩
 ·exact ⟨_,rfl,.inr (.inr (.inl rfl))⟩
 ·exact ⟨_,rfl,.inr (.inr (.inr rfl))⟩
theorem qop_neDK {X:Cx} (K:W.Frag) (hK:X.K=K) (hu:X.A.units+64 < cLine):QOp X (compareOp .NotEq) (rNeD K):=by
 subst hK
 exact qnw9 hu
def Cl (K:W.Frag) (CF:Addr) (L:Nat->List (Addr × Bool)) (D:Addr) (i:Nat):Prop:=∃ bm,ExC K D bm/\(Value.ref D :: bm).contains (.ref CF)=true/\Kd K D (L i)
theorem ways67 {K:W.Frag} {CF cn cp cr ct:Addr} {L:Nat->List (Addr × Bool)} (l1:Cl K CF L cn 1) (l2:Cl K CF L cp 2) (l3:Cl K CF L cr 3) (l4:Cl K CF L ct 4) {way:Int} (w0:0<=way) (w1:way < 12) (R:Prop) [Decidable R] :
  ∃ (G:Addr) (i:Nat),Cl K CF L G i/\(way < 6->made67 cn cp ct way=G)/\(¬ way < 6->qhq9 cp ct cr way R=G)/\(i=1\/i=2\/i=3\/i=4)/\(i:Int)=(if way=0\/way=1\/way=4 then 1 else if way=2\/way=5\/way=6\/way=7 then 2 else if way=3\/way=8\/(way=11/\decide R=true) then 4 else 3):=by
 obtain ⟨k,rfl⟩:=Int.eq_ofNat_of_zero_le w0
 have wk:k < 12:=by omega
 clear w0 w1
 match k,wk with
 | 0,_ | 1,_ | 4,_=>exact ⟨cn,1,l1,fun _=>rfl,fun z=>absurd (by decide) z,.inl rfl,rfl⟩
 | 2,_ | 5,_=>exact ⟨cp,2,l2,fun _=>rfl,fun z=>absurd (by decide) z,.inr (.inl rfl),rfl⟩
 | 3,_=>exact ⟨ct,4,l4,fun _=>rfl,fun z=>absurd (by decide) z,.inr (.inr (.inr rfl)),rfl⟩
 | 6,_ | 7,_=>exact ⟨cp,2,l2,fun z=>absurd z (by decide),fun _=>rfl,.inr (.inl rfl),rfl⟩
 | 8,_=>exact ⟨ct,4,l4,fun z=>absurd z (by decide),fun _=>rfl,.inr (.inr (.inr rfl)),rfl⟩
 | 9,_ | 10,_=>exact ⟨cr,3,l3,fun z=>absurd z (by decide),fun _=>rfl,.inr (.inr (.inl rfl)),rfl⟩
 | 11,_ =>
  by_cases r:R
  ·exact ⟨ct,4,l4,fun z=>absurd z (by decide),fun _=>by simp [qhq9,r],.inr (.inr (.inr rfl)),by simp [r]⟩
  ·exact ⟨cr,3,l3,fun z=>absurd z (by decide),fun _=>by simp [qhq9,r],.inr (.inr (.inl rfl)),by simp [r]⟩
 | k+12,h=>exact absurd h (by omega)
def datO7:Option Int->PyData
 | none=>.none
 | some y=>.int y
theorem rdO7 {K:W.Frag} {H:Hp}:∀ o:Option Int,RdV K H (optV o) (datO7 o)
 | none=>.non
 | some y=>.int y
theorem rd_bls {K:W.Frag} {H:Hp}:∀ bs:List Bool,RdAll K H (bs.map V.bl) (bs.map PyData.bool)
 | []=>.nil
 | b :: bs=>.cons (.bl b) (rd_bls bs)
theorem qqh9 {K:W.Frag} {H:Hp}:∀ ks:List Int,RdAll K H (ks.map V.int) (ks.map PyData.int)
 | []=>.nil
 | k :: ks=>.cons (.int k) (qqh9 ks)
theorem qgy9 (ks:List Int):SeqAt.shaped (.list (ks.map PyData.int))=true:=qen9 (n:=2) (fun x=>by simp [PyData.canLay0]) (fun x=>by simp [PyData.depth]) (by decide) ks
theorem eqv_nil7 (ks:List Int):PyData.eqv (.list (ks.map PyData.int)) (.list [])=decide (ks=[]):=by
 cases ks <;> simp [PyData.eqv,PyData.eqvAll]
theorem qod9 (o:Option Int):SeqAt.shaped (datO7 o)=true:=by
 cases o <;> simp [datO7,SeqAt.shaped,PyData.canLay0,PyData.depth]
theorem eqvO7 (o:Option Int):PyData.eqv (datO7 o) (datO7 o)=true:=by
 cases o <;> simp [datO7,PyData.eqv]
theorem qis9 (bs:List Bool):SeqAt.shaped (.list (bs.map PyData.bool))=true:=qen9 (n:=2) (fun x=>by simp [PyData.canLay0]) (fun x=>by simp [PyData.depth]) (by decide) bs
theorem eqv_bl (x y:Bool):PyData.eqv (.bool x) (.bool y)=decide (x=y):=by
 cases x <;> cases y <;> simp [PyData.eqv]
section
variable {P:Program} {w:World} {K:W.Frag} {mg:Str->Option Value} {base:Heap} {f:Addr} {fd:FuncData} {n:Nat} {T:Hp->Prop} {C CF cb cn cp cr ct cx cw cm co:Addr} {bmF:List Value}
theorem ok_law {tabs:List (Addr × Addr)} (hTB:TB T) (h0:∀ H:Hp,(∀ t∈tabs,H t.2=some (.tbl #[]))->T H) (X_FordError:XCl K mg "FordError" CF bmF) (l1:Cl K CF (due67 cb cn cp cr ct cx cw cm co) cn 1) (l2:Cl K CF (due67 cb cn cp cr ct cx cw cm co) cp 2) (l3:Cl K CF (due67 cb cn cp cr ct cx cw cm co) cr 3) (l4:Cl K CF (due67 cb cn cp cr ct cx cw cm co) ct 4) (F:Fun K "law" "law" qhe9 f fd) (B:Bl mg) (Cf0:Callee P w K mg base (n+1) "_law_cell_at" ["script","k"] (spCell K)) (Cc2:Callee P w K mg base (n+1) "_law_net" ["script","start"] (spNetG K))
  (K_Gate:KCal P w K mg base n "Gate" C ["self","day","size","roads","goal","most"] (spInit T C)) (Cv0:MCal P w K mg base (n+1) C "soonest" ["self","place","t","left"] (qmr9 T C)) (CX__law_made:CalleeX P w K mg base (n+1) "_law_made" ["net","most","way","cell"] (spMadeX cn cp ct)) (CX__law_asked:CalleeX P w K mg base (n+1) "_law_asked" ["gate","net","most","way","cell"] (qow9 C cp ct cr)) (Cd2:Callee P w K mg base (n+1) "_law_due" ["way","rows"] spDue) (Cv1:Callee P w K mg base (n+1) "_law_kinds" ["e"] (spKinds K cb cn cp cr ct cx cw cm co)):FnOk P w K mg base CX0 (n+2) f fd ["script"] (spLaw K tabs):=by
 refine F.okQ sc_law (fun vs H Q E h=>?_) (fun cdv A outer s H vs Q E hr h=>?_)
 ·obtain ⟨_,_,rfl,_⟩:=h
  rfl
 obtain ⟨a,ns,rfl,hS,h63,hT,q⟩:=h
 have t0:=h0 H hT
 refine ⟨_,(qac9 (qak9 (i:=1) sc_law.nd rfl (Or.inl rfl) (qe_fn Cc2 hr rfl (qa_c (qv 0) (qa_c qaa9 qad9)))) (qac9 (qjy9 (qv 1) (qfu9 rfl (qal9 (qam9 (i:=2) sc_law.nd rfl (Or.inl rfl)) (qal9 (qam9 (i:=3) sc_law.nd rfl (Or.inl rfl)) (qal9 (qam9 (i:=4) sc_law.nd rfl (Or.inl rfl)) (qal9 (qam9 (i:=5) sc_law.nd rfl (Or.inl rfl)) qdo9)))))) (qac9 (qak9 (i:=6) sc_law.nd rfl (Or.inl rfl) (qe_ix qai9 (qbj9 (qa_c qaa9 (qa_c qaa9 (qa_c qaa9 (qa_c qaa9 qad9))))) (qe_op qav9 (qe_fn Cf0 hr rfl (qa_c (qv 0) (qa_c qaa9 qad9))) qaa9) (fun _ _=>rfl))) (qac9 (qak9 (i:=7) sc_law.nd rfl (Or.inl rfl) (qe_op qav9 (qe_fn Cf0 hr rfl (qa_c (qv 0) (qa_c qaa9 qad9))) qaa9)) (qac9 (qak9 (i:=8) sc_law.nd rfl (Or.inl rfl) (qe_fn Cf0 hr rfl (qa_c (qv 0) (qa_c qaa9 qad9)))) (qac9 (qak9 (i:=9) sc_law.nd rfl (Or.inl rfl) (qe_make K_Gate hr rfl (qa_c (qv 2) (qa_c (qv 3) (qa_c (qv 4) (qa_c (qv 5) (qa_c (qv 6) qad9))))))) (qac9 (qak9 (i:=10) sc_law.nd rfl (Or.inl rfl) (qlv9 Cv0 hr (qv 9) (qa_c qaa9 (qa_c qaa9 (qa_c (qv 6) qad9))))) (qac9 (qak9 (i:=11) sc_law.nd rfl (Or.inl rfl) qih9) (qac9 (qs_tryAs (i:=12) (qsx_if (qaj9 qcy9 (qv 7) qaa9 (qas9 _)) (qpl9 (qex_fn CX__law_made hr rfl (qa_c (qv 1) (qa_c (qv 6) (qa_c (qv 7) (qa_c (qv 8) qad9)))))) (qpl9 (qex_fn CX__law_asked hr rfl (qa_c (qv 9) (qa_c (qv 1) (qa_c (qv 6) (qa_c (qv 7) (qa_c (qv 8) qad9)))))))) X_FordError.1 rfl X_FordError.2 own0 (fun _=>(qae9 (qak9 (i:=11) sc_law.nd rfl (Or.inl rfl) (qv 12)))) sc_law.nd rfl rfl) (qac9 (qak9 (i:=13) sc_law.nd rfl (Or.inl rfl) (qjb9 (qnw9 hr.units) (qlk9 ["start","other","board"] [none,none,none] (BlkOk.of rfl rfl (SubL.to subN) rfl) rfl (qdn9 (qv 4)) (fun _ _ _ _=>(qnz9 (n:=3) K rfl rfl (qal9 (qam9 (i:=0) (show (["start","other","board"]:List Str).Nodup by decide) rfl (Or.inl rfl)) (qal9 (qam9 (i:=1) (show (["start","other","board"]:List Str).Nodup by decide) rfl (Or.inl rfl)) (qal9 (qam9 (i:=2) (show (["start","other","board"]:List Str).Nodup by decide) rfl (Or.inl rfl)) qdo9))))) (fun _ _ _ _=>(qaj9 (qop_neDK K rfl hr.units) (qv 2) (qbj9 qad9) (qas9 _))) (fun _ _ _ _=>(qv 0))) (qbj9 qad9) (qas9 _))) (qac9 (qs_if (QW.pt (qw_or (qt_isN (qv 11)) (qff9 (qaj9 (qnw9 hr.units) (qlv9 Cv0 hr (qv 9) (qa_c qaa9 (qa_c qaa9 (qa_c (qv 6) qad9)))) (qv 10) (qas9 _))))) (qae9 (qax9 qe_bl)) qat9) (qac9 (qak9 (i:=14) sc_law.nd rfl (Or.inr rfl) (qe_fn Cd2 hr rfl (qa_c (qv 7) (qa_c (qv 13) qad9)))) (qae9 (qax9 (qjb9 (qmb9 hr.units) (qe_fn Cv1 hr rfl (qa_c (qv 11) qad9)) (qfc9 ["k","due"] [none,some 14] (BlkOk.of rfl rfl (SubL.to (subC rfl subN)) rfl) rfl (qfb9 rfl B.range (qa_c qaa9 qad9)) (fun _ _ _ _=>(qam9 (i:=0) (show (["k","due"]:List Str).Nodup by decide) rfl (Or.inl rfl))) (fun _ _ _ _=>(qjb9 qcb9 (qv 0) (qv 1) (qas9 _)))) (qas9 _)))))))))))))))),?_⟩
 walk_at "d"
 refine ⟨_,rfl,a,ns,3,rfl,hS,by decide,fun r pr d N goal Ns H1 s1 er hN d1 d2 n1 n4 g0' g1 gn hfr=>?_⟩
 have hd:0 < d:=by omega
 have nok:=gn.ok
 refine ⟨_,rfl,r,_,rfl,SqT.of er,rfl,_,_,rfl,_,_,rfl,_,_,rfl,_,_,rfl,rfl,?_⟩
 refine ⟨(by show 4<=sizeLine; decide),fun pm hpm=>?_⟩
 generalize hgH2:upd _ pm _=H2
 revert H2
 refine qar9 hpm fun H2 s2 e2=>?_
 have s02:=s1.trans s2
 refine ⟨_,rfl,a,ns,1,rfl,s02.seq hS,by decide,fun c1=>⟨_,_,rfl,rfl,(by show (0:Int) < 4; decide),?_⟩⟩
 obtain ⟨mv,hmv,mvb⟩:=menu4g (a:=1) (b:=0) (c:=2) (e:=1) (j:=c1 % 4) (Int.emod_nonneg _ (by decide)) (Int.emod_lt_of_pos _ (by decide))
 refine ⟨pm,_,_,.int mv,rfl,rfl,SqL.of e2,hmv,?_⟩
 obtain ⟨mo,rfl⟩:∃ mo:Nat,mv=(mo:Int):=⟨mv.toNat,by omega⟩
 have mo2:mo<=2:=by omega
 clear mvb
 refine ⟨_,rfl,a,ns,2,rfl,s02.seq hS,by decide,fun c2=>⟨_,_,rfl,rfl,(by show (0:Int) < 12; decide),?_⟩⟩
 have wb:=qeb9 c2 (show (0:Int) < 12 by decide)
 dsimp only
 generalize c2 % 12=way at *
 generalize hσ:List.set _ 6 (some (V.int (mo:Int)))=σ0
 have e0:σ0=[some (.ref a),some (.ref r),some (.int d),some (.int N),some (.ref pr),some (.int goal),some (.int mo),none,none,none,none,none,none,none,none]:=by
  rw [<- hσ]
  rfl
 clear hσ
 subst e0
 refine ⟨_,rfl,a,ns,16,rfl,s02.seq hS,by decide,fun cell=>?_⟩
 have hN2:=hN.same s2
 have er2:=s2 _ _ er
 have lN5:=gn.len
 have ws6:=gn.ws
 have few:∀ y∈Ns,4 * y.2.2.2.length+2<=66:=fun y hy=>by
  have:=qkh9 hy
  omega
 refine ⟨_,rfl,_,rfl,_,rfl,_,rfl,_,rfl,fun x dx fx fdx nex=>?_⟩
 have m3:Same H2 (upd (upd H2 dx (.own x)) x (.ins C dx [])):=fun b o e=>by
  rw [qaq9 (qbb9 e fx),qaq9 (qbb9 e fdx)]
  exact e
 refine ⟨x,dx,d,N,pr,Ns,goal,mo,H2,rfl,qaf9,fx,SameU.of m3,hN2,⟨hN2.same m3,hTB.same _ _ t0 (s02.trans m3),hd,nok,n1,by omega,by omega,few,few16 (by omega) n4,.inl ⟨ws6,by omega⟩,n4,g0',g1⟩,by omega,fun H4 M Cs u4 t4 gA lC ok eM=>⟨rfl,?_⟩⟩
 have cs:=ok.cs
 have hDt:=List.getElem?_eq_getElem (show mo < Cs.length by omega)
 generalize Cs[mo]=Dt at hDt
 obtain ⟨dx4,gl4,gp4,x4,_,_⟩:=id gA.ex
 refine ⟨_,rfl,x,dx4,_,rfl,x4,rfl,_,rfl,x,d,N,M,Cs,0,5,mo,Dt,rfl,gA,t4,hDt,cs,by omega,by omega,fun H5 u5 t5=>?_⟩
 have er5:=(u4.trans u5).tup er2
 have hN5:=hN2.u (u4.trans u5)
 have g5:=gA.u u5
 obtain ⟨G,i,ci,hG1,hG2,hi,hdue⟩:=ways67 l1 l2 l3 l4 wb.1 wb.2 (wsN Ns ≠ [])
 obtain ⟨bmG,xG,subG,kdG⟩:=ci
 refine ⟨fun cls _ H'=>cls=.ref G/\Same H5 H',G,bmG,?_,fun cls H' z=>z.1,xG,subG,?_⟩
 ·refine ⟨_,rfl,_,_,rfl,rfl,_,rfl,ite2 (fun c=>?_) (fun c=>?_)⟩
  ·have c':way < 6:=of_decide_eq_true c
   exact ⟨_,rfl,_,rfl,_,rfl,_,rfl,r,pr,d,N,goal,Ns,mo,way,cell,rfl,er5,hN5,by omega,nok,fun m hm=>by have:=few m hm; omega,d1,n1,n4,g0',g1,wb.1,c',fun H' s'=>⟨by rw [hG1 c'],s'⟩⟩
  ·have c':¬ way < 6:=fun z=>c (decide_eq_true z)
   exact ⟨_,rfl,_,rfl,_,rfl,_,rfl,_,rfl,x,r,pr,d,N,goal,Ns,M,Cs,mo,way,cell,rfl,er5,hN5,g5,lC,by omega,eM,by omega,by omega,nok,d1,d2,n1,n4,by omega,wb.2,fun H' s'=>⟨by rw [hG2 c'],s'⟩⟩
 intro ea H6 z9 hea;obtain ⟨_,s6⟩ := z9
 have s7:Same H6 (upd H6 ea (.ext (ExQ ea G))):=qan9 hea _
 have e7:upd H6 ea (.ext (ExQ ea G)) ea=some (.ext (ExQ ea G)):=qaf9
 generalize upd H6 ea (.ext (ExQ ea G))=H7 at *
 have s57:=s6.trans s7
 generalize hσ:List.set _ 12 (some (V.ref ea))=σ0
 have e0:σ0=[some (.ref a),some (.ref r),some (.int d),some (.int N),some (.ref pr),some (.int goal),some (.int mo),some (.int way),some (.int cell),some (.ref x),some (optV (Ma.bt d (cl Dt 0) 5)),some .non,some (.ref ea),none,none]:=by
  rw [<- hσ]
  rfl
 clear hσ
 subst e0
 refine ⟨_,rfl,?_⟩
 obtain ⟨ws,w1,w2,w3⟩:=(hN5.same s57).la.lst
 rw [List.length_map] at w2
 refine ⟨_,rfl,pr,rfl,⟨_,SqL.of w1⟩,?_⟩
 refine qlc9 (K:=K) (a:=pr) (xs:=ws) (fun D i H'=>Same H7 H'/\∃ ks:List Int,H' D=some (.lst (ks.map V.int))/\ks.length<=i/\(ks=[]↔wsN (Ns.take i)=[])) (fun D hD=>⟨qan9 hD _,[],qaf9,Nat.le_refl _,by simp [wsN]⟩) (fun D i H' _ _ h=>SqL.of (h.1 _ _ w1)) ?_ ?_
 ·intro D j y H' hD hj z9;obtain ⟨sD,ks,eD,lk,ik⟩ := z9
  obtain ⟨rr,z,rfl,ez,er'⟩:=w3 j y hj
  have hj2:j < Ns.length:=by
   have:=(List.getElem?_eq_some_iff.mp hj).1
   omega
  have em:=List.getElem?_eq_getElem hj2
  rw [List.getElem?_map,em] at ez
  cases ez
  have hm:=List.getElem_mem hj2
  have hb:=((hN5.same s57).bd _ hm).1
  have tk:wsN (Ns.take (j+1))=[]↔wsN (Ns.take j)=[]/\(Ns[j]).2.2.2=[]:=by
   have:=qor9 em
   rw [<- List.length_eq_zero_iff,<- List.length_eq_zero_iff (l:=wsN _),<- List.length_eq_zero_iff (l:=(Ns[j]).2.2.2),this]
   omega
  rw [tk]
  generalize Ns[j]=m at *
  refine ⟨rr,_,rfl,SqT.of (sD _ _ er'),rfl,_,_,rfl,_,_,rfl,_,_,rfl,rfl,fun k v e=>?_,?_⟩
  ·match k,e with
   | 0,e=>cases e
   | 1,e=>cases e
   | 2,e=>cases e
   | k+3,e=>cases e
  refine ⟨_,rfl,(by show 0<=sizeLine; decide),fun p0 hp0=>?_⟩
  generalize hgH8:upd _ p0 _=H8
  revert H8
  refine qar9 hp0 fun H8 s8 e8=>?_
  have sD2:=sD.trans s8
  refine ⟨_,_,rd3 (hb.same sD2),rd3 (LA.nil e8),shaped3 _,shaped3 _,_,rfl,ite2 (fun c=>?_) (fun c=>?_)⟩
  ·have c':m.2.2.2 ≠ []:=fun e=>by
    rw [qft9 eqv3,e] at c
    simp at c
   exact ⟨_,rfl,_,s8 _ _ eD,qbo9 (by rw [List.length_map]; omega),qcs9 hD sD2,ks ++ [m.1],by rw [List.map_append]; exact qaf9,by simp; omega,by simp [c']⟩
  ·have c':m.2.2.2=[]:=Classical.byContradiction fun e=>c (by rw [qft9 eqv3]; simp [e])
   exact ⟨sD2,ks,s8 _ _ eD,by omega,by rw [ik]; simp [c']⟩
 intro D H8 hD z9;obtain ⟨s8,ks,eD,lk,ik⟩ := z9
 have ik':ks=[]↔wsN Ns=[]:=by
  rw [w2,List.take_length] at ik
  exact ik
 refine ⟨(by show 0<=sizeLine; decide),fun p0 hp0=>?_⟩
 generalize hgH9:upd _ p0 _=H9
 revert H9
 refine qar9 hp0 fun H9 s9 e9=>?_
 refine ⟨_,_,.lst (SqL.of (s9 _ _ eD)) (qqh9 ks),.lst (SqL.of e9) .nil,qgy9 _,qgy9 [],?_⟩
 rw [show (!PyData.eqv (.list (ks.map PyData.int)) (.list []))=decide (wsN Ns ≠ []) by rw [eqv_nil7]; by_cases z:ks=[] <;> simp [z,<- ik']]
 have s59:=s57.trans (s8.trans s9)
 have g9:=g5.u (SameU.of s59)
 have e9':=s9 _ _ (s8 _ _ e7)
 have t9:=hTB.same _ _ t5 s59
 obtain ⟨dx9,gl9,gp9,x9,_,_⟩:=id g9.ex
 refine ⟨_,rfl,_,rfl,iteN (by simp) ?_⟩
 refine ⟨_,rfl,x,dx9,_,rfl,x9,rfl,_,rfl,x,d,N,M,Cs,0,5,mo,Dt,rfl,g9,t9,hDt,cs,by omega,by omega,fun Ha ua ta=>?_⟩
 refine ⟨_,rfl,_,_,rdO7 _,rdO7 _,qod9 _,qod9 _,_,rfl,?_⟩
 rw [eqvO7]
 refine iteF ?_
 refine ⟨_,rfl,_,rfl,way,_,rfl,wb.1,wb.2,fun v Hb sb ev=>?_⟩
 rw [<- hdue] at ev
 subst ev
 have eb:=sb _ _ (ua.1 _ _ e9' (fun _ z=>nomatch z))
 refine ⟨_,rfl,ea,G,i,rfl,eb,kdG,fun l Hc sc el=>?_⟩
 refine ⟨10,rfl,by decide,by decide,?_⟩
 refine qhw9 (lo:=0) (n:=(10:Int).toNat) (fun D j H'=>Same Hc H'/\H' D=some (.lst (((List.range j).map fun k=>decide (V.int (0+((k:Nat):Int))=V.int (i:Int))).map V.bl))) (fun D hD=>⟨qan9 hD _,qaf9⟩) ?_ ?_
 ·intro D j H' hD hj z9;obtain ⟨sD,eD⟩ := z9
  refine ⟨fun k v e=>?_,?_⟩
  ·match k,e with
   | 0,e=>cases e
   | 1,e=>exact e
   | k+2,e=>cases e
  refine ⟨_,rfl,_,rfl,rfl,_,eD,qbo9 (by simp; have:j < 10:=hj; omega),qcs9 hD sD,?_⟩
  rw [qaf9,List.range_succ,List.map_append,List.map_append]
  rfl
 intro D' Hd hD' z9;obtain ⟨sd,ed⟩ := z9
 refine ⟨_,_,.lst (SqL.of (sd _ _ el)) (rd_bls _),.lst (SqL.of ed) (rd_bls _),qis9 _,qis9 _,?_⟩
 rw [qft9 eqv_bl,show decide (kindsL i=(List.range (10:Int).toNat).map fun k=>decide (V.int (0+((k:Nat):Int))=V.int (i:Int)))=true from ?_]
 ·exact q Hd
 rcases hi with rfl | rfl | rfl | rfl <;> decide
end
def Rw (K:W.Frag) (x:Str) (st:Stmt):Prop:=∃ (f:Addr) (oc:Value) (od:Option Addr) (kV dc pm:Value) (an:Option Addr) (cd ct:Value) (sl:Array (Option Value)),W.nsIn K mainGlobals x=some (some (.ref f))/\K.lookup f=some ⟨oc,od,.func (W.fnOf x x (qah9 st) (qag9 st) (qab9 st) .none kV dc pm an cd ct),sl⟩/\W.codeIn K cd x=true/\W.keepIn K (.ref f)=true
theorem Rw.mk {K:W.Frag} {x:Str} {st:Stmt} {f:Addr} {oc:Value} {od:Option Addr} {kV dc pm:Value} {an:Option Addr} {cd ct:Value} {sl:Array (Option Value)} (a:W.nsIn K mainGlobals x=some (some (.ref f))) (l:K.lookup f=some ⟨oc,od,.func (W.fnOf x x (qah9 st) (qag9 st) (qab9 st) .none kV dc pm an cd ct),sl⟩) (c:W.codeIn K cd x=true) (k:W.keepIn K (.ref f)=true):Rw K x st:=⟨f,oc,od,kV,dc,pm,an,cd,ct,sl,a,l,c,k⟩
structure Has (K:W.Frag) (mg:Str->Option Value) (x:Str) (st:Stmt) (ps:List Str):Prop where
 ex:∃ (f:Addr) (fd:FuncData),Fun K x x st f fd/\Binds K fd ps []/\mg x=some (.ref f)
section
variable {P:Program} {w:World} {base h:Heap} {K:W.Frag} {mg:Str->Option Value} {n:Nat} {x:Str} {st:Stmt} {ps:List Str} {sp:Sp}
theorem Rw.has (r:Rw K x st) (X:K.In h/\h.Ns mainGlobals mg) (hb:∀ (kV dc pm:Value) (an:Option Addr) (cd ct:Value) (us:List Value),us.length=ps.length->bindArgs (W.fnOf x x (qah9 st) (qag9 st) (qab9 st) .none kV dc pm an cd ct) ⟨us,[]⟩=pure (ps.zip us)):Has K mg x st ps:=by
 obtain ⟨f,oc,od,kV,dc,pm,an,cd,ct,sl,a,l,c,k⟩:=r
 have F:=qdq9 (st:=st) l c k
 exact ⟨⟨f,_,F,F.binds hb,W.mg_of X.1 X.2 a⟩⟩
theorem Has.cal (H:Has K mg x st ps) (ok:∀ {f:Addr} {fd:FuncData},Fun K x x st f fd->FnOk P w K mg base CX0 n f fd ps sp):Callee P w K mg base n x ps sp:=by
 obtain ⟨f,fd,F,b,m⟩:=H.ex
 exact Callee.mk' (ok F) b F.kp m
theorem Rw.h1 (r:Rw K x st) (p0:Str) (X:K.In h/\h.Ns mainGlobals mg) (hb:∀ (kV dc pm:Value) (an:Option Addr) (cd ct a0:Value),bindArgs (W.fnOf x x (qah9 st) (qag9 st) (qab9 st) .none kV dc pm an cd ct) ⟨[a0],[]⟩=pure [(p0,a0)]):Has K mg x st [p0]:=r.has X fun _ _ _ _ _ _ us hl=>by
 obtain ⟨_,rfl⟩:=bl_1 hl
 exact hb _ _ _ _ _ _ _
theorem Rw.h2 (r:Rw K x st) (p0 p1:Str) (X:K.In h/\h.Ns mainGlobals mg) (hb:∀ (kV dc pm:Value) (an:Option Addr) (cd ct a0 a1:Value),bindArgs (W.fnOf x x (qah9 st) (qag9 st) (qab9 st) .none kV dc pm an cd ct) ⟨[a0,a1],[]⟩=pure [(p0,a0),(p1,a1)]):Has K mg x st [p0,p1]:=r.has X fun _ _ _ _ _ _ us hl=>by
 obtain ⟨_,_,rfl⟩:=bl_2 hl
 exact hb _ _ _ _ _ _ _ _
theorem Rw.h3 (r:Rw K x st) (p0 p1 p2:Str) (X:K.In h/\h.Ns mainGlobals mg) (hb:∀ (kV dc pm:Value) (an:Option Addr) (cd ct a0 a1 a2:Value),bindArgs (W.fnOf x x (qah9 st) (qag9 st) (qab9 st) .none kV dc pm an cd ct) ⟨[a0,a1,a2],[]⟩=pure [(p0,a0),(p1,a1),(p2,a2)]):Has K mg x st [p0,p1,p2]:=r.has X fun _ _ _ _ _ _ us hl=>by
 obtain ⟨_,_,_,rfl⟩:=bl_3 hl
 exact hb _ _ _ _ _ _ _ _ _
theorem Rw.h4 (r:Rw K x st) (p0 p1 p2 p3:Str) (X:K.In h/\h.Ns mainGlobals mg) (hb:∀ (kV dc pm:Value) (an:Option Addr) (cd ct a0 a1 a2 a3:Value),bindArgs (W.fnOf x x (qah9 st) (qag9 st) (qab9 st) .none kV dc pm an cd ct) ⟨[a0,a1,a2,a3],[]⟩=pure [(p0,a0),(p1,a1),(p2,a2),(p3,a3)]):Has K mg x st [p0,p1,p2,p3]:=r.has X fun _ _ _ _ _ _ us hl=>by
 obtain ⟨_,_,_,_,rfl⟩:=bl_4 hl
 exact hb _ _ _ _ _ _ _ _ _ _
theorem Rw.h5 (r:Rw K x st) (p0 p1 p2 p3 p4:Str) (X:K.In h/\h.Ns mainGlobals mg) (hb:∀ (kV dc pm:Value) (an:Option Addr) (cd ct a0 a1 a2 a3 a4:Value),bindArgs (W.fnOf x x (qah9 st) (qag9 st) (qab9 st) .none kV dc pm an cd ct) ⟨[a0,a1,a2,a3,a4],[]⟩=pure [(p0,a0),(p1,a1),(p2,a2),(p3,a3),(p4,a4)]):Has K mg x st [p0,p1,p2,p3,p4]:=r.has X fun _ _ _ _ _ _ us hl=>by
 obtain ⟨_,_,_,_,_,rfl⟩:=bl_5 hl
 exact hb _ _ _ _ _ _ _ _ _ _ _
theorem Rw.h6 (r:Rw K x st) (p0 p1 p2 p3 p4 p5:Str) (X:K.In h/\h.Ns mainGlobals mg) (hb:∀ (kV dc pm:Value) (an:Option Addr) (cd ct a0 a1 a2 a3 a4 a5:Value),bindArgs (W.fnOf x x (qah9 st) (qag9 st) (qab9 st) .none kV dc pm an cd ct) ⟨[a0,a1,a2,a3,a4,a5],[]⟩=pure [(p0,a0),(p1,a1),(p2,a2),(p3,a3),(p4,a4),(p5,a5)]):Has K mg x st [p0,p1,p2,p3,p4,p5]:=r.has X fun _ _ _ _ _ _ us hl=>by
 obtain ⟨_,_,_,_,_,_,rfl⟩:=bl_6 hl
 exact hb _ _ _ _ _ _ _ _ _ _ _ _
theorem Rw.h7 (r:Rw K x st) (p0 p1 p2 p3 p4 p5 p6:Str) (X:K.In h/\h.Ns mainGlobals mg) (hb:∀ (kV dc pm:Value) (an:Option Addr) (cd ct a0 a1 a2 a3 a4 a5 a6:Value),bindArgs (W.fnOf x x (qah9 st) (qag9 st) (qab9 st) .none kV dc pm an cd ct) ⟨[a0,a1,a2,a3,a4,a5,a6],[]⟩=pure [(p0,a0),(p1,a1),(p2,a2),(p3,a3),(p4,a4),(p5,a5),(p6,a6)]):Has K mg x st [p0,p1,p2,p3,p4,p5,p6]:=r.has X fun _ _ _ _ _ _ us hl=>by
 obtain ⟨_,_,_,_,_,_,_,rfl⟩:=bl_7 hl
 exact hb _ _ _ _ _ _ _ _ _ _ _ _ _
end
abbrev NI (K:W.Frag) (x:Str) (f:Addr):Prop:=W.nsIn K mainGlobals x=some (some (.ref f))
abbrev LK (K:W.Frag) (f:Addr) (x:Str) (st:Stmt) (oc:Value) (od:Option Addr) (kV dc pm:Value) (an:Option Addr) (cd ct:Value) (sl:Array (Option Value)):Prop:=K.lookup f=some ⟨oc,od,.func (W.fnOf x x (qah9 st) (qag9 st) (qab9 st) .none kV dc pm an cd ct),sl⟩
abbrev CI (K:W.Frag) (cd:Value) (x:Str):Prop:=W.codeIn K cd x=true
abbrev KI (K:W.Frag) (f:Addr):Prop:=W.keepIn K (.ref f)=true
theorem all_mk {l:W.OpenLaw} {q:Program} {loose:List Str} {mean:ExcName->Option Value} {w:World} {K:W.Frag} {h:Heap} {mg mb:Str->Option Value} {fa:Addr} (X:K.In h) (G:PyProof.Rows.Top q (W.looseW q loose) mean mg mb h) (hfa:mg "law" = some (.ref fa))
  {f8 f9 f11 f12 f24 f26 f31 f33 f34 f37 f38 f39 f51 f52 f54 f55 f56 f57 f58 f59 f60 f61 cGate td55 tc0 tp0 tc1 tp1 tc2 tp2 tc3 tp3:Addr} {dr0 dr1 dr2 dr3:DefRec} {od8 an8 od9 an9 od11 an11 od12 an12 od24 an24 od26 an26 od31 an31 od33 an33 od34 an34 od37 an37 od38 an38 od39 an39 od51 an51 od52 an52 od54 an54 od55 an55 od56 an56 od57 an57 od58 an58 od59 an59 od60 an60 od61 an61:Option Addr} {sl8 sl9 sl11 sl12 sl24 sl26 sl31 sl33 sl34 sl37 sl38 sl39 sl51 sl52 sl54 sl55 sl56 sl57 sl58 sl59 sl60 sl61:Array (Option Value)} {oc8 kV8 dc8 pm8 cd8 ct8 oc9 kV9 dc9 pm9 cd9 ct9 oc11 kV11 dc11 pm11 cd11 ct11 oc12 kV12 dc12 pm12 ct12 oc24 kV24 dc24 pm24 ct24 oc26 kV26 dc26 pm26 cd26 ct26 oc31 kV31 dc31 pm31 cd31 ct31 oc33 kV33 dc33 pm33 ct33 oc34 kV34 dc34 pm34 cd34 ct34 oc37 kV37 dc37 pm37 ct37 oc38 kV38 dc38 pm38 cd38 ct38 oc39 kV39 dc39 pm39 cd39 ct39 oc51 kV51 dc51 pm51 cd51 ct51 oc52 kV52 dc52 pm52 cd52 ct52 oc54 kV54 dc54 pm54 cd54 ct54 oc55 kV55 dc55 pm55 cd55 ct55 oc56 kV56 dc56 pm56 cd56 ct56 oc57 kV57 dc57 pm57 cd57 ct57 oc58 kV58 dc58 pm58 cd58 ct58 oc59 kV59 dc59 pm59 cd59 ct59 oc60 kV60 dc60 pm60 cd60 ct60 oc61 kV61 dc61 pm61 cd61 ct61:Value} {odd55:Option Addr} {sld55:Array (Option Value)} {ocd55:Value} {nd55:Nat} {tkd55:Tok} {cNoBoard cNoNet cNoPlace cNoRoad cNoTurn cNoText cNoRow cNoName cNoWindow cFordError:Addr} {bmNoNet bmNoPlace bmNoRoad bmNoTurn bmFordError:List Value}
  (r0_:Rw K "is_whole" qdg9)
  (r1_:Rw K "is_window" qcw9)
  (r2_:Rw K "is_board" qdk9)
  (r3_:Rw K "open_at" qdu9)
  (r4_:Rw K "next_open" qcu9)
  (r5_:Rw K "is_number" qcx9)
  (r6_:Rw K "is_road" qdw9)
  (r7_:Rw K "is_net" qeu9)
  (a8:NI K "need_net" f8) (l8:LK K f8 "need_net" qcj9 oc8 od8 kV8 dc8 pm8 an8 cd8 ct8 sl8) (c8:CI K cd8 "need_net") (k8:KI K f8)
  (a9:NI K "need_place" f9) (l9:LK K f9 "need_place" qbs9 oc9 od9 kV9 dc9 pm9 an9 cd9 ct9 sl9) (c9:CI K cd9 "need_place") (k9:KI K f9)
  (r10_:Rw K "copied" qep9)
  (a11:NI K "first_where" f11) (l11:LK K f11 "first_where" qbd9 oc11 od11 kV11 dc11 pm11 an11 cd11 ct11 sl11) (c11:CI K cd11 "first_where") (k11:KI K f11)
  (a12:NI K "set_off" f12) (l12:LK K f12 "set_off" qbr9 oc12 od12 kV12 dc12 pm12 an12 (.ref tc0) ct12 sl12) (c12:CI K (.ref tc0) "set_off") (k12:KI K f12)
  (r13_:Rw K "come" qhm9)
  (r14_:Rw K "standing" qdi9)
  (r15_:Rw K "stretches" qcv9)
  (r16_:Rw K "first_told" qcn9)
  (r17_:Rw K "overlay" qdy9)
  (r18_:Rw K "put_window" qck9)
  (r19_:Rw K "clock_from" qcm9)
  (r20_:Rw K "picked" qeq9)
  (r21_:Rw K "joined" qex9)
  (r22_:Rw K "sooner" qer9)
  (r23_:Rw K "later" qfv9)
  (a24:NI K "ridden" f24) (l24:LK K f24 "ridden" qcc9 oc24 od24 kV24 dc24 pm24 an24 (.ref tc1) ct24 sl24) (c24:CI K (.ref tc1) "ridden") (k24:KI K f24)
  (r25_:Rw K "behind" qev9)
  (a26:NI K "clock_within" f26) (l26:LK K f26 "clock_within" qbq9 oc26 od26 kV26 dc26 pm26 an26 cd26 ct26 sl26) (c26:CI K cd26 "clock_within") (k26:KI K f26)
  (r27_:Rw K "clock_of" qdm9)
  (r28_:Rw K "fords_of" qdj9)
  (r29_:Rw K "staying" qdv9)
  (r30_:Rw K "copied_table" qbw9)
  (a31:NI K "grown" f31) (l31:LK K f31 "grown" qcz9 oc31 od31 kV31 dc31 pm31 an31 cd31 ct31 sl31) (c31:CI K cd31 "grown") (k31:KI K f31)
  (r32_:Rw K "ride_first" qcl9)
  (a33:NI K "rounds_to" f33) (l33:LK K f33 "rounds_to" qbh9 oc33 od33 kV33 dc33 pm33 an33 (.ref tc2) ct33 sl33) (c33:CI K (.ref tc2) "rounds_to") (k33:KI K f33)
  (a34:NI K "need_turn" f34) (l34:LK K f34 "need_turn" qca9 oc34 od34 kV34 dc34 pm34 an34 cd34 ct34 sl34) (c34:CI K cd34 "need_turn") (k34:KI K f34)
  (r35_:Rw K "guarded" qdx9)
  (r36_:Rw K "ask_first" qct9)
  (a37:NI K "guarded_rounds" f37) (l37:LK K f37 "guarded_rounds" qap9 oc37 od37 kV37 dc37 pm37 an37 (.ref tc3) ct37 sl37) (c37:CI K (.ref tc3) "guarded_rounds") (k37:KI K f37)
  (a38:NI K "level_rounds" f38) (l38:LK K f38 "level_rounds" qbl9 oc38 od38 kV38 dc38 pm38 an38 cd38 ct38 sl38) (c38:CI K cd38 "level_rounds") (k38:KI K f38)
  (a39:NI K "levels" f39) (l39:LK K f39 "levels" qef9 oc39 od39 kV39 dc39 pm39 an39 cd39 ct39 sl39) (c39:CI K cd39 "levels") (k39:KI K f39)
  (r40_:Rw K "comes_by" qew9)
  (r41_:Rw K "least_round" qdc9)
  (r42_:Rw K "ask_by" qgd9)
  (r43_:Rw K "walk" qle9)
  (r44_:Rw K "_law_cell_at" qbx9)
  (r45_:Rw K "_law_day" qdf9)
  (r46_:Rw K "_law_way" qdh9)
  (r47_:Rw K "_law_net" qdl9)
  (r48_:Rw K "_law_kinds" qco9)
  (r49_:Rw K "_law_odd" qde9)
  (r50_:Rw K "_law_bad_roads" qbp9)
  (a51:NI K "_law_made" f51) (l51:LK K f51 "_law_made" qci9 oc51 od51 kV51 dc51 pm51 an51 cd51 ct51 sl51) (c51:CI K cd51 "_law_made") (k51:KI K f51)
  (a52:NI K "_law_asked" f52) (l52:LK K f52 "_law_asked" qbz9 oc52 od52 kV52 dc52 pm52 an52 cd52 ct52 sl52) (c52:CI K cd52 "_law_asked") (k52:KI K f52)
  (r53_:Rw K "_law_due" qdd9)
  (a54:NI K "law" f54) (l54:LK K f54 "law" qhe9 oc54 od54 kV54 dc54 pm54 an54 cd54 ct54 sl54) (c54:CI K cd54 "law") (k54:KI K f54)
  (a55:W.findIn K (.ref cGate) "__init__" = some (some (.ref f55))) (i55:W.isFn K (.ref f55)=true) (l55:K.lookup f55=some ⟨oc55,od55,.func (W.fnOf "__init__" "Gate.__init__" (qah9 qau9) (qag9 qau9) (qab9 qau9) (.ref td55) kV55 dc55 pm55 an55 cd55 ct55),sl55⟩) (c55:W.codeIn K cd55 "Gate.__init__" = true) (k55:W.keepIn K (.ref f55)=true) (d55:K.lookup td55=some ⟨ocd55,odd55,.seq #[.int 1 tkd55] nd55,sld55⟩)
  (a56:W.findIn K (.ref cGate) "told" = some (some (.ref f56))) (i56:W.isFn K (.ref f56)=true) (l56:K.lookup f56=some ⟨oc56,od56,.func (W.fnOf "told" "Gate.told" (qah9 qbu9) (qag9 qbu9) (qab9 qbu9) .none kV56 dc56 pm56 an56 cd56 ct56),sl56⟩) (c56:W.codeIn K cd56 "Gate.told" = true) (k56:W.keepIn K (.ref f56)=true)
  (a57:W.findIn K (.ref cGate) "need_left" = some (some (.ref f57))) (i57:W.isFn K (.ref f57)=true) (l57:K.lookup f57=some ⟨oc57,od57,.func (W.fnOf "need_left" "Gate.need_left" (qah9 qbc9) (qag9 qbc9) (qab9 qbc9) .none kV57 dc57 pm57 an57 cd57 ct57),sl57⟩) (c57:W.codeIn K cd57 "Gate.need_left" = true) (k57:W.keepIn K (.ref f57)=true)
  (a58:W.findIn K (.ref cGate) "need_ask" = some (some (.ref f58))) (i58:W.isFn K (.ref f58)=true) (l58:K.lookup f58=some ⟨oc58,od58,.func (W.fnOf "need_ask" "Gate.need_ask" (qah9 qbf9) (qag9 qbf9) (qab9 qbf9) .none kV58 dc58 pm58 an58 cd58 ct58),sl58⟩) (c58:W.codeIn K cd58 "Gate.need_ask" = true) (k58:W.keepIn K (.ref f58)=true)
  (a59:W.findIn K (.ref cGate) "soonest" = some (some (.ref f59))) (i59:W.isFn K (.ref f59)=true) (l59:K.lookup f59=some ⟨oc59,od59,.func (W.fnOf "soonest" "Gate.soonest" (qah9 qbe9) (qag9 qbe9) (qab9 qbe9) .none kV59 dc59 pm59 an59 cd59 ct59),sl59⟩) (c59:W.codeIn K cd59 "Gate.soonest" = true) (k59:W.keepIn K (.ref f59)=true)
  (a60:W.findIn K (.ref cGate) "plan" = some (some (.ref f60))) (i60:W.isFn K (.ref f60)=true) (l60:K.lookup f60=some ⟨oc60,od60,.func (W.fnOf "plan" "Gate.plan" (qah9 qbv9) (qag9 qbv9) (qab9 qbv9) .none kV60 dc60 pm60 an60 cd60 ct60),sl60⟩) (c60:W.codeIn K cd60 "Gate.plan" = true) (k60:W.keepIn K (.ref f60)=true)
  (a61:W.findIn K (.ref cGate) "lets" = some (some (.ref f61))) (i61:W.isFn K (.ref f61)=true) (l61:K.lookup f61=some ⟨oc61,od61,.func (W.fnOf "lets" "Gate.lets" (qah9 qbt9) (qag9 qbt9) (qab9 qbt9) .none kV61 dc61 pm61 an61 cd61 ct61),sl61⟩) (c61:W.codeIn K cd61 "Gate.lets" = true) (k61:W.keepIn K (.ref f61)=true)
  (z0:W.nsIn K mainGlobals "len" = some none) (z1:W.nsIn K mainGlobals "max" = some none) (z2:W.nsIn K mainGlobals "min" = some none) (z3:W.nsIn K mainGlobals "all" = some none) (z4:W.nsIn K mainGlobals "range" = some none) (z5:W.nsIn K mainGlobals "enumerate" = some none) (z6:W.nsIn K mainGlobals "isinstance" = some none) (z7:W.nsIn K mainGlobals "bool" = some none) (z8:W.nsIn K mainGlobals "int" = some none) (z9:W.nsIn K mainGlobals "tuple" = some none) (z10:W.nsIn K mainGlobals "list" = some none) (aCGate:W.nsIn K mainGlobals "Gate" = some (some (.ref cGate))) (pgGate:W.plainGet K cGate Str.empty=true) (hdGate:W.hasDictIn K cGate=true) (poGate:W.plainOver K cGate=true) (saGate:W.findIn K (.ref cGate) "__setattr__" = some (some (.builtin "object.__setattr__"))) (mkGate:W.makesIn K cGate=true) (kcGate:W.keepIn K (.ref cGate)=true) (nfGate_levels:W.findIn K (.ref cGate) "levels" = some none) (nfGate_day:W.findIn K (.ref cGate) "day" = some none) (nfGate_size:W.findIn K (.ref cGate) "size" = some none) (nfGate_roads:W.findIn K (.ref cGate) "roads" = some none) (xa_NoBoard:W.nsIn K mainGlobals "NoBoard" = some (some (.ref cNoBoard))) (xa_NoNet:W.nsIn K mainGlobals "NoNet" = some (some (.ref cNoNet))) (xa_NoPlace:W.nsIn K mainGlobals "NoPlace" = some (some (.ref cNoPlace))) (xa_NoRoad:W.nsIn K mainGlobals "NoRoad" = some (some (.ref cNoRoad))) (xa_NoTurn:W.nsIn K mainGlobals "NoTurn" = some (some (.ref cNoTurn))) (xa_NoText:W.nsIn K mainGlobals "NoText" = some (some (.ref cNoText))) (xa_NoRow:W.nsIn K mainGlobals "NoRow" = some (some (.ref cNoRow))) (xa_NoName:W.nsIn K mainGlobals "NoName" = some (some (.ref cNoName))) (xa_NoWindow:W.nsIn K mainGlobals "NoWindow" = some (some (.ref cNoWindow))) (xa_FordError:W.nsIn K mainGlobals "FordError" = some (some (.ref cFordError))) (xz_ValueError:W.nsIn K mainGlobals "ValueError" = some none) (xw_NoNet:ExC K cNoNet bmNoNet) (xw_NoPlace:ExC K cNoPlace bmNoPlace) (xw_NoRoad:ExC K cNoRoad bmNoRoad) (xw_NoTurn:ExC K cNoTurn bmNoTurn) (xw_FordError:ExC K cFordError bmFordError) (xb_NoNet:(Value.ref cNoNet :: bmNoNet).contains (.ref cFordError)=true) (xy_NoNet:kindB K cNoNet (due67 cNoBoard cNoNet cNoPlace cNoRoad cNoTurn cNoText cNoRow cNoName cNoWindow 1)=true) (xb_NoPlace:(Value.ref cNoPlace :: bmNoPlace).contains (.ref cFordError)=true) (xy_NoPlace:kindB K cNoPlace (due67 cNoBoard cNoNet cNoPlace cNoRoad cNoTurn cNoText cNoRow cNoName cNoWindow 2)=true) (xb_NoRoad:(Value.ref cNoRoad :: bmNoRoad).contains (.ref cFordError)=true) (xy_NoRoad:kindB K cNoRoad (due67 cNoBoard cNoNet cNoPlace cNoRoad cNoTurn cNoText cNoRow cNoName cNoWindow 3)=true) (xb_NoTurn:(Value.ref cNoTurn :: bmNoTurn).contains (.ref cFordError)=true) (xy_NoTurn:kindB K cNoTurn (due67 cNoBoard cNoNet cNoPlace cNoRoad cNoTurn cNoText cNoRow cNoName cNoWindow 4)=true)
  (r0:(PyProof.Rows.recsOf q).find? (fun e=>e.name == Str.ofString "set_off")=some dr0) (t0:W.tabIn K "set_off" = some (tc0,tp0)) (n0:K.lookup tp0=none) (r1:(PyProof.Rows.recsOf q).find? (fun e=>e.name == Str.ofString "ridden")=some dr1) (t1:W.tabIn K "ridden" = some (tc1,tp1)) (n1:K.lookup tp1=none) (r2:(PyProof.Rows.recsOf q).find? (fun e=>e.name == Str.ofString "rounds_to")=some dr2) (t2:W.tabIn K "rounds_to" = some (tc2,tp2)) (n2:K.lookup tp2=none) (r3:(PyProof.Rows.recsOf q).find? (fun e=>e.name == Str.ofString "guarded_rounds")=some dr3) (t3:W.tabIn K "guarded_rounds" = some (tc3,tp3)) (n3:K.lookup tp3=none) (ne01:tp0 ≠ tp1) (ne02:tp0 ≠ tp2) (ne03:tp0 ≠ tp3) (ne12:tp1 ≠ tp2) (ne13:tp1 ≠ tp3) (ne23:tp2 ≠ tp3) :
  ∃ (fd:FuncData) (tabs:List (Addr × Addr)),(∀ (s:Shared) (v:Value),BindsTo s fd ⟨[v],[]⟩ [("script",v)])/\(∀ t∈tabs,W.CodeHd h t.1 t.2/\h.get? t.2=some (W.tabObj #[])/\K.lookup t.2=none)/\∀ base:Heap,K.In base->base.Ns mainGlobals mg->BMain mg base->(∀ t∈tabs,W.CodeHd base t.1 t.2)->FnOk l.prog w K mg base CX0 25 fa fd ["script"] (spLaw K tabs):=by
 have e:=hfa.symm.trans (W.mg_of X G.g a54)
 cases e
 have XG:=And.intro X G.g
 have ClGate:Cls K cGate:=⟨pgGate,hdGate,poGate,saGate⟩
 have mCGate:=W.mg_of X G.g aCGate
 have H0:=r0_.h1 "thing" XG fun _ _ _ _ _ _ _=>rfl
 have H1:=r1_.h2 "day" "thing" XG fun _ _ _ _ _ _ _ _=>rfl
 have H2:=r2_.h2 "day" "thing" XG fun _ _ _ _ _ _ _ _=>rfl
 have H3:=r3_.h3 "day" "window" "t" XG fun _ _ _ _ _ _ _ _ _=>rfl
 have H4:=r4_.h3 "day" "window" "t" XG fun _ _ _ _ _ _ _ _ _=>rfl
 have H5:=r5_.h2 "count" "thing" XG fun _ _ _ _ _ _ _ _=>rfl
 have H6:=r6_.h3 "day" "size" "thing" XG fun _ _ _ _ _ _ _ _ _=>rfl
 have H7:=r7_.h3 "day" "size" "roads" XG fun _ _ _ _ _ _ _ _ _=>rfl
 have F8:=qdq9 (st:=qcj9) l8 c8 k8
 have b8:=F8.binds (ps:=["day","size","roads"]) fun _ _ _ _ _ _ us hl=>by
  obtain ⟨_,_,_,rfl⟩:=bl_3 hl
  rfl
 have m8:=W.mg_of X G.g a8
 have F9:=qdq9 (st:=qbs9) l9 c9 k9
 have b9:=F9.binds (ps:=["size","thing"]) fun _ _ _ _ _ _ us hl=>by
  obtain ⟨_,_,rfl⟩:=bl_2 hl
  rfl
 have m9:=W.mg_of X G.g a9
 have H10:=r10_.h1 "roads" XG fun _ _ _ _ _ _ _=>rfl
 have F11:=qdq9 (st:=qbd9) l11 c11 k11
 have b11:=F11.binds (ps:=["clock","holds"]) fun _ _ _ _ _ _ us hl=>by
  obtain ⟨_,_,rfl⟩:=bl_2 hl
  rfl
 have m11:=W.mg_of X G.g a11
 have F12:=qdq9 (st:=qbr9) l12 c12 k12
 have b12:=F12.binds (ps:=["day","clock","t"]) fun _ _ _ _ _ _ us hl=>by
  obtain ⟨_,_,_,rfl⟩:=bl_3 hl
  rfl
 have m12:=W.mg_of X G.g a12
 have H13:=r13_.h3 "day" "clock" "t" XG fun _ _ _ _ _ _ _ _ _=>rfl
 have H14:=r14_.h1 "day" XG fun _ _ _ _ _ _ _=>rfl
 have H15:=r15_.h2 "day" "clock" XG fun _ _ _ _ _ _ _ _=>rfl
 have H16:=r16_.h1 "row" XG fun _ _ _ _ _ _ _=>rfl
 have H17:=r17_.h3 "day" "one" "other" XG fun _ _ _ _ _ _ _ _ _=>rfl
 have H18:=r18_.h4 "clock" "a" "b" "c" XG fun _ _ _ _ _ _ _ _ _ _=>rfl
 have H19:=r19_.h2 "day" "rows" XG fun _ _ _ _ _ _ _ _=>rfl
 have H20:=r20_.h5 "p" "q" "waiting" "riding" "late" XG fun _ _ _ _ _ _ _ _ _ _ _=>rfl
 have H21:=r21_.h4 "day" "one" "other" "late" XG fun _ _ _ _ _ _ _ _ _ _=>rfl
 have H22:=r22_.h3 "day" "one" "other" XG fun _ _ _ _ _ _ _ _ _=>rfl
 have H23:=r23_.h3 "day" "one" "other" XG fun _ _ _ _ _ _ _ _ _=>rfl
 have F24:=qdq9 (st:=qcc9) l24 c24 k24
 have b24:=F24.binds (ps:=["day","p","q","ride","others"]) fun _ _ _ _ _ _ us hl=>by
  obtain ⟨_,_,_,_,_,rfl⟩:=bl_5 hl
  rfl
 have m24:=W.mg_of X G.g a24
 have H25:=r25_.h3 "day" "one" "other" XG fun _ _ _ _ _ _ _ _ _=>rfl
 have F26:=qdq9 (st:=qbq9) l26 c26 k26
 have b26:=F26.binds (ps:=["day","board"]) fun _ _ _ _ _ _ us hl=>by
  obtain ⟨_,_,rfl⟩:=bl_2 hl
  rfl
 have m26:=W.mg_of X G.g a26
 have H27:=r27_.h2 "day" "board" XG fun _ _ _ _ _ _ _ _=>rfl
 have H28:=r28_.h2 "day" "roads" XG fun _ _ _ _ _ _ _ _=>rfl
 have H29:=r29_.h3 "day" "size" "place" XG fun _ _ _ _ _ _ _ _ _=>rfl
 have H30:=r30_.h1 "told" XG fun _ _ _ _ _ _ _=>rfl
 have F31:=qdq9 (st:=qcz9) l31 c31 k31
 have b31:=F31.binds (ps:=["day","size","place","step"]) fun _ _ _ _ _ _ us hl=>by
  obtain ⟨_,_,_,_,rfl⟩:=bl_4 hl
  rfl
 have m31:=W.mg_of X G.g a31
 have H32:=r32_.h3 "day" "fords" "told" XG fun _ _ _ _ _ _ _ _ _=>rfl
 have F33:=qdq9 (st:=qbh9) l33 c33 k33
 have b33:=F33.binds (ps:=["day","size","roads","goal"]) fun _ _ _ _ _ _ us hl=>by
  obtain ⟨_,_,_,_,rfl⟩:=bl_4 hl
  rfl
 have m33:=W.mg_of X G.g a33
 have F34:=qdq9 (st:=qca9) l34 c34 k34
 have b34:=F34.binds (ps:=["thing"]) fun _ _ _ _ _ _ us hl=>by
  obtain ⟨_,rfl⟩:=bl_1 hl
  rfl
 have m34:=W.mg_of X G.g a34
 have H35:=r35_.h3 "day" "roads" "guard" XG fun _ _ _ _ _ _ _ _ _=>rfl
 have H36:=r36_.h3 "day" "asks" "told" XG fun _ _ _ _ _ _ _ _ _=>rfl
 have F37:=qdq9 (st:=qap9) l37 c37 k37
 have b37:=F37.binds (ps:=["day","size","roads","goal","guard"]) fun _ _ _ _ _ _ us hl=>by
  obtain ⟨_,_,_,_,_,rfl⟩:=bl_5 hl
  rfl
 have m37:=W.mg_of X G.g a37
 have F38:=qdq9 (st:=qbl9) l38 c38 k38
 have b38:=F38.binds (ps:=["day","size","roads","goal","most"]) fun _ _ _ _ _ _ us hl=>by
  obtain ⟨_,_,_,_,_,rfl⟩:=bl_5 hl
  rfl
 have m38:=W.mg_of X G.g a38
 have F39:=qdq9 (st:=qef9) l39 c39 k39
 have b39:=F39.binds (ps:=["day","size","roads","goal","most"]) fun _ _ _ _ _ _ us hl=>by
  obtain ⟨_,_,_,_,_,rfl⟩:=bl_5 hl
  rfl
 have m39:=W.mg_of X G.g a39
 have H40:=r40_.h4 "day" "clock" "t" "s" XG fun _ _ _ _ _ _ _ _ _ _=>rfl
 have H41:=r41_.h5 "day" "tables" "place" "t" "s" XG fun _ _ _ _ _ _ _ _ _ _ _=>rfl
 have H42:=r42_.h7 "day" "roads" "told" "guard" "place" "t" "s" XG fun _ _ _ _ _ _ _ _ _ _ _ _ _=>rfl
 have H43:=r43_.h6 "day" "roads" "tables" "guard" "place" "t" XG fun _ _ _ _ _ _ _ _ _ _ _ _=>rfl
 have H44:=r44_.h2 "script" "k" XG fun _ _ _ _ _ _ _ _=>rfl
 have H45:=r45_.h1 "cell" XG fun _ _ _ _ _ _ _=>rfl
 have H46:=r46_.h2 "day" "cell" XG fun _ _ _ _ _ _ _ _=>rfl
 have H47:=r47_.h2 "script" "start" XG fun _ _ _ _ _ _ _ _=>rfl
 have H48:=r48_.h1 "e" XG fun _ _ _ _ _ _ _=>rfl
 have H49:=r49_.h2 "cell" "many" XG fun _ _ _ _ _ _ _ _=>rfl
 have H50:=r50_.h4 "day" "size" "roads" "cell" XG fun _ _ _ _ _ _ _ _ _ _=>rfl
 have F51:=qdq9 (st:=qci9) l51 c51 k51
 have b51:=F51.binds (ps:=["net","most","way","cell"]) fun _ _ _ _ _ _ us hl=>by
  obtain ⟨_,_,_,_,rfl⟩:=bl_4 hl
  rfl
 have m51:=W.mg_of X G.g a51
 have F52:=qdq9 (st:=qbz9) l52 c52 k52
 have b52:=F52.binds (ps:=["gate","net","most","way","cell"]) fun _ _ _ _ _ _ us hl=>by
  obtain ⟨_,_,_,_,_,rfl⟩:=bl_5 hl
  rfl
 have m52:=W.mg_of X G.g a52
 have H53:=r53_.h2 "way" "rows" XG fun _ _ _ _ _ _ _ _=>rfl
 have F54:=qdq9 (st:=qhe9) l54 c54 k54
 have b54:=F54.binds (ps:=["script"]) fun _ _ _ _ _ _ us hl=>by
  obtain ⟨_,rfl⟩:=bl_1 hl
  rfl
 have m54:=W.mg_of X G.g a54
 have F55:FunD K "__init__" "Gate.__init__" qau9 f55 _:=⟨⟨oc55,od55,.ref td55,kV55,dc55,pm55,an55,cd55,ct55,sl55,rfl,l55,c55⟩⟩
 have b55:Binds K (W.fnOf "__init__" "Gate.__init__" (qah9 qau9) (qag9 qau9) (qab9 qau9) (.ref td55) kV55 dc55 pm55 an55 cd55 ct55) ["self","day","size","roads","goal","most"] []:=fun s us KX hl=>by
  rw [List.append_nil] at hl ⊢
  obtain ⟨_,_,_,_,_,_,rfl⟩:=bl_6 hl
  exact W.binds_K KX rfl d55 rfl rfl rfl
 have F56:=qdq9 (st:=qbu9) l56 c56 k56
 have b56:=F56.binds (ps:=["self","place","t","left"]) fun _ _ _ _ _ _ us hl=>by
  obtain ⟨_,_,_,_,rfl⟩:=bl_4 hl
  rfl
 have me56:Meth K cGate "told" f56:=⟨a56,i56,k56⟩
 have F57:=qdq9 (st:=qbc9) l57 c57 k57
 have b57:=F57.binds (ps:=["self","left"]) fun _ _ _ _ _ _ us hl=>by
  obtain ⟨_,_,rfl⟩:=bl_2 hl
  rfl
 have me57:Meth K cGate "need_left" f57:=⟨a57,i57,k57⟩
 have F58:=qdq9 (st:=qbf9) l58 c58 k58
 have b58:=F58.binds (ps:=["self","road","window","x"]) fun _ _ _ _ _ _ us hl=>by
  obtain ⟨_,_,_,_,rfl⟩:=bl_4 hl
  rfl
 have me58:Meth K cGate "need_ask" f58:=⟨a58,i58,k58⟩
 have F59:=qdq9 (st:=qbe9) l59 c59 k59
 have b59:=F59.binds (ps:=["self","place","t","left"]) fun _ _ _ _ _ _ us hl=>by
  obtain ⟨_,_,_,_,rfl⟩:=bl_4 hl
  rfl
 have me59:Meth K cGate "soonest" f59:=⟨a59,i59,k59⟩
 have F60:=qdq9 (st:=qbv9) l60 c60 k60
 have b60:=F60.binds (ps:=["self","place","t","left"]) fun _ _ _ _ _ _ us hl=>by
  obtain ⟨_,_,_,_,rfl⟩:=bl_4 hl
  rfl
 have me60:Meth K cGate "plan" f60:=⟨a60,i60,k60⟩
 have F61:=qdq9 (st:=qbt9) l61 c61 k61
 have b61:=F61.binds (ps:=["self","road","window","x","left"]) fun _ _ _ _ _ _ us hl=>by
  obtain ⟨_,_,_,_,_,rfl⟩:=bl_5 hl
  rfl
 have me61:Meth K cGate "lets" f61:=⟨a61,i61,k61⟩
 obtain ⟨hd0,ho0⟩:=W.tab_of G X r0 t0
 obtain ⟨hd1,ho1⟩:=W.tab_of G X r1 t1
 obtain ⟨hd2,ho2⟩:=W.tab_of G X r2 t2
 obtain ⟨hd3,ho3⟩:=W.tab_of G X r3 t3
 have B:Bl mg:=⟨W.mg_none_of X G.g z0,W.mg_none_of X G.g z1,W.mg_none_of X G.g z2,W.mg_none_of X G.g z3,W.mg_none_of X G.g z4,W.mg_none_of X G.g z5,W.mg_none_of X G.g z6,W.mg_none_of X G.g z7,W.mg_none_of X G.g z8,W.mg_none_of X G.g z9,W.mg_none_of X G.g z10⟩
 refine ⟨W.fnOf "law" "law" (qah9 qhe9) (qag9 qhe9) (qab9 qhe9) .none kV54 dc54 pm54 an54 cd54 ct54,[(tc0,tp0),(tc1,tp1),(tc2,tp2),(tc3,tp3)],fun s v=>.of_eq rfl,fun t ht=>?_,fun base _ _ hB hT=>?_⟩
 ·simp only [List.mem_cons,List.not_mem_nil,or_false] at ht
  rcases ht with rfl | rfl | rfl | rfl
  ·exact ⟨hd0,ho0,n0⟩
  ·exact ⟨hd1,ho1,n1⟩
  ·exact ⟨hd2,ho2,n2⟩
  ·exact ⟨hd3,ho3,n3⟩
 have T0:=hT (tc0,tp0) (by simp)
 have T1:=hT (tc1,tp1) (by simp)
 have T2:=hT (tc2,tp2) (by simp)
 have T3:=hT (tc3,tp3) (by simp)
 have cal:=@Has.cal l.prog w base
 have Cc0:=cal H0 fun F=>qmx9 (n:=0) F B
 have Cw0:=cal H1 fun F=>qke9 (n:=1) F B Cc0
 have Cn0:=cal H2 fun F=>qmk9 (n:=2) F B Cw0
 have Cx0:=cal H4 fun F=>ok_next (n:=1) F B
 have Ci1:=Callee.mk' (P:=l.prog) (w:=w) (base:=base) (qop9 l12 c12 B T0 hB F11 b11 m11 Cx0) b12 k12 m12
 have Cj1:=cal H13 fun F=>ok_come (n:=3) F Ci1
 have Cg0:=cal H15 fun F=>qjs9 (n:=3) F B
 have Cr0:=cal H16 fun F=>qiz9 (n:=3) F
 have Ch1:=cal H17 fun F=>qpe9 (n:=4) F B Cg0
 have Cs0:=cal H18 fun F=>ok_put (n:=3) F B
 have Cj0:=cal H19 fun F=>qjl9 (n:=4) F B Cr0 Cs0
 have Cc1:=cal H20 fun F=>ok_picked (n:=4) F B
 have Ct0:=cal H21 fun F=>ok_joined (n:=5) F B Ch1 Cc1 Cj0
 have Ch0:=cal H22 fun F=>ok_sooner (n:=6) F B Ct0
 have Cd0:=Callee.mk' (P:=l.prog) (w:=w) (base:=base) (qlr9 F26 B b26 k26 m26 Ch0 10) b26 k26 m26
 have Cd1:=cal H27 fun F=>qmp9 (n:=18) F (Cn0.up (by decide)) Cd0
 have Cb0:=cal H5 fun F=>qkl9 (n:=1) F Cc0
 have Ck1:=cal H6 fun F=>qnm9 (n:=3) F B (Cb0.up (by decide)) Cn0
 have Cp0:=cal H7 fun F=>ok_is_net (n:=4) F B (Cc0.up (by decide)) Ck1
 have Cn1:=Callee.mk' (P:=l.prog) (w:=w) (base:=base) (ok_ridden l24 c24 B T1 hB F11 b11 m11) b24 k24 m24
 have TBx:TB fun H=>TabOk H tp0 ⟨77,32,77,64⟩ (lamQ "set_off")/\TabOk H tp1 ⟨163,28,163,54⟩ (lamQ "ridden")/\TabOk H tp2 ⟨219,34,219,75⟩ (lamQ "rounds_to")/\TabOk H tp3 ⟨238,34,238,73⟩ (lamQ "guarded_rounds"):=(tb_one _ _ _).and ((tb_one _ _ _).and ((tb_one _ _ _).and (tb_one _ _ _)))
 have CT:=come_T (T:=fun H=>TabOk H tp0 ⟨77,32,77,64⟩ (lamQ "set_off")/\TabOk H tp1 ⟨163,28,163,54⟩ (lamQ "ridden")/\TabOk H tp2 ⟨219,34,219,75⟩ (lamQ "rounds_to")/\TabOk H tp3 ⟨238,34,238,73⟩ (lamQ "guarded_rounds")) Cj1 (fun _ t=>t.1) (fun _ _ t s t'=>⟨t',qcg9 t.2.1 t.1 s ne01.symm,qcg9 t.2.2.1 t.1 s ne02.symm,qcg9 t.2.2.2 t.1 s ne03.symm⟩)
 have CR:=ridden_T (T:=fun H=>TabOk H tp0 ⟨77,32,77,64⟩ (lamQ "set_off")/\TabOk H tp1 ⟨163,28,163,54⟩ (lamQ "ridden")/\TabOk H tp2 ⟨219,34,219,75⟩ (lamQ "rounds_to")/\TabOk H tp3 ⟨238,34,238,73⟩ (lamQ "guarded_rounds")) Cn1 (fun _ t=>t.2.1) (fun _ _ t s t'=>⟨qcg9 t.1 t.2.1 s ne01,t',qcg9 t.2.2.1 t.2.1 s ne12.symm,qcg9 t.2.2.2 t.2.1 s ne13.symm⟩)
 have Cl0:=cal H25 fun F=>ok_behind (n:=5) TBx F B (Cg0.up (by decide)) (CT.up (by decide)) (CR.up (by decide)) Cj0
 have Cg1:=Callee.mk' (P:=l.prog) (w:=w) (base:=base) (qhn9 (n:=5) F8 Cp0) b8 k8 m8
 have Ck0:=Callee.mk' (P:=l.prog) (w:=w) (base:=base) (qfz9 (n:=2) F9 Cb0) b9 k9 m9
 have Ce1:=cal H14 fun F=>ok_stand (n:=0) F
 have Cf1:=cal H28 fun F=>qmm9 (n:=19) F Cd1
 have Ce0:=cal H29 fun F=>qqg9 (n:=1) F B Ce1
 have Ca0:=cal H30 fun F=>ok_copied (n:=0) F B
 have Cm0:=cal H32 fun F=>qjk9 (n:=7) TBx F (Ca0.up (by decide)) Ch0 (Cl0.up (by decide))
 have Cz0:=Callee.mk' (P:=l.prog) (w:=w) (base:=base) (qjt9 (n:=18) l33 c33 B T2 hB F31 b31 m31 TBx (fun _ t=>t.2.2.1) (fun _ _ t s t'=>⟨qcg9 t.1 t.2.2.1 s ne02,qcg9 t.2.1 t.2.2.1 s ne12,t',qcg9 t.2.2.2 t.2.2.1 s ne23.symm⟩) Cf1 (Ce0.up (by decide)) (Ca0.up (by decide)) (Cm0.up (by decide))) b33 k33 m33
 have Cs1:=cal H23 fun F=>ok_later (n:=6) F B Ct0
 have Cl1:=cal H35 fun F=>qoc9 (n:=7) TBx F (Cl0.up (by decide))
 have Co0:=cal H36 fun F=>qkv9 (n:=7) TBx F (Ca0.up (by decide)) Ch0 Cs1 (Cl0.up (by decide))
 have Cq0:=Callee.mk' (P:=l.prog) (w:=w) (base:=base) (qnn9 (n:=18) l37 c37 B T3 hB F31 b31 m31 TBx (fun _ t=>t.2.2.2) (fun _ _ t s t'=>⟨qcg9 t.1 t.2.2.2 s ne03,qcg9 t.2.1 t.2.2.2 s ne13,qcg9 t.2.2.1 t.2.2.2 s ne23,t'⟩) (Cl1.up (by decide)) (Ce0.up (by decide)) (Ca0.up (by decide)) (Co0.up (by decide))) b37 k37 m37
 have Cy0:=Callee.mk' (P:=l.prog) (w:=w) (base:=base) (qkt9 (n:=1) F34 Cc0) b34 k34 m34
 have Cu0:=Callee.mk' (P:=l.prog) (w:=w) (base:=base) (qok9 (n:=21) TBx F38 B (Cg1.up (by decide)) (Ck0.up (by decide)) (Cy0.up (by decide)) Cz0 Cq0) b38 k38 m38
 have Cb1:=cal H44 fun F=>ok_cell (n:=17) F B
 have Cw1:=cal H45 fun F=>ok_day (n:=18) F
 have Cx1:=cal H46 fun F=>ok_way (n:=17) F
 have Cy1:=cal H47 fun F=>ok_netG (n:=19) F B (Cb1.up (by decide)) Cw1 (Cx1.up (by decide))
 have GX:GTxt K cGate:=⟨ClGate,nfGate_levels,nfGate_day,nfGate_size,nfGate_roads⟩
 have TIx:TBI (fun H=>TabOk H tp0 ⟨77,32,77,64⟩ (lamQ "set_off")/\TabOk H tp1 ⟨163,28,163,54⟩ (lamQ "ridden")/\TabOk H tp2 ⟨219,34,219,75⟩ (lamQ "rounds_to")/\TabOk H tp3 ⟨238,34,238,73⟩ (lamQ "guarded_rounds")):=(qlp9 _ _ _).and ((qlp9 _ _ _).and ((qlp9 _ _ _).and (qlp9 _ _ _)))
 have Co1:=cal H10 fun F=>qne9 (n:=5) F B
 have Ct1:MCal l.prog w K mg base 6 cGate "told" ["self","place","t","left"] (qmr9 (fun H=>TabOk H tp0 ⟨77,32,77,64⟩ (lamQ "set_off")/\TabOk H tp1 ⟨163,28,163,54⟩ (lamQ "ridden")/\TabOk H tp2 ⟨219,34,219,75⟩ (lamQ "rounds_to")/\TabOk H tp3 ⟨238,34,238,73⟩ (lamQ "guarded_rounds")) cGate):=⟨⟨_,_,ok_told (n:=5) GX F56 (CT.up (by decide)),b56,me56⟩,ClGate⟩
 have Ca1:MCal l.prog w K mg base 4 cGate "need_left" ["self","left"] (spLeft cGate):=⟨⟨_,_,qkc9 (n:=3) GX F57 B (Cb0.up (by decide)),b57,me57⟩,ClGate⟩
 have Cv0:MCal l.prog w K mg base 7 cGate "soonest" ["self","place","t","left"] (qmr9 (fun H=>TabOk H tp0 ⟨77,32,77,64⟩ (lamQ "set_off")/\TabOk H tp1 ⟨163,28,163,54⟩ (lamQ "ridden")/\TabOk H tp2 ⟨219,34,219,75⟩ (lamQ "rounds_to")/\TabOk H tp3 ⟨238,34,238,73⟩ (lamQ "guarded_rounds")) cGate):=⟨⟨_,_,qoy9 (n:=6) GX F59 (Ck0.up (by decide)) (Ca1.up (by decide)) Ct1,b59,me59⟩,ClGate⟩
 have K_Gate:KCal l.prog w K mg base 23 "Gate" cGate ["self","day","size","roads","goal","most"] (spInit (fun H=>TabOk H tp0 ⟨77,32,77,64⟩ (lamQ "set_off")/\TabOk H tp1 ⟨163,28,163,54⟩ (lamQ "ridden")/\TabOk H tp2 ⟨219,34,219,75⟩ (lamQ "rounds_to")/\TabOk H tp3 ⟨238,34,238,73⟩ (lamQ "guarded_rounds")) cGate):=⟨⟨_,_,⟨mkGate,a55,i55,kcGate⟩,ok_init (n:=22) GX TBx TIx F55 Cu0 (Co1.up (by decide)),b55⟩,mCGate⟩
 have X_NoNet:XCl K mg "NoNet" cNoNet bmNoNet:=⟨xw_NoNet,W.mg_of X G.g xa_NoNet⟩
 have X_NoPlace:XCl K mg "NoPlace" cNoPlace bmNoPlace:=⟨xw_NoPlace,W.mg_of X G.g xa_NoPlace⟩
 have X_NoRoad:XCl K mg "NoRoad" cNoRoad bmNoRoad:=⟨xw_NoRoad,W.mg_of X G.g xa_NoRoad⟩
 have X_NoTurn:XCl K mg "NoTurn" cNoTurn bmNoTurn:=⟨xw_NoTurn,W.mg_of X G.g xa_NoTurn⟩
 have X_FordError:XCl K mg "FordError" cFordError bmFordError:=⟨xw_FordError,W.mg_of X G.g xa_FordError⟩
 have ms:Mgs mg cNoBoard cNoNet cNoPlace cNoRoad cNoTurn cNoText cNoRow cNoName cNoWindow:=⟨W.mg_none_of X G.g xz_ValueError,W.mg_of X G.g xa_NoBoard,W.mg_of X G.g xa_NoNet,W.mg_of X G.g xa_NoPlace,W.mg_of X G.g xa_NoRoad,W.mg_of X G.g xa_NoTurn,W.mg_of X G.g xa_NoText,W.mg_of X G.g xa_NoRow,W.mg_of X G.g xa_NoName,W.mg_of X G.g xa_NoWindow⟩
 have CX_need_net:=CalleeX.mk' (P:=l.prog) (w:=w) (base:=base) ((qhn9 (n:=5) F8 Cp0).toX.or (qkg9 (n:=5) X_NoNet F8 Cp0)) b8 k8 m8
 have CX_need_place:=CalleeX.mk' (P:=l.prog) (w:=w) (base:=base) ((qfz9 (n:=2) F9 Cb0).toX.or (qim9 (n:=2) X_NoPlace F9 Cb0)) b9 k9 m9
 have CX_need_turn:=CalleeX.mk' (P:=l.prog) (w:=w) (base:=base) (qiv9 (n:=1) X_NoTurn F34 Cc0) b34 k34 m34
 have CX_level_rounds:=CalleeX.mk' (P:=l.prog) (w:=w) (base:=base) (qnf9 (n:=6) F38 CX_need_net (CX_need_place.up (by decide)) (CX_need_turn.up (by decide))) b38 k38 m38
 have CX_levels:=CalleeX.mk' (P:=l.prog) (w:=w) (base:=base) (qpu9 (n:=7) F39 CX_level_rounds) b39 k39 m39
 have Cr1:=cal H49 fun F=>ok_odd (n:=0) F
 have Cp1:=cal H50 fun F=>ok_badR (n:=0) F B
 have Cm1:=cal H3 fun F=>ok_openB (n:=1) F
 have MX_need_left:MCalX l.prog w K mg base 3 cGate "need_left" ["self","left"] (qjg9 cGate cNoTurn):=⟨⟨_,_,qiu9 (n:=2) X_NoTurn GX F57 B Cb0,b57,me57⟩,ClGate⟩
 have MX_soonest:MCalX l.prog w K mg base 4 cGate "soonest" ["self","place","t","left"] (qht9 cGate cNoPlace cNoTurn):=⟨⟨_,_,qmo9 (n:=3) GX F59 CX_need_place MX_need_left,b59,me59⟩,ClGate⟩
 have MX_plan:MCalX l.prog w K mg base 4 cGate "plan" ["self","place","t","left"] (qht9 cGate cNoPlace cNoTurn):=⟨⟨_,_,ok_planX (n:=3) GX F60 CX_need_place MX_need_left,b60,me60⟩,ClGate⟩
 have MX_need_ask:MCalX l.prog w K mg base 3 cGate "need_ask" ["self","road","window","x"] (spAskX cGate cNoRoad):=⟨⟨_,_,qju9 (n:=2) X_NoRoad GX F58 B Cb0 Cm1,b58,me58⟩,ClGate⟩
 have MX_lets:MCalX l.prog w K mg base 4 cGate "lets" ["self","road","window","x","left"] (qnu9 cGate cNoRoad cNoTurn):=⟨⟨_,_,ok_letsX (n:=3) F61 MX_need_ask MX_need_left,b61,me61⟩,ClGate⟩
 have KX_Gate:KCalX l.prog w K mg base 8 "Gate" cGate ["self","day","size","roads","goal","most"] (qqe9 cNoNet cNoPlace cNoTurn):=⟨⟨_,_,⟨mkGate,a55,i55,kcGate⟩,ok_initX (n:=7) F55 CX_level_rounds,b55⟩,mCGate⟩
 have CX__law_made:=CalleeX.mk' (P:=l.prog) (w:=w) (base:=base) (ok_made (n:=8) F51 (Cp1.up (by decide)) (Cr1.up (by decide)) (CX_levels.up (by decide)) KX_Gate) b51 k51 m51
 have CX__law_asked:=CalleeX.mk' (P:=l.prog) (w:=w) (base:=base) (ok_asked (n:=4) F52 B (Cr1.up (by decide)) MX_soonest MX_plan MX_lets) b52 k52 m52
 have Cz1:=cal H53 fun F=>ok_due (n:=0) F
 have Cu1:=cal H48 fun F=>ok_kinds (n:=0) ms F B
 exact ok_law (n:=23) TBx (fun H h=>⟨qma9 (h (tc0,tp0) (by simp)),qma9 (h (tc1,tp1) (by simp)),qma9 (h (tc2,tp2) (by simp)),qma9 (h (tc3,tp3) (by simp))⟩) X_FordError ⟨_,xw_NoNet,xb_NoNet,kd_of xy_NoNet⟩ ⟨_,xw_NoPlace,xb_NoPlace,kd_of xy_NoPlace⟩ ⟨_,xw_NoRoad,xb_NoRoad,kd_of xy_NoRoad⟩ ⟨_,xw_NoTurn,xb_NoTurn,kd_of xy_NoTurn⟩ F54 B (Cb1.up (by decide)) (Cy1.up (by decide)) K_Gate (Cv0.up (by decide)) (CX__law_made.up (by decide)) (CX__law_asked.up (by decide)) (Cz1.up (by decide)) (Cu1.up (by decide))
theorem walk {l:W.OpenLaw} {q:Program} {loose:List Str} {XP:(Str->Option Value)->Heap->Prop} {YP:World->Heap->Prop} {d:DefRec} {K:Params->W.Frag} (hn:l.most=some 63) (hdf:d.params.defaults=[])
  (hY:∀ (w:World) (h:Heap),YP w h->(K w.params).In h)
  (F:∀ (w:World) (mg mb:Str->Option Value) (mean:ExcName->Option Value) (fa:Addr) (h:Heap),(K w.params).In h->PyProof.Rows.Top q (W.looseW q loose) mean mg mb h->mg d.name=some (.ref fa) ->
   ∃ (fd:FuncData) (tabs:List (Addr × Addr)),(∀ (s:Shared) (u:Value),BindsTo s fd ⟨[u],[]⟩ [("script",u)])/\(∀ t∈tabs,W.CodeHd h t.1 t.2/\h.get? t.2=some (W.tabObj #[])/\(K w.params).lookup t.2=none) /\
    ∀ base:Heap,(K w.params).In base->base.Ns mainGlobals mg->BMain mg base->(∀ t∈tabs,W.CodeHd base t.1 t.2)->FnOk l.prog w (K w.params) mg base CX0 25 fa fd ["script"] (spLaw (K w.params) tabs)) :
  W.WalkO q loose XP YP l.row.toRowW d [] (fun f vs=>PySem.call f vs) :=
 L2.walk_ofT (n:=63) (k:=25) (x := "script") (sp:=spLaw) hn (by decide) hdf ⟨rfl,by decide,by decide⟩ hY F (fun K tabs H a ns hl hT hS=>⟨a,ns,rfl,hS,hl,hT,fun _=>rfl⟩)
end My
open PySem PySem.W PyProof.Rows
set_option maxRecDepth 100000 in
set_option maxHeartbeats 0 in
theorem PySem.Challenge.cw_fordbook_k67_gates_refuse_holds : PySem.Challenge.rw_fordbook_k67_gates_refuse.Holds := by
 w_on
 refine W.holds_law My.k_ws fun said=>?_
 refine W.holds_open (q:=My.view) (loose:=[]) (Xt:=(fun s=>W.xlAt My.view [] s && W.recOk (W.RowW.records (W.OpenRow.toRowW PySem.Challenge.rw_fordbook_k67_gates_refuse.row)) s)) (XP:=W.XL My.view []) (Yf:=W.Hook.obs (W.kmHook My.KK My.kAs My.k_as [378,293,211,350])) (Ya:=W.Hook.val (W.kmHook My.KK My.kAs My.k_as [378,293,211,350])) (YP:=W.Hook.says (W.kmHook My.KK My.kAs My.k_as [378,293,211,350])) (N:=9018) My.k_left (W.Hook.of (W.kmHook My.KK My.kAs My.k_as [378,293,211,350])) (W.Hook.keeps (W.kmHook My.KK My.kAs My.k_as [378,293,211,350]))
  (fun s e=>W.xl_of s (Bool.and_eq_true_iff.mp e).1) W.XL.keeps (by rfl) (by rfl) (by rfl) (fun s e=>W.recFacts_of (Bool.and_eq_true_iff.mp e).2) (by rfl) (by assumption) (by decide +kernel) ⟨rfl,rfl,rfl,rfl,rfl,by decide +kernel⟩ ?hw ?hc
 case hw=>w_witness2
 k_fill
 refine My.walk (l:=PySem.Challenge.rw_fordbook_k67_gates_refuse) rfl rfl (fun w h Y=>W.km_in_of Y) ?F
 case F =>
  intro w mg mb mean fa h KX G hmg
  refine' My.all_mk KX G hmg ?r0_ ?r1_ ?r2_ ?r3_ ?r4_ ?r5_ ?r6_ ?r7_ ?a8 ?l8 ?c8 ?k8 ?a9 ?l9 ?c9 ?k9 ?r10_ ?a11 ?l11 ?c11 ?k11 ?a12 ?l12 ?c12 ?k12 ?r13_ ?r14_ ?r15_ ?r16_ ?r17_ ?r18_ ?r19_ ?r20_ ?r21_ ?r22_ ?r23_ ?a24 ?l24 ?c24 ?k24 ?r25_ ?a26 ?l26 ?c26 ?k26 ?r27_ ?r28_ ?r29_ ?r30_ ?a31 ?l31 ?c31 ?k31 ?r32_ ?a33 ?l33 ?c33 ?k33 ?a34 ?l34 ?c34 ?k34 ?r35_ ?r36_ ?a37 ?l37 ?c37 ?k37 ?a38 ?l38 ?c38 ?k38 ?a39 ?l39 ?c39 ?k39 ?r40_ ?r41_ ?r42_ ?r43_ ?r44_ ?r45_ ?r46_ ?r47_ ?r48_ ?r49_ ?r50_ ?a51 ?l51 ?c51 ?k51 ?a52 ?l52 ?c52 ?k52 ?r53_ ?a54 ?l54 ?c54 ?k54 ?a55 ?i55 ?l55 ?c55 ?k55 ?d55 ?a56 ?i56 ?l56 ?c56 ?k56 ?a57 ?i57 ?l57 ?c57 ?k57 ?a58 ?i58 ?l58 ?c58 ?k58 ?a59 ?i59 ?l59 ?c59 ?k59 ?a60 ?i60 ?l60 ?c60 ?k60 ?a61 ?i61 ?l61 ?c61 ?k61 ?z0 ?z1 ?z2 ?z3 ?z4 ?z5 ?z6 ?z7 ?z8 ?z9 ?z10 ?aCGate ?pgGate ?hdGate ?poGate ?saGate ?mkGate ?kcGate ?nfGate_levels ?nfGate_day ?nfGate_size ?nfGate_roads ?xa_NoBoard ?xa_NoNet ?xa_NoPlace ?xa_NoRoad ?xa_NoTurn ?xa_NoText ?xa_NoRow ?xa_NoName ?xa_NoWindow ?xa_FordError ?xz_ValueError ?xw_NoNet ?xw_NoPlace ?xw_NoRoad ?xw_NoTurn ?xw_FordError ?xb_NoNet ?xy_NoNet ?xb_NoPlace ?xy_NoPlace ?xb_NoRoad ?xy_NoRoad ?xb_NoTurn ?xy_NoTurn ?r0 ?t0 ?n0 ?r1 ?t1 ?n1 ?r2 ?t2 ?n2 ?r3 ?t3 ?n3 ?ne01 ?ne02 ?ne03 ?ne12 ?ne13 ?ne23
  (case aCGate=>k_is)
  (case r0_ | r1_ | r2_ | r3_ | r4_ | r5_ | r6_ | r7_=>(refine' My.Rw.mk ?a ?b ?c ?d; (case a=>k_is); (case b=>k_is); (case c=>k_is); (case d=>k_is)))
  (case a8 | l8 | c8 | k8 | a9 | l9 | c9 | k9=>(try unfold My.NI); (try unfold My.LK); (try unfold My.CI); (try unfold My.KI); k_is)
  (case r10_=>(refine' My.Rw.mk ?a ?b ?c ?d; (case a=>k_is); (case b=>k_is); (case c=>k_is); (case d=>k_is)))
  (case a11 | l11 | c11 | k11 | a12 | l12 | c12 | k12=>(try unfold My.NI); (try unfold My.LK); (try unfold My.CI); (try unfold My.KI); k_is)
  (case r13_ | r14_ | r15_ | r16_ | r17_ | r18_ | r19_ | r20_ | r21_ | r22_ | r23_=>(refine' My.Rw.mk ?a ?b ?c ?d; (case a=>k_is); (case b=>k_is); (case c=>k_is); (case d=>k_is)))
  (case a24 | l24 | c24 | k24=>(try unfold My.NI); (try unfold My.LK); (try unfold My.CI); (try unfold My.KI); k_is)
  (case r25_=>(refine' My.Rw.mk ?a ?b ?c ?d; (case a=>k_is); (case b=>k_is); (case c=>k_is); (case d=>k_is)))
  (case a26 | l26 | c26 | k26=>(try unfold My.NI); (try unfold My.LK); (try unfold My.CI); (try unfold My.KI); k_is)
  (case r27_ | r28_ | r29_ | r30_=>(refine' My.Rw.mk ?a ?b ?c ?d; (case a=>k_is); (case b=>k_is); (case c=>k_is); (case d=>k_is)))
  (case a31 | l31 | c31 | k31=>(try unfold My.NI); (try unfold My.LK); (try unfold My.CI); (try unfold My.KI); k_is)
  (case r32_=>(refine' My.Rw.mk ?a ?b ?c ?d; (case a=>k_is); (case b=>k_is); (case c=>k_is); (case d=>k_is)))
  (case a33 | l33 | c33 | k33 | a34 | l34 | c34 | k34=>(try unfold My.NI); (try unfold My.LK); (try unfold My.CI); (try unfold My.KI); k_is)
  (case r35_ | r36_=>(refine' My.Rw.mk ?a ?b ?c ?d; (case a=>k_is); (case b=>k_is); (case c=>k_is); (case d=>k_is)))
  (case a37 | l37 | c37 | k37 | a38 | l38 | c38 | k38 | a39 | l39 | c39 | k39=>(try unfold My.NI); (try unfold My.LK); (try unfold My.CI); (try unfold My.KI); k_is)
  (case r40_ | r41_ | r42_ | r43_ | r44_ | r45_ | r46_ | r47_ | r48_ | r49_ | r50_=>(refine' My.Rw.mk ?a ?b ?c ?d; (case a=>k_is); (case b=>k_is); (case c=>k_is); (case d=>k_is)))
  (case a51 | l51 | c51 | k51 | a52 | l52 | c52 | k52=>(try unfold My.NI); (try unfold My.LK); (try unfold My.CI); (try unfold My.KI); k_is)
  (case r53_=>(refine' My.Rw.mk ?a ?b ?c ?d; (case a=>k_is); (case b=>k_is); (case c=>k_is); (case d=>k_is)))
  (case a54 | l54 | c54 | k54 | a55=>(try unfold My.NI); (try unfold My.LK); (try unfold My.CI); (try unfold My.KI); k_is)
  (case i55=>k_is)
  (case l55 | c55 | k55=>(try unfold My.NI); (try unfold My.LK); (try unfold My.CI); (try unfold My.KI); k_is)
  (case d55=>k_is)
  (case a56=>(try unfold My.NI); (try unfold My.LK); (try unfold My.CI); (try unfold My.KI); k_is)
  (case i56=>k_is)
  (case l56 | c56 | k56 | a57=>(try unfold My.NI); (try unfold My.LK); (try unfold My.CI); (try unfold My.KI); k_is)
  (case i57=>k_is)
  (case l57 | c57 | k57 | a58=>(try unfold My.NI); (try unfold My.LK); (try unfold My.CI); (try unfold My.KI); k_is)
  (case i58=>k_is)
  (case l58 | c58 | k58 | a59=>(try unfold My.NI); (try unfold My.LK); (try unfold My.CI); (try unfold My.KI); k_is)
  (case i59=>k_is)
  (case l59 | c59 | k59 | a60=>(try unfold My.NI); (try unfold My.LK); (try unfold My.CI); (try unfold My.KI); k_is)
  (case i60=>k_is)
  (case l60 | c60 | k60 | a61=>(try unfold My.NI); (try unfold My.LK); (try unfold My.CI); (try unfold My.KI); k_is)
  (case i61=>k_is)
  (case l61 | c61 | k61=>(try unfold My.NI); (try unfold My.LK); (try unfold My.CI); (try unfold My.KI); k_is)
  (case z0 | z1 | z2 | z3 | z4 | z5 | z6 | z7 | z8 | z9 | z10 | pgGate | hdGate | poGate | saGate | mkGate | kcGate | nfGate_levels | nfGate_day | nfGate_size | nfGate_roads | xa_NoBoard | xa_NoNet | xa_NoPlace | xa_NoRoad | xa_NoTurn | xa_NoText | xa_NoRow | xa_NoName | xa_NoWindow | xa_FordError | xz_ValueError=>k_is)
  (case xw_NoNet | xw_NoPlace | xw_NoRoad | xw_NoTurn | xw_FordError=>(refine' L2.exc_of ?a ?b ?c; (case a=>k_is); (case b=>k_exc); (case c=>first | rfl | decide +kernel)))
  (case xb_NoNet=>first | rfl | decide +kernel)
  (case xy_NoNet=>kernel_rfl)
  (case xb_NoPlace=>first | rfl | decide +kernel)
  (case xy_NoPlace=>kernel_rfl)
  (case xb_NoRoad=>first | rfl | decide +kernel)
  (case xy_NoRoad=>kernel_rfl)
  (case xb_NoTurn=>first | rfl | decide +kernel)
  (case xy_NoTurn=>kernel_rfl)
  (case r0=>first | rfl | decide +kernel)
  (case t0=>first | k_is | rfl)
  (case n0 | r1=>first | rfl | decide +kernel)
  (case t1=>first | k_is | rfl)
  (case n1 | r2=>first | rfl | decide +kernel)
  (case t2=>first | k_is | rfl)
  (case n2 | r3=>first | rfl | decide +kernel)
  (case t3=>first | k_is | rfl)
  (case n3 | ne01 | ne02 | ne03 | ne12 | ne13 | ne23=>first | rfl | decide +kernel)
