import PyProof.Rows.All
import Wide.All
import OpenK.AllK
import Wide.FinOn
import PyProof.EqAt
import PyProof.EqKinds
import PyProof.TupleCall
import PySem.Challenge.RW_fordbook_k69_gates_keep_copies
set_option Elab.async false
set_option linter.all false
set_option maxRecDepth 100000
local macro_rules|`(tactic|obtain ⟨$p,$q,$r,*⟩:=$e)=>`(tactic|first|(refine Classical.byContradiction fun h=>?_;rcases $e:term with ⟨$p,$q,$r,*⟩<;>(refine h ?_;clear h))|rcases $e:term with ⟨$p,$q,$r,*⟩)
namespace L2
open PySem
noncomputable def qgg9 (s:Stmt) (j:Nat):Stmt:=match s with
 | .ClassDef _ _ _ body _ _ _ _ _ _ _=>body.getD j (.Pass ⟨0,0,0,0⟩)
 | _=>.Pass ⟨0,0,0,0⟩
noncomputable def qah9 (s:Stmt):Arguments:=match s with
 | .FunctionDef _ a _ _ _ _ _ _ _ _=>a
 | _=>{ posonlyargs:=[],args:=[],vararg:=none,kwonlyargs:=[],kw_defaults:=[],kwarg:=none,defaults:=[] }
noncomputable def qag9 (s:Stmt):List Stmt:=match s with
 | .FunctionDef _ _ b _ _ _ _ _ _ _=>b
 | _=>[]
noncomputable def qaa9 (s:Stmt):Scope:=match s with
 | .FunctionDef _ _ _ _ _ _ sc _ _ _=>sc
 | _=>{ kind:=.function,names:=[],isGenerator:=false,isCoroutine:=false }
end L2
namespace My
open PySem L2
noncomputable def top (i:Nat):Stmt:=PySem.Challenge.pw_fordbook_k69_gates_keep_copies.main.body.getD i (.Pass ⟨0,0,0,0⟩)
noncomputable abbrev qde9:Stmt:=top 8
noncomputable abbrev qco9:Stmt:=top 9
noncomputable abbrev qdd9:Stmt:=top 10
noncomputable abbrev qcl9:Stmt:=top 11
noncomputable abbrev qcm9:Stmt:=top 13
noncomputable abbrev qdt9:Stmt:=top 14
noncomputable abbrev qej9:Stmt:=top 15
noncomputable abbrev qdc9:Stmt:=top 16
noncomputable abbrev qce9:Stmt:=top 17
noncomputable abbrev qel9:Stmt:=top 18
noncomputable abbrev qaz9:Stmt:=top 20
noncomputable abbrev qbl9:Stmt:=top 21
noncomputable abbrev qgy9:Stmt:=top 22
noncomputable abbrev qcz9:Stmt:=top 23
noncomputable abbrev qcs9:Stmt:=top 25
noncomputable abbrev qbz9:Stmt:=top 26
noncomputable abbrev qdq9:Stmt:=top 27
noncomputable abbrev qca9:Stmt:=top 28
noncomputable abbrev qcf9:Stmt:=top 29
noncomputable abbrev qeh9:Stmt:=top 31
noncomputable abbrev qeq9:Stmt:=top 32
noncomputable abbrev qen9:Stmt:=top 33
noncomputable abbrev qfi9:Stmt:=top 34
noncomputable abbrev qbv9:Stmt:=top 35
noncomputable abbrev qeo9:Stmt:=top 36
noncomputable abbrev qbk9:Stmt:=top 37
noncomputable abbrev qdh9:Stmt:=top 38
noncomputable abbrev qdf9:Stmt:=top 40
noncomputable abbrev qdp9:Stmt:=top 41
noncomputable abbrev qbs9:Stmt:=top 42
noncomputable abbrev qcv9:Stmt:=top 43
noncomputable abbrev qcb9:Stmt:=top 44
noncomputable abbrev qbd9:Stmt:=top 45
noncomputable abbrev qcp9:Stmt:=top 47
noncomputable abbrev qdr9:Stmt:=top 48
noncomputable abbrev qcr9:Stmt:=top 49
noncomputable abbrev qan9:Stmt:=top 50
noncomputable abbrev qbr9:Stmt:=top 51
noncomputable abbrev qdb9:Stmt:=top 53
noncomputable abbrev qbu9:Stmt:=top 54
noncomputable abbrev qer9:Stmt:=top 55
noncomputable abbrev qhd9:Stmt:=top 56
noncomputable abbrev qbp9:Stmt:=top 60
noncomputable abbrev qcy9:Stmt:=top 61
noncomputable abbrev qda9:Stmt:=top 62
noncomputable abbrev qdg9:Stmt:=top 63
noncomputable abbrev qcn9:Stmt:=top 65
noncomputable abbrev qcd9:Stmt:=top 66
noncomputable abbrev qbq9:Stmt:=top 67
noncomputable abbrev qbm9:Stmt:=top 68
noncomputable abbrev qgn9:Stmt:=top 69
noncomputable abbrev qar9:Stmt:=qgg9 (top 58) 0
noncomputable abbrev qbo9:Stmt:=qgg9 (top 58) 1
noncomputable abbrev qau9:Stmt:=qgg9 (top 58) 2
noncomputable abbrev qbb9:Stmt:=qgg9 (top 58) 4
noncomputable abbrev qbn9:Stmt:=qgg9 (top 58) 5
noncomputable abbrev qdj9:Stmt:=qgg9 (top 58) 3
noncomputable abbrev qex9:Stmt:=qgg9 (top 58) 6
noncomputable abbrev qix9:Stmt:=top 0
noncomputable def cod (x:Str) (a:Tok) (y:Str) (b c:Tok) (d e f g i:Int) (j:Addr) (k:Int) (l:Addr) (m n o:Value) (p:Addr) (q r:Int) (s:Tok):Obj:=⟨.type "code",none,.fields #[.str x a,.str y b,.str "/claim/cut.py" c,.int d 0,.int e 0,.int f 0,.int g 0,.int i 0,.ref j,.bool true,.int k 0,.ref l,m,n,o,.ref p,.int q 0,.int r 0,.str "/claim/cut.py" s],#[]⟩
noncomputable def o_2 (P:Params):Obj:=(Obj.mk .none none (.dict #[] 0) #[])
noncomputable def o_3 (P:Params):Obj:=(Obj.mk (.type "dict") none (.dict #[(DictEntry.mk (PyData.keyHash P "__name__") (.str "__name__" 165) (.str "law_fordbook_k69_gates_keep_copies" 832)),(DictEntry.mk (PyData.keyHash P "__doc__") (.str "__doc__" 166) .none),(DictEntry.mk (PyData.keyHash P "__package__") (.str "__package__" 167) .none),(DictEntry.mk (PyData.keyHash P "__loader__") (.str "__loader__" 168) (.builtin "__main__.__loader__#opaque")),(DictEntry.mk (PyData.keyHash P "__spec__") (.str "__spec__" 169) .none),(DictEntry.mk (PyData.keyHash P "__annotations__") (.str "__annotations__" 170) (.ref 6)),(DictEntry.mk (PyData.keyHash P "__builtins__") (.str "__builtins__" 171) (.ref 4)),(DictEntry.mk (PyData.keyHash P "__file__") (.str "__file__" 173) (.str "/claim/cut.py" 172)),(DictEntry.mk (PyData.keyHash P "__cached__") (.str "__cached__" 174) .none),(DictEntry.mk (PyData.keyHash P "_wall") (.str "_wall" 193) (.ref 21)),(DictEntry.mk (PyData.keyHash P "FordError") (.str "FordError" 213) (.ref 31)),(DictEntry.mk (PyData.keyHash P "NoBoard") (.str "NoBoard" 229) (.ref 44)),(DictEntry.mk (PyData.keyHash P "NoNet") (.str "NoNet" 245) (.ref 56)),(DictEntry.mk (PyData.keyHash P "NoPlace") (.str "NoPlace" 261) (.ref 68)),(DictEntry.mk (PyData.keyHash P "NoTurn") (.str "NoTurn" 277) (.ref 80)),(DictEntry.mk (PyData.keyHash P "is_whole") (.str "is_whole" 286) (.ref 89)),(DictEntry.mk (PyData.keyHash P "is_window") (.str "is_window" 292) (.ref 94)),(DictEntry.mk (PyData.keyHash P "is_board") (.str "is_board" 298) (.ref 99)),(DictEntry.mk (PyData.keyHash P "next_open") (.str "next_open" 309) (.ref 106)),(DictEntry.mk (PyData.keyHash P "is_number") (.str "is_number" 319) (.ref 113)),(DictEntry.mk (PyData.keyHash P "is_road") (.str "is_road" 325) (.ref 118)),(DictEntry.mk (PyData.keyHash P "is_net") (.str "is_net" 331) (.ref 123)),(DictEntry.mk (PyData.keyHash P "need_net") (.str "need_net" 340) (.ref 130)),(DictEntry.mk (PyData.keyHash P "need_place") (.str "need_place" 348) (.ref 137)),(DictEntry.mk (PyData.keyHash P "copied") (.str "copied" 354) (.ref 142)),(DictEntry.mk (PyData.keyHash P "first_where") (.str "first_where" 367) (.ref 149)),(DictEntry.mk (PyData.keyHash P "set_off") (.str "set_off" 380) (.ref 156)),(DictEntry.mk (PyData.keyHash P "come") (.str "come" 390) (.ref 163)),(DictEntry.mk (PyData.keyHash P "standing") (.str "standing" 397) (.ref 170)),(DictEntry.mk (PyData.keyHash P "stretches") (.str "stretches" 412) (.ref 177)),(DictEntry.mk (PyData.keyHash P "first_told") (.str "first_told" 419) (.ref 184)),(DictEntry.mk (PyData.keyHash P "overlay") (.str "overlay" 435) (.ref 191)),(DictEntry.mk (PyData.keyHash P "put_window") (.str "put_window" 445) (.ref 198)),(DictEntry.mk (PyData.keyHash P "clock_from") (.str "clock_from" 459) (.ref 205)),(DictEntry.mk (PyData.keyHash P "picked") (.str "picked" 467) (.ref 210)),(DictEntry.mk (PyData.keyHash P "joined") (.str "joined" 484) (.ref 217)),(DictEntry.mk (PyData.keyHash P "sooner") (.str "sooner" 493) (.ref 224)),(DictEntry.mk (PyData.keyHash P "later") (.str "later" 502) (.ref 231)),(DictEntry.mk (PyData.keyHash P "ridden") (.str "ridden" 518) (.ref 238)),(DictEntry.mk (PyData.keyHash P "behind") (.str "behind" 533) (.ref 245)),(DictEntry.mk (PyData.keyHash P "clock_within") (.str "clock_within" 542) (.ref 252)),(DictEntry.mk (PyData.keyHash P "clock_of") (.str "clock_of" 550) (.ref 259)),(DictEntry.mk (PyData.keyHash P "fords_of") (.str "fords_of" 558) (.ref 264)),(DictEntry.mk (PyData.keyHash P "staying") (.str "staying" 564) (.ref 269)),(DictEntry.mk (PyData.keyHash P "copied_table") (.str "copied_table" 570) (.ref 274)),(DictEntry.mk (PyData.keyHash P "grown") (.str "grown" 581) (.ref 281)),(DictEntry.mk (PyData.keyHash P "ride_first") (.str "ride_first" 594) (.ref 288)),(DictEntry.mk (PyData.keyHash P "rounds_to") (.str "rounds_to" 606) (.ref 295)),(DictEntry.mk (PyData.keyHash P "need_turn") (.str "need_turn" 615) (.ref 302)),(DictEntry.mk (PyData.keyHash P "guarded") (.str "guarded" 631) (.ref 309)),(DictEntry.mk (PyData.keyHash P "ask_first") (.str "ask_first" 646) (.ref 316)),(DictEntry.mk (PyData.keyHash P "guarded_rounds") (.str "guarded_rounds" 659) (.ref 323)),(DictEntry.mk (PyData.keyHash P "level_rounds") (.str "level_rounds" 671) (.ref 330)),(DictEntry.mk (PyData.keyHash P "comes_by") (.str "comes_by" 684) (.ref 337)),(DictEntry.mk (PyData.keyHash P "least_round") (.str "least_round" 697) (.ref 344)),(DictEntry.mk (PyData.keyHash P "ask_by") (.str "ask_by" 716) (.ref 351)),(DictEntry.mk (PyData.keyHash P "walk") (.str "walk" 732) (.ref 358)),(DictEntry.mk (PyData.keyHash P "Gate") (.str "Gate" 831) (.ref 418)),(DictEntry.mk (PyData.keyHash P "_law_cell_at") (.str "_law_cell_at" 841) (.ref 429)),(DictEntry.mk (PyData.keyHash P "_law_day") (.str "_law_day" 848) (.ref 436)),(DictEntry.mk (PyData.keyHash P "_law_way") (.str "_law_way" 861) (.ref 443)),(DictEntry.mk (PyData.keyHash P "_law_net") (.str "_law_net" 881) (.ref 450)),(DictEntry.mk (PyData.keyHash P "_law_all") (.str "_law_all" 892) (.ref 457)),(DictEntry.mk (PyData.keyHash P "_law_copy") (.str "_law_copy" 898) (.ref 462)),(DictEntry.mk (PyData.keyHash P "_law_spoil") (.str "_law_spoil" 910) (.ref 469)),(DictEntry.mk (PyData.keyHash P "_law_refused") (.str "_law_refused" 919) (.ref 476)),(DictEntry.mk (PyData.keyHash P "_law_all_told") (.str "_law_all_told" 932) (.ref 483)),(DictEntry.mk (PyData.keyHash P "law") (.str "law" 938) (.ref 488))] 68) #[])
noncomputable def o_20 (P:Params):Obj:=cod "_wall" 187 "_wall" 188 189 1 1 0 0 3 15 181 16 .none (.ref 17) (.ref 18) 19 191 1 192
noncomputable def o_21 (P:Params):Obj:=(Obj.mk (.type "function") none (.func (.mk (.ofString "_wall") (.ofString "_wall") (qah9 qix9) (.stmts (qag9 qix9)) (qaa9 qix9) 3 [] .none .none .none (.str "__main__" 164) none (.ref 20) .none 0)) #[])
noncomputable def o_22 (P:Params):Obj:=(Obj.mk (.type "tuple") none (.seq #[(.type "ValueError")] 0) #[])
noncomputable def o_29 (P:Params):Obj:=(Obj.mk (.type "tuple") none (.seq #[] 0) #[])
noncomputable def o_30 (P:Params):Obj:=(Obj.mk (.type "dict") none (.dict #[(DictEntry.mk (PyData.keyHash P "__module__") (.str "__module__" 203) (.str "fordbook.errors" 194)),(DictEntry.mk (PyData.keyHash P "__firstlineno__") (.str "__firstlineno__" 207) (.int 5 206)),(DictEntry.mk (PyData.keyHash P "__static_attributes__") (.str "__static_attributes__" 208) (.ref 29)),(DictEntry.mk (PyData.keyHash P "__weakref__") (.str "__weakref__" 210) (.ref 32)),(DictEntry.mk (PyData.keyHash P "__doc__") (.str "__doc__" 211) .none)] 3) #[])
noncomputable def o_31 (P:Params):Obj:=(Obj.mk (.type "type") none (@PySem.Data.cls (@PySem.ClassData.mk (.ofString "FordError") [(.type "ValueError")] [(.ref 31),(.type "ValueError"),(.type "Exception"),(.type "BaseException"),(.type "object")] 30 (.ofString "FordError") @Bool.true [] [(.ref 44),(.ref 56),(.ref 68),(.ref 80)] @Bool.false none @Bool.false)) #[(@Option.some @PySem.Value (.ref 22)),none,(@Option.some @PySem.Value (.str "FordError" 196)),(@Option.some @PySem.Value (.str "FordError" 204)),(@Option.some @PySem.Value (.builtin "ValueError.__new__")),(@Option.some @PySem.Value (.bool @Bool.true))])
noncomputable def o_32 (P:Params):Obj:=(Obj.mk (.type "getset_descriptor") none (.fields #[(.str "__weakref__" 209),(.ref 31),(.builtin "ExceptionGroup.__weakref__"),.none]) #[])
noncomputable def o_35 (P:Params):Obj:=(Obj.mk (.type "tuple") none (.seq #[(.ref 31)] 0) #[])
noncomputable def o_43 (P:Params):Obj:=(Obj.mk (.type "dict") none (.dict #[(DictEntry.mk (PyData.keyHash P "__module__") (.str "__module__" 221) (.str "fordbook.errors" 194)),(DictEntry.mk (PyData.keyHash P "__firstlineno__") (.str "__firstlineno__" 225) (.int 7 224)),(DictEntry.mk (PyData.keyHash P "__static_attributes__") (.str "__static_attributes__" 226) (.ref 42)),(DictEntry.mk (PyData.keyHash P "__doc__") (.str "__doc__" 227) .none)] 2) #[])
noncomputable def o_44 (P:Params):Obj:=(Obj.mk (.type "type") none (@PySem.Data.cls (@PySem.ClassData.mk (.ofString "NoBoard") [(.ref 31)] [(.ref 44),(.ref 31),(.type "ValueError"),(.type "Exception"),(.type "BaseException"),(.type "object")] 43 (.ofString "NoBoard") @Bool.true [] [] @Bool.false none @Bool.false)) #[(@Option.some @PySem.Value (.ref 35)),none,(@Option.some @PySem.Value (.str "NoBoard" 214)),(@Option.some @PySem.Value (.str "NoBoard" 222)),(@Option.some @PySem.Value (.builtin "ValueError.__new__")),(@Option.some @PySem.Value (.bool @Bool.true))])
noncomputable def o_55 (P:Params):Obj:=(Obj.mk (.type "dict") none (.dict #[(DictEntry.mk (PyData.keyHash P "__module__") (.str "__module__" 237) (.str "fordbook.errors" 194)),(DictEntry.mk (PyData.keyHash P "__firstlineno__") (.str "__firstlineno__" 241) (.int 9 240)),(DictEntry.mk (PyData.keyHash P "__static_attributes__") (.str "__static_attributes__" 242) (.ref 54)),(DictEntry.mk (PyData.keyHash P "__doc__") (.str "__doc__" 243) .none)] 2) #[])
noncomputable def o_56 (P:Params):Obj:=(Obj.mk (.type "type") none (@PySem.Data.cls (@PySem.ClassData.mk (.ofString "NoNet") [(.ref 31)] [(.ref 56),(.ref 31),(.type "ValueError"),(.type "Exception"),(.type "BaseException"),(.type "object")] 55 (.ofString "NoNet") @Bool.true [] [] @Bool.false none @Bool.false)) #[(@Option.some @PySem.Value (.ref 47)),none,(@Option.some @PySem.Value (.str "NoNet" 230)),(@Option.some @PySem.Value (.str "NoNet" 238)),(@Option.some @PySem.Value (.builtin "ValueError.__new__")),(@Option.some @PySem.Value (.bool @Bool.true))])
noncomputable def o_67 (P:Params):Obj:=(Obj.mk (.type "dict") none (.dict #[(DictEntry.mk (PyData.keyHash P "__module__") (.str "__module__" 253) (.str "fordbook.errors" 194)),(DictEntry.mk (PyData.keyHash P "__firstlineno__") (.str "__firstlineno__" 257) (.int 11 256)),(DictEntry.mk (PyData.keyHash P "__static_attributes__") (.str "__static_attributes__" 258) (.ref 66)),(DictEntry.mk (PyData.keyHash P "__doc__") (.str "__doc__" 259) .none)] 2) #[])
noncomputable def o_68 (P:Params):Obj:=(Obj.mk (.type "type") none (@PySem.Data.cls (@PySem.ClassData.mk (.ofString "NoPlace") [(.ref 31)] [(.ref 68),(.ref 31),(.type "ValueError"),(.type "Exception"),(.type "BaseException"),(.type "object")] 67 (.ofString "NoPlace") @Bool.true [] [] @Bool.false none @Bool.false)) #[(@Option.some @PySem.Value (.ref 59)),none,(@Option.some @PySem.Value (.str "NoPlace" 246)),(@Option.some @PySem.Value (.str "NoPlace" 254)),(@Option.some @PySem.Value (.builtin "ValueError.__new__")),(@Option.some @PySem.Value (.bool @Bool.true))])
noncomputable def o_79 (P:Params):Obj:=(Obj.mk (.type "dict") none (.dict #[(DictEntry.mk (PyData.keyHash P "__module__") (.str "__module__" 269) (.str "fordbook.errors" 194)),(DictEntry.mk (PyData.keyHash P "__firstlineno__") (.str "__firstlineno__" 273) (.int 13 272)),(DictEntry.mk (PyData.keyHash P "__static_attributes__") (.str "__static_attributes__" 274) (.ref 78)),(DictEntry.mk (PyData.keyHash P "__doc__") (.str "__doc__" 275) .none)] 2) #[])
noncomputable def o_80 (P:Params):Obj:=(Obj.mk (.type "type") none (@PySem.Data.cls (@PySem.ClassData.mk (.ofString "NoTurn") [(.ref 31)] [(.ref 80),(.ref 31),(.type "ValueError"),(.type "Exception"),(.type "BaseException"),(.type "object")] 79 (.ofString "NoTurn") @Bool.true [] [] @Bool.false none @Bool.false)) #[(@Option.some @PySem.Value (.ref 71)),none,(@Option.some @PySem.Value (.str "NoTurn" 262)),(@Option.some @PySem.Value (.str "NoTurn" 270)),(@Option.some @PySem.Value (.builtin "ValueError.__new__")),(@Option.some @PySem.Value (.bool @Bool.true))])
noncomputable def o_88 (P:Params):Obj:=cod "is_whole" 280 "is_whole" 281 282 16 1 0 0 3 83 181 84 .none (.ref 85) (.ref 86) 87 284 16 285
noncomputable def o_89 (P:Params):Obj:=(Obj.mk (.type "function") none (.func (.mk (.ofString "is_whole") (.ofString "is_whole") (qah9 qde9) (.stmts (qag9 qde9)) (qaa9 qde9) 3 [] .none .none .none (.str "fordbook.windows" 278) none (.ref 88) .none 0)) #[])
noncomputable def o_93 (P:Params):Obj:=cod "is_window" 287 "is_window" 288 289 18 2 0 0 3 90 181 91 .none .none .none 92 290 18 291
noncomputable def o_94 (P:Params):Obj:=(Obj.mk (.type "function") none (.func (.mk (.ofString "is_window") (.ofString "is_window") (qah9 qco9) (.stmts (qag9 qco9)) (qaa9 qco9) 3 [] .none .none .none (.str "fordbook.windows" 278) none (.ref 93) .none 0)) #[])
noncomputable def o_98 (P:Params):Obj:=cod "is_board" 293 "is_board" 294 295 24 2 0 0 3 95 181 96 .none .none .none 97 296 24 297
noncomputable def o_99 (P:Params):Obj:=(Obj.mk (.type "function") none (.func (.mk (.ofString "is_board") (.ofString "is_board") (qah9 qdd9) (.stmts (qag9 qdd9)) (qaa9 qdd9) 3 [] .none .none .none (.str "fordbook.windows" 278) none (.ref 98) .none 0)) #[])
noncomputable def o_105 (P:Params):Obj:=cod "next_open" 299 "next_open" 300 301 26 3 0 0 3 100 181 101 .none (.ref 102) (.ref 103) 104 307 26 308
noncomputable def o_106 (P:Params):Obj:=(Obj.mk (.type "function") none (.func (.mk (.ofString "next_open") (.ofString "next_open") (qah9 qcl9) (.stmts (qag9 qcl9)) (qaa9 qcl9) 3 [] .none .none .none (.str "fordbook.windows" 278) none (.ref 105) .none 0)) #[])
noncomputable def o_112 (P:Params):Obj:=cod "is_number" 312 "is_number" 313 314 33 2 0 0 3 107 181 108 .none (.ref 109) (.ref 110) 111 317 33 318
noncomputable def o_113 (P:Params):Obj:=(Obj.mk (.type "function") none (.func (.mk (.ofString "is_number") (.ofString "is_number") (qah9 qcm9) (.stmts (qag9 qcm9)) (qaa9 qcm9) 3 [] .none .none .none (.str "fordbook.nets" 310) none (.ref 112) .none 0)) #[])
noncomputable def o_117 (P:Params):Obj:=cod "is_road" 320 "is_road" 321 322 35 3 0 0 3 114 181 115 .none .none .none 116 323 35 324
noncomputable def o_118 (P:Params):Obj:=(Obj.mk (.type "function") none (.func (.mk (.ofString "is_road") (.ofString "is_road") (qah9 qdt9) (.stmts (qag9 qdt9)) (qaa9 qdt9) 3 [] .none .none .none (.str "fordbook.nets" 310) none (.ref 117) .none 0)) #[])
noncomputable def o_122 (P:Params):Obj:=cod "is_net" 326 "is_net" 327 328 41 3 0 0 3 119 181 120 .none .none .none 121 329 41 330
noncomputable def o_123 (P:Params):Obj:=(Obj.mk (.type "function") none (.func (.mk (.ofString "is_net") (.ofString "is_net") (qah9 qej9) (.stmts (qag9 qej9)) (qaa9 qej9) 3 [] .none .none .none (.str "fordbook.nets" 310) none (.ref 122) .none 0)) #[])
noncomputable def o_129 (P:Params):Obj:=cod "need_net" 332 "need_net" 333 334 45 3 0 0 3 124 181 125 .none (.ref 126) (.ref 127) 128 338 45 339
noncomputable def o_130 (P:Params):Obj:=(Obj.mk (.type "function") none (.func (.mk (.ofString "need_net") (.ofString "need_net") (qah9 qdc9) (.stmts (qag9 qdc9)) (qaa9 qdc9) 3 [] .none .none .none (.str "fordbook.nets" 310) none (.ref 129) .none 0)) #[])
noncomputable def o_136 (P:Params):Obj:=cod "need_place" 341 "need_place" 342 343 48 2 0 0 3 131 181 132 .none (.ref 133) (.ref 134) 135 346 48 347
noncomputable def o_137 (P:Params):Obj:=(Obj.mk (.type "function") none (.func (.mk (.ofString "need_place") (.ofString "need_place") (qah9 qce9) (.stmts (qag9 qce9)) (qaa9 qce9) 3 [] .none .none .none (.str "fordbook.nets" 310) none (.ref 136) .none 0)) #[])
noncomputable def o_141 (P:Params):Obj:=cod "copied" 349 "copied" 350 351 51 1 0 0 3 138 181 139 .none .none .none 140 352 51 353
noncomputable def o_142 (P:Params):Obj:=(Obj.mk (.type "function") none (.func (.mk (.ofString "copied") (.ofString "copied") (qah9 qel9) (.stmts (qag9 qel9)) (qaa9 qel9) 3 [] .none .none .none (.str "fordbook.nets" 310) none (.ref 141) .none 0)) #[])
noncomputable def o_148 (P:Params):Obj:=cod "first_where" 357 "first_where" 358 359 54 2 0 0 3 143 181 144 .none (.ref 145) (.ref 146) 147 365 54 366
noncomputable def o_149 (P:Params):Obj:=(Obj.mk (.type "function") none (.func (.mk (.ofString "first_where") (.ofString "first_where") (qah9 qaz9) (.stmts (qag9 qaz9)) (qaa9 qaz9) 3 [] .none .none .none (.str "fordbook.clocks" 355) none (.ref 148) .none 0)) #[])
noncomputable def o_155 (P:Params):Obj:=cod "set_off" 368 "set_off" 369 370 64 3 0 0 3 150 181 151 .none (.ref 152) (.ref 153) 154 378 64 379
noncomputable def o_156 (P:Params):Obj:=(Obj.mk (.type "function") none (.func (.mk (.ofString "set_off") (.ofString "set_off") (qah9 qbl9) (.stmts (qag9 qbl9)) (qaa9 qbl9) 3 [] .none .none .none (.str "fordbook.clocks" 355) none (.ref 155) .none 0)) #[])
noncomputable def o_162 (P:Params):Obj:=cod "come" 381 "come" 382 383 72 3 0 0 3 157 181 158 .none (.ref 159) (.ref 160) 161 388 72 389
noncomputable def o_163 (P:Params):Obj:=(Obj.mk (.type "function") none (.func (.mk (.ofString "come") (.ofString "come") (qah9 qgy9) (.stmts (qag9 qgy9)) (qaa9 qgy9) 3 [] .none .none .none (.str "fordbook.clocks" 355) none (.ref 162) .none 0)) #[])
noncomputable def o_169 (P:Params):Obj:=cod "standing" 391 "standing" 392 393 77 1 0 0 3 164 181 165 .none (.ref 166) (.ref 167) 168 395 77 396
noncomputable def o_170 (P:Params):Obj:=(Obj.mk (.type "function") none (.func (.mk (.ofString "standing") (.ofString "standing") (qah9 qcz9) (.stmts (qag9 qcz9)) (qaa9 qcz9) 3 [] .none .none .none (.str "fordbook.clocks" 355) none (.ref 169) .none 0)) #[])
noncomputable def o_176 (P:Params):Obj:=cod "stretches" 400 "stretches" 401 402 80 2 0 0 3 171 181 172 .none (.ref 173) (.ref 174) 175 410 80 411
noncomputable def o_177 (P:Params):Obj:=(Obj.mk (.type "function") none (.func (.mk (.ofString "stretches") (.ofString "stretches") (qah9 qcs9) (.stmts (qag9 qcs9)) (qaa9 qcs9) 3 [] .none .none .none (.str "fordbook.stretches" 398) none (.ref 176) .none 0)) #[])
noncomputable def o_183 (P:Params):Obj:=cod "first_told" 413 "first_told" 414 415 91 1 0 0 3 178 181 179 .none (.ref 180) (.ref 181) 182 417 91 418
noncomputable def o_184 (P:Params):Obj:=(Obj.mk (.type "function") none (.func (.mk (.ofString "first_told") (.ofString "first_told") (qah9 qbz9) (.stmts (qag9 qbz9)) (qaa9 qbz9) 3 [] .none .none .none (.str "fordbook.stretches" 398) none (.ref 183) .none 0)) #[])
noncomputable def o_190 (P:Params):Obj:=cod "overlay" 420 "overlay" 421 422 93 3 0 0 3 185 181 186 .none (.ref 187) (.ref 188) 189 433 93 434
noncomputable def o_191 (P:Params):Obj:=(Obj.mk (.type "function") none (.func (.mk (.ofString "overlay") (.ofString "overlay") (qah9 qdq9) (.stmts (qag9 qdq9)) (qaa9 qdq9) 3 [] .none .none .none (.str "fordbook.stretches" 398) none (.ref 190) .none 0)) #[])
noncomputable def o_197 (P:Params):Obj:=cod "put_window" 436 "put_window" 437 438 109 4 0 0 3 192 181 193 .none (.ref 194) (.ref 195) 196 443 109 444
noncomputable def o_198 (P:Params):Obj:=(Obj.mk (.type "function") none (.func (.mk (.ofString "put_window") (.ofString "put_window") (qah9 qca9) (.stmts (qag9 qca9)) (qaa9 qca9) 3 [] .none .none .none (.str "fordbook.stretches" 398) none (.ref 197) .none 0)) #[])
noncomputable def o_204 (P:Params):Obj:=cod "clock_from" 446 "clock_from" 447 448 116 2 0 0 3 199 181 200 .none (.ref 201) (.ref 202) 203 457 116 458
noncomputable def o_205 (P:Params):Obj:=(Obj.mk (.type "function") none (.func (.mk (.ofString "clock_from") (.ofString "clock_from") (qah9 qcf9) (.stmts (qag9 qcf9)) (qaa9 qcf9) 3 [] .none .none .none (.str "fordbook.stretches" 398) none (.ref 204) .none 0)) #[])
noncomputable def o_209 (P:Params):Obj:=cod "picked" 462 "picked" 463 464 128 5 0 0 3 206 181 207 .none .none .none 208 465 128 466
noncomputable def o_210 (P:Params):Obj:=(Obj.mk (.type "function") none (.func (.mk (.ofString "picked") (.ofString "picked") (qah9 qeh9) (.stmts (qag9 qeh9)) (qaa9 qeh9) 3 [] .none .none .none (.str "fordbook.reckon" 460) none (.ref 209) .none 0)) #[])
noncomputable def o_216 (P:Params):Obj:=cod "joined" 468 "joined" 469 470 133 4 0 0 3 211 181 212 .none (.ref 213) (.ref 214) 215 482 133 483
noncomputable def o_217 (P:Params):Obj:=(Obj.mk (.type "function") none (.func (.mk (.ofString "joined") (.ofString "joined") (qah9 qeq9) (.stmts (qag9 qeq9)) (qaa9 qeq9) 3 [] .none .none .none (.str "fordbook.reckon" 460) none (.ref 216) .none 0)) #[])
noncomputable def o_223 (P:Params):Obj:=cod "sooner" 485 "sooner" 486 487 143 3 0 0 3 218 181 219 .none (.ref 220) (.ref 221) 222 491 143 492
noncomputable def o_224 (P:Params):Obj:=(Obj.mk (.type "function") none (.func (.mk (.ofString "sooner") (.ofString "sooner") (qah9 qen9) (.stmts (qag9 qen9)) (qaa9 qen9) 3 [] .none .none .none (.str "fordbook.reckon" 460) none (.ref 223) .none 0)) #[])
noncomputable def o_230 (P:Params):Obj:=cod "later" 494 "later" 495 496 147 3 0 0 3 225 181 226 .none (.ref 227) (.ref 228) 229 500 147 501
noncomputable def o_231 (P:Params):Obj:=(Obj.mk (.type "function") none (.func (.mk (.ofString "later") (.ofString "later") (qah9 qfi9) (.stmts (qag9 qfi9)) (qaa9 qfi9) 3 [] .none .none .none (.str "fordbook.reckon" 460) none (.ref 230) .none 0)) #[])
noncomputable def o_237 (P:Params):Obj:=cod "ridden" 503 "ridden" 504 505 151 5 0 0 3 232 181 233 .none (.ref 234) (.ref 235) 236 516 151 517
noncomputable def o_238 (P:Params):Obj:=(Obj.mk (.type "function") none (.func (.mk (.ofString "ridden") (.ofString "ridden") (qah9 qbv9) (.stmts (qag9 qbv9)) (qaa9 qbv9) 3 [] .none .none .none (.str "fordbook.reckon" 460) none (.ref 237) .none 0)) #[])
noncomputable def o_244 (P:Params):Obj:=cod "behind" 519 "behind" 520 521 168 3 0 0 3 239 181 240 .none (.ref 241) (.ref 242) 243 531 168 532
noncomputable def o_245 (P:Params):Obj:=(Obj.mk (.type "function") none (.func (.mk (.ofString "behind") (.ofString "behind") (qah9 qeo9) (.stmts (qag9 qeo9)) (qaa9 qeo9) 3 [] .none .none .none (.str "fordbook.reckon" 460) none (.ref 244) .none 0)) #[])
noncomputable def o_251 (P:Params):Obj:=cod "clock_within" 534 "clock_within" 535 536 179 2 0 0 3 246 181 247 .none (.ref 248) (.ref 249) 250 540 179 541
noncomputable def o_252 (P:Params):Obj:=(Obj.mk (.type "function") none (.func (.mk (.ofString "clock_within") (.ofString "clock_within") (qah9 qbk9) (.stmts (qag9 qbk9)) (qaa9 qbk9) 3 [] .none .none .none (.str "fordbook.reckon" 460) none (.ref 251) .none 0)) #[])
noncomputable def o_258 (P:Params):Obj:=cod "clock_of" 543 "clock_of" 544 545 184 2 0 0 3 253 181 254 .none (.ref 255) (.ref 256) 257 548 184 549
noncomputable def o_259 (P:Params):Obj:=(Obj.mk (.type "function") none (.func (.mk (.ofString "clock_of") (.ofString "clock_of") (qah9 qdh9) (.stmts (qag9 qdh9)) (qaa9 qdh9) 3 [] .none .none .none (.str "fordbook.reckon" 460) none (.ref 258) .none 0)) #[])
noncomputable def o_263 (P:Params):Obj:=cod "fords_of" 553 "fords_of" 554 555 189 2 0 0 3 260 181 261 .none .none .none 262 556 189 557
noncomputable def o_264 (P:Params):Obj:=(Obj.mk (.type "function") none (.func (.mk (.ofString "fords_of") (.ofString "fords_of") (qah9 qdf9) (.stmts (qag9 qdf9)) (qaa9 qdf9) 3 [] .none .none .none (.str "fordbook.tables" 551) none (.ref 263) .none 0)) #[])
noncomputable def o_268 (P:Params):Obj:=cod "staying" 559 "staying" 560 561 191 3 0 0 3 265 181 266 .none .none .none 267 562 191 563
noncomputable def o_269 (P:Params):Obj:=(Obj.mk (.type "function") none (.func (.mk (.ofString "staying") (.ofString "staying") (qah9 qdp9) (.stmts (qag9 qdp9)) (qaa9 qdp9) 3 [] .none .none .none (.str "fordbook.tables" 551) none (.ref 268) .none 0)) #[])
noncomputable def o_273 (P:Params):Obj:=cod "copied_table" 565 "copied_table" 566 567 193 1 0 0 3 270 181 271 .none .none .none 272 568 193 569
noncomputable def o_274 (P:Params):Obj:=(Obj.mk (.type "function") none (.func (.mk (.ofString "copied_table") (.ofString "copied_table") (qah9 qbs9) (.stmts (qag9 qbs9)) (qaa9 qbs9) 3 [] .none .none .none (.str "fordbook.tables" 551) none (.ref 273) .none 0)) #[])
noncomputable def o_280 (P:Params):Obj:=cod "grown" 571 "grown" 572 573 195 4 0 0 3 275 181 276 .none (.ref 277) (.ref 278) 279 579 195 580
noncomputable def o_281 (P:Params):Obj:=(Obj.mk (.type "function") none (.func (.mk (.ofString "grown") (.ofString "grown") (qah9 qcv9) (.stmts (qag9 qcv9)) (qaa9 qcv9) 3 [] .none .none .none (.str "fordbook.tables" 551) none (.ref 280) .none 0)) #[])
noncomputable def o_287 (P:Params):Obj:=cod "ride_first" 582 "ride_first" 583 584 203 3 0 0 3 282 181 283 .none (.ref 284) (.ref 285) 286 592 203 593
noncomputable def o_288 (P:Params):Obj:=(Obj.mk (.type "function") none (.func (.mk (.ofString "ride_first") (.ofString "ride_first") (qah9 qcb9) (.stmts (qag9 qcb9)) (qaa9 qcb9) 3 [] .none .none .none (.str "fordbook.tables" 551) none (.ref 287) .none 0)) #[])
noncomputable def o_294 (P:Params):Obj:=cod "rounds_to" 595 "rounds_to" 596 597 208 4 0 0 3 289 181 290 .none (.ref 291) (.ref 292) 293 604 208 605
noncomputable def o_295 (P:Params):Obj:=(Obj.mk (.type "function") none (.func (.mk (.ofString "rounds_to") (.ofString "rounds_to") (qah9 qbd9) (.stmts (qag9 qbd9)) (qaa9 qbd9) 3 [] .none .none .none (.str "fordbook.tables" 551) none (.ref 294) .none 0)) #[])
noncomputable def o_301 (P:Params):Obj:=cod "need_turn" 609 "need_turn" 610 611 212 1 0 0 3 296 181 297 .none (.ref 298) (.ref 299) 300 613 212 614
noncomputable def o_302 (P:Params):Obj:=(Obj.mk (.type "function") none (.func (.mk (.ofString "need_turn") (.ofString "need_turn") (qah9 qcp9) (.stmts (qag9 qcp9)) (qaa9 qcp9) 3 [] .none .none .none (.str "fordbook.asks" 607) none (.ref 301) .none 0)) #[])
noncomputable def o_308 (P:Params):Obj:=cod "guarded" 616 "guarded" 617 618 215 3 0 0 3 303 181 304 .none (.ref 305) (.ref 306) 307 629 215 630
noncomputable def o_309 (P:Params):Obj:=(Obj.mk (.type "function") none (.func (.mk (.ofString "guarded") (.ofString "guarded") (qah9 qdr9) (.stmts (qag9 qdr9)) (qaa9 qdr9) 3 [] .none .none .none (.str "fordbook.asks" 607) none (.ref 308) .none 0)) #[])
noncomputable def o_315 (P:Params):Obj:=cod "ask_first" 632 "ask_first" 633 634 221 3 0 0 3 310 181 311 .none (.ref 312) (.ref 313) 314 644 221 645
noncomputable def o_316 (P:Params):Obj:=(Obj.mk (.type "function") none (.func (.mk (.ofString "ask_first") (.ofString "ask_first") (qah9 qcr9) (.stmts (qag9 qcr9)) (qaa9 qcr9) 3 [] .none .none .none (.str "fordbook.asks" 607) none (.ref 315) .none 0)) #[])
noncomputable def o_322 (P:Params):Obj:=cod "guarded_rounds" 647 "guarded_rounds" 648 649 227 5 0 0 3 317 181 318 .none (.ref 319) (.ref 320) 321 657 227 658
noncomputable def o_323 (P:Params):Obj:=(Obj.mk (.type "function") none (.func (.mk (.ofString "guarded_rounds") (.ofString "guarded_rounds") (qah9 qan9) (.stmts (qag9 qan9)) (qaa9 qan9) 3 [] .none .none .none (.str "fordbook.asks" 607) none (.ref 322) .none 0)) #[])
noncomputable def o_329 (P:Params):Obj:=cod "level_rounds" 660 "level_rounds" 661 662 230 5 0 0 3 324 181 325 .none (.ref 326) (.ref 327) 328 669 230 670
noncomputable def o_330 (P:Params):Obj:=(Obj.mk (.type "function") none (.func (.mk (.ofString "level_rounds") (.ofString "level_rounds") (qah9 qbr9) (.stmts (qag9 qbr9)) (qaa9 qbr9) 3 [] .none .none .none (.str "fordbook.asks" 607) none (.ref 329) .none 0)) #[])
noncomputable def o_336 (P:Params):Obj:=cod "comes_by" 674 "comes_by" 675 676 239 4 0 0 3 331 181 332 .none (.ref 333) (.ref 334) 335 682 239 683
noncomputable def o_337 (P:Params):Obj:=(Obj.mk (.type "function") none (.func (.mk (.ofString "comes_by") (.ofString "comes_by") (qah9 qdb9) (.stmts (qag9 qdb9)) (qaa9 qdb9) 3 [] .none .none .none (.str "fordbook.walks" 672) none (.ref 336) .none 0)) #[])
noncomputable def o_343 (P:Params):Obj:=cod "least_round" 685 "least_round" 686 687 242 5 0 0 3 338 181 339 .none (.ref 340) (.ref 341) 342 695 242 696
noncomputable def o_344 (P:Params):Obj:=(Obj.mk (.type "function") none (.func (.mk (.ofString "least_round") (.ofString "least_round") (qah9 qbu9) (.stmts (qag9 qbu9)) (qaa9 qbu9) 3 [] .none .none .none (.str "fordbook.walks" 672) none (.ref 343) .none 0)) #[])
noncomputable def o_350 (P:Params):Obj:=cod "ask_by" 698 "ask_by" 699 700 247 7 0 0 3 345 181 346 .none (.ref 347) (.ref 348) 349 714 247 715
noncomputable def o_351 (P:Params):Obj:=(Obj.mk (.type "function") none (.func (.mk (.ofString "ask_by") (.ofString "ask_by") (qah9 qer9) (.stmts (qag9 qer9)) (qaa9 qer9) 3 [] .none .none .none (.str "fordbook.walks" 672) none (.ref 350) .none 0)) #[])
noncomputable def o_357 (P:Params):Obj:=cod "walk" 717 "walk" 718 719 255 6 0 0 3 352 181 353 .none (.ref 354) (.ref 355) 356 730 255 731
noncomputable def o_358 (P:Params):Obj:=(Obj.mk (.type "function") none (.func (.mk (.ofString "walk") (.ofString "walk") (qah9 qhd9) (.stmts (qag9 qhd9)) (qaa9 qhd9) 3 [] .none .none .none (.str "fordbook.walks" 672) none (.ref 357) .none 0)) #[])
noncomputable def o_366 (P:Params):Obj:=(Obj.mk (.type "tuple") none (.seq #[(.int 1 747)] 0) #[])
noncomputable def o_372 (P:Params):Obj:=cod "__init__" 748 "Gate.__init__" 749 750 271 6 0 0 3 367 181 368 .none (.ref 369) (.ref 370) 371 757 271 758
noncomputable def o_373 (P:Params):Obj:=(Obj.mk (.type "function") none (.func (.mk (.ofString "__init__") (.ofString "Gate.__init__") (qah9 qar9) (.stmts (qag9 qar9)) (qaa9 qar9) 3 [] (.ref 366) .none .none (.str "fordbook.gates" 733) none (.ref 372) .none 0)) #[])
noncomputable def o_379 (P:Params):Obj:=cod "told" 760 "Gate.told" 761 762 277 4 0 0 3 374 181 375 .none (.ref 376) (.ref 377) 378 767 277 768
noncomputable def o_380 (P:Params):Obj:=(Obj.mk (.type "function") none (.func (.mk (.ofString "told") (.ofString "Gate.told") (qah9 qbo9) (.stmts (qag9 qbo9)) (qaa9 qbo9) 3 [] .none .none .none (.str "fordbook.gates" 733) none (.ref 379) .none 0)) #[])
noncomputable def o_386 (P:Params):Obj:=cod "need_left" 770 "Gate.need_left" 771 772 280 2 0 0 3 381 181 382 .none (.ref 383) (.ref 384) 385 775 280 776
noncomputable def o_387 (P:Params):Obj:=(Obj.mk (.type "function") none (.func (.mk (.ofString "need_left") (.ofString "Gate.need_left") (qah9 qau9) (.stmts (qag9 qau9)) (qaa9 qau9) 3 [] .none .none .none (.str "fordbook.gates" 733) none (.ref 386) .none 0)) #[])
noncomputable def o_393 (P:Params):Obj:=cod "need_ask" 778 "Gate.need_ask" 779 780 284 4 0 0 3 388 181 389 .none (.ref 390) (.ref 391) 392 785 284 786
noncomputable def o_394 (P:Params):Obj:=(Obj.mk (.type "function") none (.func (.mk (.ofString "need_ask") (.ofString "Gate.need_ask") (qah9 qdj9) (.stmts (qag9 qdj9)) (qaa9 qdj9) 3 [] .none .none .none (.str "fordbook.gates" 733) none (.ref 393) .none 0)) #[])
noncomputable def o_400 (P:Params):Obj:=cod "soonest" 788 "Gate.soonest" 789 790 287 4 0 0 3 395 181 396 .none (.ref 397) (.ref 398) 399 795 287 796
noncomputable def o_401 (P:Params):Obj:=(Obj.mk (.type "function") none (.func (.mk (.ofString "soonest") (.ofString "Gate.soonest") (qah9 qbb9) (.stmts (qag9 qbb9)) (qaa9 qbb9) 3 [] .none .none .none (.str "fordbook.gates" 733) none (.ref 400) .none 0)) #[])
noncomputable def o_407 (P:Params):Obj:=cod "plan" 798 "Gate.plan" 799 800 292 4 0 0 3 402 181 403 .none (.ref 404) (.ref 405) 406 806 292 807
noncomputable def o_408 (P:Params):Obj:=(Obj.mk (.type "function") none (.func (.mk (.ofString "plan") (.ofString "Gate.plan") (qah9 qbn9) (.stmts (qag9 qbn9)) (qaa9 qbn9) 3 [] .none .none .none (.str "fordbook.gates" 733) none (.ref 407) .none 0)) #[])
noncomputable def o_414 (P:Params):Obj:=cod "lets" 809 "Gate.lets" 810 811 298 5 0 0 3 409 181 410 .none (.ref 411) (.ref 412) 413 817 298 818
noncomputable def o_415 (P:Params):Obj:=(Obj.mk (.type "function") none (.func (.mk (.ofString "lets") (.ofString "Gate.lets") (qah9 qex9) (.stmts (qag9 qex9)) (qaa9 qex9) 3 [] .none .none .none (.str "fordbook.gates" 733) none (.ref 414) .none 0)) #[])
noncomputable def o_416 (P:Params):Obj:=(Obj.mk (.type "tuple") none (.seq #[(.str "day" 820),(.str "levels" 821),(.str "roads" 822),(.str "size" 823)] 0) #[])
noncomputable def o_417 (P:Params):Obj:=(Obj.mk (.type "dict") none (.dict #[(DictEntry.mk (PyData.keyHash P "__module__") (.str "__module__" 742) (.str "fordbook.gates" 733)),(DictEntry.mk (PyData.keyHash P "__firstlineno__") (.str "__firstlineno__" 746) (.int 269 745)),(DictEntry.mk (PyData.keyHash P "__init__") (.str "__init__" 759) (.ref 373)),(DictEntry.mk (PyData.keyHash P "told") (.str "told" 769) (.ref 380)),(DictEntry.mk (PyData.keyHash P "need_left") (.str "need_left" 777) (.ref 387)),(DictEntry.mk (PyData.keyHash P "need_ask") (.str "need_ask" 787) (.ref 394)),(DictEntry.mk (PyData.keyHash P "soonest") (.str "soonest" 797) (.ref 401)),(DictEntry.mk (PyData.keyHash P "plan") (.str "plan" 808) (.ref 408)),(DictEntry.mk (PyData.keyHash P "lets") (.str "lets" 819) (.ref 415)),(DictEntry.mk (PyData.keyHash P "__static_attributes__") (.str "__static_attributes__" 824) (.ref 416)),(DictEntry.mk (PyData.keyHash P "__dict__") (.str "__dict__" 826) (.ref 419)),(DictEntry.mk (PyData.keyHash P "__weakref__") (.str "__weakref__" 828) (.ref 420)),(DictEntry.mk (PyData.keyHash P "__doc__") (.str "__doc__" 829) .none)] 4) #[])
noncomputable def o_418 (P:Params):Obj:=(Obj.mk (.type "type") none (@PySem.Data.cls (@PySem.ClassData.mk (.ofString "Gate") [(.type "object")] [(.ref 418),(.type "object")] 417 (.ofString "Gate") @Bool.true [] [] @Bool.false none @Bool.false)) #[none,none,(@Option.some @PySem.Value (.str "Gate" 735)),(@Option.some @PySem.Value (.str "Gate" 743)),(@Option.some @PySem.Value (.builtin "object.__new__")),(@Option.some @PySem.Value (.bool @Bool.true))])
noncomputable def o_419 (P:Params):Obj:=(Obj.mk (.type "getset_descriptor") none (.fields #[(.str "__dict__" 825),(.ref 418),(.builtin "function.__dict__"),(.builtin "function.__dict__#set")]) #[])
noncomputable def o_420 (P:Params):Obj:=(Obj.mk (.type "getset_descriptor") none (.fields #[(.str "__weakref__" 827),(.ref 418),(.builtin "ExceptionGroup.__weakref__"),.none]) #[])
noncomputable def o_428 (P:Params):Obj:=cod "_law_cell_at" 834 "_law_cell_at" 835 836 301 2 0 0 3 423 181 424 .none (.ref 425) (.ref 426) 427 839 301 840
noncomputable def o_429 (P:Params):Obj:=(Obj.mk (.type "function") none (.func (.mk (.ofString "_law_cell_at") (.ofString "_law_cell_at") (qah9 qbp9) (.stmts (qag9 qbp9)) (qaa9 qbp9) 3 [] .none .none .none (.str "law_fordbook_k69_gates_keep_copies" 832) none (.ref 428) .none 0)) #[])
noncomputable def o_435 (P:Params):Obj:=cod "_law_day" 842 "_law_day" 843 844 305 1 0 0 3 430 181 431 .none (.ref 432) (.ref 433) 434 846 305 847
noncomputable def o_436 (P:Params):Obj:=(Obj.mk (.type "function") none (.func (.mk (.ofString "_law_day") (.ofString "_law_day") (qah9 qcy9) (.stmts (qag9 qcy9)) (qaa9 qcy9) 3 [] .none .none .none (.str "law_fordbook_k69_gates_keep_copies" 832) none (.ref 435) .none 0)) #[])
noncomputable def o_442 (P:Params):Obj:=cod "_law_way" 849 "_law_way" 850 851 311 2 0 0 3 437 181 438 .none (.ref 439) (.ref 440) 441 859 311 860
noncomputable def o_443 (P:Params):Obj:=(Obj.mk (.type "function") none (.func (.mk (.ofString "_law_way") (.ofString "_law_way") (qah9 qda9) (.stmts (qag9 qda9)) (qaa9 qda9) 3 [] .none .none .none (.str "law_fordbook_k69_gates_keep_copies" 832) none (.ref 442) .none 0)) #[])
noncomputable def o_449 (P:Params):Obj:=cod "_law_net" 862 "_law_net" 863 864 323 2 0 0 3 444 181 445 .none (.ref 446) (.ref 447) 448 879 323 880
noncomputable def o_450 (P:Params):Obj:=(Obj.mk (.type "function") none (.func (.mk (.ofString "_law_net") (.ofString "_law_net") (qah9 qdg9) (.stmts (qag9 qdg9)) (qaa9 qdg9) 3 [] .none .none .none (.str "law_fordbook_k69_gates_keep_copies" 832) none (.ref 449) .none 0)) #[])
noncomputable def o_461 (P:Params):Obj:=cod "_law_copy" 893 "_law_copy" 894 895 354 1 0 0 3 458 181 459 .none .none .none 460 896 354 897
noncomputable def o_462 (P:Params):Obj:=(Obj.mk (.type "function") none (.func (.mk (.ofString "_law_copy") (.ofString "_law_copy") (qah9 qcn9) (.stmts (qag9 qcn9)) (qaa9 qcn9) 3 [] .none .none .none (.str "law_fordbook_k69_gates_keep_copies" 832) none (.ref 461) .none 0)) #[])
noncomputable def o_468 (P:Params):Obj:=cod "_law_spoil" 899 "_law_spoil" 900 901 356 3 0 0 3 463 181 464 .none (.ref 465) (.ref 466) 467 908 356 909
noncomputable def o_469 (P:Params):Obj:=(Obj.mk (.type "function") none (.func (.mk (.ofString "_law_spoil") (.ofString "_law_spoil") (qah9 qcd9) (.stmts (qag9 qcd9)) (qaa9 qcd9) 3 [] .none .none .none (.str "law_fordbook_k69_gates_keep_copies" 832) none (.ref 468) .none 0)) #[])
noncomputable def o_475 (P:Params):Obj:=cod "_law_refused" 911 "_law_refused" 912 913 362 2 0 0 3 470 181 471 .none (.ref 472) (.ref 473) 474 917 362 918
noncomputable def o_476 (P:Params):Obj:=(Obj.mk (.type "function") none (.func (.mk (.ofString "_law_refused") (.ofString "_law_refused") (qah9 qbq9) (.stmts (qag9 qbq9)) (qaa9 qbq9) 3 [] .none .none .none (.str "law_fordbook_k69_gates_keep_copies" 832) none (.ref 475) .none 0)) #[])
noncomputable def o_482 (P:Params):Obj:=cod "_law_all_told" 920 "_law_all_told" 921 922 369 3 0 0 3 477 181 478 .none (.ref 479) (.ref 480) 481 930 369 931
noncomputable def o_483 (P:Params):Obj:=(Obj.mk (.type "function") none (.func (.mk (.ofString "_law_all_told") (.ofString "_law_all_told") (qah9 qbm9) (.stmts (qag9 qbm9)) (qaa9 qbm9) 3 [] .none .none .none (.str "law_fordbook_k69_gates_keep_copies" 832) none (.ref 482) .none 0)) #[])
noncomputable def o_487 (P:Params):Obj:=cod "law" 933 "law" 934 935 378 1 0 0 3 484 181 485 .none .none .none 486 936 378 937
noncomputable def o_488 (P:Params):Obj:=(Obj.mk (.type "function") none (.func (.mk (.ofString "law") (.ofString "law") (qah9 qgn9) (.stmts (qag9 qgn9)) (qaa9 qgn9) 3 [] .none .none .none (.str "law_fordbook_k69_gates_keep_copies" 832) none (.ref 487) .none 0)) #[])
noncomputable def KK:Params->W.Frag:=fun P =>
 (nat_lit 2,o_2 P)::
 (nat_lit 3,o_3 P)::
 (nat_lit 20,o_20 P)::
 (nat_lit 21,o_21 P)::
 (nat_lit 22,o_22 P)::
 (nat_lit 29,o_29 P)::
 (nat_lit 30,o_30 P)::
 (nat_lit 31,o_31 P)::
 (nat_lit 32,o_32 P)::
 (nat_lit 35,o_35 P)::
 (nat_lit 42,o_29 P)::
 (nat_lit 43,o_43 P)::
 (nat_lit 44,o_44 P)::
 (nat_lit 47,o_35 P)::
 (nat_lit 54,o_29 P)::
 (nat_lit 55,o_55 P)::
 (nat_lit 56,o_56 P)::
 (nat_lit 59,o_35 P)::
 (nat_lit 66,o_29 P)::
 (nat_lit 67,o_67 P)::
 (nat_lit 68,o_68 P)::
 (nat_lit 71,o_35 P)::
 (nat_lit 78,o_29 P)::
 (nat_lit 79,o_79 P)::
 (nat_lit 80,o_80 P)::
 (nat_lit 88,o_88 P)::
 (nat_lit 89,o_89 P)::
 (nat_lit 93,o_93 P)::
 (nat_lit 94,o_94 P)::
 (nat_lit 98,o_98 P)::
 (nat_lit 99,o_99 P)::
 (nat_lit 105,o_105 P)::
 (nat_lit 106,o_106 P)::
 (nat_lit 112,o_112 P)::
 (nat_lit 113,o_113 P)::
 (nat_lit 117,o_117 P)::
 (nat_lit 118,o_118 P)::
 (nat_lit 122,o_122 P)::
 (nat_lit 123,o_123 P)::
 (nat_lit 129,o_129 P)::
 (nat_lit 130,o_130 P)::
 (nat_lit 136,o_136 P)::
 (nat_lit 137,o_137 P)::
 (nat_lit 141,o_141 P)::
 (nat_lit 142,o_142 P)::
 (nat_lit 148,o_148 P)::
 (nat_lit 149,o_149 P)::
 (nat_lit 155,o_155 P)::
 (nat_lit 156,o_156 P)::
 (nat_lit 162,o_162 P)::
 (nat_lit 163,o_163 P)::
 (nat_lit 169,o_169 P)::
 (nat_lit 170,o_170 P)::
 (nat_lit 176,o_176 P)::
 (nat_lit 177,o_177 P)::
 (nat_lit 183,o_183 P)::
 (nat_lit 184,o_184 P)::
 (nat_lit 190,o_190 P)::
 (nat_lit 191,o_191 P)::
 (nat_lit 197,o_197 P)::
 (nat_lit 198,o_198 P)::
 (nat_lit 204,o_204 P)::
 (nat_lit 205,o_205 P)::
 (nat_lit 209,o_209 P)::
 (nat_lit 210,o_210 P)::
 (nat_lit 216,o_216 P)::
 (nat_lit 217,o_217 P)::
 (nat_lit 223,o_223 P)::
 (nat_lit 224,o_224 P)::
 (nat_lit 230,o_230 P)::
 (nat_lit 231,o_231 P)::
 (nat_lit 237,o_237 P)::
 (nat_lit 238,o_238 P)::
 (nat_lit 244,o_244 P)::
 (nat_lit 245,o_245 P)::
 (nat_lit 251,o_251 P)::
 (nat_lit 252,o_252 P)::
 (nat_lit 258,o_258 P)::
 (nat_lit 259,o_259 P)::
 (nat_lit 263,o_263 P)::
 (nat_lit 264,o_264 P)::
 (nat_lit 268,o_268 P)::
 (nat_lit 269,o_269 P)::
 (nat_lit 273,o_273 P)::
 (nat_lit 274,o_274 P)::
 (nat_lit 280,o_280 P)::
 (nat_lit 281,o_281 P)::
 (nat_lit 287,o_287 P)::
 (nat_lit 288,o_288 P)::
 (nat_lit 294,o_294 P)::
 (nat_lit 295,o_295 P)::
 (nat_lit 301,o_301 P)::
 (nat_lit 302,o_302 P)::
 (nat_lit 308,o_308 P)::
 (nat_lit 309,o_309 P)::
 (nat_lit 315,o_315 P)::
 (nat_lit 316,o_316 P)::
 (nat_lit 322,o_322 P)::
 (nat_lit 323,o_323 P)::
 (nat_lit 329,o_329 P)::
 (nat_lit 330,o_330 P)::
 (nat_lit 336,o_336 P)::
 (nat_lit 337,o_337 P)::
 (nat_lit 343,o_343 P)::
 (nat_lit 344,o_344 P)::
 (nat_lit 350,o_350 P)::
 (nat_lit 351,o_351 P)::
 (nat_lit 357,o_357 P)::
 (nat_lit 358,o_358 P)::
 (nat_lit 366,o_366 P)::
 (nat_lit 372,o_372 P)::
 (nat_lit 373,o_373 P)::
 (nat_lit 379,o_379 P)::
 (nat_lit 380,o_380 P)::
 (nat_lit 386,o_386 P)::
 (nat_lit 387,o_387 P)::
 (nat_lit 393,o_393 P)::
 (nat_lit 394,o_394 P)::
 (nat_lit 400,o_400 P)::
 (nat_lit 401,o_401 P)::
 (nat_lit 407,o_407 P)::
 (nat_lit 408,o_408 P)::
 (nat_lit 414,o_414 P)::
 (nat_lit 415,o_415 P)::
 (nat_lit 416,o_416 P)::
 (nat_lit 417,o_417 P)::
 (nat_lit 418,o_418 P)::
 (nat_lit 419,o_419 P)::
 (nat_lit 420,o_420 P)::
 (nat_lit 428,o_428 P)::
 (nat_lit 429,o_429 P)::
 (nat_lit 435,o_435 P)::
 (nat_lit 436,o_436 P)::
 (nat_lit 442,o_442 P)::
 (nat_lit 443,o_443 P)::
 (nat_lit 449,o_449 P)::
 (nat_lit 450,o_450 P)::
 (nat_lit 461,o_461 P)::
 (nat_lit 462,o_462 P)::
 (nat_lit 468,o_468 P)::
 (nat_lit 469,o_469 P)::
 (nat_lit 475,o_475 P)::
 (nat_lit 476,o_476 P)::
 (nat_lit 482,o_482 P)::
 (nat_lit 483,o_483 P)::
 (nat_lit 487,o_487 P)::
 (nat_lit 488,o_488 P)::
 []
noncomputable def kAs:List Addr:=[2,3,20,21,22,29,30,31,32,35,42,43,44,47,54,55,56,59,66,67,68,71,78,79,80,88,89,93,94,98,99,105,106,112,113,117,118,122,123,129,130,136,137,141,142,148,149,155,156,162,163,169,170,176,177,183,184,190,191,197,198,204,205,209,210,216,217,223,224,230,231,237,238,244,245,251,252,258,259,263,264,268,269,273,274,280,281,287,288,294,295,301,302,308,309,315,316,322,323,329,330,336,337,343,344,350,351,357,358,366,372,373,379,380,386,387,393,394,400,401,407,408,414,415,416,417,418,419,420,428,429,435,436,442,443,449,450,461,462,468,469,475,476,482,483,487,488]
noncomputable def view:Program:={ PySem.Challenge.pw_fordbook_k69_gates_keep_copies with main:={ PySem.Challenge.pw_fordbook_k69_gates_keep_copies.main with body:=[top 0,top 2,top 3,top 4,top 5,top 6,top 8,top 9,top 10,top 11,top 13,top 14,top 15,top 16,top 17,top 18,top 20,top 21,top 22,top 23,top 25,top 26,top 27,top 28,top 29,top 31,top 32,top 33,top 34,top 35,top 36,top 37,top 38,top 40,top 41,top 42,top 43,top 44,top 45,top 47,top 48,top 49,top 50,top 51,top 53,top 54,top 55,top 56,top 58,top 60,top 61,top 62,top 63,top 64,top 65,top 66,top 67,top 68,top 69] } }
theorem k_ws:PySem.Challenge.rw_fordbook_k69_gates_keep_copies.wellSaid=true:=by
 kernel_rfl
theorem k_as (P:Params):kAs=(KK P).map (·.1):=by kernel_rfl
namespace Tt
open PySem PySem.W PySem.Calls PyProof.Rows
noncomputable def qib9 (tb:String->Option Builtin) (p:Program) (w:World) (n₀:Nat) (ann:Option Value):Nat->SharedT->Thread->Option SharedT
 | 0,_,_=>none
 | n+1,s,t=>match through t with
  | true=>some s
  | false=>match stepOk n₀ ann t with
   | false=>none
   | true=>match stepT (denote tb) p w s t with
    | some (s',t')=>qib9 tb p w n₀ ann n s' t'
    | none=>none
theorem qlf9 {tb:String->Option Builtin} {p:Program} {w:World} {n₀:Nat} {ann:Option Value}:∀ {n:Nat} {s s':SharedT} {t:Thread},qib9 tb p w n₀ ann n s t=some s'->topRun tb p w n₀ ann n s.abs t=some s'.abs
 | 0,_,_,_,h=>by cases h
 | n+1,s,s',t,h=>by
  unfold qib9 at h
  unfold topRun
  cases he:through t with
  | true=>rw [he] at h; cases h; rfl
  | false =>
   rw [he] at h
   cases hk:stepOk n₀ ann t with
   | false=>rw [hk] at h; cases h
   | true =>
    rw [hk] at h
    cases hs:stepT (denote tb) p w s t with
    | none=>rw [hs] at h; cases h
    | some r=>obtain ⟨s₂,t₂⟩:=r; rw [hs] at h; rw [stepT_spec hs]; exact qlf9 h
noncomputable def grow:List Obj->Nat->BT->BT
 | [],_,t=>t
 | o :: l,n,t=>grow l (n+1) (t.ins n o)
noncomputable def s0T (P:Params) (os:OsState):SharedT:=⟨grow (boot_heap P).objs.toList 0 .nil,11,{},Array.mk [],boot_drawn,boot_toks,os⟩
theorem s0_abs (P:Params) (os:OsState):(s0T P os).abs=⟨boot_heap P,Array.mk [],boot_drawn,boot_toks,os⟩:=by kernel_rfl
noncomputable def chk (p:Program) (h₀:Heap) (s:Shared):Bool:=staticsOk (importedModules p.main.body) h₀ s.heap && namesBound p s.heap && gensDone s && laidKept h₀ s.heap
theorem qoe9 (P:Params):((boot_heap P).isNs mainGlobals,(boot_heap P).objs.size,(boot_heap P).nsMap mainGlobals "__annotations__")=(true,11,some (.ref 6)):=by kernel_rfl
noncomputable def qRun (p:Program) (w:World) (n₀:Nat) (ann:Option Value):Nat->SharedT->Thread->Option SharedT
 | 0,_,_=>none
 | n+1,s,t=>match through t with
  | true=>some s
  | false=>match Fast.tw6613529449190102663 n₀ ann t with
   | false=>none
   | true=>match Fast.tw10156331382660048174 (Fast.tw11892475500146522536 Fast.tw14364793385576792824) p w s t with
    | some (s',t')=>qRun p w n₀ ann n s' t'
    | none=>none
theorem qRun_eq {p:Program} {w:World} {n₀:Nat} {ann:Option Value}:∀ (n:Nat) (s:SharedT) (t:Thread),qib9 treeTable p w n₀ ann n s t=qRun p w n₀ ann n s t
 | 0,_,_=>rfl
 | n+1,s,t=>by
  unfold qib9 qRun
  rw [<- Fast.te6613529449190102663,<- Fast.te10156331382660048174,<- Fast.te11892475500146522536,<- Fast.te14364793385576792824]
  simp only [qRun_eq n]
noncomputable def endsT (p:Program) (N:Nat) (w:World) (os:OsState):Option SharedT:=qRun p w 11 (some (.ref 6)) N (s0T w.params os) (topStub p)
theorem left_of {p:Program} {N:Nat} {β:Type} {obs:Shared->β} {good:World->β} (hb:opening p=plainProg p.main.scope.names) (hN:Nat.ble 600 N=true) (hf:∀ s,fenceModules? p s=some s)
  (h1:∀ w os,(endsT p N w os).map (fun s=>chk p (boot_heap w.params) s.abs)=some true)
  (h2:∀ w os,(endsT p N w os).map (fun s=>obs s.abs)=some (good w)):∀ w,(openEnds treeTable p w N).map obs=some (good w):=by
 intro w
 obtain ⟨⟨hp,gs,dr,tk,os⟩,e,e2⟩:=Option.map_eq_some_iff.mp (boot_open (N:=N) hb hN hf w)
 simp only [Prod.mk.injEq] at e2
 obtain ⟨rfl,rfl,rfl,rfl⟩:=e2
 obtain ⟨f1,f2,f3⟩:_/\_/\_:=by simpa only [Prod.mk.injEq] using qoe9 w.params
 obtain ⟨s,hs,h2'⟩:=Option.map_eq_some_iff.mp (h2 w os)
 have h1':=h1 w os
 rw [hs] at h1'
 have h1':chk p (boot_heap w.params) s.abs=true:=Option.some.inj h1'
 have r:=qlf9 ((qRun_eq _ _ _).trans hs)
 rw [s0_abs] at r
 unfold openEnds
 rw [e]
 show (topFrom treeTable p w N _).map obs=_
 have t:topFrom treeTable p w N ⟨boot_heap w.params,Array.mk [],boot_drawn,boot_toks,os⟩=some s.abs:=by
  unfold topFrom
  dsimp only
  rw [f1,f2,f3,r]
  show (match chk p (boot_heap w.params) s.abs with | true=>_ | false=>_)=_
  rw [h1']
 rw [t]
 exact congrArg some h2'
end Tt
theorem both {α β γ:Type} {o:Option α} {f:α->β} {g:α->γ} {b:β} {c:γ} (h1:o.map f=some b) (h2:o.map g=some c):o.map (fun s=>(f s,g s))=some (b,c):=by
 cases o with
 | none=>cases h1
 | some s =>
  cases h1
  cases h2
  rfl
open PySem PySem.W PySem.Spec PyProof.Rows in
theorem k_b:opening PySem.Challenge.rw_fordbook_k69_gates_keep_copies.row.prog=plainProg PySem.Challenge.rw_fordbook_k69_gates_keep_copies.row.prog.main.scope.names:=by kernel_rfl
open PySem PySem.W PySem.Spec PyProof.Rows in
theorem k_f (s:Shared):fenceModules? PySem.Challenge.rw_fordbook_k69_gates_keep_copies.row.prog s=some s:=by kernel_rfl
open PySem PySem.W PySem.Spec PyProof.Rows in
theorem k_c (w:World) (os:OsState):(Tt.endsT PySem.Challenge.rw_fordbook_k69_gates_keep_copies.row.prog 6660 w os).map (fun s=>Tt.chk PySem.Challenge.rw_fordbook_k69_gates_keep_copies.row.prog (boot_heap w.params) s.abs)=some true:=by kernel_rfl
open PySem PySem.W PySem.Spec PyProof.Rows in
theorem k_l1a (w:World) (os:OsState):(Tt.endsT PySem.Challenge.rw_fordbook_k69_gates_keep_copies.row.prog 6660 w os).map (fun s=>(Fast.tw4187177175401517315 My.view [] (importedModules PySem.Challenge.rw_fordbook_k69_gates_keep_copies.row.prog.main.body) (fun s=>W.xlAt My.view [] s && W.recOk (W.RowW.records (W.OpenRow.toRowW PySem.Challenge.rw_fordbook_k69_gates_keep_copies.row)) s) true s.abs).1)=some (openGood My.view []).1:=by kernel_rfl
open PySem PySem.W PySem.Spec PyProof.Rows in
theorem k_l1b (w:World) (os:OsState):(Tt.endsT PySem.Challenge.rw_fordbook_k69_gates_keep_copies.row.prog 6660 w os).map (fun s=>(Fast.tw4187177175401517315 My.view [] (importedModules PySem.Challenge.rw_fordbook_k69_gates_keep_copies.row.prog.main.body) (fun s=>W.xlAt My.view [] s && W.recOk (W.RowW.records (W.OpenRow.toRowW PySem.Challenge.rw_fordbook_k69_gates_keep_copies.row)) s) true s.abs).2.1)=some (openGood My.view []).2.1:=by kernel_rfl
open PySem PySem.W PySem.Spec PyProof.Rows in
theorem k_l1c (w:World) (os:OsState):(Tt.endsT PySem.Challenge.rw_fordbook_k69_gates_keep_copies.row.prog 6660 w os).map (fun s=>(Fast.tw4187177175401517315 My.view [] (importedModules PySem.Challenge.rw_fordbook_k69_gates_keep_copies.row.prog.main.body) (fun s=>W.xlAt My.view [] s && W.recOk (W.RowW.records (W.OpenRow.toRowW PySem.Challenge.rw_fordbook_k69_gates_keep_copies.row)) s) true s.abs).2.2.1)=some (openGood My.view []).2.2.1:=by kernel_rfl
open PySem PySem.W PySem.Spec PyProof.Rows in
theorem k_l1d (w:World) (os:OsState):(Tt.endsT PySem.Challenge.rw_fordbook_k69_gates_keep_copies.row.prog 6660 w os).map (fun s=>(Fast.tw4187177175401517315 My.view [] (importedModules PySem.Challenge.rw_fordbook_k69_gates_keep_copies.row.prog.main.body) (fun s=>W.xlAt My.view [] s && W.recOk (W.RowW.records (W.OpenRow.toRowW PySem.Challenge.rw_fordbook_k69_gates_keep_copies.row)) s) true s.abs).2.2.2)=some (openGood My.view []).2.2.2:=by kernel_rfl
open PySem PySem.W PySem.Spec PyProof.Rows in
theorem k_l1 (w:World) (os:OsState):(Tt.endsT PySem.Challenge.rw_fordbook_k69_gates_keep_copies.row.prog 6660 w os).map (fun s=>openSeen My.view [] (importedModules PySem.Challenge.rw_fordbook_k69_gates_keep_copies.row.prog.main.body) (fun s=>W.xlAt My.view [] s && W.recOk (W.RowW.records (W.OpenRow.toRowW PySem.Challenge.rw_fordbook_k69_gates_keep_copies.row)) s) true s.abs)=some (openGood My.view []):=by
 rw [Fast.te4187177175401517315]
 exact both (k_l1a w os) (both (k_l1b w os) (both (k_l1c w os) (k_l1d w os)))
open PySem PySem.W PySem.Spec PyProof.Rows in
theorem k_l2 (w:World) (os:OsState):(Tt.endsT PySem.Challenge.rw_fordbook_k69_gates_keep_copies.row.prog 6660 w os).map (fun s=>W.Hook.obs (W.kmHook My.KK My.kAs My.k_as [318,233,151,290]) s.abs)=some (W.Hook.val (W.kmHook My.KK My.kAs My.k_as [318,233,151,290]) w):=by kernel_rfl
theorem k_left:W.LeftO PySem.Challenge.rw_fordbook_k69_gates_keep_copies.row.prog My.view [] (fun s=>W.xlAt My.view [] s && W.recOk (W.RowW.records (W.OpenRow.toRowW PySem.Challenge.rw_fordbook_k69_gates_keep_copies.row)) s) (W.Hook.obs (W.kmHook My.KK My.kAs My.k_as [318,233,151,290])) (W.Hook.val (W.kmHook My.KK My.kAs My.k_as [318,233,151,290])) 6660:=Tt.left_of k_b rfl k_f k_c fun w os=>both (k_l1 w os) (k_l2 w os)
end My
namespace L2
open PySem PySem.Spec PyProof.Rows
noncomputable abbrev Key:=Sum Int Str
noncomputable def keyIs:Key->Value->Bool
 | .inl k,v=>Value.isInt k v
 | .inr x,v=>Value.isStrOf x v
noncomputable def keyH (w:World):Key->Int
 | .inl k=>hashInt k
 | .inr x=>hashStr w x
theorem qbt9:∀ {k:Key} {v:Value},keyIs k v=true->(∃ i t,k=Sum.inl i/\v=Value.int i t)\/(∃ x t,k=Sum.inr x/\v=Value.str x t)
 | .inl i,v,h=>by
  obtain ⟨t,e⟩:=Value.isInt_shape (k:=i) (v:=v) h
  exact .inl ⟨i,t,rfl,e⟩
 | .inr x,v,h=>by
  obtain ⟨t,e⟩:=Value.isStrOf_shape (x:=x) (v:=v) h
  exact .inr ⟨x,t,rfl,e⟩
theorem key_ll (a b:Int):decide ((Sum.inl a:Key)=Sum.inl b)=(a == b):=by
 by_cases e:a=b
 ·subst e; simp
 ·have h:¬ (Sum.inl a:Key)=Sum.inl b:=fun q=>e (Sum.inl.inj q)
  rw [decide_eq_false h]
  exact (beq_eq_false_iff_ne.mpr e).symm
theorem key_rr (a b:Str):decide ((Sum.inr a:Key)=Sum.inr b)=decide (a=b):=by
 by_cases e:a=b
 ·subst e; simp
 ·have h:¬ (Sum.inr a:Key)=Sum.inr b:=fun q=>e (Sum.inr.inj q)
  rw [decide_eq_false h,decide_eq_false e]
theorem key_lr (a:Int) (b:Str):decide ((Sum.inl a:Key)=Sum.inr b)=false:=decide_eq_false (fun q=>nomatch q)
theorem key_rl (a:Str) (b:Int):decide ((Sum.inr a:Key)=Sum.inl b)=false:=decide_eq_false (fun q=>nomatch q)
noncomputable def mixKind (prog:Program) (w:World):PySem.KeyKind prog w Key where
 is:=keyIs
 hash:=keyH w
 inj:=fun v a b ha hb=>by
  rcases qbt9 ha with ⟨i,t,rfl,rfl⟩ | ⟨x,t,rfl,rfl⟩
  ·rcases qbt9 hb with ⟨j,u,rfl,e⟩ | ⟨y,u,rfl,e⟩
   ·injection e with e1 _; rw [e1]
   ·exact nomatch e
  ·rcases qbt9 hb with ⟨j,u,rfl,e⟩ | ⟨y,u,rfl,e⟩
   ·exact nomatch e
   ·injection e with e1 _; rw [e1]
 byValue:=fun k v h=>by
  rcases qbt9 h with ⟨i,t,rfl,rfl⟩ | ⟨x,t,rfl,rfl⟩ <;> rfl
 pyHash:=fun hv h=>by
  rcases qbt9 hv with ⟨i,t,rfl,rfl⟩ | ⟨x,t,rfl,rfl⟩
  ·exact wpAny_pyHash_int h
  ·exact wpAny_pyHash_str h
 eqBool:=fun hu hv h=>by
  rcases qbt9 hu with ⟨i,t,rfl,rfl⟩ | ⟨x,t,rfl,rfl⟩
  ·rcases qbt9 hv with ⟨j,u,rfl,rfl⟩ | ⟨y,u,rfl,rfl⟩
   ·rw [key_ll] at h; exact wpAny_eqBool_int h
   ·rw [key_lr] at h; exact SeqAt.EqAt.int_str i t y u _ _ _ _ h
  ·rcases qbt9 hv with ⟨j,u,rfl,rfl⟩ | ⟨y,u,rfl,rfl⟩
   ·rw [key_rl] at h; exact SeqAt.EqAt.str_int x t j u _ _ _ _ h
   ·rw [key_rr] at h; exact wpAny_eqBool_str h
 «strs»:=fun k x t v h=>by
  rcases qbt9 h with ⟨i,u,rfl,e⟩ | ⟨y,u,rfl,e⟩
  ·exact nomatch e
  ·injection e with e1 _
   subst e1
   cases v <;> rfl
inductive V where
 | non | bl (b:Bool) | int (i:Int) | str (x:Str) | byt (b:Array UInt8) | flt (b:UInt64) | ref (a:Addr) | ty (n:String)
 deriving DecidableEq
noncomputable def RelV:V->Value->Prop
 | .non,u=>u=Value.none
 | .bl b,u=>u=Value.bool b
 | .int i,u=>∃ t,u=Value.int i t
 | .str x,u=>∃ t,u=Value.str x t
 | .byt b,u=>∃ t,u=Value.bytes b t
 | .flt b,u=>∃ t,u=Value.float b t
 | .ref a,u=>u=Value.ref a
 | .ty n,u=>u=Value.type n
noncomputable abbrev Vals:List V->List Value->Prop:=Paired RelV
theorem Vals.length {xs:List V} {us:List Value} (r:Vals xs us):xs.length=us.length:=Paired.length r
theorem Vals.get:∀ {xs:List V} {us:List Value} {i:Nat} {x:V},Vals xs us->xs[i]?=some x->∃ u,us[i]?=some u/\RelV x u
 | _,_,_,_,.nil,e=>by simp at e
 | _,_,0,_,.cons r _,e=>by simp at e; subst e; exact ⟨_,rfl,r⟩
 | _,_,i+1,x,.cons _ t,e=>by
  obtain ⟨u,h1,h2⟩:=Vals.get (i:=i) (x:=x) t (by simpa using e)
  exact ⟨u,by simpa using h1,h2⟩
theorem Vals.set {x:V} {u:Value} (r:RelV x u):∀ {xs:List V} {us:List Value} (i:Nat),Vals xs us->Vals (xs.set i x) (us.set i u)
 | _,_,_,.nil=>.nil
 | _,_,0,.cons _ t=>.cons r t
 | _,_,i+1,.cons q t=>.cons q (Vals.set r i t)
theorem Vals.append:∀ {xs ys:List V} {us ws:List Value},Vals xs us->Vals ys ws->Vals (xs ++ ys) (us ++ ws)
 | _,_,_,_,.nil,s=>s
 | _,_,_,_,.cons r t,s=>.cons r (Vals.append t s)
theorem Vals.take:∀ {xs:List V} {us:List Value} (n:Nat),Vals xs us->Vals (xs.take n) (us.take n)
 | _,_,0,_=>.nil
 | _,_,_+1,.nil=>.nil
 | _,_,n+1,.cons r t=>.cons r (Vals.take n t)
theorem Vals.drop:∀ {xs:List V} {us:List Value} (n:Nat),Vals xs us->Vals (xs.drop n) (us.drop n)
 | _,_,0,r=>r
 | _,_,_+1,.nil=>.nil
 | _,_,n+1,.cons _ t=>Vals.drop n t
noncomputable def RelO:Option V->Option Value->Prop
 | some v,some u=>RelV v u
 | none,none=>True
 | _,_=>False
noncomputable def KV {κ:Type}:List (κ × V)->List (κ × Value)->Prop:=Paired fun (p:κ × V) (q:κ × Value)=>p.1=q.1/\RelV p.2 q.2
noncomputable def kV:Key->V
 | .inl i=>.int i
 | .inr x=>.str x
inductive HO where
  | lst (xs:List V)
  | tup (xs:List V)
  | dK (kvs:List (Key × V)) | dT (kvs:List (List Key × V))
  | set (S:Int->Bool) (n:Nat)
  | ins (C dx:Addr) (fs:List (Str × V))
  | own (x:Addr)
  | xd (fs:List (Str × V))
  | met (f x:Addr)
  | rng (lo hi:Int)
  | frz (o:Obj) (u:HO)
  | tbl (ps:Array Value)
  | ext (φ:Heap->Prop)
noncomputable abbrev Hp:=Addr->Option HO
noncomputable def upd (H:Hp) (a:Addr) (o:HO):Hp:=fun b=>if b=a then some o else H b
theorem qaf9 {H:Hp} {a:Addr} {o:HO}:upd H a o a=some o:=by unfold upd; rw [if_pos rfl]
theorem qao9 {H:Hp} {a b:Addr} {o:HO} (h:b ≠ a):upd H a o b=H b:=by unfold upd; rw [if_neg h]
theorem qax9 {H:Hp} {a b:Addr} {o:HO} (h:H a=some o) (h':H b=none):a ≠ b:=by
 intro e; subst e; rw [h] at h'; cases h'
section
variable (P:Program) (w:World)
noncomputable def ObjOk (H:Hp) (h:Heap) (a:Addr):HO->Prop
 | .lst xs=>xs.length<=sizeLine/\∃ (its:List Value) (n:Nat),Vals xs its/\h.get? a=some { cls:=.type "list",data:=.seq its.toArray n }
 | .tup xs=>xs.length<=sizeLine/\∃ its:List Value,Vals xs its/\IsTup h a its.toArray
 | .dK kvs=>kvs.length<=sizeLine/\(a == sysModules)=false/\∃ vs,KV kvs vs/\h.DictOf (mixKind P w) a vs
 | .dT kvs=>kvs.length<=sizeLine/\(a == sysModules)=false/\∃ xs:List (List Key × Addr × Value),
   Paired (fun (p:List Key × V) (q:List Key × Addr × Value)=>p.1=q.1/\H q.2.1=some (.tup (p.1.map kV))/\RelV p.2 q.2.2) kvs xs /\
   ∃ o es ep,h.get? a=some o/\o.ExactDict/\o.data=.dict es ep/\es.toList=xs.map (entryOfKey (tupleKind (mixKind P w)))/\(xs.map (·.1)).Nodup
 | .set S n=>h.SetOf (intKind P w) a S n
 | .ins C dx fs=>H dx=some (.own a)/\fs.length<=1000/\dx ≠ a/\h.get? a=some (W.instObj C dx) /\
   ∃ mA,h.Ns1 dx mA/\(∀ f,RelO (fs.lookup f) (mA f))/\PySem.Within mA (fs.map (·.1))
 | .own _=>∃ o,h.get? a=some o
 | .xd fs=>∃ mA,h.Ns1 a mA/\∀ f,RelO (fs.lookup f) (mA f)
 | .rng lo hi=>∃ t u v,h.get? a=some { cls:=.type "range",data:=.fields #[.int lo t,.int hi u,.int 1 v] }
 | .frz o u=>h.get? a=some o/\ObjOk H h a u
 | .tbl ps=>h.get? a=some { cls:=.none,data:=.fields ps }
 | .met f x=>h.get? a=some (W.methodObj (.ref f) (.ref x))
 | .ext φ=>φ h/\(∃ o,h.get? a=some o)/\∀ h1 h2:Heap,φ h1->(∀ o,h1.get? a=some o->h2.get? a=some o)->φ h2
noncomputable def HOk (H:Hp) (h:Heap):Prop:=∀ a o,H a=some o->ObjOk P w H h a o
end
section
variable {P:Program} {w:World} {H H':Hp} {h h':Heap} {a:Addr} {o:HO}
theorem ObjOk.lt (x:ObjOk P w H h a o):a < h.objs.size:=by
 cases o with
 | lst xs=>obtain ⟨_,_,_,_,e⟩:=x; exact Heap.lt_size e
 | tup xs=>obtain ⟨_,_,_,p⟩:=x; exact p.lt
 | dK kvs=>obtain ⟨_,_,_,_,o,_,_,e,_⟩:=x; exact Heap.lt_size e
 | dT kvs=>obtain ⟨_,_,_,_,o,_,_,e,_⟩:=x; exact Heap.lt_size e
 | set S n=>obtain ⟨o,_,_,_,e,_⟩:=x; exact Heap.lt_size e
 | ins C dx fs=>obtain ⟨_,_,_,e,_⟩:=x; exact Heap.lt_size e
 | own y=>obtain ⟨_,e⟩:=x; exact Heap.lt_size e
 | xd fs=>obtain ⟨_,⟨_,_,_,e,_⟩,_⟩:=x; exact Heap.lt_size e
 | rng lo hi=>obtain ⟨_,_,_,e⟩:=x; exact Heap.lt_size e
 | frz ob u=>obtain ⟨e,_⟩:=x; exact Heap.lt_size e
 | tbl ps=>exact Heap.lt_size (show h.get? a=some _ from x)
 | met f y=>exact Heap.lt_size (show h.get? a=some _ from x)
 | ext φ=>obtain ⟨_,⟨_,e⟩,_⟩:=x; exact Heap.lt_size e
theorem Paired.mapP {α β:Type} {F G:α->β->Prop}:∀ {l₁:List α} {l₂:List β},Paired F l₁ l₂->(∀ a b,F a b->G a b)->Paired G l₁ l₂
 | _,_,.nil,_=>.nil
 | _,_,.cons r t,f=>.cons (f _ _ r) (Paired.mapP t f)
theorem ObjOk.stay (x:ObjOk P w H h a o) (k:∀ b u,(b=a\/H b=some (.own a))->h.get? b=some u->h'.get? b=some u)
  (ho:∀ b,H b=some (.own a)->H' b=some (.own a)) (ht:∀ b xs,H b=some (.tup xs)->H' b=some (.tup xs)):ObjOk P w H' h' a o:=by
 induction o with
 | lst xs=>obtain ⟨z,its,n,r,e⟩:=x; exact ⟨z,its,n,r,k _ _ (.inl rfl) e⟩
 | tup xs=>obtain ⟨z,its,r,ob,e,c⟩:=x; exact ⟨z,its,r,ob,k _ _ (.inl rfl) e,c⟩
 | dK kvs=>obtain ⟨z,y,vs,r,ob,es,ep,e,c⟩:=x; exact ⟨z,y,vs,r,ob,es,ep,k _ _ (.inl rfl) e,c⟩
 | dT kvs =>
  obtain ⟨z,y,xs,r,ob,es,ep,e,c⟩:=x
  exact ⟨z,y,xs,Paired.mapP r fun p q z=>⟨z.1,ht _ _ z.2.1,z.2.2⟩,ob,es,ep,k _ _ (.inl rfl) e,c⟩
 | set S n=>obtain ⟨ob,es,ep,t,e,c⟩:=x; exact ⟨ob,es,ep,t,k _ _ (.inl rfl) e,c⟩
 | ins C dx fs =>
  obtain ⟨d,z,ne,e,mA,⟨od,es,ep,e2,c⟩,r⟩:=x
  exact ⟨ho _ d,z,ne,k _ _ (.inl rfl) e,mA,⟨od,es,ep,k _ _ (.inr d) e2,c⟩,r⟩
 | own y=>obtain ⟨ob,e⟩:=x; exact ⟨ob,k _ _ (.inl rfl) e⟩
 | xd fs=>obtain ⟨mA,⟨od,es,ep,e,c⟩,r⟩:=x; exact ⟨mA,⟨od,es,ep,k _ _ (.inl rfl) e,c⟩,r⟩
 | rng lo hi=>obtain ⟨t,u,v,e⟩:=x; exact ⟨t,u,v,k _ _ (.inl rfl) e⟩
 | frz ob u ih=>obtain ⟨e,q⟩:=x; exact ⟨k _ _ (.inl rfl) e,ih q⟩
 | tbl ps =>
  have e:h.get? a=some { cls:=.none,data:=.fields ps }:=x
  show h'.get? a=some { cls:=.none,data:=.fields ps }
  exact k a _ (.inl rfl) e
 | met f y =>
  have e:h.get? a=some (W.methodObj (.ref f) (.ref y)):=x
  show h'.get? a=some (W.methodObj (.ref f) (.ref y))
  exact k a _ (.inl rfl) e
 | ext φ=>obtain ⟨p,⟨o,e⟩,st⟩:=x; exact ⟨st _ _ p fun o q=>k _ _ (.inl rfl) q,⟨o,k _ _ (.inl rfl) e⟩,st⟩
theorem HOk.lt (x:HOk P w H h) (e:H a=some o):a < h.objs.size:=(x a o e).lt
theorem HOk.fresh (x:HOk P w H h) (e:h.objs.size<=a):H a=none:=by
 cases q:H a with
 | none=>rfl
 | some u=>exact absurd (Nat.lt_of_lt_of_le (x.lt q) e) (Nat.lt_irrefl _)
theorem HOk.kept (x:HOk P w H h) (k:∀ b u,h.get? b=some u->h'.get? b=some u):HOk P w H h':=fun a o e =>
 (x a o e).stay (fun b u _ q=>k b u q) (fun _ q=>q) fun _ _ q=>q
theorem HOk.laid (x:HOk P w H h) (k:∀ b u,h.get? b=some u->h'.get? b=some u) (hp:h.objs.size<=a) (new:ObjOk P w (upd H a o) h' a o):HOk P w (upd H a o) h':=fun b u e=>by
 have hn:=x.fresh hp
 by_cases hb:b=a
 ·subst hb; rw [qaf9] at e; cases e; exact new
 ·rw [qao9 hb] at e
  exact (x b u e).stay (fun c v _ q=>k c v q) (fun c q=>by rw [qao9 (qax9 q hn)]; exact q) fun c xs q=>by rw [qao9 (qax9 q hn)]; exact q
end
noncomputable def Rd (H:Hp) (a:Addr) (u:HO):Prop:=H a=some u\/∃ o,H a=some (.frz o u)
theorem Rd.ok {P:Program} {w:World} {H:Hp} {h:Heap} {a:Addr} {u:HO} (r:Rd H a u) (x:HOk P w H h):ObjOk P w H h a u:=by
 rcases r with r | ⟨o,r⟩
 ·exact x a u r
 ·obtain ⟨_,q⟩:=x a _ r
  exact q
noncomputable def Mut:Option HO->Prop
 | some (.lst _)=>True
 | some (.dK _)=>True
 | some (.dT _)=>True
 | some (.set _ _)=>True
 | some (.ins _ _ _)=>True
 | some (.ext _)=>True
 | _=>False
section
variable {P:Program} {w:World} {H:Hp} {h h':Heap} {x e:Addr} {o':HO}
theorem HOk.write (ok:HOk P w H h) (mu:Mut (H x)) (he:e=x\/H e=some (.own x)) (k:∀ b u,b ≠ e->h.get? b=some u->h'.get? b=some u) (heo:∃ u,h'.get? e=some u)
  (new:ObjOk P w (upd H x o') h' x o'):HOk P w (upd H x o') h':=fun b u q=>by
 have nown:∀ c y,H c=some (.own y)->c ≠ x:=fun c y r z=>by subst z; rw [r] at mu; exact mu
 have ntup:∀ c xs,H c=some (.tup xs)->c ≠ x:=fun c xs r z=>by subst z; rw [r] at mu; exact mu
 by_cases hb:b=x
 ·subst hb; rw [qaf9] at q; cases q; exact new
 ·rw [qao9 hb] at q
  by_cases hbe:b=e
  ·have q':H b=some (.own x):=by
    rcases he with z | z
    ·exact absurd (hbe.trans z) hb
    ·rw [hbe]; exact z
   rw [q] at q'; cases q'
   obtain ⟨v,hv⟩:=heo
   exact ⟨v,by rw [hbe]; exact hv⟩
  ·refine (ok b u q).stay (fun c v hc r=>k c v ?_ r) (fun c r=>by rw [qao9 (nown c b r)]; exact r) fun c xs r=>by rw [qao9 (ntup c xs r)]; exact r
   rcases hc with rfl | hc
   ·exact hbe
   ·rintro rfl
    rcases he with z | z
    ·exact nown c b hc z
    ·rw [hc] at z; cases z; exact hb rfl
end
structure Un (fs ex:List Addr) (H H':Hp) (h h':Heap):Prop where
 keep:∀ b o,h.get? b=some o->H b=none->b ∉ fs->b ∉ ex->h'.get? b=some o
 slot:∀ b o,h.get? b=some o->H b=none->b∈fs->b ∉ ex->∃ sl,h'.get? b=some { o with slots:=sl }
 free:∀ b o,h.get? b=some o->H b=none->b ∉ ex->H' b=none
 there:∀ b o,h.get? b=some o->b ∉ ex->∃ o',h'.get? b=some o'
 tups:∀ b xs,H b=some (.tup xs)->H' b=some (.tup xs)
 frzs:∀ b o u,H b=some (.frz o u)->H' b=some (.frz o u)
 tbls:∀ b ps,H b=some (.tbl ps)->∃ more,H' b=some (.tbl (ps ++ more))
section
variable {fs fs' ex ex':List Addr} {H H1 H2:Hp} {h h1 h2 h':Heap} {a x e:Addr} {o:HO}
theorem Un.any (u:Un fs ex H H1 h h1) {b:Addr} {ob:Obj} (q:h.get? b=some ob) (n:H b=none) (hx:b ∉ ex):∃ sl,h1.get? b=some { ob with slots:=sl }:=by
 by_cases hb:b∈fs
 ·exact u.slot b ob q n hb hx
 ·exact ⟨ob.slots,u.keep b ob q n hb hx⟩
theorem Un.kept (k:∀ b u,h.get? b=some u->h'.get? b=some u):Un fs ex H H h h' :=
 ⟨fun b ob q _ _ _=>k b ob q,fun b ob q _ _ _=>⟨ob.slots,k b ob q⟩,fun _ _ _ n _=>n,fun b ob q _=>⟨ob,k b ob q⟩,fun _ _ q=>q,fun _ _ _ q=>q,fun _ ps q=>⟨#[],by rw [q]; simp⟩⟩
theorem Un.refl:Un fs ex H H h h:=Un.kept fun _ _ q=>q
theorem Un.laid (k:∀ b u,h.get? b=some u->h'.get? b=some u) (hp:h.objs.size<=a) (hn:H a=none):Un fs ex H (upd H a o) h h' where
 keep:=fun b u q _ _ _=>k b u q
 slot:=fun b u q _ _ _=>⟨u.slots,k b u q⟩
 free:=fun b u q n _=>by rw [qao9 (Nat.ne_of_lt (Nat.lt_of_lt_of_le (Heap.lt_size q) hp))]; exact n
 there:=fun b u q _=>⟨u,k b u q⟩
 tups:=fun b xs q=>by rw [qao9 (qax9 q hn)]; exact q
 frzs:=fun b u xs q=>by rw [qao9 (qax9 q hn)]; exact q
 tbls:=fun b ps q=>⟨#[],by rw [qao9 (qax9 q hn),q]; simp⟩
theorem Un.write (mu:Mut (H x)) (he:e=x\/H e=some (.own x)) (k:∀ b u,b ≠ e->h.get? b=some u->h'.get? b=some u) (heo:∃ u,h'.get? e=some u):Un fs ex H (upd H x o) h h':=by
 have hx:∀ b,H b=none->b ≠ x:=fun b n z=>by subst z; rw [n] at mu; exact mu
 have hb:∀ b,H b=none->b ≠ e:=fun b n z=>by
  subst z
  rcases he with r | r
  ·exact hx b n r
  ·rw [n] at r; cases r
 have hm:∀ b u,H b=some u->¬ Mut (some u)->b ≠ x:=fun b u q nm z=>by subst z; rw [q] at mu; exact nm mu
 refine ⟨fun b u q n _ _=>k b u (hb b n) q,fun b u q n _ _=>⟨u.slots,k b u (hb b n) q⟩,fun b u q n _=>by rw [qao9 (hx b n)]; exact n,fun b u q _=>?_,
  fun b xs q=>by rw [qao9 (hm b _ q fun z=>z)]; exact q,fun b u xs q=>by rw [qao9 (hm b _ q fun z=>z)]; exact q,fun b ps q=>⟨#[],by rw [qao9 (hm b _ q fun z=>z),q]; simp⟩⟩
 by_cases hbe:b=e
 ·subst hbe; exact heo
 ·exact ⟨u,k b u hbe q⟩
end
noncomputable def trk (h:Heap) (H:Hp):List Addr:=(List.range h.objs.size).filter fun a=>(H a).isSome
noncomputable def hidT (h:Heap) (H:Hp):Heap:=W.hideAll h (trk h H)
theorem hidT_size (h:Heap) (H:Hp):(hidT h H).objs.size=h.objs.size:=W.hideAll_size _ _
theorem hidT_get {h:Heap} {H:Hp} {b:Addr} {o:Obj} (e:h.get? b=some o) (n:H b=none):(hidT h H).get? b=some o :=
 W.hideAll_get _ e fun hm=>by
  have q:(H b).isSome=true:=(List.mem_filter.mp hm).2
  rw [n] at q; simp at q
theorem of_hidT {h:Heap} {H:Hp} {b:Addr} {o:Obj} (e:(hidT h H).get? b=some o):h.get? b=some o/\H b=none:=by
 have e':h.get? b=some o:=W.of_hideAll (trk h H) e
 refine ⟨e',?_⟩
 cases q:H b with
 | none=>rfl
 | some x =>
  have hm:b∈trk h H:=List.mem_filter.mpr ⟨List.mem_range.mpr (Heap.lt_size e'),by simp [q]⟩
  have z:(hidT h H).get? b=none:=W.hideAll_none (trk h H) hm
  rw [z] at e; cases e
noncomputable def allNews (g h:Heap) (L:Addr):List (Addr × Obj):=(List.range h.objs.size).filterMap fun a=>if a=L\/(g.get? a).isSome=true then none else (h.get? a).map fun o=>(a,o)
noncomputable def rest (g h:Heap) (L d:Addr):List (Addr × Obj):=(allNews g h L).filter fun p=>decide (p.1 ≠ d)
structure Mod (K:W.Frag) (mg:Str->Option Value) (base:Heap):Prop where
 kin:K.In base
 glob:base.Ns mainGlobals mg
 blt:∃ mb,base.Ns builtinsNs mb/\∀ x:Str,x ≠ "__name__" -> mb x=bootBuiltins x
 nolimit:base.NoLimit
structure Cx where
 prog:Program
 w:World
 K:W.Frag
 mg:Str->Option Value
 base:Heap
 A:Around
 N:List Str
 s₀:Shared
 H₀:Hp
 env:Env
 outer:List Env
 stack:List Env
 ex:List Addr
 fn:Str->Bool
 calm:Bool
 pn:List (Addr × Obj)
 xe:Value->Shared->Prop
noncomputable def frs (l:List Env):List Addr:=l.filterMap (·.frame)
noncomputable abbrev Cx.fs (X:Cx):List Addr:=frs X.outer
noncomputable def Vis (sc:Scope) (x:Str):Prop:=sc.names.lookup x=some .local\/sc.names.lookup x=some .cell\/sc.names.lookup x=some .free
noncomputable def Loc (sc:Scope) (x:Str):Prop:=sc.names.lookup x=some .local\/sc.names.lookup x=some .cell
noncomputable def Look (env:Env) (h:Heap) (m:Str->Option Value) (x:Str) (u:Value):Prop :=
 (env.kindOf x=some .local/\m x=some u)\/((env.kindOf x=some .cell\/env.kindOf x=some .free)/\∃ c,env.cells.lookup x=some c/\h.IsCell c (some u))
structure Cx.Ok (X:Cx):Prop where
 mod:Mod X.K X.mg X.base
 kind:X.env.scope.kind=.function
 glob:X.env.globals=mainGlobals
 blt:X.env.builtins=builtinsNs
 above:X.s₀.heap.objs.size<=X.env.locals
 inj:∀ x y c,X.env.cells.lookup x=some c->X.env.cells.lookup y=some c->x=y
 has:∀ x,(X.env.kindOf x=some .cell\/X.env.kindOf x=some .free)->∃ c,X.env.cells.lookup x=some c
 cab:∀ x c,X.fn x=true->X.env.cells.lookup x=some c->X.s₀.heap.objs.size<=c
 hd:X.calm=true->X.A.handled=none
 frames:X.A.frames=some X.stack
 stk:X.stack=X.outer\/(X.stack=X.env :: X.outer/\X.env.frame=some X.env.locals)
 exf:∀ b∈X.ex,b ≠ X.env.locals/\∀ x c,X.env.cells.lookup x=some c->c ≠ b
 bs:∀ b o,X.base.get? b=some o->X.s₀.heap.get? b=some o/\X.H₀ b=none
 bsz:X.base.objs.size<=X.s₀.heap.objs.size
 noex:∀ b o,X.base.get? b=some o->b ∉ X.ex
 exfs:∀ b∈X.ex,b ∉ X.fs
 funs:X.s₀.heap.FunFrames X.base X.outer
 frf:∀ b∈X.fs,X.H₀ b=none
structure Inv (X:Cx) (pins:List (Addr × Obj)) (σ:List (Option V)) (H:Hp) (s:Shared):Prop where
 ok:X.Ok
 os:s.os=X.s₀.os
 bare:AllBare s.gens
 base:Un X.fs X.ex X.H₀ H X.s₀.heap s.heap
 loc:∃ m,s.heap.Ns X.env.locals m/\∀ (i:Nat) (x:Str) (v:V),X.N[i]?=some x->σ[i]?=some (some v)->Vis X.env.scope x->∃ u,RelV v u/\Look X.env s.heap m x u
 cell:∀ x c,X.env.cells.lookup x=some c->∃ v,s.heap.IsCell c v
 free:H X.env.locals=none
 freeC:∀ x c,X.env.cells.lookup x=some c->H c=none
 pin:∀ p∈X.pn ++ pins,s.heap.get? p.1=some p.2/\H p.1=none/\p.1 ≠ X.env.locals/\p.1 ∉ X.fs/\∀ v,p.2.data ≠ .cell v
 hok:HOk X.prog X.w H s.heap
 len:σ.length=X.N.length
section
variable {X:Cx} {pins:List (Addr × Obj)} {σ:List (Option V)} {H H':Hp} {s:Shared} {h':Heap}
theorem Cx.Ok.nofr (ok:X.Ok) {b:Addr} {o:Obj} (e:X.base.get? b=some o):b ∉ X.fs:=fun hb=>by
 have:=(ok.funs.mem hb).1
 rw [e] at this; cases this
theorem Inv.bs (I:Inv X pins σ H s):∀ b o,X.base.get? b=some o->s.heap.get? b=some o/\H b=none:=fun b o e =>
 ⟨I.base.keep b o (I.ok.bs b o e).1 (I.ok.bs b o e).2 (I.ok.nofr e) (I.ok.noex b o e),I.base.free b o (I.ok.bs b o e).1 (I.ok.bs b o e).2 (I.ok.noex b o e)⟩
theorem Inv.bk (I:Inv X pins σ H s):∀ b o,X.base.get? b=some o->s.heap.get? b=some o:=fun b o e=>(I.bs b o e).1
theorem Inv.mod (I:Inv X pins σ H s):Mod X.K X.mg X.base:=I.ok.mod
theorem Inv.kIn (I:Inv X pins σ H s):X.K.In s.heap:=I.ok.mod.kin.keeps I.bk
theorem Inv.lt (I:Inv X pins σ H s):X.env.locals < s.heap.objs.size:=let ⟨_,hn,_⟩:=I.loc; hn.lt
theorem Inv.sz (I:Inv X pins σ H s):X.s₀.heap.objs.size<=s.heap.objs.size:=Nat.le_trans I.ok.above (Nat.le_of_lt I.lt)
theorem Inv.nofs (I:Inv X pins σ H s) {a:Addr} (h:s.heap.objs.size<=a):a ∉ X.fs:=fun hb=>by
 obtain ⟨_,o,ho,_⟩:=I.ok.funs.mem hb
 exact absurd (Nat.lt_of_lt_of_le (Heap.lt_size ho) (Nat.le_trans I.sz h)) (Nat.lt_irrefl _)
theorem Inv.cne (I:Inv X pins σ H s):∀ x c,X.env.cells.lookup x=some c->c ≠ X.env.locals:=fun x c e z=>by
 obtain ⟨v,o,ho,hd⟩:=I.cell x c e
 obtain ⟨m,⟨o',es,ep,ho',hd',_⟩,_⟩:=I.loc
 rw [z,ho'] at ho; cases ho; rw [hd'] at hd; cases hd
theorem Inv.funs (I:Inv X pins σ H s):s.heap.FunFrames X.base X.outer:=by
 have all:∀ (l:List Env),(∀ b∈frs l,b∈X.fs)->X.s₀.heap.FunFrames X.base l->s.heap.FunFrames X.base l:=by
  intro l
  induction l with
  | nil=>intro _ _; trivial
  | cons env r ih =>
   intro hs hl
   obtain ⟨hk,⟨L,o,hf,hn,ho,hd⟩,hr⟩:=hl
   have hL:L∈X.fs:=hs L (by unfold frs; rw [List.filterMap_cons,hf]; exact List.mem_cons_self)
   obtain ⟨sl,e⟩:=I.base.slot L o ho (I.ok.frf L hL) hL fun z=>I.ok.exfs L z hL
   exact ⟨hk,⟨L,_,hf,hn,e,hd⟩,ih (fun b hb=>hs b (by unfold frs; rw [List.filterMap_cons,hf]; exact List.mem_cons_of_mem _ hb)) hr⟩
 exact all X.outer (fun _ hb=>hb) I.ok.funs
theorem Inv.stack (I:Inv X pins σ H s):s.heap.FunFrames X.base X.stack:=by
 rcases I.ok.stk with e | ⟨e,hf⟩
 ·rw [e]; exact I.funs
 ·rw [e]
  obtain ⟨m,hn,_⟩:=I.loc
  refine .cons (by rw [I.ok.kind]; decide) hf hn ?_ I.funs
  exact Heap.get?_none_of_le (Nat.le_trans I.ok.bsz I.ok.above)
theorem Inv.stkSub (I:Inv X pins σ H s):∀ b∈frs X.stack,b∈X.env.locals :: X.fs:=fun b hb=>by
 rcases I.ok.stk with e | ⟨e,hf⟩
 ·rw [e] at hb; exact List.mem_cons_of_mem _ hb
 ·rw [e] at hb
  unfold frs at hb
  rw [List.filterMap_cons,hf] at hb
  exact hb
theorem Inv.stkFree (I:Inv X pins σ H s):∀ b∈frs X.stack,H b=none:=fun b hb=>by
 rcases List.mem_cons.mp (I.stkSub b hb) with e | hb
 ·rw [e]; exact I.free
 ·obtain ⟨_,o,ho,_⟩:=I.ok.funs.mem hb
  exact I.base.free b o ho (I.ok.frf b hb) fun z=>I.ok.exfs b z hb
theorem Inv.step {g':Array GenState} {t':Nat} {d':Drawn} {ch:List Addr} (I:Inv X pins σ H s)
  (hch:∀ b∈ch,(b∈X.ex\/X.s₀.heap.objs.size<=b)/\b ≠ X.env.locals/\(∀ x c,X.env.cells.lookup x=some c->c ≠ b)/\∀ p∈X.pn ++ pins,p.1 ≠ b)
  (keep:∀ b o,b ≠ X.env.locals->b ∉ X.fs->b ∉ ch->s.heap.get? b=some o->H b=none->h'.get? b=some o)
  (slot:∀ b o,b ≠ X.env.locals->b∈X.fs->b ∉ ch->s.heap.get? b=some o->H b=none->∃ sl,h'.get? b=some { o with slots:=sl }) (free:∀ b o,b ∉ ch->s.heap.get? b=some o->H b=none->H' b=none)
  (there:∀ b o,b ∉ ch->s.heap.get? b=some o->∃ o',h'.get? b=some o')
  (tups:∀ b xs,H b=some (.tup xs)->H' b=some (.tup xs)) (frzs:∀ b o u,H b=some (.frz o u)->H' b=some (.frz o u)) (tbls:∀ b ps,H b=some (.tbl ps)->∃ more,H' b=some (.tbl (ps ++ more)))
  (ns:∀ m,s.heap.Ns X.env.locals m->h'.Ns X.env.locals m) (hok:HOk X.prog X.w H' h') (hg:AllBare g') :
  Inv X pins σ H' { s with heap:=h',gens:=g',drawn:=d',toks:=t' }:=by
 have neL:∀ b o,X.s₀.heap.get? b=some o->b ≠ X.env.locals:=fun b o e=>Nat.ne_of_lt (Nat.lt_of_lt_of_le (Heap.lt_size e) I.ok.above)
 have neC:∀ b o,X.s₀.heap.get? b=some o->b ∉ X.ex->b ∉ ch:=fun b o e hx hb=>by
  rcases (hch b hb).1 with z | z
  ·exact hx z
  ·exact absurd (Nat.lt_of_lt_of_le (Heap.lt_size e) z) (Nat.lt_irrefl _)
 have cellK:∀ x c,X.env.cells.lookup x=some c->∀ v,s.heap.IsCell c v->h'.IsCell c v:=fun x c e v ⟨o,ho,hd⟩=>by
  have nch:c ∉ ch:=fun z=>(hch c z).2.2.1 x c e rfl
  by_cases hc:c∈X.fs
  ·obtain ⟨sl,q⟩:=slot c o (I.cne x c e) hc nch ho (I.freeC x c e)
   exact ⟨_,q,hd⟩
  ·exact ⟨o,keep c o (I.cne x c e) hc nch ho (I.freeC x c e),hd⟩
 refine ⟨I.ok,I.os,hg,⟨fun b o e n hb hx=>?_,fun b o e n hb hx=>?_,fun b o e n hx=>?_,fun b o e hx=>?_,fun b xs e=>tups b xs (I.base.tups b xs e),fun b o xs e=>frzs b o xs (I.base.frzs b o xs e),fun b ps e=>?_⟩,?_,fun x c e=>?_,?_,fun x c e=>?_,fun p hp=>?_,hok,I.len⟩
 ·exact keep b o (neL b o e) hb (neC b o e hx) (I.base.keep b o e n hb hx) (I.base.free b o e n hx)
 ·obtain ⟨sl,e1⟩:=I.base.slot b o e n hb hx
  obtain ⟨sl',e2⟩:=slot b _ (neL b o e) hb (neC b o e hx) e1 (I.base.free b o e n hx)
  exact ⟨sl',e2⟩
 ·obtain ⟨o',e1⟩:=I.base.there b o e hx
  exact free b o' (neC b o e hx) e1 (I.base.free b o e n hx)
 ·obtain ⟨o',e1⟩:=I.base.there b o e hx
  exact there b o' (neC b o e hx) e1
 ·obtain ⟨m1,e1⟩:=I.base.tbls b ps e
  obtain ⟨m2,e2⟩:=tbls b _ e1
  exact ⟨m1 ++ m2,by rw [e2,Array.append_assoc]⟩
 ·obtain ⟨m,hn,hl⟩:=I.loc
  refine ⟨m,ns m hn,fun i x v e1 e2 e3=>?_⟩
  obtain ⟨u,r,l⟩:=hl i x v e1 e2 e3
  refine ⟨u,r,?_⟩
  rcases l with l | ⟨k,c,e,z⟩
  ·exact .inl l
  ·exact .inr ⟨k,c,e,cellK x c e _ z⟩
 ·obtain ⟨v,z⟩:=I.cell x c e
  exact ⟨v,cellK x c e v z⟩
 ·obtain ⟨m,⟨o,_,_,ho,_⟩,_⟩:=I.loc
  exact free _ o (fun z=>(hch _ z).2.1 rfl) ho I.free
 ·obtain ⟨v,o,ho,hd⟩:=I.cell x c e
  exact free c o (fun z=>(hch c z).2.2.1 x c e rfl) ho (I.freeC x c e)
 ·obtain ⟨e,n,ne,nf,d⟩:=I.pin p hp
  have nch:p.1 ∉ ch:=fun z=>(hch p.1 z).2.2.2 p hp rfl
  exact ⟨keep p.1 p.2 ne nf nch e n,free p.1 p.2 nch e n,ne,nf,d⟩
theorem Inv.un {t':Nat} (I:Inv X pins σ H s) (u:Un X.fs [] H H' s.heap h') (hok:HOk X.prog X.w H' h'):Inv X pins σ H' { s with heap:=h',toks:=t' }:=by
 obtain ⟨m,⟨o,es,ep,ho,r⟩,_⟩:=id I.loc
 obtain ⟨sl,hL⟩:=u.any ho I.free (by simp)
 exact I.step (g':=s.gens) (d':=s.drawn) (ch:=[]) (fun _ z=>nomatch z) (fun b o _ hb _ e n=>u.keep b o e n hb (by simp)) (fun b o _ hb _ e n=>u.slot b o e n hb (by simp)) (fun b o _ e n=>u.free b o e n (by simp)) (fun b o _ e=>u.there b o e (by simp)) u.tups u.frzs u.tbls (fun m' hm=>by
  obtain ⟨o',es',ep',ho',r'⟩:=hm
  rw [ho] at ho'; cases ho'
  exact ⟨_,es',ep',hL,r'⟩) hok I.bare
theorem Inv.call {g':Array GenState} {t':Nat} {d':Drawn} {ch:List Addr} (I:Inv X pins σ H s) (u:Un (frs X.stack) ch H H' s.heap h') (hok:HOk X.prog X.w H' h') (hg:AllBare g')
  (hch:∀ b∈ch,(b∈X.ex\/X.s₀.heap.objs.size<=b)/\b ≠ X.env.locals/\(∀ x c,X.env.cells.lookup x=some c->c ≠ b)/\∀ p∈X.pn ++ pins,p.1 ≠ b) :
  Inv X pins σ H' { s with heap:=h',gens:=g',drawn:=d',toks:=t' }:=by
 obtain ⟨m,⟨o,es,ep,ho,r⟩,_⟩:=id I.loc
 obtain ⟨sl,hL⟩:=u.any ho I.free fun z=>(hch _ z).2.1 rfl
 exact I.step (ch:=ch) hch (fun b o hL hb hc e n=>u.keep b o e n (fun z=>(List.mem_cons.mp (I.stkSub b z)).elim hL hb) hc) (fun b o _ _ hc e n=>u.any e n hc) (fun b o hc e n=>u.free b o e n hc) (fun b o hc e=>u.there b o e hc) u.tups u.frzs u.tbls (fun m' hm=>by
  obtain ⟨o',es',ep',ho',r'⟩:=hm
  rw [ho] at ho'; cases ho'
  exact ⟨_,es',ep',hL,r'⟩) hok hg
theorem Inv.turned {t':Nat} {it:Addr} (I:Inv X pins σ H s) (k:∀ b o,b ≠ it->s.heap.get? b=some o->h'.get? b=some o) (hn:H it=none) (hL:it ≠ X.env.locals)
  (h1:it∈X.ex\/X.s₀.heap.objs.size<=it) (h2:∀ x c,X.env.cells.lookup x=some c->c ≠ it) (h3:∀ p∈X.pn ++ pins,p.1 ≠ it):Inv X pins σ H { s with heap:=h',toks:=t' }:=by
 have nit:∀ b u,H b=some u->b ≠ it:=fun b u e z=>by rw [z,hn] at e; cases e
 refine I.step (g':=s.gens) (d':=s.drawn) (ch:=[it]) (fun b hb=>?_) (fun b o _ _ hc e _=>k b o (fun z=>hc (by simp [z])) e) (fun b o _ _ hc e _=>⟨o.slots,k b o (fun z=>hc (by simp [z])) e⟩) (fun _ _ _ _ n=>n)
  (fun b o hc e=>⟨o,k b o (fun z=>hc (by simp [z])) e⟩) (fun _ _ e=>e) (fun _ _ _ e=>e) (fun b ps e=>⟨#[],by rw [e]; simp⟩) (fun m hm=>?_) (fun b u e=>?_) I.bare
 ·have e:b=it:=by simpa using hb
  subst e
  exact ⟨h1,hL,h2,h3⟩
 ·obtain ⟨o,es,ep,ho,r⟩:=hm
  exact ⟨o,es,ep,k _ o (Ne.symm hL) ho,r⟩
 ·refine (I.hok b u e).stay (fun c v hc q=>k c v ?_ q) (fun _ q=>q) fun _ _ q=>q
  rcases hc with z | z
  ·rw [z]; exact nit b u e
  ·exact nit c _ z
theorem Inv.tok (I:Inv X pins σ H s) (t:Nat):Inv X pins σ H { s with toks:=t }:=I.un (h':=s.heap) (t':=t) Un.refl I.hok
theorem Inv.kept {t':Nat} (I:Inv X pins σ H s) (k:∀ b u,s.heap.get? b=some u->h'.get? b=some u):Inv X pins σ H { s with heap:=h',toks:=t' }:=I.un (Un.kept k) (I.hok.kept k)
theorem Inv.laid {a:Addr} {o:HO} {t':Nat} (I:Inv X pins σ H s) (k:∀ b u,s.heap.get? b=some u->h'.get? b=some u) (hp:s.heap.objs.size<=a) (new:ObjOk X.prog X.w (upd H a o) h' a o) :
  Inv X pins σ (upd H a o) { s with heap:=h',toks:=t' }:=I.un (Un.laid k hp (I.hok.fresh hp)) (I.hok.laid k hp new)
theorem Inv.write {x e:Addr} {o:HO} {t':Nat} (I:Inv X pins σ H s) (mu:Mut (H x)) (he:e=x\/H e=some (.own x)) (k:∀ b u,b ≠ e->s.heap.get? b=some u->h'.get? b=some u) (heo:∃ u,h'.get? e=some u)
  (new:ObjOk X.prog X.w (upd H x o) h' x o):Inv X pins σ (upd H x o) { s with heap:=h',toks:=t' }:=I.un (Un.write mu he k heo) (I.hok.write mu he k heo new)
theorem Inv.weak {σ':List (Option V)} (I:Inv X pins σ H s) (hl:σ'.length=σ.length) (w:∀ (i:Nat) v,σ'[i]?=some (some v)->σ[i]?=some (some v)):Inv X pins σ' H s :=
 ⟨I.ok,I.os,I.bare,I.base,let ⟨m,hn,hl'⟩:=I.loc; ⟨m,hn,fun i x v e1 e2 e3=>hl' i x v e1 (w i v e2) e3⟩,I.cell,I.free,I.freeC,I.pin,I.hok,hl.trans I.len⟩
theorem Inv.pins_of {pins':List (Addr × Obj)} (I:Inv X pins σ H s) (h:∀ p∈pins',s.heap.get? p.1=some p.2/\H p.1=none/\p.1 ≠ X.env.locals/\p.1 ∉ X.fs/\∀ v,p.2.data ≠ .cell v):Inv X pins' σ H s :=
 ⟨I.ok,I.os,I.bare,I.base,I.loc,I.cell,I.free,I.freeC,fun p hp=>(List.mem_append.mp hp).elim (fun z=>I.pin p (List.mem_append_left _ z)) (h p),I.hok,I.len⟩
theorem qnj9 {N:List Str} (hN:N.Nodup) {i j:Nat} {x:Str} (a:N[i]?=some x) (b:N[j]?=some x):i=j:=by
 obtain ⟨h1,e1⟩:=List.getElem?_eq_some_iff.mp a
 obtain ⟨h2,e2⟩:=List.getElem?_eq_some_iff.mp b
 exact (List.getElem_inj hN).mp (e1.trans e2.symm)
theorem store_ok2 {M:Model} {A:Around} {E:Value->Shared->Prop} {i:Nat} {x:Str} {v:V} {u:Value} {Q:Unit->Shared->Prop} (I:Inv X pins σ H s) (hN:X.N.Nodup) (hi:X.N[i]?=some x) (hx:Loc X.env.scope x) (r:RelV v u)
  (h:∀ s',Inv X pins (σ.set i (some v)) H s'->(∃ a,Heap.SameBut a s.heap s'.heap/\(a=X.env.locals\/X.env.cells.lookup x=some a))->Q () s') (hf:X.fn x=true\/X.env.scope.names.lookup x=some .local:=by first | exact .inl rfl | exact .inr rfl | assumption):wpAny M A (storeName X.env x u) Q E s:=by
 obtain ⟨m,hn,hl⟩:=id I.loc
 have hcls:(X.env.scope.kind == .class || (X.env.scope.kind == .module && X.env.locals != X.env.globals))=false:=by rw [I.ok.kind]; rfl
 have hiσ:i < σ.length:=by rw [I.len]; exact (List.getElem?_eq_some_iff.mp hi).1
 have cne:=I.cne
 have tracked:∀ {a:Addr} {h':Heap},(∃ o,s.heap.get? a=some o/\H a=none)->Heap.SameBut a s.heap h'->HOk X.prog X.w H h':=fun {a h'} ha hs b ob e=>by
  obtain ⟨_,_,hfree⟩:=ha
  refine (I.hok b ob e).stay (fun c w' hc q=>(hs.2 c ?_).trans q) (fun _ q=>q) fun _ _ q=>q
  rintro rfl
  rcases hc with rfl | hc
  ·rw [hfree] at e; cases e
  ·rw [hfree] at hc; cases hc
 rcases hx with hk | hk
 ·refine wpAny_storeName_local hk hn (fun h' hn' hs=>?_) hcls
  obtain ⟨oL,_,_,hoL,_⟩:=id hn
  refine h _ ⟨I.ok,I.os,I.bare,⟨fun b o e n hb hx=>?_,fun b o e n hb hx=>?_,I.base.free,fun b o e hx=>?_,I.base.tups,I.base.frzs,I.base.tbls⟩,⟨_,hn',fun j y v' e1 e2 e3=>?_⟩,fun y c e=>?_,I.free,I.freeC,fun p hp=>?_,tracked ⟨oL,hoL,I.free⟩ hs,by simpa using I.len⟩ ⟨_,hs,.inl rfl⟩
  ·exact (hs.2 b (Nat.ne_of_lt (Nat.lt_of_lt_of_le (Heap.lt_size e) I.ok.above))).trans (I.base.keep b o e n hb hx)
  ·obtain ⟨sl,e1⟩:=I.base.slot b o e n hb hx
   exact ⟨sl,(hs.2 b (Nat.ne_of_lt (Nat.lt_of_lt_of_le (Heap.lt_size e) I.ok.above))).trans e1⟩
  ·obtain ⟨o',e1⟩:=I.base.there b o e hx
   exact ⟨o',(hs.2 b (Nat.ne_of_lt (Nat.lt_of_lt_of_le (Heap.lt_size e) I.ok.above))).trans e1⟩
  ·by_cases hj:j=i
   ·subst hj
    rw [hi] at e1; cases e1
    rw [List.getElem?_set_self hiσ] at e2
    cases e2
    exact ⟨u,r,.inl ⟨hk,by simp⟩⟩
   ·rw [List.getElem?_set_ne (Ne.symm hj)] at e2
    obtain ⟨u',r',q⟩:=hl j y v' e1 e2 e3
    refine ⟨u',r',?_⟩
    rcases q with ⟨k,e⟩ | ⟨k,c,e,z⟩
    ·refine .inl ⟨k,?_⟩
     have:y ≠ x:=fun e=>hj (qnj9 hN e1 (e ▸ hi))
     simp [this,e]
    ·exact .inr ⟨k,c,e,z.sameBut hs (cne y c e)⟩
  ·obtain ⟨w',z⟩:=I.cell y c e
   exact ⟨w',z.sameBut hs (cne y c e)⟩
  ·obtain ⟨e,n,ne,nf,d⟩:=I.pin p hp
   exact ⟨(hs.2 p.1 ne).trans e,n,ne,nf,d⟩
 ·have hfn:X.fn x=true:=by
   rcases hf with z | z
   ·exact z
   ·rw [z] at hk; cases hk
  obtain ⟨c,hc⟩:=I.ok.has x (.inl hk)
  obtain ⟨w',z⟩:=I.cell x c hc
  refine wpAny_storeName_cell I.ok.kind hk hc z (fun h' hc' hs=>?_)
  obtain ⟨oc,hoc,hocd⟩:=id z
  refine h { s with heap:=h' } ⟨I.ok,I.os,I.bare,⟨fun b o e n hb hx=>?_,fun b o e n hb hx=>?_,I.base.free,fun b o e hx=>?_,I.base.tups,I.base.frzs,I.base.tbls⟩,⟨m,hn.sameBut hs (Ne.symm (cne x c hc)),fun j y v' e1 e2 e3=>?_⟩,fun y c' e=>?_,I.free,I.freeC,fun p hp=>?_,tracked ⟨oc,hoc,I.freeC x c hc⟩ hs,by simpa using I.len⟩ ⟨c,hs,.inr hc⟩
  ·exact (hs.2 b (Nat.ne_of_lt (Nat.lt_of_lt_of_le (Heap.lt_size e) (I.ok.cab x c hfn hc)))).trans (I.base.keep b o e n hb hx)
  ·obtain ⟨sl,e1⟩:=I.base.slot b o e n hb hx
   exact ⟨sl,(hs.2 b (Nat.ne_of_lt (Nat.lt_of_lt_of_le (Heap.lt_size e) (I.ok.cab x c hfn hc)))).trans e1⟩
  ·obtain ⟨o',e1⟩:=I.base.there b o e hx
   exact ⟨o',(hs.2 b (Nat.ne_of_lt (Nat.lt_of_lt_of_le (Heap.lt_size e) (I.ok.cab x c hfn hc)))).trans e1⟩
  ·by_cases hj:j=i
   ·subst hj
    rw [hi] at e1; cases e1
    rw [List.getElem?_set_self hiσ] at e2
    cases e2
    exact ⟨u,r,.inr ⟨.inl hk,c,hc,hc'⟩⟩
   ·rw [List.getElem?_set_ne (Ne.symm hj)] at e2
    obtain ⟨u',r',q⟩:=hl j y v' e1 e2 e3
    refine ⟨u',r',?_⟩
    rcases q with q | ⟨k,c',e,z'⟩
    ·exact .inl q
    ·refine .inr ⟨k,c',e,z'.sameBut hs ?_⟩
     rintro rfl
     exact hj (qnj9 hN e1 (I.ok.inj _ _ _ e hc ▸ hi))
  ·by_cases hcc:c'=c
   ·subst hcc; exact ⟨_,hc'⟩
   ·obtain ⟨w2,z2⟩:=I.cell y c' e
    exact ⟨w2,z2.sameBut hs hcc⟩
  ·obtain ⟨e,n,ne,nf,d⟩:=I.pin p hp
   refine ⟨(hs.2 p.1 ?_).trans e,n,ne,nf,d⟩
   intro q
   rw [q,hoc] at e
   have q':oc=p.2:=Option.some.inj e
   exact d w' (by rw [<- q']; exact hocd)
theorem qjg9 {M:Model} {A:Around} {E:Value->Shared->Prop} {i:Nat} {x:Str} {v:V} {u:Value} {Q:Unit->Shared->Prop} (I:Inv X pins σ H s) (hN:X.N.Nodup) (hi:X.N[i]?=some x) (hx:Loc X.env.scope x) (r:RelV v u)
  (h:∀ s',Inv X pins (σ.set i (some v)) H s'->Q () s') (hf:X.fn x=true\/X.env.scope.names.lookup x=some .local:=by first | exact .inl rfl | exact .inr rfl | assumption):wpAny M A (storeName X.env x u) Q E s :=
 store_ok2 I hN hi hx r (fun s' I' _=>h s' I') hf
theorem Inv.call' {s':Shared} {ch:List Addr} (I:Inv X pins σ H s) (ho:s'.os=s.os) (u:Un (frs X.stack) ch H H' s.heap s'.heap) (hok:HOk X.prog X.w H' s'.heap) (hg:AllBare s'.gens)
  (hch:∀ b∈ch,(b∈X.ex\/X.s₀.heap.objs.size<=b)/\b ≠ X.env.locals/\(∀ x c,X.env.cells.lookup x=some c->c ≠ b)/\∀ p∈X.pn ++ pins,p.1 ≠ b):Inv X pins σ H' s':=by
 obtain ⟨h',g',d',t',o'⟩:=s'
 have e:o'=s.os:=ho
 subst e
 exact I.call (g':=g') (t':=t') (d':=d') u hok hg hch
end
noncomputable abbrev XK:=Value->Option Addr->Hp->Prop
noncomputable abbrev St:=List (Option V)
noncomputable abbrev VK:=V->Hp->Prop
noncomputable abbrev TE:=St->Hp->VK->Prop
noncomputable abbrev TT:=St->Hp->(Bool->Hp->Prop)->Prop
noncomputable abbrev TA:=St->Hp->(List V->Hp->Prop)->Prop
structure Ends where
 nx:St->Hp->Prop
 rt:VK
 bk:St->Hp->Prop:=fun _ _=>False
 ct:St->Hp->Prop:=fun _ _=>False
noncomputable abbrev TS:=Ends->St->Hp->Prop
noncomputable def EP (X:Cx) (pins:List (Addr × Obj)) (σ:St) (Q:VK) (u:Value) (s':Shared):Prop:=∃ v H',Inv X pins σ H' s'/\RelV v u/\Q v H'
noncomputable def TP (X:Cx) (pins:List (Addr × Obj)) (σ:St) (Q:Bool->Hp->Prop) (b:Bool) (s':Shared):Prop:=∃ H',Inv X pins σ H' s'/\Q b H'
noncomputable def AP (X:Cx) (pins:List (Addr × Obj)) (σ:St) (Q:List V->Hp->Prop) (us:List Value) (s':Shared):Prop:=∃ vs H',Inv X pins σ H' s'/\Vals vs us/\Q vs H'
noncomputable def SP (X:Cx) (pins:List (Addr × Obj)) (D:Ends) (f:Flow) (s':Shared):Prop :=
 match f with
 | .next=>∃ σ' H',Inv X pins σ' H' s'/\D.nx σ' H'
 | .brk=>∃ σ' H',Inv X pins σ' H' s'/\D.bk σ' H'
 | .cont=>∃ σ' H',Inv X pins σ' H' s'/\D.ct σ' H'
 | .ret u=>∃ v σ' H',Inv X pins σ' H' s'/\RelV v u/\D.rt v H'
noncomputable def PE (X:Cx) (e:Expr) (t:TE):Prop :=
 ∀ (pins:List (Addr × Obj)) (s:Shared) (σ:St) (H:Hp) (Q:VK),Inv X pins σ H s->t σ H Q->wpAny (model X.prog X.w) X.A (eval e X.env) (EP X pins σ Q) X.xe s
noncomputable def PT (X:Cx) (e:Expr) (t:TT):Prop :=
 ∀ (pins:List (Addr × Obj)) (s:Shared) (σ:St) (H:Hp) (Q:Bool->Hp->Prop),Inv X pins σ H s->t σ H Q->wpAny (model X.prog X.w) X.A (isTrue e X.env (eval e X.env)) (TP X pins σ Q) X.xe s
noncomputable def PW (X:Cx) (e:Expr) (t:TT):Prop :=
 ∀ (whole:Sem Value) (pins:List (Addr × Obj)) (s:Shared) (σ:St) (H:Hp) (Q:Bool->Hp->Prop),Inv X pins σ H s->t σ H Q->wpAny (model X.prog X.w) X.A (isTrue e X.env whole) (TP X pins σ Q) X.xe s
theorem PW.pt {X:Cx} {e:Expr} {t:TT} (h:PW X e t):PT X e t:=h _
noncomputable def PA (X:Cx) (es:List Expr) (t:TA):Prop :=
 ∀ (pos:Pos) (pins:List (Addr × Obj)) (s:Shared) (σ:St) (H:Hp) (Q:List V->Hp->Prop),Inv X pins σ H s->t σ H Q->wpAny (model X.prog X.w) X.A (spliced (backTo pos (starEach es X.env))) (AP X pins σ Q) X.xe s
noncomputable def PS (X:Cx) (st:Stmt) (t:TS):Prop :=
 ∀ (pins:List (Addr × Obj)) (s:Shared) (σ:St) (H:Hp) (D:Ends),Inv X pins σ H s->t D σ H->wpAny (model X.prog X.w) X.A (exec st X.env) (SP X pins D) X.xe s
noncomputable def PSs (X:Cx) (st:List Stmt) (t:TS):Prop :=
 ∀ (pins:List (Addr × Obj)) (s:Shared) (σ:St) (H:Hp) (D:Ends),Inv X pins σ H s->t D σ H->wpAny (model X.prog X.w) X.A (execs st X.env) (SP X pins D) X.xe s
theorem thn {α:Type} {t:Sem α} {Q Q':α->Shared->Prop} {M:Model} {A:Around} {E:Value->Shared->Prop} {s:Shared} (h:wpAny M A t Q E s) (hQ:∀ a s,Q a s->Q' a s):wpAny M A t Q' E s:=wpAny_mono h hQ fun _ _ x=>x
section
variable {X:Cx}
noncomputable def tVar (i:Nat):TE:=fun σ H Q=>∃ v,σ[i]?=some (some v)/\Q v H
noncomputable def tC (v:V):TE:=fun _ H Q=>Q v H
theorem pe_var {i:Nat} {x:Str} {pos:Pos} (hN:X.N[i]?=some x) (hv:Vis X.env.scope x) (hd:(x == ("__debug__" : Str))=false:=by decide) (hcd:(x == ("__classdict__" : Str))=false:=by decide):PE X (.Name x pos) (tVar i):=by
 intro pins s σ H Q I h
 obtain ⟨v,e,h⟩:=h
 obtain ⟨m,hn,hl⟩:=I.loc
 obtain ⟨u,r,l⟩:=hl i x v hN e hv
 have fin:EP X pins σ Q u s:=⟨v,H,I,r,h⟩
 rcases l with ⟨hk,hm⟩ | ⟨hk,c,hc,hcell⟩
 ·exact wpAny_Name (wpAny_loadName_local I.ok.kind hk hn hm fin) hd
 ·rcases hk with hk | hk
  ·exact wpAny_Name (wpAny_loadName_cell I.ok.kind hk hc hcell fin) hd
  ·exact wpAny_Name (wpAny_loadName_free I.ok.kind hk hc hcell fin hcd) hd
theorem pe_int {i j pos}:PE X (.Constant (.int i) j pos) (tC (.int i)):=fun _ _ _ H _ I h=>wpAny_Constant_int ⟨.int i,H,I.tok _,⟨_,rfl⟩,h⟩
theorem pe_bl {b j pos}:PE X (.Constant (.bool b) j pos) (tC (.bl b)):=fun _ _ _ H _ I h=>Constant_bool ⟨.bl b,H,I,rfl,h⟩
theorem pe_non {j pos}:PE X (.Constant .none j pos) (tC .non):=fun _ _ _ H _ I h=>Constant_none ⟨.non,H,I,rfl,h⟩
theorem pe_str {x j pos}:PE X (.Constant (.str x) j pos) (tC (.str x)):=fun _ _ _ H _ I h=>Calls.Constant_str ⟨.str x,H,I.tok _,⟨_,rfl⟩,h⟩
noncomputable def Gl (X:Cx) (x:Str):Prop:=X.env.kindOf x=some .globalImplicit
theorem qgz9 {E:Value->Shared->Prop} {pins:List (Addr × Obj)} {s:Shared} {σ:St} {H:Hp} {x:Str} {u:Value} {pos:Pos} {Q:Value->Shared->Prop} (I:Inv X pins σ H s) (hg:Gl X x) (hm:X.mg x=some u) (h:Q u s)
  (hd:(x == ("__debug__" : Str))=false:=by decide):wpAny (model X.prog X.w) X.A (eval (.Name x pos) X.env) Q E s :=
 Calls.Name_function_global I.ok.kind hg (Calls.loadGlobal_global (by rw [I.ok.glob]; exact I.mod.glob.keeps I.bk) hm h) hd
theorem qnd9 {E:Value->Shared->Prop} {pins:List (Addr × Obj)} {s:Shared} {σ:St} {H:Hp} {x:Str} {u:Value} {pos:Pos} {Q:Value->Shared->Prop} (I:Inv X pins σ H s) (hg:Gl X x) (hm:X.mg x=none) (hv:bootBuiltins x=some u) (h:Q u s)
  (hn:x ≠ "__name__" := by decide) (hd:(x == ("__debug__" : Str))=false:=by decide):wpAny (model X.prog X.w) X.A (eval (.Name x pos) X.env) Q E s:=by
 obtain ⟨mb,h1,h2⟩:=I.mod.blt
 exact Calls.Name_function_global I.ok.kind hg (Calls.loadGlobal_builtin (by rw [I.ok.glob]; exact I.mod.glob.keeps I.bk) hm (by rw [I.ok.blt]; exact h1.keeps I.bk) ((h2 x hn).trans hv) h) hd
theorem pe_bltn {x:Str} {v:V} {u:Value} {pos:Pos} (hg:Gl X x) (hm:X.mg x=none) (hv:bootBuiltins x=some u) (r:RelV v u) (hn:x ≠ "__name__" := by decide) (hd:(x == ("__debug__" : Str))=false:=by decide):PE X (.Name x pos) (tC v) :=
 fun _ _ _ H _ I h=>qnd9 I hg hm hv ⟨v,H,I,r,h⟩ hn hd
variable {a b:Expr} {ta tb:TE} {pos:Pos}
noncomputable def PC (X:Cx) (op:CmpOp) (a b:Expr) (t:TE):Prop :=
 ∀ (pins:List (Addr × Obj)) (s:Shared) (σ:St) (H:Hp) (Q:VK),Inv X pins σ H s->t σ H Q ->
  wpAny (model X.prog X.w) X.A (eval a X.env) (fun v s₁=>wpAny (model X.prog X.w) X.A (eval b X.env) (fun u s₂=>wpAny (model X.prog X.w) X.A (compareOp op v u) (EP X pins σ Q) X.xe s₂) X.xe s₁) X.xe s
theorem qnn9 (b:Expr) {op:CmpOp} (h:op ≠ .In) (h2:op ≠ .NotIn):behindInMarks op b=false:=by
 have e1:(op == CmpOp.In)=false:=by cases op <;> first | rfl | exact absurd rfl h
 have e2:(op == CmpOp.NotIn)=false:=by cases op <;> first | rfl | exact absurd rfl h2
 cases b <;> simp [behindInMarks,e1,e2]
noncomputable def tIsN (ta:TE):TE:=fun σ H Q=>ta σ H fun x H1=>Q (.bl (decide (x=.non))) H1
noncomputable def tNotN (ta:TE):TE:=fun σ H Q=>ta σ H fun x H1=>Q (.bl (!decide (x=.non))) H1
theorem RelV.none_iff {x:V} {v:Value} (r:RelV x v):(v == Value.none)=decide (x=.non):=by
 cases x with
 | non=>cases r; rfl
 | bl _=>cases r; rfl
 | int _=>obtain ⟨t,rfl⟩:=r; rfl
 | str _=>obtain ⟨t,rfl⟩:=r; rfl
 | byt _=>obtain ⟨t,rfl⟩:=r; rfl
 | flt _=>obtain ⟨t,rfl⟩:=r; rfl
 | ref _=>cases r; rfl
 | ty _=>cases r; rfl
theorem pc_isN {j pos'} (ha:PE X a ta):PC X .Is a (.Constant .none j pos') (tIsN ta):=by
 intro pins s σ H Q I h
 refine thn (ha pins s σ H _ I h) fun v s1 ⟨x,H1,I1,r1,q1⟩=>?_
 exact Constant_none (is_none_gen ⟨.bl _,H1,I1,by rw [r1.none_iff]; rfl,q1⟩)
theorem pc_notN {j pos'} (ha:PE X a ta):PC X .IsNot a (.Constant .none j pos') (tNotN ta):=by
 intro pins s σ H Q I h
 refine thn (ha pins s σ H _ I h) fun v s1 ⟨x,H1,I1,r1,q1⟩=>?_
 exact Constant_none (isnot_none_gen ⟨.bl _,H1,I1,by rw [r1.none_iff]; rfl,q1⟩)
noncomputable def tB (t:TE):TT:=fun σ H Q=>t σ H fun x H1=>∃ c,x=.bl c/\Q c H1
theorem pe_cmp {op:CmpOp} {t:TE} (h:PC X op a b t) (h1:behindInMarks op b=false:=by first | exact qnn9 _ (by decide) (by decide) | rfl):PE X (.Compare a [op] [b] pos) t:=fun pins s σ H Q I hw=>wpAny_Compare1 (h pins s σ H Q I hw) h1
theorem pt_cmp {op:CmpOp} {t:TE} (h:PC X op a b t) (h1:behindInMarks op b=false:=by first | exact qnn9 _ (by decide) (by decide) | rfl):PT X (.Compare a [op] [b] pos) (tB t):=by
 intro pins s σ H Q I hw
 refine wpAny_isTrue_Compare1 (thn (h pins s σ H _ I hw) fun v s1 h1=>thn h1 fun u s2 h2=>thn h2 fun c s3 ⟨x,H1,I1,r1,q1⟩=>?_) h1
 obtain ⟨d,rfl,q⟩:=q1
 cases r1
 exact wpAny_truthy_bool ⟨H1,I1,q⟩
theorem pt_val {e:Expr} {t:TE} (h:PE X e t) (he:∀ whole,isTrue e X.env whole=(do let v <- whole; standAt e.pos; holding [v] (truthy v)):=by intro _; rfl):PT X e (tB t):=by
 intro pins s σ H Q I hw
 refine isTrue_plain (thn (h pins s σ H _ I hw) fun v s1 ⟨x,H1,I1,r1,q1⟩=>?_) (he _)
 obtain ⟨d,rfl,q⟩:=q1
 cases r1
 exact wpAny_truthy_bool ⟨H1,I1,q⟩
variable {tA tB':TT} {rest:List Expr}
noncomputable def tAnd (t u:TT):TT:=fun σ H Q=>t σ H fun c H1=>if c=true then u σ H1 Q else Q false H1
noncomputable def tOr (t u:TT):TT:=fun σ H Q=>t σ H fun c H1=>if c=true then Q true H1 else u σ H1 Q
noncomputable def tNot (t:TT):TT:=fun σ H Q=>t σ H fun c H1=>Q (!c) H1
theorem pw_and1 (ha:PT X a tA):PW X (.BoolOp .And [a] pos) tA:=by
 intro wh pins s σ H Q I h
 refine isTrue_and (thn (ha pins s σ H Q I h) fun c s1 e=>?_)
 cases c with
 | true=>exact isTrue_and_nil e
 | false=>exact e
theorem pw_or1 (ha:PT X a tA):PW X (.BoolOp .Or [a] pos) tA:=by
 intro wh pins s σ H Q I h
 refine isTrue_or (thn (ha pins s σ H Q I h) fun c s1 e=>?_)
 cases c with
 | false=>exact isTrue_or_nil e
 | true=>exact e
theorem pw_and (ha:PT X a tA) (hb:PW X (.BoolOp .And (b :: rest) pos) tB'):PW X (.BoolOp .And (a :: b :: rest) pos) (tAnd tA tB'):=by
 intro wh pins s σ H Q I h
 refine isTrue_and (thn (ha pins s σ H _ I h) fun c s1 ⟨H1,I1,q1⟩=>?_)
 cases c with
 | true=>exact hb wh pins s1 σ H1 Q I1 q1
 | false=>exact ⟨H1,I1,q1⟩
theorem pw_or (ha:PT X a tA) (hb:PW X (.BoolOp .Or (b :: rest) pos) tB'):PW X (.BoolOp .Or (a :: b :: rest) pos) (tOr tA tB'):=by
 intro wh pins s σ H Q I h
 refine isTrue_or (thn (ha pins s σ H _ I h) fun c s1 ⟨H1,I1,q1⟩=>?_)
 cases c with
 | true=>exact ⟨H1,I1,q1⟩
 | false=>exact hb wh pins s1 σ H1 Q I1 q1
theorem pt_not (ha:PT X a tA):PT X (.UnaryOp .Not a pos) (tNot tA):=by
 intro pins s σ H Q I h
 exact isTrue_not (ha pins s σ H (fun c H1=>Q (!c) H1) I h)
noncomputable def tAndV (ta tb:TE):TE:=fun σ H Q=>ta σ H fun x H1=>∃ c,x=.bl c/\if c=true then tb σ H1 Q else Q (.bl false) H1
noncomputable def tNotV (ta:TE):TE:=fun σ H Q=>ta σ H fun x H1=>∃ c,x=.bl c/\Q (.bl (!c)) H1
theorem pe_one {op} {t:TE} (h:PE X a t):PE X (.BoolOp op [a] pos) t:=fun pins s σ H Q I hw=>BoolOp_one (h pins s σ H Q I hw)
theorem pe_and (ha:PE X a ta) (hb:PE X (.BoolOp .And (b :: rest) pos) tb):PE X (.BoolOp .And (a :: b :: rest) pos) (tAndV ta tb):=by
 intro pins s σ H Q I h
 refine BoolOp_and (thn (ha pins s σ H _ I h) fun v s1 ⟨x,H1,I1,r1,q1⟩=>?_)
 obtain ⟨c,rfl,q1⟩:=q1
 cases r1
 refine wpAny_truthy_bool ?_
 cases c with
 | true=>exact hb pins s1 σ H1 Q I1 q1
 | false=>exact ⟨.bl false,H1,I1,rfl,q1⟩
theorem pe_not (ha:PE X a ta):PE X (.UnaryOp .Not a pos) (tNotV ta):=by
 intro pins s σ H Q I h
 refine UnaryOp_ (thn (ha pins s σ H _ I h) fun v s1 ⟨x,H1,I1,r1,q1⟩=>?_)
 obtain ⟨c,rfl,q1⟩:=q1
 cases r1
 exact not_of (wpAny_truthy_bool ⟨.bl (!c),H1,I1,rfl,q1⟩)
noncomputable def tIf (t:TT) (ta tb:TE):TE:=fun σ H Q=>t σ H fun c H1=>if c=true then ta σ H1 Q else tb σ H1 Q
theorem pe_ifExp {c:Expr} (hc:PT X c tA) (ha:PE X a ta) (hb:PE X b tb):PE X (.IfExp c a b pos) (tIf tA ta tb):=by
 intro pins s σ H Q I h
 refine wpAny_IfExp (thn (hc pins s σ H _ I h) fun d s1 ⟨H1,I1,q1⟩=>?_)
 cases d with
 | true=>exact ha pins s1 σ H1 Q I1 q1
 | false=>exact hb pins s1 σ H1 Q I1 q1
end
noncomputable def SqL (K:W.Frag) (H:Hp) (a:Addr) (xs:List V):Prop :=
 Rd H a (.lst xs) \/
  ∃ (o:Obj) (its:Array Value) (n:Nat),K.lookup a=some o/\o.cls=.type "list" /\ o.dict=none/\o.data=.seq its n/\its.size<=sizeLine/\Vals xs its.toList
noncomputable def SqT (K:W.Frag) (H:Hp) (a:Addr) (xs:List V):Prop :=
 Rd H a (.tup xs) \/
  ∃ (o:Obj) (its:Array Value) (n:Nat),K.lookup a=some o/\o.cls=.type "tuple" /\ o.data=.seq its n/\its.size<=sizeLine/\Vals xs its.toList
noncomputable def absV:Value->Option V
 | .none=>some .non
 | .bool b=>some (.bl b)
 | .int i _=>some (.int i)
 | .str x _=>some (.str x)
 | .bytes b _=>some (.byt b)
 | .float b _=>some (.flt b)
 | .ref a=>some (.ref a)
 | .type n=>some (.ty n)
 | _=>none
theorem RelV.abs {x:V} {u:Value} (r:RelV x u):absV u=some x:=by
 cases x with
 | non=>cases r; rfl
 | bl _=>cases r; rfl
 | int _=>obtain ⟨t,rfl⟩:=r; rfl
 | str _=>obtain ⟨t,rfl⟩:=r; rfl
 | byt _=>obtain ⟨t,rfl⟩:=r; rfl
 | flt _=>obtain ⟨t,rfl⟩:=r; rfl
 | ref _=>cases r; rfl
 | ty _=>cases r; rfl
theorem RelV.inj {x y:V} {u:Value} (r:RelV x u) (q:RelV y u):x=y:=Option.some.inj (r.abs.symm.trans q.abs)
theorem Vals.inj:∀ {xs ys:List V} {us:List Value},Vals xs us->Vals ys us->xs=ys
 | _,_,_,.nil,.nil=>rfl
 | _,_,_,.cons r t,.cons r' t'=>by rw [r.inj r',Vals.inj t t']
section
variable {X:Cx} {pins:List (Addr × Obj)} {σ:St} {H:Hp} {s:Shared} {a:Addr} {xs ys:List V}
theorem SqL.of {K:W.Frag} (h:H a=some (.lst xs)):SqL K H a xs:=.inl (.inl h)
theorem SqT.of {K:W.Frag} (h:H a=some (.tup xs)):SqT K H a xs:=.inl (.inl h)
theorem Inv.list (I:Inv X pins σ H s) (h:SqL X.K H a xs):∃ its:List Value,Vals xs its/\PlainL s.heap a its.toArray/\xs.length<=sizeLine:=by
 rcases h with h | ⟨o,its,n,hk,hc,hd,hs,hz,r⟩
 ·obtain ⟨z,its,n,r,e⟩:=h.ok I.hok
  exact ⟨its,r,⟨_,n,e,rfl,rfl,rfl⟩,z⟩
 ·refine ⟨its.toList,r,⟨o,n,I.kIn a o hk,hc,hd,by simpa using hs⟩,?_⟩
  have e:=r.length
  simp only [Array.length_toList] at e
  omega
theorem Inv.tuple (I:Inv X pins σ H s) (h:SqT X.K H a xs):∃ its:List Value,Vals xs its/\IsTup s.heap a its.toArray/\xs.length<=sizeLine:=by
 rcases h with h | ⟨o,its,n,hk,hc,hs,hz,r⟩
 ·obtain ⟨z,its,r,p⟩:=h.ok I.hok
  exact ⟨its,r,p,z⟩
 ·refine ⟨its.toList,r,⟨o,I.kIn a o hk,hc,n,by simpa using hs⟩,?_⟩
  have e:=r.length
  simp only [Array.length_toList] at e
  omega
theorem Inv.list_inj (I:Inv X pins σ H s) (h:SqL X.K H a xs) (h':SqL X.K H a ys):xs=ys:=by
 obtain ⟨its,r,⟨o,n,e,_,_,d⟩,_⟩:=I.list h
 obtain ⟨its',r',⟨o',n',e',_,_,d'⟩,_⟩:=I.list h'
 rw [e] at e'; cases e'
 rw [d] at d'
 injection d' with d1 _
 have:its=its':=by simpa using congrArg Array.toList d1
 subst this
 exact r.inj r'
theorem Inv.tuple_inj (I:Inv X pins σ H s) (h:SqT X.K H a xs) (h':SqT X.K H a ys):xs=ys:=by
 obtain ⟨its,r,⟨o,e,_,n,d⟩,_⟩:=I.tuple h
 obtain ⟨its',r',⟨o',e',_,n',d'⟩,_⟩:=I.tuple h'
 rw [e] at e'; cases e'
 rw [d] at d'
 injection d' with d1 _
 have:its=its':=by simpa using congrArg Array.toList d1
 subst this
 exact r.inj r'
end
noncomputable abbrev Cx.wish (X:Cx) (E:Value->Shared->Prop):Cx:={ X with xe:=E }
noncomputable abbrev Cx.nox (X:Cx):Cx:=X.wish fun _ _=>False
theorem Cx.Ok.wish {X:Cx} (ok:X.Ok) (E:Value->Shared->Prop):(X.wish E).Ok :=
 ⟨ok.mod,ok.kind,ok.glob,ok.blt,ok.above,ok.inj,ok.has,ok.cab,ok.hd,ok.frames,ok.stk,ok.exf,ok.bs,ok.bsz,ok.noex,ok.exfs,ok.funs,ok.frf⟩
theorem Cx.Ok.unwish {X:Cx} {E:Value->Shared->Prop} (ok:(X.wish E).Ok):X.Ok :=
 ⟨ok.mod,ok.kind,ok.glob,ok.blt,ok.above,ok.inj,ok.has,ok.cab,ok.hd,ok.frames,ok.stk,ok.exf,ok.bs,ok.bsz,ok.noex,ok.exfs,ok.funs,ok.frf⟩
section
variable {X:Cx} {pins:List (Addr × Obj)} {σ:St} {H:Hp} {s:Shared} {E:Value->Shared->Prop}
theorem Inv.wish (I:Inv X pins σ H s) (E:Value->Shared->Prop):Inv (X.wish E) pins σ H s:=⟨I.ok.wish E,I.os,I.bare,I.base,I.loc,I.cell,I.free,I.freeC,I.pin,I.hok,I.len⟩
theorem Inv.unwish (I:Inv (X.wish E) pins σ H s):Inv X pins σ H s:=⟨I.ok.unwish,I.os,I.bare,I.base,I.loc,I.cell,I.free,I.freeC,I.pin,I.hok,I.len⟩
theorem SP.unwish {D:Ends} {f:Flow} {s':Shared} (h:SP (X.wish E) pins D f s'):SP X pins D f s':=by
 cases f with
 | next=>obtain ⟨σ',H',I,q⟩:=h; exact ⟨σ',H',I.unwish,q⟩
 | brk=>obtain ⟨σ',H',I,q⟩:=h; exact ⟨σ',H',I.unwish,q⟩
 | cont=>obtain ⟨σ',H',I,q⟩:=h; exact ⟨σ',H',I.unwish,q⟩
 | ret u=>obtain ⟨v,σ',H',I,r,q⟩:=h; exact ⟨v,σ',H',I.unwish,r,q⟩
theorem PSs.nox {st:List Stmt} {t:TS} (h:PSs X.nox st t):PSs X st t:=fun pins s σ H D I hw =>
 wpAny_mono (h pins s σ H D (I.wish _) hw) (fun _ _ q=>q.unwish) fun _ _ z=>False.elim z
end
section
variable {X:Cx} {st:Stmt} {rest:List Stmt} {t u:TS} {e:Expr} {te:TE} {pos:Pos}
noncomputable def tNext:TS:=fun D σ H=>D.nx σ H
noncomputable def tSeq (t u:TS):TS:=fun D σ H=>t { D with nx:=u D } σ H
theorem pss_nil:PSs X [] tNext:=fun _ _ σ H _ I h=>wpAny_execs_nil ⟨σ,H,I,h⟩
theorem pss_cons (h1:PS X st t) (h2:PSs X rest u):PSs X (st :: rest) (tSeq t u):=by
 intro pins s σ H D I h
 refine wpAny_execs_cons (thn (h1 pins s σ H { D with nx:=u D } I h) fun f s1 q=>?_)
 cases f with
 | next =>
  obtain ⟨σ',H',I',q⟩:=q
  exact h2 pins s1 σ' H' D I' q
 | ret v=>exact q
 | brk=>exact q
 | cont=>exact q
theorem pss_one (h1:PS X st t):PSs X [st] t:=by
 intro pins s σ H D I h
 refine wpAny_execs_cons (thn (h1 pins s σ H D I h) fun f s1 q=>?_)
 cases f with
 | next=>exact wpAny_execs_nil q
 | ret v=>exact q
 | brk=>exact q
 | cont=>exact q
theorem Inv.quiet {pins:List (Addr × Obj)} {σ:St} {H:Hp} {s:Shared} (I:Inv X pins σ H s):interactive X.env=false:=by simp [interactive,I.ok.kind]
noncomputable def tDrop (te:TE):TS:=fun D σ H=>te σ H fun _ H1=>D.nx σ H1
theorem ps_expr (he:PE X e te) (hs:swapsWith e none pos.line X.env=pure false:=by rfl):PS X (.Expr e pos) (tDrop te):=by
 intro pins s σ H D I h
 exact wpAny_Expr_any (thn (he pins s σ H _ I h) fun v s1 ⟨x,H1,I1,r1,q1⟩=>⟨σ,H1,I1,q1⟩) I.quiet hs
noncomputable def tRet (te:TE):TS:=fun D σ H=>te σ H D.rt
theorem ps_ret (he:PE X e te):PS X (.Return (some e) pos) (tRet te):=by
 intro pins s σ H D I h
 exact wpAny_Return_some (thn (he pins s σ H _ I h) fun v s1 ⟨x,H1,I1,r1,q1⟩=>⟨x,σ,H1,I1,r1,q1⟩)
noncomputable def tRetN:TS:=fun D _ H=>D.rt .non H
theorem ps_retN:PS X (.Return none pos) tRetN:=fun _ _ σ H _ I h=>wpAny_Return_none ⟨.non,σ,H,I,rfl,h⟩
noncomputable def tIfS (c:TT) (t u:TS):TS:=fun D σ H=>c σ H fun b H1=>if b=true then t D σ H1 else u D σ H1
theorem ps_if {c:Expr} {a b:List Stmt} {tc:TT} (hc:PT X c tc) (ha:PSs X a t) (hb:PSs X b u):PS X (.If c a b pos) (tIfS tc t u):=by
 intro pins s σ H D I h
 refine wpAny_If (thn (hc pins s σ H _ I h) fun d s1 ⟨H1,I1,q1⟩=>?_)
 cases d with
 | true=>exact ha pins s1 σ H1 D I1 q1
 | false=>exact hb pins s1 σ H1 D I1 q1
noncomputable def tNever:TS:=fun _ _ _=>False
theorem ps_never:PS X st tNever:=fun _ _ _ _ _ _ h=>h.elim
end
noncomputable abbrev TG:=V->St->Hp->(St->Hp->Prop)->Prop
noncomputable abbrev TGs:=List V->St->Hp->(St->Hp->Prop)->Prop
noncomputable def PG (X:Cx) (target:Expr) (t:TG):Prop :=
 ∀ (pins:List (Addr × Obj)) (s:Shared) (σ:St) (H:Hp) (v:V) (u:Value) (Q:St->Hp->Prop),Inv X pins σ H s->RelV v u->t v σ H Q ->
  wpAny (model X.prog X.w) X.A (assign target X.env u) (fun _ s'=>∃ σ' H',Inv X pins σ' H' s'/\Q σ' H') X.xe s
noncomputable def PGs (X:Cx) (ts:List Expr) (t:TGs):Prop :=
 ∀ (pins:List (Addr × Obj)) (s:Shared) (σ:St) (H:Hp) (vs:List V) (us:List Value) (Q:St->Hp->Prop),Inv X pins σ H s->Vals vs us->t vs σ H Q ->
  wpAny (model X.prog X.w) X.A (assignInOrder ((assignEach ts X.env).map (·.2)) us) (fun _ s'=>∃ σ' H',Inv X pins σ' H' s'/\Q σ' H') X.xe s
noncomputable abbrev TSet:=V->V->V->Hp->(Hp->Prop)->Prop
noncomputable def PSet (X:Cx) (t:TSet):Prop :=
 ∀ (pins:List (Addr × Obj)) (s:Shared) (σ:St) (H:Hp) (o i v:V) (ov iv u:Value) (Q:Hp->Prop),Inv X pins σ H s->RelV o ov->RelV i iv->RelV v u->t o i v H Q ->
  wpAny (model X.prog X.w) X.A (setItem ov iv u) (fun _ s'=>∃ H',Inv X pins σ H' s'/\Q H') X.xe s
noncomputable abbrev TIp:=V->V->Hp->VK->Prop
noncomputable def PIp (X:Cx) (op:Operator) (t:TIp):Prop :=
 ∀ (pins:List (Addr × Obj)) (s:Shared) (σ:St) (H:Hp) (x y:V) (v u:Value) (Q:VK),Inv X pins σ H s->RelV x v->RelV y u->t x y H Q ->
  wpAny (model X.prog X.w) X.A (inplaceOp op v u) (EP X pins σ Q) X.xe s
section
variable {X:Cx} {pos:Pos}
noncomputable def gName (i:Nat):TG:=fun v σ H Q=>Q (σ.set i (some v)) H
theorem pg_name {i:Nat} {x:Str} (hN:X.N.Nodup) (hi:X.N[i]?=some x) (hx:Loc X.env.scope x) (hf:X.fn x=true\/X.env.scope.names.lookup x=some .local:=by first | exact .inl rfl | exact .inr rfl | assumption):PG X (.Name x pos) (gName i):=by
 intro pins s σ H v u Q I r h
 exact wpAny_assign_Name (qjg9 I hN hi hx r (fun s' I'=>⟨_,H,I',h⟩) hf)
noncomputable def gNil:TGs:=fun vs σ H Q=>vs=[]/\Q σ H
noncomputable def gCons (t:TG) (u:TGs):TGs:=fun vs σ H Q=>∃ v r,vs=v :: r/\t v σ H fun σ' H'=>u r σ' H' Q
theorem pgs_nil:PGs X [] gNil:=by
 intro pins s σ H vs us Q I r h
 obtain ⟨e,h⟩:=h
 subst e
 cases r
 exact assignInOrder_nil ⟨σ,H,I,h⟩
theorem pgs_cons {e:Expr} {es:List Expr} {t:TG} {u:TGs} (h1:PG X e t) (h2:PGs X es u)
  (hs:(assignEach (e :: es) X.env).map (·.2)=assign e X.env :: (assignEach es X.env).map (·.2):=by rfl):PGs X (e :: es) (gCons t u):=by
 intro pins s σ H vs us Q I r h
 obtain ⟨v,vr,e1,h⟩:=h
 subst e1
 cases r with
 | cons r rr =>
  rw [hs]
  refine assignInOrder_cons (thn (h1 pins s σ H _ _ _ I r h) fun _ s1 ⟨σ1,H1,I1,q1⟩=>?_)
  exact h2 pins s1 σ1 H1 _ _ Q I1 rr q1
noncomputable def gTup (K:W.Frag) (n:Nat) (t:TGs):TG:=fun v σ H Q=>∃ a xs,v=.ref a/\SqT K H a xs/\xs.length=n/\t xs σ H Q
theorem pg_tup {es:List Expr} {k:Nat} {t:TGs} {n:Nat} (hc:X.calm=true) (h:PGs X es t)
  (hn:(assignEach es X.env).length=n:=by rfl) (hst:(assignEach es X.env).findIdx? (·.1)=none:=by rfl):PG X (.Tuple es k pos) (gTup X.K n t):=by
 intro pins s σ H v u Q I r hw
 obtain ⟨a,xs,e1,hq,hl,hw⟩:=hw
 subst e1
 cases r
 obtain ⟨its,rv,ht,hz⟩:=I.tuple hq
 refine assign_Tuple_tuple (I.ok.hd hc) ht (by simp [hn,<- hl,rv.length]) hst fun h' hx=>?_
 have I1:Inv X pins σ H { s with heap:=h' }:=I.kept (t':=s.toks) fun b o e=>hx b o (Nat.ne_of_lt (Heap.lt_size e)) e
 exact h pins _ σ H xs _ Q I1 (by simpa using rv) hw
noncomputable def gSub (to ti:TE) (t:TSet):TG:=fun v σ H Q=>to σ H fun o H1=>ti σ H1 fun i H2=>t o i v H2 fun H3=>Q σ H3
theorem pg_sub {o i:Expr} {to ti:TE} {t:TSet} (ho:PE X o to) (hi:PE X i ti) (hs:PSet X t)
  (ha:∀ v,assign (.Subscript o i pos) X.env v=(do
   let ov <- holding [v] (eval o X.env)
   let iv <- holding [v,ov] (eval i X.env)
   standAt pos
   holding [v,ov,iv] (setItem ov iv v)
   release [v,ov,iv] []):=by intro _; rfl):PG X (.Subscript o i pos) (gSub to ti t):=by
 intro pins s σ H v u Q I r h
 rw [ha]
 refine wpAny_bind (wpAny_holding (thn (ho pins s σ H _ I h) fun ov s1 ⟨x,H1,I1,r1,q1⟩=>?_))
 refine wpAny_bind (wpAny_holding (thn (hi pins s1 σ H1 _ I1 q1) fun iv s2 ⟨y,H2,I2,r2,q2⟩=>?_))
 refine wpAny_bind (wpAny_standAt (wpAny_bind (wpAny_holding (thn (hs pins s2 σ H2 x y v ov iv u _ I2 r1 r2 r q2) fun _ s3 ⟨H3,I3,q3⟩=>?_))))
 exact wpAny_release ⟨σ,H3,I3,q3⟩
noncomputable def tAsg (te:TE) (g:TG):TS:=fun D σ H=>te σ H fun x H1=>g x σ H1 D.nx
theorem ps_asg {tg e:Expr} {te:TE} {g:TG} (he:PE X e te) (hg:PG X tg g) (hs:swapsWithSole [tg] e pos.line X.env=pure false:=by rfl) (hw:swappedStores [tg] e X.env=pure none:=by rfl)
  (h1:(assignEach [tg] X.env).map (·.2)=[assign tg X.env]:=by rfl):PS X (.Assign [tg] e pos) (tAsg te g):=by
 intro pins s σ H D I h
 refine wpAny_Assign_stores (thn (he pins s σ H _ I h) fun v s1 ⟨x,H1,I1,r1,q1⟩=>?_) hs hw
 rw [h1]
 exact thn (hg pins s1 σ H1 x v _ I1 r1 q1) fun _ s2 q=>q
theorem ps_set {i:Nat} {x:Str} {e:Expr} {te:TE} {pos':Pos} (hN:X.N.Nodup) (hi:X.N[i]?=some x) (hx:Loc X.env.scope x) (he:PE X e te) (hs:swapsWith e (some (.Name x pos')) pos.line X.env=pure false:=by rfl) (hf:X.fn x=true\/X.env.scope.names.lookup x=some .local:=by first | exact .inl rfl | exact .inr rfl | assumption) :
  PS X (.Assign [.Name x pos'] e pos) (tAsg te (gName i)):=by
 intro pins s σ H D I h
 refine wpAny_Assign_Name (thn (he pins s σ H _ I h) fun v s1 ⟨y,H1,I1,r1,q1⟩=>?_) hs
 exact qjg9 I1 hN hi hx r1 (fun s2 I2=>⟨_,H1,I2,q1⟩) hf
noncomputable def tAug (i:Nat) (te:TE) (ti:TIp):TS:=fun D σ H=>∃ x,σ[i]?=some (some x)/\te σ H fun y H1=>ti x y H1 fun z H2=>D.nx (σ.set i (some z)) H2
theorem ps_aug {i:Nat} {x:Str} {e:Expr} {te:TE} {op:Operator} {ti:TIp} {pos':Pos} (hN:X.N.Nodup) (hi:X.N[i]?=some x) (hx:Loc X.env.scope x) (he:PE X e te) (ho:PIp X op ti) (hf:X.fn x=true\/X.env.scope.names.lookup x=some .local:=by first | exact .inl rfl | exact .inr rfl | assumption) :
  PS X (.AugAssign (.Name x pos') op e pos) (tAug i te ti):=by
 intro pins s σ H D I h
 obtain ⟨v,e1,h⟩:=h
 obtain ⟨m,hn,hl⟩:=I.loc
 have vis:Vis X.env.scope x:=by rcases hx with k | k; exact .inl k; exact .inr (.inl k)
 obtain ⟨u,r,l⟩:=hl i x v hi e1 vis
 refine wpAny_AugAssign_Name ?_
 have go:wpAny (model X.prog X.w) X.A (eval e X.env) (fun w s₂=>wpAny (model X.prog X.w) X.A (inplaceOp op u w) (fun r s₃=>wpAny (model X.prog X.w) X.A (storeName X.env x r) (fun _=>SP X pins D .next) X.xe s₃) X.xe s₂) X.xe s:=by
  refine thn (he pins s σ H _ I h) fun w s1 ⟨y,H1,I1,r1,q1⟩=>?_
  refine thn (ho pins s1 σ H1 v y u w _ I1 r r1 q1) fun z s2 ⟨zv,H2,I2,r2,q2⟩=>?_
  exact qjg9 I2 hN hi hx r2 (fun s3 I3=>⟨_,H2,I3,q2⟩) hf
 rcases l with ⟨hk,hm⟩ | ⟨hk,c,hc,hcell⟩
 ·exact wpAny_loadName_local I.ok.kind hk hn hm go
 ·rcases hk with hk | hk
  ·exact wpAny_loadName_cell I.ok.kind hk hc hcell go
  ·rcases hx with k | k
   ·have:X.env.scope.names.lookup x=some .free:=hk
    rw [k] at this; cases this
   ·have:X.env.scope.names.lookup x=some .free:=hk
    rw [k] at this; cases this
noncomputable def ipI (f:Int->Int->Int):TIp:=fun x y H Q=>∃ i j,x=.int i/\y=.int j/\Q (.int (f i j)) H
theorem ip_add:PIp X .Add (ipI fun i j=>i+j):=by
 intro pins s σ H x y v u Q I r1 r2 h
 obtain ⟨i,j,e1,e2,q⟩:=h
 subst e1; subst e2
 obtain ⟨t,rfl⟩:=r1
 obtain ⟨t',rfl⟩:=r2
 exact iadd_int ⟨.int _,H,I.tok _,⟨_,rfl⟩,q⟩
theorem ip_sub:PIp X .Sub (ipI fun i j=>i - j):=by
 intro pins s σ H x y v u Q I r1 r2 h
 obtain ⟨i,j,e1,e2,q⟩:=h
 subst e1; subst e2
 obtain ⟨t,rfl⟩:=r1
 obtain ⟨t',rfl⟩:=r2
 exact isub_int ⟨.int _,H,I.tok _,⟨_,rfl⟩,q⟩
end
section
variable {X:Cx} {pos:Pos}
noncomputable def tWhile (c:TT) (tb:TS):TS:=fun D σ H=>∃ W:Nat->St->Hp->Prop,(∃ m,W m σ H)/\∀ m σ H,W m σ H ->
 c σ H fun b H1=>if b=true then ∃ N:St->Hp->Prop,(∀ σ' H',N σ' H'->∃ m',m' < m/\W m' σ' H')/\tb { D with nx:=N,ct:=N,bk:=D.nx } σ H1 else D.nx σ H1
theorem ps_while {c:Expr} {body:List Stmt} {tc:TT} {tb:TS} (hp:PassesOwn (model X.prog X.w) X.A X.env X.xe) (hc:PT X c tc) (hb:PSs X body tb):PS X (.While c body [] pos) (tWhile tc tb):=by
 intro pins s σ H D I h
 obtain ⟨W,⟨m0,w0⟩,turn⟩:=h
 refine wpAny_While (codeAny_whileLoop (fun n s'=>∃ σ' H',Inv X pins σ' H' s'/\W n σ' H') ?_ m0 ⟨σ,H,I,w0⟩)
 intro n s1 z9;obtain ⟨σ1,H1,I1,w1⟩ := z9
 refine wpAny_passesOwn hp (thn (hc pins s1 σ1 H1 _ I1 (turn n σ1 H1 w1)) fun b s2 ⟨H2,I2,q2⟩=>?_)
 cases b with
 | true =>
  obtain ⟨N,hN,q2⟩:=q2
  rw [if_pos rfl]
  refine wpAny_passesOwn hp (thn (hb pins s2 σ1 H2 _ I2 q2) fun f s3 q3=>?_)
  cases f with
  | next =>
   obtain ⟨σ3,H3,I3,n3⟩:=q3
   obtain ⟨m',hm,w3⟩:=hN σ3 H3 n3
   exact ⟨m',hm,σ3,H3,I3,w3⟩
  | cont =>
   obtain ⟨σ3,H3,I3,n3⟩:=q3
   obtain ⟨m',hm,w3⟩:=hN σ3 H3 n3
   exact ⟨m',hm,σ3,H3,I3,w3⟩
  | brk=>exact q3
  | ret v=>exact q3
 | false =>
  rw [if_neg Bool.false_ne_true]
  exact wpAny_execs_nil ⟨σ1,H2,I2,q2⟩
end
structure It where
 go:Nat->Hp->Prop
 yld:Nat->Hp->V->Hp->Prop
 stop:Nat->Hp->Prop
noncomputable def FpOk (X:Cx) (pins:List (Addr × Obj)) (H:Hp) (b:Addr):Prop :=
 H b=none/\b ≠ X.env.locals/\b ∉ X.fs/\(b∈X.ex\/X.s₀.heap.objs.size<=b)/\(∀ x c,X.env.cells.lookup x=some c->c ≠ b)/\∀ p∈X.pn ++ pins,p.1 ≠ b
theorem Inv.fpOk {X:Cx} {pins:List (Addr × Obj)} {σ:St} {H H':Hp} {s:Shared} {b:Addr} (I:Inv X pins σ H s) (hb:s.heap.objs.size<=b) (hn:H' b=none):FpOk X pins H' b:=by
 refine ⟨hn,Nat.ne_of_gt (Nat.lt_of_lt_of_le I.lt hb),I.nofs hb,.inr (Nat.le_trans I.sz hb),fun x c e z=>?_,fun p hp z=>?_⟩
 ·obtain ⟨v,q⟩:=I.cell x c e
  exact absurd (Nat.lt_of_lt_of_le q.lt (by rw [z]; exact hb)) (Nat.lt_irrefl _)
 ·exact absurd (Nat.lt_of_lt_of_le (Heap.lt_size (I.pin p hp).1) (by rw [z]; exact hb)) (Nat.lt_irrefl _)
structure Turn (P:Program) (w:World) (K:W.Frag) (tg:Expr) (J:It) (fp:List Addr) (it:Addr) (tn:Nat->Heap->Prop):Prop where
 mem:it∈fp
 obj:∀ i h,tn i h->∀ b∈fp,∃ o,h.get? b=some o/\∀ v,o.data ≠ .cell v
 keep:∀ i h h',tn i h->(∀ b∈fp,∀ o,h.get? b=some o->h'.get? b=some o)->tn i h'
 item:∀ (X:Cx),X.prog=P->X.w=w->X.K=K->X.calm=true->∀ (i:Nat) (pins:List (Addr × Obj)) (s:Shared) (σ:St) (H:Hp) (E:Value->Shared->Prop),Inv X pins σ H s->(∀ b∈fp,FpOk X pins H b)->tn i s.heap->J.go i H ->
  wpAny (model P w) X.A (pyNext (.ref it)) (fun r s1=>∃ u,r=some u /\
   wpAny (model P w) X.A (letOwnedTupleGo tg (.ref it) u) (fun _ s2=>∃ x H',Inv X pins σ H' s2/\RelV x u/\J.yld i H x H'/\tn (i+1) s2.heap/\∀ b∈fp,H' b=none) E s1) E s
 done:∀ (X:Cx),X.prog=P->X.w=w->X.K=K->X.calm=true->∀ (i:Nat) (pins:List (Addr × Obj)) (s:Shared) (σ:St) (H:Hp) (E:Value->Shared->Prop),Inv X pins σ H s->(∀ b∈fp,FpOk X pins H b)->tn i s.heap->J.stop i H ->
  wpAny (model P w) X.A (pyNext (.ref it)) (fun r s1=>r=none/\Inv X pins σ H s1) E s
 self:∀ (A:Around) (i:Nat) (s:Shared) (Q:Value->Shared->Prop) (E:Value->Shared->Prop),tn i s.heap->Q (.ref it) s->wpAny (model P w) A (pyIter (.ref it)) Q E s
noncomputable abbrev TI:=St->Hp->(It->Hp->Prop)->Prop
noncomputable def PIE (X:Cx) (pins:List (Addr × Obj)) (σ:St) (tg:Expr) (R:It->Hp->Prop) (itv:Value) (s2:Shared):Prop :=
 ∃ (it:Addr) (fp:List Addr) (tn:Nat->Heap->Prop) (J:It) (H':Hp),itv=.ref it/\Inv X pins σ H' s2/\Turn X.prog X.w X.K tg J fp it tn/\tn 0 s2.heap/\(∀ b∈fp,FpOk X pins H' b)/\R J H'
noncomputable def PI (X:Cx) (tg iter:Expr) (wi:TI):Prop :=
 ∀ (pins:List (Addr × Obj)) (s:Shared) (σ:St) (H:Hp) (R:It->Hp->Prop),Inv X pins σ H s->wi σ H R ->
  wpAny (model X.prog X.w) X.A (eval iter X.env) (fun v s1=>wpAny (model X.prog X.w) X.A (pyIter v) (PIE X pins σ tg R) X.xe s1) X.xe s
theorem go_of {M:Model} {A:Around} {E:Value->Shared->Prop} {s:Shared} {tg:Expr} {it:Addr} {u:Value} {o:Obj} {n:String} {vs:Array Value} {Q:Unit->Shared->Prop} (ho:s.heap.get? it=some o) (hc:o.cls=.type n) (hd:o.data=.fields vs)
  (hn:["enumerate","zip","dict_itemiterator","dict_reverseitemiterator","odict_iterator","itertools.zip_longest","itertools.pairwise"].contains n=false) (hQ:Q () s):wpAny M A (letOwnedTupleGo tg (.ref it) u) Q E s:=by
 unfold letOwnedTupleGo
 cases tg <;> first
  | exact wpAny_pure hQ
  | (cases u <;> first
    | exact wpAny_pure hQ
    | (refine wpAny_bind (wpAny_load ho ?_)
       rw [hc,hd]
       show wpAny M A (if (["enumerate","zip","dict_itemiterator","dict_reverseitemiterator","odict_iterator","itertools.zip_longest","itertools.pairwise"].contains n && vs[0]? == some (rawInt _))=true then _ else _) Q E s
       rw [if_neg (by intro h; rw [hn,Bool.false_and] at h; cases h)]
       exact wpAny_pure hQ))
noncomputable def Itl (K:W.Frag) (a:Addr):It :=
 ⟨fun i H=>∃ xs x,SqL K H a xs/\xs[i]?=some x,fun i H x H'=>H'=H/\∀ xs,SqL K H a xs->xs[i]?=some x,fun i H=>∃ xs,SqL K H a xs/\xs.length<=i⟩
noncomputable def Itt (K:W.Frag) (a:Addr):It :=
 ⟨fun i H=>∃ xs x,SqT K H a xs/\xs[i]?=some x,fun i H x H'=>H'=H/\∀ xs,SqT K H a xs->xs[i]?=some x,fun i H=>∃ xs,SqT K H a xs/\xs.length<=i⟩
noncomputable def Itr (lo:Int) (n:Nat):It:=⟨fun i _=>i < n,fun i H x H'=>H'=H/\x=.int (lo+i),fun i _=>n<=i⟩
theorem turn_list {P:Program} {w:World} {K:W.Frag} {tg:Expr} (a it:Addr):Turn P w K tg (Itl K a) [it] it (fun i h=>h.IsListIter it a i) where
 mem:=by simp
 obj:=fun i h st b hb=>by
  have e:b=it:=by simpa using hb
  subst e
  obtain ⟨o,e,c,d⟩:=st
  exact ⟨o,e,fun v z=>by rw [d] at z; cases z⟩
 keep:=fun i h h' st k=>st.at fun o e=>k it (by simp) o e
 item:=by
  intro X hP hw hK hc i pins s σ H E I hf st hg
  subst hP hw hK
  obtain ⟨xs,x,hq,hx⟩:=hg
  obtain ⟨its,rv,p,hz⟩:=I.list hq
  obtain ⟨u,hu,ru⟩:=rv.get hx
  obtain ⟨f0,f1,f2,f3,f4,f5⟩:=hf it (by simp)
  refine wpAny_pyNext_list_item st p.isList (x:=u) (by simpa using hu) fun h' st' sb=>?_
  have I1:Inv X pins σ H { s with heap:=h' }:=I.turned (t':=s.toks) (fun b o hb e=>(sb.2 b hb).trans e) f0 f1 f3 f4 f5
  obtain ⟨o,e,c,d⟩:=id st'
  exact ⟨u,rfl,go_of (s:={ s with heap:=h' }) e c d (by decide) ⟨x,H,I1,ru,⟨rfl,fun ys hy=>by rw [I.list_inj hy hq]; exact hx⟩,st',fun b hb=>(hf b hb).1⟩⟩
 done:=by
  intro X hP hw hK hc i pins s σ H E I hf st hg
  subst hP hw hK
  obtain ⟨xs,hq,hx⟩:=hg
  obtain ⟨its,rv,p,hz⟩:=I.list hq
  obtain ⟨f0,f1,f2,f3,f4,f5⟩:=hf it (by simp)
  have hl:=rv.length
  exact wpAny_pyNext_list_end (I.ok.hd hc) st p.isList (by simp; omega) fun h' eb=>⟨rfl,I.turned (t':=s.toks) (fun b o hb e=>eb b o hb e) f0 f1 f3 f4 f5⟩
 self:=fun _ _ _ _ _ st h=>wpAny_pyIter_listiter st h
theorem qmn9 {P:Program} {w:World} {K:W.Frag} {tg:Expr} (a it:Addr):Turn P w K tg (Itt K a) [it] it (fun i h=>h.IsTupleIter it a i) where
 mem:=by simp
 obj:=fun i h st b hb=>by
  have e:b=it:=by simpa using hb
  subst e
  obtain ⟨o,e,c,d⟩:=st
  exact ⟨o,e,fun v z=>by rw [d] at z; cases z⟩
 keep:=fun i h h' st k=>st.at fun o e=>k it (by simp) o e
 item:=by
  intro X hP hw hK hc i pins s σ H E I hf st hg
  subst hP hw hK
  obtain ⟨xs,x,hq,hx⟩:=hg
  obtain ⟨its,rv,p,hz⟩:=I.tuple hq
  obtain ⟨u,hu,ru⟩:=rv.get hx
  obtain ⟨f0,f1,f2,f3,f4,f5⟩:=hf it (by simp)
  refine wpAny_pyNext_tuple_item st (show s.heap.IsTuple a its.toArray from p) (x:=u) (by simpa using hu) fun h' st' sb=>?_
  have I1:Inv X pins σ H { s with heap:=h' }:=I.turned (t':=s.toks) (fun b o hb e=>(sb.2 b hb).trans e) f0 f1 f3 f4 f5
  obtain ⟨o,e,c,d⟩:=id st'
  exact ⟨u,rfl,go_of (s:={ s with heap:=h' }) e c d (by decide) ⟨x,H,I1,ru,⟨rfl,fun ys hy=>by rw [I.tuple_inj hy hq]; exact hx⟩,st',fun b hb=>(hf b hb).1⟩⟩
 done:=by
  intro X hP hw hK hc i pins s σ H E I hf st hg
  subst hP hw hK
  obtain ⟨xs,hq,hx⟩:=hg
  obtain ⟨its,rv,p,hz⟩:=I.tuple hq
  obtain ⟨f0,f1,f2,f3,f4,f5⟩:=hf it (by simp)
  have hl:=rv.length
  exact wpAny_pyNext_tuple_end (I.ok.hd hc) st (show s.heap.IsTuple a its.toArray from p) (by simp; omega) fun h' eb=>⟨rfl,I.turned (t':=s.toks) (fun b o hb e=>eb b o hb e) f0 f1 f3 f4 f5⟩
 self:=fun _ _ _ _ _ st h=>wpAny_pyIter_tupleiter st h
theorem qor9 {P:Program} {w:World} {K:W.Frag} {tg:Expr} (it:Addr) (lo:Int) (n:Nat):Turn P w K tg (Itr lo n) [it] it (fun i h=>IsRangeIter h it (lo+(i:Nat) * 1) ((n:Int) - (i:Nat)) 1) where
 mem:=by simp
 obj:=fun i h st b hb=>by
  have e:b=it:=by simpa using hb
  subst e
  exact ⟨_,st,fun v z=>by
   have z':Data.fields _=Data.cell v:=z
   cases z'⟩
 keep:=fun i h h' st k=>k it (by simp) _ st
 item:=by
  intro X hP hw hK hc i pins s σ H E I hf st hg
  subst hP hw hK
  obtain ⟨f0,f1,f2,f3,f4,f5⟩:=hf it (by simp)
  have W:=Walks.range (prog:=X.prog) (w:=X.w) (I.ok.hd hc) it lo 1 n
  refine W.item i s _ _ hg st fun v h' tk hv st' kk=>?_
  obtain ⟨t,rfl⟩:=hv
  have I1:Inv X pins σ H { s with heap:=h',toks:=tk }:=I.turned (fun b o hb e=>kk b o (by simpa using hb) e) f0 f1 f3 f4 f5
  refine ⟨_,rfl,go_of (s:={ s with heap:=h',toks:=tk }) (n := "range_iterator") st' rfl rfl (by decide) ⟨.int (lo+i),H,I1,⟨t,?_⟩,⟨rfl,rfl⟩,st',fun b hb=>(hf b hb).1⟩⟩
  rw [Int.mul_one]
 done:=by
  intro X hP hw hK hc i pins s σ H E I hf st hg
  subst hP hw hK
  obtain ⟨f0,f1,f2,f3,f4,f5⟩:=hf it (by simp)
  exact wpAny_pyNext_range_end (I.ok.hd hc) st (by have:n<=i:=hg; omega) fun h' eb=>⟨rfl,I.turned (t':=s.toks) (fun b o hb e=>eb b o hb e) f0 f1 f3 f4 f5⟩
 self:=fun _ _ _ _ _ st h=>wpAny_pyIter_rangeiter st h
section
variable {X:Cx} {tg:Expr}
noncomputable def iList (K:W.Frag) (tl:TE):TI:=fun σ H R=>tl σ H fun x H1=>∃ a,x=.ref a/\(∃ xs,SqL K H1 a xs)/\R (Itl K a) H1
noncomputable def iTup (K:W.Frag) (tl:TE):TI:=fun σ H R=>tl σ H fun x H1=>∃ a,x=.ref a/\(∃ xs,SqT K H1 a xs)/\R (Itt K a) H1
theorem pi_list {l:Expr} {tl:TE} (hl:PE X l tl):PI X tg l (iList X.K tl):=by
 intro pins s σ H R I h
 refine thn (hl pins s σ H _ I h) fun v s1 ⟨x,H1,I1,r1,q1⟩=>?_
 obtain ⟨a,e,⟨xs,hq⟩,q⟩:=q1
 subst e
 cases r1
 obtain ⟨its,rv,p,hz⟩:=I1.list hq
 refine wpAny_pyIter_list p.isList ?_
 refine ⟨s1.heap.objs.size,[s1.heap.objs.size],_,_,H1,rfl,I1.kept (t':=s1.toks) fun b o e=>Heap.get?_push_of_some _ e,turn_list a _,⟨_,Heap.get?_push_size _ rfl,rfl,rfl⟩,fun b hb=>?_,q⟩
 have e:b=s1.heap.objs.size:=by simpa using hb
 subst e
 exact I1.fpOk (Nat.le_refl _) (I1.hok.fresh (Nat.le_refl _))
theorem pi_tup {l:Expr} {tl:TE} (hl:PE X l tl):PI X tg l (iTup X.K tl):=by
 intro pins s σ H R I h
 refine thn (hl pins s σ H _ I h) fun v s1 ⟨x,H1,I1,r1,q1⟩=>?_
 obtain ⟨a,e,⟨xs,hq⟩,q⟩:=q1
 subst e
 cases r1
 obtain ⟨its,rv,p,hz⟩:=I1.tuple hq
 refine wpAny_pyIter_tuple (show s1.heap.IsTuple a its.toArray from p) ?_
 refine ⟨s1.heap.objs.size,[s1.heap.objs.size],_,_,H1,rfl,I1.kept (t':=s1.toks) fun b o e=>Heap.get?_push_of_some _ e,qmn9 a _,⟨_,Heap.get?_push_size _ rfl,rfl,rfl⟩,fun b hb=>?_,q⟩
 have e:b=s1.heap.objs.size:=by simpa using hb
 subst e
 exact I1.fpOk (Nat.le_refl _) (I1.hok.fresh (Nat.le_refl _))
theorem range_it {pins:List (Addr × Obj)} {σ:St} {H:Hp} {s:Shared} {R:It->Hp->Prop} {E:Value->Shared->Prop} {lo hi:Int} {t u v:Tok} {tk:Nat} (I:Inv X pins σ H s) (h1:-(2 ^ 62)<=lo) (h2:lo < 2 ^ 62) (h3:-(2 ^ 62)<=hi) (h4:hi < 2 ^ 62)
  (q:R (Itr lo (hi - lo).toNat) H):wpAny (model X.prog X.w) X.A (pyIter (.ref s.heap.objs.size)) (PIE X pins σ tg R) E { s with heap:=s.heap.push { cls:=.type "range",data:=.fields #[.int lo t,.int hi u,.int 1 v] },toks:=tk }:=by
 refine wpAny_pyIter_range (IsRange.new ..) (small_one h1 h2 h3 h4) ?_
 have I1:Inv X pins σ H { s with heap:=s.heap.push { cls:=.type "range",data:=.fields #[.int lo t,.int hi u,.int 1 v] },toks:=tk }:=I.kept fun b o e=>Heap.get?_push_of_some _ e
 refine ⟨(s.heap.push { cls:=.type "range",data:=.fields #[.int lo t,.int hi u,.int 1 v] }).objs.size,[(s.heap.push { cls:=.type "range",data:=.fields #[.int lo t,.int hi u,.int 1 v] }).objs.size],_,_,H,rfl,
  I1.kept (t':=tk) fun b o e=>Heap.get?_push_of_some _ e,qor9 _ lo (hi - lo).toNat,?_,fun b hb=>?_,q⟩
 ·have e1:lo+((0:Nat):Int) * 1=lo:=by simp
  have e2:(((hi - lo).toNat:Nat):Int) - ((0:Nat):Int)=Builtin.Range.rangeSize lo hi 1:=by rw [rangeSize_one]; split <;> omega
  show IsRangeIter _ _ (lo+((0:Nat):Int) * 1) ((((hi - lo).toNat:Nat):Int) - ((0:Nat):Int)) 1
  rw [e1,e2]
  exact Heap.get?_push_size _ rfl
 ·have e:b=(s.heap.push { cls:=.type "range",data:=.fields #[.int lo t,.int hi u,.int 1 v] }).objs.size:=by simpa using hb
  subst e
  exact I1.fpOk (Nat.le_refl _) (I1.hok.fresh (Nat.le_refl _))
noncomputable def iRng1 (ta:TA):TI:=fun σ H R=>ta σ H fun vs H1=>∃ j:Int,vs=[.int j]/\-(2 ^ 62)<=j/\j < 2 ^ 62/\R (Itr 0 j.toNat) H1
theorem pi_range1 {a:Expr} {ta:TA} {p pos:Pos} (hg:Gl X "range") (hm:X.mg "range" = none) (ha:PA X [a] ta) (hs:starEach [a] X.env=[(false,eval a X.env)]:=by rfl):PI X tg (.Call (.Name "range" p) [a] [] pos) (iRng1 ta):=by
 intro pins s σ H R I h
 refine Call_ (qnd9 I hg hm boot_range (PyProof.Rows.callWith_type1 (thn (ha pos pins s σ H _ I h) fun us s1 ⟨vs,H1,I1,r1,q1⟩=>?_) hs rfl))
 obtain ⟨j,e,q1,q2,q⟩:=q1
 subst e
 cases r1 with
 | cons r rr =>
  cases rr
  obtain ⟨t,rfl⟩:=r
  exact call_range_1 (range_it I1 (by omega) (by omega) q1 q2 (by simpa using q))
noncomputable def tFor (wi:TI) (g:TG) (tb:TS):TS:=fun D σ H=>wi σ H fun J H1=>∃ W:Nat->Nat->St->Hp->Prop,(∃ m,W 0 m σ H1)/\∀ i m σ H,W i m σ H ->
 (J.stop i H/\D.nx σ H)\/(J.go i H/\∃ N:St->Hp->Prop,(∀ σ' H',N σ' H'->∃ m',m' < m/\W (i+1) m' σ' H')/\∀ x H',J.yld i H x H'->g x σ H' fun σ2 H2=>tb { D with nx:=N,ct:=N,bk:=D.nx } σ2 H2)
noncomputable def qog9 (fp:List Addr) (h:Heap):List (Addr × Obj):=fp.filterMap fun b=>(h.get? b).map fun o=>(b,o)
theorem qfg9 {fp:List Addr} {h:Heap} {b:Addr} {o:Obj} (hb:b∈fp) (e:h.get? b=some o):(b,o)∈qog9 fp h:=List.mem_filterMap.mpr ⟨b,hb,by rw [e]; rfl⟩
theorem of_pinsAt {fp:List Addr} {h:Heap} {p:Addr × Obj} (hp:p∈qog9 fp h):p.1∈fp/\h.get? p.1=some p.2:=by
 obtain ⟨b,hb,e⟩:=List.mem_filterMap.mp hp
 cases q:h.get? b with
 | none=>rw [q] at e; cases e
 | some o =>
  rw [q] at e
  have e':(b,o)=p:=Option.some.inj e
  subst e'
  exact ⟨hb,q⟩
theorem Inv.pinned {pins:List (Addr × Obj)} {σ:St} {H:Hp} {s:Shared} {fp:List Addr} (I:Inv X pins σ H s) (hf:∀ b∈fp,FpOk X pins H b) (ho:∀ b∈fp,∃ o,s.heap.get? b=some o/\∀ v,o.data ≠ .cell v):Inv X (pins ++ qog9 fp s.heap) σ H s :=
 I.pins_of fun p hp=>(List.mem_append.mp hp).elim (fun z=>I.pin p (List.mem_append_right _ z)) fun z=>by
  obtain ⟨hb,e⟩:=of_pinsAt z
  obtain ⟨f0,f1,f2,_⟩:=hf p.1 hb
  obtain ⟨o,e',d⟩:=ho p.1 hb
  rw [e] at e'; cases e'
  exact ⟨e,f0,f1,f2,d⟩
theorem Inv.unpinned {pins pl:List (Addr × Obj)} {σ:St} {H:Hp} {s:Shared} (I:Inv X (pins ++ pl) σ H s):Inv X pins σ H s:=I.pins_of fun p hp=>I.pin p (List.mem_append_right _ (List.mem_append_left _ hp))
theorem ps_for {iter:Expr} {body:List Stmt} {wi:TI} {g:TG} {tb:TS} {pos:Pos} (hp:PassesOwn (model X.prog X.w) X.A X.env X.xe) (hc:X.calm=true) (hi:PI X tg iter wi) (hg:PG X tg g) (hb:PSs X body tb)
  (hs:∀ x,foldedSetIterable iter X.env x=pure x:=by intro _; rfl):PS X (.For tg iter body [] pos) (tFor wi g tb):=by
 intro pins s σ H D I h
 refine wpAny_For (thn (hi pins s σ H _ I h) fun v s1 h1=>thn h1 fun itv s2 h2=>?_) hs
 obtain ⟨it,fp,tn,J,H2,e,I2,T,st2,f2,W,⟨m0,w0⟩,turn⟩:=h2
 subst e
 have stat:∀ {H':Hp},(∀ b∈fp,H' b=none)->∀ b∈fp,FpOk X pins H' b:=fun hn b hb=>⟨hn b hb,(f2 b hb).2⟩
 refine codeAny_forLoop_any (fun n s'=>∃ i σ' H',Inv X pins σ' H' s'/\tn i s'.heap/\(∀ b∈fp,H' b=none)/\W i n σ' H') ?_ m0 ⟨0,σ,H2,I2,st2,fun b hb=>(f2 b hb).1,w0⟩
 intro n s3 z9;obtain ⟨i,σ3,H3,I3,st3,fr3,w3⟩ := z9
 rcases turn i n σ3 H3 w3 with ⟨stop,qn⟩ | ⟨go,N,hN,step⟩
 ·refine wpAny_passesOwn hp (thn (T.done X rfl rfl rfl hc i pins s3 σ3 H3 X.xe I3 (stat fr3) st3 stop) fun r s4 ⟨hr,I4⟩=>?_)
  subst hr
  exact wpAny_execs_nil ⟨σ3,H3,I4,qn⟩
 ·refine wpAny_passesOwn hp (thn (T.item X rfl rfl rfl hc i pins s3 σ3 H3 X.xe I3 (stat fr3) st3 go) fun r s4 ⟨u,hr,h4⟩=>?_)
  subst hr
  refine wpAny_passesOwn hp (thn h4 fun _ s5 ⟨x,H5,I5,r5,y5,st5,fr5⟩=>?_)
  have I5':=I5.pinned (stat fr5) (T.obj _ _ st5)
  refine wpAny_passesOwn hp (thn (hg _ s5 σ3 H5 x u _ I5' r5 (step x H5 y5)) fun _ s6 ⟨σ6,H6,I6,q6⟩=>?_)
  refine wpAny_passesOwn hp (thn (hb _ s6 σ6 H6 _ I6 q6) fun f s7 q7=>?_)
  have again:∀ {σ7:St} {H7:Hp},Inv X (pins ++ qog9 fp s5.heap) σ7 H7 s7->N σ7 H7->∃ m,m < n/\∃ i σ' H',Inv X pins σ' H' s7/\tn i s7.heap/\(∀ b∈fp,H' b=none)/\W i m σ' H':=fun {σ7 H7} I7 n7=>by
   obtain ⟨m',hm,w7⟩:=hN σ7 H7 n7
   refine ⟨m',hm,i+1,σ7,H7,I7.unpinned,T.keep _ _ _ st5 fun b hb o e=>(I7.pin (b,o) (List.mem_append_right _ (List.mem_append_right _ (qfg9 hb e)))).1,fun b hb=>?_,w7⟩
   obtain ⟨o,e,d⟩:=T.obj _ _ st5 b hb
   exact (I7.pin (b,o) (List.mem_append_right _ (List.mem_append_right _ (qfg9 hb e)))).2.1
  cases f with
  | next=>obtain ⟨σ7,H7,I7,n7⟩:=q7; exact again I7 n7
  | cont=>obtain ⟨σ7,H7,I7,n7⟩:=q7; exact again I7 n7
  | brk=>obtain ⟨σ7,H7,I7,q7⟩:=q7; exact ⟨σ7,H7,I7.unpinned,q7⟩
  | ret v=>obtain ⟨x7,σ7,H7,I7,r7,q7⟩:=q7; exact ⟨x7,σ7,H7,I7.unpinned,r7,q7⟩
end
theorem qdm9 {K:W.Frag} {a:Addr} {xs:List V} {g:TG} {tb:TS} {D:Ends} {σ:St} {H:Hp} (Pv:Nat->St->Hp->Prop) (h0:Pv 0 σ H) (hl:∀ i σ H,i<=xs.length->Pv i σ H->SqL K H a xs)
  (hs:∀ i x σ H,xs[i]?=some x->Pv i σ H->g x σ H fun σ2 H2=>tb { D with nx:=Pv (i+1),ct:=Pv (i+1),bk:=D.nx } σ2 H2) (hd:∀ σ H,Pv xs.length σ H->D.nx σ H) :
  ∃ W:Nat->Nat->St->Hp->Prop,(∃ m,W 0 m σ H)/\∀ i m σ H,W i m σ H ->
   ((Itl K a).stop i H/\D.nx σ H)\/((Itl K a).go i H/\∃ N:St->Hp->Prop,(∀ σ' H',N σ' H'->∃ m',m' < m/\W (i+1) m' σ' H')/\∀ x H',(Itl K a).yld i H x H'->g x σ H' fun σ2 H2=>tb { D with nx:=N,ct:=N,bk:=D.nx } σ2 H2):=by
 refine ⟨fun i m σ H=>m=xs.length - i/\i<=xs.length/\Pv i σ H,⟨xs.length,by simp,Nat.zero_le _,h0⟩,?_⟩
 intro i m σ H z9;obtain ⟨rfl,hi,p⟩ := z9
 have q:=hl i σ H hi p
 by_cases hlt:i < xs.length
 ·refine .inr ⟨⟨xs,xs[i],q,by simp [hlt]⟩,Pv (i+1),fun σ' H' p'=>⟨xs.length - (i+1),by omega,rfl,hlt,p'⟩,fun x H' y=>?_⟩
  obtain ⟨e,y⟩:=y
  subst e
  exact hs i x σ _ (y xs q) p
 ·have e:i=xs.length:=by omega
  subst e
  exact .inl ⟨⟨xs,q,Nat.le_refl _⟩,hd σ H p⟩
theorem qhy9 {lo:Int} {n:Nat} {g:TG} {tb:TS} {D:Ends} {σ:St} {H:Hp} (Pv:Nat->St->Hp->Prop) (h0:Pv 0 σ H)
  (hs:∀ i σ H,i < n->Pv i σ H->g (.int (lo+i)) σ H fun σ2 H2=>tb { D with nx:=Pv (i+1),ct:=Pv (i+1),bk:=D.nx } σ2 H2) (hd:∀ σ H,Pv n σ H->D.nx σ H) :
  ∃ W:Nat->Nat->St->Hp->Prop,(∃ m,W 0 m σ H)/\∀ i m σ H,W i m σ H ->
   ((Itr lo n).stop i H/\D.nx σ H)\/((Itr lo n).go i H/\∃ N:St->Hp->Prop,(∀ σ' H',N σ' H'->∃ m',m' < m/\W (i+1) m' σ' H')/\∀ x H',(Itr lo n).yld i H x H'->g x σ H' fun σ2 H2=>tb { D with nx:=N,ct:=N,bk:=D.nx } σ2 H2):=by
 refine ⟨fun i m σ H=>m=n - i/\i<=n/\Pv i σ H,⟨n,by simp,Nat.zero_le _,h0⟩,?_⟩
 intro i m σ H z9;obtain ⟨rfl,hi,p⟩ := z9
 by_cases hlt:i < n
 ·refine .inr ⟨hlt,Pv (i+1),fun σ' H' p'=>⟨n - (i+1),by omega,rfl,hlt,p'⟩,fun x H' y=>?_⟩
  obtain ⟨e,y⟩:=y
  subst e y
  exact hs i σ _ hlt p
 ·have e:i=n:=by omega
  subst e
  exact .inl ⟨Nat.le_refl _,hd σ H p⟩
theorem qed9 {c:TT} {tb:TS} {D:Ends} {σ:St} {H:Hp} (Pv:St->Hp->Prop) (μ:St->Hp->Nat) (h0:Pv σ H)
  (hs:∀ σ H,Pv σ H->c σ H fun b H1=>if b=true then tb { D with nx:=fun σ' H'=>Pv σ' H'/\μ σ' H' < μ σ H,ct:=fun σ' H'=>Pv σ' H'/\μ σ' H' < μ σ H,bk:=D.nx } σ H1 else D.nx σ H1)
  (mono:∀ σ H Q Q',(∀ b H1,Q b H1->Q' b H1)->c σ H Q->c σ H Q'):tWhile c tb D σ H:=by
 refine ⟨fun m σ H=>m=μ σ H/\Pv σ H,⟨_,rfl,h0⟩,?_⟩
 intro m σ H z9;obtain ⟨rfl,p⟩ := z9
 refine mono σ H _ _ (fun b H1 q=>?_) (hs σ H p)
 cases b with
 | true=>exact ⟨_,fun σ' H' ⟨p',l⟩=>⟨_,l,rfl,p'⟩,q⟩
 | false=>exact q
noncomputable abbrev R2:=V->V->Hp->VK->Prop
noncomputable def OpR (X:Cx) (f:Value->Value->Sem Value) (r:R2):Prop :=
 ∀ (pins:List (Addr × Obj)) (s:Shared) (σ:St) (H:Hp) (x y:V) (v u:Value) (Q:VK),Inv X pins σ H s->RelV x v->RelV y u->r x y H Q ->
  wpAny (model X.prog X.w) X.A (f v u) (EP X pins σ Q) X.xe s
noncomputable def UnR (X:Cx) (f:Value->Sem Value) (r:V->Hp->VK->Prop):Prop :=
 ∀ (pins:List (Addr × Obj)) (s:Shared) (σ:St) (H:Hp) (x:V) (v:Value) (Q:VK),Inv X pins σ H s->RelV x v->r x H Q ->
  wpAny (model X.prog X.w) X.A (f v) (EP X pins σ Q) X.xe s
noncomputable def CallR (X:Cx) (f:Value) (r:List V->Hp->VK->Prop):Prop :=
 ∀ (pins:List (Addr × Obj)) (s:Shared) (σ:St) (H:Hp) (xs:List V) (us:List Value) (Q:VK),Inv X pins σ H s->Vals xs us->r xs H Q ->
  wpAny (model X.prog X.w) X.A (call f us) (EP X pins σ Q) X.xe s
noncomputable def tOp (r:R2) (ta tb:TE):TE:=fun σ H Q=>ta σ H fun x H1=>tb σ H1 fun y H2=>r x y H2 Q
noncomputable def tUn (r:V->Hp->VK->Prop) (ta:TE):TE:=fun σ H Q=>ta σ H fun x H1=>r x H1 Q
noncomputable def rI (C:Int->Int->Prop) (g:Int->Int->V):R2:=fun x y H Q=>∃ i j,x=.int i/\y=.int j/\C i j/\Q (g i j) H
noncomputable def rI0 (g:Int->Int->V):R2:=fun x y H Q=>∃ i j,x=.int i/\y=.int j/\Q (g i j) H
noncomputable def rU (g:Int->V):V->Hp->VK->Prop:=fun x H Q=>∃ i,x=.int i/\Q (g i) H
section
variable {X:Cx} {a b c:Expr} {ta tb tc:TE} {pos:Pos}
theorem binT (ha:PE X a ta) (hb:PE X b tb) {pins:List (Addr × Obj)} {s:Shared} {σ:St} {H:Hp} {R:V->V->Hp->Prop} (I:Inv X pins σ H s)
  (h:ta σ H fun x H1=>tb σ H1 fun y H2=>R x y H2) {Q:Value->Shared->Prop} {f:Value->Value->Sem Value}
  (hf:∀ v u s2 x y H2,Inv X pins σ H2 s2->RelV x v->RelV y u->R x y H2->wpAny (model X.prog X.w) X.A (f v u) Q X.xe s2) :
  wpAny (model X.prog X.w) X.A (eval a X.env) (fun v s₁=>wpAny (model X.prog X.w) X.A (eval b X.env) (fun u s₂=>wpAny (model X.prog X.w) X.A (f v u) Q X.xe s₂) X.xe s₁) X.xe s:=by
 refine thn (ha pins s σ H _ I h) fun v s1 ⟨x,H1,I1,r1,q1⟩=>?_
 refine thn (hb pins s1 σ H1 _ I1 q1) fun u s2 ⟨y,H2,I2,r2,q2⟩=>?_
 exact hf v u s2 x y H2 I2 r1 r2 q2
theorem pe_op {op:Operator} {r:R2} (ho:OpR X (binaryOp op) r) (ha:PE X a ta) (hb:PE X b tb):PE X (.BinOp a op b pos) (tOp r ta tb):=by
 intro pins s σ H Q I h
 exact wpAny_BinOp (binT ha hb I h fun v u s2 x y H2 I2 rx ry q=>ho pins s2 σ H2 x y v u Q I2 rx ry q)
theorem pe_un {op:UnaryOp} {r:V->Hp->VK->Prop} (ho:UnR X (unaryOp op) r) (ha:PE X a ta):PE X (.UnaryOp op a pos) (tUn r ta):=by
 intro pins s σ H Q I h
 exact UnaryOp_ (thn (ha pins s σ H _ I h) fun v s1 ⟨x,H1,I1,r1,q1⟩=>ho pins s1 σ H1 x v Q I1 r1 q1)
theorem opI {f:Value->Value->Sem Value} {C:Int->Int->Prop} {g:Int->Int->Int}
  (rule:∀ (i j:Int) (t u:Tok) (s:Shared) (Q:Value->Shared->Prop) (E:Value->Shared->Prop),C i j->Q (.int (g i j) s.toks) { s with toks:=s.toks+1 }->wpAny (model X.prog X.w) X.A (f (.int i t) (.int j u)) Q E s) :
  OpR X f (rI C fun i j=>.int (g i j)):=by
 intro pins s σ H x y v u Q I rx ry h
 obtain ⟨i,j,rfl,rfl,hc,q⟩:=h
 obtain ⟨t,rfl⟩:=rx
 obtain ⟨t',rfl⟩:=ry
 exact rule i j t t' s _ _ hc ⟨.int (g i j),H,I.tok _,⟨_,rfl⟩,q⟩
theorem opI0 {f:Value->Value->Sem Value} {g:Int->Int->Int}
  (rule:∀ (i j:Int) (t u:Tok) (s:Shared) (Q:Value->Shared->Prop) (E:Value->Shared->Prop),Q (.int (g i j) s.toks) { s with toks:=s.toks+1 }->wpAny (model X.prog X.w) X.A (f (.int i t) (.int j u)) Q E s) :
  OpR X f (rI0 fun i j=>.int (g i j)):=by
 intro pins s σ H x y v u Q I rx ry h
 obtain ⟨i,j,rfl,rfl,q⟩:=h
 obtain ⟨t,rfl⟩:=rx
 obtain ⟨t',rfl⟩:=ry
 exact rule i j t t' s _ _ ⟨.int (g i j),H,I.tok _,⟨_,rfl⟩,q⟩
theorem opB0 {f:Value->Value->Sem Value} {g:Int->Int->Bool}
  (rule:∀ (i j:Int) (t u:Tok) (s:Shared) (Q:Value->Shared->Prop) (E:Value->Shared->Prop),Q (.bool (g i j)) s->wpAny (model X.prog X.w) X.A (f (.int i t) (.int j u)) Q E s) :
  OpR X f (rI0 fun i j=>.bl (g i j)):=by
 intro pins s σ H x y v u Q I rx ry h
 obtain ⟨i,j,rfl,rfl,q⟩:=h
 obtain ⟨t,rfl⟩:=rx
 obtain ⟨t',rfl⟩:=ry
 exact rule i j t t' s _ _ ⟨.bl (g i j),H,I,rfl,q⟩
noncomputable def CPow (i j:Int):Prop:=0<=j/\j<=1000000/\i.natAbs < 2 ^ 64
noncomputable def CMul (i j:Int):Prop:=(-(2 ^ 64) < i/\i < 2 ^ 64)\/(-(2 ^ 64) < j/\j < 2 ^ 64)
theorem CMul.ok {i j:Int} (h:CMul i j):IntMulOk i j:=by
 rcases h with ⟨h1,h2⟩ | ⟨h1,h2⟩
 ·exact .of_left (intBits_le_64 h1 h2)
 ·exact .of_right (intBits_le_64 h1 h2)
theorem op_add:OpR X (binaryOp .Add) (rI0 fun i j=>.int (i+j)):=opI0 fun _ _ _ _ _ _ _ q=>add_int q
theorem op_sub:OpR X (binaryOp .Sub) (rI0 fun i j=>.int (i - j)):=opI0 fun _ _ _ _ _ _ _ q=>sub_int q
theorem op_mul:OpR X (binaryOp .Mult) (rI CMul fun i j=>.int (i * j)):=opI fun _ _ _ _ _ _ _ hc q=>mul_int q hc.ok
theorem op_mod:OpR X (binaryOp .Mod) (rI (fun _ j=>0 < j) fun i j=>.int (i % j)):=opI fun i j _ _ _ _ _ hc q=>by
 have h1:(0:Int) < j:=hc
 exact mod_int' (by omega) (by rw [Int.fmod_eq_emod_of_nonneg i (by omega)]; exact q)
theorem op_pow:OpR X (binaryOp .Pow) (rI CPow fun i j=>.int (i ^ j.toNat)):=opI fun _ _ _ _ _ _ _ hc q=>pow_int_small hc.1 hc.2.1 hc.2.2 q
theorem unI {f:Value->Sem Value} {g:Int->Int}
  (rule:∀ (i:Int) (t:Tok) (s:Shared) (Q:Value->Shared->Prop) (E:Value->Shared->Prop),Q (.int (g i) s.toks) { s with toks:=s.toks+1 }->wpAny (model X.prog X.w) X.A (f (.int i t)) Q E s) :
  UnR X f (rU fun i=>.int (g i)):=by
 intro pins s σ H x v Q I rx h
 obtain ⟨i,rfl,q⟩:=h
 obtain ⟨t,rfl⟩:=rx
 exact rule i t s _ _ ⟨.int (g i),H,I.tok _,⟨_,rfl⟩,q⟩
theorem un_neg:UnR X (unaryOp .USub) (rU fun i=>.int (-i)):=unI fun _ _ _ _ _ q=>neg_int q
end
noncomputable def scal:V->V->Bool
 | .non,.non=>true | .non,.int _=>true | .int _,.non=>true | .non,.bl _=>true | .bl _,.non=>true | .non,.str _=>true | .str _,.non=>true
 | .int _,.int _=>true | .bl _,.bl _=>true | .str _,.str _=>true | .byt _,.byt _=>true
 | .int _,.str _=>true | .str _,.int _=>true | .bl _,.str _=>true | .str _,.bl _=>true
 | _,_=>false
noncomputable def rEq:R2:=fun x y H Q=>scal x y=true/\Q (.bl (decide (x=y))) H
noncomputable def rNe:R2:=fun x y H Q=>scal x y=true/\Q (.bl (!decide (x=y))) H
theorem dec_int {i j:Int}:decide (V.int i=V.int j)=(i == j):=by
 rw [Bool.eq_iff_iff]
 simp
theorem dec_bl {i j:Bool}:decide (V.bl i=V.bl j)=(i == j):=by
 rw [Bool.eq_iff_iff]
 simp
theorem dec_str {i j:Str}:decide (V.str i=V.str j)=(i == j):=by
 rw [Bool.eq_iff_iff]
 simp
theorem dec_byt {i j:Array UInt8}:decide (V.byt i=V.byt j)=(i.toList == j.toList):=by
 rw [Bool.eq_iff_iff]
 cases i
 cases j
 simp
section
variable {X:Cx} {a b c:Expr} {ta tb tc:TE} {pos:Pos}
theorem qcg9 {pins:List (Addr × Obj)} {σ:St} {H:Hp} {s:Shared} {Q:VK} {k k':Bool} (I:Inv X pins σ H s) (q:Q (.bl k) H) (e:k=k'):EP X pins σ Q (.bool k') s:=by
 subst e
 exact ⟨.bl k,H,I,rfl,q⟩
theorem op_eq:OpR X (compareOp .Eq) rEq:=by
 intro pins s σ H x y v u Q I rx ry h
 obtain ⟨hs,q⟩:=h
 cases x with
 | non =>
  cases rx
  cases y with
  | non=>cases ry; exact PySem.EqNone.eq_none_none (qcg9 I q (by simp))
  | bl j=>cases ry; exact PySem.EqNone.eq_none_bool (qcg9 I q (by simp))
  | int j=>obtain ⟨t',rfl⟩:=ry; exact PySem.EqNone.eq_none_int (qcg9 I q (by simp))
  | str j=>obtain ⟨t',rfl⟩:=ry; exact PySem.EqNone.eq_none_str (qcg9 I q (by simp))
  | _=>exact absurd (show false=true from hs) Bool.false_ne_true
 | bl i =>
  cases rx
  cases y with
  | non=>cases ry; exact PySem.EqNone.eq_bool_none (qcg9 I q (by simp))
  | bl j=>cases ry; exact eq_bool (qcg9 I q dec_bl)
  | str j=>obtain ⟨t',rfl⟩:=ry; exact PySem.EqMixed.eq_bool_str (qcg9 I q (by simp))
  | _=>exact absurd (show false=true from hs) Bool.false_ne_true
 | int i =>
  obtain ⟨t,rfl⟩:=rx
  cases y with
  | non=>cases ry; exact PySem.EqNone.eq_int_none (qcg9 I q (by simp))
  | int j=>obtain ⟨t',rfl⟩:=ry; exact eq_int (qcg9 I q dec_int)
  | str j=>obtain ⟨t',rfl⟩:=ry; exact PySem.EqMixed.eq_int_str (qcg9 I q (by simp))
  | _=>exact absurd (show false=true from hs) Bool.false_ne_true
 | str i =>
  obtain ⟨t,rfl⟩:=rx
  cases y with
  | non=>cases ry; exact PySem.EqNone.eq_str_none (qcg9 I q (by simp))
  | bl j=>cases ry; exact PySem.EqMixed.eq_str_bool (qcg9 I q (by simp))
  | int j=>obtain ⟨t',rfl⟩:=ry; exact PySem.EqMixed.eq_str_int (qcg9 I q (by simp))
  | str j=>obtain ⟨t',rfl⟩:=ry; exact eq_str (qcg9 I q dec_str)
  | _=>exact absurd (show false=true from hs) Bool.false_ne_true
 | byt i =>
  obtain ⟨t,rfl⟩:=rx
  cases y with
  | byt j=>obtain ⟨t',rfl⟩:=ry; exact W.eq_bytes (qcg9 I q dec_byt)
  | _=>exact absurd (show false=true from hs) Bool.false_ne_true
 | _=>cases y <;> exact absurd (show false=true from hs) Bool.false_ne_true
theorem op_ne:OpR X (compareOp .NotEq) rNe:=by
 intro pins s σ H x y v u Q I rx ry h
 obtain ⟨hs,q⟩:=h
 cases x with
 | non =>
  cases rx
  cases y with
  | non=>cases ry; exact PySem.EqNone.ne_none_none (qcg9 I q (by simp))
  | bl j=>cases ry; exact PySem.EqNone.ne_none_bool (qcg9 I q (by simp))
  | int j=>obtain ⟨t',rfl⟩:=ry; exact PySem.EqNone.ne_none_int (qcg9 I q (by simp))
  | str j=>obtain ⟨t',rfl⟩:=ry; exact PySem.EqNone.ne_none_str (qcg9 I q (by simp))
  | _=>exact absurd (show false=true from hs) Bool.false_ne_true
 | bl i =>
  cases rx
  cases y with
  | non=>cases ry; exact PySem.EqNone.ne_bool_none (qcg9 I q (by simp))
  | bl j=>cases ry; exact ne_bool (qcg9 I q (congrArg not dec_bl))
  | str j=>obtain ⟨t',rfl⟩:=ry; exact PySem.EqMixed.ne_bool_str (qcg9 I q (by simp))
  | _=>exact absurd (show false=true from hs) Bool.false_ne_true
 | int i =>
  obtain ⟨t,rfl⟩:=rx
  cases y with
  | non=>cases ry; exact PySem.EqNone.ne_int_none (qcg9 I q (by simp))
  | int j=>obtain ⟨t',rfl⟩:=ry; exact ne_int (qcg9 I q (congrArg not dec_int))
  | str j=>obtain ⟨t',rfl⟩:=ry; exact PySem.EqMixed.ne_int_str (qcg9 I q (by simp))
  | _=>exact absurd (show false=true from hs) Bool.false_ne_true
 | str i =>
  obtain ⟨t,rfl⟩:=rx
  cases y with
  | non=>cases ry; exact PySem.EqNone.ne_str_none (qcg9 I q (by simp))
  | bl j=>cases ry; exact PySem.EqMixed.ne_str_bool (qcg9 I q (by simp))
  | int j=>obtain ⟨t',rfl⟩:=ry; exact PySem.EqMixed.ne_str_int (qcg9 I q (by simp))
  | str j=>obtain ⟨t',rfl⟩:=ry; exact ne_str (qcg9 I q (congrArg not dec_str))
  | _=>exact absurd (show false=true from hs) Bool.false_ne_true
 | byt i =>
  obtain ⟨t,rfl⟩:=rx
  cases y with
  | byt j=>obtain ⟨t',rfl⟩:=ry; exact W.ne_bytes (qcg9 I q (congrArg not dec_byt))
  | _=>exact absurd (show false=true from hs) Bool.false_ne_true
 | _=>cases y <;> exact absurd (show false=true from hs) Bool.false_ne_true
theorem op_lt:OpR X (compareOp .Lt) (rI0 fun i j=>.bl (decide (i < j))):=opB0 fun _ _ _ _ _ _ _ q=>lt_int q
theorem op_le:OpR X (compareOp .LtE) (rI0 fun i j=>.bl (decide (i<=j))):=opB0 fun _ _ _ _ _ _ _ q=>le_int q
theorem op_gt:OpR X (compareOp .Gt) (rI0 fun i j=>.bl (decide (j < i))):=opB0 fun _ _ _ _ _ _ _ q=>gt_int q
theorem op_ge:OpR X (compareOp .GtE) (rI0 fun i j=>.bl (decide (j<=i))):=opB0 fun _ _ _ _ _ _ _ q=>ge_int q
theorem qay9 (b:Expr) {op:CmpOp} (h:op ≠ .In:=by decide) (h2:op ≠ .NotIn:=by decide):behindInMarks op b=false:=by
 have e1:(op == CmpOp.In)=false:=by cases op <;> first | rfl | exact absurd rfl h
 have e2:(op == CmpOp.NotIn)=false:=by cases op <;> first | rfl | exact absurd rfl h2
 cases b <;> simp [behindInMarks,e1,e2]
theorem qna9 {op:CmpOp} {r:R2} (ho:OpR X (compareOp op) r) (ha:PE X a ta) (hb:PE X b tb) (hm:behindInMarks op b=false):PE X (.Compare a [op] [b] pos) (tOp r ta tb):=by
 intro pins s σ H Q I h
 exact wpAny_Compare1 (binT ha hb I h fun v u s2 x y H2 I2 rx ry q=>ho pins s2 σ H2 x y v u Q I2 rx ry q) hm
noncomputable def tTest (t:TE):TT:=fun σ H Q=>t σ H fun x H'=>∃ k,x=.bl k/\Q k H'
theorem pt_cmpR {op:CmpOp} {r:R2} (ho:OpR X (compareOp op) r) (ha:PE X a ta) (hb:PE X b tb) (hm:behindInMarks op b=false):PT X (.Compare a [op] [b] pos) (tTest (tOp r ta tb)):=by
 intro pins s σ H Q I h
 refine wpAny_isTrue_Compare1 (thn (ha pins s σ H _ I h) fun v s1 ⟨x,H1,I1,r1,q1⟩=>thn (hb pins s1 σ H1 _ I1 q1) fun u s2 ⟨y,H2,I2,r2,q2⟩ =>
  thn (ho pins s2 σ H2 x y v u _ I2 r1 r2 q2) fun c s3 ⟨z,H3,I3,r3,k,e,q3⟩=>?_) hm
 subst e
 cases r3
 exact wpAny_truthy_bool ⟨H3,I3,q3⟩
noncomputable def tChain (r r':R2) (ta tb tc:TE):TE:=fun σ H Q=>ta σ H fun x H1=>tb σ H1 fun y H2=>r x y H2 fun z H3=>∃ k,z=.bl k /\
 (if k=true then tc σ H3 fun w' H4=>r' y w' H4 Q else Q (.bl false) H3)
theorem pe_chain {op op':CmpOp} {r r':R2} (ho:OpR X (compareOp op) r) (ho':OpR X (compareOp op') r') (ha:PE X a ta) (hb:PE X b tb) (hc:PE X c tc)
  (hm:lastMarks [op,op'] [b,c]=false:=by with_unfolding_all rfl):PE X (.Compare a [op,op'] [b,c] pos) (tChain r r' ta tb tc):=by
 intro pins s σ H Q I h
 refine Compare_chain (thn (ha pins s σ H _ I h) fun v s1 ⟨x,H1,I1,r1,q1⟩=>chain_link (thn (hb pins s1 σ H1 _ I1 q1) fun u s2 ⟨y,H2,I2,r2,q2⟩ =>
  thn (ho pins s2 σ H2 x y v u _ I2 r1 r2 q2) fun d s3 ⟨z,H3,I3,r3,k,e,q3⟩=>?_)) hm
 subst e
 cases r3
 refine wpAny_truthy_bool ?_
 cases k with
 | false=>exact ite_ff ⟨.bl false,H3,I3,rfl,q3⟩
 | true=>exact ite_tt (chain_last (thn (hc pins s3 σ H3 _ I3 q3) fun w' s4 ⟨z',H4,I4,r4,q4⟩=>ho' pins s4 σ H4 y z' u w' Q I4 r2 r4 q4))
theorem line63:(sizeLine:Nat) < 2 ^ 63:=by rw [sizeLine_eq]; decide
theorem vals1 {x:V} {us:List Value} (r:Vals [x] us):∃ u,us=[u]/\RelV x u:=by
 cases r with
 | cons r1 r2=>cases r2; exact ⟨_,rfl,r1⟩
theorem vals2 {x y:V} {us:List Value} (r:Vals [x,y] us):∃ u w',us=[u,w']/\RelV x u/\RelV y w':=by
 cases r with
 | cons r1 r2 =>
  cases r2 with
  | cons r3 r4=>cases r4; exact ⟨_,_,rfl,r1,r3⟩
theorem call_max2 (hc:X.calm=true):CallR X (.builtin "max") (fun xs H Q=>∃ i j,xs=[.int i,.int j]/\Q (.int (if j > i then j else i)) H):=by
 intro pins s σ H xs us Q I r h
 obtain ⟨i,j,rfl,q⟩:=h
 obtain ⟨u,w',rfl,⟨t,rfl⟩,⟨t',rfl⟩⟩:=vals2 r
 refine max_two_ints (I.ok.hd hc) fun h' tk k=>⟨_,H,I.kept k,?_,q⟩
 by_cases hj:j > i
 ·rw [if_pos hj,if_pos hj]; exact ⟨_,rfl⟩
 ·rw [if_neg hj,if_neg hj]; exact ⟨_,rfl⟩
theorem call_min2 (hc:X.calm=true):CallR X (.builtin "min") (fun xs H Q=>∃ i j,xs=[.int i,.int j]/\Q (.int (if j < i then j else i)) H):=by
 intro pins s σ H xs us Q I r h
 obtain ⟨i,j,rfl,q⟩:=h
 obtain ⟨u,w',rfl,⟨t,rfl⟩,⟨t',rfl⟩⟩:=vals2 r
 refine min_two_ints (I.ok.hd hc) fun h' tk k=>⟨_,H,I.kept k,?_,q⟩
 by_cases hj:j < i
 ·rw [if_pos hj,if_pos hj]; exact ⟨_,rfl⟩
 ·rw [if_neg hj,if_neg hj]; exact ⟨_,rfl⟩
end
structure ObjM (h:Heap) (x dx C:Addr) (mA:Str->Option Value):Prop where
 obj:h.get? x=some (W.instObj C dx)
 ns:h.Ns1 dx mA
 ne:dx ≠ x
theorem lookIn_ns {h:Heap} {dx:Addr} {mA:Str->Option Value} (n:h.Ns1 dx mA):∃ od,h.get? dx=some od/\∀ name,W.lookIn name od=some (mA name):=by
 obtain ⟨o,es,ep,ho,hd,hk,_,hm⟩:=n
 refine ⟨o,ho,fun name=>?_⟩
 have e:=hm name
 unfold nsFind findBy at e
 rw [<- Array.find?_toList] at e
 unfold W.lookIn
 rw [hd]
 dsimp only
 split
 ·rename_i y q
  rw [q] at e
  exact congrArg some e
 ·rename_i q
  rw [q] at e
  have a:es.toList.any (·.refKey)=false:=by
   rw [List.any_eq_false]
   intro y hy
   obtain ⟨z,t,hkey⟩:=hk y (Array.mem_toList_iff.mp hy)
   simp [DictEntry.refKey,hkey]
  have a':¬ es.toList.any (·.refKey)=true:=by rw [a]; exact Bool.false_ne_true
  rw [if_neg a']
  exact congrArg some e
theorem ObjM.look {h:Heap} {x dx C:Addr} {mA:Str->Option Value} (I:ObjM h x dx C mA):∃ od,W.InstAt h x (W.instObj C dx) C (some od)/\∀ name,W.lookIn name od=some (mA name) :=
 let ⟨od,ho,hl⟩:=lookIn_ns I.ns
 ⟨od,⟨I.obj,rfl,rfl,ho⟩,hl⟩
section
variable {prog:Program} {w:World} {A:Around} {E:Value->Shared->Prop} {s:Shared} {K:W.Frag} {x dx C f:Addr} {mA:Str->Option Value} {name:Str} {v:Value}
theorem get_map {expr:Bool} {Q:Value->Shared->Prop} (X:K.In s.heap) (I:ObjM s.heap x dx C mA) (hg:W.plainGet K C name=true) (hh:W.hasDictIn K C=true)
  (ha:W.findIn K (.ref C) name=some none) (hv:mA name=some v) (hv':W.handedIn v=true) (h:Q v { s with toks:=s.toks+1 }) :
  wpAny (model prog w) A (getAttr (.ref x) name expr) Q E s:=by
 obtain ⟨od,J,hl⟩:=I.look
 exact W.get_value X J (W.plainGet_of hg).1 (W.findObj_own hh ha rfl (by rw [hl,hv])) hv' h
theorem get_meth {pl:Sem Bool} {Q:Value × List Value->Shared->Prop} (X:K.In s.heap) (I:ObjM s.heap x dx C mA) (hg:W.plainGet K C name=true)
  (hf:W.findIn K (.ref C) name=some (some (.ref f))) (ht:W.isFn K (.ref f)=true) (hv:mA name=none) (h:Q (.ref f,[.ref x]) s) :
  wpAny (model prog w) A (getMethod (.ref x) name pl) Q E s:=by
 obtain ⟨od,J,hl⟩:=I.look
 exact W.method_fn X J (W.plainGet_of hg).1 (W.plainGet_of hg).2 hf (beq_iff_eq.mp ht) (by show (W.lookIn name od).map (·.isSome)=some false; rw [hl,hv]; rfl) h
theorem qki9 {ns:List Str} {Q:Unit->Shared->Prop} (X:K.In s.heap) (I:ObjM s.heap x dx C mA)
  (hs:W.findIn K (.ref C) "__setattr__" = some (some (.builtin "object.__setattr__"))) (hp:W.plainOver K C=true) (ht:W.takerIn K C name=some none) (hh:W.hasDictIn K C=true)
  (hw:PySem.Within mA ns) (hsz:ns.length<=sizeLine)
  (h:∀ h',ObjM h' x dx C (fun y=>if y=name then some v else mA y)->Heap.SameBut dx s.heap h'->Q () { s with heap:=h',toks:=s.toks+2 }) :
  wpAny (model prog w) A (setAttr (.ref x) name v) Q E s:=by
 obtain ⟨od,J,hl⟩:=I.look
 refine W.set_plain X J hs (W.osa_open (s:={ s with toks:=s.toks+1 }) (r:=none) X J hp ht fun b=>?_)
 obtain ⟨cd,hc,hd'⟩:=W.any_some hh
 have hx:s.heap.get? x=some ⟨.ref C,some dx,.plain,#[]⟩:=I.obj
 refine wpAny_bind (wpAny_pure (wpAny_bind (wpAny_bind (wpAny_loadPart hx (wpAny_bind (W.Looks.here (s:={ s with toks:=s.toks+1 }) (W.looks_clsIn X hc) ?_))))))
 rw [hd']
 refine wpAny_pure (a:=some dx) (wpAny_bind (wpAny_pure (wpAny_bind ?_)))
 refine wpAny_nsSet1 (s:={ s with toks:=s.toks+1 }) I.ns fun h' hn2 hs2=>?_
 obtain ⟨oD,esD,epD,hoD,hdD,hcD⟩:=hn2.count (PySem.Within.cons name v hw)
 refine wpAny_bind (wpAny_lookBehind hoD (by rw [hdD]; exact pastItsLine_dict (Nat.le_trans hcD (by rw [List.length_cons]; omega))) ?_)
 exact wpAny_pure (h _ ⟨(hs2.2 _ (Ne.symm I.ne)).trans I.obj,hn2,I.ne⟩ hs2)
theorem qmp9 {R:Result->Shared->Prop} {vs:List Value} {kw:List (Str × Value)} (X:K.In s.heap) (hm:W.makesIn K C=true)
  (hi:W.findIn K (.ref C) "__init__" = some (some (.ref f))) (hf:W.typeIn K (.ref f)=some (.type "function"))
  (h:codeAny (model prog w) (A.under (.builtin "type.__call__" ⟨.ref C :: vs,kw⟩)) (.call (.ref f) ⟨.ref (s.heap.objs.size+1) :: vs,kw⟩) (W.InitBack (s.heap.objs.size+1) R)
   { s with heap:=(s.heap.push W.emptyDict).push (W.instObj C s.heap.objs.size) }) :
  codeAny (model prog w) A (.call (.ref C) ⟨vs,kw⟩) R s:=by
 obtain ⟨hh,g,d,t,os⟩:=s
 exact W.make_core (W.makes_of X hm) (W.looks_findIn X hi) (fun self=>W.bind_fn X self hf) (.inl rfl) h
end
noncomputable def putF (f:Str) (v:V):List (Str × V)->List (Str × V)
 | []=>[(f,v)]
 | (g,x) :: r=>if g=f then (g,v) :: r else (g,x) :: putF f v r
theorem qhb9 (f g:Str) (v:V):∀ fs:List (Str × V),(putF f v fs).lookup g=if g=f then some v else fs.lookup g
 | []=>by
  show List.lookup g [(f,v)]=_
  by_cases h:g=f
  ·have hb:(g == f)=true:=beq_iff_eq.mpr h
   simp only [List.lookup,hb,if_pos h]
  ·have hb:(g == f)=false:=beq_eq_false_iff_ne.mpr h
   simp only [List.lookup,hb,if_neg h]
 | (k,x) :: r=>by
  have ih:=qhb9 f g v r
  rw [show putF f v ((k,x) :: r)=(if k=f then (k,v) :: r else (k,x) :: putF f v r) from rfl]
  by_cases hk:k=f
  ·rw [if_pos hk]
   by_cases h:g=k
   ·have hb:(g == k)=true:=beq_iff_eq.mpr h
    simp only [List.lookup,hb,if_pos (h.trans hk)]
   ·have hb:(g == k)=false:=beq_eq_false_iff_ne.mpr h
    simp only [List.lookup,hb,if_neg (fun e:g=f=>h (e.trans hk.symm))]
  ·rw [if_neg hk]
   by_cases h:g=k
   ·have hb:(g == k)=true:=beq_iff_eq.mpr h
    simp only [List.lookup,hb,if_neg (fun e:g=f=>hk (h.symm.trans e))]
   ·have hb:(g == k)=false:=beq_eq_false_iff_ne.mpr h
    simp only [List.lookup,hb]
    exact ih
theorem qhk9 (f:Str) (v:V):∀ fs:List (Str × V),f∈(putF f v fs).map (·.1)/\∀ g,g∈fs.map (·.1)->g∈(putF f v fs).map (·.1)
 | []=>⟨by simp [putF],fun g h=>by simp at h⟩
 | (k,x) :: r=>by
  obtain ⟨i1,i2⟩:=qhk9 f v r
  rw [show putF f v ((k,x) :: r)=(if k=f then (k,v) :: r else (k,x) :: putF f v r) from rfl]
  by_cases hk:k=f
  ·rw [if_pos hk]
   subst hk
   exact ⟨by simp,fun g h=>by simpa using h⟩
  ·rw [if_neg hk]
   refine ⟨?_,fun g h=>?_⟩
   ·rw [List.map_cons]
    exact List.mem_cons_of_mem _ i1
   ·rw [List.map_cons] at h ⊢
    rcases List.mem_cons.mp h with e | e
    ·exact List.mem_cons.mpr (.inl e)
    ·exact List.mem_cons_of_mem _ (i2 g e)
theorem qfk9 (f:Str) (v:V):∀ fs:List (Str × V),(putF f v fs).length<=fs.length+1
 | []=>by simp [putF]
 | (k,x) :: r=>by
  have ih:=qfk9 f v r
  rw [show putF f v ((k,x) :: r)=(if k=f then (k,v) :: r else (k,x) :: putF f v r) from rfl]
  by_cases hk:k=f
  ·rw [if_pos hk,List.length_cons,List.length_cons]; omega
  ·rw [if_neg hk,List.length_cons,List.length_cons]; omega
theorem RelO.some_of {v:V} {o:Option Value} (r:RelO (some v) o):∃ u,o=some u/\RelV v u:=by
 cases o with
 | none=>exact (show False from r).elim
 | some u=>exact ⟨u,rfl,r⟩
theorem RelO.none_of {o:Option Value} (r:RelO none o):o=none:=by
 cases o with
 | none=>rfl
 | some u=>exact (show False from r).elim
theorem handed_of {v:V} {u:Value} (r:RelV v u):W.handedIn u=true:=by
 cases v with
 | non=>cases (show u=Value.none from r); rfl
 | bl b=>cases (show u=Value.bool b from r); rfl
 | int i=>obtain ⟨t,e⟩:=(show ∃ t,u=Value.int i t from r); cases e; rfl
 | str x=>obtain ⟨t,e⟩:=(show ∃ t,u=Value.str x t from r); cases e; rfl
 | byt b=>obtain ⟨t,e⟩:=(show ∃ t,u=Value.bytes b t from r); cases e; rfl
 | flt b=>obtain ⟨t,e⟩:=(show ∃ t,u=Value.float b t from r); cases e; rfl
 | ref a=>cases (show u=Value.ref a from r); rfl
 | ty n=>cases (show u=Value.type n from r); rfl
section
variable {P:Program} {w:World} {H H':Hp} {h h':Heap} {a C dx:Addr} {fs fs':List (Str × V)}
theorem qll9 (hok:HOk P w H h) (e:H a=some (.ins C dx fs)):∃ mA,ObjM h a dx C mA/\(∀ f,RelO (fs.lookup f) (mA f))/\PySem.Within mA (fs.map (·.1))/\fs.length<=1000/\H dx=some (.own a):=by
 obtain ⟨d,z,ne,ob,mA,n,r,q⟩:=(show ObjOk P w H h a (.ins C dx fs) from hok a _ e)
 exact ⟨mA,⟨ob,n,ne⟩,r,q,z,d⟩
end
structure Cls (K:W.Frag) (C:Addr):Prop where
 pg:W.plainGet K C Str.empty=true
 hd:W.hasDictIn K C=true
 po:W.plainOver K C=true
 sa:W.findIn K (.ref C) "__setattr__" = some (some (.builtin "object.__setattr__"))
theorem Cls.get {K:W.Frag} {C:Addr} (c:Cls K C) (f:Str):W.plainGet K C f=true:=c.pg
noncomputable def NoAttr (K:W.Frag) (C:Addr) (f:Str):Prop:=W.findIn K (.ref C) f=some none
theorem NoAttr.taker {K:W.Frag} {C:Addr} {f:Str} (n:NoAttr K C f):W.takerIn K C f=some none:=by
 unfold W.takerIn
 rw [show W.findIn K (.ref C) f=some none from n]
 rfl
structure Meth (K:W.Frag) (C:Addr) (m:Str) (f:Addr):Prop where
 at_:W.findIn K (.ref C) m=some (some (.ref f))
 fn:W.isFn K (.ref f)=true
 kp:W.keepIn K (.ref f)=true
section
variable {X:Cx} {pins:List (Addr × Obj)} {σ:St} {H:Hp} {s:Shared} {a C dx:Addr} {fs:List (Str × V)} {f:Str} {v:V} {A:Around} {E:Value->Shared->Prop}
theorem qmo9 {b:Bool} {Q:Value->Shared->Prop} (I:Inv X pins σ H s) (e:H a=some (.ins C dx fs)) (c:Cls X.K C) (n:NoAttr X.K C f) (l:fs.lookup f=some v)
  (h:∀ u s',Inv X pins σ H s'->RelV v u->Q u s'):wpAny (model X.prog X.w) A (getAttr (.ref a) f b) Q E s:=by
 obtain ⟨mA,O,r,_,_,_⟩:=qll9 I.hok e
 obtain ⟨u,hu,ru⟩:=RelO.some_of (v:=v) (o:=mA f) (by rw [<- l]; exact r f)
 exact get_map I.kIn O (c.get f) c.hd n hu (handed_of ru) (h u _ (I.tok _) ru)
theorem qit9 {m:Str} {g:Addr} {pl:Sem Bool} {Q:Value × List Value->Shared->Prop} (I:Inv X pins σ H s) (e:H a=some (.ins C dx fs)) (c:Cls X.K C) (k:Meth X.K C m g) (l:fs.lookup m=none)
  (h:Q (.ref g,[.ref a]) s):wpAny (model X.prog X.w) A (getMethod (.ref a) m pl) Q E s:=by
 obtain ⟨mA,O,r,_,_,_⟩:=qll9 I.hok e
 have hn:mA m=none:=RelO.none_of (by rw [<- l]; exact r m)
 exact get_meth I.kIn O (c.get m) k.at_ k.fn hn h
theorem qmk9 {y:V} {u:Value} {Q:Unit->Shared->Prop} (I:Inv X pins σ H s) (e:H a=some (.ins C dx fs)) (c:Cls X.K C) (n:NoAttr X.K C f) (hl:fs.length < 1000) (ry:RelV y u)
  (h:∀ s',Inv X pins σ (upd H a (.ins C dx (putF f y fs))) s'->Q () s'):wpAny (model X.prog X.w) A (setAttr (.ref a) f u) Q E s:=by
 obtain ⟨mA,O,r,wi,_,ho⟩:=qll9 I.hok e
 have hz:(fs.map (·.1)).length<=sizeLine:=by rw [List.length_map,sizeLine_eq]; omega
 refine qki9 I.kIn O c.sa c.po n.taker c.hd wi hz fun h' O' sb=>h _ ?_
 have hd:∃ o,h'.get? dx=some o:=let ⟨o,_,_,e',_⟩:=O'.ns; ⟨o,e'⟩
 refine I.write (x:=a) (e:=dx) (by rw [e]; exact True.intro) (.inr ho) (fun b q hb z=>(sb.2 b hb).trans z) hd ?_
 refine ⟨by rw [qao9 O.ne]; exact ho,?_,O.ne,O'.obj,_,O'.ns,fun g=>?_,fun g hg=>?_⟩
 ·have:=qfk9 f y fs; omega
 ·show RelO ((putF f y fs).lookup g) (if g=f then some u else mA g)
  rw [qhb9]
  by_cases q:g=f
  ·rw [if_pos q,if_pos q]; exact ry
  ·rw [if_neg q,if_neg q]; exact r g
 ·by_cases q:g=f
  ·rw [q]; exact (qhk9 f y fs).1
  ·refine (qhk9 f y fs).2 g (wi g fun z=>hg ?_)
   show (if g=f then some u else mA g)=none
   rw [if_neg q]; exact z
theorem Inv.made (I:Inv X pins σ H s):Inv X pins σ (upd (upd H s.heap.objs.size (.own (s.heap.objs.size+1))) (s.heap.objs.size+1) (.ins C s.heap.objs.size []))
  { s with heap:=(s.heap.push W.emptyDict).push (W.instObj C s.heap.objs.size) }:=by
 have e1:(s.heap.push W.emptyDict).get? s.heap.objs.size=some W.emptyDict:=Heap.get?_push_size s.heap rfl
 have e2:((s.heap.push W.emptyDict).push (W.instObj C s.heap.objs.size)).get? (s.heap.objs.size+1)=some (W.instObj C s.heap.objs.size):=by
  have:=Heap.get?_push_size (s.heap.push W.emptyDict) (o:=W.instObj C s.heap.objs.size) rfl
  rwa [Heap.size_push] at this
 have e3:(s.heap.push W.emptyDict).Ns s.heap.objs.size (fun _=>none):=⟨W.emptyDict,#[],_,e1,rfl,(fun e he=>absurd he (by simp)),fun _=>rfl⟩
 have I1:=I.laid (a:=s.heap.objs.size) (o:=.own (s.heap.objs.size+1)) (h':=s.heap.push W.emptyDict) (t':=s.toks) (fun b u q=>Heap.get?_push_of_some _ q) (Nat.le_refl _) ⟨_,e1⟩
 refine I1.laid (a:=s.heap.objs.size+1) (o:=.ins C s.heap.objs.size []) (t':=s.toks) (fun b u q=>Heap.get?_push_of_some _ q) (Nat.le_of_eq (Heap.size_push _ _)) ?_
 have ne:s.heap.objs.size ≠ s.heap.objs.size+1:=Nat.ne_of_lt (Nat.lt_succ_self _)
 refine ⟨by rw [qao9 ne,qaf9],Nat.zero_le _,ne,e2,fun _=>none,(Heap.Ns1.of_empty e3).at fun o q=>Heap.get?_push_of_some _ q,fun _=>True.intro,fun y hy=>absurd rfl hy⟩
theorem attr_of {prog:Program} {w:World} {env:Env} {e:Expr} {f:Str} {pos:Pos} {s:Shared} {Q:Value->Shared->Prop} (hb:attributeBase e f env (eval e env)=eval e env)
  (h:wpAny (model prog w) A (eval e env) (fun o s₁=>wpAny (model prog w) A (getAttr o f true) Q E s₁) E s):wpAny (model prog w) A (eval (.Attribute e f pos) env) Q E s :=
 Attribute_any_ h (by rw [arm_eval_Attribute,hb])
end
noncomputable def tFld (K:W.Frag) (ta:TE) (f:Str):TE:=fun σ H Q=>ta σ H fun x H1=>∃ a C dx fs v,x=.ref a/\H1 a=some (.ins C dx fs)/\Cls K C/\NoAttr K C f/\fs.lookup f=some v/\Q v H1
noncomputable def sFld (K:W.Frag) (ta tv:TE) (f:Str):TS:=fun D σ H=>tv σ H fun y H1=>ta σ H1 fun x H2=>∃ a C dx fs,x=.ref a/\H2 a=some (.ins C dx fs)/\Cls K C/\NoAttr K C f/\fs.length < 1000 /\
 D.nx σ (upd H2 a (.ins C dx (putF f y fs)))
section
variable {X:Cx} {o e value:Expr} {f:Str} {pos pos' tpos:Pos} {ta tv:TE}
theorem pe_fld (he:PE X e ta) (hb:attributeBase e f X.env (eval e X.env)=eval e X.env):PE X (.Attribute e f pos) (tFld X.K ta f):=by
 intro pins s σ H Q I h
 refine attr_of hb (thn (he pins s σ H _ I h) fun u s1 ⟨x,H1,I1,rx,a,C,dx,fs,v,ex,ea,c,n,l,q⟩=>?_)
 subst ex
 obtain rfl:u=Value.ref a:=rx
 exact qmo9 I1 ea c n l fun u' s2 I2 ru=>⟨v,H1,I2,ru,q⟩
theorem ps_fld (ha:PE X o ta) (hv:PE X value tv) (hs:swapsWith value (some (.Attribute o f pos')) pos.line X.env=pure false):PS X (.Assign [.Attribute o f pos'] value pos) (sFld X.K ta tv f):=by
 intro pins s σ H D I h
 refine plainObj_wpAny_Assign_Attribute (thn (hv pins s σ H _ I h) fun u s1 ⟨y,H1,I1,ry,q⟩=>thn (ha pins s1 σ H1 _ I1 q) fun ov s2 ⟨x,H2,I2,rx,a,C,dx,fs,ex,ea,c,n,l,q2⟩=>?_) hs
 subst ex
 obtain rfl:ov=Value.ref a:=rx
 exact qmk9 I2 ea c n l ry fun s3 I3=>⟨σ,_,I3,q2⟩
end
section
variable {X:Cx} {pins:List (Addr × Obj)} {σ:St} {H:Hp} {s:Shared} {A:Around} {E:Value->Shared->Prop} {Q:Value->Shared->Prop} {c:Value} {b:Bool}
inductive TyOf (K:W.Frag) (H:Hp):V->Value->Prop where
 | non:TyOf K H .non (.type "NoneType")
 | bl (x:Bool):TyOf K H (.bl x) (.type "bool")
 | int (i:Int):TyOf K H (.int i) (.type "int")
 | str (x:Str):TyOf K H (.str x) (.type "str")
 | flt (x:UInt64):TyOf K H (.flt x) (.type "float")
 | lst {a:Addr} {xs:List V} (e:H a=some (.lst xs)):TyOf K H (.ref a) (.type "list")
 | frz {a:Addr} {o:Obj} {xs:List V} (e:H a=some (.frz o (.lst xs))):TyOf K H (.ref a) (.type "list")
 | tup {a:Addr} {xs:List V} (e:H a=some (.tup xs)):TyOf K H (.ref a) (.type "tuple")
 | dK {a:Addr} {kvs:List (Key × V)} (e:H a=some (.dK kvs)):TyOf K H (.ref a) (.type "dict")
 | dT {a:Addr} {kvs:List (List Key × V)} (e:H a=some (.dT kvs)):TyOf K H (.ref a) (.type "dict")
 | ins {a C dx:Addr} {fs:List (Str × V)} (e:H a=some (.ins C dx fs)) (cl:Cls K C) (ha:W.findIn K (.ref C) "__class__" = some (some (.builtin "object.__class__")))
   (hn:W.specialIn K (.builtin "object.__class__") "__get__" = some (some (.builtin "getset_descriptor.__get__"))) (htk:W.takesIn K (.builtin "object.__class__")=some true)
   (hm:W.mroIn K C (.type "object")=some true):TyOf K H (.ref a) (.ref C)
theorem isinst_ok {x:V} {u t:Value} (I:Inv X pins σ H s) (rx:RelV x u) (ty:TyOf X.K H x t) (e:W.kitOne X.K t c=some b) (h:∀ tk,Q (.bool b) { s with toks:=tk }) :
  wpAny (model X.prog X.w) A (call (.builtin "isinstance") [u,c]) Q E s:=by
 cases ty with
 | non=>cases (show u=Value.none from rx); exact W.kia_one W.kitx_none I.kIn True.intro e (fun z=>nomatch z) h
 | bl y=>cases (show u=Value.bool y from rx); exact W.kia_one W.kitx_bool I.kIn True.intro e (fun z=>nomatch z) h
 | int i=>obtain ⟨t,q⟩:=(show ∃ t,u=Value.int i t from rx); cases q; exact W.kia_one W.kitx_int I.kIn True.intro e (fun z=>nomatch z) h
 | str y=>obtain ⟨t,q⟩:=(show ∃ t,u=Value.str y t from rx); cases q; exact W.kia_one W.kitx_str I.kIn True.intro e (fun z=>nomatch z) h
 | flt y=>obtain ⟨t,q⟩:=(show ∃ t,u=Value.float y t from rx); cases q; exact W.kia_one W.kitx_float I.kIn True.intro e (fun z=>nomatch z) h
 | @lst a xs ea =>
  cases (show u=Value.ref a from rx)
  obtain ⟨_,_,n,_,h1⟩:=(show ObjOk X.prog X.w H s.heap a (.lst xs) from I.hok a _ ea)
  exact W.kia_one W.kitx_list I.kIn ⟨_,h1,rfl⟩ e (fun z=>nomatch z) h
 | @frz a ob xs ea =>
  cases (show u=Value.ref a from rx)
  obtain ⟨_,_,_,n,_,h1⟩:=(show ObjOk X.prog X.w H s.heap a (.frz ob (.lst xs)) from I.hok a _ ea)
  exact W.kia_one W.kitx_list I.kIn ⟨_,h1,rfl⟩ e (fun z=>nomatch z) h
 | @tup a xs ea =>
  cases (show u=Value.ref a from rx)
  obtain ⟨_,_,_,p⟩:=(show ObjOk X.prog X.w H s.heap a (.tup xs) from I.hok a _ ea)
  obtain ⟨o,h1,h2,_⟩:=p
  exact W.kia_one W.kitx_tuple I.kIn ⟨o,h1,h2⟩ e (fun z=>nomatch z) h
 | @dK a kvs ea =>
  cases (show u=Value.ref a from rx)
  obtain ⟨_,_,vs,_,p⟩:=(show ObjOk X.prog X.w H s.heap a (.dK kvs) from I.hok a _ ea)
  obtain ⟨o,es,ep,h1,h2,_⟩:=p
  exact W.kia_one W.kitx_dict I.kIn ⟨o,h1,h2.1⟩ e (fun z=>nomatch z) h
 | @dT a kvs ea =>
  cases (show u=Value.ref a from rx)
  obtain ⟨_,_,xs,_,o,es,ep,h1,h2,_⟩:=(show ObjOk X.prog X.w H s.heap a (.dT kvs) from I.hok a _ ea)
  exact W.kia_one W.kitx_dict I.kIn ⟨o,h1,h2.1⟩ e (fun z=>nomatch z) h
 | @ins a C dx fs ea cl ha hn htk hm =>
  cases (show u=Value.ref a from rx)
  obtain ⟨mA,O,_⟩:=qll9 I.hok ea
  obtain ⟨od,J,_⟩:=O.look
  exact W.kia_one (W.kitx_own (cl.get _) cl.hd ha hn htk hm) I.kIn J e (fun z=>nomatch z) h
end
structure Room (k:Nat) (A:Around):Prop where
 hd:A.handled=none
 dp:A.depth+3 * k+5 < recursionLimit
 un:A.units+16 * k+200 < cLine
theorem Room.mono {j k:Nat} {A:Around} (r:Room k A) (h:j<=k):Room j A:=⟨r.hd,by have:=r.dp; omega,by have:=r.un; omega⟩
theorem Room.deeper {k:Nat} {A:Around} (r:Room (k+1) A) (env:Env):Room k (A.deeper env) :=
 ⟨r.hd,by have:=r.dp; show A.depth+1+3 * k+5 < _; omega,by have:=r.un; show A.units+3+16 * k+200 < _; omega⟩
theorem qnm9 {A:Around} {C:Addr} {us:List Value} {kw:List (Str × Value)}:(A.under (.builtin "type.__call__" ⟨.ref C :: us,kw⟩)).depth=A.depth+1:=by
 first | rfl | simp [Around.under,Code.weight,Code.isCreation,Code.isGuard,Code.isCaller,Code.frames,Code.isFrame,guardIds]
theorem qnq9 {A:Around} {C:Addr} {us:List Value} {kw:List (Str × Value)}:(A.under (.builtin "type.__call__" ⟨.ref C :: us,kw⟩)).units=A.units+1:=by
 first | rfl | simp [Around.under,Code.cUnits,Code.frames,Code.isFrame]
theorem Room.make {k:Nat} {A:Around} (r:Room (k+1) A) (C:Addr) (us:List Value) (kw:List (Str × Value)):Room k (A.under (.builtin "type.__call__" ⟨.ref C :: us,kw⟩)) :=
 ⟨r.hd,by have:=r.dp; rw [qnm9]; omega,by have:=r.un; rw [qnq9]; omega⟩
theorem Room.depth {k:Nat} {A:Around} (r:Room k A):A.depth < recursionLimit:=by have:=r.dp; omega
theorem Room.units {k:Nat} {A:Around} (r:Room k A):A.units+64 < cLine:=by have:=r.un; omega
noncomputable def tNil:TA:=fun _ H Q=>Q [] H
noncomputable def tCons (ta:TE) (tr:TA):TA:=fun σ H Q=>ta σ H fun x H1=>tr σ H1 fun xs H2=>Q (x :: xs) H2
section
variable {X:Cx} {e:Expr} {es:List Expr} {te:TE} {t:TA} {pos:Pos}
theorem pa_nil:PA X [] tNil:=fun _ _ _ _ H Q I h=>Calls.spliced_nil ⟨[],H,I,.nil,h⟩
theorem pa_cons (ha:PE X e te) (hr:PA X es t) (hs:starEach (e :: es) X.env=(false,eval e X.env) :: starEach es X.env:=by rfl):PA X (e :: es) (tCons te t):=by
 intro pos pins s σ H Q I h
 rw [hs]
 show wpAny _ _ (spliced ((false,eval e X.env) :: backTo pos (starEach es X.env))) _ _ s
 refine Calls.spliced_cons (thn (ha pins s σ H _ I h) fun u s1 ⟨x,H1,I1,r1,q1⟩=>?_)
 exact thn (hr pos pins s1 σ H1 _ I1 q1) fun us s2 ⟨xs,H2,I2,r2,q2⟩=>⟨x :: xs,H2,I2,.cons r1 r2,q2⟩
noncomputable def tTup (t:TA):TE:=fun σ H Q=>t σ H fun xs H1=>xs.length<=sizeLine/\∀ p,H1 p=none->Q (.ref p) (upd H1 p (.tup xs))
noncomputable def tLst (t:TA):TE:=fun σ H Q=>t σ H fun xs H1=>xs.length<=sizeLine/\∀ p,H1 p=none->Q (.ref p) (upd H1 p (.lst xs))
theorem pe_tup {x1} (h:PA X es t):PE X (.Tuple es x1 pos) (tTup t):=by
 intro pins s σ H Q I hq
 refine wpAny_Tuple_spliced (thn (h pos pins s σ H _ I hq) fun us s1 ⟨xs,H1,I1,r,z,q⟩=>⟨by rw [<- r.length]; exact z,?_⟩)
 have hf:H1 s1.heap.objs.size=none:=I1.hok.fresh (Nat.le_refl _)
 refine ⟨.ref s1.heap.objs.size,upd H1 s1.heap.objs.size (.tup xs),I1.laid (t':=s1.toks) (fun b u e=>Heap.get?_push_of_some _ e) (Nat.le_refl _) ?_,rfl,q _ hf⟩
 exact ⟨z,us,r,⟨_,Heap.get?_push_size _ rfl,rfl,_,rfl⟩⟩
theorem pe_lst (h:PA X es t):PE X (.List es pos) (tLst t):=by
 intro pins s σ H Q I hq
 refine wpAny_List_spliced (thn (h pos pins s σ H _ I hq) fun us s1 ⟨xs,H1,I1,r,z,q⟩=>⟨by rw [<- r.length]; exact z,?_⟩)
 have hf:H1 s1.heap.objs.size=none:=I1.hok.fresh (Nat.le_refl _)
 refine ⟨.ref s1.heap.objs.size,upd H1 s1.heap.objs.size (.lst xs),I1.laid (t':=s1.toks) (fun b u e=>Heap.get?_push_of_some _ e) (Nat.le_refl _) ?_,rfl,q _ hf⟩
 exact ⟨z,us,0,r,Heap.get?_push_size _ rfl⟩
end
noncomputable abbrev Sp:=List V->Hp->VK->XK->Prop
noncomputable abbrev CXT:=List Env->Hp->Shared->XK->Value->Shared->Prop
structure Env0 (P:Program) (w:World) (K:W.Frag) (mg:Str->Option Value) (base:Heap) (A:Around) (outer:List Env) (s:Shared) (H:Hp):Prop where
 frames:A.frames=some outer
 mod:Mod K mg base
 bs:∀ b o,base.get? b=some o->s.heap.get? b=some o/\H b=none
 bsz:base.objs.size<=s.heap.objs.size
 funs:s.heap.FunFrames base outer
 frf:∀ b∈frs outer,H b=none
 hok:HOk P w H s.heap
 bare:AllBare s.gens
noncomputable def CE (outer:List Env) (P:Program) (w:World) (H:Hp) (s:Shared) (Q:VK) (u:Value) (s':Shared):Prop :=
 ∃ v H',s'.os=s.os/\AllBare s'.gens/\Un (frs outer) [] H H' s.heap s'.heap/\HOk P w H' s'.heap/\RelV v u/\Q v H'
noncomputable def CR (CX:CXT) (outer:List Env) (P:Program) (w:World) (H:Hp) (s:Shared) (Q:VK) (E:XK) (r:Result) (s':Shared):Prop :=
 match r with
 | .ok (.ret u)=>CE outer P w H s Q u s'
 | .ok _=>False
 | .error e=>CX outer H s E e s'
structure FnOk (P:Program) (w:World) (K:W.Frag) (mg:Str->Option Value) (base:Heap) (CX:CXT) (k:Nat) (f:Addr) (fd:FuncData) (ps:List Str) (sp:Sp):Prop where
 len:∀ vs H Q E,sp vs H Q E->vs.length=ps.length
 run:∀ (A:Around) (outer:List Env) (s:Shared) (H:Hp) (args:Args) (us:List Value) (vs:List V) (Q:VK) (E:XK),Room k A->Env0 P w K mg base A outer s H->BindsTo s fd args (ps.zip us)->Vals vs us->sp vs H Q E ->
  codeAny (model P w) A (.call (.ref f) args) (CR CX outer P w H s Q E) s
theorem FnOk.mono {P:Program} {w:World} {K:W.Frag} {mg:Str->Option Value} {base:Heap} {CX:CXT} {j k:Nat} {f:Addr} {fd:FuncData} {ps:List Str} {sp:Sp} (F:FnOk P w K mg base CX j f fd ps sp) (h:j<=k) :
  FnOk P w K mg base CX k f fd ps sp:=⟨F.len,fun A outer s H args us vs Q E hr=>F.run A outer s H args us vs Q E (hr.mono h)⟩
theorem FnOk.imp {P:Program} {w:World} {K:W.Frag} {mg:Str->Option Value} {base:Heap} {CX:CXT} {k:Nat} {f:Addr} {fd:FuncData} {ps:List Str} {sp sp':Sp} (F:FnOk P w K mg base CX k f fd ps sp)
  (h:∀ vs H Q E,sp' vs H Q E->sp vs H Q E):FnOk P w K mg base CX k f fd ps sp' :=
 ⟨fun vs H Q E q=>F.len vs H Q E (h _ _ _ _ q),fun A outer s H args us vs Q E hr he hb hv hs=>F.run A outer s H args us vs Q E hr he hb hv (h _ _ _ _ hs)⟩
theorem Env0.make {P:Program} {w:World} {K:W.Frag} {mg:Str->Option Value} {base:Heap} {A:Around} {outer:List Env} {s:Shared} {H:Hp} (e:Env0 P w K mg base A outer s H) (C:Addr) (us:List Value) (kw:List (Str × Value)) :
  Env0 P w K mg base (A.under (.builtin "type.__call__" ⟨.ref C :: us,kw⟩)) outer s H:=⟨by first | exact e.frames | (simpa [Around.under,Code.envs,Code.isFrame,pushEnvs] using e.frames),e.mod,e.bs,e.bsz,e.funs,e.frf,e.hok,e.bare⟩
section
variable {X:Cx} {pins:List (Addr × Obj)} {σ:St} {H:Hp} {s s':Shared}
theorem Inv.env0 (I:Inv X pins σ H s):Env0 X.prog X.w X.K X.mg X.base X.A X.stack s H :=
 ⟨I.ok.frames,I.ok.mod,I.bs,Nat.le_trans I.ok.bsz I.sz,I.stack,I.stkFree,I.hok,I.bare⟩
theorem Inv.after {Q:VK} {u:Value} (I:Inv X pins σ H s) (h:CE X.stack X.prog X.w H s Q u s'):EP X pins σ Q u s':=by
 obtain ⟨v,H',os,bare,un,hok,r,q⟩:=h
 obtain ⟨hh,g,d,t,os'⟩:=s'
 obtain rfl:os'=s.os:=os
 exact ⟨v,H',I.call (h':=hh) (g':=g) (d':=d) (t':=t) (ch:=[]) un hok bare (fun b z=>absurd z (by simp)),r,q⟩
end
noncomputable def tCall (sp:Sp) (dvs:List V) (E:XK) (t:TA):TE:=fun σ H Q=>t σ H fun vs H1=>sp (vs ++ dvs) H1 Q E
noncomputable def tMeth (C:Addr) (m:Str) (sp:Sp) (dvs:List V) (E:XK) (ta:TE) (t:TA):TE:=fun σ H Q=>ta σ H fun x H1=>∃ a dx fs,x=.ref a/\H1 a=some (.ins C dx fs)/\fs.lookup m=none /\
 t σ H1 fun vs H2=>sp (x :: (vs ++ dvs)) H2 Q E
noncomputable def tMake (C:Addr) (sp:Sp) (dvs:List V) (E:XK) (t:TA):TE:=fun σ H Q=>t σ H fun vs H1=>∀ x dx,H1 x=none->H1 dx=none->dx ≠ x ->
 sp (.ref x :: (vs ++ dvs)) (upd (upd H1 dx (.own x)) x (.ins C dx [])) (fun v H2=>v=.non/\Q (.ref x) H2) E
noncomputable def Binds (K:W.Frag) (fd:FuncData) (ps:List Str) (ds:List Value):Prop :=
 ∀ (s:Shared) (us:List Value),K.In s.heap->(us ++ ds).length=ps.length->BindsTo s fd ⟨us,[]⟩ (ps.zip (us ++ ds))
theorem Binds.all {K:W.Frag} {fd:FuncData} {ps:List Str} (h:∀ us:List Value,us.length=ps.length->bindArgs fd ⟨us,[]⟩=pure (ps.zip us)):Binds K fd ps []:=fun s us _ hl=>by
 rw [List.append_nil] at hl ⊢
 exact .of_eq (h us hl)
noncomputable def qih9 (CX:CXT) (X:Cx) (E:XK):Prop:=∀ (pins:List (Addr × Obj)) (σ:St) (H:Hp) (s:Shared) (e:Value) (s':Shared),Inv X pins σ H s->CX X.stack H s E e s'->X.xe e s'
section
variable {X:Cx} {CX:CXT} {k:Nat} {f C:Addr} {fd:FuncData} {ps:List Str} {sp:Sp} {dvs:List V} {ds:List Value} {E:XK} {x m:Str} {p pos apos:Pos} {e o:Expr} {es:List Expr} {ta:TE} {t:TA}
theorem run_fn {pins:List (Addr × Obj)} {σ:St} {H:Hp} {s:Shared} {Q:VK} {us:List Value} {vs:List V} (F:FnOk X.prog X.w X.K X.mg X.base CX k f fd ps sp) (hr:Room k X.A) (hb:Binds X.K fd ps ds) (hd:Vals dvs ds) (hx:qih9 CX X E)
  (I:Inv X pins σ H s) (r:Vals vs us) (h:sp (vs ++ dvs) H Q E):wpAny (model X.prog X.w) X.A (call (.ref f) us) (EP X pins σ Q) X.xe s:=by
 have r2:Vals (vs ++ dvs) (us ++ ds):=r.append hd
 have hl:(us ++ ds).length=ps.length:=by rw [<- r2.length]; exact F.len _ _ _ _ h
 refine wpAny_call (codeAny_mono (F.run X.A X.stack s H ⟨us,[]⟩ (us ++ ds) (vs ++ dvs) Q E hr I.env0 (hb s us I.kIn hl) r2 h) fun r s' hq=>?_)
 cases r with
 | error e=>exact hx pins σ H s e s' I hq
 | ok fl =>
  cases fl with
  | ret u=>exact I.after hq
  | next=>exact False.elim hq
  | brk=>exact False.elim hq
  | cont=>exact False.elim hq
theorem pe_call (F:FnOk X.prog X.w X.K X.mg X.base CX k f fd ps sp) (hr:Room k X.A) (hg:Gl X x) (hm:X.mg x=some (.ref f)) (hk:W.keepIn X.K (.ref f)=true) (hb:Binds X.K fd ps ds) (hd:Vals dvs ds) (hx:qih9 CX X E)
  (ha:PA X (e :: es) t) (hdb:(x == ("__debug__" : Str))=false:=by decide) (he:starEach (e :: es) X.env=(false,eval e X.env) :: starEach es X.env:=by rfl) (hpl:(backTo pos (starEach es X.env)).any (·.1)=false:=by rfl) :
  PE X (.Call (.Name x p) (e :: es) [] pos) (tCall sp dvs E t):=by
 intro pins s σ H Q I h
 refine wpAny_Call_Name_kw (qgz9 I hg hm ?_ hdb)
 refine W.callWith_K (h₀:=X.base) I.ok.mod.kin hk (thn (ha pos pins s σ H _ I h) fun us s1 ⟨vs,H1,I1,r,q⟩=>⟨I1.kIn,?_⟩) he hpl
 exact run_fn F hr hb hd hx I1 r q
theorem pe_meth {pl:Sem Bool} (he:PE X o ta) (c:Cls X.K C) (hm:Meth X.K C m f) (F:FnOk X.prog X.w X.K X.mg X.base CX k f fd ps sp) (hr:Room k X.A) (hb:Binds X.K fd ps ds) (hd:Vals dvs ds) (hx:qih9 CX X E) (ha:PA X (e :: es) t)
  (hst:starEach (e :: es) X.env=(false,eval e X.env) :: starEach es X.env:=by rfl) (hpl:(backTo pos (starEach es X.env)).any (·.1)=false:=by rfl)
  (ht:eval (.Call (.Attribute o m apos) (e :: es) [] pos) X.env=(do
   let ov <- eval o X.env
   standAt apos.atName
   let (f,first) <- holding [ov] (getMethod ov m pl)
   callWith pos f first (backTo pos (starEach (e :: es) X.env)) (backToKw pos (keywordEach [] X.env))):=by rfl) :
  PE X (.Call (.Attribute o m apos) (e :: es) [] pos) (tMeth C m sp dvs E ta t):=by
 intro pins s σ H Q I h
 refine W.methodCall_KW (pl:=pl) (thn (he pins s σ H _ I h) fun u s1 ⟨x,H1,I1,rx,a,dx,fs,ex,ea,l,q⟩=>?_) ht
 subst ex
 obtain rfl:u=Value.ref a:=rx
 refine qit9 I1 ea c hm l ?_
 refine W.callWith_K (first:=[.ref a]) (h₀:=X.base) I.ok.mod.kin hm.kp (thn (ha pos pins s1 σ H1 _ I1 q) fun us s2 ⟨vs,H2,I2,r,q2⟩=>⟨I2.kIn,?_⟩) hst hpl
 exact run_fn (us:=.ref a :: us) (vs:=.ref a :: vs) F hr hb hd hx I2 (.cons rfl r) q2
structure Mk (K:W.Frag) (C f:Addr):Prop where
 makes:W.makesIn K C=true
 init:W.findIn K (.ref C) "__init__" = some (some (.ref f))
 fn:W.isFn K (.ref f)=true
 kp:W.keepIn K (.ref C)=true
theorem run_make {pins:List (Addr × Obj)} {σ:St} {H:Hp} {s:Shared} {Q:VK} {us:List Value} {vs:List V} (M:Mk X.K C f) (F:FnOk X.prog X.w X.K X.mg X.base CX k f fd ps sp) (hr:Room (k+1) X.A) (hb:Binds X.K fd ps ds) (hd:Vals dvs ds)
  (hx:qih9 CX X E) (I:Inv X pins σ H s) (r:Vals vs us)
  (h:∀ x dx,H x=none->H dx=none->dx ≠ x->sp (.ref x :: (vs ++ dvs)) (upd (upd H dx (.own x)) x (.ins C dx [])) (fun v H2=>v=.non/\Q (.ref x) H2) E) :
  wpAny (model X.prog X.w) X.A (call (.ref C) us) (EP X pins σ Q) X.xe s:=by
 have hq:=h (s.heap.objs.size+1) s.heap.objs.size (I.hok.fresh (Nat.le_succ _)) (I.hok.fresh (Nat.le_refl _)) (Nat.ne_of_lt (Nat.lt_succ_self _))
 have I2:=Inv.made (C:=C) I
 have r2:Vals (V.ref (s.heap.objs.size+1) :: (vs ++ dvs)) (Value.ref (s.heap.objs.size+1) :: (us ++ ds)):=.cons rfl (r.append hd)
 have hl:(Value.ref (s.heap.objs.size+1) :: us ++ ds).length=ps.length:=by
  have e:=r2.length
  rw [F.len _ _ _ _ hq] at e
  exact e.symm
 refine wpAny_call (qmp9 (f:=f) I.kIn M.makes M.init (beq_iff_eq.mp M.fn) (codeAny_mono (F.run _ X.stack _ _ ⟨Value.ref (s.heap.objs.size+1) :: us,[]⟩ (Value.ref (s.heap.objs.size+1) :: (us ++ ds)) _ _ E (hr.make C us [])
  (I2.env0.make C us []) (hb _ (Value.ref (s.heap.objs.size+1) :: us) I2.kIn hl) r2 hq) fun r s' hq'=>?_))
 cases r with
 | error e=>exact hx pins σ _ _ e s' I2 hq'
 | ok fl =>
  cases fl with
  | ret u =>
   obtain ⟨v,H',I3,rv,ev,q3⟩:=I2.after hq'
   subst ev
   exact ⟨rv,⟨V.ref (s.heap.objs.size+1),H',I3,rfl,q3⟩⟩
  | next=>exact False.elim hq'
  | brk=>exact False.elim hq'
  | cont=>exact False.elim hq'
theorem pe_make (M:Mk X.K C f) (F:FnOk X.prog X.w X.K X.mg X.base CX k f fd ps sp) (hr:Room (k+1) X.A) (hg:Gl X x) (hm:X.mg x=some (.ref C)) (hb:Binds X.K fd ps ds) (hd:Vals dvs ds) (hx:qih9 CX X E)
  (ha:PA X (e :: es) t) (hdb:(x == ("__debug__" : Str))=false:=by decide) (he:starEach (e :: es) X.env=(false,eval e X.env) :: starEach es X.env:=by rfl) (hpl:(backTo pos (starEach es X.env)).any (·.1)=false:=by rfl) :
  PE X (.Call (.Name x p) (e :: es) [] pos) (tMake C sp dvs E t):=by
 intro pins s σ H Q I h
 refine wpAny_Call_Name_kw (qgz9 I hg hm ?_ hdb)
 refine W.callWith_K (h₀:=X.base) I.ok.mod.kin M.kp (thn (ha pos pins s σ H _ I h) fun us s1 ⟨vs,H1,I1,r,q⟩=>⟨I1.kIn,?_⟩) he hpl
 exact run_make M F hr hb hd hx I1 r q
end
noncomputable def PK (X:Cx) (kws:List Keyword) (t:TA):Prop :=
 ∀ (pos:Pos) (pins:List (Addr × Obj)) (s:Shared) (σ:St) (H:Hp) (Q:List V->Hp->Prop),Inv X pins σ H s->t σ H Q->wpAny (model X.prog X.w) X.A (evalAll ((backToKw pos (keywordEach kws X.env)).map (·.2))) (AP X pins σ Q) X.xe s
section
variable {X:Cx} {CX:CXT} {k:Nat} {f C:Addr} {fd:FuncData} {ps ks:List Str} {sp:Sp} {E:XK} {x m:Str} {p pos apos kpos:Pos} {e o:Expr} {es:List Expr} {kws:List Keyword} {te ta:TE} {t tk:TA} {nm:Option Str}
theorem pk_nil:PK X [] tNil:=fun _ _ _ _ H Q I h=>wpAny_evalAll_nil ⟨[],H,I,.nil,h⟩
theorem pk_cons (ha:PE X e te) (hr:PK X kws t):PK X (⟨nm,e,kpos⟩ :: kws) (tCons te t):=by
 intro pos pins s σ H Q I h
 show wpAny _ _ (evalAll ((do let v <- eval e X.env; standAt pos; pure v) :: (backToKw pos (keywordEach kws X.env)).map (·.2))) _ _ s
 refine wpAny_evalAll_cons (wpAny_bind (thn (ha pins s σ H _ I h) fun u s1 ⟨x,H1,I1,r1,q1⟩=>wpAny_bind (wpAny_standAt (wpAny_pure ?_))))
 exact thn (hr pos pins s1 σ H1 _ I1 q1) fun us s2 ⟨xs,H2,I2,r2,q2⟩=>⟨x :: xs,H2,I2,.cons r1 r2,q2⟩
variable {g:List Value->List Value->List Value} {gV:List V->List V->List V}
end
structure FnScope (N P:List Str) (sc:Scope):Prop where
 kind:sc.kind=.function
 co:sc.isCoroutine=false
 gen:sc.isGenerator=false
 nd:N.Nodup
 pre:N.take P.length=P
 par:∀ x∈P,sc.names.lookup x=some .local\/sc.names.lookup x=some .cell
 nofree:∀ y∈sc.names,y.2 ≠ .free
theorem qkq9 {kindOf:Str->Option NameKind} {x:Str}:∀ {binds:List (Str × Value)} {m:Str->Option Value},(∀ v,(x,v) ∉ binds)->bindL kindOf binds m x=m x
 | [],_,_=>rfl
 | (n,v) :: r,m,h=>by
  unfold bindL
  rw [qkq9 fun w hw=>h w (List.mem_cons_of_mem _ hw)]
  split
  ·have:x ≠ n:=by rintro rfl; exact h v List.mem_cons_self
   simp [this]
  ·rfl
theorem qkt9 {kindOf:Str->Option NameKind} {x:Str}:∀ {binds:List (Str × Value)} {m:Str->Option Value},(∀ v,(x,v) ∉ binds)->bindC kindOf binds m x=m x
 | [],_,_=>rfl
 | (n,v) :: r,m,h=>by
  unfold bindC
  rw [qkt9 fun w hw=>h w (List.mem_cons_of_mem _ hw)]
  split
  ·rfl
  ·have:x ≠ n:=by rintro rfl; exact h v List.mem_cons_self
   simp [this]
theorem qlk9 {kindOf:Str->Option NameKind} {x:Str} {v:Value}:∀ {P:List Str} {vs:List Value} {i:Nat} {m:Str->Option Value},P.Nodup->P[i]?=some x->vs[i]?=some v->kindOf x=some .local ->
  bindL kindOf (P.zip vs) m x=some v
 | [],_,_,_,_,h,_,_=>by simp at h
 | _ :: _,[],_,_,_,_,h,_=>by simp at h
 | p :: P,w :: vs,0,m,nd,h1,h2,hk=>by
  simp at h1 h2; subst h1; subst h2
  show bindL kindOf ((p,w) :: P.zip vs) m p=_
  unfold bindL
  rw [qkq9 fun v hv=>(List.nodup_cons.mp nd).1 (List.of_mem_zip hv).1,if_pos hk]
  simp
 | p :: P,w :: vs,i+1,m,nd,h1,h2,hk=>by
  show bindL kindOf ((p,w) :: P.zip vs) m x=_
  unfold bindL
  exact qlk9 (i:=i) (List.nodup_cons.mp nd).2 (by simpa using h1) (by simpa using h2) hk
theorem qlh9 {kindOf:Str->Option NameKind} {x:Str} {v:Value}:∀ {P:List Str} {vs:List Value} {i:Nat} {m:Str->Option Value},P.Nodup->P[i]?=some x->vs[i]?=some v->kindOf x ≠ some .local ->
  bindC kindOf (P.zip vs) m x=some v
 | [],_,_,_,_,h,_,_=>by simp at h
 | _ :: _,[],_,_,_,_,h,_=>by simp at h
 | p :: P,w :: vs,0,m,nd,h1,h2,hk=>by
  simp at h1 h2; subst h1; subst h2
  show bindC kindOf ((p,w) :: P.zip vs) m p=_
  unfold bindC
  rw [qkt9 fun v hv=>(List.nodup_cons.mp nd).1 (List.of_mem_zip hv).1,if_neg hk]
  simp
 | p :: P,w :: vs,i+1,m,nd,h1,h2,hk=>by
  show bindC kindOf ((p,w) :: P.zip vs) m x=_
  unfold bindC
  exact qlh9 (i:=i) (List.nodup_cons.mp nd).2 (by simpa using h1) (by simpa using h2) hk
noncomputable def start (N:List Str) (vs:List V):St:=vs.map some ++ List.replicate (N.length - vs.length) none
noncomputable def cxOf (CX:CXT) (P:Program) (w:World) (K:W.Frag) (mg:Str->Option Value) (base:Heap) (N:List Str) (qual:Str) (scope:Scope) (f:Addr) (cd:Value) (A:Around) (outer:List Env) (s:Shared) (H:Hp) (E:XK):Cx where
 prog:=P
 w:=w
 K:=K
 mg:=mg
 base:=base
 A:=A.deeper (envOfC qual scope s.heap.objs.size f cd)
 N:=N
 s₀:=s
 H₀:=H
 env:=envOfC qual scope s.heap.objs.size f cd
 outer:=outer
 stack:=envOfC qual scope s.heap.objs.size f cd :: outer
 ex:=[]
 calm:=true
 fn:=fun _=>true
 pn:=[]
 xe:=fun e s'=>wpAny (model P w) (A.deeper (envOfC qual scope s.heap.objs.size f cd)) (leaving (envOfC qual scope s.heap.objs.size f cd) e) (fun _ s''=>CX outer H s E e s'') (fun e' s''=>CX outer H s E e' s'') s'
theorem qmu9 {sc:Scope} {n:Nat} {x:Str} (h:sc.names.lookup x=some .cell):∃ c,(cellsFrom n sc.names []).lookup x=some c:=by
 have q:=W.cellsFrom_some sc.names n [] (.inl h)
 exact Option.isSome_iff_exists.mp q
theorem inv_start {CX:CXT} {P:Program} {w:World} {K:W.Frag} {mg:Str->Option Value} {base:Heap} {N ps:List Str} {qual:Str} {scope:Scope} {f:Addr} {cd:Value} {A:Around} {outer:List Env} {s s1:Shared} {H:Hp} {E:XK} {us:List Value} {vs:List V}
  (S:FnScope N ps scope) (hd:A.handled=none) (e0:Env0 P w K mg base A outer s H) (hl:vs.length=ps.length) (r:Vals vs us)
  (x:InCallC s s.heap.objs.size (bindL (envOfC qual scope s.heap.objs.size f cd).kindOf (ps.zip us) fun _=>none) (cellsFrom (s.heap.objs.size+1) scope.names []) (bindC (envOfC qual scope s.heap.objs.size f cd).kindOf (ps.zip us) fun _=>none) s1) :
  Inv (cxOf CX P w K mg base N qual scope f cd A outer s H E) [] (start N vs) H s1:=by
 have hpl:ps.length<=N.length:=by have:=congrArg List.length S.pre; rw [List.length_take] at this; omega
 obtain ⟨h1,tk,rfl,hk⟩:=x.done
 have noA:∀ b:Addr,b ∉ (cxOf CX P w K mg base N qual scope f cd A outer s H E).ex:=fun b z=>absurd (show b∈([]:List Addr) from z) (by simp)
 refine ⟨⟨e0.mod,S.kind,rfl,rfl,Nat.le_refl _,fun y z c h1 h2=>?_,fun y hy=>?_,fun y c _ h=>?_,fun _=>hd,Around.frames_deeper e0.frames,.inr ⟨rfl,rfl⟩,fun b z=>absurd z (noA b),e0.bs,e0.bsz,fun b _ _=>noA b,fun b z=>absurd z (noA b),e0.funs,e0.frf⟩,
  rfl,e0.bare,Un.kept hk,⟨_,x.toInCall.ns,fun i y v h1 h2 h3=>?_⟩,fun y c h=>⟨_,x.cell y c h⟩,e0.hok.fresh (Nat.le_refl _),fun y c h=>?_,fun p hp=>absurd (show p∈([]:List (Addr × Obj)) from hp) (by simp),e0.hok.kept hk,?_⟩
 ·exact name_of_addr x.apart (PySem.mem_of_lookup h1) (PySem.mem_of_lookup h2)
 ·have hy:scope.names.lookup y=some .cell\/scope.names.lookup y=some .free:=hy
  rcases hy with hy | hy
  ·exact qmu9 hy
  ·exact absurd rfl (S.nofree _ (PySem.mem_of_lookup hy))
 ·exact Nat.le_of_lt (x.above y c (PySem.mem_of_lookup h))
 ·have hi:i < vs.length:=by
   unfold start at h2
   by_cases hi:i < vs.length
   ·exact hi
   ·rw [List.getElem?_append_right (by simpa using hi)] at h2
    rw [List.getElem?_replicate] at h2
    split at h2 <;> cases h2
  have ha:vs[i]?=some v:=by
   unfold start at h2
   rw [List.getElem?_append_left (by simpa using hi),List.getElem?_map] at h2
   cases e:vs[i]? with
   | none=>rw [e] at h2; cases h2
   | some a=>rw [e] at h2; cases h2; rfl
  obtain ⟨u,hu,rv⟩:=r.get ha
  have hp:ps[i]?=some y:=by
   rw [<- S.pre,List.getElem?_take_of_lt (by omega)]; exact h1
  have ndP:ps.Nodup:=by rw [<- S.pre]; exact S.nd.sublist (List.take_sublist _ _)
  refine ⟨u,rv,?_⟩
  rcases S.par y (List.mem_of_getElem? hp) with k | k
  ·exact .inl ⟨k,qlk9 ndP hp hu k⟩
  ·obtain ⟨c,e⟩:=qmu9 (n:=s.heap.objs.size+1) k
   refine .inr ⟨.inl k,c,e,?_⟩
   have q:=x.cell y c e
   rw [qlh9 ndP hp hu (by show scope.names.lookup y ≠ _; rw [k]; decide)] at q
   exact q
 ·exact e0.hok.fresh (Nat.le_of_lt (x.above y c (PySem.mem_of_lookup h)))
 ·unfold start
  show _=N.length
  rw [List.length_append,List.length_map,List.length_replicate]
  omega
theorem fn_of {CX:CXT} {P:Program} {w:World} {K:W.Frag} {mg:Str->Option Value} {base:Heap} {k:Nat} {f:Addr} {name qual:Str} {params:Arguments} {body:List Stmt} {scope:Scope} {dV kV doc pm cdv ct oc:Value} {an od:Option Addr}
  {osl:Array (Option Value)} {N ps:List Str} {sp:Sp} (lk:K.lookup f=some ⟨oc,od,.func (W.fnOf name qual params body scope dV kV doc pm an cdv ct),osl⟩) (hcd:W.codeIn K cdv qual=true) (S:FnScope N ps scope)
  (len:∀ vs H Q E,sp vs H Q E->vs.length=ps.length)
  (hbody:∀ (A:Around) (outer:List Env) (s:Shared) (H:Hp) (vs:List V) (Q:VK) (E:XK),Room k (A.deeper (envOfC qual scope s.heap.objs.size f cdv))->sp vs H Q E ->
   ∃ t,PSs (cxOf CX P w K mg base N qual scope f cdv A outer s H E) body t/\t { nx:=fun _ H'=>Q .non H',rt:=Q } (start N vs) H) :
  FnOk P w K mg base CX (k+1) f (W.fnOf name qual params body scope dV kV doc pm an cdv ct) ps sp:=by
 refine ⟨len,fun A outer s H args us vs Q E hr e0 hb r hsp=>?_⟩
 have hl:=len _ _ _ _ hsp
 have KX:K.In s.heap:=e0.mod.kin.keeps fun b o e=>(e0.bs b o e).1
 have lim:s.heap.NoLimit:=e0.mod.nolimit.keeps fun b o e=>(e0.bs b o e).1
 have hkind:∀ y∈ps.zip us,scope.names.lookup y.1=some .local\/(scope.names.lookup y.1=some .cell/\((cellsFrom (s.heap.objs.size+1) scope.names []).lookup y.1).isSome=true):=fun ⟨n,v⟩ hy=>by
  rcases S.par n (List.of_mem_zip hy).1 with q | q
  ·exact .inl q
  ·exact .inr ⟨q,W.cellsFrom_some _ _ _ (.inl q)⟩
 refine codeAny_call_function hr.depth (KX _ _ lk) rfl S.co S.gen rfl (W.codeRec_of KX hcd) (hb _ _ _ _ ?_)
 refine wpAny_newFunctionEnv_cells S.kind hkind fun env he s1 x=>?_
 subst he
 refine ⟨lim.keeps x.toInCall.keep,codeAny_func ?_⟩
 obtain ⟨t,ht,hq⟩:=hbody A outer s H vs Q E (hr.deeper _) hsp
 have I:Inv (cxOf CX P w K mg base N qual scope f cdv A outer s H E) [] (start N vs) H s1:=inv_start S hr.hd e0 hl r x
 refine wpAny_mono (ht [] s1 (start N vs) H _ I hq) (fun fl s' hs=>?_) fun e s' hs=>hs
 have fin:∀ {σ':St} {H':Hp} {v:V} {u:Value},Inv (cxOf CX P w K mg base N qual scope f cdv A outer s H E) [] σ' H' s'->RelV v u->Q v H'->CE outer P w H s Q u s' :=
  fun {σ' H' v u} J rv q=>⟨v,H',J.os,J.bare,J.base,J.hok,rv,q⟩
 cases fl with
 | ret u =>
  obtain ⟨v,σ',H',J,rv,q⟩:=hs
  exact fin J rv q
 | next =>
  obtain ⟨σ',H',J,q⟩:=hs
  exact fin (v:=V.non) (u:=Value.none) J rfl q
 | brk =>
  obtain ⟨_,_,_,q⟩:=hs
  exact False.elim q
 | cont =>
  obtain ⟨_,_,_,q⟩:=hs
  exact False.elim q
section
variable {X:Cx} {x:Str} {p pos:Pos} {e:Expr} {es:List Expr} {t:TA} {id T:String} {r:List V->Hp->VK->Prop}
noncomputable def tCB (r:List V->Hp->VK->Prop) (t:TA):TE:=fun σ H Q=>t σ H fun vs H1=>r vs H1 Q
theorem pe_callB (hc:CallR X (.builtin id) r) (hg:Gl X x) (hm:X.mg x=none) (hv:bootBuiltins x=some (.builtin id)) (ha:PA X (e :: es) t) (hn:x ≠ "__name__" := by decide) (hdb:(x == ("__debug__" : Str))=false:=by decide)
  (he:starEach (e :: es) X.env=(false,eval e X.env) :: starEach es X.env:=by rfl) (hpl:(backTo pos (starEach es X.env)).any (·.1)=false:=by rfl):PE X (.Call (.Name x p) (e :: es) [] pos) (tCB r t):=by
 intro pins s σ H Q I h
 refine wpAny_Call_Name_kw (qnd9 I hg hm hv ?_ hn hdb)
 exact PyProof.Rows.callWith_builtin1 (thn (ha pos pins s σ H _ I h) fun us s1 ⟨vs,H1,I1,r1,q1⟩=>hc pins s1 σ H1 vs us Q I1 r1 q1) he hpl
theorem pe_callTy (hc:CallR X (.type T) r) (hg:Gl X x) (hm:X.mg x=none) (hv:bootBuiltins x=some (.type T)) (ha:PA X (e :: es) t) (hn:x ≠ "__name__" := by decide) (hdb:(x == ("__debug__" : Str))=false:=by decide)
  (he:starEach (e :: es) X.env=(false,eval e X.env) :: starEach es X.env:=by rfl) (hpl:(backTo pos (starEach es X.env)).any (·.1)=false:=by rfl):PE X (.Call (.Name x p) (e :: es) [] pos) (tCB r t):=by
 intro pins s σ H Q I h
 refine wpAny_Call_Name_kw (qnd9 I hg hm hv ?_ hn hdb)
 exact PyProof.Rows.callWith_type1 (thn (ha pos pins s σ H _ I h) fun us s1 ⟨vs,H1,I1,r1,q1⟩=>hc pins s1 σ H1 vs us Q I1 r1 q1) he hpl
end
end L2
namespace HT
open PySem PyProof.Rows
section
open PySem.SeqAt
open PySem.AutoSeq1 (wpAny_loadPart')
open PySem.MeetsSeq PySem.MeetsSeq2 PySem.MeetsSeq3
end
section
variable {prog:Program} {w:World} {A:Around} {E:Value->Shared->Prop} {s:Shared}
noncomputable def sIx (n d:Nat):Option Int->Nat
 | none=>d
 | some v=>if v < 0 then (v+(n:Int)).toNat else min v.toNat n
end
end HT
namespace L2
open PySem PySem.Spec PyProof.Rows
noncomputable abbrev TO:=St->Hp->(Option Int->Hp->Prop)->Prop
noncomputable def PO (X:Cx) (e:Option Expr) (t:TO):Prop :=
 ∀ (pins:List (Addr × Obj)) (s:Shared) (σ:St) (H:Hp) (Q:Option Int->Hp->Prop),Inv X pins σ H s->t σ H Q ->
  wpAny (model X.prog X.w) X.A (evalPart e X.env) (fun u s'=>∃ o H',Inv X pins σ H' s'/\IsPart u o/\Q o H') X.xe s
noncomputable def tNoPart:TO:=fun _ H Q=>Q none H
noncomputable def tPart (t:TE):TO:=fun σ H Q=>t σ H fun x H1=>∃ i,x=.int i/\Q (some i) H1
section
variable {X:Cx} {e:Expr} {te:TE} {lo hi:Option Expr} {tl th:TO} {pos p2:Pos}
theorem po_none:PO X none tNoPart:=by
 intro pins s σ H Q I h
 rw [evalPart_none]
 exact wpAny_pure ⟨none,H,I,.none,h⟩
theorem po_some (h:PE X e te):PO X (some e) (tPart te):=by
 intro pins s σ H Q I hw
 rw [evalPart_some]
 refine thn (h pins s σ H _ I hw) fun u s1 ⟨x,H1,I1,r1,q1⟩=>?_
 obtain ⟨i,rfl,q⟩:=q1
 obtain ⟨t,rfl⟩:=r1
 exact ⟨some i,H1,I1,.int i t,q⟩
noncomputable def SlR (X:Cx) (r:V->Option Int->Option Int->Hp->VK->Prop):Prop :=
 ∀ (pins:List (Addr × Obj)) (s:Shared) (σ:St) (H:Hp) (x:V) (v vl vu:Value) (lo hi:Option Int) (sl:Addr) (Q:VK),Inv X pins σ H s->RelV x v->s.heap.IsSliceOf sl vl vu .none->IsPart vl lo->IsPart vu hi->r x lo hi H Q ->
  ∃ T id,typeLookup (.type T) "__getitem__" = pure (some (.builtin id))/\s.TypeIs v T/\wpAny (model X.prog X.w) X.A (getItem v (.ref sl)) (EP X pins σ Q) X.xe s
noncomputable def tSl (r:V->Option Int->Option Int->Hp->VK->Prop) (te:TE) (tl th:TO):TE:=fun σ H Q=>te σ H fun x H1=>tl σ H1 fun l H2=>th σ H2 fun u H3=>r x l u H3 Q
theorem pe_slice {r:V->Option Int->Option Int->Hp->VK->Prop} (hr:SlR X r) (he:PE X e te) (hl:PO X lo tl) (hu:PO X hi th):PE X (.Subscript e (.Slice lo hi none p2) pos) (tSl r te tl th):=by
 intro pins s σ H Q I h
 refine Subscript_ (thn (he pins s σ H _ I h) fun v s1 ⟨x,H1,I1,r1,q1⟩=>?_)
 refine wpAny_Slice (thn (hl pins s1 σ H1 _ I1 q1) fun vl s2 ⟨l,H2,I2,pl,q2⟩=>thn (hu pins s2 σ H2 _ I2 q2) fun vu s3 ⟨u,H3,I3,pu,q3⟩=>?_)
 rw [evalPart_none]
 refine wpAny_pure ?_
 have I4:Inv X pins σ H3 { s3 with heap:=s3.heap.push { cls:=.type "slice",data:=.fields #[vl,vu,.none] } }:=I3.kept (t':=s3.toks) fun b ob q=>Heap.get?_push_of_some _ q
 obtain ⟨T,id,hT,ht,hg⟩:=hr pins { s3 with heap:=s3.heap.push { cls:=.type "slice",data:=.fields #[vl,vu,.none] } } σ H3 x v vl vu l u s3.heap.objs.size Q I4 r1 (Heap.IsSliceOf.new ..) pl pu q3
 show wpAny (model X.prog X.w) X.A (subscriptTail e (.Slice lo hi none p2) v (.ref s3.heap.objs.size)) (EP X pins σ Q) X.xe { s3 with heap:=s3.heap.push { cls:=.type "slice",data:=.fields #[vl,vu,.none] } }
 exact tail_any (ops:=[.ref s3.heap.objs.size,v]) ht hT hg (by with_unfolding_all rfl)
noncomputable def cutV (xs:List V) (lo hi:Option Int):List V:=(xs.drop (HT.sIx xs.length 0 lo)).take (HT.sIx xs.length xs.length hi - HT.sIx xs.length 0 lo)
theorem qmj9 (xs:List V) (lo hi:Option Int):(cutV xs lo hi).length<=xs.length:=by
 unfold cutV
 rw [List.length_take,List.length_drop]
 omega
end
noncomputable def ixN (n:Nat) (i:Int):Option Nat:=if 0<=i then (if i < n then some i.toNat else none) else if -(n:Int)<=i then some (i+n).toNat else none
noncomputable def atI {α:Type} (xs:List α) (i:Int):Option α:=(ixN xs.length i).bind fun j=>xs[j]?
theorem ixN_seq {n:Nat} {i:Int} {j:Nat} (h:ixN n i=some j):seqIndex? i n=some j/\j < n/\-(n:Int)<=i/\i < n:=by
 unfold ixN at h
 by_cases h0:0<=i
 ·rw [if_pos h0] at h
  by_cases h1:i < n
  ·rw [if_pos h1] at h
   have e:i.toNat=j:=Option.some.inj h
   exact ⟨by rw [seqIndex_of h0 h1,e],by omega,by omega,h1⟩
  ·rw [if_neg h1] at h; cases h
 ·rw [if_neg h0] at h
  by_cases h1:-(n:Int)<=i
  ·rw [if_pos h1] at h
   have e:(i+n).toNat=j:=Option.some.inj h
   exact ⟨by rw [seqIndex_neg (by omega) h1,e],by omega,h1,by omega⟩
  ·rw [if_neg h1] at h; cases h
theorem atI_get {α:Type} {xs:List α} {i:Int} {v:α} (h:atI xs i=some v):∃ j,seqIndex? i xs.length=some j/\xs[j]?=some v/\j < xs.length/\-(xs.length:Int)<=i/\i < xs.length:=by
 unfold atI at h
 cases e:ixN xs.length i with
 | none=>rw [e] at h; cases h
 | some j =>
  rw [e] at h
  obtain ⟨h1,h2,h3,h4⟩:=ixN_seq e
  exact ⟨j,h1,h,h2,h3,h4⟩
theorem qeu9 {α:Type} {xs:List α} {j:Nat} {v:α} (h:xs[j]?=some v):atI xs (j:Int)=some v:=by
 have hj:j < xs.length:=(List.getElem?_eq_some_iff.mp h).1
 have e:ixN xs.length (j:Int)=some j:=by
  unfold ixN
  rw [if_pos (by omega),if_pos (by omega)]; simp
 unfold atI; rw [e]; exact h
theorem qnv9 {α:Type} (xs:List α) (v:α):atI (xs ++ [v]) (-1)=some v:=by
 have hl:(xs ++ [v]).length=xs.length+1:=by simp
 have e:ixN (xs ++ [v]).length (-1)=some xs.length:=by
  unfold ixN
  rw [hl,if_neg (by decide),if_pos (by omega)]
  congr 1
  omega
 unfold atI
 rw [e]
 show (xs ++ [v])[xs.length]?=some v
 simp
noncomputable def PlainIx (b:Expr):Prop:=∀ o i,subscripted b false o i=operate [o,i] (getItem o i)
noncomputable def IxR (X:Cx) (r:R2):Prop :=
 ∀ (value slice:Expr) (pins:List (Addr × Obj)) (s:Shared) (σ:St) (H:Hp) (x y:V) (v u:Value) (Q:VK),Inv X pins σ H s->RelV x v->RelV y u->r x y H Q ->
  subscripted slice false v u=operate [v,u] (getItem v u)->wpAny (model X.prog X.w) X.A (subscriptTail value slice v u) (EP X pins σ Q) X.xe s
noncomputable def MtR (X:Cx) (id:String) (r:V->List V->Hp->VK->Prop):Prop :=
 ∀ (pins:List (Addr × Obj)) (s:Shared) (σ:St) (H:Hp) (x:V) (xs:List V) (v:Value) (us:List Value) (Q:VK),Inv X pins σ H s->RelV x v->Vals xs us->r x xs H Q ->
  wpAny (model X.prog X.w) X.A (call (.builtin id) (v :: us)) (EP X pins σ Q) X.xe s
section
variable {X:Cx} {a b:Expr} {ta tb:TE} {pos:Pos}
theorem pe_ix {r:R2} (hr:IxR X r) (ha:PE X a ta) (hb:PE X b tb) (hs:PlainIx b):PE X (.Subscript a b pos) (tOp r ta tb):=by
 intro pins s σ H Q I h
 exact Subscript_ (binT ha hb I h fun v u s2 x y H2 I2 rx ry q=>hr a b pins s2 σ H2 x y v u Q I2 rx ry q (hs _ _))
noncomputable def rIxL (K:W.Frag):R2:=fun x y H Q=>∃ p xs i v,x=.ref p/\y=.int i/\SqL K H p xs/\atI xs i=some v/\Q v H
noncomputable def rIxT (K:W.Frag):R2:=fun x y H Q=>∃ p xs i v,x=.ref p/\y=.int i/\SqT K H p xs/\atI xs i=some v/\Q v H
theorem ix_list:IxR X (rIxL X.K):=by
 intro value slice pins s σ H x y v u Q I rx ry h hs
 obtain ⟨p,xs,i,z,rfl,rfl,hq,he,q⟩:=h
 cases rx
 obtain ⟨t,rfl⟩:=ry
 obtain ⟨its,r,pl,hz⟩:=I.list hq
 obtain ⟨j,h1,h2,h3,h4,h5⟩:=atI_get he
 obtain ⟨w,ew,rw'⟩:=r.get h2
 have hl:=r.length
 have hn:=line63
 have fin:EP X pins σ Q w s:=⟨z,H,I,rw',q⟩
 by_cases h0:0<=i
 ·have hj:i.toNat=j:=by
   rw [seqIndex_of h0 h5] at h1
   exact Option.some.inj h1
  exact item_listR pl.isList h0 (by omega) (by rw [hj]; simpa using ew) fin hs
 ·have hj:(i+(its.toArray.size:Int)).toNat=j:=by
   rw [seqIndex_neg (by omega) h4] at h1
   rw [List.size_toArray,<- hl]
   exact Option.some.inj h1
  exact subscriptTail_builtinR (x:=w) pl.isList.typeIs slot_list_getitem.lookup
   (wpAny_getItem_list_neg (Q:=fun r s'=>r=w/\EP X pins σ Q r s') pl.isList (by omega) (by rw [List.size_toArray] <;> omega) (by omega) (by rw [hj]; simpa using ew) ⟨rfl,fin⟩) hs
theorem ix_tup:IxR X (rIxT X.K):=by
 intro value slice pins s σ H x y v u Q I rx ry h hs
 obtain ⟨p,xs,i,z,rfl,rfl,hq,he,q⟩:=h
 cases rx
 obtain ⟨t,rfl⟩:=ry
 obtain ⟨its,r,pl,hz⟩:=I.tuple hq
 obtain ⟨j,h1,h2,h3,h4,h5⟩:=atI_get he
 obtain ⟨w,ew,rw'⟩:=r.get h2
 have hl:=r.length
 have hn:=line63
 have fin:EP X pins σ Q w s:=⟨z,H,I,rw',q⟩
 exact subscriptTail_builtinR (x:=w) pl.typeIs slot_tuple_getitem.lookup
  (getItem_tuple (j:=j) (Q:=fun r s'=>r=w/\EP X pins σ Q r s') pl (by omega) (by omega) (by rw [List.size_toArray,<- hl]; exact h1) (by simpa using ew) ⟨rfl,fin⟩) hs
theorem qow9 (its:List Value) (n j:Nat) (u:Value):Obj.mapSeq (·.setIfInBounds j u) { cls:=.type "list",data:=.seq its.toArray n }={ cls:=.type "list",data:=.seq (its.set j u).toArray n }:=by
 simp [Obj.mapSeq]
theorem Inv.lst {pins:List (Addr × Obj)} {σ:St} {H:Hp} {s:Shared} {p:Addr} {xs:List V} (I:Inv X pins σ H s) (h:H p=some (.lst xs)) :
  ∃ (its:List Value) (n:Nat),Vals xs its/\s.heap.get? p=some { cls:=.type "list",data:=.seq its.toArray n }/\xs.length<=sizeLine:=by
 obtain ⟨z,its,n,r,e⟩:=I.hok p _ h
 exact ⟨its,n,r,e,z⟩
theorem Inv.lstUpd {pins:List (Addr × Obj)} {σ:St} {H:Hp} {s:Shared} {p:Addr} {xs ys:List V} {its its':List Value} {n n':Nat} {f:Obj->Obj} (I:Inv X pins σ H s) (h:H p=some (.lst xs))
  (ho:s.heap.get? p=some { cls:=.type "list",data:=.seq its.toArray n }) (hf:f { cls:=.type "list",data:=.seq its.toArray n }={ cls:=.type "list",data:=.seq its'.toArray n' }) (r:Vals ys its') (hz:ys.length<=sizeLine) (t:Nat) :
  Inv X pins σ (upd H p (.lst ys)) { s with heap:=s.heap.update p f,toks:=t }:=by
 have e:(s.heap.update p f).get? p=some { cls:=.type "list",data:=.seq its'.toArray n' }:=by
  rw [Heap.get?_update_self f ho (by rw [hf] <;> rfl),hf]
 refine I.write (x:=p) (e:=p) (by rw [h]; trivial) (.inl rfl) (fun b u hb q=>(Heap.get?_update_other _ _ (Ne.symm hb)).trans q) ⟨_,e⟩ ?_
 exact ⟨hz,its',n',r,e⟩
noncomputable def rSetL:V->V->V->Hp->(Hp->Prop)->Prop:=fun o i v H Q=>∃ p xs k j,o=.ref p/\i=.int k/\H p=some (.lst xs)/\ixN xs.length k=some j/\Q (upd H p (.lst (xs.set j v)))
theorem qjw9:PSet X rSetL:=by
 intro pins s σ H o i v ov iv u Q I ro ri rv h
 obtain ⟨p,xs,k,j,rfl,rfl,hp,hj,q⟩:=h
 cases ro
 obtain ⟨t,rfl⟩:=ri
 obtain ⟨its,n,r,ho,hz⟩:=I.lst hp
 obtain ⟨h1,h2,h3,h4⟩:=ixN_seq hj
 have hl:=r.length
 have hn:=line63
 have I':Inv X pins σ (upd H p (.lst (xs.set j v))) { s with heap:=s.heap.update p (Obj.mapSeq (·.setIfInBounds j u)) } :=
  I.lstUpd hp ho (qow9 its n j u) (r.set rv j) (by rw [List.length_set]; exact hz) s.toks
 by_cases h0:0<=k
 ·have hk:k.toNat=j:=by
   rw [seqIndex_of h0 h4] at h1
   exact Option.some.inj h1
  exact W.ki_setAt ho h0 (by omega) (by rw [List.size_toArray,<- hl]; exact h4) (by rw [hk]; exact ⟨_,I',q⟩)
 ·have hk:(k+(its.toArray.size:Int)).toNat=j:=by
   rw [seqIndex_neg (by omega) h3] at h1
   rw [List.size_toArray,<- hl]
   exact Option.some.inj h1
  exact W.ki_setBack ho (by omega) (by rw [List.size_toArray,<- hl]; exact h3) (by omega) (by rw [hk]; exact ⟨_,I',q⟩)
theorem qjf9 (lo hi:Option Int) (n:Nat):(sliceBounds lo hi none n).1=((HT.sIx n 0 lo:Nat):Int)/\(sliceBounds lo hi none n).2.1=((HT.sIx n n hi:Nat):Int)/\(sliceBounds lo hi none n).2.2=1:=by
 refine ⟨?_,?_,rfl⟩
 ·cases lo with
  | none=>simp [sliceBounds,HT.sIx]
  | some i =>
   simp only [sliceBounds,HT.sIx,Option.getD_none,show (1:Int) > 0 by decide,if_true]
   by_cases h:i < 0
   ·simp only [h,if_true] <;> omega
   ·simp only [h,if_false] <;> omega
 ·cases hi with
  | none=>simp [sliceBounds,HT.sIx]
  | some i =>
   simp only [sliceBounds,HT.sIx,Option.getD_none,show (1:Int) > 0 by decide,if_true]
   by_cases h:i < 0
   ·simp only [h,if_true] <;> omega
   ·simp only [h,if_false] <;> omega
theorem qik9 (its:List Value) (lo hi:Option Int):slicePick its.toArray lo hi none=((its.drop (HT.sIx its.length 0 lo)).take (HT.sIx its.length its.length hi - HT.sIx its.length 0 lo)).toArray:=by
 obtain ⟨h1,h2,h3⟩:=qjf9 lo hi its.toArray.size
 unfold slicePick
 rw [h1,h2,h3]
 simp only [sliceRange_one,pick_run,List.size_toArray] <;> rfl
noncomputable def rSlL (K:W.Frag):V->Option Int->Option Int->Hp->VK->Prop:=fun x lo hi H Q=>∃ a xs,x=.ref a/\SqL K H a xs/\∀ p,H p=none->Q (.ref p) (upd H p (.lst (cutV xs lo hi)))
theorem sl_list:SlR X (rSlL X.K):=by
 intro pins s σ H x v vl vu lo hi sl Q I rx hs pl pu h
 obtain ⟨a,xs,rfl,hx,q⟩:=h
 cases rx
 obtain ⟨its,r,ht,hz⟩:=I.list hx
 have hlen:=r.length
 refine ⟨"list",_,slot_list_getitem.lookup,ht.isList.typeIs,?_⟩
 refine wpAny_getItem_list_slice ht.isList hs pl pu .none (by simp) ?_ (by rw [List.size_toArray] <;> omega)
 rw [qik9,<- hlen]
 refine ⟨.ref s.heap.objs.size,_,I.laid (t':=s.toks) (o:=.lst (cutV xs lo hi)) (fun b ob q=>Heap.get?_push_of_some _ q) (Nat.le_refl _) ?_,rfl,q _ (I.hok.fresh (Nat.le_refl _))⟩
 exact ⟨Nat.le_trans (qmj9 xs lo hi) hz,_,0,(r.drop (HT.sIx xs.length 0 lo)).take (HT.sIx xs.length xs.length hi - HT.sIx xs.length 0 lo),Heap.get?_push_size _ rfl⟩
theorem qjo9:CallR X (.builtin "len") (fun xs H Q=>∃ p ys,xs=[.ref p]/\(SqL X.K H p ys\/SqT X.K H p ys)/\Q (.int ys.length) H):=by
 intro pins s σ H xs us Q I r h
 obtain ⟨p,ys,rfl,hq,q⟩:=h
 obtain ⟨u,rfl,rx⟩:=vals1 r
 cases rx
 have hn:=line63
 rcases hq with hq | hq
 ·obtain ⟨its,r',pl,hz⟩:=I.list hq
  have hlen:=r'.length
  exact Calls.call_len_list pl.isList (by simp only [List.size_toArray] <;> omega) ⟨.int ys.length,H,I.tok _,⟨s.toks+1,by rw [List.size_toArray,hlen]⟩,q⟩
 ·obtain ⟨its,r',pl,hz⟩:=I.tuple hq
  have hlen:=r'.length
  exact len_tuple pl (by simp only [List.size_toArray] <;> omega) ⟨.int ys.length,H,I.tok _,⟨s.toks+1,by rw [List.size_toArray,hlen]⟩,q⟩
theorem qju9:CallR X (.type "list") (fun xs H Q=>∃ p ys,xs=[.ref p]/\(SqL X.K H p ys\/SqT X.K H p ys)/\∀ l,H l=none->Q (.ref l) (upd H l (.lst ys))):=by
 intro pins s σ H xs us Q I r h
 obtain ⟨p,ys,rfl,hq,q⟩:=h
 obtain ⟨u,rfl,rx⟩:=vals1 r
 cases rx
 have fin:∀ (its:List Value),Vals ys its->ys.length<=sizeLine->∀ (h':Heap) (c':Nat),(∀ b o',s.heap.get? b=some o'->h'.get? b=some o') ->
   h'.get? s.heap.objs.size=some { cls:=.type "list",dict:=none,data:=.seq its.toArray c',slots:=#[] }->EP X pins σ Q (.ref s.heap.objs.size) { s with heap:=h' }:=fun its r' hz h' c' kp e =>
  ⟨.ref s.heap.objs.size,_,I.laid (t':=s.toks) kp (Nat.le_refl _) (show ObjOk X.prog X.w _ h' _ (.lst ys) from ⟨hz,its,c',r',e⟩),rfl,q _ (I.hok.fresh (Nat.le_refl _))⟩
 rcases hq with hq | hq
 ·obtain ⟨its,r',pl,hz⟩:=I.list hq
  have hlen:=r'.length
  obtain ⟨o,ho,hc,n,hd⟩:=pl.isList
  exact call_list_seq p (.inl rfl) ho hc hd (fun h' c' kp e=>fin its r' hz h' c' kp e) (by simp only [List.size_toArray] <;> omega)
 ·obtain ⟨its,r',pl,hz⟩:=I.tuple hq
  have hlen:=r'.length
  obtain ⟨o,ho,hc,n,hd⟩:=pl
  exact call_list_seq p (.inr rfl) ho hc hd (fun h' c' kp e=>fin its r' hz h' c' kp e) (by simp only [List.size_toArray] <;> omega)
noncomputable def tyV (K:W.Frag) (T:String) (x:V) (H:Hp):Prop:=match x with
 | .str _=>T = "str"
 | .int _=>T = "int"
 | .ref p=>(T = "list" /\ ∃ xs,SqL K H p xs)\/(T = "tuple" /\ ∃ o,K.lookup p=some o/\o.cls=.type "tuple" /\ o.dict=none) \/
   (T = "dict" /\ ((∃ kvs,H p=some (.dK kvs))\/∃ kvs,H p=some (.dT kvs)))\/(T = "set" /\ ∃ S n,H p=some (.set S n))
 | _=>False
theorem tyV_is {pins:List (Addr × Obj)} {σ:St} {H:Hp} {s:Shared} {T:String} {x:V} {v:Value} (I:Inv X pins σ H s) (r:RelV x v) (ty:tyV X.K T x H) :
  s.TypeIs v T/\∀ a,v=.ref a->∃ ob,s.heap.get? a=some ob/\ob.dict=none:=by
 cases x with
 | str z =>
  obtain ⟨t,rfl⟩:=r
  cases (show T = "str" from ty)
  exact ⟨typeIs_str s z t,fun _ e=>nomatch e⟩
 | int i =>
  obtain ⟨t,rfl⟩:=r
  cases (show T = "int" from ty)
  exact ⟨typeIs_int s i t,fun _ e=>nomatch e⟩
 | ref p =>
  cases r
  rcases ty with ⟨rfl,xs,hq⟩ | ⟨rfl,o,hk,hc,hd⟩ | ⟨rfl,hk⟩ | ⟨rfl,S,n,hk⟩
  ·obtain ⟨its,_,pl,_⟩:=I.list hq
   refine ⟨pl.isList.typeIs,fun a e=>?_⟩
   cases e
   obtain ⟨o,n,e,c,hd,_⟩:=pl
   exact ⟨o,e,hd⟩
  ·refine ⟨⟨o,I.kIn p o hk,hc⟩,fun a e=>?_⟩
   cases e
   exact ⟨o,I.kIn _ o hk,hd⟩
  ·have z:∃ o,s.heap.get? p=some o/\o.ExactDict:=by
    rcases hk with ⟨kvs,hk⟩ | ⟨kvs,hk⟩
    ·obtain ⟨_,_,_,_,o,_,_,e,ex,_⟩:=I.hok p _ hk
     exact ⟨o,e,ex⟩
    ·obtain ⟨_,_,_,_,o,_,_,e,ex,_⟩:=I.hok p _ hk
     exact ⟨o,e,ex⟩
   obtain ⟨o,e,ex⟩:=z
   refine ⟨⟨o,e,ex.1⟩,fun a e2=>?_⟩
   cases e2
   exact ⟨o,e,ex.2.1⟩
  ·obtain ⟨o,_,_,_,e,ex,_⟩:=I.hok p _ hk
   refine ⟨⟨o,e,ex.1⟩,fun a e2=>?_⟩
   cases e2
   exact ⟨o,e,ex.2.1⟩
 | _=>exact False.elim ty
noncomputable def tBM0 (K:W.Frag) (T:String) (r:V->List V->Hp->VK->Prop) (to:TE):TE:=fun σ H Q=>to σ H fun x H1=>tyV K T x H1/\r x [] H1 Q
noncomputable def tBM (K:W.Frag) (T:String) (r:V->List V->Hp->VK->Prop) (to:TE) (t:TA):TE:=fun σ H Q=>to σ H fun x H1=>tyV K T x H1/\t σ H1 fun xs H2=>r x xs H2 Q
variable {o e:Expr} {es:List Expr} {to:TE} {t:TA} {name:Str} {apos cpos:Pos} {T id:String} {r:V->List V->Hp->VK->Prop}
theorem pe_bm0 (pa:PlainAttrs T) (slot:Slot T name id) (hty:typeOf (.builtin id)=pure (.type "method_descriptor")) (hm:MtR X id r) (ho:PE X o to)
  (hbase:attributeBase o name X.env (eval o X.env)=eval o X.env:=by rfl) (hline:(apos.endLine == cpos.line)=true:=by rfl):PE X (.Call (.Attribute o name apos) [] [] cpos) (tBM0 X.K T r to):=by
 intro pins s σ H Q I h
 refine wpAny_Call_method0_late hbase hline (thn (ho pins s σ H _ I h) fun v s1 ⟨x,H1,I1,r1,ty,q1⟩=>?_)
 obtain ⟨h1,h2⟩:=tyV_is I1 r1 ty
 exact ⟨T,id,pa,slot,hty,h1,h2,Calls.callWith_builtin rfl (PySem.evalArgs_none (hm pins s1 σ H1 x [] v [] Q I1 r1 .nil q1))⟩
theorem pe_bm (pa:PlainAttrs T) (slot:Slot T name id) (hty:typeOf (.builtin id)=pure (.type "method_descriptor")) (hm:MtR X id r) (ho:PE X o to) (ha:PA X (e :: es) t)
  (hbase:attributeBase o name X.env (eval o X.env)=eval o X.env:=by rfl)
  (hfew:((backTo cpos (starEach (e :: es) X.env)).all (fun x=>!x.1) && (backToKw cpos (keywordEach [] X.env)).all (fun x=>x.1.isSome)
   && decide ((e :: es).length+([]:List Keyword).length+(if ([]:List Keyword).isEmpty then 0 else 1) < 30))=true:=by rfl)
  (hline:(apos.endLine == cpos.line)=true:=by rfl) (hs:starEach (e :: es) X.env=(false,eval e X.env) :: starEach es X.env:=by rfl) (hplain:(backTo cpos (starEach es X.env)).any (·.1)=false:=by rfl) :
  PE X (.Call (.Attribute o name apos) (e :: es) [] cpos) (tBM X.K T r to t):=by
 intro pins s σ H Q I h
 refine wpAny_Call_method_late hbase hfew hline rfl (thn (ho pins s σ H _ I h) fun v s1 ⟨x,H1,I1,r1,ty,q1⟩=>?_)
 obtain ⟨h1,h2⟩:=tyV_is I1 r1 ty
 refine ⟨T,id,pa,slot,hty,h1,h2,?_⟩
 have hA:=ha cpos pins s1 σ H1 _ I1 q1
 rw [hs] at hA ⊢
 refine Calls.callWith_builtin (by show (false || (backTo cpos (starEach es X.env)).any (·.1))=false; rw [hplain] <;> rfl) (Calls.evalArgs_plain ?_)
 exact thn hA fun us s2 ⟨vs,H2,I2,r2,q2⟩=>hm pins s2 σ H2 x vs v us Q I2 r1 r2 q2
end
noncomputable def MtM (X:Cx) (id:String) (r:V->List V->Hp->VK->Prop):Prop :=
 ∀ (pins:List (Addr × Obj)) (s:Shared) (σ:St) (H:Hp) (x:V) (xs:List V) (v:Value) (us:List Value) (Q:VK),Inv X pins σ H s->RelV x v->Vals xs us->r x xs H Q ->
  wpAny (model X.prog X.w) X.A (call (.builtin id) (v :: us)) (EP X pins σ Q) X.xe s
theorem Vals.one:∀ {x:V} {us:List Value},Vals [x] us->∃ u,us=[u]/\RelV x u
 | _,_,.cons r .nil=>⟨_,rfl,r⟩
theorem Vals.two:∀ {x y:V} {us:List Value},Vals [x,y] us->∃ u v,us=[u,v]/\RelV x u/\RelV y v
 | _,_,_,.cons r (.cons q .nil)=>⟨_,_,rfl,r,q⟩
theorem Vals.zero:∀ {us:List Value},Vals [] us->us=[]
 | _,.nil=>rfl
section
variable {X:Cx} {pins:List (Addr × Obj)} {σ:St} {H:Hp} {s:Shared} {l b:Addr} {xs ys zs:List V}
theorem Inv.lset {its its':List Value} {n:Nat} {f:Array Value->Array Value} {t':Nat} (I:Inv X pins σ H s) (hH:H l=some (.lst xs))
  (e:s.heap.get? l=some { cls:=.type "list",data:=.seq its.toArray n }) (hf:f its.toArray=its'.toArray) (hv:Vals ys its') (hz:ys.length<=sizeLine) :
  Inv X pins σ (upd H l (.lst ys)) { s with heap:=s.heap.update l (Obj.mapSeq f),toks:=t' }:=by
 have q:=PySem.IsL.update e f
 rw [hf] at q
 refine I.write (x:=l) (e:=l) (by rw [hH]; exact trivial) (.inl rfl) (fun b' u hb hu=>(Heap.get?_update_other s.heap (Obj.mapSeq f) (Ne.symm hb)).trans hu) ⟨_,q⟩ ?_
 exact ⟨hz,its',_,hv,q⟩
theorem Inv.lnew {its:List Value} {t':Nat} (I:Inv X pins σ H s) (hv:Vals ys its) (hz:ys.length<=sizeLine) :
  Inv X pins σ (upd H s.heap.objs.size (.lst ys)) { s with heap:=s.heap.push { cls:=.type "list",data:=.seq its.toArray },toks:=t' } :=
 I.laid (fun _ _ q=>Heap.get?_push_of_some _ q) (Nat.le_refl _) ⟨hz,its,0,hv,Heap.get?_push_size _ rfl⟩
theorem Inv.fresh (I:Inv X pins σ H s):H s.heap.objs.size=none:=I.hok.fresh (Nat.le_refl _)
theorem Inv.lstM (I:Inv X pins σ H s) (hH:H l=some (.lst xs)):xs.length<=sizeLine/\∃ (its:List Value) (n:Nat),Vals xs its/\xs.length=its.length/\s.heap.get? l=some { cls:=.type "list",data:=.seq its.toArray n }:=by
 obtain ⟨z,its,n,r,e⟩:=I.hok l _ hH
 exact ⟨z,its,n,r,r.length,e⟩
theorem notLongL {n:Nat} (h:n<=sizeLine):Builtin.List.listTooLong n=false:=by
 unfold Builtin.List.listTooLong
 exact decide_eq_false (by omega)
end
section
variable {X:Cx}
noncomputable def rAppend:V->List V->Hp->VK->Prop:=fun x vs H Q=>∃ l xs y,x=.ref l/\vs=[y]/\H l=some (.lst xs)/\xs.length < sizeLine/\Q .non (upd H l (.lst (xs ++ [y])))
theorem qhw9:MtM X "list.append" rAppend:=by
 intro pins s σ H x vs v us Q I rx rv h
 obtain ⟨l,xs,y,rfl,rfl,hH,hz,q⟩:=h
 cases rx
 obtain ⟨u,rfl,ru⟩:=rv.one
 obtain ⟨z,its,n,r,hl,e⟩:=I.lstM hH
 refine call_meets F.slot_list_append ⟨_,e,rfl⟩ F.entry_list_append (F.args_list_append_2 _ _) (PySem.list_append l its.toArray n u (by rw [List.size_toArray]; omega)) ⟨e,?_⟩
 refine ⟨.non,_,I.lset (its':=its ++ [u]) hH e (by simp) (r.append (.cons ru .nil)) ?_,rfl,q⟩
 rw [List.length_append,List.length_singleton]
 omega
noncomputable def rExtend:V->List V->Hp->VK->Prop:=fun x vs H Q=>∃ l b xs zs,x=.ref l/\vs=[.ref b]/\H l=some (.lst xs)/\H b=some (.lst zs)/\xs.length+zs.length<=sizeLine/\Q .non (upd H l (.lst (xs ++ zs)))
theorem mt_extend:MtM X "list.extend" rExtend:=by
 intro pins s σ H x vs v us Q I rx rv h
 obtain ⟨l,b,xs,zs,rfl,rfl,hH,hB,hz,q⟩:=h
 cases rx
 obtain ⟨u,rfl,ru⟩:=rv.one
 cases ru
 obtain ⟨z,its,n,r,hl,e⟩:=I.lstM hH
 obtain ⟨z2,its2,n2,r2,hl2,e2⟩:=I.lstM hB
 have hsz:its.toArray.size+its2.toArray.size<=sizeLine:=by rw [List.size_toArray,List.size_toArray]; omega
 have hlong:¬ (!its.toArray.isEmpty && Builtin.List.listTooLong (its.toArray.size+its2.toArray.size))=true:=by
  rw [notLongL hsz,Bool.and_false]
  exact Bool.false_ne_true
 refine call_meets F.slot_list_extend ⟨_,e,rfl⟩ F.entry_list_extend (F.args_list_extend_2 _ _)
  (AutoSeq1.list_extend_list_list_0 l its.toArray n b its2.toArray n2 hlong (by rw [List.size_toArray]; omega) (by omega)) ⟨e,e2,?_⟩
 refine ⟨.non,_,I.lset (its':=its ++ its2) hH e (by simp) (r.append r2) ?_,rfl,q⟩
 rw [List.length_append]
 omega
noncomputable def rClear:V->List V->Hp->VK->Prop:=fun x vs H Q=>∃ l xs,x=.ref l/\vs=[]/\H l=some (.lst xs)/\Q .non (upd H l (.lst []))
theorem mt_clear:MtM X "list.clear" rClear:=by
 intro pins s σ H x vs v us Q I rx rv h
 obtain ⟨l,xs,rfl,rfl,hH,q⟩:=h
 cases rx
 have hus:=rv.zero
 subst hus
 obtain ⟨z,its,n,r,hl,e⟩:=I.lstM hH
 refine call_meets F.slot_list_clear ⟨_,e,rfl⟩ F.entry_list_clear (F.args_list_clear_1 _) (AutoSeq1.list_clear_list_0 l its.toArray n (by rw [List.size_toArray]; omega)) ⟨e,?_⟩
 exact ⟨.non,_,I.lset (its':=[]) (ys:=[]) hH e rfl .nil (Nat.zero_le _),rfl,q⟩
noncomputable def rCat:R2:=fun x y H Q=>∃ l b xs zs,x=.ref l/\y=.ref b/\H l=some (.lst xs)/\H b=some (.lst zs)/\xs.length+zs.length<=sizeLine/\∀ p,H p=none->Q (.ref p) (upd H p (.lst (xs ++ zs)))
theorem op_cat:OpR X (binaryOp .Add) rCat:=by
 intro pins s σ H x y v u Q I rx ry h
 obtain ⟨l,b,xs,zs,rfl,rfl,hH,hB,hz,q⟩:=h
 cases rx
 cases ry
 obtain ⟨z,its,n,r,hl,e⟩:=I.lstM hH
 obtain ⟨z2,its2,n2,r2,hl2,e2⟩:=I.lstM hB
 refine PySem.P.add_list e e2 ?_ (by rw [List.size_toArray,List.size_toArray]; omega)
 have ea:its.toArray ++ its2.toArray=(its ++ its2).toArray:=by simp
 rw [ea]
 exact ⟨.ref _,_,I.lnew (t':=s.toks) (r.append r2) (by rw [List.length_append]; omega),rfl,q _ I.fresh⟩
end
section
variable {prog:Program} {w:World} {A:Around} {E:Value->Shared->Prop} {s:Shared}
end
section
variable {X:Cx}
end
end L2
namespace Att
open PySem PySem.W PySem.Calls PyProof.Rows
theorem qgk9 {P:Params} {h:Heap}:∀ (ns:List Int) (vs:List Value),WellAll P h vs (ns.map WData.int)->IntsAre vs ns:=by
 intro ns
 induction ns with
 | nil =>
  intro vs w
  rw [List.map_nil] at w
  cases w
  exact .nil
 | cons n ns ih =>
  intro vs w
  rw [List.map_cons] at w
  cases w with
  | cons a b =>
   cases a
   exact .cons _ _ (ih _ b)
theorem script_of {l:OpenLaw} {n:Nat} (hn:l.most=some n) {P:Params} {h:Heap} {args:List WData} {vals:List Value}
  (hpre:l.row.toRowW.claim.pre args=true) (hwl:WellAll P h vals args) :
  ∃ a vs ns,vals=[Value.ref a]/\args=[WData.list (ns.map WData.int)]/\h.get? a=some { cls:=.type "list",data:=.seq vs.toArray }/\IntsAre vs ns/\ns.length<=n:=by
 have hsh:WShape.hasAll [] args [.list .int]=true:=(pre_splitW hpre).1
 have hc:l.pre.holds [] { args:=args }=true:=(pre_splitW hpre).2
 obtain ⟨d,r,rfl,h1,h2⟩:=hasAllW_cons hsh
 obtain rfl:=hasAllW_nil h2
 obtain ⟨xs,rfl,h3⟩:=hasW_list h1
 obtain ⟨ns,rfl⟩:=items_int h3
 have hlen:ns.length<=n:=by
  unfold OpenLaw.pre at hc
  have h4:(WTm.not (.lt (.lit (.int (n:Int))) (.len (.arg 0)))).holds [] { args:=[.list (ns.map .int)] }=true:=by
   have h4:=(holds_andW hc).1
   rw [hn] at h4
   exact h4
  have h5:=condW_of h4 (w_not (w_lt w_lit (w_len_list (w_arg rfl))))
  rw [List.length_map] at h5
  refine Nat.le_of_not_lt fun q=>?_
  have q':(n:Int) < ((ns.length:Nat):Int):=by omega
  first
   | (rw [decide_eq_true q'] at h5; exact absurd h5 (by decide))
   | (simp at h5; omega)
 cases hwl with
 | cons w1 w2 =>
  cases w2
  cases w1 with
  | list ho hall=>exact ⟨_,_,ns,rfl,rfl,ho,qgk9 ns _ hall,hlen⟩
theorem post_true (l:OpenLaw) (args:List WData):l.row.toRowW.claim.post args (.bool true) args=true :=
 postW_of (r:=l.row.toRowW) (X:=(true == true))
  (show WShape.has [] (.bool true) .bool=true by first | rfl | decide | simp [WShape.has,WShape.arms,WShape.armsAll])
  (show (WTm.eq .res (.lit (.bool true))).value [] { args:=args,res:=some (.bool true),after:=args }=some (.bool (true == true)) from w_eq_bool (w_res rfl) w_lit) rfl
theorem attach_call {l:OpenLaw} {n:Nat} {q:Program} {loose:List Str} {XP:(Str->Option Value)->Heap->Prop} {YP:World->Heap->Prop} {d:DefRec}
  (hn:l.most=some n) (hdf:d.params.defaults=[])
  (call:∀ (w:World) (s₀ s₁:Shared) (mg mb:Str->Option Value) (fa:Addr) (o:Obj) (pm cd doc:Value) (a:Addr) (vs:List Value) (ns:List Int),
   Ground q loose [] XP w s₀ mg mb s₁.heap->YP w s₁.heap ->
   s₁.heap.get? fa=some o->o.data=.func (docDef d.name d.params d.body d.scope pm cd doc)->s₁.heap.CodeRec cd d.name->mg d.name=some (.ref fa) ->
   s₁.heap.get? a=some { cls:=.type "list",data:=.seq vs.toArray }->IntsAre vs ns->ns.length<=n->s₁.gens=#[] ->
   codeAny (model l.prog w) callerA (.call (.ref fa) ⟨[.ref a],[]⟩) (fun r s'=>r=.ok (.ret (.bool true))/\OldK s₁.heap s'.heap/\s'.os=s₁.os/\AllBare s'.gens) s₁) :
  WalkO q loose XP YP l.row.toRowW d [] (fun f vs=>PySem.call f vs):=by
 intro w s₀ s₁ mg mb G Y fa o pm cd doc dV kV ho hd hcd hD hmg hg args vals as hpre hlay hrd hwl hlo
 obtain rfl:dV=.none:=Dflts.none hD hdf
 obtain rfl:kV=.none:=Dflts.noKw hD
 obtain ⟨a,vs,ns,rfl,rfl,hobj,hints,hlen⟩:=script_of hn hpre hwl
 refine enter_call (codeAny_mono (call w s₀ s₁ mg mb fa o pm cd doc a vs ns G Y ho (fd_plain hd) hcd hmg hobj hints hlen hg) fun r s' hq=>?_)
 obtain ⟨rfl,h2,h3,h4⟩:=hq
 exact ⟨.inl ⟨.bool true,.bool true,[],rfl,fun _=>rfl,.bool true,post_true l _,fun _=>⟨List.Pairwise.nil,fun _ hm=>(nomatch hm)⟩⟩,h2,h3,h4⟩
section
variable {prog:Program} {w:World} {A:Around} {E:Value->Shared->Prop} {s:Shared} {K:Frag}
end
end Att
namespace L2
open PySem PySem.Spec PyProof.Rows
theorem qlg9:∀ {vs:List Value} {ns:List Int},IntsAre vs ns->Vals (ns.map V.int) vs
 | _,_,.nil=>.nil
 | _,_,.cons n t h=>.cons ⟨t,rfl⟩ (qlg9 h)
noncomputable abbrev CX0:CXT:=fun _ _ _ _ _ _=>False
noncomputable abbrev E0:XK:=fun _ _ _=>False
theorem pass0 {X:Cx}:qih9 CX0 X E0:=fun _ _ _ _ _ _ _ h=>h.elim
structure Fun (K:W.Frag) (x qual:Str) (st:Stmt) (f:Addr) (fd:FuncData):Prop where
 ex:∃ (oc:Value) (od:Option Addr) (kV doc pm:Value) (an:Option Addr) (cdv ct:Value) (osl:Array (Option Value)),
  fd=W.fnOf x qual (qah9 st) (qag9 st) (qaa9 st) .none kV doc pm an cdv ct/\K.lookup f=some ⟨oc,od,.func fd,osl⟩/\W.codeIn K cdv qual=true
 kp:W.keepIn K (.ref f)=true
section
variable {P:Program} {w:World} {K:W.Frag} {mg:Str->Option Value} {base:Heap}
theorem Fun.ok {x qual:Str} {st:Stmt} {f:Addr} {fd:FuncData} {N ps:List Str} {k:Nat} {sp:Sp} (F:Fun K x qual st f fd) (S:FnScope N ps (qaa9 st)) (len:∀ vs H Q E,sp vs H Q E->vs.length=ps.length)
  (hbody:∀ (cdv:Value) (A:Around) (outer:List Env) (s:Shared) (H:Hp) (vs:List V) (Q:VK) (E:XK),Room k (A.deeper (envOfC qual (qaa9 st) s.heap.objs.size f cdv))->sp vs H Q E ->
   ∃ t,PSs (cxOf CX0 P w K mg base N qual (qaa9 st) f cdv A outer s H E).nox (qag9 st) t/\t { nx:=fun _ H'=>Q .non H',rt:=Q } (start N vs) H):FnOk P w K mg base CX0 (k+1) f fd ps sp:=by
 obtain ⟨oc,od,kV,doc,pm,an,cdv,ct,osl,rfl,lk,hcd⟩:=F.ex
 refine fn_of lk hcd S len fun A outer s H vs Q E hr hsp=>?_
 obtain ⟨t,h,q⟩:=hbody cdv A outer s H vs Q E hr hsp
 exact ⟨t,h.nox,q⟩
theorem Fun.binds {x qual:Str} {st:Stmt} {f:Addr} {fd:FuncData} {ps:List Str} (F:Fun K x qual st f fd)
  (h:∀ (kV doc pm:Value) (an:Option Addr) (cdv ct:Value) (us:List Value),us.length=ps.length->bindArgs (W.fnOf x qual (qah9 st) (qag9 st) (qaa9 st) .none kV doc pm an cdv ct) ⟨us,[]⟩=pure (ps.zip us)):Binds K fd ps []:=by
 obtain ⟨oc,od,kV,doc,pm,an,cdv,ct,osl,rfl,lk,hcd⟩:=F.ex
 exact .all (h kV doc pm an cdv ct)
theorem qfl9 {x qual:Str} {st:Stmt} {f:Addr} {oc:Value} {od an:Option Addr} {osl:Array (Option Value)} {kV doc pm cdv ct:Value} (l:K.lookup f=some ⟨oc,od,.func (W.fnOf x qual (qah9 st) (qag9 st) (qaa9 st) .none kV doc pm an cdv ct),osl⟩)
  (c:W.codeIn K cdv qual=true) (k:W.keepIn K (.ref f)=true):Fun K x qual st f (W.fnOf x qual (qah9 st) (qag9 st) (qaa9 st) .none kV doc pm an cdv ct):=⟨⟨oc,od,kV,doc,pm,an,cdv,ct,osl,rfl,l,c⟩,k⟩
end
theorem qfv9 {n:Nat} (h:n<=1000):n < sizeLine:=Nat.lt_of_le_of_lt h (by decide)
section
variable {X:Cx}
theorem pv (i:Nat) {x:Str} {pos:Pos} (hN:X.N[i]?=some x:=by rfl) (hv:Vis X.env.scope x:=by first | exact Or.inl rfl | exact Or.inr (Or.inl rfl) | exact Or.inr (Or.inr rfl)) (hd:(x == ("__debug__" : Str))=false:=by decide)
  (hcd:(x == ("__classdict__" : Str))=false:=by decide):PE X (.Name x pos) (tVar i):=pe_var hN hv hd hcd
end
theorem iteF {A B:Prop} (h:B):if false=true then A else B:=by
 rw [if_neg Bool.false_ne_true]
 exact h
theorem iteT {A B:Prop} (h:A):if true=true then A else B:=by
 rw [if_pos rfl]
 exact h
theorem ite2 {c A B:Prop} [Decidable c] (h1:c->A) (h2:¬ c->B):if c then A else B:=by
 by_cases h:c
 ·rw [if_pos h]
  exact h1 h
 ·rw [if_neg h]
  exact h2 h
noncomputable def Same (H H':Hp):Prop:=∀ b o,H b=some o->H' b=some o
theorem Same.refl (H:Hp):Same H H:=fun _ _ h=>h
theorem Same.trans {H H1 H2:Hp} (a:Same H H1) (b:Same H1 H2):Same H H2:=fun c o h=>b c o (a c o h)
theorem Same.free {H H':Hp} (e:Same H H') {l:Addr} (h:H' l=Option.none):H l=Option.none:=by
 cases q:H l with
 | none=>rfl
 | some o =>
  rw [e l o q] at h
  cases h
theorem Same.seq {K:W.Frag} {H H':Hp} {a:Addr} {xs:List V} (e:Same H H') (h:SqL K H a xs):SqL K H' a xs:=by
 rcases h with (h | ⟨o,h⟩) | h
 ·exact .inl (.inl (e _ _ h))
 ·exact .inl (.inr ⟨o,e _ _ h⟩)
 ·exact .inr h
end L2
set_option maxHeartbeats 4000000
namespace Ma
theorem split (d x:Int) (hd:0 < d):∃ q,x=d * q+x % d/\0<=x % d/\x % d < d :=
 ⟨x / d,by have:=Int.mul_ediv_add_emod x d; omega,Int.emod_nonneg x (by omega),Int.emod_lt_of_pos x hd⟩
theorem qbe9 {d k m:Int} (hd:0 < d) (h:k < m):d * k+d<=d * m:=by
 have:=Int.mul_le_mul_of_nonneg_left (show k+1<=m by omega) (Int.le_of_lt hd)
 rw [Int.mul_add,Int.mul_one] at this
 exact this
noncomputable def nextO (d a b t:Int):Int:=if b < t % d then t - t % d+d+a else t - t % d+(if a > t % d then a else t % d)
section
variable {d a b t:Int}
theorem qby9 (hd:0 < d) (h0:0<=a) (h1:a<=b) (h2:b < d) :
  ∃ k,d * k+a<=nextO d a b t/\nextO d a b t<=d * k+b/\t<=nextO d a b t/\nextO d a b t < t+d /\
   ∀ k' x,d * k'+a<=x->x<=d * k'+b->t<=x->nextO d a b t<=x:=by
 obtain ⟨q,hq,r0,r1⟩:=split d t hd
 unfold nextO
 generalize t % d=r at *
 split
 ·refine ⟨q+1,?_⟩
  have e:d * (q+1)=d * q+d:=by rw [Int.mul_add,Int.mul_one]
  refine ⟨by omega,by omega,by omega,by omega,fun k' x x1 x2 x3=>?_⟩
  rcases Int.lt_or_le q k' with hk | hk
  ·have:=qbe9 hd hk
   omega
  ·have:=Int.mul_le_mul_of_nonneg_left hk (Int.le_of_lt hd)
   omega
 ·refine ⟨q,?_⟩
  refine ⟨by split <;> omega,by split <;> omega,by split <;> omega,by split <;> omega,fun k' x x1 x2 x3=>?_⟩
  rcases (by omega:q < k'\/q=k'\/k' < q) with hk | hk | hk
  ·have:=qbe9 hd hk
   split <;> omega
  ·subst hk
   split <;> omega
  ·have:=qbe9 hd hk
   omega
end
structure Clk (d:Int) (n:Nat) (A B C:Nat->Int):Prop where
 d0:0 < d
 a0:∀ i,i < n->0<=A i
 ab:∀ i,i < n->A i<=B i
 bd:∀ i,i < n->B i < d
 c0:∀ i,i < n->0<=C i
 lt:∀ i j,i < j->j < n->B i < A j
 yl:∀ i j,i < j->j < n->B i+C i < A j+C j
 wr:∀ i j,i < n->j < n->B i+C i < d+(A j+C j)
noncomputable def Dep (d:Int) (n:Nat) (A B C:Nat->Int) (x y:Int):Prop:=∃ i k,i < n/\d * k+A i<=x/\x<=d * k+B i/\y=x+C i
section
variable {d:Int} {n:Nat} {A B C:Nat->Int}
theorem qmq9 (K:Clk d n A B C) {x y x' y':Int} (h:Dep d n A B C x y) (h':Dep d n A B C x' y') (l:x < x'):y < y':=by
 obtain ⟨i,k,hi,x1,x2,rfl⟩:=h
 obtain ⟨j,m,hj,z1,z2,rfl⟩:=h'
 have d0:=K.d0
 have wr:=K.wr i j hi hj
 have a1:=K.a0 i hi
 have a2:=K.a0 j hj
 have b1:=K.bd i hi
 have b2:=K.bd j hj
 rcases (by omega:k < m\/k=m\/m < k) with hk | hk | hk
 ·have:=qbe9 d0 hk
  omega
 ·subst hk
  rcases (by omega:i < j\/i=j\/j < i) with e | e | e
  ·have:=K.yl i j e hj
   omega
  ·subst e
   omega
  ·have:=K.lt j i e hi
   omega
 ·have:=qbe9 d0 hk
  omega
theorem qoy9 (K:Clk d n A B C) {x y y':Int} (h:Dep d n A B C x y) (h':Dep d n A B C x y'):y=y':=by
 obtain ⟨i,k,hi,x1,x2,rfl⟩:=h
 obtain ⟨j,m,hj,z1,z2,rfl⟩:=h'
 have d0:=K.d0
 have a1:=K.a0 i hi
 have a2:=K.a0 j hj
 have b1:=K.bd i hi
 have b2:=K.bd j hj
 rcases (by omega:k < m\/k=m\/m < k) with hk | hk | hk
 ·have:=qbe9 d0 hk
  omega
 ·subst hk
  rcases (by omega:i < j\/i=j\/j < i) with e | e | e
  ·have:=K.lt i j e hj
   omega
  ·rw [e]
  ·have:=K.lt j i e hi
   omega
 ·have:=qbe9 d0 hk
  omega
structure First (d:Int) (n:Nat) (A B C:Nat->Int) (t x y:Int):Prop where
 dep:Dep d n A B C x y
 le:t<=x
 least:∀ x' y',Dep d n A B C x' y'->t<=x'->x<=x'
theorem first_of (K:Clk d n A B C) (hn:0 < n) {t:Int} {m:Nat} (hm:m<=n) (h1:∀ i,i < m->¬ t % d<=B i) (h2:m < n->t % d<=B m) {i:Nat} (hi:i=m % n) :
  First d n A B C t (nextO d (A i) (B i) t) (nextO d (A i) (B i) t+C i):=by
 have hin:i < n:=by rw [hi]; exact Nat.mod_lt _ hn
 obtain ⟨k,k1,k2,k3,k4,k5⟩:=qby9 (t:=t) K.d0 (K.a0 i hin) (K.ab i hin) (K.bd i hin)
 refine ⟨⟨i,k,hin,k1,k2,rfl⟩,k3,?_⟩
 intro x' y' z9 hx;obtain ⟨j,k',hj,x1,x2,rfl⟩ := z9
 obtain ⟨q,hq,r0,r1⟩:=split d t K.d0
 have d0:=K.d0
 have aj:=K.a0 j hj
 have bj:=K.bd j hj
 have abj:=K.ab j hj
 have ai:=K.a0 i hin
 have bi:=K.bd i hin
 have abi:=K.ab i hin
 by_cases hmn:m < n
 ·have ei:i=m:=by rw [hi,Nat.mod_eq_of_lt hmn]
  subst ei
  have hb:=h2 hmn
  have en:nextO d (A i) (B i) t=t - t % d+(if A i > t % d then A i else t % d):=by
   unfold nextO
   rw [if_neg (by omega)]
  rw [en]
  rcases (by omega:j=i\/j < i\/i < j) with e | e | e
  ·subst e
   have:=k5 k' x' x1 x2 hx
   rw [en] at this
   exact this
  ·have hjb:=h1 j e
   rcases (by omega:k'<=q\/q < k') with hk | hk
   ·have:=Int.mul_le_mul_of_nonneg_left hk (Int.le_of_lt d0)
    omega
   ·have:=qbe9 d0 hk
    split <;> omega
  ·have:=K.lt i j e hj
   rcases (by omega:k' < q\/k'=q\/q < k') with hk | hk | hk
   ·have:=qbe9 d0 hk
    omega
   ·subst hk
    split <;> omega
   ·have:=qbe9 d0 hk
    split <;> omega
 ·have em:m=n:=by omega
  have ei:i=0:=by rw [hi,em,Nat.mod_self]
  subst ei
  have hb:=h1 0 (by omega)
  have en:nextO d (A 0) (B 0) t=t - t % d+d+A 0:=by
   unfold nextO
   rw [if_pos (by omega)]
  rw [en]
  have hjb:=h1 j (by omega)
  have a0j:A 0<=A j:=by
   rcases Nat.eq_zero_or_pos j with e | e
   ·rw [e]
    exact Int.le_refl _
   ·have:=K.lt 0 j e hj
    omega
  rcases (by omega:k'<=q\/q < k') with hk | hk
  ·have:=Int.mul_le_mul_of_nonneg_left hk (Int.le_of_lt d0)
   omega
  ·have:=qbe9 d0 hk
   omega
theorem First.uniq (K:Clk d n A B C) {t x y x' y':Int} (h:First d n A B C t x y) (h':First d n A B C t x' y'):x=x'/\y=y':=by
 have a:=h.least _ _ h'.dep h'.le
 have b:=h'.least _ _ h.dep h.le
 have e:x=x':=by omega
 subst e
 exact ⟨rfl,qoy9 K h.dep h'.dep⟩
end
end Ma
namespace Ma
noncomputable abbrev T3:=Int × Int × Int
structure Rw (R:List T3) (at_ ride:Int):Prop where
 at0:0<=at_
 r0:0<=ride
 atb:at_<=3000000000000 * (R.length:Int)
 rb:ride<=2000000000000 * (R.length:Int)
 row:∀ (i:Nat) (a b c:Int),R[i]?=some (a,b,c)->0<=a/\a<=b/\b < at_/\0<=c/\c<=2000000000000 * (R.length:Int)
 adj:∀ (i:Nat) (a b c a' b' c':Int),R[i]?=some (a,b,c)->R[i+1]?=some (a',b',c')->b < a'/\b+c < a'+c'
 last:∀ (a b c:Int),R[R.length - 1]?=some (a,b,c)->b=at_ - 1/\c=ride
 tch:∀ (i:Nat) (a b c a' b' c':Int),R[i]?=some (a,b,c)->R[i+1]?=some (a',b',c')->b+1=a'->c ≠ c'
noncomputable def rA (R:List T3) (i:Nat):Int:=(R.getD i (0,0,0)).1
noncomputable def rB (R:List T3) (i:Nat):Int:=(R.getD i (0,0,0)).2.1
noncomputable def rC (R:List T3) (i:Nat):Int:=(R.getD i (0,0,0)).2.2
theorem r_at {R:List T3} {i:Nat} (h:i < R.length):R[i]?=some (rA R i,rB R i,rC R i):=by
 unfold rA rB rC
 rw [List.getD_eq_getElem?_getD,List.getElem?_eq_getElem h]
 rfl
theorem r_of {R:List T3} {i:Nat} {a b c:Int} (h:R[i]?=some (a,b,c)):rA R i=a/\rB R i=b/\rC R i=c:=by
 unfold rA rB rC
 rw [List.getD_eq_getElem?_getD,h]
 exact ⟨rfl,rfl,rfl⟩
section
variable {d:Int} {n:Nat} {A B C:Nat->Int}
theorem first_min (K:Clk d n A B C) {t:Int} {j:Nat} (hj:j < n) (hm:∀ i,i < n->nextO d (A j) (B j) t<=nextO d (A i) (B i) t):First d n A B C t (nextO d (A j) (B j) t) (nextO d (A j) (B j) t+C j):=by
 obtain ⟨k,k1,k2,k3,k4,k5⟩:=qby9 (t:=t) K.d0 (K.a0 j hj) (K.ab j hj) (K.bd j hj)
 refine ⟨⟨j,k,hj,k1,k2,rfl⟩,k3,?_⟩
 intro x' y' z9 hx;obtain ⟨i,k',hi,x1,x2,rfl⟩ := z9
 obtain ⟨k',a1,a2,a3,a4,a5⟩:=qby9 (t:=t) K.d0 (K.a0 i hi) (K.ab i hi) (K.bd i hi)
 have:=a5 _ x' x1 x2 hx
 have:=hm i hi
 omega
end
end Ma
namespace L2
open PySem PySem.Spec PyProof.Rows
theorem bt_max:bootBuiltins "max" = some (.builtin "max"):=by decide +kernel
theorem bt_min:bootBuiltins "min" = some (.builtin "min"):=by decide +kernel
theorem qcj9:bootBuiltins "len" = some (.builtin "len"):=by decide +kernel
theorem bt_all:bootBuiltins "all" = some (.builtin "all"):=by decide +kernel
theorem qcc9:bootBuiltins "isinstance" = some (.builtin "isinstance"):=by decide +kernel
theorem bt_int:bootBuiltins "int" = some (.type "int"):=by decide +kernel
theorem bt_bool:bootBuiltins "bool" = some (.type "bool"):=by decide +kernel
theorem qny9:bootBuiltins "tuple" = some (.type "tuple"):=by decide +kernel
theorem qfm9:bootBuiltins "list" = some (.type "list"):=by decide +kernel
noncomputable def qbi9:Expr->Bool
 | .Starred ..=>false
 | _=>true
theorem se_of {e:Expr} {es:List Expr} {env:Env} (h:qbi9 e=true):starEach (e :: es) env=(false,eval e env) :: starEach es env:=by
 cases e <;> first | rfl | cases h
theorem qhq9 {pos:Pos} {env:Env}:∀ {es:List Expr},es.all qbi9=true->(backTo pos (starEach es env)).any (·.1)=false
 | [],_=>rfl
 | e :: es,h=>by
  rw [List.all_cons,Bool.and_eq_true] at h
  rw [se_of h.1]
  show (false || (backTo pos (starEach es env)).any (·.1))=false
  rw [qhq9 h.2]
  rfl
section
variable {X:Cx} {e:Expr} {es:List Expr} {te:TE} {t:TA}
theorem pa_c (ha:PE X e te) (hr:PA X es t) (h:qbi9 e=true:=by rfl):PA X (e :: es) (tCons te t):=pa_cons ha hr (se_of h)
end
section
variable {X:Cx} {x:Str} {p pos:Pos} {e:Expr} {es:List Expr} {t:TA} {id T:String} {r:List V->Hp->VK->Prop}
theorem pe_cb (hc:CallR X (.builtin id) r) (hg:Gl X x) (hm:X.mg x=none) (hv:bootBuiltins x=some (.builtin id)) (ha:PA X (e :: es) t) (hn:x ≠ "__name__" := by decide) (hdb:(x == ("__debug__" : Str))=false:=by decide)
  (he:qbi9 e=true:=by rfl) (hpl:es.all qbi9=true:=by rfl):PE X (.Call (.Name x p) (e :: es) [] pos) (tCB r t):=pe_callB hc hg hm hv ha hn hdb (se_of he) (qhq9 hpl)
theorem pe_ct (hc:CallR X (.type T) r) (hg:Gl X x) (hm:X.mg x=none) (hv:bootBuiltins x=some (.type T)) (ha:PA X (e :: es) t) (hn:x ≠ "__name__" := by decide) (hdb:(x == ("__debug__" : Str))=false:=by decide)
  (he:qbi9 e=true:=by rfl) (hpl:es.all qbi9=true:=by rfl):PE X (.Call (.Name x p) (e :: es) [] pos) (tCB r t):=pe_callTy hc hg hm hv ha hn hdb (se_of he) (qhq9 hpl)
end
structure Callee (P:Program) (w:World) (K:W.Frag) (mg:Str->Option Value) (base:Heap) (k:Nat) (x:Str) (ps:List Str) (sp:Sp):Prop where
 ex:∃ (f:Addr) (fd:FuncData),FnOk P w K mg base CX0 k f fd ps sp/\Binds K fd ps []/\W.keepIn K (.ref f)=true/\mg x=some (.ref f)
theorem Callee.up {P:Program} {w:World} {K:W.Frag} {mg:Str->Option Value} {base:Heap} {j k:Nat} {x:Str} {ps:List Str} {sp:Sp} (C:Callee P w K mg base j x ps sp) (h:j<=k):Callee P w K mg base k x ps sp:=by
 obtain ⟨f,fd,G,b,kp,m⟩:=C.ex
 exact ⟨f,fd,G.mono h,b,kp,m⟩
theorem Callee.mk' {P:Program} {w:World} {K:W.Frag} {mg:Str->Option Value} {base:Heap} {k:Nat} {x:Str} {ps:List Str} {sp:Sp} {f:Addr} {fd:FuncData} (G:FnOk P w K mg base CX0 k f fd ps sp) (b:Binds K fd ps []) (kp:W.keepIn K (.ref f)=true) (m:mg x=some (.ref f)):Callee P w K mg base k x ps sp:=⟨f,fd,G,b,kp,m⟩
section
variable {X:Cx} {k:Nat} {x:Str} {ps:List Str} {sp:Sp} {e:Expr} {es:List Expr} {t:TA} {p pos:Pos}
theorem pe_fn (C:Callee X.prog X.w X.K X.mg X.base k x ps sp) (hr:Room k X.A) (hg:Gl X x) (ha:PA X (e :: es) t) (hdb:(x == ("__debug__" : Str))=false:=by decide)
  (he:qbi9 e=true:=by rfl) (hpl:es.all qbi9=true:=by rfl) :
  PE X (.Call (.Name x p) (e :: es) [] pos) (tCall sp [] E0 t):=by
 obtain ⟨f,fd,G,b,kp,m⟩:=C.ex
 exact pe_call G hr hg m kp b .nil pass0 ha hdb (se_of he) (qhq9 hpl)
end
noncomputable def CDivB (_ j:Int):Prop:=0 < j/\j < 1606938044258990275541962092341162602522202993782792835301376
section
variable {X:Cx}
theorem op_fdivB:OpR X (binaryOp .FloorDiv) (rI CDivB fun i j=>.int (i / j)):=opI fun i j _ _ _ _ _ hc q=>by
 have h1:(0:Int) < j:=hc.1
 have h2:=hc.2
 refine floordiv_int (by omega) (by rw [Int.fdiv_eq_ediv_of_nonneg i (by omega)]; exact q) (.inl (PyProof.noPylong_of_log2 ?_))
 have h0:j.natAbs ≠ 0:=by omega
 have h3:j.natAbs < 2 ^ 200:=by
  have e:(2:Nat) ^ 200=1606938044258990275541962092341162602522202993782792835301376:=by decide +kernel
  rw [e]
  omega
 have:=(Nat.log2_lt h0).mpr h3
 omega
theorem call_isi:CallR X (.builtin "isinstance") (fun xs H Q=>∃ x T t b,xs=[x,.ty T]/\TyOf X.K H x t/\W.kitOne X.K t (.type T)=some b/\Q (.bl b) H):=by
 intro pins s σ H xs us Q I r h
 obtain ⟨x,T,t,b,rfl,ty,hk,q⟩:=h
 obtain ⟨u,v,rfl,r1,r2⟩:=Vals.two r
 cases (show v=Value.type T from r2)
 exact isinst_ok I r1 ty hk fun tk=>⟨.bl b,H,I.tok tk,rfl,q⟩
end
noncomputable def blk (X:Cx) (N':List Str) (scope:Scope) (cl:List (Str × Addr)) (C:Addr) (s0:Shared) (H0:Hp) (fp:List Addr):Cx :=
 { X with N:=N',s₀:=s0,H₀:=H0,env:=compEnvC scope cl C X.env,outer:=X.stack,ex:=fp,fn:=fun _=>false,pn:=[],xe:=fun _ _=>False }
noncomputable def seen (caps:List (Option Nat)) (σ:St):St:=caps.map fun o=>o.bind fun j=>(σ[j]?).join
structure BlkOk (X:Cx) (N':List Str) (scope:Scope) (cl:List (Str × Addr)) (caps:List (Option Nat)):Prop where
 clos:closureFor scope X.env=pure cl
 nocell:∀ y∈scope.names,y.2 ≠ .cell
 kind:scope.kind=.function
 names:∀ y∈scope.names,y.2=.local->scope.names.lookup y.1=some .local
 sub:∀ x c,cl.lookup x=some c->X.env.cells.lookup x=some c
 has:∀ x,((relabel scope X.env).names.lookup x=some .cell\/(relabel scope X.env).names.lookup x=some .free)->∃ c,cl.lookup x=some c
 len:caps.length=N'.length
 cap:∀ (i j:Nat) (x:Str),caps[i]?=some (some j)->N'[i]?=some x->X.N[j]?=some x/\(X.env.kindOf x=some .cell\/X.env.kindOf x=some .free)/\((relabel scope X.env).names.lookup x=some .cell\/(relabel scope X.env).names.lookup x=some .free)
theorem qff9 {a:Addr} {h h':Heap} (x:Heap.SameBut a h h') {b:Addr} {o:Obj} (n:b ≠ a) (e:h.get? b=some o):h'.get? b=some o:=x.extBut b o n e
section
variable {X:Cx} {N':List Str} {scope:Scope} {cl:List (Str × Addr)} {caps:List (Option Nat)} {pins:List (Addr × Obj)} {σ:St} {H:Hp} {s:Shared} {fp:List Addr}
theorem blk_inv (B:BlkOk X N' scope cl caps) (I:Inv X pins σ H s) (hf:∀ b∈fp,FpOk X pins H b) {h1:Heap} {m:Str->Option Value} (hn:h1.Ns s.heap.objs.size m) (hk:∀ b o,s.heap.get? b=some o->h1.get? b=some o) {tk:Nat}
  (hfp:∀ b∈fp,b < s.heap.objs.size):Inv (blk X N' scope cl s.heap.objs.size s H fp) [] (seen caps σ) H { s with heap:=h1,toks:=tk }:=by
 have bsz:X.base.objs.size<=s.heap.objs.size:=Nat.le_trans I.ok.bsz I.sz
 refine ⟨⟨I.ok.mod,B.kind,I.ok.glob,I.ok.blt,Nat.le_refl _,fun x y c e1 e2=>I.ok.inj x y c (B.sub x c e1) (B.sub y c e2),B.has,fun _ _ z=>(nomatch z),I.ok.hd,I.ok.frames,.inl rfl,fun b hb=>⟨Nat.ne_of_lt (hfp b hb),fun x c e=>(hf b hb).2.2.2.2.1 x c (B.sub x c e)⟩,
   I.bs,bsz,fun b o e hb=>?_,fun b hb z=>?_,I.stack,I.stkFree⟩,rfl,I.bare,Un.kept hk,⟨m,hn,fun i x v e1 e2 _=>?_⟩,fun x c e=>?_,I.hok.fresh (Nat.le_refl _),fun x c e=>I.freeC x c (B.sub x c e),fun p hp=>absurd (show p∈([]:List (Addr × Obj)) from hp) (by simp),I.hok.kept hk,?_⟩
 ·obtain ⟨_,_,_,z,_⟩:=hf b hb
  rcases z with z | z
  ·exact I.ok.noex b o e z
  ·exact absurd (Nat.lt_of_lt_of_le (Heap.lt_size e) (Nat.le_trans I.ok.bsz z)) (Nat.lt_irrefl _)
 ·obtain ⟨_,z1,z2,_⟩:=hf b hb
  rcases List.mem_cons.mp (I.stkSub b z) with e | e
  ·exact z1 e
  ·exact z2 e
 ·have e2':(seen caps σ)[i]?=some (some v):=e2
  unfold seen at e2'
  rw [List.getElem?_map] at e2'
  cases ec:caps[i]? with
  | none=>rw [ec] at e2'; cases e2'
  | some oj =>
   rw [ec] at e2'
   have e3:(oj.bind fun j=>(σ[j]?).join)=some v:=Option.some.inj e2'
   cases oj with
   | none=>cases e3
   | some j =>
    obtain ⟨c1,c2,c3⟩:=B.cap i j x ec e1
    have e4:σ[j]?=some (some v):=by
     have e5:(σ[j]?).join=some v:=e3
     cases ej:σ[j]? with
     | none=>rw [ej] at e5; cases e5
     | some ov =>
      rw [ej] at e5
      cases ov with
      | none=>cases e5
      | some v'=>exact congrArg some e5
    obtain ⟨m0,hn0,hl⟩:=I.loc
    obtain ⟨u,ru,lk⟩:=hl j x v c1 e4 (by
     rcases c2 with z | z
     ·exact .inr (.inl z)
     ·exact .inr (.inr z))
    refine ⟨u,ru,.inr ⟨c3,?_⟩⟩
    obtain ⟨c,ecl⟩:=B.has x c3
    refine ⟨c,ecl,?_⟩
    rcases lk with ⟨z,_⟩ | ⟨_,c',e',⟨oc,q1,q2⟩⟩
    ·rcases c2 with y | y
     ·rw [y] at z; cases z
     ·rw [y] at z; cases z
    ·have ee:c'=c:=Option.some.inj (e'.symm.trans (B.sub x c ecl))
     subst ee
     exact ⟨oc,hk _ _ q1,q2⟩
 ·obtain ⟨v,o,q1,q2⟩:=I.cell x c (B.sub x c e)
  exact ⟨v,o,hk _ _ q1,q2⟩
 ·show (seen caps σ).length=N'.length
  unfold seen
  rw [List.length_map]
  exact B.len
theorem blk_end (I:Inv X pins σ H s) (hf:∀ b∈fp,FpOk X pins H b) (hfp:∀ b∈fp,b < s.heap.objs.size) {σ':St} {H':Hp} {s':Shared} (J:Inv (blk X N' scope cl s.heap.objs.size s H fp) [] σ' H' s') {h':Heap}
  (sb:Heap.SameBut s.heap.objs.size s'.heap h'):Inv X pins σ H' { s' with heap:=h' }:=by
 have hC:∀ b o,s.heap.get? b=some o->b ≠ s.heap.objs.size:=fun b o e=>Nat.ne_of_lt (Heap.lt_size e)
 have u:=J.base
 have u':Un (frs X.stack) fp H H' s.heap h':=by
  refine ⟨fun b o e n hb hx=>qff9 sb (hC b o e) (u.keep b o e n hb hx),fun b o e n hb hx=>?_,u.free,fun b o e hx=>?_,u.tups,u.frzs,u.tbls⟩
  ·obtain ⟨sl,q⟩:=u.slot b o e n hb hx
   exact ⟨sl,qff9 sb (hC b o e) q⟩
  ·obtain ⟨o',q⟩:=u.there b o e hx
   exact ⟨o',qff9 sb (hC b o e) q⟩
 have nC:H' s.heap.objs.size=none:=J.free
 have hok:HOk X.prog X.w H' h':=fun b o e=>by
  refine (J.hok b o e).stay (fun c v hc q=>qff9 sb ?_ q) (fun _ q=>q) fun _ _ q=>q
  rcases hc with z | z
  ·intro z'
   rw [z] at z'
   rw [z',nC] at e
   cases e
  ·intro z'
   rw [z',nC] at z
   cases z
 obtain ⟨hh,g,d,t,os'⟩:=s'
 obtain rfl:os'=s.os:=J.os
 show Inv X pins σ H' { s with heap:=h',gens:=g,drawn:=d,toks:=t }
 refine Inv.call (s:=s) (h':=h') (g':=g) (d':=d) (t':=t) (ch:=fp) I u' hok J.bare fun b hb=>?_
 obtain ⟨_,z1,_,z3,z4,z5⟩:=hf b hb
 exact ⟨z3,z1,z4,z5⟩
noncomputable def cBody (caps:List (Option Nat)) (g:TG) (tt:TT) (te:TE) (σ:St) (Q:VK) (J:It) (H1:Hp):Prop:=∀ D,H1 D=none->∃ W:Nat->Nat->Hp->Prop,(∃ m,W 0 m (upd H1 D (.lst [])))/\∀ i m H2,W i m H2 ->
 (J.stop i H2/\Q (.ref D) H2)\/(J.go i H2/\∃ N:Hp->Prop,(∀ H',N H'->∃ m',m' < m/\W (i+1) m' H')/\∀ x H3,J.yld i H2 x H3->g x (seen caps σ) H3 fun σ4 H4=>(∀ (k:Nat) v,(seen caps σ)[k]?=some (some v)->σ4[k]?=some (some v))/\tt σ4 H4 fun b H5 =>
  if b=true then te σ4 H5 fun y H6=>∃ ys,H6 D=some (.lst ys)/\ys.length < sizeLine/\N (upd H6 D (.lst (ys ++ [y]))) else N H5)
noncomputable def tComp (wi:TI) (caps:List (Option Nat)) (g:TG) (tt:TT) (te:TE):TE:=fun σ H Q=>wi σ H (cBody caps g tt te σ Q)
noncomputable def tTrue:TT:=fun _ H Q=>Q true H
section
variable {tg iter elt:Expr} {wi:TI} {g:TG} {te:TE} {tt:TT} {pos:Pos} {Q:VK}
theorem qgc9 {J:It} {it:Addr} {tn:Nat->Heap->Prop} {H0:Hp} {C:Addr} (T:Turn X.prog X.w X.K tg J fp it tn) {s7 s9:Shared} {i n:Nat} {W:Nat->Nat->Hp->Prop} {N:Hp->Prop} (hN:∀ H',N H'->∃ m',m' < n/\W (i+1) m' H')
  (st7:tn (i+1) s7.heap) {σ8:St} {H9:Hp} (I9:Inv (blk X N' scope cl C s H0 fp) ([] ++ qog9 fp s7.heap) σ8 H9 s9) (kp:∀ (k:Nat) v,(seen caps σ)[k]?=some (some v)->σ8[k]?=some (some v)) (hl:(seen caps σ).length=σ8.length) (n9:N H9) :
  ∃ m,m < n/\∃ j H',Inv (blk X N' scope cl C s H0 fp) [] (seen caps σ) H' s9/\tn j s9.heap/\(∀ b∈fp,H' b=none)/\W j m H':=by
 obtain ⟨m',hm,w7⟩:=hN H9 n9
 refine ⟨m',hm,i+1,H9,(I9.unpinned).weak hl kp,T.keep _ _ _ st7 fun b hb o e=>(I9.pin (b,o) (List.mem_append_right _ (List.mem_append_right _ (qfg9 hb e)))).1,fun b hb=>?_,w7⟩
 obtain ⟨o,e,d⟩:=T.obj _ _ st7 b hb
 exact (I9.pin (b,o) (List.mem_append_right _ (List.mem_append_right _ (qfg9 hb e)))).2.1
theorem pe_comp (B:BlkOk X N' scope cl caps) (hc:X.calm=true) (hi:PI X tg iter wi) (hg:∀ C s0 H0 fp,PG (blk X N' scope cl C s0 H0 fp) tg g) (he:∀ C s0 H0 fp,PE (blk X N' scope cl C s0 H0 fp) elt te)
  (hs:∀ x,foldedSetIterable iter X.env x=pure x:=by intro _; rfl):PE X (.ListComp elt [⟨tg,iter,[],0⟩] scope pos) (tComp wi caps g tTrue te):=by
 intro pins s σ H Q I h
 rw [eval_ListComp]
 refine wpAny_comprehension_free (use:=none) rfl hs B.clos B.kind B.names ?_
 refine thn (hi pins s σ H _ I h) fun v s1 h1=>thn h1 fun itv s2 h2=>?_
 obtain ⟨it,fp,tn,J,H2,rfl,I2,T,st2,f2,q2⟩:=h2
 have fpl:∀ b∈fp,b < s2.heap.objs.size:=fun b hb=>by
  obtain ⟨o,e,_⟩:=T.obj _ _ st2 b hb
  exact Heap.lt_size e
 obtain ⟨W,⟨m0,w0⟩,turn⟩:=q2 s2.heap.objs.size (I2.hok.fresh (Nat.le_refl _))
 refine wpAny_newObj_type ?_
 have I3:Inv X pins σ (upd H2 s2.heap.objs.size (.lst [])) { s2 with heap:=s2.heap.push { cls:=.type "list",data:=.seq ([]:List Value).toArray } } :=
  I2.laid (t':=s2.toks) (fun b u e=>Heap.get?_push_of_some _ e) (Nat.le_refl _) ⟨Nat.zero_le _,[],0,.nil,Heap.get?_push_size _ rfl⟩
 generalize hs3:({ s2 with heap:=s2.heap.push { cls:=.type "list",data:=.seq ([]:List Value).toArray } }:Shared)=s3 at I3
 have k23:∀ b o,s2.heap.get? b=some o->s3.heap.get? b=some o:=fun b o e=>by rw [<- hs3]; exact Heap.get?_push_of_some _ e
 have fpl3:∀ b∈fp,b < s3.heap.objs.size:=fun b hb=>by
  obtain ⟨o,e,_⟩:=T.obj _ _ st2 b hb
  exact Heap.lt_size (k23 b o e)
 have f3:∀ b∈fp,FpOk X pins (upd H2 s2.heap.objs.size (.lst [])) b:=fun b hb=>⟨by rw [qao9 (Nat.ne_of_lt (fpl b hb))]; exact (f2 b hb).1,(f2 b hb).2⟩
 refine wpAny_newFunctionEnv B.nocell (by intro y hy; simp at hy) (fun h1 hn1 sb1=>?_) B.kind
 have k31:∀ b o,s3.heap.get? b=some o->h1.get? b=some o:=fun b o e=>sb1.extBut b o (Nat.ne_of_lt (Heap.lt_size e)) (Heap.get?_push_of_some _ e)
 have J0:=blk_inv (fp:=fp) (tk:=s3.toks+([]:List (Str × Value)).length) B I3 f3 hn1 k31 fpl3
 have st1:tn 0 h1:=T.keep _ _ _ st2 fun b _ o e=>k31 b o (k23 b o e)
 have loop:codeAny (model X.prog X.w) X.A (.compLoop (.ListComp elt [⟨tg,iter,[],0⟩] scope pos) 0 (.ref it) (.ref s2.heap.objs.size) (blk X N' scope cl s3.heap.objs.size s3 (upd H2 s2.heap.objs.size (.lst [])) fp).env)
   (compPost (model X.prog X.w) X.A X.xe none (EP X pins σ Q) (.ref s2.heap.objs.size) s3.heap.objs.size) { s3 with heap:=h1,toks:=s3.toks+([]:List (Str × Value)).length }:=by
  refine codeAny_loop rfl (fun n s'=>∃ i H',Inv (blk X N' scope cl s3.heap.objs.size s3 (upd H2 s2.heap.objs.size (.lst [])) fp) [] (seen caps σ) H' s'/\tn i s'.heap/\(∀ b∈fp,H' b=none)/\W i n H') (fun n s5 hI=>?_) m0
   ⟨0,_,J0,st1,fun b hb=>(f3 b hb).1,w0⟩
  obtain ⟨i,H5,I5,st5,fr5,w5⟩:=hI
  show wpAny _ _ ((compTurn (.ListComp elt [⟨tg,iter,[],0⟩] scope pos) 0 (.ref it) (.ref s2.heap.objs.size) (blk X N' scope cl s3.heap.objs.size s3 (upd H2 s2.heap.objs.size (.lst [])) fp).env).onRaise (fun x=>do noteFrame x (blk X N' scope cl s3.heap.objs.size s3 (upd H2 s2.heap.objs.size (.lst [])) fp).env; theTreesLotGoes x)) _ _ s5
  refine wpAny_noted ?_
  rw [compTurn_list1]
  have ff:∀ {H':Hp},(∀ b∈fp,H' b=none)->∀ b∈fp,FpOk (blk X N' scope cl s3.heap.objs.size s3 (upd H2 s2.heap.objs.size (.lst [])) fp) [] H' b:=fun {H'} hn b hb =>
   ⟨hn b hb,(J0.ok.exf b hb).1,J0.ok.exfs b hb,.inl hb,fun x c e=>(J0.ok.exf b hb).2 x c e,fun p hp=>absurd (show p∈([]:List (Addr × Obj)) from hp) (by simp)⟩
  rcases turn i n H5 w5 with ⟨stop,qn⟩ | ⟨go,N,hN,step⟩
  ·refine wpAny_bind (wpAny_standAt (wpAny_bind (thn (T.done (blk X N' scope cl s3.heap.objs.size s3 (upd H2 s2.heap.objs.size (.lst [])) fp) rfl rfl rfl hc i [] s5 _ H5 _ I5 (ff fr5) st5 stop) fun r s6 ⟨hr,I6⟩=>?_)))
   subst hr
   refine wpAny_pure ?_
   obtain ⟨m,hn,_⟩:=id I6.loc
   exact ⟨m,hn,fun h' sb=>⟨.ref s2.heap.objs.size,H5,blk_end I3 f3 fpl3 I6 sb,rfl,qn⟩⟩
  ·refine wpAny_bind (wpAny_standAt (wpAny_bind (thn (T.item (blk X N' scope cl s3.heap.objs.size s3 (upd H2 s2.heap.objs.size (.lst [])) fp) rfl rfl rfl hc i [] s5 _ H5 _ I5 (ff fr5) st5 go) fun r s6 ⟨u,hr,h6⟩=>?_)))
   subst hr
   refine wpAny_bind (thn h6 fun _ s7 ⟨x,H7,I7,r7,y7,st7,fr7⟩=>?_)
   have I7':=I7.pinned (ff fr7) (T.obj _ _ st7)
   refine wpAny_bind (wpAny_mono (hg _ _ _ _ _ s7 _ H7 x u _ I7' r7 (step x H7 y7)) (fun _ s8 ⟨σ8,H8,I8,kp,q8⟩=>?_) fun _ _ f=>f.elim)
   have q8':te σ8 H8 fun y H6=>∃ ys,H6 s2.heap.objs.size=some (.lst ys)/\ys.length < sizeLine/\N (upd H6 s2.heap.objs.size (.lst (ys ++ [y]))):=by
    have z:=q8
    unfold tTrue at z
    dsimp only at z
    rw [if_pos rfl] at z
    exact z
   refine wpAny_bind (wpAny_bind (wpAny_mono (he _ _ _ _ _ s8 σ8 H8 _ I8 q8') (fun y s9 ⟨y',H9,I9,r9,ys,hD,hl,n9⟩=>?_) fun _ _ f=>f.elim))
   refine wpAny_bind (wpAny_mono (qhw9 (X:=blk X N' scope cl s3.heap.objs.size s3 (upd H2 s2.heap.objs.size (.lst [])) fp) _ s9 σ8 H9 (.ref s2.heap.objs.size) [y'] (.ref s2.heap.objs.size) [y] (fun _ H'=>N H') I9 rfl (.cons r9 .nil) ⟨_,ys,y',rfl,rfl,hD,hl,n9⟩) (fun _ s10 ⟨_,H10,I10,_,n10⟩=>?_) fun _ _ f=>f.elim)
   exact wpAny_pure (wpAny_pure ⟨rfl,qgc9 T hN st7 I10 kp (I5.len.trans I10.len.symm) n10⟩)
 exact codeAny_compStart_list loop (T.self X.A 0 _ _ _ st1 loop)
theorem pe_compIf {c:Expr} (B:BlkOk X N' scope cl caps) (hc:X.calm=true) (hi:PI X tg iter wi) (hg:∀ C s0 H0 fp,PG (blk X N' scope cl C s0 H0 fp) tg g) (ht:∀ C s0 H0 fp,PT (blk X N' scope cl C s0 H0 fp) c tt)
  (he:∀ C s0 H0 fp,PE (blk X N' scope cl C s0 H0 fp) elt te) (hs:∀ x,foldedSetIterable iter X.env x=pure x:=by intro _; rfl):PE X (.ListComp elt [⟨tg,iter,[c],0⟩] scope pos) (tComp wi caps g tt te):=by
 intro pins s σ H Q I h
 rw [eval_ListComp]
 refine wpAny_comprehension_free (use:=none) rfl hs B.clos B.kind B.names ?_
 refine thn (hi pins s σ H _ I h) fun v s1 h1=>thn h1 fun itv s2 h2=>?_
 obtain ⟨it,fp,tn,J,H2,rfl,I2,T,st2,f2,q2⟩:=h2
 have fpl:∀ b∈fp,b < s2.heap.objs.size:=fun b hb=>by
  obtain ⟨o,e,_⟩:=T.obj _ _ st2 b hb
  exact Heap.lt_size e
 obtain ⟨W,⟨m0,w0⟩,turn⟩:=q2 s2.heap.objs.size (I2.hok.fresh (Nat.le_refl _))
 refine wpAny_newObj_type ?_
 have I3:Inv X pins σ (upd H2 s2.heap.objs.size (.lst [])) { s2 with heap:=s2.heap.push { cls:=.type "list",data:=.seq ([]:List Value).toArray } } :=
  I2.laid (t':=s2.toks) (fun b u e=>Heap.get?_push_of_some _ e) (Nat.le_refl _) ⟨Nat.zero_le _,[],0,.nil,Heap.get?_push_size _ rfl⟩
 generalize hs3:({ s2 with heap:=s2.heap.push { cls:=.type "list",data:=.seq ([]:List Value).toArray } }:Shared)=s3 at I3
 have k23:∀ b o,s2.heap.get? b=some o->s3.heap.get? b=some o:=fun b o e=>by rw [<- hs3]; exact Heap.get?_push_of_some _ e
 have fpl3:∀ b∈fp,b < s3.heap.objs.size:=fun b hb=>by
  obtain ⟨o,e,_⟩:=T.obj _ _ st2 b hb
  exact Heap.lt_size (k23 b o e)
 have f3:∀ b∈fp,FpOk X pins (upd H2 s2.heap.objs.size (.lst [])) b:=fun b hb=>⟨by rw [qao9 (Nat.ne_of_lt (fpl b hb))]; exact (f2 b hb).1,(f2 b hb).2⟩
 refine wpAny_newFunctionEnv B.nocell (by intro y hy; simp at hy) (fun h1 hn1 sb1=>?_) B.kind
 have k31:∀ b o,s3.heap.get? b=some o->h1.get? b=some o:=fun b o e=>sb1.extBut b o (Nat.ne_of_lt (Heap.lt_size e)) (Heap.get?_push_of_some _ e)
 have J0:=blk_inv (fp:=fp) (tk:=s3.toks+([]:List (Str × Value)).length) B I3 f3 hn1 k31 fpl3
 have st1:tn 0 h1:=T.keep _ _ _ st2 fun b _ o e=>k31 b o (k23 b o e)
 have loop:codeAny (model X.prog X.w) X.A (.compLoop (.ListComp elt [⟨tg,iter,[c],0⟩] scope pos) 0 (.ref it) (.ref s2.heap.objs.size) (blk X N' scope cl s3.heap.objs.size s3 (upd H2 s2.heap.objs.size (.lst [])) fp).env)
   (compPost (model X.prog X.w) X.A X.xe none (EP X pins σ Q) (.ref s2.heap.objs.size) s3.heap.objs.size) { s3 with heap:=h1,toks:=s3.toks+([]:List (Str × Value)).length }:=by
  refine codeAny_loop rfl (fun n s'=>∃ i H',Inv (blk X N' scope cl s3.heap.objs.size s3 (upd H2 s2.heap.objs.size (.lst [])) fp) [] (seen caps σ) H' s'/\tn i s'.heap/\(∀ b∈fp,H' b=none)/\W i n H') (fun n s5 hI=>?_) m0
   ⟨0,_,J0,st1,fun b hb=>(f3 b hb).1,w0⟩
  obtain ⟨i,H5,I5,st5,fr5,w5⟩:=hI
  show wpAny _ _ ((compTurn (.ListComp elt [⟨tg,iter,[c],0⟩] scope pos) 0 (.ref it) (.ref s2.heap.objs.size) (blk X N' scope cl s3.heap.objs.size s3 (upd H2 s2.heap.objs.size (.lst [])) fp).env).onRaise (fun x=>do noteFrame x (blk X N' scope cl s3.heap.objs.size s3 (upd H2 s2.heap.objs.size (.lst [])) fp).env; theTreesLotGoes x)) _ _ s5
  refine wpAny_noted ?_
  rw [compTurn_list]
  have ff:∀ {H':Hp},(∀ b∈fp,H' b=none)->∀ b∈fp,FpOk (blk X N' scope cl s3.heap.objs.size s3 (upd H2 s2.heap.objs.size (.lst [])) fp) [] H' b:=fun {H'} hn b hb =>
   ⟨hn b hb,(J0.ok.exf b hb).1,J0.ok.exfs b hb,.inl hb,fun x c e=>(J0.ok.exf b hb).2 x c e,fun p hp=>absurd (show p∈([]:List (Addr × Obj)) from hp) (by simp)⟩
  rcases turn i n H5 w5 with ⟨stop,qn⟩ | ⟨go,N,hN,step⟩
  ·refine wpAny_bind (wpAny_standAt (wpAny_bind (thn (T.done (blk X N' scope cl s3.heap.objs.size s3 (upd H2 s2.heap.objs.size (.lst [])) fp) rfl rfl rfl hc i [] s5 _ H5 _ I5 (ff fr5) st5 stop) fun r s6 ⟨hr,I6⟩=>?_)))
   subst hr
   refine wpAny_pure ?_
   obtain ⟨m,hn,_⟩:=id I6.loc
   exact ⟨m,hn,fun h' sb=>⟨.ref s2.heap.objs.size,H5,blk_end I3 f3 fpl3 I6 sb,rfl,qn⟩⟩
  ·refine wpAny_bind (wpAny_standAt (wpAny_bind (thn (T.item (blk X N' scope cl s3.heap.objs.size s3 (upd H2 s2.heap.objs.size (.lst [])) fp) rfl rfl rfl hc i [] s5 _ H5 _ I5 (ff fr5) st5 go) fun r s6 ⟨u,hr,h6⟩=>?_)))
   subst hr
   refine wpAny_bind (thn h6 fun _ s7 ⟨x,H7,I7,r7,y7,st7,fr7⟩=>?_)
   have I7':=I7.pinned (ff fr7) (T.obj _ _ st7)
   refine wpAny_bind (wpAny_mono (hg _ _ _ _ _ s7 _ H7 x u _ I7' r7 (step x H7 y7)) (fun _ s8 ⟨σ8,H8,I8,kp,q8⟩=>?_) fun _ _ f=>f.elim)
   refine wpAny_bind (wpAny_tests_one (wpAny_mono (ht _ _ _ _ _ s8 σ8 H8 _ I8 q8) (fun b s9 ⟨H9,I9,q9⟩=>?_) fun _ _ f=>f.elim))
   cases b with
   | false =>
    rw [if_neg Bool.false_ne_true] at q9
    exact wpAny_pure ⟨rfl,qgc9 T hN st7 I9 kp (I5.len.trans I9.len.symm) q9⟩
   | true =>
    rw [if_pos rfl] at q9
    refine wpAny_bind (wpAny_bind (wpAny_mono (he _ _ _ _ _ s9 σ8 H9 _ I9 q9) (fun y s10 ⟨y',H10,I10,r10,ys,hD,hl,n10⟩=>?_) fun _ _ f=>f.elim))
    refine wpAny_bind (wpAny_mono (qhw9 (X:=blk X N' scope cl s3.heap.objs.size s3 (upd H2 s2.heap.objs.size (.lst [])) fp) _ s10 σ8 H10 (.ref s2.heap.objs.size) [y'] (.ref s2.heap.objs.size) [y] (fun _ H'=>N H') I10 rfl (.cons r10 .nil) ⟨_,ys,y',rfl,rfl,hD,hl,n10⟩) (fun _ s11 ⟨_,H11,I11,_,n11⟩=>?_) fun _ _ f=>f.elim)
    exact wpAny_pure (wpAny_pure ⟨rfl,qgc9 T hN st7 I11 kp (I5.len.trans I11.len.symm) n11⟩)
 exact codeAny_compStart_list loop (T.self X.A 0 _ _ _ st1 loop)
end
end
section
variable {X:Cx} {a b c d:Expr} {ta tb tc td:TE} {pos:Pos}
noncomputable def tChain3 (r r' r'':R2) (ta tb tc td:TE):TE:=fun σ H Q=>ta σ H fun x H1=>tb σ H1 fun y H2=>r x y H2 fun z H3=>∃ k,z=.bl k /\
 (if k=true then tc σ H3 fun w' H4=>r' y w' H4 fun z' H5=>∃ k',z'=.bl k'/\(if k'=true then td σ H5 fun w2 H6=>r'' w' w2 H6 Q else Q (.bl false) H5) else Q (.bl false) H3)
theorem pe_chain3 {op op' op'':CmpOp} {r r' r'':R2} (ho:OpR X (compareOp op) r) (ho':OpR X (compareOp op') r') (ho'':OpR X (compareOp op'') r'') (ha:PE X a ta) (hb:PE X b tb) (hc:PE X c tc) (hd:PE X d td)
  (hm:lastMarks [op,op',op''] [b,c,d]=false:=by with_unfolding_all rfl):PE X (.Compare a [op,op',op''] [b,c,d] pos) (tChain3 r r' r'' ta tb tc td):=by
 intro pins s σ H Q I h
 refine Compare_chain (thn (ha pins s σ H _ I h) fun v s1 ⟨x,H1,I1,r1,q1⟩=>chain_link (thn (hb pins s1 σ H1 _ I1 q1) fun u s2 ⟨y,H2,I2,r2,q2⟩ =>
  thn (ho pins s2 σ H2 x y v u _ I2 r1 r2 q2) fun d s3 ⟨z,H3,I3,r3,k,e,q3⟩=>?_)) hm
 subst e
 cases r3
 refine wpAny_truthy_bool ?_
 cases k with
 | false=>exact ite_ff ⟨.bl false,H3,I3,rfl,q3⟩
 | true =>
  refine ite_tt (chain_link (thn (hc pins s3 σ H3 _ I3 q3) fun w' s4 ⟨z',H4,I4,r4,q4⟩=>thn (ho' pins s4 σ H4 y z' u w' _ I4 r2 r4 q4) fun d' s5 ⟨z2,H5,I5,r5,k2,e2,q5⟩=>?_))
  subst e2
  cases r5
  refine wpAny_truthy_bool ?_
  cases k2 with
  | false=>exact ite_ff ⟨.bl false,H5,I5,rfl,q5⟩
  | true=>exact ite_tt (chain_last (thn (hd pins s5 σ H5 _ I5 q5) fun w2 s6 ⟨z3,H6,I6,r6,q6⟩=>ho'' pins s6 σ H6 z' z3 w' w2 Q I6 r4 r6 q6))
theorem vals_bl {bs:List Bool} {its:List Value} (r:Vals (bs.map V.bl) its) {i:Nat} {v:Value} (h:its[i]?=some v):∃ k,bs[i]?=some k/\v=.bool k:=by
 have hl:=r.length
 rw [List.length_map] at hl
 have hi:i < bs.length:=by
  have:=(List.getElem?_eq_some_iff.mp h).1
  omega
 obtain ⟨u,hu,ru⟩:=r.get (i:=i) (x:=.bl bs[i]) (by rw [List.getElem?_map,List.getElem?_eq_getElem hi]; rfl)
 rw [h] at hu
 cases hu
 exact ⟨bs[i],List.getElem?_eq_getElem hi,ru⟩
theorem all_range (bs:List Bool):((List.range bs.length).all fun i=>(bs[i]?).getD true)=bs.all id:=by
 rw [Bool.eq_iff_iff,List.all_eq_true,List.all_eq_true]
 constructor
 ·intro h x hx
  obtain ⟨i,hi,e⟩:=List.mem_iff_getElem.mp hx
  have:=h i (List.mem_range.mpr hi)
  rw [List.getElem?_eq_getElem hi,e] at this
  exact this
 ·intro h i hi
  have hi':=List.mem_range.mp hi
  rw [List.getElem?_eq_getElem hi']
  exact h _ (List.getElem_mem hi')
theorem call_all (hc:X.calm=true):CallR X (.builtin "all") (fun xs H Q=>∃ (p:Addr) (bs:List Bool),xs=[.ref p]/\SqL X.K H p (bs.map V.bl)/\Q (.bl (bs.all id)) H):=by
 intro pins s σ H xs us Q I r h
 obtain ⟨p,bs,rfl,hS,q⟩:=h
 obtain ⟨u,rfl,ru⟩:=vals1 r
 cases ru
 obtain ⟨its,rv,pl,hz⟩:=I.list hS
 have hl:=pl.isList
 have hlt:p < s.heap.objs.size:=by obtain ⟨_,e,_⟩:=hl; exact Heap.lt_size e
 refine call_all_walk (wpAny_pyIter_list hl ?_)
 refine ⟨s.heap.objs.size,[s.heap.objs.size,p],[s.heap.objs.size],its.toArray.size,_,_,fun i=>(bs[i]?).getD true,rfl,Walks.list (A:=X.A.in1) (I.ok.hd hc) _ p (Nat.ne_of_lt hlt) its.toArray,
  ⟨⟨_,Heap.get?_push_size _ rfl,rfl,rfl⟩,hl.push _⟩,fun i v s' Q' E' hP hQ=>?_,fun h' tk hk=>?_⟩
 ·obtain ⟨k,e,rfl⟩:=vals_bl rv (i:=i) (v:=v) (by simpa using hP)
  simp only [e,Option.getD_some] at hQ
  exact wpAny_truthy_bool hQ
 ·have e:((List.range its.toArray.size).all fun i=>(bs[i]?).getD true)=bs.all id:=by
   have hl2:=rv.length
   rw [List.length_map] at hl2
   rw [List.size_toArray,<- hl2]
   exact all_range bs
  rw [e]
  have keep:∀ b x,s.heap.get? b=some x->h'.get? b=some x:=fun b x e=>hk b x (fun hm=>by rw [List.mem_singleton.mp hm] at e; exact Nat.lt_irrefl _ (Heap.lt_size e)) (Heap.get?_push_of_some _ e)
  exact ⟨.bl (bs.all id),H,I.kept (t':=tk) keep,rfl,q⟩
end
section
variable {X:Cx} {st:Stmt} {rest:List Stmt} {t u:TS} {e:Expr} {te:TE} {tt:TT}
noncomputable def tCut (t u:TS):TS:=fun D σ H=>∃ M:St->Hp->Prop,t { D with nx:=M } σ H/\∀ σ' H',M σ' H'->u D σ' H'
theorem pss_cut (h1:PS X st t) (h2:PSs X rest u):PSs X (st :: rest) (tCut t u):=by
 intro pins s σ H D I h
 obtain ⟨M,h,hM⟩:=h
 refine wpAny_execs_cons (thn (h1 pins s σ H { D with nx:=M } I h) fun f s1 q=>?_)
 cases f with
 | next =>
  obtain ⟨σ',H',I',q⟩:=q
  exact h2 pins s1 σ' H' D I' (hM σ' H' q)
 | ret v=>exact q
 | brk=>exact q
 | cont=>exact q
noncomputable def tCutE (t:TE):TE:=fun σ H Q=>∃ M:V->Hp->Prop,t σ H M/\∀ v H',M v H'->Q v H'
theorem pe_cut (h:PE X e te):PE X e (tCutE te):=by
 intro pins s σ H Q I q
 obtain ⟨M,q,hM⟩:=q
 exact thn (h pins s σ H M I q) fun u s1 ⟨v,H1,I1,r1,q1⟩=>⟨v,H1,I1,r1,hM v H1 q1⟩
noncomputable def tCutT (t:TT):TT:=fun σ H Q=>∃ M:Bool->Hp->Prop,t σ H M/\∀ b H',M b H'->Q b H'
theorem pt_cut (h:PT X e tt):PT X e (tCutT tt):=by
 intro pins s σ H Q I q
 obtain ⟨M,q,hM⟩:=q
 exact thn (h pins s σ H M I q) fun b s1 ⟨H1,I1,q1⟩=>⟨H1,I1,hM b H1 q1⟩
end
noncomputable def qne9 (X:Cx) (N':List Str) (scope:Scope) (cl:List (Str × Addr)) (caps:List (Option Nat)):Bool :=
 (scope.names.all fun y=>y.2 != .cell) && (scope.names.all fun y=>y.2 != .local || scope.names.lookup y.1 == some .local) &&
 ((relabel scope X.env).names.all fun y=>!(y.2 == .cell || y.2 == .free) || (cl.lookup y.1).isSome) && (caps.length == N'.length) &&
 ((List.range caps.length).all fun i=>match caps[i]?,N'[i]? with
  | some (some j),some x=>(X.N[j]? == some x) && (X.env.kindOf x == some .cell || X.env.kindOf x == some .free) && ((relabel scope X.env).names.lookup x == some .cell || (relabel scope X.env).names.lookup x == some .free)
  | _,_=>true)
theorem BlkOk.of {X:Cx} {N':List Str} {scope:Scope} {cl:List (Str × Addr)} {caps:List (Option Nat)} (clos:closureFor scope X.env=pure cl) (kind:scope.kind=.function) (sub:∀ x c,cl.lookup x=some c->X.env.cells.lookup x=some c)
  (h:qne9 X N' scope cl caps=true):BlkOk X N' scope cl caps:=by
 unfold qne9 at h
 simp only [Bool.and_eq_true] at h
 obtain ⟨⟨⟨⟨h1,h2⟩,h3⟩,h4⟩,h5⟩:=h
 have ok3:∀ x k,(relabel scope X.env).names.lookup x=some k->(k=.cell\/k=.free)->∃ c,cl.lookup x=some c:=fun x k e hk=>by
  have:=List.all_eq_true.mp h3 _ (PySem.mem_of_lookup e)
  have hb:(k == NameKind.cell || k == NameKind.free)=true:=by
   rcases hk with rfl | rfl <;> rfl
  simp only [hb,Bool.not_true,Bool.false_or] at this
  exact Option.isSome_iff_exists.mp this
 refine ⟨clos,fun y hy=>?_,kind,fun y hy e=>?_,sub,fun x hx=>?_,by simpa using h4,fun i j x e1 e2=>?_⟩
 ·have:=List.all_eq_true.mp h1 y hy
  simpa using this
 ·have:=List.all_eq_true.mp h2 y hy
  rw [e] at this
  simpa using this
 ·rcases hx with hx | hx
  ·exact ok3 x _ hx (.inl rfl)
  ·exact ok3 x _ hx (.inr rfl)
 ·have hi:i < caps.length:=(List.getElem?_eq_some_iff.mp e1).1
  have:=List.all_eq_true.mp h5 i (List.mem_range.mpr hi)
  rw [e1,e2] at this
  simp only [Bool.and_eq_true,Bool.or_eq_true,beq_iff_eq] at this
  exact ⟨this.1.1,this.1.2,this.2⟩
section
variable {K:W.Frag} {a:Addr} {xs:List V} {caps:List (Option Nat)} {g:TG} {tt:TT} {te:TE} {σ:St} {H:Hp} {Q:VK}
theorem comp_list (Pv:Addr->Nat->Hp->Prop) (h0:∀ D,H D=none->Pv D 0 (upd H D (.lst []))) (hl:∀ D i H',H D=none->i<=xs.length->Pv D i H'->SqL K H' a xs)
  (hs:∀ D i x H',H D=none->xs[i]?=some x->Pv D i H'->g x (seen caps σ) H' fun σ4 H4=>(∀ (k:Nat) v,(seen caps σ)[k]?=some (some v)->σ4[k]?=some (some v))/\tt σ4 H4 fun b H5 =>
   if b=true then te σ4 H5 fun y H6=>∃ ys,H6 D=some (.lst ys)/\ys.length < sizeLine/\Pv D (i+1) (upd H6 D (.lst (ys ++ [y]))) else Pv D (i+1) H5)
  (hd:∀ D H',H D=none->Pv D xs.length H'->Q (.ref D) H'):cBody caps g tt te σ Q (Itl K a) H:=by
 intro D hD
 refine ⟨fun i m H'=>m=xs.length - i/\i<=xs.length/\Pv D i H',⟨xs.length,by simp,Nat.zero_le _,h0 D hD⟩,?_⟩
 intro i m H2 z9;obtain ⟨rfl,hi,p⟩ := z9
 have q:=hl D i H2 hD hi p
 by_cases hlt:i < xs.length
 ·refine .inr ⟨⟨xs,xs[i],q,by simp [hlt]⟩,Pv D (i+1),fun H' p'=>⟨xs.length - (i+1),by omega,rfl,hlt,p'⟩,fun x H3 y=>?_⟩
  obtain ⟨e,y⟩:=y
  subst e
  exact hs D i x _ hD (y xs q) p
 ·have e:i=xs.length:=by omega
  subst e
  exact .inl ⟨⟨xs,q,Nat.le_refl _⟩,hd D H2 hD p⟩
theorem qcu9 (Pv:Addr->Nat->Hp->Prop) (h0:∀ D,H D=none->Pv D 0 (upd H D (.lst []))) (hl:∀ D i H',H D=none->i<=xs.length->Pv D i H'->SqL K H' a xs)
  (hs:∀ D i x H',H D=none->xs[i]?=some x->Pv D i H'->g x (seen caps σ) H' fun σ4 H4=>(∀ (k:Nat) v,(seen caps σ)[k]?=some (some v)->σ4[k]?=some (some v)) /\
   te σ4 H4 fun y H6=>∃ ys,H6 D=some (.lst ys)/\ys.length < sizeLine/\Pv D (i+1) (upd H6 D (.lst (ys ++ [y]))))
  (hd:∀ D H',H D=none->Pv D xs.length H'->Q (.ref D) H'):cBody caps g tTrue te σ Q (Itl K a) H:=comp_list Pv h0 hl hs hd
theorem qos9 (Pv:Addr->Nat->Hp->Prop) (h0:∀ D,H D=none->Pv D 0 (upd H D (.lst []))) (hl:∀ D i H',H D=none->i<=xs.length->Pv D i H'->SqT K H' a xs)
  (hs:∀ D i x H',H D=none->xs[i]?=some x->Pv D i H'->g x (seen caps σ) H' fun σ4 H4=>(∀ (k:Nat) v,(seen caps σ)[k]?=some (some v)->σ4[k]?=some (some v))/\tt σ4 H4 fun b H5 =>
   if b=true then te σ4 H5 fun y H6=>∃ ys,H6 D=some (.lst ys)/\ys.length < sizeLine/\Pv D (i+1) (upd H6 D (.lst (ys ++ [y]))) else Pv D (i+1) H5)
  (hd:∀ D H',H D=none->Pv D xs.length H'->Q (.ref D) H'):cBody caps g tt te σ Q (Itt K a) H:=by
 intro D hD
 refine ⟨fun i m H'=>m=xs.length - i/\i<=xs.length/\Pv D i H',⟨xs.length,by simp,Nat.zero_le _,h0 D hD⟩,?_⟩
 intro i m H2 z9;obtain ⟨rfl,hi,p⟩ := z9
 have q:=hl D i H2 hD hi p
 by_cases hlt:i < xs.length
 ·refine .inr ⟨⟨xs,xs[i],q,by simp [hlt]⟩,Pv D (i+1),fun H' p'=>⟨xs.length - (i+1),by omega,rfl,hlt,p'⟩,fun x H3 y=>?_⟩
  obtain ⟨e,y⟩:=y
  subst e
  exact hs D i x _ hD (y xs q) p
 ·have e:i=xs.length:=by omega
  subst e
  exact .inl ⟨⟨xs,q,Nat.le_refl _⟩,hd D H2 hD p⟩
theorem comp_tup0 (Pv:Addr->Nat->Hp->Prop) (h0:∀ D,H D=none->Pv D 0 (upd H D (.lst []))) (hl:∀ D i H',H D=none->i<=xs.length->Pv D i H'->SqT K H' a xs)
  (hs:∀ D i x H',H D=none->xs[i]?=some x->Pv D i H'->g x (seen caps σ) H' fun σ4 H4=>(∀ (k:Nat) v,(seen caps σ)[k]?=some (some v)->σ4[k]?=some (some v)) /\
   te σ4 H4 fun y H6=>∃ ys,H6 D=some (.lst ys)/\ys.length < sizeLine/\Pv D (i+1) (upd H6 D (.lst (ys ++ [y]))))
  (hd:∀ D H',H D=none->Pv D xs.length H'->Q (.ref D) H'):cBody caps g tTrue te σ Q (Itt K a) H:=qos9 Pv h0 hl hs hd
end
mutual
inductive RdV (K:W.Frag) (H:Hp):V->PyData->Prop
 | non:RdV K H .non .none
 | bl (b:Bool):RdV K H (.bl b) (.bool b)
 | int (i:Int):RdV K H (.int i) (.int i)
 | str (x:Str):RdV K H (.str x) (.str x)
 | lst {a:Addr} {xs:List V} {ds:List PyData}:SqL K H a xs->RdAll K H xs ds->RdV K H (.ref a) (.list ds)
 | tup {a:Addr} {xs:List V} {ds:List PyData}:SqT K H a xs->RdAll K H xs ds->RdV K H (.ref a) (.tuple ds)
inductive RdAll (K:W.Frag) (H:Hp):List V->List PyData->Prop
 | nil:RdAll K H [] []
 | cons {x:V} {d:PyData} {xs:List V} {ds:List PyData}:RdV K H x d->RdAll K H xs ds->RdAll K H (x :: xs) (d :: ds)
end
section
variable {X:Cx} {pins:List (Addr × Obj)} {σ:St} {H:Hp} {s:Shared}
mutual
theorem Inv.rd (I:Inv X pins σ H s):∀ {x:V} {d:PyData},RdV X.K H x d->∀ u,RelV x u->∃ as,Reads s.heap u d as
 | _,_,.non,u,r=>by cases (show u=Value.none from r); exact ⟨_,.none⟩
 | _,_,.bl b,u,r=>by cases (show u=Value.bool b from r); exact ⟨_,.bool b⟩
 | _,_,.int i,u,r=>by obtain ⟨t,q⟩:=(show ∃ t,u=Value.int i t from r); cases q; exact ⟨_,.int i t⟩
 | _,_,.str x,u,r=>by obtain ⟨t,q⟩:=(show ∃ t,u=Value.str x t from r); cases q; exact ⟨_,.str x t⟩
 | _,_,.lst (a:=a) hS hA,u,r=>by
  cases (show u=Value.ref a from r)
  obtain ⟨its,rv,p,hz⟩:=I.list hS
  obtain ⟨as,q⟩:=Inv.rdAll I hA its rv
  obtain ⟨o,e,hc,n,hd⟩:=p.isList
  exact ⟨_,.list e hc hd (by simpa using q)⟩
 | _,_,.tup (a:=a) hS hA,u,r=>by
  cases (show u=Value.ref a from r)
  obtain ⟨its,rv,p,hz⟩:=I.tuple hS
  obtain ⟨as,q⟩:=Inv.rdAll I hA its rv
  obtain ⟨o,e,hc,n,hd⟩:=p
  exact ⟨_,.tuple e hc hd (by simpa using q)⟩
theorem Inv.rdAll (I:Inv X pins σ H s):∀ {xs:List V} {ds:List PyData},RdAll X.K H xs ds->∀ us,Vals xs us->∃ as,ReadsAll s.heap us ds as
 | _,_,.nil,us,r=>by cases r; exact ⟨_,.nil⟩
 | _,_,.cons h1 h2,us,r=>by
  cases r with
  | cons r1 r2 =>
   obtain ⟨as,q1⟩:=Inv.rd I h1 _ r1
   obtain ⟨bs,q2⟩:=Inv.rdAll I h2 _ r2
   exact ⟨_,.cons q1 q2⟩
end
end
section
variable {X:Cx}
noncomputable def rEqD (K:W.Frag):R2:=fun x y H Q=>∃ d e,RdV K H x d/\RdV K H y e/\SeqAt.shaped d=true/\SeqAt.shaped e=true/\Q (.bl (PyData.eqv d e)) H
noncomputable def rNeD (K:W.Frag):R2:=fun x y H Q=>∃ d e,RdV K H x d/\RdV K H y e/\SeqAt.shaped d=true/\SeqAt.shaped e=true/\Q (.bl (!PyData.eqv d e)) H
theorem op_eqD (hu:X.A.units+64 < cLine):OpR X (compareOp .Eq) (rEqD X.K):=by
 intro pins s σ H x y v u Q I rx ry h
 obtain ⟨d,e,hd,he,sd,se,q⟩:=h
 obtain ⟨as,ra⟩:=I.rd hd v rx
 obtain ⟨bs,rb⟩:=I.rd he u ry
 exact eq_dataH ra rb sd se hu ⟨.bl _,H,I,rfl,q⟩
theorem op_neD (hu:X.A.units+64 < cLine):OpR X (compareOp .NotEq) (rNeD X.K):=by
 intro pins s σ H x y v u Q I rx ry h
 obtain ⟨d,e,hd,he,sd,se,q⟩:=h
 obtain ⟨as,ra⟩:=I.rd hd v rx
 obtain ⟨bs,rb⟩:=I.rd he u ry
 exact ne_dataH ra rb sd se hu ⟨.bl _,H,I,rfl,q⟩
end
structure QE (X:Cx) (e:Expr) (t:TE):Prop where
 run:PE X e t
structure QT (X:Cx) (e:Expr) (t:TT):Prop where
 run:PT X e t
structure QW (X:Cx) (e:Expr) (t:TT):Prop where
 run:PW X e t
structure QA (X:Cx) (es:List Expr) (t:TA):Prop where
 run:PA X es t
structure QS (X:Cx) (st:Stmt) (t:TS):Prop where
 run:PS X st t
structure QSs (X:Cx) (st:List Stmt) (t:TS):Prop where
 run:PSs X st t
structure QG (X:Cx) (e:Expr) (t:TG):Prop where
 run:PG X e t
structure QGs (X:Cx) (es:List Expr) (t:TGs):Prop where
 run:PGs X es t
structure QI (X:Cx) (tg it:Expr) (w:TI):Prop where
 run:PI X tg it w
structure QO (X:Cx) (e:Option Expr) (t:TO):Prop where
 run:PO X e t
structure QOp (X:Cx) (f:Value->Value->Sem Value) (r:R2):Prop where
 run:OpR X f r
structure QCall (X:Cx) (f:Value) (r:List V->Hp->VK->Prop):Prop where
 run:CallR X f r
structure QIx (X:Cx) (r:R2):Prop where
 run:IxR X r
section
variable {X:Cx} {st:Stmt} {rest:List Stmt} {t u:TS} {a b c d e:Expr} {ta tb tc td te:TE} {tA tB' tt:TT} {pos p:Pos}
theorem qba9:QSs X [] tNext:=⟨pss_nil⟩
theorem qae9 (h1:QS X st t):QSs X [st] t:=⟨pss_one h1.run⟩
theorem qab9 (h1:QS X st t) (h2:QSs X rest u):QSs X (st :: rest) (tSeq t u):=⟨pss_cons h1.run h2.run⟩
theorem qev9 (h1:QS X st t) (h2:QSs X rest u):QSs X (st :: rest) (tCut t u):=⟨pss_cut h1.run h2.run⟩
theorem qak9 {i:Nat} {x:Str} {pos':Pos} (hN:X.N.Nodup) (hi:X.N[i]?=some x) (hx:Loc X.env.scope x) (he:QE X e te) (hs:swapsWith e (some (.Name x pos')) pos.line X.env=pure false:=by rfl) (hf:X.fn x=true\/X.env.scope.names.lookup x=some .local:=by first | exact .inl rfl | exact .inr rfl | assumption) :
  QS X (.Assign [.Name x pos'] e pos) (tAsg te (gName i)):=⟨ps_set hN hi hx he.run hs hf⟩
theorem qs_asg {tg:Expr} {g:TG} (he:QE X e te) (hg:QG X tg g) (hs:swapsWithSole [tg] e pos.line X.env=pure false:=by rfl) (hw:swappedStores [tg] e X.env=pure none:=by rfl)
  (h1:(assignEach [tg] X.env).map (·.2)=[assign tg X.env]:=by rfl):QS X (.Assign [tg] e pos) (tAsg te g):=⟨ps_asg he.run hg.run hs hw h1⟩
theorem qs_if {a b:List Stmt} {tc:TT} (hc:QT X c tc) (ha:QSs X a t) (hb:QSs X b u):QS X (.If c a b pos) (tIfS tc t u):=⟨ps_if hc.run ha.run hb.run⟩
theorem qas9 (he:QE X e te):QS X (.Return (some e) pos) (tRet te):=⟨ps_ret he.run⟩
theorem qs_retN:QS X (.Return none pos) tRetN:=⟨ps_retN⟩
theorem qbc9 (he:QE X e te) (hs:swapsWith e none pos.line X.env=pure false:=by rfl):QS X (.Expr e pos) (tDrop te):=⟨ps_expr he.run hs⟩
theorem qef9 {body:List Stmt} {tb:TS} (hp:PassesOwn (model X.prog X.w) X.A X.env X.xe) (hc:QT X c tt) (hb:QSs X body tb):QS X (.While c body [] pos) (tWhile tt tb):=⟨ps_while hp hc.run hb.run⟩
theorem qea9 {tg iter:Expr} {body:List Stmt} {wi:TI} {g:TG} {tb:TS} (hp:PassesOwn (model X.prog X.w) X.A X.env X.xe) (hc:X.calm=true) (hi:QI X tg iter wi) (hg:QG X tg g) (hb:QSs X body tb)
  (hs:∀ x,foldedSetIterable iter X.env x=pure x:=by intro _; rfl):QS X (.For tg iter body [] pos) (tFor wi g tb):=⟨ps_for hp hc hi.run hg.run hb.run hs⟩
theorem qam9 {i:Nat} {x:Str} (hN:X.N.Nodup) (hi:X.N[i]?=some x) (hx:Loc X.env.scope x) (hf:X.fn x=true\/X.env.scope.names.lookup x=some .local:=by first | exact .inl rfl | exact .inr rfl | assumption):QG X (.Name x pos) (gName i):=⟨pg_name hN hi hx hf⟩
theorem qct9:QGs X [] gNil:=⟨pgs_nil⟩
theorem qaj9 {es:List Expr} {t:TG} {u:TGs} (h1:QG X e t) (h2:QGs X es u) (hs:(assignEach (e :: es) X.env).map (·.2)=assign e X.env :: (assignEach es X.env).map (·.2):=by rfl):QGs X (e :: es) (gCons t u):=⟨pgs_cons h1.run h2.run hs⟩
theorem qfb9 {es:List Expr} {k:Nat} {t:TGs} {n:Nat} (hc:X.calm=true) (h:QGs X es t)
  (hn:(assignEach es X.env).length=n:=by rfl) (hst:(assignEach es X.env).findIdx? (·.1)=none:=by rfl):QG X (.Tuple es k pos) (gTup X.K n t):=⟨pg_tup hc h.run hn hst⟩
theorem qg_sub {o i:Expr} {to ti:TE} {t:TSet} (ho:QE X o to) (hi:QE X i ti) (hs:PSet X t)
  (ha:∀ v,assign (.Subscript o i pos) X.env v=(do
   let ov <- holding [v] (eval o X.env)
   let iv <- holding [v,ov] (eval i X.env)
   standAt pos
   holding [v,ov,iv] (setItem ov iv v)
   release [v,ov,iv] []):=by intro _; rfl):QG X (.Subscript o i pos) (gSub to ti t):=⟨pg_sub ho.run hi.run hs ha⟩
theorem qck9 {tg l:Expr} {tl:TE} (hl:QE X l tl):QI X tg l (iList X.K tl):=⟨pi_list hl.run⟩
theorem qi_tup {tg l:Expr} {tl:TE} (hl:QE X l tl):QI X tg l (iTup X.K tl):=⟨pi_tup hl.run⟩
theorem qfu9 {tg:Expr} {ta:TA} (hg:Gl X "range") (hm:X.mg "range" = none) (ha:QA X [a] ta) (h:qbi9 a=true:=by rfl):QI X tg (.Call (.Name "range" p) [a] [] pos) (iRng1 ta):=⟨pi_range1 hg hm ha.run (se_of h)⟩
theorem qac9:QA X [] tNil:=⟨pa_nil⟩
theorem qa_c {es:List Expr} {t:TA} (ha:QE X e te) (hr:QA X es t) (h:qbi9 e=true:=by rfl):QA X (e :: es) (tCons te t):=⟨pa_c ha.run hr.run h⟩
theorem qv (i:Nat) {x:Str} (hN:X.N[i]?=some x:=by rfl) (hv:Vis X.env.scope x:=by first | exact Or.inl rfl | exact Or.inr (Or.inl rfl) | exact Or.inr (Or.inr rfl)) (hd:(x == ("__debug__" : Str))=false:=by decide)
  (hcd:(x == ("__classdict__" : Str))=false:=by decide):QE X (.Name x pos) (tVar i):=⟨pe_var hN hv hd hcd⟩
theorem qgx9 {x:Str} {v:V} {u:Value} (hg:Gl X x) (hm:X.mg x=none) (hv:bootBuiltins x=some u) (r:RelV v u) (hn:x ≠ "__name__" := by decide) (hd:(x == ("__debug__" : Str))=false:=by decide):QE X (.Name x pos) (tC v):=⟨pe_bltn hg hm hv r hn hd⟩
theorem qad9 {i:Int} {j:Nat}:QE X (.Constant (.int i) j pos) (tC (.int i)):=⟨pe_int⟩
theorem qe_bl {b:Bool} {j:Nat}:QE X (.Constant (.bool b) j pos) (tC (.bl b)):=⟨pe_bl⟩
theorem qmd9 {j:Nat}:QE X (.Constant .none j pos) (tC .non):=⟨pe_non⟩
theorem qe_str {x:Str} {j:Nat}:QE X (.Constant (.str x) j pos) (tC (.str x)):=⟨pe_str⟩
theorem qe_op {op:Operator} {r:R2} (ho:QOp X (binaryOp op) r) (ha:QE X a ta) (hb:QE X b tb):QE X (.BinOp a op b pos) (tOp r ta tb):=⟨pe_op ho.run ha.run hb.run⟩
theorem qec9 (ha:QE X a ta):QE X (.UnaryOp .USub a pos) (tUn (rU fun i=>.int (-i)) ta):=⟨pe_un un_neg ha.run⟩
theorem qe_not (ha:QE X a ta):QE X (.UnaryOp .Not a pos) (tNotV ta):=⟨pe_not ha.run⟩
theorem qe_notN {j:Nat} {pos':Pos} (ha:QE X a ta):QE X (.Compare a [.IsNot] [.Constant .none j pos'] pos) (tNotN ta):=⟨pe_cmp (pc_notN ha.run)⟩
theorem qt_isN {j:Nat} {pos':Pos} (ha:QE X a ta):QT X (.Compare a [.Is] [.Constant .none j pos'] pos) (tB (tIsN ta)):=⟨pt_cmp (pc_isN ha.run)⟩
theorem qt_notN {j:Nat} {pos':Pos} (ha:QE X a ta):QT X (.Compare a [.IsNot] [.Constant .none j pos'] pos) (tB (tNotN ta)):=⟨pt_cmp (pc_notN ha.run)⟩
theorem qkj9 {op:CmpOp} {r:R2} (ho:QOp X (compareOp op) r) (ha:QE X a ta) (hb:QE X b tb) (hm:behindInMarks op b=false):QE X (.Compare a [op] [b] pos) (tOp r ta tb):=⟨qna9 ho.run ha.run hb.run hm⟩
theorem qap9 {op:CmpOp} {r:R2} (ho:QOp X (compareOp op) r) (ha:QE X a ta) (hb:QE X b tb) (hm:behindInMarks op b=false):QT X (.Compare a [op] [b] pos) (tTest (tOp r ta tb)):=⟨pt_cmpR ho.run ha.run hb.run hm⟩
theorem qe_chain {op op':CmpOp} {r r':R2} (ho:QOp X (compareOp op) r) (ho':QOp X (compareOp op') r') (ha:QE X a ta) (hb:QE X b tb) (hc:QE X c tc) (hm:lastMarks [op,op'] [b,c]=false:=by with_unfolding_all rfl) :
  QE X (.Compare a [op,op'] [b,c] pos) (tChain r r' ta tb tc):=⟨pe_chain ho.run ho'.run ha.run hb.run hc.run hm⟩
theorem qe_chain3 {op op' op'':CmpOp} {r r' r'':R2} (ho:QOp X (compareOp op) r) (ho':QOp X (compareOp op') r') (ho'':QOp X (compareOp op'') r'') (ha:QE X a ta) (hb:QE X b tb) (hc:QE X c tc) (hd:QE X d td) (hm:lastMarks [op,op',op''] [b,c,d]=false:=by with_unfolding_all rfl) :
  QE X (.Compare a [op,op',op''] [b,c,d] pos) (tChain3 r r' r'' ta tb tc td):=⟨pe_chain3 ho.run ho'.run ho''.run ha.run hb.run hc.run hd.run hm⟩
theorem qlo9 {op:BoolOp} (h:QE X a ta):QE X (.BoolOp op [a] pos) ta:=⟨pe_one h.run⟩
theorem qlq9 {rest:List Expr} (ha:QE X a ta) (hb:QE X (.BoolOp .And (b :: rest) pos) tb):QE X (.BoolOp .And (a :: b :: rest) pos) (tAndV ta tb):=⟨pe_and ha.run hb.run⟩
theorem qgs9 (ha:QT X a tA):QW X (.BoolOp .And [a] pos) tA:=⟨pw_and1 ha.run⟩
theorem qfr9 (ha:QT X a tA):QW X (.BoolOp .Or [a] pos) tA:=⟨pw_or1 ha.run⟩
theorem qjk9 {rest:List Expr} (ha:QT X a tA) (hb:QW X (.BoolOp .And (b :: rest) pos) tB'):QW X (.BoolOp .And (a :: b :: rest) pos) (tAnd tA tB'):=⟨pw_and ha.run hb.run⟩
theorem qw_or {rest:List Expr} (ha:QT X a tA) (hb:QW X (.BoolOp .Or (b :: rest) pos) tB'):QW X (.BoolOp .Or (a :: b :: rest) pos) (tOr tA tB'):=⟨pw_or ha.run hb.run⟩
theorem QW.pt (h:QW X e tt):QT X e tt:=⟨h.run.pt⟩
theorem qfd9 (ha:QT X a tA):QT X (.UnaryOp .Not a pos) (tNot tA):=⟨pt_not ha.run⟩
theorem qcq9 (h:QE X e te) (he:∀ whole,isTrue e X.env whole=(do let v <- whole; standAt e.pos; holding [v] (truthy v)):=by intro _; rfl):QT X e (tB te):=⟨pt_val h.run he⟩
theorem qhv9 (h:QT X e tt):QT X e (tCutT tt):=⟨pt_cut h.run⟩
theorem qho9 (h:QE X e te):QE X e (tCutE te):=⟨pe_cut h.run⟩
theorem qdo9 (hc:QT X c tA) (ha:QE X a ta) (hb:QE X b tb):QE X (.IfExp c a b pos) (tIf tA ta tb):=⟨pe_ifExp hc.run ha.run hb.run⟩
theorem qci9 {es:List Expr} {t:TA} {x1:Nat} (h:QA X es t):QE X (.Tuple es x1 pos) (tTup t):=⟨pe_tup h.run⟩
theorem qch9 {es:List Expr} {t:TA} (h:QA X es t):QE X (.List es pos) (tLst t):=⟨pe_lst h.run⟩
theorem qe_ix {r:R2} (hr:QIx X r) (ha:QE X a ta) (hb:QE X b tb) (hs:PlainIx b):QE X (.Subscript a b pos) (tOp r ta tb):=⟨pe_ix hr.run ha.run hb.run hs⟩
theorem qgp9:QO X none tNoPart:=⟨po_none⟩
theorem qgq9 (h:QE X e te):QO X (some e) (tPart te):=⟨po_some h.run⟩
theorem qme9 {lo hi:Option Expr} {tl th:TO} {p2:Pos} (he:QE X e te) (hl:QO X lo tl) (hu:QO X hi th):QE X (.Subscript e (.Slice lo hi none p2) pos) (tSl (rSlL X.K) te tl th):=⟨pe_slice sl_list he.run hl.run hu.run⟩
theorem qe_cb {x:Str} {es:List Expr} {t:TA} {id:String} {r:List V->Hp->VK->Prop} (hc:QCall X (.builtin id) r) (hg:Gl X x) (hm:X.mg x=none) (hv:bootBuiltins x=some (.builtin id)) (ha:QA X (e :: es) t) (hn:x ≠ "__name__" := by decide) (hdb:(x == ("__debug__" : Str))=false:=by decide)
  (he:qbi9 e=true:=by rfl) (hpl:es.all qbi9=true:=by rfl):QE X (.Call (.Name x p) (e :: es) [] pos) (tCB r t):=⟨pe_cb hc.run hg hm hv ha.run hn hdb he hpl⟩
theorem qe_ct {x:Str} {es:List Expr} {t:TA} {T:String} {r:List V->Hp->VK->Prop} (hc:QCall X (.type T) r) (hg:Gl X x) (hm:X.mg x=none) (hv:bootBuiltins x=some (.type T)) (ha:QA X (e :: es) t) (hn:x ≠ "__name__" := by decide) (hdb:(x == ("__debug__" : Str))=false:=by decide)
  (he:qbi9 e=true:=by rfl) (hpl:es.all qbi9=true:=by rfl):QE X (.Call (.Name x p) (e :: es) [] pos) (tCB r t):=⟨pe_ct hc.run hg hm hv ha.run hn hdb he hpl⟩
theorem qe_fn {k:Nat} {x:Str} {ps:List Str} {sp:Sp} {es:List Expr} {t:TA} (C:Callee X.prog X.w X.K X.mg X.base k x ps sp) (hr:Room k X.A) (hg:Gl X x) (ha:QA X (e :: es) t) (hdb:(x == ("__debug__" : Str))=false:=by decide)
  (he:qbi9 e=true:=by rfl) (hpl:es.all qbi9=true:=by rfl):QE X (.Call (.Name x p) (e :: es) [] pos) (tCall sp [] E0 t):=⟨pe_fn C hr hg ha.run hdb he hpl⟩
theorem qbg9 {o:Expr} {to:TE} {t:TA} {apos:Pos} (ho:QE X o to) (ha:QA X [e] t) (h:qbi9 e=true:=by rfl) (hbase:attributeBase o "append" X.env (eval o X.env)=eval o X.env:=by rfl) (hline:(apos.endLine == pos.line)=true:=by rfl) :
  QE X (.Call (.Attribute o "append" apos) [e] [] pos) (tBM X.K "list" rAppend to t) :=
 ⟨pe_bm PySem.F.plainAttrs_list PySem.F.slot_list_append PySem.F.type_list_append qhw9 ho.run ha.run hbase (by rw [se_of h]; rfl) hline (se_of h) rfl⟩
end
section
variable {X:Cx}
theorem qaw9:QOp X (binaryOp .Add) (rI0 fun i j=>.int (i+j)):=⟨op_add⟩
theorem qdi9:QOp X (binaryOp .Sub) (rI0 fun i j=>.int (i - j)):=⟨op_sub⟩
theorem qgu9:QOp X (binaryOp .Mult) (rI CMul fun i j=>.int (i * j)):=⟨op_mul⟩
theorem qbh9:QOp X (binaryOp .FloorDiv) (rI CDivB fun i j=>.int (i / j)):=⟨op_fdivB⟩
theorem qbf9:QOp X (binaryOp .Mod) (rI (fun _ j=>0 < j) fun i j=>.int (i % j)):=⟨op_mod⟩
theorem qhz9:QOp X (binaryOp .Pow) (rI CPow fun i j=>.int (i ^ j.toNat)):=⟨op_pow⟩
theorem qdn9:QOp X (compareOp .Eq) rEq:=⟨op_eq⟩
theorem qop_ne:QOp X (compareOp .NotEq) rNe:=⟨op_ne⟩
theorem qdv9:QOp X (compareOp .Lt) (rI0 fun i j=>.bl (decide (i < j))):=⟨op_lt⟩
theorem qjm9:QOp X (compareOp .LtE) (rI0 fun i j=>.bl (decide (i<=j))):=⟨op_le⟩
theorem qfs9:QOp X (compareOp .Gt) (rI0 fun i j=>.bl (decide (j < i))):=⟨op_gt⟩
theorem qop_ge:QOp X (compareOp .GtE) (rI0 fun i j=>.bl (decide (j<=i))):=⟨op_ge⟩
theorem qnf9 (hu:X.A.units+64 < cLine):QOp X (compareOp .Eq) (rEqD X.K):=⟨op_eqD hu⟩
theorem qml9 (hu:X.A.units+64 < cLine):QOp X (compareOp .NotEq) (rNeD X.K):=⟨op_neD hu⟩
theorem qai9:QIx X (rIxL X.K):=⟨ix_list⟩
theorem qav9:QIx X (rIxT X.K):=⟨ix_tup⟩
theorem qat9:QCall X (.builtin "len") (fun xs H Q=>∃ p ys,xs=[.ref p]/\(SqL X.K H p ys\/SqT X.K H p ys)/\Q (.int ys.length) H):=⟨qjo9⟩
theorem qht9 (hc:X.calm=true):QCall X (.builtin "max") (fun xs H Q=>∃ i j,xs=[.int i,.int j]/\Q (.int (if j > i then j else i)) H):=⟨call_max2 hc⟩
theorem qfx9 (hc:X.calm=true):QCall X (.builtin "min") (fun xs H Q=>∃ i j,xs=[.int i,.int j]/\Q (.int (if j < i then j else i)) H):=⟨call_min2 hc⟩
theorem qep9:QCall X (.builtin "isinstance") (fun xs H Q=>∃ x T t b,xs=[x,.ty T]/\TyOf X.K H x t/\W.kitOne X.K t (.type T)=some b/\Q (.bl b) H):=⟨call_isi⟩
theorem qfy9 (hc:X.calm=true):QCall X (.builtin "all") (fun xs H Q=>∃ (p:Addr) (bs:List Bool),xs=[.ref p]/\SqL X.K H p (bs.map V.bl)/\Q (.bl (bs.all id)) H):=⟨call_all hc⟩
theorem qgi9:QCall X (.type "list") (fun xs H Q=>∃ p ys,xs=[.ref p]/\(SqL X.K H p ys\/SqT X.K H p ys)/\∀ l,H l=none->Q (.ref l) (upd H l (.lst ys))):=⟨qju9⟩
end
section
variable {P:Program} {w:World} {K:W.Frag} {mg:Str->Option Value} {base:Heap}
theorem Fun.okQ {x qual:Str} {st:Stmt} {f:Addr} {fd:FuncData} {N ps:List Str} {k:Nat} {sp:Sp} (F:Fun K x qual st f fd) (S:FnScope N ps (qaa9 st)) (len:∀ vs H Q E,sp vs H Q E->vs.length=ps.length)
  (hbody:∀ (cdv:Value) (A:Around) (outer:List Env) (s:Shared) (H:Hp) (vs:List V) (Q:VK) (E:XK),Room k (A.deeper (envOfC qual (qaa9 st) s.heap.objs.size f cdv))->sp vs H Q E ->
   ∃ t,QSs (cxOf CX0 P w K mg base N qual (qaa9 st) f cdv A outer s H E).nox (qag9 st) t/\t { nx:=fun _ H'=>Q .non H',rt:=Q } (start N vs) H):FnOk P w K mg base CX0 (k+1) f fd ps sp:=by
 refine F.ok S len fun cdv A outer s H vs Q E hr h=>?_
 obtain ⟨t,h1,h2⟩:=hbody cdv A outer s H vs Q E hr h
 exact ⟨t,h1.run,h2⟩
end
structure SubL (cl cells:List (Str × Addr)):Prop where
 to:∀ x c,cl.lookup x=some c->cells.lookup x=some c
theorem subN {cells:List (Str × Addr)}:SubL [] cells:=⟨fun _ _ e=>nomatch e⟩
theorem subC {x:Str} {c:Addr} {cl cells:List (Str × Addr)} (h:cells.lookup x=some c) (r:SubL cl cells):SubL ((x,c) :: cl) cells:=⟨fun y d e=>by
 rw [List.lookup_cons] at e
 cases q:y == x with
 | true=>rw [q] at e; cases e; rw [eq_of_beq q]; exact h
 | false=>rw [q] at e; exact r.to y d e⟩
section
variable {X:Cx} {scope:Scope} {cl:List (Str × Addr)} {tg iter elt:Expr} {wi:TI} {g:TG} {te:TE} {tt:TT} {pos:Pos}
theorem qet9 (N':List Str) (caps:List (Option Nat)) (B:BlkOk X N' scope cl caps) (hc:X.calm=true) (hi:QI X tg iter wi) (hg:∀ C s0 H0 fp,QG (blk X N' scope cl C s0 H0 fp) tg g) (he:∀ C s0 H0 fp,QE (blk X N' scope cl C s0 H0 fp) elt te)
  (hs:∀ x,foldedSetIterable iter X.env x=pure x:=by intro _; rfl):QE X (.ListComp elt [⟨tg,iter,[],0⟩] scope pos) (tComp wi caps g tTrue te):=⟨pe_comp B hc hi.run (fun C s0 H0 fp=>(hg C s0 H0 fp).run) (fun C s0 H0 fp=>(he C s0 H0 fp).run) hs⟩
theorem qe_compIf {c:Expr} (N':List Str) (caps:List (Option Nat)) (B:BlkOk X N' scope cl caps) (hc:X.calm=true) (hi:QI X tg iter wi) (hg:∀ C s0 H0 fp,QG (blk X N' scope cl C s0 H0 fp) tg g) (ht:∀ C s0 H0 fp,QT (blk X N' scope cl C s0 H0 fp) c tt)
  (he:∀ C s0 H0 fp,QE (blk X N' scope cl C s0 H0 fp) elt te) (hs:∀ x,foldedSetIterable iter X.env x=pure x:=by intro _; rfl):QE X (.ListComp elt [⟨tg,iter,[c],0⟩] scope pos) (tComp wi caps g tt te) :=
 ⟨pe_compIf B hc hi.run (fun C s0 H0 fp=>(hg C s0 H0 fp).run) (fun C s0 H0 fp=>(ht C s0 H0 fp).run) (fun C s0 H0 fp=>(he C s0 H0 fp).run) hs⟩
end
section
variable {X:Cx} {pos:Pos}
theorem qkd9 (K:W.Frag) (hK:X.K=K) {es:List Expr} {k:Nat} {t:TGs} {n:Nat} (hc:X.calm=true) (h:QGs X es t)
  (hn:(assignEach es X.env).length=n:=by rfl) (hst:(assignEach es X.env).findIdx? (·.1)=none:=by rfl):QG X (.Tuple es k pos) (gTup K n t):=by
 subst hK
 exact qfb9 hc h hn hst
theorem qiv9 (K:W.Frag) (hK:X.K=K):QIx X (rIxT K):=by subst hK; exact qav9
end
noncomputable def tClo (i:Nat) (f:Addr) (sp:Sp) (t:TA):TE:=fun σ H Q=>σ[i]?=some (some (.ref f))/\t σ H fun vs H1=>sp (vs ++ []) H1 Q E0
section
variable {X:Cx} {k:Nat} {f:Addr} {fd:FuncData} {ps:List Str} {sp:Sp} {e:Expr} {es:List Expr} {t:TA} {p pos:Pos} {x:Str}
theorem pe_clo (i:Nat) (G:FnOk X.prog X.w X.K X.mg X.base CX0 k f fd ps sp) (hr:Room k X.A) (hb:Binds X.K fd ps []) (ho:W.FnAt f X.base) (ha:PA X (e :: es) t) (hN:X.N[i]?=some x:=by rfl)
  (hv:Vis X.env.scope x:=by first | exact Or.inl rfl | exact Or.inr (Or.inl rfl) | exact Or.inr (Or.inr rfl)) (hd:(x == ("__debug__" : Str))=false:=by decide) (hcd:(x == ("__classdict__" : Str))=false:=by decide)
  (he:starEach (e :: es) X.env=(false,eval e X.env) :: starEach es X.env:=by rfl) (hpl:(backTo pos (starEach es X.env)).any (·.1)=false:=by rfl) :
  PE X (.Call (.Name x p) (e :: es) [] pos) (tClo i f sp t):=by
 intro pins s σ H Q I h
 obtain ⟨hσ,h⟩:=h
 have fa:∀ {H':Hp} {s':Shared},Inv X pins σ H' s'->W.FnAt f s'.heap:=fun {H' s'} J=>by
  obtain ⟨oc,od,fd',sl,e0⟩:=ho
  exact ⟨oc,od,fd',sl,J.bk _ _ e0⟩
 refine wpAny_Call_Name_kw (thn (pe_var (pos:=p) hN hv hd hcd pins s σ H (fun v H'=>v=.ref f/\H'=H) I ⟨_,hσ,rfl,rfl⟩) fun u s1 ⟨v,H',I1,r,e1,e2⟩=>?_)
 subst e1 e2
 cases r
 refine W.callWith_F (fa I1) (thn (ha pos pins s1 σ H' _ I1 h) fun us s2 ⟨vs,H2,I2,r2,q⟩=>⟨fa I2,?_⟩) he hpl
 exact run_fn G hr hb .nil pass0 I2 r2 q
end
noncomputable def CodeQ (c:Addr) (qual:Str):Heap->Prop:=fun h=>h.CodeRec (.ref c) qual
noncomputable def cxLam (P:Program) (w:World) (K:W.Frag) (mg:Str->Option Value) (base:Heap) (N:List Str) (qual:Str) (scope:Scope) (f:Addr) (cd:Value) (clos:List (Str × Addr)) (A:Around) (outer:List Env) (s:Shared) (H:Hp):Cx where
 prog:=P
 w:=w
 K:=K
 mg:=mg
 base:=base
 A:=A.deeper (W.envX qual scope s.heap.objs.size f cd clos)
 N:=N
 s₀:=s
 H₀:=H
 env:=W.envX qual scope s.heap.objs.size f cd clos
 outer:=outer
 stack:=W.envX qual scope s.heap.objs.size f cd clos :: outer
 ex:=[]
 calm:=true
 fn:=fun _=>false
 pn:=[]
 xe:=fun _ _=>False
structure LamScope (N ps:List Str) (sc:Scope) (clos:List (Str × Addr)):Prop where
 kind:sc.kind=.function
 co:sc.isCoroutine=false
 gen:sc.isGenerator=false
 nd:ps.Nodup
 pre:N.take ps.length=ps
 par:∀ x∈ps,sc.names.lookup x=some .local
 nocell:∀ y∈sc.names,y.2 ≠ .cell
 has:∀ x,sc.names.lookup x=some .free->∃ c,clos.lookup x=some c
 inj:∀ x y c,clos.lookup x=some c->clos.lookup y=some c->x=y
noncomputable def qhl9 (base:Heap) (sc:Scope) (clos:List (Str × Addr)) (N ps:List Str) (cs:List V):Prop :=
 N.length=ps.length+cs.length/\(∀ x c,clos.lookup x=some c->∃ v,base.IsCell c v) /\
 ∀ i x v,N[ps.length+i]?=some x->cs[i]?=some v->sc.names.lookup x=some .free/\∃ c u,clos.lookup x=some c/\base.IsCell c (some u)/\RelV v u
theorem qhf9:∀ {ps:List Str} {us:List Value} {i:Nat} {x:Str} {u:Value},ps.Nodup->ps[i]?=some x->us[i]?=some u->((ps.zip us).reverse.lookup x)=some u:=by
 intro ps
 induction ps with
 | nil=>intro us i x u _ h; cases i <;> cases h
 | cons p ps ih =>
  intro us i x u nd h1 h2
  cases us with
  | nil=>cases i <;> cases h2
  | cons w us =>
   rw [List.zip_cons_cons,List.reverse_cons,List.lookup_append]
   cases i with
   | zero =>
    have e1:p=x:=Option.some.inj h1
    have e2:w=u:=Option.some.inj h2
    subst e1 e2
    have hn:(ps.zip us).reverse.lookup p=none:=by
     rw [List.lookup_eq_none_iff]
     intro q hq
     have hq':=List.mem_reverse.mp hq
     have:=(List.of_mem_zip (a:=q.1) (b:=q.2) hq').1
     exact bne_iff_ne.mpr fun e=>(List.nodup_cons.mp nd).1 (by rw [e]; exact this)
    rw [hn]
    simp
   | succ i =>
    have q:=ih (List.nodup_cons.mp nd).2 (by simpa using h1) (by simpa using h2)
    rw [q]
    rfl
theorem lam_ok {P:Program} {w:World} {K:W.Frag} {mg:Str->Option Value} {base:Heap} {k:Nat} {f:Addr} {name qual:Str} {params:Arguments} {body:Expr} {sc:Scope} {clos:List (Str × Addr)} {pm ctv:Value} {c':Addr} {N ps:List Str} {sp:Sp} {cs:List V}
  (ho:base.get? f=some (W.kla_obj name qual params body sc clos pm c' ctv)) (hcd:∀ vs H Q E,sp vs H Q E->H c'=some (.ext (CodeQ c' qual))) (S:LamScope N ps sc clos) (C:qhl9 base sc clos N ps cs) (len:∀ vs H Q E,sp vs H Q E->vs.length=ps.length)
  (hbody:∀ (A:Around) (outer:List Env) (s:Shared) (H:Hp) (vs:List V) (Q:VK) (E:XK),Room k (A.deeper (W.envX qual sc s.heap.objs.size f (.ref c') clos))->sp vs H Q E ->
   ∃ t,PE (cxLam P w K mg base N qual sc f (.ref c') clos A outer s H) body t/\t (vs.map some ++ cs.map some) H Q) :
  FnOk P w K mg base CX0 (k+1) f (W.kla_fn name qual params body sc clos pm (.ref c') ctv) ps sp:=by
 refine ⟨len,fun A outer s H args us vs Q E hr e0 hb r hsp=>?_⟩
 have hl:=len _ _ _ _ hsp
 have bk:∀ b o,base.get? b=some o->s.heap.get? b=some o:=fun b o e=>(e0.bs b o e).1
 have lim:s.heap.NoLimit:=e0.mod.nolimit.keeps bk
 refine W.kla_callFunE hr.depth (bk _ _ ho) rfl S.co S.gen rfl (e0.hok c' _ (hcd _ _ _ _ hsp)).1 (hb _ _ _ _ ?_)
 refine wpAny_newFunctionEnv S.nocell (fun y hy=>S.par y.1 (List.of_mem_zip (a:=y.1) (b:=y.2) hy).1) (fun h1 hn1 sb1=>?_) S.kind
 have k1:∀ b o,s.heap.get? b=some o->h1.get? b=some o:=fun b o e=>sb1.extBut b o (Nat.ne_of_lt (Heap.lt_size e)) (Heap.get?_push_of_some _ e)
 refine ⟨lim.keeps k1,W.kla_codeExpr ?_⟩
 obtain ⟨t,ht,hq⟩:=hbody A outer s H vs Q E (hr.deeper _) hsp
 have ul:us.length=ps.length:=by rw [<- r.length]; exact hl
 have I:Inv (cxLam P w K mg base N qual sc f (.ref c') clos A outer s H) [] (vs.map some ++ cs.map some) H { s with heap:=h1,toks:=s.toks+(ps.zip us).length }:=by
  have noA:∀ b:Addr,b ∉ (cxLam P w K mg base N qual sc f (.ref c') clos A outer s H).ex:=fun b z=>absurd (show b∈([]:List Addr) from z) (by simp)
  have cl:∀ x c,clos.lookup x=some c->∃ v,base.IsCell c v:=C.2.1
  refine ⟨⟨e0.mod,S.kind,rfl,rfl,Nat.le_refl _,S.inj,fun y hy=>?_,fun _ _ z=>(nomatch z),fun _=>hr.hd,Around.frames_deeper e0.frames,.inr ⟨rfl,rfl⟩,fun b z=>absurd z (noA b),e0.bs,e0.bsz,fun b _ _=>noA b,fun b z=>absurd z (noA b),e0.funs,e0.frf⟩,
   rfl,e0.bare,Un.kept k1,⟨_,hn1,fun i y v h1' h2 h3=>?_⟩,fun y c h=>?_,e0.hok.fresh (Nat.le_refl _),fun y c h=>?_,fun p hp=>absurd (show p∈([]:List (Addr × Obj)) from hp) (by simp),e0.hok.kept k1,?_⟩
  ·have hy:sc.names.lookup y=some .cell\/sc.names.lookup y=some .free:=hy
   rcases hy with hy | hy
   ·exact absurd rfl (S.nocell _ (PySem.mem_of_lookup hy))
   ·exact S.has y hy
  ·by_cases hi:i < vs.length
   ·rw [List.getElem?_append_left (by simpa using hi),List.getElem?_map] at h2
    have ha:vs[i]?=some v:=by
     cases e:vs[i]? with
     | none=>rw [e] at h2; cases h2
     | some a=>rw [e] at h2; cases h2; rfl
    obtain ⟨u,hu,rv⟩:=r.get ha
    have hp:ps[i]?=some y:=by
     rw [<- S.pre,List.getElem?_take_of_lt (by omega)]
     exact h1'
    exact ⟨u,rv,.inl ⟨S.par y (List.mem_of_getElem? hp),qhf9 S.nd hp hu⟩⟩
   ·rw [List.getElem?_append_right (by simpa using hi),List.getElem?_map,List.length_map] at h2
    have ha:cs[i - vs.length]?=some v:=by
     cases e:cs[i - vs.length]? with
     | none=>rw [e] at h2; cases h2
     | some a=>rw [e] at h2; cases h2; rfl
    have hN:N[ps.length+(i - vs.length)]?=some y:=by
     rw [<- hl,show vs.length+(i - vs.length)=i by omega]
     exact h1'
    obtain ⟨fr,c,u,e1,e2,rv⟩:=C.2.2 _ y v hN ha
    exact ⟨u,rv,.inr ⟨.inr fr,c,e1,(e2.keeps bk).keeps k1⟩⟩
  ·obtain ⟨v,q⟩:=cl y c h
   exact ⟨v,(q.keeps bk).keeps k1⟩
  ·obtain ⟨v,o,q,_⟩:=cl y c h
   exact (e0.bs _ _ q).2
  ·show (vs.map some ++ cs.map some).length=N.length
   rw [List.length_append,List.length_map,List.length_map,C.1,hl]
 refine wpAny_mono (ht [] _ _ H Q I hq) (fun u s' hs=>?_) fun _ _ z=>z.elim
 obtain ⟨v,H',J,rv,q⟩:=hs
 exact ⟨v,H',J.os,J.bare,J.base,J.hok,rv,q⟩
noncomputable def TabOk (H:Hp) (P:Addr) (pos:Pos) (qual:Str):Prop :=
 ∃ ps:Array Value,H P=some (.tbl ps)/\TriplesOk ps.toList/\(codeAmong pos ps.toList=none\/∃ c,codeAmong pos ps.toList=some (.ref c)/\H c=some (.ext (CodeQ c qual)))
noncomputable def SameT (P:Addr) (H H':Hp):Prop:=∀ b o,H b=some o->b ≠ P->H' b=some o
noncomputable def BMain (mg:Str->Option Value) (base:Heap):Prop:=∃ bm ob,mg "__builtins__" = some (.ref bm)/\bm ≠ builtinsNs/\base.get? bm=some ob/\ob.cls=.type "module" /\ ob.dict=some builtinsNs/\ob.data=.plain
noncomputable def fixed (X:Cx) (H:Hp) (h:Heap):Heap:=W.hideAll h (trk h H ++ frs X.stack)
theorem mem_trk {h:Heap} {H:Hp} {b:Addr}:b∈trk h H↔b < h.objs.size/\(H b).isSome=true:=by
 unfold trk
 rw [List.mem_filter,List.mem_range]
section
variable {X:Cx} {pins:List (Addr × Obj)} {σ:St} {H:Hp} {s:Shared}
theorem qei9 {b:Addr} {o:Obj} (e:s.heap.get? b=some o) (n:H b=none) (nf:b ∉ frs X.stack):(fixed X H s.heap).get? b=some o :=
 W.hideAll_get _ e fun z=>by
  rcases List.mem_append.mp z with z | z
  ·have:=(mem_trk.mp z).2
   rw [n] at this
   cases this
  ·exact nf z
theorem of_fixed {b:Addr} {o:Obj} (e:(fixed X H s.heap).get? b=some o):s.heap.get? b=some o/\H b=none:=by
 have e1:=W.of_hideAll _ e
 refine ⟨e1,?_⟩
 cases q:H b with
 | none=>rfl
 | some u =>
  have:(fixed X H s.heap).get? b=none:=W.hideAll_none _ (List.mem_append_left _ (mem_trk.mpr ⟨Heap.lt_size e1,by rw [q]; rfl⟩))
  rw [this] at e
  cases e
theorem Inv.base_fixed (I:Inv X pins σ H s):∀ b o,X.base.get? b=some o->(fixed X H s.heap).get? b=some o:=fun b o e=>by
 obtain ⟨e1,n⟩:=I.bs b o e
 refine qei9 e1 n fun z=>?_
 have:=(I.stack.mem z).1
 rw [this] at e
 cases e
theorem Inv.env_fixed (I:Inv X pins σ H s):Env0 X.prog X.w X.K X.mg (fixed X H s.heap) X.A X.stack s H:=by
 have k:=I.base_fixed
 obtain ⟨mb,h1,h2⟩:=I.mod.blt
 refine ⟨I.ok.frames,⟨I.mod.kin.keeps k,I.mod.glob.keeps k,⟨mb,h1.keeps k,h2⟩,I.mod.nolimit.keeps k⟩,fun b o e=>of_fixed e,Nat.le_of_eq (W.hideAll_size _ _),?_,I.stkFree,I.hok,I.bare⟩
 refine W.funFrames_hide I.stack fun env he a ha=>List.mem_append_right _ ?_
 exact List.mem_filterMap.mpr ⟨env,he,ha⟩
end
noncomputable def tLam (i:Nat) (P:Addr) (pos:Pos) (qual:Str) (te:TE) (spG:V->Addr->Addr->Sp):TE:=fun σ H Q=>∃ v,σ[i]?=some (some v)/\te σ H fun w H1=>TabOk H1 P pos qual /\
 ∀ fl c' H2,SameT P H1 H2->TabOk H2 P pos qual->H2 c'=some (.ext (CodeQ c' qual))->spG v fl c' [w,.ref fl] H2 Q E0
section
variable {X:Cx} {k:Nat} {x y:Str} {g c P cy:Addr} {gd:FuncData} {ps2 N ps:List Str} {spG:V->Addr->Addr->Sp} {e1 body:Expr} {te:TE} {params:Arguments} {sc:Scope} {lpos p pos:Pos} {clos:List (Str × Addr)}
theorem qif9 (i:Nat) (hr:Room k X.A) (hg:Gl X x) (hm:X.mg x=some (.ref g)) (hk:W.keepIn X.K (.ref g)=true) (hbG:Binds X.K gd ps2 []) (hl2:ps2.length=2) (hcode:X.env.code=.ref c) (hC:W.CodeHd X.base c P) (hB:BMain X.mg X.base)
  (hcl:closureFor sc X.env=pure clos) (hN:X.N[i]?=some y) (hky:X.env.kindOf y=some .cell) (hvy:Vis X.env.scope y) (hcy:X.env.cells.lookup y=some cy) (hfy:X.fn y=true) (hcly:clos.lookup y=some cy) (honly:∀ z d,clos.lookup z=some d->z=y/\d=cy) (hNp:N=ps ++ [y]) (hsy:sc.names.lookup y=some .free)
  (h1:PE X e1 te)
  (G:∀ (base':Heap) (fl c':Addr) (v:V) (pm ctv:Value),base'.get? fl=some (W.kla_obj "<lambda>" (X.env.qual ++ "<lambda>") params body sc clos pm c' ctv)->qhl9 base' sc clos N ps [v]->FnOk X.prog X.w X.K X.mg base' CX0 k g gd ps2 (spG v fl c'))
  (hdb:(x == ("__debug__" : Str))=false:=by decide) (hdef:defaultsOf params X.env=([],[]):=by rfl)
  (he:starEach [e1,.Lambda params body sc lpos] X.env=(false,eval e1 X.env) :: starEach [.Lambda params body sc lpos] X.env:=by rfl) (he2:starEach [.Lambda params body sc lpos] X.env=(false,eval (.Lambda params body sc lpos) X.env) :: starEach [] X.env:=by rfl)
  (hpl:(backTo pos (starEach [.Lambda params body sc lpos] X.env)).any (·.1)=false:=by rfl) :
  PE X (.Call (.Name x p) [e1,.Lambda params body sc lpos] [] pos) (tLam i P lpos (X.env.qual ++ "<lambda>") te spG):=by
 intro pins s σ H Q I h
 obtain ⟨v,hv,h⟩:=h
 refine wpAny_Call_Name_kw (qgz9 I hg hm ?_ hdb)
 refine W.callWith_K (h₀:=X.base) I.ok.mod.kin hk ?_ he hpl
 rw [he]
 show wpAny _ _ (spliced ((false,eval e1 X.env) :: backTo pos (starEach [.Lambda params body sc lpos] X.env))) _ _ s
 refine Calls.spliced_cons (thn (h1 pins s σ H _ I h) fun u1 s1 ⟨w1,H1,I1,r1,tab,q1⟩=>?_)
 rw [he2]
 show wpAny _ _ (spliced ((false,eval (.Lambda params body sc lpos) X.env) :: backTo pos (starEach [] X.env))) _ _ s1
 refine Calls.spliced_cons (W.kla_eval hdef ?_)
 have cellAt:∀ {H2:Hp} {s2:Shared},Inv X pins σ H2 s2->∃ u,RelV v u/\s2.heap.IsCell cy (some u):=fun {H2 s2} J=>by
  obtain ⟨m,_,hl⟩:=J.loc
  obtain ⟨u,ru,lk⟩:=hl i y v hN hv hvy
  rcases lk with ⟨z,_⟩ | ⟨_,d,e',q⟩
  ·rw [hky] at z; cases z
  ·rw [hcy] at e'
   cases e'
   exact ⟨u,ru,q⟩
 have fin:∀ (fl c':Addr) (pm ctv:Value) (H2:Hp) (s2:Shared),Inv X pins σ H2 s2->SameT P H1 H2->TabOk H2 P lpos (X.env.qual ++ "<lambda>")->H2 c'=some (.ext (CodeQ c' (X.env.qual ++ "<lambda>"))) ->
   s2.heap.get? fl=some (W.kla_obj "<lambda>" (X.env.qual ++ "<lambda>") params body sc clos pm c' ctv)->H2 fl=none->fl ∉ frs X.stack ->
   wpAny (model X.prog X.w) X.A (spliced (backTo pos (starEach [] X.env))) (fun vs s3=>X.K.In s3.heap/\wpAny (model X.prog X.w) X.A (call (.ref g) ([] ++ (u1 :: .ref fl :: vs))) (EP X pins σ Q) X.xe s3) X.xe s2:=by
  intro fl c' pm ctv H2 s2 I2 sm tb hc' hfl nfl nfs
  refine Calls.spliced_nil ⟨I2.kIn,?_⟩
  have hb1:=qei9 (X:=X) hfl nfl nfs
  obtain ⟨u,ru,oc,q1c,q2c⟩:=cellAt I2
  have nc:cy ∉ frs X.stack:=fun z=>by
   rcases List.mem_cons.mp (I2.stkSub cy z) with e | e
   ·exact I2.cne y cy hcy e
   ·have lo:=I2.ok.cab y cy hfy hcy
    obtain ⟨_,o,eo,_⟩:=I2.ok.funs.mem e
    exact absurd (Nat.lt_of_lt_of_le (Heap.lt_size eo) lo) (Nat.lt_irrefl _)
  have hb2:=qei9 (X:=X) q1c (I2.freeC y cy hcy) nc
  have ca:qhl9 (fixed X H2 s2.heap) sc clos N ps [v]:=by
   refine ⟨by rw [hNp,List.length_append]; rfl,fun z d e=>?_,fun j z v' e1 e2=>?_⟩
   ·obtain ⟨rfl,rfl⟩:=honly z d e
    exact ⟨some u,oc,hb2,q2c⟩
   ·cases j with
    | zero =>
     have e3:v=v':=Option.some.inj e2
     subst e3
     have e4:y=z:=by
      rw [hNp,Nat.add_zero,List.getElem?_append_right (Nat.le_refl _),Nat.sub_self] at e1
      exact Option.some.inj e1
     subst e4
     exact ⟨hsy,cy,u,hcly,⟨oc,hb2,q2c⟩,ru⟩
    | succ j=>cases e2
  have F:=G _ fl c' v pm ctv hb1 ca
  have hsp:=q1 fl c' H2 sm tb hc'
  have bnd:BindsTo s2 gd ⟨[u1,.ref fl],[]⟩ (ps2.zip [u1,.ref fl]):=by
   have:=hbG s2 [u1,.ref fl] I2.kIn (by rw [hl2]; rfl)
   simpa using this
  refine wpAny_call (codeAny_mono (F.run X.A X.stack s2 H2 ⟨[u1,.ref fl],[]⟩ [u1,.ref fl] [w1,.ref fl] Q E0 hr I2.env_fixed bnd (.cons r1 (.cons rfl .nil)) hsp) fun r s' hq=>?_)
  cases r with
  | error e=>exact False.elim hq
  | ok fl' =>
   cases fl' with
   | ret u=>exact I2.after hq
   | next=>exact False.elim hq
   | brk=>exact False.elim hq
   | cont=>exact False.elim hq
 obtain ⟨bm,ob,b1,b2,b3,b4,b5,b6⟩:=hB
 obtain ⟨ps0,hP,ht,hor⟩:=tab
 have hPo:s1.heap.get? P=some (W.tabObj ps0):=I1.hok P _ hP
 have notP:∀ b o,X.base.get? b=some o->b ≠ P:=fun b o e z=>by
  have:=(I1.bs b o e).2
  rw [z,hP] at this
  cases this
 obtain ⟨og,esg,epg,eg,dg,rg⟩:=I1.mod.glob
 have hbA:s1.heap.BuiltinsAt X.mg P:=⟨bm,ob,b1,b2,(fun z=>by rw [z,eg] at b3; cases b3; rw [b6] at dg; cases dg),notP _ _ b3,I1.bk _ _ b3,b4,b5,b6⟩
 have gl:s1.heap.Ns mainGlobals X.mg:=I1.mod.glob.keeps I1.bk
 rcases hor with hnf | ⟨c',hf,hc'⟩
 ·refine W.kla_makeFunction (mg:=X.mg) hcl I1.ok.glob gl hcode (hC.keeps I1.bk) hPo ht hnf (notP _ _ eg) hbA fun c' ctv h' tk hx hge hlt hrec htb=>?_
  have ltP:P < s1.heap.objs.size:=Heap.lt_size hPo
  have neP:P ≠ c':=Nat.ne_of_lt (Nat.lt_of_lt_of_le ltP hge)
  have nc':H1 c'=none:=I1.hok.fresh hge
  have old:∀ b o,b ≠ P->s1.heap.get? b=some o->(h'.push (W.kla_obj "<lambda>" (X.env.qual ++ "<lambda>") params body sc clos ((X.mg "__name__").getD .none) c' ctv)).get? b=some o:=fun b o n e=>Heap.get?_push_of_some _ (hx b o n e)
  have kP:∀ b o,H1 b=some o->(∀ z,o ≠ .tbl z)->b ≠ P:=fun b o e n z=>by rw [z,hP] at e; exact n ps0 (Option.some.inj e).symm
  have up:∀ b o,H1 b=some o->b ≠ P->upd (upd H1 c' (.ext (CodeQ c' (X.env.qual ++ "<lambda>")))) P (.tbl (ps0 ++ #[rawInt lpos.line,rawInt lpos.col,.ref c'])) b=some o:=fun b o e n=>by
   rw [qao9 n,qao9 (qax9 e nc')]
   exact e
  have upN:∀ b,H1 b=none->b ≠ c'->upd (upd H1 c' (.ext (CodeQ c' (X.env.qual ++ "<lambda>")))) P (.tbl (ps0 ++ #[rawInt lpos.line,rawInt lpos.col,.ref c'])) b=none:=fun b e n=>by
   rw [qao9 (fun z=>by rw [z,hP] at e; cases e),qao9 n]
   exact e
  have u:Un X.fs [] H1 (upd (upd H1 c' (.ext (CodeQ c' (X.env.qual ++ "<lambda>")))) P (.tbl (ps0 ++ #[rawInt lpos.line,rawInt lpos.col,.ref c']))) s1.heap (h'.push (W.kla_obj "<lambda>" (X.env.qual ++ "<lambda>") params body sc clos ((X.mg "__name__").getD .none) c' ctv)):=by
   have nP:∀ b,H1 b=none->b ≠ P:=fun b n z=>by rw [z,hP] at n; cases n
   refine ⟨fun b o e n _ _=>old b o (nP b n) e,fun b o e n _ _=>⟨o.slots,old b o (nP b n) e⟩,fun b o e n _=>upN b n (Nat.ne_of_lt (Nat.lt_of_lt_of_le (Heap.lt_size e) hge)),fun b o e _=>?_,fun b xs e=>up b _ e (kP b _ e fun _ z=>nomatch z),fun b o w e=>up b _ e (kP b _ e fun _ z=>nomatch z),fun b pz e=>?_⟩
   ·by_cases hb:b=P
    ·rw [hb]
     exact ⟨_,Heap.get?_push_of_some _ htb⟩
    ·exact ⟨o,old b o hb e⟩
   ·by_cases hb:b=P
    ·rw [hb] at e ⊢
     rw [hP] at e
     cases e
     exact ⟨_,qaf9⟩
    ·exact ⟨#[],by rw [up b _ e hb]; simp⟩
  have hok:HOk X.prog X.w (upd (upd H1 c' (.ext (CodeQ c' (X.env.qual ++ "<lambda>")))) P (.tbl (ps0 ++ #[rawInt lpos.line,rawInt lpos.col,.ref c']))) (h'.push (W.kla_obj "<lambda>" (X.env.qual ++ "<lambda>") params body sc clos ((X.mg "__name__").getD .none) c' ctv)):=by
   intro b o e
   by_cases hb:b=P
   ·rw [hb,qaf9] at e
    cases e
    rw [hb]
    exact Heap.get?_push_of_some _ htb
   ·rw [qao9 hb] at e
    by_cases hb2:b=c'
    ·rw [hb2,qaf9] at e
     cases e
     rw [hb2]
     obtain ⟨c2,oc,vs,tq,ee,hoc,rest⟩:=hrec
     cases ee
     refine ⟨⟨_,oc,vs,tq,rfl,Heap.get?_push_of_some _ hoc,rest⟩,⟨oc,Heap.get?_push_of_some _ hoc⟩,fun h1 h2 hq hk=>?_⟩
     obtain ⟨c3,o3,v3,t3,e3,g3,r3⟩:=hq
     cases e3
     exact ⟨_,o3,v3,t3,rfl,hk _ g3,r3⟩
    ·rw [qao9 hb2] at e
     refine (I1.hok b o e).stay (fun d z hd q=>old d z ?_ q) (fun d q=>up d _ q (kP d _ q fun _ z=>nomatch z)) fun d xs q=>up d _ q (kP d _ q fun _ z=>nomatch z)
     rcases hd with hd | hd
     ·rw [hd]; exact hb
     ·exact kP d _ hd fun _ z=>nomatch z
  have I2:=I1.un (t':=tk) u hok
  refine fin h'.objs.size c' _ ctv _ _ I2 (fun b o e n=>up b o e n) ⟨_,qaf9,?_,.inr ⟨c',?_,?_⟩⟩ ?_ (Heap.get?_push_size _ rfl) ?_ ?_
  ·have:=TriplesOk_snoc lpos.line lpos.col (.ref c') ps0.toList ht
   simpa using this
  ·have:=codeAmong_snoc (pos:=lpos) (c:=.ref c') ps0.toList ht hnf
   simpa using this
  ·rw [qao9 neP.symm,qaf9]
  ·rw [qao9 neP.symm,qaf9]
  ·refine upN _ (I1.hok.fresh (Nat.le_trans hge (Nat.le_of_lt hlt))) (Nat.ne_of_gt hlt)
  ·exact fun z=>by
    rcases List.mem_cons.mp (I1.stkSub _ z) with e | e
    ·exact absurd (I1.lt) (by rw [<- e]; exact Nat.not_lt.mpr (Nat.le_trans hge (Nat.le_of_lt hlt)))
    ·exact I1.nofs (Nat.le_trans hge (Nat.le_of_lt hlt)) e
 ·refine W.kla_makeFunctionHit (mg:=X.mg) hcl I1.ok.glob gl hcode (hC.keeps I1.bk) hPo ht hf hbA fun ctv h' tk hk hsz=>?_
  have I2:Inv X pins σ H1 { s1 with heap:=h'.push { cls:=.type "function",data:=.func (W.kla_fn "<lambda>" (X.env.qual ++ "<lambda>") params body sc clos ((X.mg "__name__").getD .none) (.ref c') ctv) },toks:=tk }:=I1.kept (t':=tk) fun b o e=>Heap.get?_push_of_some _ (hk b o e)
  refine fin h'.objs.size c' _ ctv H1 _ I2 (fun b o e _=>e) ⟨ps0,hP,ht,.inr ⟨c',hf,hc'⟩⟩ hc' (Heap.get?_push_size _ rfl) (I1.hok.fresh hsz) ?_
  exact fun z=>by
   rcases List.mem_cons.mp (I1.stkSub _ z) with e | e
   ·exact absurd (I1.lt) (by rw [<- e]; exact Nat.not_lt.mpr hsz)
   ·exact I1.nofs hsz e
end
theorem law_callT {P:Program} {w:World} {K:W.Frag} {mg mb:Str->Option Value} {k:Nat} {fa a:Addr} {fd:FuncData} {x:Str} {sp:Sp} {s₁:Shared} {vs:List Value} {ns:List Int} {tabs:List (Addr × Addr)}
  (KX:K.In s₁.heap) (hns:s₁.heap.Ns mainGlobals mg) (hb:s₁.heap.Ns builtinsNs mb) (hbb:∀ x:Str,x ≠ "__name__" -> mb x=bootBuiltins x) (hlim:s₁.heap.NoLimit) (hg:s₁.gens=#[])
  (ha:s₁.heap.get? a=some { cls:=.type "list",data:=.seq vs.toArray }) (hi:IntsAre vs ns) (hl:ns.length<=sizeLine) (hr:Room k callerA) (hBM:BMain mg s₁.heap)
  (hT:∀ q∈tabs,W.CodeHd s₁.heap q.1 q.2/\s₁.heap.get? q.2=some (W.tabObj #[])/\K.lookup q.2=none)
  (F:∀ base:Heap,K.In base->base.Ns mainGlobals mg->BMain mg base->(∀ q∈tabs,W.CodeHd base q.1 q.2)->FnOk P w K mg base CX0 k fa fd [x] sp) (hbind:∀ (s:Shared) (u:Value),BindsTo s fd ⟨[u],[]⟩ [(x,u)])
  (hsp:∀ H:Hp,(∀ q∈tabs,H q.2=some (.tbl #[]))->SqL K H a (ns.map V.int)->sp [.ref a] H (fun v _=>v=.bl true) fun _ _ _=>False) :
  codeAny (model P w) callerA (.call (.ref fa) ⟨[.ref a],[]⟩) (fun r s'=>r=.ok (.ret (.bool true))/\OldK s₁.heap s'.heap/\s'.os=s₁.os/\AllBare s'.gens) s₁:=by
 have rv:=qlg9 hi
 have lenV:=hi.length
 have aT:∀ q∈tabs,q.2 ≠ a:=fun q hq z=>by
  have:=(hT q hq).2.1
  rw [z,ha] at this
  cases this
 have core:∀ H:Hp,(∀ b,H b=none\/(b=a/\K.lookup a=none/\H b=some (.frz { cls:=.type "list",data:=.seq vs.toArray } (.lst (ns.map V.int))))\/∃ q∈tabs,b=q.2/\H b=some (.tbl #[]))->(∀ q∈tabs,H q.2=some (.tbl #[]))->SqL K H a (ns.map V.int) ->
   codeAny (model P w) callerA (.call (.ref fa) ⟨[.ref a],[]⟩) (fun r s'=>r=.ok (.ret (.bool true))/\OldK s₁.heap s'.heap/\s'.os=s₁.os/\AllBare s'.gens) s₁:=by
  intro H hO hTb hS
  have hok:HOk P w H s₁.heap:=fun b u z=>by
   rcases hO b with e | ⟨e,_,e2⟩ | ⟨q,hq,e,e2⟩
   ·rw [e] at z; cases z
   ·rw [e2] at z
    cases z
    subst e
    exact ⟨ha,by rw [List.length_map]; exact hl,vs,_,rv,ha⟩
   ·rw [e2] at z
    cases z
    rw [e]
    exact (hT q hq).2.1
  have base_of:∀ {b:Addr} {o:Obj},s₁.heap.get? b=some o->H b=none->(hidT s₁.heap H).get? b=some o:=fun e n=>hidT_get e n
  have unt:∀ {b:Addr} {o:Obj},s₁.heap.get? b=some o->o.cls ≠ .type "list" -> o.cls ≠ .none->H b=none:=fun {b o} e n1 n2=>by
   rcases hO b with z | ⟨z,_,_⟩ | ⟨q,hq,z,_⟩
   ·exact z
   ·rw [z,ha] at e; cases e; exact absurd rfl n1
   ·rw [z,(hT q hq).2.1] at e; cases e; exact absurd rfl n2
  have noA:∀ {b:Addr} {o:Obj} {es:Array DictEntry} {ep:Nat},s₁.heap.get? b=some o->o.data=.dict es ep->H b=none:=fun {b o es ep} e d=>by
   rcases hO b with z | ⟨z,_,_⟩ | ⟨q,hq,z,_⟩
   ·exact z
   ·rw [z,ha] at e; cases e; cases (show Data.seq vs.toArray _=Data.dict es ep from d)
   ·rw [z,(hT q hq).2.1] at e; cases e; cases (show Data.fields _=Data.dict es ep from d)
  have nsK:∀ {b:Addr} {m:Str->Option Value},s₁.heap.Ns b m->(hidT s₁.heap H).Ns b m:=fun {b m} ⟨o,es,ep,e,d,r⟩=>⟨o,es,ep,base_of e (noA e d),d,r⟩
  have hKb:K.In (hidT s₁.heap H):=fun b o e=>base_of (KX b o e) (by
   rcases hO b with z | ⟨z,zk,_⟩ | ⟨q,hq,z,_⟩
   ·exact z
   ·rw [z,zk] at e; cases e
   ·rw [z,(hT q hq).2.2] at e; cases e)
  have hM:Mod K mg (hidT s₁.heap H):=⟨hKb,nsK hns,⟨mb,nsK hb,hbb⟩,let ⟨mc,h1,h2⟩:=hlim; ⟨mc,nsK h1,h2⟩⟩
  have hB2:BMain mg (hidT s₁.heap H):=by
   obtain ⟨bm,ob,b1,b2,b3,b4,b5,b6⟩:=hBM
   exact ⟨bm,ob,b1,b2,base_of b3 (unt b3 (by rw [b4]; decide) (by rw [b4]; intro z; cases z)),b4,b5,b6⟩
  have hC2:∀ q∈tabs,W.CodeHd (hidT s₁.heap H) q.1 q.2:=fun q hq=>by
   obtain ⟨o,vs',file,tf,flags,tg,inF,text,tt,e1,r1,r⟩:=(hT q hq).1
   exact ⟨o,vs',file,tf,flags,tg,inF,text,tt,base_of e1 (unt e1 (by rw [r1]; decide) (by rw [r1]; intro z; cases z)),r1,r⟩
  have e0:Env0 P w K mg (hidT s₁.heap H) callerA [] s₁ H:=⟨rfl,hM,fun b o e=>of_hidT e,Nat.le_of_eq (hidT_size _ _),trivial,fun b hb=>absurd (show b∈([]:List Addr) from hb) (by simp),hok,.of_eq hg⟩
  refine codeAny_mono ((F _ hKb (nsK hns) hB2 hC2).run callerA [] s₁ H ⟨[.ref a],[]⟩ [.ref a] [.ref a] _ _ hr e0 (hbind s₁ (.ref a)) (.cons rfl .nil) (hsp H hTb hS)) fun r s' h=>?_
  cases r with
  | error e=>exact False.elim h
  | ok fl =>
   cases fl with
   | next=>exact False.elim h
   | brk=>exact False.elim h
   | cont=>exact False.elim h
   | ret u =>
    obtain ⟨v,H',os,bare,un,hok',r',q⟩:=h
    have q':v=.bl true:=q
    subst q'
    obtain rfl:u=Value.bool true:=r'
    have at_:∀ b o,s₁.heap.get? b=some o->s'.heap.get? b=some o\/∃ q∈tabs,b=q.2/\∃ more,s'.heap.get? b=some (W.tabObj (#[] ++ more)):=fun b o e=>by
     rcases hO b with z | ⟨z,_,z2⟩ | ⟨q,hq,z,z2⟩
     ·exact .inl (un.keep b o e z (by intro z; exact absurd (show b∈([]:List Addr) from z) (by simp)) (by simp))
     ·have z3:=un.frzs b _ _ z2
      obtain ⟨e2,_⟩:=hok' b _ z3
      rw [z,ha] at e
      cases e
      exact .inl e2
     ·obtain ⟨more,z3⟩:=un.tbls b _ z2
      exact .inr ⟨q,hq,z,more,hok' b _ z3⟩
    refine ⟨rfl,⟨fun b o e=>?_,fun b o e=>?_⟩,os,bare⟩
    ·rcases at_ b o e with z | ⟨q,hq,z,more,z2⟩
     ·exact .inl z
     ·have e2:=(hT q hq).2.1
      rw [<- z,e] at e2
      cases e2
      refine .inr (.inl ⟨?_,rfl,#[],more,rfl,z2⟩)
      rw [z]
      exact ((hT q hq).1.tab (hT q hq).2.1).isCodeTable
    ·rcases at_ b o e with z | ⟨q,hq,z,more,z2⟩
     ·exact ⟨_,z⟩
     ·exact ⟨_,z2⟩
 cases hk:K.lookup a with
 | some o =>
  have e:=KX a o hk
  rw [ha] at e
  cases e
  refine core (fun b=>if b∈tabs.map (·.2) then some (.tbl #[]) else none) (fun b=>?_) (fun q hq=>if_pos (List.mem_map_of_mem hq)) (.inr ⟨_,vs.toArray,_,hk,rfl,rfl,rfl,by rw [List.size_toArray,lenV]; exact hl,by simpa using rv⟩)
  by_cases hb:b∈tabs.map (·.2)
  ·obtain ⟨q,hq,e⟩:=List.mem_map.mp hb
   exact .inr (.inr ⟨q,hq,e.symm,if_pos hb⟩)
  ·exact .inl (if_neg hb)
 | none =>
  have na:a ∉ tabs.map (·.2):=fun z=>by
   obtain ⟨q,hq,e⟩:=List.mem_map.mp z
   exact aT q hq e
  refine core (fun b=>if b∈tabs.map (·.2) then some (.tbl #[]) else if b=a then some (.frz { cls:=.type "list",data:=.seq vs.toArray } (.lst (ns.map V.int))) else none) (fun b=>?_) (fun q hq=>if_pos (List.mem_map_of_mem hq)) (.inl (.inr ⟨{ cls:=.type "list",data:=.seq vs.toArray },?_⟩))
  ·by_cases hb:b∈tabs.map (·.2)
   ·obtain ⟨q,hq,e⟩:=List.mem_map.mp hb
    exact .inr (.inr ⟨q,hq,e.symm,if_pos hb⟩)
   ·by_cases hb2:b=a
    ·exact .inr (.inl ⟨hb2,hk,by rw [if_neg hb,if_pos hb2]⟩)
    ·exact .inl (by rw [if_neg hb,if_neg hb2])
  ·show (if a∈tabs.map (·.2) then _ else _)=_
   rw [if_neg na,if_pos rfl]
theorem walk_ofT {l:W.OpenLaw} {n k:Nat} {q:Program} {loose:List Str} {XP:(Str->Option Value)->Heap->Prop} {YP:World->Heap->Prop} {d:DefRec} {K:Params->W.Frag} {sp:W.Frag->List (Addr × Addr)->Sp} {x:Str}
  (hn:l.most=some n) (hn2:n<=sizeLine) (hdf:d.params.defaults=[]) (hr:Room k callerA)
  (hY:∀ (w:World) (h:Heap),YP w h->(K w.params).In h)
  (F:∀ (w:World) (mg mb:Str->Option Value) (mean:ExcName->Option Value) (fa:Addr) (h:Heap),(K w.params).In h->Top q (W.looseW q loose) mean mg mb h->mg d.name=some (.ref fa) ->
   ∃ (fd:FuncData) (tabs:List (Addr × Addr)),(∀ (s:Shared) (u:Value),BindsTo s fd ⟨[u],[]⟩ [(x,u)])/\(∀ t∈tabs,W.CodeHd h t.1 t.2/\h.get? t.2=some (W.tabObj #[])/\(K w.params).lookup t.2=none) /\
    ∀ base:Heap,(K w.params).In base->base.Ns mainGlobals mg->BMain mg base->(∀ t∈tabs,W.CodeHd base t.1 t.2)->FnOk l.prog w (K w.params) mg base CX0 k fa fd [x] (sp (K w.params) tabs))
  (hsp:∀ (K:W.Frag) (tabs:List (Addr × Addr)) (H:Hp) (a:Addr) (ns:List Int),ns.length<=n->(∀ t∈tabs,H t.2=some (.tbl #[]))->SqL K H a (ns.map V.int)->sp K tabs [.ref a] H (fun v _=>v=.bl true) fun _ _ _=>False) :
  W.WalkO q loose XP YP l.row.toRowW d [] (fun f vs=>PySem.call f vs):=by
 refine Att.attach_call hn hdf fun w s₀ s₁ mg mb fa o pm cd doc a vs ns G Y ho hd hcd hmg hobj hints hlen hg=>?_
 have KX:=hY w _ Y
 obtain ⟨fd,tabs,hb,hT,hF⟩:=F w mg mb _ fa _ KX G.T hmg
 obtain ⟨bm,ob,b1,b2,b3,b4,b5,b6⟩:=G.T.bmain
 exact law_callT KX G.T.g G.T.b G.T.builtins G.T.nolimit hg hobj hints (Nat.le_trans hlen hn2) hr ⟨bm,ob,b1,b2,b3,b4,b5,b6⟩ hT hF hb (fun H hTb hS=>hsp _ _ H a ns hlen hTb hS)
theorem Inv.turnedL {X:Cx} {pins:List (Addr × Obj)} {σ:St} {H H':Hp} {s:Shared} {h':Heap} {ch:List Addr} (I:Inv X pins σ H s) (hf:∀ b∈ch,FpOk X pins H b) (k:∀ b o,b ∉ ch->s.heap.get? b=some o->h'.get? b=some o)
  (up:∀ b o,H b=some o->H' b=some o) (no:∀ b o,s.heap.get? b=some o->H b=none->H' b=none) (new:∀ b o,H b=none->H' b=some o->ObjOk X.prog X.w H' h' b o):Inv X pins σ H' { s with heap:=h' }:=by
 have tr:∀ b o,H b=some o->b ∉ ch:=fun b o e z=>by rw [(hf b z).1] at e; cases e
 refine I.call (s:=s) (h':=h') (g':=s.gens) (d':=s.drawn) (t':=s.toks) (ch:=ch) ⟨fun b o e _ _ hx=>k b o hx e,fun b o e _ _ hx=>⟨o.slots,k b o hx e⟩,fun b o e n _=>no b o e n,fun b o e hx=>⟨o,k b o hx e⟩,fun b xs e=>up b _ e,fun b o u e=>up b _ e,fun b ps e=>⟨#[],by rw [up b _ e]; simp⟩⟩ (fun b o e=>?_) I.bare fun b hb=>?_
 ·cases q:H b with
  | none=>exact new b o q e
  | some o2 =>
   have e2:=up b o2 q
   rw [e] at e2
   cases e2
   refine (I.hok b o q).stay (fun c v hc q2=>k c v ?_ q2) (fun c q2=>up c _ q2) fun c xs q2=>up c _ q2
   rcases hc with hc | hc
   ·rw [hc]; exact tr b o q
   ·exact tr c _ hc
 ·obtain ⟨_,f1,_,f3,f4,f5⟩:=hf b hb
  exact ⟨f3,f1,f4,f5⟩
section
variable {X:Cx}
end
section
variable {K:W.Frag} {a b:Addr} {xs ys:List V} {caps:List (Option Nat)} {g:TG} {tt:TT} {te:TE} {σ:St} {H:Hp} {Q:VK}
end
section
variable {X:Cx}
variable {e o a:Expr} {es:List Expr} {to:TE} {t:TA} {apos pos:Pos}
end
end L2
namespace Ma
noncomputable abbrev T4:=Int × Int × Bool × Int
noncomputable def btS (d t:Int) (best:Option Int) (w:T3):Option Int :=
 match best with
 | none=>some (nextO d w.1 w.2.1 t+w.2.2)
 | some b=>if nextO d w.1 w.2.1 t+w.2.2 < b then some (nextO d w.1 w.2.1 t+w.2.2) else some b
noncomputable def bt (d:Int) (R:List T3) (t:Int):Option Int:=R.foldl (btS d t) none
theorem bt_nil (d t:Int):bt d [] t=none:=rfl
theorem bt_snoc (d:Int) (R:List T3) (w:T3) (t:Int):bt d (R ++ [w]) t=btS d t (bt d R t) w:=by
 unfold bt
 rw [List.foldl_append]
 rfl
structure IsMin (d t:Int) (R:List T3) (y:Int):Prop where
 at_:∃ w∈R,y=nextO d w.1 w.2.1 t+w.2.2
 le:∀ w∈R,y<=nextO d w.1 w.2.1 t+w.2.2
theorem IsMin.uniq {d t:Int} {R:List T3} {y y':Int} (h:IsMin d t R y) (h':IsMin d t R y'):y=y':=by
 obtain ⟨w,hw,e⟩:=h.at_
 obtain ⟨w',hw',e'⟩:=h'.at_
 have:=h.le w' hw'
 have:=h'.le w hw
 omega
theorem fold_bt (d t:Int):∀ (R:List T3) (best:Option Int),(best=none/\R=[]/\R.foldl (btS d t) best=none) \/
  ∃ y,R.foldl (btS d t) best=some y/\(best=some y\/∃ w∈R,y=nextO d w.1 w.2.1 t+w.2.2)/\(∀ b,best=some b->y<=b)/\∀ w∈R,y<=nextO d w.1 w.2.1 t+w.2.2
 | [],none=>.inl ⟨rfl,rfl,rfl⟩
 | [],some b=>.inr ⟨b,rfl,.inl rfl,fun b' e=>by cases e; exact Int.le_refl _,fun w hw=>by cases hw⟩
 | w :: R,best=>by
  rw [List.foldl_cons]
  rcases fold_bt d t R (btS d t best w) with ⟨e,_⟩ | ⟨y,e1,e2,e3,e4⟩
  ·cases best with
   | none=>cases e
   | some b =>
    simp only [btS] at e
    split at e <;> cases e
  ·refine .inr ⟨y,e1,?_,fun b hb=>?_,fun u hu=>?_⟩
   ·rcases e2 with e2 | ⟨u,hu,e2⟩
    ·cases best with
     | none =>
      cases e2
      exact .inr ⟨w,List.mem_cons_self ..,rfl⟩
     | some b =>
      simp only [btS] at e2
      split at e2
      ·cases e2
       exact .inr ⟨w,List.mem_cons_self ..,rfl⟩
      ·cases e2
       exact .inl rfl
    ·exact .inr ⟨u,List.mem_cons_of_mem _ hu,e2⟩
   ·subst hb
    by_cases c:nextO d w.1 w.2.1 t+w.2.2 < b
    ·have:=e3 _ (by simp only [btS]; rw [if_pos c])
     omega
    ·exact e3 _ (by simp only [btS]; rw [if_neg c])
   ·rcases List.mem_cons.mp hu with rfl | hu
    ·cases best with
     | none=>exact e3 _ rfl
     | some b =>
      by_cases c:nextO d u.1 u.2.1 t+u.2.2 < b
      ·exact e3 _ (by simp only [btS]; rw [if_pos c])
      ·have:=e3 b (by simp only [btS]; rw [if_neg c])
       omega
    ·exact e4 u hu
theorem bt_spec (d t:Int) (R:List T3):(R=[]/\bt d R t=none)\/∃ y,bt d R t=some y/\IsMin d t R y:=by
 rcases fold_bt d t R none with ⟨_,e,e2⟩ | ⟨y,e1,e2,_,e4⟩
 ·exact .inl ⟨e,e2⟩
 ·refine .inr ⟨y,e1,?_,e4⟩
  rcases e2 with e2 | e2
  ·cases e2
  ·exact e2
theorem IsMin.bt {d t:Int} {R:List T3} {y:Int} (h:IsMin d t R y):bt d R t=some y:=by
 rcases bt_spec d t R with ⟨rfl,_⟩ | ⟨y',e,h'⟩
 ·obtain ⟨w,hw,_⟩:=h.at_
  cases hw
 ·rw [e,h.uniq h']
theorem bt_min {d t:Int} {R:List T3} {y:Int} (h:bt d R t=some y):IsMin d t R y:=by
 rcases bt_spec d t R with ⟨rfl,e⟩ | ⟨y',e,h'⟩
 ·rw [e] at h; cases h
 ·rw [e] at h
  cases h
  exact h'
noncomputable def Tells (d:Int) (R:List T3) (f:Int->Int):Prop:=∀ t,bt d R t=some (f t)
noncomputable def bf (d:Int) (R:List T3) (t:Int):Int:=(bt d R t).getD 0
theorem tells_bf {d:Int} {R:List T3} (h:R ≠ []):Tells d R (bf d R):=fun t=>by
 unfold bf
 rcases bt_spec d t R with ⟨e,_⟩ | ⟨y,e,_⟩
 ·exact absurd e h
 ·rw [e]; rfl
theorem Tells.ne {d:Int} {R:List T3} {f:Int->Int} (h:Tells d R f):R ≠ []:=fun e=>by
 have:=h 0
 rw [e,bt_nil] at this
 cases this
structure Rise (d:Int) (f:Int->Int):Prop where
 ge:∀ t,t<=f t
 mono:∀ t u,t<=u->f t<=f u
 per:∀ t,f (t+d)=f t+d
theorem Rise.mul {d:Int} {f:Int->Int} (r:Rise d f) (t:Int):∀ k:Int,f (t+d * k)=f t+d * k:=by
 have up:∀ (t:Int) (n:Nat),f (t+d * (n:Int))=f t+d * (n:Int):=fun t n=>by
  induction n with
  | zero=>simp
  | succ n ih =>
   have e:d * ((n+1:Nat):Int)=d * (n:Int)+d:=by
    rw [Int.natCast_add,Int.mul_add]
    simp
   rw [e,<- Int.add_assoc,r.per,ih]
   omega
 intro k
 rcases Int.le_total 0 k with h | h
 ·have e:k=((k.toNat:Nat):Int):=by omega
  rw [e]
  exact up t _
 ·obtain ⟨m,e⟩:∃ m:Nat,k=-(m:Int):=⟨(-k).toNat,by omega⟩
  subst e
  have:=up (t+d * -(m:Int)) m
  rw [Int.mul_neg] at this ⊢
  have e2:t+-(d * (m:Int))+d * (m:Int)=t:=by omega
  rw [e2] at this
  omega
noncomputable def Wins (d:Int) (R:List T3):Prop:=∀ w∈R,0<=w.1/\w.1<=w.2.1/\w.2.1 < d/\0<=w.2.2
theorem next_mono {d a b t u:Int} (hd:0 < d) (h0:0<=a) (h1:a<=b) (h2:b < d) (l:t<=u):nextO d a b t<=nextO d a b u:=by
 obtain ⟨k,k1,k2,k3,k4,k5⟩:=qby9 (t:=u) hd h0 h1 h2
 obtain ⟨k',_,_,_,_,m5⟩:=qby9 (t:=t) hd h0 h1 h2
 exact m5 k _ k1 k2 (by omega)
theorem qnk9 {d a b t:Int}:nextO d a b (t+d)=nextO d a b t+d:=by
 unfold nextO
 rw [Int.add_emod_right]
 split <;> omega
theorem board_rise {d:Int} {R:List T3} {f:Int->Int} (hd:0 < d) (W:Wins d R) (T:Tells d R f):Rise d f:=by
 have m:∀ t,IsMin d t R (f t):=fun t=>bt_min (T t)
 refine ⟨fun t=>?_,fun t u l=>?_,fun t=>?_⟩
 ·obtain ⟨w,hw,e⟩:=(m t).at_
  obtain ⟨w0,w1,w2,w3⟩:=W w hw
  obtain ⟨_,_,_,k3,_⟩:=qby9 (t:=t) hd w0 w1 w2
  omega
 ·obtain ⟨w,hw,e⟩:=(m u).at_
  obtain ⟨w0,w1,w2,w3⟩:=W w hw
  have:=(m t).le w hw
  have:=next_mono hd w0 w1 w2 l
  omega
 ·refine IsMin.uniq (m (t+d)) ⟨?_,fun w hw=>?_⟩
  ·obtain ⟨w,hw,e⟩:=(m t).at_
   exact ⟨w,hw,by rw [qnk9]; omega⟩
  ·have:=(m t).le w hw
   rw [qnk9]
   omega
structure CK (d:Int) (R:List T3):Prop where
 d0:0 < d
 win:Wins d R
 srt:R.Pairwise fun u v=>u.2.1 < v.1/\u.2.1+u.2.2 < v.1+v.2.2/\(u.2.1+1=v.1->u.2.2 ≠ v.2.2)
 wr:∀ u∈R,∀ v∈R,u.2.1+u.2.2 < d+(v.1+v.2.2)
theorem ck_nil {d:Int} (h:0 < d):CK d []:=⟨h,(fun w hw=>by cases hw),List.Pairwise.nil,(fun w hw=>by cases hw)⟩
theorem qfc9 {R:List T3} {i:Nat} (h:i < R.length):(rA R i,rB R i,rC R i)∈R:=List.mem_of_getElem? (r_at h)
theorem qge9 {R:List T3} {w:T3} (h:w∈R):∃ i,i < R.length/\rA R i=w.1/\rB R i=w.2.1/\rC R i=w.2.2:=by
 obtain ⟨i,hi,e⟩:=List.mem_iff_getElem.mp h
 have e2:R[i]?=some (w.1,w.2.1,w.2.2):=by rw [List.getElem?_eq_getElem hi,e]
 exact ⟨i,hi,r_of e2⟩
theorem qjj9 {R:List T3} {p:T3->T3->Prop} (h:R.Pairwise p) {i j:Nat} (hij:i < j) (hj:j < R.length):p (rA R i,rB R i,rC R i) (rA R j,rB R j,rC R j):=by
 have e1:=r_at (R:=R) (i:=i) (by omega)
 have e2:=r_at (R:=R) hj
 rw [List.getElem?_eq_getElem (by omega)] at e1
 rw [List.getElem?_eq_getElem hj] at e2
 have:=List.pairwise_iff_getElem.mp h i j (by omega) hj hij
 rw [Option.some.inj e1,Option.some.inj e2] at this
 exact this
theorem CK.clk {d:Int} {R:List T3} (h:CK d R):Clk d R.length (rA R) (rB R) (rC R) :=
 ⟨h.d0,fun i hi=>(h.win _ (qfc9 hi)).1,fun i hi=>(h.win _ (qfc9 hi)).2.1,fun i hi=>(h.win _ (qfc9 hi)).2.2.1,fun i hi=>(h.win _ (qfc9 hi)).2.2.2,
  fun i j hij hj=>(qjj9 h.srt hij hj).1,fun i j hij hj=>(qjj9 h.srt hij hj).2.1,fun i j hi hj=>h.wr _ (qfc9 hi) _ (qfc9 hj)⟩
theorem ex_min (g:Nat->Int):∀ n:Nat,0 < n->∃ j,j < n/\∀ i,i < n->g j<=g i
 | 0,h=>absurd h (Nat.lt_irrefl _)
 | 1,_=>⟨0,by omega,fun i hi=>by have:i=0:=(by omega); rw [this]; exact Int.le_refl _⟩
 | n+2,_=>by
  obtain ⟨j,hj,h⟩:=ex_min g (n+1) (by omega)
  rcases Int.le_total (g j) (g (n+1)) with c | c
  ·refine ⟨j,by omega,fun i hi=>?_⟩
   rcases (by omega:i < n+1\/i=n+1) with z | z
   ·exact h i z
   ·rw [z]; exact c
  ·refine ⟨n+1,by omega,fun i hi=>?_⟩
   rcases (by omega:i < n+1\/i=n+1) with z | z
   ·have:=h i z
    omega
   ·rw [z]; exact Int.le_refl _
theorem qkk9 {d:Int} {R:List T3} (K:Clk d R.length (rA R) (rB R) (rC R)) (n0:R.length ≠ 0) (t:Int):∃ x y,First d R.length (rA R) (rB R) (rC R) t x y/\bt d R t=some y:=by
 obtain ⟨j,hj,hm⟩:=ex_min (fun i=>nextO d (rA R i) (rB R i) t) R.length (by omega)
 have F:=first_min K hj hm
 refine ⟨_,_,F,IsMin.bt ⟨⟨_,qfc9 hj,rfl⟩,fun w hw=>?_⟩⟩
 obtain ⟨i,hi,e1,e2,e3⟩:=qge9 hw
 obtain ⟨k,k1,k2,k3,k4,k5⟩:=qby9 (t:=t) K.d0 (K.a0 i hi) (K.ab i hi) (K.bd i hi)
 have D:Dep d R.length (rA R) (rB R) (rC R) (nextO d (rA R i) (rB R i) t) (nextO d (rA R i) (rB R i) t+rC R i):=⟨i,k,hi,k1,k2,rfl⟩
 have le:=F.least _ _ D k3
 rw [<- e1,<- e2,<- e3]
 rcases (by omega:nextO d (rA R j) (rB R j) t < nextO d (rA R i) (rB R i) t\/nextO d (rA R j) (rB R j) t=nextO d (rA R i) (rB R i) t) with z | z
 ·have:=qmq9 K F.dep D z
  omega
 ·rw [<- z] at D
  have:=qoy9 K F.dep D
  omega
theorem first_bt {d:Int} {R:List T3} (K:Clk d R.length (rA R) (rB R) (rC R)) {t x y:Int} (h:First d R.length (rA R) (rB R) (rC R) t x y):bt d R t=some y:=by
 have n0:R.length ≠ 0:=by
  obtain ⟨i,_,hi,_⟩:=h.dep
  omega
 obtain ⟨x',y',h',e⟩:=qkk9 K n0 t
 rw [e,(h.uniq K h').2]
structure Can (lo P:Int) (f:Int->Int) (R:List T3):Prop where
 srt:R.Pairwise fun u v=>u.2.1 < v.1/\(u.2.1+1=v.1->u.2.2 ≠ v.2.2)
 mem:∀ w∈R,lo<=w.1/\w.1<=w.2.1/\w.2.1 < P/\∀ x,w.1<=x->x<=w.2.1->f x=x+w.2.2/\f x < f (x+1)
 cov:∀ x,lo<=x->x < P->f x < f (x+1)->∃ w∈R,w.1<=x/\x<=w.2.1
theorem Can.tail {lo P:Int} {f:Int->Int} {w:T3} {R:List T3} (h:Can lo P f (w :: R)):Can (w.2.1+1) P f R:=by
 have s:=List.pairwise_cons.mp h.srt
 have hw:=h.mem w (List.mem_cons_self ..)
 refine ⟨s.2,fun u hu=>?_,fun x x0 x1 x2=>?_⟩
 ·have a:=h.mem u (List.mem_cons_of_mem _ hu)
  have b:=(s.1 u hu).1
  exact ⟨by omega,a.2⟩
 ·obtain ⟨u,hu,u1,u2⟩:=h.cov x (by omega) x1 x2
  rcases List.mem_cons.mp hu with rfl | hu
  ·omega
  ·exact ⟨u,hu,u1,u2⟩
theorem Can.head_le {lo P:Int} {f:Int->Int} {w:T3} {R:List T3} (h:Can lo P f (w :: R)) {x:Int} (x0:lo<=x) (x1:x < P) (x2:f x < f (x+1)):w.1<=x:=by
 have s:=List.pairwise_cons.mp h.srt
 obtain ⟨u,hu,u1,u2⟩:=h.cov x x0 x1 x2
 rcases List.mem_cons.mp hu with rfl | hu
 ·exact u1
 ·have:=(s.1 u hu).1
  have:=(h.mem w (List.mem_cons_self ..)).2.1
  omega
theorem Can.end_le {lo P:Int} {f:Int->Int} {w w':T3} {R R':List T3} (h:Can lo P f (w :: R)) (h':Can lo P f (w' :: R')) (ea:w.1=w'.1) (ec:w.2.2=w'.2.2):w'.2.1<=w.2.1:=by
 rcases Int.lt_or_le w.2.1 w'.2.1 with z | z
 ·exfalso
  have m:=h.mem w (List.mem_cons_self ..)
  have m':=h'.mem w' (List.mem_cons_self ..)
  have q:=m'.2.2.2 (w.2.1+1) (by omega) (by omega)
  obtain ⟨u,hu,u1,u2⟩:=h.cov (w.2.1+1) (by omega) (by omega) q.2
  rcases List.mem_cons.mp hu with rfl | hu
  ·omega
  ·have s:=(List.pairwise_cons.mp h.srt).1 u hu
   have r:=((h.mem u (List.mem_cons_of_mem _ hu)).2.2.2 (w.2.1+1) u1 u2).1
   exact s.2 (by omega) (by omega)
 ·exact z
theorem Can.uniq {P:Int} {f:Int->Int}:∀ {R R':List T3} {lo:Int},Can lo P f R->Can lo P f R'->R=R'
 | [],[],_,_,_=>rfl
 | [],w :: R,lo,h,h'=>by
  have m:=h'.mem w (List.mem_cons_self ..)
  obtain ⟨u,hu,_⟩:=h.cov w.1 m.1 (by omega) (m.2.2.2 w.1 (Int.le_refl _) m.2.1).2
  cases hu
 | w :: R,[],lo,h,h'=>by
  have m:=h.mem w (List.mem_cons_self ..)
  obtain ⟨u,hu,_⟩:=h'.cov w.1 m.1 (by omega) (m.2.2.2 w.1 (Int.le_refl _) m.2.1).2
  cases hu
 | w :: R,w' :: R',lo,h,h'=>by
  have m:=h.mem w (List.mem_cons_self ..)
  have m':=h'.mem w' (List.mem_cons_self ..)
  have q:=m.2.2.2 w.1 (Int.le_refl _) m.2.1
  have q':=m'.2.2.2 w'.1 (Int.le_refl _) m'.2.1
  have l1:=h.head_le (x:=w'.1) m'.1 (by omega) q'.2
  have l2:=h'.head_le (x:=w.1) m.1 (by omega) q.2
  have ea:w.1=w'.1:=by omega
  have ec:w.2.2=w'.2.2:=by
   have:=q.1
   have:=q'.1
   rw [ea] at *
   omega
  have b1:=h.end_le h' ea ec
  have b2:=h'.end_le h ea.symm ec.symm
  have eb:w.2.1=w'.2.1:=by omega
  have ew:w=w':=by
   obtain ⟨x,y,z⟩:=w
   obtain ⟨x',y',z'⟩:=w'
   cases ea
   cases eb
   cases ec
   rfl
  subst ew
  rw [Can.uniq h.tail h'.tail]
theorem qmt9 {f:Int->Int} (mono:∀ t u,t<=u->f t<=f u) {x:Int}:∀ (n:Nat),(∀ y,x<=y->y < x+n->¬ f y < f (y+1))->f x=f (x+n)
 | 0,_=>by simp
 | n+1,h=>by
  have e:=qmt9 mono (x:=x) n fun y y0 y1=>h y y0 (by omega)
  have a:=h (x+n) (by omega) (by omega)
  have b:=mono (x+n) (x+n+1) (by omega)
  have e2:x+((n+1:Nat):Int)=x+n+1:=by omega
  rw [e2]
  omega
theorem qjy9 {f:Int->Int} (mono:∀ t u,t<=u->f t<=f u) {x z:Int} (hz:x<=z) (h:∀ y,x<=y->y < z->¬ f y < f (y+1)):f x=f z:=by
 have e:z=x+((z - x).toNat:Int):=by omega
 have:=qmt9 mono (x:=x) (z - x).toNat fun y y0 y1=>h y y0 (by omega)
 rw [<- e] at this
 exact this
theorem qon9 {d:Int} {f:Int->Int} (hd:0 < d) (r:Rise d f) (t:Int):∃ x,t<=x/\x < t+d/\f x=f t/\f x < f (x+1):=by
 have go:∀ n:Nat,f t < f (t+n)->∃ x,t<=x/\x < t+n/\f x=f t/\f x < f (x+1):=by
  intro n
  induction n with
  | zero=>intro h; simp at h
  | succ n ih =>
   intro h
   by_cases c:f t < f (t+n)
   ·obtain ⟨x,x1,x2,x3,x4⟩:=ih c
    exact ⟨x,x1,by omega,x3,x4⟩
   ·have b:=r.mono t (t+n) (by omega)
    have e:t+((n+1:Nat):Int)=t+n+1:=by omega
    rw [e] at h
    exact ⟨t+n,by omega,by omega,by omega,by omega⟩
 have e:d=((d.toNat:Nat):Int):=by omega
 have:=go d.toNat (by rw [<- e,r.per]; omega)
 rw [<- e] at this
 exact this
theorem Can.tells {d:Int} {f:Int->Int} {R:List T3} (hd:0 < d) (r:Rise d f) (h:Can 0 d f R):Tells d R f:=by
 intro t
 have lo:∀ w∈R,f t<=nextO d w.1 w.2.1 t+w.2.2:=fun w hw=>by
  obtain ⟨m0,m1,m2,m3⟩:=h.mem w hw
  obtain ⟨k,k1,k2,k3,k4,k5⟩:=qby9 (t:=t) hd m0 m1 m2
  generalize nextO d w.1 w.2.1 t=x at *
  have q:=(m3 (x - d * k) (by omega) (by omega)).1
  have q2:=r.mul (x - d * k) k
  have e:x - d * k+d * k=x:=by omega
  rw [e] at q2
  have:=r.mono t x k3
  omega
 refine IsMin.bt ⟨?_,lo⟩
 obtain ⟨x,x1,x2,x3,x4⟩:=qon9 hd r t
 obtain ⟨q,e,e0,e1⟩:=split d x hd
 have p0:=r.mul (x % d) q
 have p1:=r.mul (x % d+1) q
 have e2:x % d+d * q=x:=by omega
 have e3:x % d+1+d * q=x+1:=by omega
 rw [e2] at p0
 rw [e3] at p1
 obtain ⟨w,hw,w1,w2⟩:=h.cov (x % d) e0 e1 (by omega)
 obtain ⟨m0,m1,m2,m3⟩:=h.mem w hw
 have c:=(m3 (x % d) w1 w2).1
 obtain ⟨k,k1,k2,k3,k4,k5⟩:=qby9 (t:=t) hd m0 m1 m2
 have u:=k5 q x (by omega) (by omega) x1
 have v:=lo w hw
 exact ⟨w,hw,by omega⟩
theorem Can.ck {d:Int} {f:Int->Int} {R:List T3} (hd:0 < d) (r:Rise d f) (h:Can 0 d f R):CK d R:=by
 have at_:∀ w∈R,f w.1=w.1+w.2.2/\f w.2.1=w.2.1+w.2.2/\f w.2.1 < f (w.2.1+1):=fun w hw=>by
  obtain ⟨m0,m1,m2,m3⟩:=h.mem w hw
  exact ⟨(m3 _ (Int.le_refl _) m1).1,m3 _ m1 (Int.le_refl _)⟩
 refine ⟨hd,fun w hw=>?_,?_,fun u hu v hv=>?_⟩
 ·obtain ⟨m0,m1,m2,m3⟩:=h.mem w hw
  have:=at_ w hw
  have:=r.ge w.1
  exact ⟨m0,m1,m2,by omega⟩
 ·refine List.Pairwise.imp_of_mem (fun {u v} hu hv p=>?_) h.srt
  refine ⟨p.1,?_,p.2⟩
  have a:=at_ u hu
  have b:=at_ v hv
  have:=r.mono (u.2.1+1) v.1 (by omega)
  omega
 ·have a:=at_ u hu
  have b:=at_ v hv
  obtain ⟨m0,m1,m2,m3⟩:=h.mem u hu
  obtain ⟨n0,_⟩:=h.mem v hv
  have:=r.mono (u.2.1+1) (v.1+d) (by omega)
  have:=r.per v.1
  omega
theorem CK.can {d:Int} {R:List T3} {f:Int->Int} (h:CK d R) (T:Tells d R f):Can 0 d f R:=by
 have K:=h.clk
 have n0:R.length ≠ 0:=fun e=>T.ne (List.length_eq_zero_iff.mp e)
 have F:∀ t,∃ x,First d R.length (rA R) (rB R) (rC R) t x (f t):=fun t=>by
  obtain ⟨x,y,h1,h2⟩:=qkk9 K n0 t
  rw [T t] at h2
  cases h2
  exact ⟨x,h1⟩
 refine ⟨h.srt.imp fun p=>⟨p.1,p.2.2⟩,fun w hw=>?_,fun x x0 x1 x2=>?_⟩
 ·obtain ⟨w0,w1,w2,w3⟩:=h.win w hw
  refine ⟨w0,w1,w2,fun x a b=>?_⟩
  obtain ⟨i,hi,e1,e2,e3⟩:=qge9 hw
  have D:Dep d R.length (rA R) (rB R) (rC R) x (x+w.2.2):=⟨i,0,hi,by omega,by omega,by omega⟩
  obtain ⟨x',F1⟩:=F x
  have l:=F1.least _ _ D (Int.le_refl _)
  have l2:=F1.le
  have e:x'=x:=by omega
  subst e
  have ey:=qoy9 K F1.dep D
  obtain ⟨x2,F2⟩:=F (x'+1)
  have:=qmq9 K F1.dep F2.dep (by have:=F2.le; omega)
  exact ⟨ey,this⟩
 ·obtain ⟨x',F1⟩:=F x
  rcases (by have:=F1.le; omega:x'=x\/x+1<=x') with e | e
  ·subst e
   obtain ⟨i,k,hi,k1,k2,_⟩:=F1.dep
   have a0:=K.a0 i hi
   have bd:=K.bd i hi
   have d0:=K.d0
   have:k=0:=by
    rcases (by omega:k < 0\/k=0\/0 < k) with z | z | z
    ·have:=qbe9 d0 z
     omega
    ·exact z
    ·have:=qbe9 d0 z
     omega
   subst this
   exact ⟨_,qfc9 hi,by simpa using k1,by simpa using k2⟩
  ·obtain ⟨x2',F2⟩:=F (x+1)
   have F3:First d R.length (rA R) (rB R) (rC R) (x+1) x' (f x):=⟨F1.dep,e,fun u v h1 h2=>F1.least u v h1 (by omega)⟩
   have:=(F2.uniq K F3).2
   omega
theorem CK.uniq {d:Int} {R R':List T3} (h:CK d R) (h':CK d R') (e:∀ t,bt d R t=bt d R' t):R=R':=by
 by_cases n:R=[]
 ·subst n
  by_cases n':R'=[]
  ·exact n'.symm
  ·have:=e 0
   rw [bt_nil,tells_bf n' 0] at this
   cases this
 ·have T:=tells_bf (d:=d) n
  have T':Tells d R' (bf d R):=fun t=>by rw [<- e t]; exact T t
  exact Can.uniq (h.can T) (h'.can T')
theorem CK.rise {d:Int} {R:List T3} {f:Int->Int} (h:CK d R) (T:Tells d R f):Rise d f:=board_rise h.d0 h.win T
end Ma
namespace Ma
theorem qnx9 {α:Type} {p:List α->Prop} (h0:p []) (hs:∀ l x,p l->p (l ++ [x])) (l:List α):p l:=by
 rw [<- List.reverse_reverse l]
 induction l.reverse with
 | nil=>exact h0
 | cons x r ih =>
  rw [List.reverse_cons]
  exact hs _ _ ih
noncomputable def putW (R:List T3) (a b c:Int):List T3 :=
 if b < a then R else match R.getLast? with
  | some l=>if l.2.1+1=a/\l.2.2=c then R.dropLast ++ [(l.1,b,c)] else R ++ [(a,b,c)]
  | none=>R ++ [(a,b,c)]
theorem putW_len (R:List T3) (a b c:Int):(putW R a b c).length<=R.length+1:=by
 unfold putW
 split
 ·omega
 ·split
  ·split
   ·rw [List.length_append,List.length_dropLast,List.length_singleton]; omega
   ·simp
  ·simp
section
variable {lo P P':Int} {f:Int->Int} {R:List T3} {a b c:Int}
theorem Can.app (h:Can lo P f R) (l0:lo<=P) (pa:P<=a) (ab:a<=b) (bp:b < P') (dep:∀ x,P<=x->x < P'->(f x < f (x+1)↔a<=x/\x<=b)) (ride:∀ x,a<=x->x<=b->f x=x+c)
  (un:∀ u∈R,u.2.1+1=a->u.2.2 ≠ c):Can lo P' f (R ++ [(a,b,c)]):=by
 refine ⟨List.pairwise_append.mpr ⟨h.srt,List.pairwise_singleton _ _,fun u hu v hv=>?_⟩,fun w hw=>?_,fun x x0 x1 x2=>?_⟩
 ·rw [List.mem_singleton] at hv
  subst hv
  have m:=h.mem u hu
  exact ⟨by show u.2.1 < a; omega,un u hu⟩
 ·rcases List.mem_append.mp hw with hw | hw
  ·obtain ⟨m0,m1,m2,m3⟩:=h.mem w hw
   exact ⟨m0,m1,by omega,m3⟩
  ·rw [List.mem_singleton] at hw
   subst hw
   exact ⟨by show lo<=a; omega,ab,bp,fun x x1 x2=>by
    have x1':a<=x:=x1
    have x2':x<=b:=x2
    exact ⟨ride x x1 x2,(dep x (by omega) (by omega)).mpr ⟨x1,x2⟩⟩⟩
 ·rcases Int.lt_or_le x P with z | z
  ·obtain ⟨w,hw,w1⟩:=h.cov x x0 z x2
   exact ⟨w,List.mem_append_left _ hw,w1⟩
  ·exact ⟨(a,b,c),List.mem_append_right _ (List.mem_singleton.mpr rfl),(dep x z x1).mp x2⟩
theorem Can.step (h:Can lo P f R) (l0:lo<=P) (pa:P<=a) (bp:b < P') (hp:P<=P') (dep:∀ x,P<=x->x < P'->(f x < f (x+1)↔a<=x/\x<=b)) (ride:∀ x,a<=x->x<=b->f x=x+c):Can lo P' f (putW R a b c):=by
 unfold putW
 split
 ·rename_i ba
  refine ⟨h.srt,fun w hw=>?_,fun x x0 x1 x2=>?_⟩
  ·obtain ⟨m0,m1,m2,m3⟩:=h.mem w hw
   exact ⟨m0,m1,by omega,m3⟩
  ·rcases Int.lt_or_le x P with z | z
   ·exact h.cov x x0 z x2
   ·have:=(dep x z x1).mp x2
    omega
 ·rename_i ab
  split
  ·rename_i l hl
   obtain ⟨R0,rfl⟩:∃ R0,R=R0 ++ [l]:=by
    obtain ⟨R0,e⟩:=List.getLast?_eq_some_iff.mp hl
    exact ⟨R0,e⟩
   have s:=List.pairwise_append.mp h.srt
   split
   ·rename_i tc
    rw [List.dropLast_concat]
    have ml:=h.mem l (List.mem_append_right _ (List.mem_singleton.mpr rfl))
    refine ⟨List.pairwise_append.mpr ⟨s.1,List.pairwise_singleton _ _,fun u hu v hv=>?_⟩,fun w hw=>?_,fun x x0 x1 x2=>?_⟩
    ·rw [List.mem_singleton] at hv
     subst hv
     have q:=s.2.2 u hu l (List.mem_singleton.mpr rfl)
     rw [<- tc.2]
     exact q
    ·rcases List.mem_append.mp hw with hw | hw
     ·obtain ⟨m0,m1,m2,m3⟩:=h.mem w (List.mem_append_left _ hw)
      exact ⟨m0,m1,by omega,m3⟩
     ·rw [List.mem_singleton] at hw
      subst hw
      obtain ⟨m0,m1,m2,m3⟩:=ml
      refine ⟨m0,by show l.1<=b; omega,bp,fun x x1 x2=>?_⟩
      have x1':l.1<=x:=x1
      have x2':x<=b:=x2
      show f x=x+c/\f x < f (x+1)
      rcases Int.lt_or_le l.2.1 x with z | z
      ·exact ⟨ride x (by omega) x2',(dep x (by omega) (by omega)).mpr ⟨by omega,x2'⟩⟩
      ·rw [<- tc.2]
       exact m3 x x1' z
    ·rcases Int.lt_or_le x P with z | z
     ·obtain ⟨w,hw,w1,w2⟩:=h.cov x x0 z x2
      rcases List.mem_append.mp hw with hw | hw
      ·exact ⟨w,List.mem_append_left _ hw,w1,w2⟩
      ·rw [List.mem_singleton] at hw
       subst hw
       exact ⟨_,List.mem_append_right _ (List.mem_singleton.mpr rfl),w1,by show x<=b; omega⟩
     ·have q:=(dep x z x1).mp x2
      exact ⟨_,List.mem_append_right _ (List.mem_singleton.mpr rfl),by show l.1<=x; have:=ml.2.1; omega,q.2⟩
   ·rename_i tc
    refine h.app l0 pa (by omega) bp dep ride fun u hu e=>?_
    rcases List.mem_append.mp hu with hu | hu
    ·have q:=s.2.2 u hu l (List.mem_singleton.mpr rfl)
     have ml:=h.mem l (List.mem_append_right _ (List.mem_singleton.mpr rfl))
     omega
    ·rw [List.mem_singleton] at hu
     subst hu
     exact fun e2=>tc ⟨e,e2⟩
  ·rename_i hl
   have e:=List.getLast?_eq_none_iff.mp hl
   subst e
   exact h.app l0 pa (by omega) bp dep ride fun u hu=>by cases hu
end
noncomputable def tell (r:T4) (x:Int):Int:=if r.2.2.1=true then r.2.2.2 else x+r.2.2.2
noncomputable def ftold (r:T4):Int:=if r.2.2.1=true then r.2.2.2 else r.1+r.2.2.2
theorem qok9 (r:T4):ftold r=tell r r.1:=rfl
noncomputable def cfStep (fo:Int) (r:T4) (R:List T3):List T3 :=
 if r.2.2.1=true then putW R r.2.1 (if r.2.2.2 < fo then r.2.1 else r.2.1 - 1) (r.2.2.2 - r.2.1)
 else putW R r.1 (if r.2.1+r.2.2.2 < fo then r.2.1 else r.2.1 - 1) r.2.2.2
theorem cfStep_len (fo:Int) (r:T4) (R:List T3):(cfStep fo r R).length<=R.length+1:=by
 unfold cfStep
 split <;> exact putW_len ..
theorem Can.row {lo P:Int} {f:Int->Int} {R:List T3} (h:Can lo P f R) (l0:lo<=P) (r:T4) (e:r.1=P) (le:r.1<=r.2.1) (tl:∀ x,r.1<=x->x<=r.2.1->f x=tell r x) :
  Can lo (r.2.1+1) f (cfStep (f (r.2.1+1)) r R):=by
 obtain ⟨p,q,s,v⟩:=r
 have e':p=P:=e
 subst e'
 have le':p<=q:=le
 have tl':∀ x,p<=x->x<=q->f x=if s=true then v else x+v:=tl
 unfold cfStep
 show Can lo (q+1) f (if s=true then putW R q (if v < f (q+1) then q else q - 1) (v - q) else putW R p (if q+v < f (q+1) then q else q - 1) v)
 cases s with
 | true =>
  rw [if_pos rfl]
  have t0:∀ x,p<=x->x<=q->f x=v:=fun x h1 h2=>by have:=tl' x h1 h2; rw [if_pos rfl] at this; exact this
  refine h.step l0 le' (by split <;> omega) (by omega) (fun x x0 x1=>?_) fun x x0 x1=>?_
  ·rcases (by omega:x < q\/x=q) with z | z
   ·have:=t0 x x0 (by omega)
    have:=t0 (x+1) (by omega) (by omega)
    constructor
    ·intro; omega
    ·rintro ⟨h1,h2⟩; omega
   ·subst z
    rw [t0 x x0 (Int.le_refl _)]
    constructor
    ·intro z
     rw [if_pos z]
     exact ⟨Int.le_refl _,Int.le_refl _⟩
    ·intro z9;obtain ⟨_,z⟩ := z9
     split at z
     ·assumption
     ·omega
  ·have x1':x<=q:=by split at x1 <;> omega
   have:=t0 x (by omega) x1'
   omega
 | false =>
  rw [if_neg (by decide)]
  have t0:∀ x,p<=x->x<=q->f x=x+v:=fun x h1 h2=>by have:=tl' x h1 h2; rw [if_neg (by decide)] at this; exact this
  refine h.step l0 (Int.le_refl _) (by split <;> omega) (by omega) (fun x x0 x1=>?_) fun x x0 x1=>?_
  ·rcases (by omega:x < q\/x=q) with z | z
   ·have:=t0 x x0 (by omega)
    have:=t0 (x+1) (by omega) (by omega)
    constructor
    ·intro
     refine ⟨x0,?_⟩
     split <;> omega
    ·intro; omega
   ·subst z
    rw [t0 x x0 (Int.le_refl _)]
    constructor
    ·intro z
     rw [if_pos z]
     exact ⟨x0,Int.le_refl _⟩
    ·intro z9;obtain ⟨_,z⟩ := z9
     split at z
     ·assumption
     ·omega
  ·exact t0 x x0 (by split at x1 <;> omega)
noncomputable def Cov (f:Int->Int):Int->List T4->Int->Prop
 | lo,[],hi=>lo=hi
 | lo,r :: S,hi=>r.1=lo/\r.1<=r.2.1/\(∀ x,r.1<=x->x<=r.2.1->f x=tell r x)/\Cov f (r.2.1+1) S hi
theorem Cov.le {f:Int->Int}:∀ {S:List T4} {lo hi:Int},Cov f lo S hi->lo<=hi
 | [],lo,hi,h=>by have:lo=hi:=h; omega
 | r :: S,lo,hi,⟨h1,h2,_,h4⟩=>by have:=Cov.le h4; omega
theorem Cov.append {f:Int->Int}:∀ {S S':List T4} {lo mid hi:Int},Cov f lo S mid->Cov f mid S' hi->Cov f lo (S ++ S') hi
 | [],S',lo,mid,hi,h,h'=>by
  have:lo=mid:=h
  subst this
  exact h'
 | r :: S,S',lo,mid,hi,⟨h1,h2,h3,h4⟩,h'=>⟨h1,h2,h3,Cov.append h4 h'⟩
theorem Cov.one {f:Int->Int} {r:T4} (h:r.1<=r.2.1) (t:∀ x,r.1<=x->x<=r.2.1->f x=tell r x):Cov f r.1 [r] (r.2.1+1):=⟨rfl,h,t,rfl⟩
theorem Cov.get {f:Int->Int}:∀ {S:List T4} {lo hi:Int} {k:Nat} {r:T4},Cov f lo S hi->S[k]?=some r->lo<=r.1/\r.1<=r.2.1/\r.2.1 < hi/\(∀ x,r.1<=x->x<=r.2.1->f x=tell r x) /\
  (k=0->r.1=lo)/\(∀ r',S[k+1]?=some r'->r'.1=r.2.1+1)/\(k+1=S.length->r.2.1+1=hi)
 | [],_,_,_,_,_,e=>by simp at e
 | r0 :: S,lo,hi,0,r,⟨h1,h2,h3,h4⟩,e=>by
  have e':r0=r:=by simpa using e
  subst e'
  have l:=Cov.le h4
  refine ⟨by omega,h2,by omega,h3,fun _=>h1,fun r' e'=>?_,fun e'=>?_⟩
  ·have e2:S[0]?=some r':=by simpa using e'
   exact (Cov.get h4 e2).2.2.2.2.1 rfl
  ·have:S=[]:=by
    simp at e'
    exact e'
   subst this
   exact h4
 | r0 :: S,lo,hi,k+1,r,⟨h1,h2,h3,h4⟩,e=>by
  have e2:S[k]?=some r:=by simpa using e
  obtain ⟨g1,g2,g3,g4,g5,g6,g7⟩:=Cov.get h4 e2
  refine ⟨by omega,g2,g3,g4,fun z=>by omega,fun r' e'=>g6 r' (by simpa using e'),fun e'=>g7 (by simp at e'; omega)⟩
theorem Cov.find {f:Int->Int}:∀ {S:List T4} {lo hi x:Int},Cov f lo S hi->lo<=x->x < hi->∃ (k:Nat) (r:T4),S[k]?=some r/\r.1<=x/\x<=r.2.1
 | [],lo,hi,x,h,h1,h2=>by have:lo=hi:=h; omega
 | r :: S,lo,hi,x,⟨h1,h2,h3,h4⟩,x0,x1=>by
  rcases Int.lt_or_le r.2.1 x with z | z
  ·obtain ⟨k,r',e,e1⟩:=Cov.find h4 (by omega) x1
   exact ⟨k+1,r',by simpa using e,e1⟩
  ·exact ⟨0,r,rfl,by omega,z⟩
noncomputable def cfo (d:Int) (S:List T4) (k:Nat):Int:=match S[k+1]? with
 | some r=>ftold r
 | none=>d+(match S[0]? with
  | some r=>ftold r
  | none=>0)
theorem cfo_eq {d:Int} {f:Int->Int} {S:List T4} {k:Nat} {r:T4} (h:Cov f 0 S d) (per:∀ t,f (t+d)=f t+d) (e:S[k]?=some r):cfo d S k=f (r.2.1+1):=by
 obtain ⟨g1,g2,g3,g4,g5,g6,g7⟩:=h.get e
 have hk:=(List.getElem?_eq_some_iff.mp e).1
 unfold cfo
 cases e1:S[k+1]? with
 | some r' =>
  have q:=g6 r' e1
  obtain ⟨_,g2',_,g4',_⟩:=h.get e1
  show ftold r'=_
  rw [qok9,<- g4' r'.1 (Int.le_refl _) g2',q]
 | none =>
  have el:k+1=S.length:=by
   have:=List.getElem?_eq_none_iff.mp e1
   omega
  have q:=g7 el
  have h0:0 < S.length:=by omega
  obtain ⟨_,g2',_,g4',g5',_⟩:=h.get (List.getElem?_eq_getElem h0)
  rw [List.getElem?_eq_getElem h0]
  show d+ftold S[0]=_
  rw [qok9,<- g4' _ (Int.le_refl _) g2',g5' rfl,q]
  have:=per 0
  rw [Int.zero_add] at this
  omega
noncomputable def stStep (acc:List T4 × Int) (w:T3):List T4 × Int:=((if acc.2 < w.1 then acc.1 ++ [(acc.2,w.1 - 1,true,w.1+w.2.2)] else acc.1) ++ [(w.1,w.2.1,false,w.2.2)],w.2.1+1)
noncomputable def stPre (R:List T3):List T4 × Int:=R.foldl stStep ([],0)
theorem stPre_snoc (R:List T3) (w:T3):stPre (R ++ [w])=stStep (stPre R) w:=by
 unfold stPre
 rw [List.foldl_append]
 rfl
noncomputable def strOf (d:Int) (R:List T3):List T4:=if 0 < (stPre R).1.length/\(stPre R).2 < d then (stPre R).1 ++ [((stPre R).2,d - 1,true,d+rA R 0+rC R 0)] else (stPre R).1
theorem stPre_len (R:List T3):(stPre R).1.length<=2 * R.length/\(R ≠ []->0 < (stPre R).1.length):=by
 refine qnx9 (p:=fun R=>(stPre R).1.length<=2 * R.length/\(R ≠ []->0 < (stPre R).1.length)) ⟨by simp [stPre],fun h=>absurd rfl h⟩ (fun R w ih=>?_) R
 rw [stPre_snoc]
 unfold stStep
 refine ⟨?_,fun _=>by simp⟩
 simp only [List.length_append,List.length_singleton]
 split
 ·simp only [List.length_append,List.length_singleton]; omega
 ·omega
theorem strOf_len (d:Int) (R:List T3):(strOf d R).length<=2 * R.length+1:=by
 have:=(stPre_len R).1
 unfold strOf
 split
 ·simp only [List.length_append,List.length_singleton]; omega
 ·omega
section
variable {d:Int} {R:List T3} {f:Int->Int}
theorem st_cov (h:CK d R) (T:Tells d R f):∀ R1 R2,R=R1 ++ R2->Cov f 0 (stPre R1).1 (stPre R1).2/\0<=(stPre R1).2/\(stPre R1).2<=d/\(∀ u∈R1,u.2.1 < (stPre R1).2)/\(∀ v∈R2,(stPre R1).2<=v.1):=by
 have C:=h.can T
 have r:=h.rise T
 have d0:=h.d0
 refine qnx9 (p:=fun R1=>∀ R2,R=R1 ++ R2->Cov f 0 (stPre R1).1 (stPre R1).2/\0<=(stPre R1).2/\(stPre R1).2<=d/\(∀ u∈R1,u.2.1 < (stPre R1).2)/\(∀ v∈R2,(stPre R1).2<=v.1)) (fun R2 e=>?_) fun R1 w ih R2 e=>?_
 ·refine ⟨rfl,Int.le_refl _,by show (0:Int)<=d; omega,(fun u hu=>by cases hu),fun v hv=>?_⟩
  exact (h.win v (by rw [e]; exact hv)).1
 ·have e':R=R1 ++ (w :: R2):=by rw [e]; simp
  obtain ⟨c,p0,pd,pu,pv⟩:=ih (w :: R2) e'
  have hw:w∈R:=by rw [e']; simp
  obtain ⟨w0,w1,w2,w3⟩:=h.win w hw
  have pw:=pv w (List.mem_cons_self ..)
  have srt:=h.srt
  rw [e'] at srt
  have s2:=List.pairwise_cons.mp (List.pairwise_append.mp srt).2.1
  rw [stPre_snoc]
  unfold stStep
  generalize (stPre R1).1=S at *
  generalize (stPre R1).2=p at *
  have mw:=(C.mem w hw).2.2.2
  have fa:=(mw w.1 (Int.le_refl _) w1).1
  refine ⟨?_,by show 0<=w.2.1+1; omega,by show w.2.1+1<=d; omega,fun u hu=>?_,fun v hv=>?_⟩
  ·have last:Cov f w.1 [(w.1,w.2.1,false,w.2.2)] (w.2.1+1):=Cov.one (r:=(w.1,w.2.1,false,w.2.2)) w1 fun x x0 x1=>by
    rw [(mw x x0 x1).1]
    rfl
   show Cov f 0 ((if p < w.1 then S ++ [(p,w.1 - 1,true,w.1+w.2.2)] else S) ++ [(w.1,w.2.1,false,w.2.2)]) (w.2.1+1)
   split
   ·rename_i z
    refine Cov.append (Cov.append c (mid:=p) (hi:=w.1) ?_) last
    have e1:w.1 - 1+1=w.1:=by omega
    have:=Cov.one (f:=f) (r:=(p,w.1 - 1,true,w.1+w.2.2)) (by show p<=w.1 - 1; omega) fun x x0 x1=>?_
    ·rw [e1] at this
     exact this
    ·have x0':p<=x:=x0
     have x1':x<=w.1 - 1:=x1
     show f x=w.1+w.2.2
     rw [<- fa]
     refine qjy9 r.mono (by omega) fun y y0 y1 yd=>?_
     obtain ⟨u,hu,u1,u2⟩:=C.cov y (by omega) (by omega) yd
     rw [e'] at hu
     rcases List.mem_append.mp hu with hu | hu
     ·have:=pu u hu
      omega
     ·rcases List.mem_cons.mp hu with rfl | hu
      ·omega
      ·have:=(s2.1 u hu).1
       omega
   ·rename_i z
    have:p=w.1:=by omega
    subst this
    exact Cov.append c last
  ·show u.2.1 < w.2.1+1
   rcases List.mem_append.mp hu with hu | hu
   ·have:=pu u hu
    omega
   ·rw [List.mem_singleton] at hu
    subst hu
    omega
  ·have:=(s2.1 v hv).1
   show w.2.1+1<=v.1
   omega
theorem str_cov (h:CK d R) (T:Tells d R f):Cov f 0 (strOf d R) d:=by
 obtain ⟨c,p0,pd,pu,pv⟩:=st_cov h T R [] (by simp)
 have C:=h.can T
 have r:=h.rise T
 have ne:=(stPre_len R).2 T.ne
 unfold strOf
 generalize (stPre R).1=S at *
 generalize (stPre R).2=p at *
 split
 ·rename_i z
  refine Cov.append c ?_
  have e1:d - 1+1=d:=by omega
  have:=Cov.one (f:=f) (r:=(p,d - 1,true,d+rA R 0+rC R 0)) (by show p<=d - 1; omega) fun x x0 x1=>?_
  ·rw [e1] at this
   exact this
  ·have x0':p<=x:=x0
   have x1':x<=d - 1:=x1
   show f x=d+rA R 0+rC R 0
   have hn:0 < R.length:=List.length_pos_iff.mpr T.ne
   have m0:=C.mem _ (qfc9 hn)
   have f0:f (rA R 0)=rA R 0+rC R 0:=(m0.2.2.2 (rA R 0) (Int.le_refl _) m0.2.1).1
   have a0:(0:Int)<=rA R 0:=m0.1
   have z0:f 0=f (rA R 0):=qjy9 r.mono a0 fun y y0 y1 yd=>by
    have q:=m0.2.2.1
    have q1:=m0.2.1
    obtain ⟨u,hu,u1,u2⟩:=C.cov y y0 (by omega) yd
    obtain ⟨i,hi,e1,e2,e3⟩:=qge9 hu
    rcases Nat.eq_zero_or_pos i with e | e
    ·subst e; omega
    ·have:=(qjj9 h.srt e hi).1
     omega
   have z1:f x=f d:=qjy9 r.mono (by omega) fun y y0 y1 yd=>by
    obtain ⟨u,hu,u1,u2⟩:=C.cov y (by omega) y1 yd
    have:=pu u hu
    omega
   have:=r.per 0
   rw [Int.zero_add] at this
   omega
 ·rename_i z
  have:p=d:=by omega
  subst this
  exact c
end
end Ma
namespace Ma
noncomputable abbrev T6:=Int × Int × Bool × Int × Bool × Int
noncomputable def tl (s:Bool) (v x:Int):Int:=if s=true then v else x+v
noncomputable def Cov2 (f g:Int->Int):Int->List T6->Int->Prop
 | lo,[],hi=>lo=hi
 | lo,r :: S,hi=>r.1=lo/\r.1<=r.2.1/\(∀ x,r.1<=x->x<=r.2.1->f x=tl r.2.2.1 r.2.2.2.1 x/\g x=tl r.2.2.2.2.1 r.2.2.2.2.2 x)/\Cov2 f g (r.2.1+1) S hi
theorem Cov2.le {f g:Int->Int}:∀ {S:List T6} {lo hi:Int},Cov2 f g lo S hi->lo<=hi
 | [],lo,hi,h=>by have:lo=hi:=h; omega
 | r :: S,lo,hi,⟨h1,h2,_,h4⟩=>by have:=Cov2.le h4; omega
theorem Cov2.snoc {f g:Int->Int} {r:T6} (h2:r.1<=r.2.1) (h3:∀ x,r.1<=x->x<=r.2.1->f x=tl r.2.2.1 r.2.2.2.1 x/\g x=tl r.2.2.2.2.1 r.2.2.2.2.2 x):∀ {S:List T6} {lo:Int},Cov2 f g lo S r.1->Cov2 f g lo (S ++ [r]) (r.2.1+1)
 | [],lo,h=>by
  have:lo=r.1:=h
  subst this
  exact ⟨rfl,h2,h3,rfl⟩
 | r0 :: S,lo,⟨a1,a2,a3,a4⟩=>⟨a1,a2,a3,Cov2.snoc h2 h3 a4⟩
theorem Cov2.get {f g:Int->Int}:∀ {S:List T6} {lo hi:Int} {k:Nat} {r:T6},Cov2 f g lo S hi->S[k]?=some r->lo<=r.1/\r.1<=r.2.1/\r.2.1 < hi/\(∀ x,r.1<=x->x<=r.2.1->f x=tl r.2.2.1 r.2.2.2.1 x/\g x=tl r.2.2.2.2.1 r.2.2.2.2.2 x) /\
  (k=0->r.1=lo)/\(∀ r',S[k+1]?=some r'->r'.1=r.2.1+1)/\(k+1=S.length->r.2.1+1=hi)
 | [],_,_,_,_,_,e=>by simp at e
 | r0 :: S,lo,hi,0,r,⟨h1,h2,h3,h4⟩,e=>by
  have e':r0=r:=by simpa using e
  subst e'
  have l:=Cov2.le h4
  refine ⟨by omega,h2,by omega,h3,fun _=>h1,fun r' e'=>?_,fun e'=>?_⟩
  ·have e2:S[0]?=some r':=by simpa using e'
   exact (Cov2.get h4 e2).2.2.2.2.1 rfl
  ·have:S=[]:=by
    simp at e'
    exact e'
   subst this
   exact h4
 | r0 :: S,lo,hi,k+1,r,⟨h1,h2,h3,h4⟩,e=>by
  have e2:S[k]?=some r:=by simpa using e
  obtain ⟨g1,g2,g3,g4,g5,g6,g7⟩:=Cov2.get h4 e2
  refine ⟨by omega,g2,g3,g4,fun z=>by omega,fun r' e'=>g6 r' (by simpa using e'),fun e'=>g7 (by simp at e'; omega)⟩
noncomputable def jn (late:Bool) (x y:Int):Int:=if late=true then (if y > x then y else x) else (if y < x then y else x)
theorem jn_comm (late:Bool) (x y:Int):jn late x y=jn late y x:=by
 unfold jn
 split
 ·split <;> split <;> omega
 ·split <;> split <;> omega
theorem jn_add (late:Bool) (x y d:Int):jn late (x+d) (y+d)=jn late x y+d:=by
 unfold jn
 split
 ·split <;> split <;> omega
 ·split <;> split <;> omega
theorem rise_jn {d:Int} {f g:Int->Int} (late:Bool) (rf:Rise d f) (rg:Rise d g):Rise d fun x=>jn late (f x) (g x):=by
 refine ⟨fun t=>?_,fun t u l=>?_,fun t=>?_⟩
 ·have:=rf.ge t
  have:=rg.ge t
  unfold jn
  split <;> split <;> omega
 ·have:=rf.mono t u l
  have:=rg.mono t u l
  unfold jn
  split
  ·split <;> split <;> omega
  ·split <;> split <;> omega
 ·show jn late (f (t+d)) (g (t+d))=_
  rw [rf.per,rg.per,jn_add]
noncomputable def pickL (p q wt rd:Int) (late:Bool):List T4 :=
 (if p<=(if wt - rd < q then wt - rd else q) then [(p,(if wt - rd < q then wt - rd else q),late,if late=true then wt else rd)] else []) ++
 (if (if wt - rd+1 > p then wt - rd+1 else p)<=q then [((if wt - rd+1 > p then wt - rd+1 else p),q,!late,if late=true then rd else wt)] else [])
theorem qmv9 {p q wt rd:Int} {late:Bool} {h:Int->Int} (pq:p<=q) (hh:∀ x,p<=x->x<=q->h x=jn late wt (x+rd)):Cov h p (pickL p q wt rd late) (q+1):=by
 have lo:∀ x,p<=x->x<=q->x<=wt - rd->h x=tl late (if late=true then wt else rd) x:=fun x x0 x1 x2=>by
  rw [hh x x0 x1]
  unfold jn tl
  cases late
  ·simp only [Bool.false_eq_true,if_false]; split <;> omega
  ·simp only [if_true]; split <;> omega
 have hi:∀ x,p<=x->x<=q->wt - rd < x->h x=tl (!late) (if late=true then rd else wt) x:=fun x x0 x1 x2=>by
  rw [hh x x0 x1]
  unfold jn tl
  cases late
  ·simp only [Bool.false_eq_true,if_false,Bool.not_false,if_true]; split <;> omega
  ·simp only [if_true,Bool.not_true,Bool.false_eq_true,if_false]; split <;> omega
 unfold pickL
 rcases (by omega:wt - rd < p\/(p<=wt - rd/\wt - rd < q)\/q<=wt - rd) with z | z | z
 ·rw [if_pos (show wt - rd < q by omega),if_neg (show ¬ p<=wt - rd by omega),if_neg (show ¬ wt - rd+1 > p by omega),if_pos pq,List.nil_append]
  exact Cov.one (r:=(p,q,!late,if late=true then rd else wt)) pq fun x x0 x1=>hi x x0 x1 (by have:p<=x:=x0; omega)
 ·rw [if_pos z.2,if_pos z.1]
  have hm:(if wt - rd+1 > p then wt - rd+1 else p)=wt - rd+1:=if_pos (by omega)
  rw [hm,if_pos (show wt - rd+1<=q by omega)]
  refine Cov.append (mid:=wt - rd+1) ?_ ?_
  ·exact Cov.one (r:=(p,wt - rd,late,if late=true then wt else rd)) z.1 fun x x0 x1=>lo x x0 (by have:x<=wt - rd:=x1; omega) x1
  ·exact Cov.one (r:=(wt - rd+1,q,!late,if late=true then rd else wt)) (by show wt - rd+1<=q; omega) fun x x0 x1=>hi x (by have:wt - rd+1<=x:=x0; omega) x1 (by have:wt - rd+1<=x:=x0; omega)
 ·rw [if_neg (show ¬ wt - rd < q by omega),if_pos pq]
  have hm:¬ (if wt - rd+1 > p then wt - rd+1 else p)<=q:=by split <;> omega
  rw [if_neg hm,List.append_nil]
  exact Cov.one (r:=(p,q,late,if late=true then wt else rd)) pq fun x x0 x1=>lo x x0 x1 (by have:x<=q:=x1; omega)
theorem pick_len (p q wt rd:Int) (late:Bool):(pickL p q wt rd late).length<=2:=by
 unfold pickL
 rw [List.length_append]
 have one:∀ (c:Prop) [Decidable c] (x:T4),(if c then [x] else []).length<=1:=fun c _ x=>by split <;> simp
 exact Nat.add_le_add (one _ _) (one _ _)
noncomputable def joinRow (late:Bool) (r:T6):List T4 :=
 if r.2.2.1=r.2.2.2.2.1 then [(r.1,r.2.1,r.2.2.1,jn late r.2.2.2.1 r.2.2.2.2.2)]
 else if r.2.2.1=true then pickL r.1 r.2.1 r.2.2.2.1 r.2.2.2.2.2 late else pickL r.1 r.2.1 r.2.2.2.2.2 r.2.2.2.1 late
theorem joinRow_len (late:Bool) (r:T6):(joinRow late r).length<=2:=by
 unfold joinRow
 split
 ·simp
 ·split <;> exact pick_len ..
theorem joinRow_cov {late:Bool} {r:T6} {f g:Int->Int} (pq:r.1<=r.2.1) (h:∀ x,r.1<=x->x<=r.2.1->f x=tl r.2.2.1 r.2.2.2.1 x/\g x=tl r.2.2.2.2.1 r.2.2.2.2.2 x) :
  Cov (fun x=>jn late (f x) (g x)) r.1 (joinRow late r) (r.2.1+1):=by
 obtain ⟨p,q,s,v,s',v'⟩:=r
 have h':∀ x,p<=x->x<=q->f x=tl s v x/\g x=tl s' v' x:=h
 unfold joinRow
 show Cov _ p (if s=s' then [(p,q,s,jn late v v')] else if s=true then pickL p q v v' late else pickL p q v' v late) (q+1)
 by_cases e:s=s'
 ·rw [if_pos e]
  subst e
  refine Cov.one (r:=(p,q,s,jn late v v')) pq fun x x0 x1=>?_
  obtain ⟨e1,e2⟩:=h' x x0 x1
  show jn late (f x) (g x)=tl s (jn late v v') x
  rw [e1,e2]
  unfold tl
  cases s
  ·simp only [Bool.false_eq_true,if_false]
   have:=jn_add late v v' x
   rw [Int.add_comm v x,Int.add_comm v' x] at this
   omega
  ·simp
 ·rw [if_neg e]
  cases s with
  | true =>
   have e':s'=false:=by cases s' with | true=>exact absurd rfl e | false=>rfl
   subst e'
   rw [if_pos rfl]
   refine qmv9 pq fun x x0 x1=>?_
   obtain ⟨e1,e2⟩:=h' x x0 x1
   show jn late (f x) (g x)=_
   rw [e1,e2]
   rfl
  | false =>
   have e':s'=true:=by cases s' with | false=>exact absurd rfl e | true=>rfl
   subst e'
   rw [if_neg (by decide)]
   refine qmv9 pq fun x x0 x1=>?_
   obtain ⟨e1,e2⟩:=h' x x0 x1
   show jn late (f x) (g x)=_
   rw [e1,e2,jn_comm]
   rfl
noncomputable def omin:Option Int->Option Int->Option Int
 | none,b=>b
 | a,none=>a
 | some x,some y=>some (jn false x y)
noncomputable def omax:Option Int->Option Int->Option Int
 | some x,some y=>some (jn true x y)
 | _,_=>none
theorem bt_append (d:Int) (R R':List T3) (t:Int):bt d (R ++ R') t=omin (bt d R t) (bt d R' t):=by
 rcases bt_spec d t R with ⟨rfl,e⟩ | ⟨y,e,m⟩
 ·rw [e,List.nil_append]
  cases bt d R' t <;> rfl
 ·rcases bt_spec d t R' with ⟨rfl,e'⟩ | ⟨y',e',m'⟩
  ·rw [e',e,List.append_nil,e]
   rfl
  ·rw [e,e']
   show _=some (jn false y y')
   refine IsMin.bt ⟨?_,fun w hw=>?_⟩
   ·unfold jn
    rw [if_neg (by decide)]
    split
    ·obtain ⟨w,hw,q⟩:=m'.at_
     exact ⟨w,List.mem_append_right _ hw,q⟩
    ·obtain ⟨w,hw,q⟩:=m.at_
     exact ⟨w,List.mem_append_left _ hw,q⟩
   ·unfold jn
    rw [if_neg (by decide)]
    rcases List.mem_append.mp hw with hw | hw
    ·have:=m.le w hw
     split <;> omega
    ·have:=m'.le w hw
     split <;> omega
theorem Tells.min {d:Int} {R R':List T3} {f g:Int->Int} (h:Tells d R f) (h':Tells d R' g) (t:Int):omin (bt d R t) (bt d R' t)=some (jn false (f t) (g t)):=by rw [h t,h' t]; rfl
theorem Tells.max {d:Int} {R R':List T3} {f g:Int->Int} (h:Tells d R f) (h':Tells d R' g) (t:Int):omax (bt d R t) (bt d R' t)=some (jn true (f t) (g t)):=by rw [h t,h' t]; rfl
theorem ck_one {d:Int} (hd:0 < d) {w:T3} (h:0<=w.1/\w.1<=w.2.1/\w.2.1 < d/\0<=w.2.2):CK d [w]:=by
 refine ⟨hd,fun u hu=>?_,List.pairwise_singleton _ _,fun u hu v hv=>?_⟩
 ·rw [List.mem_singleton] at hu
  subst hu
  exact h
 ·rw [List.mem_singleton] at hu hv
  subst hu hv
  omega
end Ma
namespace Ma
theorem qiz9 {α:Type} [DecidableEq α]:∀ {l L:List α},l.Nodup->(∀ x∈l,x∈L)->l.length<=L.length
 | [],_,_,_=>Nat.zero_le _
 | x :: l,L,h,s=>by
  obtain ⟨L1,L2,rfl⟩:=List.append_of_mem (s x (List.mem_cons_self ..))
  have h':=List.nodup_cons.mp h
  have:=qiz9 (L:=L1 ++ L2) h'.2 fun y hy=>by
   have q:=s y (List.mem_cons_of_mem _ hy)
   rcases List.mem_append.mp q with q | q
   ·exact List.mem_append_left _ q
   ·rcases List.mem_cons.mp q with rfl | q
    ·exact absurd hy h'.1
    ·exact List.mem_append_right _ q
  simp only [List.length_cons,List.length_append] at *
  omega
theorem CK.starts {d:Int} {R:List T3} (h:CK d R):(R.map (·.1)).Nodup:=by
 refine List.pairwise_map.mpr (h.srt.imp_of_mem fun {u v} hu hv p=>?_)
 have:=(h.win u hu).2.1
 omega
section
variable {d:Int} {R R':List T3}
theorem at_open {f:Int->Int} {t:Int} (hd:0 < d) (W:Wins d R) (T:Tells d R f) (t0:0<=t) (t1:t < d) (lt:f t < f (t+1)):∃ u∈R,u.1<=t/\t<=u.2.1/\f t=t+u.2.2:=by
 obtain ⟨u,hu,e⟩:=(bt_min (T t)).at_
 obtain ⟨w0,w1,w2,w3⟩:=W u hu
 obtain ⟨k,k1,k2,k3,k4,k5⟩:=qby9 (t:=t) hd w0 w1 w2
 obtain ⟨k',m1,m2,m3,m4,m5⟩:=qby9 (t:=t+1) hd w0 w1 w2
 have le:=(bt_min (T (t+1))).le u hu
 rcases (by omega:nextO d u.1 u.2.1 t=t\/t+1<=nextO d u.1 u.2.1 t) with z | z
 ·rw [z] at k1 k2 e
  have:k=0:=by
   rcases (by omega:k < 0\/k=0\/0 < k) with y | y | y
   ·have:=qbe9 hd y
    omega
   ·exact y
   ·have:=qbe9 hd y
    omega
  subst this
  exact ⟨u,hu,by omega,by omega,e⟩
 ·have:=m5 k _ k1 k2 z
  omega
theorem start_at (h:CK d R') (W:Wins d R) {f:Int->Int} (T:Tells d R f) (T':Tells d R' f):∀ w∈R',w.1∈0 :: (R.map (·.1) ++ R.map (·.2.1+1)):=by
 intro w hw
 have C:=h.can T'
 obtain ⟨m0,m1,m2,m3⟩:=C.mem w hw
 have d0:=h.d0
 by_cases z:w.1=0
 ·rw [z]; exact List.mem_cons_self ..
 refine List.mem_cons_of_mem _ ?_
 obtain ⟨fa,fl⟩:=m3 w.1 (Int.le_refl _) m1
 obtain ⟨u,hu,u1,u2,u3⟩:=at_open d0 W T m0 (by omega) fl
 by_cases ea:w.1=u.1
 ·exact List.mem_append_left _ (List.mem_map.mpr ⟨u,hu,ea.symm⟩)
 refine List.mem_append_right _ ?_
 have r:=h.rise T'
 have open_le:∀ v∈R,∀ x,v.1<=x->x<=v.2.1->f x<=x+v.2.2:=fun v hv x x1 x2=>by
  obtain ⟨w0,w1,w2,w3⟩:=W v hv
  obtain ⟨k,k1,k2,k3,k4,k5⟩:=qby9 (t:=x) d0 w0 w1 w2
  have:=k5 0 x (by omega) (by omega) (Int.le_refl _)
  have:=(bt_min (T x)).le v hv
  omega
 have l1:=open_le u hu (w.1 - 1) (by omega) (by omega)
 have e1:w.1 - 1+1=w.1:=by omega
 have lt:f (w.1 - 1) < f (w.1 - 1+1):=by rw [e1]; omega
 have ne:f (w.1 - 1) ≠ w.1 - 1+u.2.2:=fun e=>by
  obtain ⟨w',hw',y1,y2⟩:=C.cov (w.1 - 1) (by omega) (by omega) lt
  obtain ⟨n0,n1,n2,n3⟩:=C.mem w' hw'
  have c':=(n3 _ y1 y2).1
  have apart:w'.2.1 < w.1:=by
   rcases (by omega:w'.2.1 < w.1\/w.1<=w'.2.1) with y | y
   ·exact y
   ·exfalso
    obtain ⟨i,hi,a1,a2,a3⟩:=qge9 hw
    obtain ⟨j,hj,b1,b2,b3⟩:=qge9 hw'
    rcases (by omega:i < j\/i=j\/j < i) with q | q | q
    ·have:rB R' i < rA R' j:=(qjj9 h.srt q hj).1
     omega
    ·subst q
     omega
    ·have:rB R' j < rA R' i:=(qjj9 h.srt q hi).1
     omega
  obtain ⟨i,hi,a1,a2,a3⟩:=qge9 hw
  obtain ⟨j,hj,b1,b2,b3⟩:=qge9 hw'
  rcases (by omega:i < j\/i=j\/j < i) with q | q | q
  ·have:rB R' i < rA R' j:=(qjj9 h.srt q hj).1
   omega
  ·subst q
   omega
  ·have:=(qjj9 h.srt q hi).2.2
   exact this (by show rB R' j+1=rA R' i; omega) (by show rC R' j=rC R' i; omega)
 obtain ⟨v,hv,v1,v2,v3⟩:=at_open d0 W T (by omega) (by omega) lt
 rcases (by omega:v.2.1=w.1 - 1\/w.1<=v.2.1) with y | y
 ·exact List.mem_map.mpr ⟨v,hv,by omega⟩
 ·have:=open_le v hv w.1 (by omega) y
  omega
theorem ck_len (h:CK d R') (W:Wins d R) (e:∀ t,bt d R' t=bt d R t):R'.length<=2 * R.length+1:=by
 by_cases n:R'=[]
 ·rw [n]; simp
 ·have T':=tells_bf (d:=d) n
  have T:Tells d R (bf d R'):=fun t=>by rw [<- e t]; exact T' t
  have:=qiz9 h.starts (L:=0 :: (R.map (·.1) ++ R.map (·.2.1+1))) fun x hx=>by
   obtain ⟨w,hw,rfl⟩:=List.mem_map.mp hx
   exact start_at h W T T' w hw
  simp only [List.length_map,List.length_cons,List.length_append] at this
  omega
end
end Ma
namespace Ma
theorem Cov.lt {f:Int->Int}:∀ {S:List T4} {lo hi:Int} {i j:Nat} {r r':T4},Cov f lo S hi->S[i]?=some r->S[j]?=some r'->i < j->r.2.1 < r'.1
 | [],_,_,_,_,_,_,_,e,_,_=>by simp at e
 | r0 :: S,lo,hi,0,j+1,r,r',⟨_,h2,h3,h4⟩,e,e',_=>by
  have e1:r0=r:=by simpa using e
  subst e1
  have e2:S[j]?=some r':=by simpa using e'
  have:=(Cov.get h4 e2).1
  omega
 | r0 :: S,lo,hi,i+1,j+1,r,r',⟨_,h2,h3,h4⟩,e,e',l=>Cov.lt h4 (by simpa using e) (by simpa using e') (by omega)
 | r0 :: S,lo,hi,i,0,r,r',_,_,_,l=>by omega
theorem Cov.congr {f g:Int->Int}:∀ {S:List T4} {lo hi:Int},(∀ x,lo<=x->x < hi->f x=g x)->Cov f lo S hi->Cov g lo S hi
 | [],_,_,_,h=>h
 | r :: S,lo,hi,e,⟨h1,h2,h3,h4⟩=>⟨h1,h2,fun x a b=>by
  have:=Cov.le h4
  rw [<- e x (by omega) (by omega)]; exact h3 x a b,Cov.congr (fun x a b=>e x (by omega) b) h4⟩
theorem rise_comp {d:Int} {f g:Int->Int} (rf:Rise d f) (rg:Rise d g):Rise d fun x=>g (f x):=by
 refine ⟨fun t=>?_,fun t u l=>rg.mono _ _ (rf.mono t u l),fun t=>?_⟩
 ·have:=rf.ge t
  have:=rg.ge (f t)
  show t<=g (f t)
  omega
 ·show g (f (t+d))=g (f t)+d
  rw [rf.per,rg.per]
noncomputable def rideRow (p e m ride:Int) (r:T4):T4:=if r.2.2.1=true then (p,e,true,m+r.2.2.2) else (p,e,false,ride+r.2.2.2)
theorem ride_cov {d:Int} {g:Int->Int} (rg:Rise d g) {r:T4} {p e m k ride:Int} (hm:m=d * k) (pe:p<=e) (h1:m+r.1<=p+ride) (h2:e+ride<=m+r.2.1) (t:∀ x,r.1<=x->x<=r.2.1->g x=tell r x) :
  Cov (fun x=>g (x+ride)) p [rideRow p e m ride r] (e+1):=by
 have gx:∀ x,p<=x->x<=e->g (x+ride)=m+tell r (x+ride - m):=fun x x0 x1=>by
  have q:=rg.mul (x+ride - m) k
  rw [<- hm] at q
  have e1:x+ride - m+m=x+ride:=by omega
  rw [e1] at q
  rw [q,t _ (by omega) (by omega)]
  omega
 unfold rideRow
 unfold tell at gx
 by_cases s:r.2.2.1=true
 ·rw [if_pos s]
  refine Cov.one (r:=(p,e,true,m+r.2.2.2)) pe fun x x0 x1=>?_
  show g (x+ride)=m+r.2.2.2
  rw [gx x x0 x1,if_pos s]
 ·rw [if_neg s]
  refine Cov.one (r:=(p,e,false,ride+r.2.2.2)) pe fun x x0 x1=>?_
  show g (x+ride)=x+(ride+r.2.2.2)
  rw [gx x x0 x1,if_neg s]
  omega
noncomputable def obind (a b:Int->Option Int) (t:Int):Option Int:=(a t).bind b
end Ma
namespace Ma
end Ma
namespace Ma
section
variable {d a b c:Int}
end
section
variable {d:Int} {R:List T3} {f:Int->Int}
end
end Ma
namespace Ma
section
variable {f g:Int->Int}
end
end Ma
namespace Ma
theorem nextO_eq (d a b t:Int) (h1:a<=b):nextO d a b t=if b < t % d then t+d+a - t % d else if t % d < a then t+a - t % d else t:=by
 unfold nextO
 split
 ·omega
 ·split <;> omega
end Ma
namespace L2
open PySem PySem.Spec PyProof.Rows
noncomputable def Ite (K:W.Frag) (a:Addr):It :=
 ⟨fun i H=>∃ xs x,SqL K H a xs/\xs[i]?=some x,
  fun i H v H'=>∃ p x,v=.ref p/\H p=none/\H'=upd H p (.tup [.int i,x])/\(∀ xs,SqL K H a xs->xs[i]?=some x),
  fun i H=>∃ xs,SqL K H a xs/\xs.length<=i⟩
theorem turn_enum {P:Program} {w:World} {K:W.Frag} {es:List Expr} {kk:Nat} {tp:Pos} {e it a:Addr} (D:e ≠ it):Turn P w K (.Tuple es kk tp) (Ite K a) [e,it] e
  (fun i h=>(∃ old,IsEnum h e it (i:Int) old)/\h.IsListIter it a i) where
 mem:=by simp
 obj:=fun i h st c hc=>by
  obtain ⟨⟨old,he⟩,⟨o1,e1,c1,d1⟩⟩:=st
  simp only [List.mem_cons,List.not_mem_nil,or_false] at hc
  rcases hc with rfl | rfl
  ·exact ⟨_,he,fun v q=>by cases (show Data.fields _=Data.cell v from q)⟩
  ·exact ⟨o1,e1,fun v q=>by rw [d1] at q; cases q⟩
 keep:=fun i h h' st k=>by
  obtain ⟨⟨old,he⟩,h1⟩:=st
  exact ⟨⟨old,k e (by simp) _ he⟩,h1.at fun o e=>k it (by simp) o e⟩
 item:=by
  intro X hP hw hK hc i pins s σ H E I hf st hg
  subst hP hw hK
  obtain ⟨xs,x,hq1,hx⟩:=hg
  obtain ⟨t1,rv1,p1,hz1⟩:=I.list hq1
  obtain ⟨u,hu,ru⟩:=rv1.get hx
  obtain ⟨⟨old,he⟩,h1⟩:=st
  refine wpAny_pyNext_enum_item he h1 p1.isList (x:=u) (by simpa using hu) D fun h' a1 a3 a5 a6 k=>?_
  have fresh:H s.heap.objs.size=none:=I.hok.fresh (Nat.le_refl _)
  have szn:∀ c o,s.heap.get? c=some o->c ≠ s.heap.objs.size:=fun c o e=>Nat.ne_of_lt (Heap.lt_size e)
  have I1:Inv X pins σ (upd H s.heap.objs.size (.tup [.int i,x])) { s with heap:=h' }:=by
   refine I.turnedL (ch:=[e,it]) (fun c hc=>hf c hc) (fun c o hc e=>?_) (fun c o e=>by rw [qao9 (qax9 e fresh)]; exact e) (fun c o e n=>by rw [qao9 (szn c o e)]; exact n) fun c o n e=>?_
   ·simp only [List.mem_cons,List.not_mem_nil,or_false,not_or] at hc
    exact k c o hc.1 hc.2 e
   ·by_cases ec:c=s.heap.objs.size
    ·rw [ec,qaf9] at e
     cases e
     rw [ec]
     exact ⟨by show 2<=sizeLine; decide,[.int i s.toks,u],.cons ⟨_,rfl⟩ (.cons ru .nil),_,a5,rfl,_,rfl⟩
    ·rw [qao9 ec,n] at e
     cases e
  have I1':Inv X pins σ (upd H s.heap.objs.size (.tup [.int i,x])) { s with heap:=h',toks:=s.toks+1 }:=I1.tok _
  refine ⟨_,rfl,wpAny_letOwnedTupleGo_enum a1 fun h'' hz'' sb=>?_⟩
  have zf:=hf e (by simp)
  have zs:e ≠ s.heap.objs.size:=szn e _ he
  have I2:Inv X pins σ (upd H s.heap.objs.size (.tup [.int i,x])) { s with heap:=h'',toks:=s.toks+1 }:=Inv.turned (s:={ s with heap:=h',toks:=s.toks+1 }) (h':=h'') (t':=s.toks+1) (it:=e) I1' (fun c o hc e=>sb.extBut c o hc e) (by rw [qao9 zs]; exact zf.1) zf.2.1 zf.2.2.2.1 zf.2.2.2.2.1 zf.2.2.2.2.2
  refine ⟨.ref s.heap.objs.size,_,I2,rfl,⟨_,x,rfl,fresh,rfl,fun xs' h=>by rw [I.list_inj h hq1]; exact hx⟩,?_,fun c hc=>?_⟩
  ·exact ⟨⟨_,hz''⟩,a3.extBut sb.extBut D.symm⟩
  ·have q:c ≠ s.heap.objs.size:=by
    obtain ⟨o1,e1,_⟩:=h1
    simp only [List.mem_cons,List.not_mem_nil,or_false] at hc
    rcases hc with rfl | rfl
    ·exact zs
    ·exact szn _ _ e1
   rw [qao9 q]
   exact (hf c hc).1
 done:=by
  intro X hP hw hK hc i pins s σ H E I hf st hg
  subst hP hw hK
  obtain ⟨xs,hq1,hl⟩:=hg
  obtain ⟨t1,rv1,p1,hz1⟩:=I.list hq1
  have l1:=rv1.length
  obtain ⟨⟨old,he⟩,h1⟩:=st
  refine wpAny_pyNext_enum_end (I.ok.hd hc) he h1 p1.isList (by simp; omega) fun h' k=>⟨rfl,?_⟩
  refine I.turnedL (ch:=[e,it]) (fun c hc=>hf c hc) (fun c o hc e=>?_) (fun c o e=>e) (fun c o e n=>n) fun c o n e=>by rw [n] at e; cases e
  simp only [List.mem_cons,List.not_mem_nil,or_false,not_or] at hc
  exact k c o hc.2 e
 self:=fun _ _ _ _ _ st h=>by
  obtain ⟨⟨old,he⟩,_⟩:=st
  exact wpAny_pyIter_enum he h
noncomputable def iEnum (K:W.Frag) (ta:TA):TI:=fun σ H R=>ta σ H fun vs H1=>∃ l1,vs=[.ref l1]/\(∃ xs,SqL K H1 l1 xs)/\R (Ite K l1) H1
theorem boot_enum:bootBuiltins "enumerate" = some (.type "enumerate"):=by decide +kernel
section
variable {X:Cx}
theorem pi_enum {a:Expr} {ta:TA} {p pos tp:Pos} {es:List Expr} {kk:Nat} (hg:Gl X "enumerate") (hm:X.mg "enumerate" = none) (ha:PA X [a] ta) (hs:starEach [a] X.env=[(false,eval a X.env)]) :
  PI X (.Tuple es kk tp) (.Call (.Name "enumerate" p) [a] [] pos) (iEnum X.K ta):=by
 intro pins s σ H R I h
 refine Call_ (qnd9 I hg hm boot_enum (PyProof.Rows.callWith_type1 (thn (ha pos pins s σ H _ I h) fun us s1 ⟨vs,H1,I1,r1,q1⟩=>?_) (by rw [hs]; rfl) (by rfl)))
 obtain ⟨l1,e,⟨xs,hq1⟩,q⟩:=q1
 subst e
 cases r1 with
 | cons r rr =>
  cases rr
  cases r
  obtain ⟨t1,rv1,p1,hz1⟩:=I1.list hq1
  refine call_enumerate_list p1.isList fun h' hz hit1 hsz k=>wpAny_pyIter_enum hz ?_
  refine ⟨s1.heap.objs.size+1,[s1.heap.objs.size+1,s1.heap.objs.size],_,_,H1,rfl,I1.kept (t':=s1.toks) k,turn_enum (Nat.succ_ne_self _),⟨⟨_,hz⟩,hit1⟩,fun c hc=>?_,q⟩
  have ge:s1.heap.objs.size<=c:=by
   simp only [List.mem_cons,List.not_mem_nil,or_false] at hc
   rcases hc with rfl | rfl <;> omega
  exact I1.fpOk ge (I1.hok.fresh ge)
theorem qkw9 {a:Expr} {ta:TA} {p pos tp:Pos} {es:List Expr} {kk:Nat} (hg:Gl X "enumerate") (hm:X.mg "enumerate" = none) (ha:QA X [a] ta) (h:qbi9 a=true:=by rfl) :
  QI X (.Tuple es kk tp) (.Call (.Name "enumerate" p) [a] [] pos) (iEnum X.K ta):=⟨pi_enum hg hm ha.run (by rw [se_of h]; rfl)⟩
end
theorem qhn9 {K:W.Frag} {a:Addr} {xs:List V} {g:TG} {tb:TS} {D:Ends} {σ:St} {H:Hp} (Pv:Nat->St->Hp->Prop) (h0:Pv 0 σ H) (hl:∀ i σ H,i<=xs.length->Pv i σ H->SqL K H a xs)
  (hs:∀ i x p σ H,xs[i]?=some x->Pv i σ H->H p=none->g (.ref p) σ (upd H p (.tup [.int i,x])) fun σ2 H2=>tb { D with nx:=Pv (i+1),ct:=Pv (i+1),bk:=D.nx } σ2 H2) (hd:∀ σ H,Pv xs.length σ H->D.nx σ H) :
  ∃ W:Nat->Nat->St->Hp->Prop,(∃ m,W 0 m σ H)/\∀ i m σ H,W i m σ H ->
   ((Ite K a).stop i H/\D.nx σ H)\/((Ite K a).go i H/\∃ N:St->Hp->Prop,(∀ σ' H',N σ' H'->∃ m',m' < m/\W (i+1) m' σ' H')/\∀ x H',(Ite K a).yld i H x H'->g x σ H' fun σ2 H2=>tb { D with nx:=N,ct:=N,bk:=D.nx } σ2 H2):=by
 refine ⟨fun i m σ H=>m=xs.length - i/\i<=xs.length/\Pv i σ H,⟨xs.length,by simp,Nat.zero_le _,h0⟩,?_⟩
 intro i m σ H z9;obtain ⟨rfl,hi,p⟩ := z9
 have q:=hl i σ H hi p
 by_cases hlt:i < xs.length
 ·refine .inr ⟨⟨xs,xs[i],q,by simp [hlt]⟩,Pv (i+1),fun σ' H' p'=>⟨xs.length - (i+1),by omega,rfl,hlt,p'⟩,fun x H' y=>?_⟩
  obtain ⟨c,x,e,fr,e2,y⟩:=y
  subst e e2
  exact hs i x c σ _ (y xs q) p fr
 ·have e:i=xs.length:=by omega
  subst e
  exact .inl ⟨⟨xs,q,Nat.le_refl _⟩,hd σ H p⟩
section
variable {X:Cx} {e o a:Expr} {es:List Expr} {to te:TE} {t:TA} {apos pos:Pos}
theorem qoi9 {i:Nat} {x:Str} {op:Operator} {ti:TIp} {pos':Pos} (hN:X.N.Nodup) (hi:X.N[i]?=some x) (hx:Loc X.env.scope x) (ho:PIp X op ti) (he:QE X e te) (hf:X.fn x=true\/X.env.scope.names.lookup x=some .local:=by first | exact .inl rfl | exact .inr rfl | assumption) :
  QS X (.AugAssign (.Name x pos') op e pos) (tAug i te ti):=⟨ps_aug hN hi hx he.run ho hf⟩
theorem qgb9 {st:Stmt}:QS X st tNever:=⟨ps_never⟩
theorem qop_cat:QOp X (binaryOp .Add) rCat:=⟨op_cat⟩
theorem qhg9 (ho:QE X o to) (ha:QA X [e] t) (h:qbi9 e=true:=by rfl) (hbase:attributeBase o "extend" X.env (eval o X.env)=eval o X.env:=by rfl) (hline:(apos.endLine == pos.line)=true:=by rfl) :
  QE X (.Call (.Attribute o "extend" apos) [e] [] pos) (tBM X.K "list" rExtend to t) :=
 ⟨pe_bm PySem.F.plainAttrs_list PySem.F.slot_list_extend PySem.F.type_list_extend mt_extend ho.run ha.run hbase (by rw [se_of h]; rfl) hline (se_of h) rfl⟩
theorem qhs9 (ho:QE X o to) (hbase:attributeBase o "clear" X.env (eval o X.env)=eval o X.env:=by rfl) (hline:(apos.endLine == pos.line)=true:=by rfl) :
  QE X (.Call (.Attribute o "clear" apos) [] [] pos) (tBM0 X.K "list" rClear to):=⟨pe_bm0 PySem.F.plainAttrs_list PySem.F.slot_list_clear PySem.F.type_list_clear mt_clear ho.run hbase hline⟩
end
section
variable {lo:Int} {n:Nat} {caps:List (Option Nat)} {g:TG} {tt:TT} {te:TE} {σ:St} {H:Hp} {Q:VK}
theorem qmw9 (Pv:Addr->Nat->Hp->Prop) (h0:∀ D,H D=none->Pv D 0 (upd H D (.lst [])))
  (hs:∀ D i H',H D=none->i < n->Pv D i H'->g (.int (lo+(i:Nat))) (seen caps σ) H' fun σ4 H4=>(∀ (k:Nat) v,(seen caps σ)[k]?=some (some v)->σ4[k]?=some (some v))/\tt σ4 H4 fun b H5 =>
   if b=true then te σ4 H5 fun y H6=>∃ ys,H6 D=some (.lst ys)/\ys.length < sizeLine/\Pv D (i+1) (upd H6 D (.lst (ys ++ [y]))) else Pv D (i+1) H5)
  (hd:∀ D H',H D=none->Pv D n H'->Q (.ref D) H'):cBody caps g tt te σ Q (Itr lo n) H:=by
 intro D hD
 refine ⟨fun i m H'=>m=n - i/\i<=n/\Pv D i H',⟨n,by simp,Nat.zero_le _,h0 D hD⟩,?_⟩
 intro i m H2 z9;obtain ⟨rfl,hi,p⟩ := z9
 by_cases hlt:i < n
 ·refine .inr ⟨hlt,Pv D (i+1),fun H' p'=>⟨n - (i+1),by omega,rfl,hlt,p'⟩,fun x H3 y=>?_⟩
  obtain ⟨e,y⟩:=y
  subst e y
  exact hs D i _ hD hlt p
 ·have e:i=n:=by omega
  subst e
  exact .inl ⟨Nat.le_refl _,hd D H2 hD p⟩
theorem qmi9 (Pv:Addr->Nat->Hp->Prop) (h0:∀ D,H D=none->Pv D 0 (upd H D (.lst [])))
  (hs:∀ D i H',H D=none->i < n->Pv D i H'->g (.int (lo+(i:Nat))) (seen caps σ) H' fun σ4 H4=>(∀ (k:Nat) v,(seen caps σ)[k]?=some (some v)->σ4[k]?=some (some v)) /\
   te σ4 H4 fun y H6=>∃ ys,H6 D=some (.lst ys)/\ys.length < sizeLine/\Pv D (i+1) (upd H6 D (.lst (ys ++ [y]))))
  (hd:∀ D H',H D=none->Pv D n H'->Q (.ref D) H'):cBody caps g tTrue te σ Q (Itr lo n) H:=qmw9 Pv h0 hs hd
end
section
variable {X:Cx} {tg:Expr}
end
section
variable {X:Cx} {N':List Str} {scope:Scope} {cl:List (Str × Addr)} {caps:List (Option Nat)} {tg iter elt:Expr} {wi:TI} {g:TG} {te:TE} {tt:TT} {pos:Pos}
end
section
variable {X:Cx}
end
end L2
namespace My
open PySem L2
noncomputable def Tup3 (H:Hp) (r:Addr) (a b c:Int):Prop:=H r=some (.tup [.int a,.int b,.int c])
theorem qal9 {H:Hp} {p:Addr} (h:H p=none) (o:HO):Same H (upd H p o):=fun b u q=>by rw [qao9 (qax9 q h)]; exact q
theorem qaq9 {H H':Hp} {p:Addr} {o:HO} (hp:H p=none) (hg:upd H p o=H'):Same H H'/\H' p=some o:=by
 subst hg
 exact ⟨qal9 hp o,qaf9⟩
theorem at_int {ns:List Int} {k:Int} (h0:0<=k) (h:k < (ns.length:Int)):∃ v:Int,atI (ns.map V.int) k=some (.int v):=by
 have hk:k.toNat < ns.length:=by omega
 have ek:k=((k.toNat:Nat):Int):=by omega
 have q:atI (ns.map V.int) ((k.toNat:Nat):Int)=some (.int ns[k.toNat]):=qeu9 (by rw [List.getElem?_map,List.getElem?_eq_getElem hk] <;> rfl)
 rw [<- ek] at q
 exact ⟨_,q⟩
theorem iteP {c A B:Prop} [Decidable c] (h:c) (x:A):if c then A else B:=by
 rw [if_pos h]
 exact x
theorem iteN {c A B:Prop} [Decidable c] (h:¬ c) (x:B):if c then A else B:=by
 rw [if_neg h]
 exact x
theorem day6 {c j:Int} (hc:1<=c/\c<=1000000000000000) (h0:0<=j) (h1:j < 6):∃ v:Int,atI [V.int 1,V.int 2,V.int 3,V.int 24,V.int 1440,V.int c] j=some (.int v)/\1<=v/\v<=1000000000000000:=by
 rcases (by omega:j=0\/j=1\/j=2\/j=3\/j=4\/j=5) with rfl | rfl | rfl | rfl | rfl | rfl
 ·exact ⟨1,rfl,by decide,by decide⟩
 ·exact ⟨2,rfl,by decide,by decide⟩
 ·exact ⟨3,rfl,by decide,by decide⟩
 ·exact ⟨24,rfl,by decide,by decide⟩
 ·exact ⟨1440,rfl,by decide,by decide⟩
 ·exact ⟨c,rfl,hc.1,hc.2⟩
theorem pow15:((10:Int) ^ (15:Int).toNat)=1000000000000000:=by decide +kernel
noncomputable def spCell (K:W.Frag):Sp:=fun vs H Q _=>∃ (a:Addr) (ns:List Int) (k:Int),vs=[.ref a,.int k]/\SqL K H a (ns.map V.int)/\0<=k/\∀ c:Int,Q (.int c) H
noncomputable def spDay:Sp:=fun vs H Q _=>∃ c:Int,vs=[.int c]/\∀ (d:Int) (H':Hp),1<=d->d<=1000000000000000->Same H H'->Q (.int d) H'
open Ma (T3 rA rB rC)
noncomputable def tup3 (R:List T3) (i:Nat):HO:=.tup [.int (rA R i),.int (rB R i),.int (rC R i)]
structure RowsAt (H:Hp) (p:Addr) (R:List T3):Prop where
 ex:∃ rs:List Addr,H p=some (.lst (rs.map V.ref))/\rs.length=R.length/\∀ (i:Nat) r,rs[i]?=some r->H r=some (tup3 R i)
theorem RowsAt.mono {H H':Hp} {p:Addr} {R:List T3} (h:RowsAt H p R) (s:∀ b o,H b=some o->(∀ z,o ≠ .tbl z)->H' b=some o):RowsAt H' p R:=by
 obtain ⟨rs,h1,h2,h3⟩:=h.ex
 exact ⟨rs,s _ _ h1 (fun _ z=>nomatch z),h2,fun i r e=>s _ _ (h3 i r e) (fun _ z=>nomatch z)⟩
theorem RowsAt.at {K:W.Frag} {H:Hp} {p:Addr} {R:List T3} (h:RowsAt H p R):∃ xs:List V,SqL K H p xs/\xs.length=R.length/\∀ k:Int,0<=k->k < (R.length:Int)->∃ r,atI xs k=some (.ref r)/\H r=some (tup3 R k.toNat):=by
 obtain ⟨rs,h1,h2,h3⟩:=h.ex
 refine ⟨rs.map V.ref,SqL.of h1,by rw [List.length_map,h2],fun k k0 k1=>?_⟩
 have hk:k.toNat < rs.length:=by omega
 have ek:k=((k.toNat:Nat):Int):=by omega
 have q:atI (rs.map V.ref) ((k.toNat:Nat):Int)=some (.ref rs[k.toNat]):=qeu9 (by rw [List.getElem?_map]; simp [hk])
 rw [<- ek] at q
 exact ⟨rs[k.toNat],q,h3 _ _ (List.getElem?_eq_getElem hk)⟩
theorem map_ref {rs:List Addr} {i:Nat} {y:V} (h:(rs.map V.ref)[i]?=some y):∃ r,y=V.ref r/\rs[i]?=some r:=by
 rw [List.getElem?_map] at h
 cases e:rs[i]? with
 | none=>rw [e] at h; cases h
 | some z=>rw [e] at h; exact ⟨z,(Option.some.inj h).symm,rfl⟩
theorem qkv9 {H:Hp} {P:Addr} {pos:Pos} {q:Str} (h:H P=some (.tbl #[])):TabOk H P pos q:=⟨#[],h,trivial,.inl rfl⟩
structure LA {α:Type} (enc:α->List V) (H:Hp) (p:Addr) (xs:List α):Prop where
 ex:∃ rs:List Addr,H p=some (.lst (rs.map V.ref))/\rs.length=xs.length/\∀ (i:Nat) r x,rs[i]?=some r->xs[i]?=some x->H r=some (.tup (enc x))
section
variable {α:Type} {enc:α->List V} {H H':Hp} {p q r:Addr} {xs ys:List α} {vs ws:List V}
theorem LA.nil (h:H p=some (.lst [])):LA enc H p []:=⟨[],h,rfl,fun i r x e=>by cases i <;> cases e⟩
theorem LA.mono (h:LA enc H p xs) (s:∀ b o,H b=some o->(∀ z,o ≠ .tbl z)->H' b=some o):LA enc H' p xs:=by
 obtain ⟨rs,h1,h2,h3⟩:=h.ex
 exact ⟨rs,s _ _ h1 (fun _ z=>nomatch z),h2,fun i r x e e'=>s _ _ (h3 i r x e e') (fun _ z=>nomatch z)⟩
theorem LA.same (h:LA enc H p xs) (s:Same H H'):LA enc H' p xs:=h.mono fun b o e _=>s b o e
theorem LA.lst (h:LA enc H p xs):∃ vs,H p=some (.lst vs)/\vs.length=xs.length/\∀ (i:Nat) y,vs[i]?=some y->∃ r x,y=.ref r/\xs[i]?=some x/\H r=some (.tup (enc x)):=by
 obtain ⟨rs,h1,h2,h3⟩:=h.ex
 refine ⟨_,h1,by rw [List.length_map,h2],fun i y e=>?_⟩
 obtain ⟨r,rfl,er⟩:=map_ref e
 have hi:i < xs.length:=by
  have:=(List.getElem?_eq_some_iff.mp er).1
  omega
 exact ⟨r,xs[i],rfl,List.getElem?_eq_getElem hi,h3 i r _ er (List.getElem?_eq_getElem hi)⟩
theorem LA.of (h:H p=some (.lst vs)) (l:vs.length=xs.length) (g:∀ (i:Nat) y,vs[i]?=some y->∃ r,y=.ref r/\∀ x,xs[i]?=some x->H r=some (.tup (enc x))):LA enc H p xs:=by
 have go:∀ (vs:List V),(∀ (i:Nat) y,vs[i]?=some y->∃ r,y=V.ref r)->∃ rs:List Addr,vs=rs.map V.ref:=by
  intro vs
  induction vs with
  | nil=>intro _; exact ⟨[],rfl⟩
  | cons v vs ih =>
   intro g
   obtain ⟨r,e⟩:=g 0 v rfl
   obtain ⟨rs,e2⟩:=ih fun i y e=>g (i+1) y (by simpa using e)
   exact ⟨r :: rs,by rw [e,e2]; rfl⟩
 obtain ⟨rs,e⟩:=go vs fun i y e=>by
  obtain ⟨r,e1,_⟩:=g i y e
  exact ⟨r,e1⟩
 subst e
 refine ⟨rs,h,by rw [List.length_map] at l; exact l,fun i r x e1 e2=>?_⟩
 obtain ⟨r',e3,e4⟩:=g i (.ref r) (by rw [List.getElem?_map,e1]; rfl)
 cases e3
 exact e4 x e2
theorem LA.append {x:α} (h:LA enc H p xs) (hx:H p=some (.lst vs)) (hr:H r=some (.tup (enc x))):LA enc (upd H p (.lst (vs ++ [.ref r]))) p (xs ++ [x]):=by
 obtain ⟨vs',h1,h2,h3⟩:=h.lst
 rw [h1] at hx
 cases hx
 have ne:∀ q (ys:List V),H q=some (.tup ys)->q ≠ p:=fun q ys e z=>by rw [z,h1] at e; cases e
 refine LA.of qaf9 (by simp [h2]) fun i y e=>?_
 rcases (by omega:i < vs.length\/vs.length<=i) with hi | hi
 ·rw [List.getElem?_append_left hi] at e
  obtain ⟨r',x',e1,e2,e3⟩:=h3 i y e
  refine ⟨r',e1,fun x2 e4=>?_⟩
  rw [List.getElem?_append_left (by omega),e2] at e4
  cases e4
  rw [qao9 (ne r' _ e3)]
  exact e3
 ·rw [List.getElem?_append_right hi] at e
  have ei:i - vs.length=0:=by
   have:=(List.getElem?_eq_some_iff.mp e).1
   simp at this
   omega
  rw [ei] at e
  have e':V.ref r=y:=by simpa using e
  refine ⟨r,e'.symm,fun x2 e4=>?_⟩
  rw [List.getElem?_append_right (by omega),show i - xs.length=0 by omega] at e4
  have e5:x=x2:=by simpa using e4
  subst e5
  rw [qao9 (ne r _ hr)]
  exact hr
theorem LA.extend (h:LA enc H p xs) (h':LA enc H q ys) (hx:H p=some (.lst vs)) (hy:H q=some (.lst ws)):LA enc (upd H p (.lst (vs ++ ws))) p (xs ++ ys):=by
 obtain ⟨vs',h1,h2,h3⟩:=h.lst
 obtain ⟨ws',k1,k2,k3⟩:=h'.lst
 rw [h1] at hx
 cases hx
 rw [k1] at hy
 cases hy
 have ne:∀ q (ys:List V),H q=some (.tup ys)->q ≠ p:=fun q ys e z=>by rw [z,h1] at e; cases e
 refine LA.of qaf9 (by simp [h2,k2]) fun i y e=>?_
 rcases (by omega:i < vs.length\/vs.length<=i) with hi | hi
 ·rw [List.getElem?_append_left hi] at e
  obtain ⟨r',x',e1,e2,e3⟩:=h3 i y e
  refine ⟨r',e1,fun x2 e4=>?_⟩
  rw [List.getElem?_append_left (by omega),e2] at e4
  cases e4
  rw [qao9 (ne r' _ e3)]
  exact e3
 ·rw [List.getElem?_append_right hi] at e
  obtain ⟨r',x',e1,e2,e3⟩:=k3 _ y e
  refine ⟨r',e1,fun x2 e4=>?_⟩
  rw [List.getElem?_append_right (by omega),show i - xs.length=i - vs.length by omega,e2] at e4
  cases e4
  rw [qao9 (ne r' _ e3)]
  exact e3
theorem LA.cat (h:LA enc H p xs) (h':LA enc H q ys) (hx:H p=some (.lst vs)) (hy:H q=some (.lst ws)) (hr:H r=none):LA enc (upd H r (.lst (vs ++ ws))) r (xs ++ ys):=by
 obtain ⟨vs',h1,h2,h3⟩:=h.lst
 obtain ⟨ws',k1,k2,k3⟩:=h'.lst
 rw [h1] at hx
 cases hx
 rw [k1] at hy
 cases hy
 have ne:∀ q o,H q=some o->q ≠ r:=fun q o e=>qax9 e hr
 refine LA.of qaf9 (by simp [h2,k2]) fun i y e=>?_
 rcases (by omega:i < vs.length\/vs.length<=i) with hi | hi
 ·rw [List.getElem?_append_left hi] at e
  obtain ⟨r',x',e1,e2,e3⟩:=h3 i y e
  refine ⟨r',e1,fun x2 e4=>?_⟩
  rw [List.getElem?_append_left (by omega),e2] at e4
  cases e4
  rw [qao9 (ne r' _ e3)]
  exact e3
 ·rw [List.getElem?_append_right hi] at e
  obtain ⟨r',x',e1,e2,e3⟩:=k3 _ y e
  refine ⟨r',e1,fun x2 e4=>?_⟩
  rw [List.getElem?_append_right (by omega),show i - xs.length=i - vs.length by omega,e2] at e4
  cases e4
  rw [qao9 (ne r' _ e3)]
  exact e3
theorem LA.setAt {x:α} {j:Nat} (h:LA enc H p xs) (hx:H p=some (.lst vs)) (hr:H r=some (.tup (enc x))):LA enc (upd H p (.lst (vs.set j (.ref r)))) p (xs.set j x):=by
 obtain ⟨vs',h1,h2,h3⟩:=h.lst
 rw [h1] at hx
 cases hx
 have ne:∀ q (ys:List V),H q=some (.tup ys)->q ≠ p:=fun q ys e z=>by rw [z,h1] at e; cases e
 refine LA.of qaf9 (by simp [h2]) fun i y e=>?_
 rw [List.getElem?_set] at e
 by_cases c:j=i
 ·rw [if_pos c] at e
  split at e
  ·have e':V.ref r=y:=by simpa using e
   refine ⟨r,e'.symm,fun x2 e4=>?_⟩
   rw [List.getElem?_set,if_pos c] at e4
   split at e4
   ·have e5:x=x2:=by simpa using e4
    subst e5
    rw [qao9 (ne r _ hr)]
    exact hr
   ·cases e4
  ·cases e
 ·rw [if_neg c] at e
  obtain ⟨r',x',e1,e2,e3⟩:=h3 i y e
  refine ⟨r',e1,fun x2 e4=>?_⟩
  rw [List.getElem?_set,if_neg c,e2] at e4
  cases e4
  rw [qao9 (ne r' _ e3)]
  exact e3
theorem LA.copy (h:LA enc H p xs) (s:Same H H') (hx:H p=some (.lst vs)) (e:H' q=some (.lst vs)):LA enc H' q xs:=by
 obtain ⟨rs,h1,h2,h3⟩:=h.ex
 rw [h1] at hx
 cases hx
 exact ⟨rs,e,h2,fun i r x e1 e2=>s _ _ (h3 i r x e1 e2)⟩
theorem LA.at {K:W.Frag} (h:LA enc H p xs):∃ vs:List V,H p=some (.lst vs)/\vs.length=xs.length/\∀ (k:Nat) x,xs[k]?=some x->∃ r,atI vs (k:Int)=some (.ref r)/\H r=some (.tup (enc x)):=by
 obtain ⟨vs,h1,h2,h3⟩:=h.lst
 refine ⟨vs,h1,h2,fun k x e=>?_⟩
 have hk:k < vs.length:=by
  have:=(List.getElem?_eq_some_iff.mp e).1
  omega
 obtain ⟨r,x',e1,e2,e3⟩:=h3 k _ (List.getElem?_eq_getElem hk)
 rw [e] at e2
 cases e2
 exact ⟨r,qeu9 (by rw [List.getElem?_eq_getElem hk,e1]),e3⟩
end
theorem qnv9 {vs:List V} (h:vs ≠ []):atI vs (-1)=vs[vs.length - 1]?:=by
 have hl:0 < vs.length:=List.length_pos_iff.mpr h
 unfold atI ixN
 rw [if_neg (by omega),if_pos (by omega)]
 show vs[(-1+(vs.length:Int)).toNat]?=_
 congr 1
 omega
section
variable {α:Type} {D:α->PyData}
theorem qii9 [DecidableEq α] (hD:∀ x y,PyData.eqv (D x) (D y)=decide (x=y)):∀ xs ys:List α,PyData.eqvAll (xs.map D) (ys.map D)=decide (xs=ys)
 | [],[]=>by simp [PyData.eqvAll]
 | [],y :: ys=>by simp [PyData.eqvAll]
 | x :: xs,[]=>by simp [PyData.eqvAll]
 | x :: xs,y :: ys=>by
  have ih:=qii9 hD xs ys
  simp only [List.map_cons,PyData.eqvAll,ih,hD]
  by_cases c:x=y <;> by_cases c':xs=ys <;> simp [c,c']
theorem qfa9 [DecidableEq α] (hD:∀ x y,PyData.eqv (D x) (D y)=decide (x=y)) (xs ys:List α):PyData.eqv (.list (xs.map D)) (.list (ys.map D))=decide (xs=ys):=by
 simp only [PyData.eqv]
 exact qii9 hD xs ys
theorem qgd9 (h:∀ x,PyData.canLay0 (D x)=true):∀ xs:List α,PyData.canLayAll0 (xs.map D)=true
 | []=>by simp [PyData.canLayAll0]
 | x :: xs=>by
  have:=qgd9 h xs
  simp [PyData.canLayAll0,h,this]
theorem qhh9 {n:Nat} (h:∀ x,PyData.depth (D x)<=n):∀ xs:List α,PyData.depthAll (xs.map D)<=n
 | []=>by simp [PyData.depthAll]
 | x :: xs=>by
  have:=qhh9 h xs
  have:=h x
  simp only [List.map_cons,PyData.depthAll]
  omega
theorem qil9 {n:Nat} (h:∀ x,PyData.canLay0 (D x)=true) (h2:∀ x,PyData.depth (D x)<=n) (hn:n<=60) (xs:List α):SeqAt.shaped (.list (xs.map D))=true:=by
 have h3:=qhh9 h2 xs
 show (PyData.canLay0 (.list (xs.map D)) && decide (PyData.depth (.list (xs.map D))<=64))=true
 rw [Bool.and_eq_true]
 exact ⟨by simp only [PyData.canLay0]; exact qgd9 h xs,decide_eq_true (by simp only [PyData.depth]; omega)⟩
theorem LA.rd {K:W.Frag} {enc:α->List V} {ds:α->List PyData} {H:Hp} {p:Addr} {xs:List α} (h:LA enc H p xs) (hd:∀ x,RdAll K H (enc x) (ds x)):RdV K H (.ref p) (.list (xs.map fun x=>.tuple (ds x))):=by
 obtain ⟨rs,h1,h2,h3⟩:=h.ex
 refine .lst (SqL.of h1) ?_
 have go:∀ (rs:List Addr) (xs:List α),rs.length=xs.length->(∀ (i:Nat) r x,rs[i]?=some r->xs[i]?=some x->H r=some (.tup (enc x)))->RdAll K H (rs.map V.ref) (xs.map fun x=>.tuple (ds x)):=by
  intro rs
  induction rs with
  | nil =>
   intro xs hl _
   cases xs with
   | nil=>exact .nil
   | cons x xs=>cases hl
  | cons r rs ih =>
   intro xs hl g
   cases xs with
   | nil=>cases hl
   | cons x xs=>exact .cons (.tup (SqT.of (g 0 r x rfl rfl)) (hd x)) (ih xs (by simpa using hl) fun i r' x' e1 e2=>g (i+1) r' x' (by simpa using e1) (by simpa using e2))
 exact go rs xs h2 h3
end
open Ma (T4)
noncomputable def enc3 (t:T3):List V:=[.int t.1,.int t.2.1,.int t.2.2]
noncomputable def enc4 (t:T4):List V:=[.int t.1,.int t.2.1,.bl t.2.2.1,.int t.2.2.2]
noncomputable def dat3 (t:T3):PyData:=.tuple [.int t.1,.int t.2.1,.int t.2.2]
theorem eqv3 (x y:T3):PyData.eqv (dat3 x) (dat3 y)=decide (x=y):=by
 obtain ⟨a,b,c⟩:=x
 obtain ⟨a',b',c'⟩:=y
 simp only [dat3,PyData.eqv,PyData.eqvAll,Prod.mk.injEq]
 by_cases c1:a=a' <;> by_cases c2:b=b' <;> by_cases c3:c=c' <;> simp [c1,c2,c3]
section
variable {K:W.Frag} {H H':Hp} {p:Addr} {R:List T3}
theorem rd3 (h:LA enc3 H p R):RdV K H (.ref p) (.list (R.map dat3)):=h.rd fun x=>.cons (.int _) (.cons (.int _) (.cons (.int _) .nil))
theorem LA.rows (h:LA enc3 H p R):RowsAt H p R:=by
 obtain ⟨rs,h1,h2,h3⟩:=h.ex
 refine ⟨rs,h1,h2,fun i r e1=>?_⟩
 have hi:i < R.length:=by
  have:=(List.getElem?_eq_some_iff.mp e1).1
  omega
 exact h3 i r _ e1 (Ma.r_at hi)
end
inductive Dv (H:Hp):V->Prop
 | non:Dv H .non
 | bl (b:Bool):Dv H (.bl b)
 | int (i:Int):Dv H (.int i)
 | str (x:Str):Dv H (.str x)
 | lst {a:Addr} {xs:List V}:H a=some (.lst xs)->Dv H (.ref a)
 | tup {a:Addr} {xs:List V}:H a=some (.tup xs)->Dv H (.ref a)
noncomputable def isWh:V->Bool
 | .int _=>true
 | _=>false
noncomputable def tupV (H:Hp):V->Option (List V)
 | .ref a=>match H a with
  | some (.tup xs)=>some xs
  | _=>none
 | _=>none
noncomputable def lstV (H:Hp):V->Option (List V)
 | .ref a=>match H a with
  | some (.lst xs)=>some xs
  | _=>none
 | _=>none
theorem qol9 {H:Hp} {a:Addr} {xs:List V} (h:H a=some (.tup xs)):tupV H (.ref a)=some xs:=by simp [tupV,h]
theorem qkg9 {H:Hp} {a:Addr} {xs:List V} (h:H a=some (.lst xs)):lstV H (.ref a)=some xs:=by simp [lstV,h]
theorem qiq9 {H:Hp} {x:V} {xs:List V} (h:tupV H x=some xs):∃ a,x=.ref a/\H a=some (.tup xs):=by
 unfold tupV at h
 split at h
 ·rename_i a
  split at h
  ·rename_i ys e
   cases h
   exact ⟨a,rfl,e⟩
  ·cases h
 ·cases h
theorem qia9 {H:Hp} {x:V} {xs:List V} (h:lstV H x=some xs):∃ a,x=.ref a/\H a=some (.lst xs):=by
 unfold lstV at h
 split at h
 ·rename_i a
  split at h
  ·rename_i ys e
   cases h
   exact ⟨a,rfl,e⟩
  ·cases h
 ·cases h
section
variable {H H':Hp} {x:V}
theorem Dv.same (h:Dv H x) (s:Same H H'):Dv H' x:=by
 cases h with
 | non=>exact .non
 | bl b=>exact .bl b
 | int i=>exact .int i
 | str x=>exact .str x
 | lst e=>exact .lst (s _ _ e)
 | tup e=>exact .tup (s _ _ e)
theorem Dv.tupV_same (h:Dv H x) (s:Same H H'):tupV H' x=tupV H x:=by
 cases h with
 | non=>rfl
 | bl b=>rfl
 | int i=>rfl
 | str x=>rfl
 | lst e=>simp [tupV,e,s _ _ e]
 | tup e=>simp [tupV,e,s _ _ e]
theorem Dv.lstV_same (h:Dv H x) (s:Same H H'):lstV H' x=lstV H x:=by
 cases h with
 | non=>rfl
 | bl b=>rfl
 | int i=>rfl
 | str x=>rfl
 | lst e=>simp [lstV,e,s _ _ e]
 | tup e=>simp [lstV,e,s _ _ e]
theorem Dv.isTup {K:W.Frag} (h:Dv H x):∃ t,TyOf K H x t/\W.kitOne K t (.type "tuple")=some (tupV H x).isSome:=by
 cases h with
 | non=>exact ⟨_,.non,rfl⟩
 | bl b=>exact ⟨_,.bl b,rfl⟩
 | int i=>exact ⟨_,.int i,rfl⟩
 | str x=>exact ⟨_,.str x,rfl⟩
 | lst e=>exact ⟨_,.lst e,by simp only [tupV,e]; rfl⟩
 | tup e=>exact ⟨_,.tup e,by simp only [tupV,e]; rfl⟩
theorem Dv.isLst {K:W.Frag} (h:Dv H x):∃ t,TyOf K H x t/\W.kitOne K t (.type "list")=some (lstV H x).isSome:=by
 cases h with
 | non=>exact ⟨_,.non,rfl⟩
 | bl b=>exact ⟨_,.bl b,rfl⟩
 | int i=>exact ⟨_,.int i,rfl⟩
 | str x=>exact ⟨_,.str x,rfl⟩
 | lst e=>exact ⟨_,.lst e,by simp only [lstV,e]; rfl⟩
 | tup e=>exact ⟨_,.tup e,by simp only [lstV,e]; rfl⟩
end
noncomputable def Dv2 (H:Hp) (x:V):Prop:=Dv H x/\∀ zs,tupV H x=some zs->∀ z∈zs,Dv H z
theorem Dv2.same {H H':Hp} {x:V} (h:Dv2 H x) (s:Same H H'):Dv2 H' x:=⟨h.1.same s,fun zs e z hz=>(h.2 zs (by rw [<- h.1.tupV_same s]; exact e) z hz).same s⟩
noncomputable def winL (day:Int):List V->Bool
 | [.int a,.int b,.int c]=>decide (0<=a) && (decide (a<=b) && (decide (b < day) && decide (0<=c)))
 | _=>false
noncomputable def winV (H:Hp) (day:Int) (x:V):Bool:=match tupV H x with
 | some xs=>winL day xs
 | none=>false
theorem Dv.winV_same {H H':Hp} {x:V} (h:Dv H x) (s:Same H H') (day:Int):winV H' day x=winV H day x:=by
 unfold winV
 rw [h.tupV_same s]
noncomputable def qfo9 (H:Hp) (day:Int) (x:V):Bool:=match lstV H x with
 | some xs=>xs.all (winV H day)
 | none=>false
noncomputable def qfe9:Sp:=fun vs H Q _=>∃ x:V,vs=[x]/\Dv H x/\Q (.bl (isWh x)) H
noncomputable def qod9:Sp:=fun vs H Q _=>∃ (day:Int) (x:V),vs=[.int day,x]/\Dv2 H x/\∀ H',Same H H'->Q (.bl (winV H day x)) H'
noncomputable def Dv3 (H:Hp) (x:V):Prop:=Dv H x/\∀ xs,lstV H x=some xs->xs.length<=1000/\∀ y∈xs,Dv2 H y
noncomputable def qot9:Sp:=fun vs H Q _=>∃ (day:Int) (x:V),vs=[.int day,x]/\Dv3 H x/\∀ H',Same H H'->Q (.bl (qfo9 H day x)) H'
theorem qdl9 {α β:Type} {xs:List α} {i:Nat} {y:α} (f:α->β) (h:xs[i]?=some y):(xs.take (i+1)).map f=(xs.take i).map f ++ [f y]:=by
 rw [List.take_add_one,h,List.map_append]
 rfl
theorem three {α:Type}:∀ {xs:List α},xs.length=3->∃ u v w,xs=[u,v,w]
 | [u,v,w],_=>⟨u,v,w,rfl⟩
theorem qga9 {x:V} (h:isWh x=true):∃ i,x=.int i:=by
 cases x <;> first | exact ⟨_,rfl⟩ | cases h
inductive Ev (H:Hp):Nat->V->Prop
 | non {n:Nat}:Ev H n .non
 | bl {n:Nat} (b:Bool):Ev H n (.bl b)
 | int {n:Nat} (i:Int):Ev H n (.int i)
 | str {n:Nat} {x:Str}:PyData.strOk x=true->Ev H n (.str x)
 | lst {n:Nat} {a:Addr} {xs:List V}:H a=some (.lst xs)->(∀ y∈xs,Ev H n y)->Ev H (n+1) (.ref a)
 | tup {n:Nat} {a:Addr} {xs:List V}:H a=some (.tup xs)->(∀ y∈xs,Ev H n y)->Ev H (n+1) (.ref a)
theorem Ev.dv {H:Hp} {n:Nat} {x:V} (h:Ev H n x):Dv H x:=by
 cases h with
 | non=>exact .non
 | bl b=>exact .bl b
 | int i=>exact .int i
 | str h=>exact .str _
 | lst e _=>exact .lst e
 | tup e _=>exact .tup e
theorem Ev.parts {H:Hp} {n:Nat} {x:V} {zs:List V} (h:Ev H (n+1) x) (e:tupV H x=some zs):∀ z∈zs,Ev H n z:=by
 obtain ⟨a,rfl,ea⟩:=qiq9 e
 cases h with
 | lst e2 _=>rw [ea] at e2; cases e2
 | tup e2 p=>rw [ea] at e2; cases e2; exact p
theorem Ev.items {H:Hp} {n:Nat} {x:V} {zs:List V} (h:Ev H (n+1) x) (e:lstV H x=some zs):∀ z∈zs,Ev H n z:=by
 obtain ⟨a,rfl,ea⟩:=qia9 e
 cases h with
 | tup e2 _=>rw [ea] at e2; cases e2
 | lst e2 p=>rw [ea] at e2; cases e2; exact p
theorem Ev.d2 {H:Hp} {n:Nat} {x:V} (h:Ev H (n+1) x):Dv2 H x:=⟨h.dv,fun zs e z hz=>(h.parts e z hz).dv⟩
theorem Ev.d3 {H:Hp} {n:Nat} {x:V} (h:Ev H (n+2) x) (l:∀ zs,lstV H x=some zs->zs.length<=1000):Dv3 H x:=⟨h.dv,fun zs e=>⟨l zs e,fun z hz=>(h.items e z hz).d2⟩⟩
theorem Same.seqT {K:W.Frag} {H H':Hp} {a:Addr} {xs:List V} (e:Same H H') (h:SqT K H a xs):SqT K H' a xs:=by
 rcases h with (h | ⟨o,h⟩) | h
 ·exact .inl (.inl (e _ _ h))
 ·exact .inl (.inr ⟨o,e _ _ h⟩)
 ·exact .inr h
mutual
theorem rdv_same {K:W.Frag} {H H':Hp} (s:Same H H'):∀ {x:V} {d:PyData},RdV K H x d->RdV K H' x d
 | _,_,.non=>.non
 | _,_,.bl b=>.bl b
 | _,_,.int i=>.int i
 | _,_,.str x=>.str x
 | _,_,.lst h a=>.lst (s.seq h) (qjz9 s a)
 | _,_,.tup h a=>.tup (Same.seqT s h) (qjz9 s a)
theorem qjz9 {K:W.Frag} {H H':Hp} (s:Same H H'):∀ {xs:List V} {ds:List PyData},RdAll K H xs ds->RdAll K H' xs ds
 | _,_,.nil=>.nil
 | _,_,.cons h1 h2=>.cons (rdv_same s h1) (qjz9 s h2)
end
noncomputable def optV:Option Int->V
 | none=>.non
 | some y=>.int y
theorem qbj9 {n:Nat} (h:n<=16000000):n < sizeLine:=by
 have e:sizeLine=16777216:=by decide +kernel
 omega
theorem qcx9 {H H1:Hp} {p:Addr} {o:HO} (hp:H p=none) (s:Same H H1):Same H (upd H1 p o):=fun b u e=>by
 rw [qao9 (qax9 e hp)]
 exact s _ _ e
theorem SameT.trans {P:Addr} {H H1 H2:Hp} (a:SameT P H H1) (b:SameT P H1 H2):SameT P H H2:=fun c o e n=>b c o (a c o e n) n
theorem SameT.same {P:Addr} {H H1:Hp} (a:Same H H1):SameT P H H1:=fun c o e _=>a c o e
noncomputable def SameU (H H':Hp):Prop:=(∀ b o,H b=some o->(∀ z,o ≠ .tbl z)->H' b=some o)/\∀ b o,H b=some o->∃ o',H' b=some o'
theorem SameU.refl (H:Hp):SameU H H:=⟨fun _ _ e _=>e,fun _ o e=>⟨o,e⟩⟩
theorem SameU.trans {H H1 H2:Hp} (a:SameU H H1) (b:SameU H1 H2):SameU H H2:=⟨fun c o e n=>b.1 c o (a.1 c o e n) n,fun c o e=>by
 obtain ⟨o1,e1⟩:=a.2 c o e
 exact b.2 c o1 e1⟩
theorem SameU.of {H H1:Hp} (a:Same H H1):SameU H H1:=⟨fun c o e _=>a c o e,fun c o e=>⟨o,a c o e⟩⟩
theorem SameU.tab {H H1:Hp} {P:Addr} {pos pos':Pos} {q q':Str} (a:SameT P H H1) (t:TabOk H P pos q) (t':TabOk H1 P pos' q'):SameU H H1:=⟨fun c o e n=>a c o e fun z=>by
 obtain ⟨ps,hp,_⟩:=t
 rw [z,hp] at e
 exact n ps (Option.some.inj e).symm,fun c o e=>by
 by_cases z:c=P
 ·obtain ⟨ps,hp,_⟩:=t'
  exact ⟨_,by rw [z]; exact hp⟩
 ·exact ⟨o,a c o e z⟩⟩
theorem SameU.free {H H1:Hp} {p:Addr} (a:SameU H H1) (h:H1 p=none):H p=none:=by
 cases e:H p with
 | none=>rfl
 | some o =>
  obtain ⟨o',e'⟩:=a.2 p o e
  rw [h] at e'
  cases e'
theorem SameU.lst {H H1:Hp} {p:Addr} {xs:List V} (a:SameU H H1) (e:H p=some (.lst xs)):H1 p=some (.lst xs):=a.1 _ _ e fun _ z=>nomatch z
theorem SameU.tup {H H1:Hp} {p:Addr} {xs:List V} (a:SameU H H1) (e:H p=some (.tup xs)):H1 p=some (.tup xs):=a.1 _ _ e fun _ z=>nomatch z
theorem SameU.wr {H H1:Hp} {p:Addr} {o:HO} (hp:H p=none) (s:SameU H H1):SameU H (upd H1 p o):=⟨fun b u e n=>by
 rw [qao9 (qax9 e hp)]
 exact s.1 _ _ e n,fun b u e=>by
 rw [qao9 (qax9 e hp)]
 exact s.2 _ _ e⟩
theorem LA.u {α:Type} {enc:α->List V} {H H':Hp} {p:Addr} {xs:List α} (h:LA enc H p xs) (s:SameU H H'):LA enc H' p xs:=h.mono s.1
theorem Callee.imp {P:Program} {w:World} {K:W.Frag} {mg:Str->Option Value} {base:Heap} {k:Nat} {x:Str} {ps:List Str} {sp sp':Sp} (C:Callee P w K mg base k x ps sp) (h:∀ vs H Q E,sp' vs H Q E->sp vs H Q E):Callee P w K mg base k x ps sp':=by
 obtain ⟨f,fd,G,b,kp,m⟩:=C.ex
 exact ⟨f,fd,G.imp h,b,kp,m⟩
structure TB (T:Hp->Prop):Prop where
 same:∀ H H',T H->Same H H'->T H'
 wr:∀ H p xs ys,T H->H p=some (.lst xs)->T (upd H p (.lst ys))
section
variable {H H':Hp} {p:Addr} {R:List T3} {d:Int}
theorem la_mem {y:V} {vs:List V} (h:LA enc3 H p R) (hv:H p=some (.lst vs)) (hy:y∈vs):∃ r x,y=.ref r/\x∈R/\H r=some (.tup (enc3 x)):=by
 obtain ⟨vs',h1,h2,h3⟩:=h.lst
 rw [h1] at hv
 cases hv
 obtain ⟨i,hi⟩:=List.getElem?_of_mem hy
 obtain ⟨r,x,e1,e2,e3⟩:=h3 i y hi
 exact ⟨r,x,e1,List.mem_of_getElem? e2,e3⟩
theorem la_ev (h:LA enc3 H p R):Ev H 3 (.ref p):=by
 obtain ⟨vs,h1,h2,h3⟩:=h.lst
 refine .lst h1 fun y hy=>?_
 obtain ⟨r,x,rfl,_,e⟩:=la_mem h h1 hy
 refine .tup e fun z hz=>?_
 simp only [enc3,List.mem_cons,List.not_mem_nil,or_false] at hz
 rcases hz with rfl | rfl | rfl <;> exact .int _
theorem la_lst {vs:List V} (h:LA enc3 H p R) (e:lstV H (.ref p)=some vs):vs.length=R.length:=by
 obtain ⟨ws,h1,h2,h3⟩:=h.lst
 rw [qkg9 h1] at e
 cases e
 exact h2
theorem la_dv3 (h:LA enc3 H p R) (hl:R.length<=1000):Dv3 H (.ref p):=Ev.d3 (n:=1) (la_ev h) fun zs e=>by rw [la_lst h e]; exact hl
theorem qnl9 (h:LA enc3 H p R) (W:Ma.Wins d R):qfo9 H d (.ref p)=true:=by
 obtain ⟨vs,h1,h2,h3⟩:=h.lst
 unfold qfo9
 rw [qkg9 h1]
 refine List.all_eq_true.mpr fun y hy=>?_
 obtain ⟨r,x,rfl,hx,e⟩:=la_mem h h1 hy
 obtain ⟨w0,w1,w2,w3⟩:=W x hx
 unfold winV
 rw [qol9 e]
 simp [enc3,winL,w0,w1,w2,w3]
end
theorem qnh9 (vs:List V) (h:Nat) (hh:h<=vs.length):cutV vs none (some (h:Int))=vs.take h:=by
 unfold cutV HT.sIx
 have h0:¬ (h:Int) < 0:=by omega
 simp only [if_neg h0,Int.toNat_natCast,List.drop_zero,Nat.sub_zero]
 rw [Nat.min_eq_left hh]
theorem qno9 (vs:List V) (h:Nat) (hh:h<=vs.length):cutV vs (some (h:Int)) none=vs.drop h:=by
 unfold cutV HT.sIx
 have h0:¬ (h:Int) < 0:=by omega
 simp only [if_neg h0,Int.toNat_natCast]
 rw [Nat.min_eq_left hh,List.take_of_length_le]
 rw [List.length_drop]
 exact Nat.le_refl _
theorem LA.part {α:Type} {enc:α->List V} {H H':Hp} {p l:Addr} {xs:List α} {vs:List V} (h:LA enc H p xs) (s:Same H H') (hv:H p=some (.lst vs)) (lo hi:Nat) (e:H' l=some (.lst ((vs.drop lo).take hi))):LA enc H' l ((xs.drop lo).take hi):=by
 obtain ⟨rs,h1,h2,h3⟩:=h.ex
 rw [h1] at hv
 cases hv
 refine ⟨(rs.drop lo).take hi,by rw [e,<- List.map_drop,<- List.map_take],by simp [h2],fun i r x e1 e2=>?_⟩
 rw [List.getElem?_take] at e1 e2
 split at e1
 ·rw [List.getElem?_drop] at e1
  rename_i c
  rw [if_pos c,List.getElem?_drop] at e2
  exact s _ _ (h3 _ r x e1 e2)
 ·cases e1
noncomputable def datB (R:List T3):PyData:=.list (R.map dat3)
theorem eqvB (x y:List T3):PyData.eqv (datB x) (datB y)=decide (x=y):=qfa9 eqv3 x y
theorem canB (R:List T3):PyData.canLay0 (datB R)=true:=by
 simp only [datB,PyData.canLay0]
 exact qgd9 (fun x=>by simp [dat3,PyData.canLay0,PyData.canLayAll0]) R
theorem depB (R:List T3):PyData.depth (datB R)<=3:=by
 have:=qhh9 (D:=dat3) (n:=2) (fun x=>by simp [dat3,PyData.depth,PyData.depthAll]) R
 simp only [datB,PyData.depth]
 omega
theorem qld9 (xs:List (List T3)):SeqAt.shaped (.list (xs.map datB))=true:=qil9 (n:=3) canB depB (by decide) xs
theorem qbw9 {α:Type} {enc:α->List V} {H:Hp} {q l:Addr} {xs:List α} {zs ys:List V} (h:LA enc H q xs) (hz:H l=some (.lst zs)) (nq:q ≠ l):LA enc (upd H l (.lst ys)) q xs:=by
 obtain ⟨rs,h1,h2,h3⟩:=h.ex
 refine ⟨rs,by rw [qao9 nq]; exact h1,h2,fun i r x e e'=>?_⟩
 have h4:=h3 i r x e e'
 have nr:r ≠ l:=fun z=>by rw [z,hz] at h4; cases h4
 rw [qao9 nr]
 exact h4
theorem la_ne {α β:Type} {enc:α->List V} {enc':β->List V} {H:Hp} {p l:Addr} {xs:List α} (h:LA enc H p xs) (hl:H l=none):p ≠ l:=fun e=>by
 obtain ⟨vs,h1,_⟩:=h.lst
 rw [e,hl] at h1
 cases h1
end My
namespace L2
open PySem PySem.Spec PyProof.Rows
section
variable {P:Program} {w:World} {H H':Hp} {h h1 h2:Heap} {a:Addr} {o:HO}
theorem ObjOk.there (x:ObjOk P w H h a o):∃ ob,h.get? a=some ob:=by
 cases o with
 | lst xs=>obtain ⟨_,_,_,_,e⟩:=x; exact ⟨_,e⟩
 | tup xs=>obtain ⟨_,_,_,ob,e,_⟩:=x; exact ⟨_,e⟩
 | dK kvs=>obtain ⟨_,_,_,_,o,_,_,e,_⟩:=x; exact ⟨_,e⟩
 | dT kvs=>obtain ⟨_,_,_,_,o,_,_,e,_⟩:=x; exact ⟨_,e⟩
 | set S n=>obtain ⟨o,_,_,_,e,_⟩:=x; exact ⟨_,e⟩
 | ins C dx fs=>obtain ⟨_,_,_,e,_⟩:=x; exact ⟨_,e⟩
 | own y=>exact x
 | xd fs=>obtain ⟨_,⟨_,_,_,e,_⟩,_⟩:=x; exact ⟨_,e⟩
 | rng lo hi=>obtain ⟨_,_,_,e⟩:=x; exact ⟨_,e⟩
 | frz ob u=>obtain ⟨e,_⟩:=x; exact ⟨_,e⟩
 | tbl ps=>exact ⟨_,show h.get? a=some _ from x⟩
 | met f y=>exact ⟨_,show h.get? a=some _ from x⟩
 | ext φ=>obtain ⟨_,e,_⟩:=x; exact e
theorem HOk.gone (x:HOk P w H h) (e:h.get? a=none):H a=none:=by
 cases q:H a with
 | none=>rfl
 | some o =>
  obtain ⟨ob,z⟩:=(x a o q).there
  rw [e] at z
  cases z
end
noncomputable def hides:List Addr->Heap->Heap
 | [],h=>h
 | a :: l,h=>(hides l h).hide a
theorem qdx9 {b:Addr} {h:Heap}:∀ {l:List Addr},b∈l->(hides l h).get? b=none
 | a :: l,hb=>by
  show ((hides l h).hide a).get? b=none
  by_cases e:b=a
  ·rw [e]; exact Heap.hide_self _ _
  ·rw [Heap.hide_ne _ e]
   exact qdx9 ((List.mem_cons.mp hb).resolve_left e)
theorem qft9 {b:Addr} {h:Heap}:∀ {l:List Addr},b ∉ l->(hides l h).get? b=h.get? b
 | [],_=>rfl
 | a :: l,hb=>by
  show ((hides l h).hide a).get? b=_
  have ne:b ≠ a:=fun e=>hb (by rw [e]; exact List.mem_cons_self)
  rw [Heap.hide_ne _ ne]
  exact qft9 fun z=>hb (List.mem_cons_of_mem _ z)
theorem qem9 {h:Heap} {l:List Addr}:Heap.StaysIn (hides l h) h:=fun b o e=>by
 by_cases hb:b∈l
 ·rw [qdx9 hb] at e; cases e
 ·rw [qft9 hb] at e; exact e
theorem qeg9 {h h1 base:Heap} {L:List Addr}:∀ {l:List Env},h.FunFrames base l->(∀ b∈frs l,b∈L)->(∀ b o,b∈frs l->h.get? b=some o->∃ sl,h1.get? b=some { o with slots:=sl })->h1.FunFrames (hides L h1) l
 | [],_,_,_=>trivial
 | env :: r,hl,hs,k=>by
  obtain ⟨hk,⟨L',o,hf,hn,ho,hd⟩,hr⟩:=hl
  have hL:L'∈frs (env :: r):=by unfold frs; rw [List.filterMap_cons,hf]; exact List.mem_cons_self
  have sub:∀ b∈frs r,b∈frs (env :: r):=fun b hb=>by unfold frs; rw [List.filterMap_cons,hf]; exact List.mem_cons_of_mem _ hb
  obtain ⟨sl,e⟩:=k L' o hL ho
  exact ⟨hk,⟨L',_,hf,qdx9 (hs L' hL),e,hd⟩,qeg9 hr (fun b hb=>hs b (sub b hb)) fun b o hb=>k b o (sub b hb)⟩
noncomputable def Fly (h:Heap) (H':Hp) (h1:Heap) (a:Addr) (cls:Value):Prop:=h.get? a=none/\H' a=none/\∃ oe vs T oT ts a0,h1.get? a=some oe/\oe.cls=cls/\vs[0]?=some a0/\oe.data=.fields vs/\vs[1]?=some (.ref T)/\T ≠ a/\h1.get? T=some oT/\oT.data=.fields ts/\ts[3]?=some .none/\H' T=none/\h.get? T=none
noncomputable def CXE (P:Program) (w:World):CXT:=fun stk H s E e s'=>∃ a cls H',e=.ref a/\s'.os=s.os/\AllBare s'.gens/\Un (frs stk) [] H H' s.heap s'.heap/\HOk P w H' s'.heap/\Fly s.heap H' s'.heap a cls/\E cls none H'
section
variable {P:Program} {w:World} {H H':Hp} {h h1 h2 base:Heap} {a:Addr} {stk:List Env} {l:List Addr} {cls:Value}
theorem qlb9 (u:Un (frs stk) [] H H' h h1) (ok:HOk P w H' h1) (st:Heap.StaysIn (hides l h1) h2) (sl:∀ b o,h1.get? b=some o->(∀ vs,o.data ≠ .fields vs)->∃ sl,h2.get? b=some { o with slots:=sl })
  (fr:h.FunFrames base stk) (ff:∀ b∈frs stk,H b=none) (hl:∀ b∈l,b∈frs stk\/(h.get? b=none/\H' b=none)):Un (frs stk) [] H H' h h2/\HOk P w H' h2:=by
 have fk:∀ b∈frs stk,∃ o,h.get? b=some o/\∀ vs,o.data ≠ .fields vs:=fun b hb=>(fr.mem hb).2
 have ff':∀ b∈frs stk,H' b=none:=fun b hb=>by
  obtain ⟨o,ho,_⟩:=fk b hb
  exact u.free b o ho (ff b hb) (by simp)
 have stay:∀ b o,b ∉ l->h1.get? b=some o->h2.get? b=some o:=fun b o hb e=>st b o (by rw [qft9 hb]; exact e)
 refine ⟨⟨fun b o e n hb _=>?_,fun b o e n hb _=>?_,u.free,fun b o e hx=>?_,u.tups,u.frzs,u.tbls⟩,fun b o e=>?_⟩
 ·refine stay b o (fun z=>?_) (u.keep b o e n hb (by simp))
  rcases hl b z with z | z
  ·exact hb z
  ·rw [z.1] at e; cases e
 ·obtain ⟨s1,e1⟩:=u.slot b o e n hb (by simp)
  obtain ⟨o',e',d'⟩:=fk b hb
  rw [e] at e'
  cases e'
  obtain ⟨s2,e2⟩:=sl b _ e1 d'
  exact ⟨s2,e2⟩
 ·obtain ⟨o',e'⟩:=u.there b o e hx
  by_cases hb:b∈l
  ·rcases hl b hb with z | z
   ·obtain ⟨s1,e1⟩:=u.slot b o e (ff b z) z (by simp)
    obtain ⟨o2,e2,d2⟩:=fk b z
    rw [e] at e2
    cases e2
    obtain ⟨s2,e2⟩:=sl b _ e1 d2
    exact ⟨_,e2⟩
   ·rw [z.1] at e; cases e
  ·exact ⟨_,stay b o' hb e'⟩
 ·refine (ok b o e).stay (fun c v hc q=>stay c v (fun z=>?_) q) (fun _ q=>q) fun _ _ q=>q
  have hn:H' c=none:=by
   rcases hl c z with z | z
   ·exact ff' c z
   ·exact z.2
  rcases hc with rfl | hc
  ·rw [hn] at e; cases e
  ·rw [hn] at hc; cases hc
theorem qhi9 {a0:Value} (ok:HOk P w H' h1) (hn:h.get? a=none) (hn':H' a=none) (sl:∀ b o,h1.get? b=some o->(∀ vs,o.data ≠ .fields vs)->∃ sl,h2.get? b=some { o with slots:=sl })
  (hl:∀ b∈l,(∃ o,h1.get? b=some o/\∀ vs,o.data ≠ .fields vs)\/(h.get? b=none/\H' b=none)) (th:∀ b o,h.get? b=some o->∃ o',h1.get? b=some o')
  (tr:Heap.TracedW h2 (hides l h1) a cls a0):Fly h H' h2 a cls:=by
 obtain ⟨oe,vs,T,oT,ts,e1,⟨e2,e3⟩,e4,e5,e6,e7,e8,e9,e10⟩:=tr
 have key:h.get? T=none/\H' T=none:=by
  by_cases hT:T∈l
  ·rcases hl T hT with ⟨o,z1,z2⟩ | z
   ·obtain ⟨s1,q⟩:=sl T o z1 z2
    rw [e8] at q
    cases q
    exact absurd e9 (z2 ts)
   ·exact z
  ·rw [qft9 hT] at e6
   refine ⟨?_,ok.gone e6⟩
   cases q:h.get? T with
   | none=>rfl
   | some o =>
    obtain ⟨o',q'⟩:=th T o q
    rw [e6] at q'
    cases q'
 exact ⟨hn,hn',oe,vs,T,oT,ts,a0,e1,e2,e3,e4,e5,e7,e8,e9,e10,key.2,key.1⟩
end
section
variable {X:Cx} {pins:List (Addr × Obj)} {σ:St} {H:Hp} {s:Shared} {E:XK} {e:Value} {s':Shared}
structure Own (X:Cx):Prop where
 stk:X.stack=X.env :: X.outer
 fr:X.env.frame=some X.env.locals
 ex:X.ex=[]
theorem qlp9 {E':Value->Shared->Prop} (I:Inv X pins σ H s) (c:CXE X.prog X.w X.stack H s E e s') (O:Own X) (A:Around) (hA:A.frames=some X.stack) :
  wpAny (model X.prog X.w) A (leaving X.env e) (fun _ s''=>CXE X.prog X.w X.stack H s E e s'') E' s':=by
 obtain ⟨a,cls,H',rfl,os,bare,un,ok,⟨hn,hn',oe,vs,T,oT,ts,a0,e1,e2,e3,e4,e5,e6,e7,e8,e9,e10,e11⟩,q⟩:=c
 have fr:=I.stack
 have fk:∀ b∈frs X.stack,∃ o,s.heap.get? b=some o/\∀ vs,o.data ≠ .fields vs:=fun b hb=>(fr.mem hb).2
 have fs:∀ b o,b∈frs X.stack->s.heap.get? b=some o->∃ sl,s'.heap.get? b=some { o with slots:=sl }:=fun b o hb e=>un.slot b o e (I.stkFree b hb) hb (by simp)
 have fr':s'.heap.FunFrames (hides (a :: T :: frs X.stack) s'.heap) X.stack:=qeg9 fr (fun b hb=>by simp [hb]) fs
 refine wpAny_leaving_nextW (base:=hides (a :: T :: frs X.stack) s'.heap) (cls:=cls) (a0:=a0) (by rw [hA,O.stk]) (by rw [<- O.stk]; exact fr') O.fr ⟨oe,vs,T,oT,ts,e1,⟨e2,e3⟩,e4,e5,qdx9 (by simp),e6,e7,e8,e9⟩ qem9 (qdx9 (by simp)) fun h2 L=>?_
 obtain ⟨st,_,tr,sl⟩:=L
 have hl:∀ b∈a :: T :: frs X.stack,b∈frs X.stack\/(s.heap.get? b=none/\H' b=none):=fun b hb=>by
  rcases List.mem_cons.mp hb with rfl | hb
  ·exact .inr ⟨hn,hn'⟩
  ·rcases List.mem_cons.mp hb with rfl | hb
   ·exact .inr ⟨e11,e10⟩
   ·exact .inl hb
 obtain ⟨u2,ok2⟩:=qlb9 un ok st sl fr I.stkFree hl
 refine ⟨a,cls,H',rfl,os,bare,u2,ok2,qhi9 ok hn hn' sl (fun b hb=>?_) (fun b o e=>un.there b o e (by simp)) tr,q⟩
 rcases hl b hb with z | z
 ·obtain ⟨o,z1,z2⟩:=fk b z
  obtain ⟨s1,z3⟩:=fs b o z z1
  exact .inl ⟨_,z3,z2⟩
 ·exact .inr z
theorem qob9 {E':Value->Shared->Prop} {C:Value} {us:List Value} {x:Addr} {h':Heap} (I:Inv X pins σ H s) (m:Heap.MadeExcOf s.heap h' x C us) (O:Own X) (A:Around) (hA:A.frames=some X.stack) (q:E C none H) :
  wpAny (model X.prog X.w) A (leaving X.env (.ref x)) (fun _ s''=>CXE X.prog X.w X.stack H s E (.ref x) s'') E' { s with heap:=h' }:=by
 obtain ⟨t,e1,e2,e3⟩:=m.there
 have hn:=m.new
 have fr:=I.stack
 have hn':H x=none:=I.hok.gone hn
 have fk:∀ b∈frs X.stack,∃ o,s.heap.get? b=some o/\∀ vs,o.data ≠ .fields vs:=fun b hb=>(fr.mem hb).2
 have un:Un (frs X.stack) [] H H s.heap h':=Un.kept m.keeps
 have ok:HOk X.prog X.w H h':=I.hok.kept m.keeps
 have fs:∀ b o,b∈frs X.stack->s.heap.get? b=some o->∃ sl,h'.get? b=some { o with slots:=sl }:=fun b o hb e=>⟨o.slots,m.keeps b o e⟩
 have fr':h'.FunFrames (hides (x :: frs X.stack) h') X.stack:=qeg9 fr (fun b hb=>by simp [hb]) fs
 refine wpAny_leaving_firstW (base:=hides (x :: frs X.stack) h') (by rw [hA,O.stk]) (by rw [<- O.stk]; exact fr') O.fr e1 qem9 (qdx9 (by simp)) rfl rfl rfl fun h2 L=>?_
 obtain ⟨st,_,tr,sl⟩:=L
 have hl:∀ b∈x :: frs X.stack,b∈frs X.stack\/(s.heap.get? b=none/\H b=none):=fun b hb=>by
  rcases List.mem_cons.mp hb with rfl | hb
  ·exact .inr ⟨hn,hn'⟩
  ·exact .inl hb
 obtain ⟨u2,ok2⟩:=qlb9 un ok st sl fr I.stkFree hl
 refine ⟨x,C,H,rfl,rfl,I.bare,u2,ok2,qhi9 ok hn hn' sl (fun b hb=>?_) (fun b o e=>⟨o,m.keeps b o e⟩) tr,q⟩
 rcases hl b hb with z | z
 ·obtain ⟨o,z1,z2⟩:=fk b z
  exact .inl ⟨_,m.keeps _ _ z1,z2⟩
 ·exact .inr z
theorem cx_drop (I:Inv X pins σ H s) (c:CXE X.prog X.w X.stack H s E e s') (O:Own X):CXE X.prog X.w X.outer X.H₀ X.s₀ E e s':=by
 obtain ⟨a,cls,H',rfl,os,bare,un,ok,⟨hn,hn',oe,vs,T,oT,ts,a0,e1,e2,e3,e4,e5,e6,e7,e8,e9,e10,e11⟩,q⟩:=c
 have J:Inv X pins σ H' s':=I.call' os un ok bare fun b z=>absurd z (by simp)
 have b:=J.base
 rw [O.ex] at b
 have old:∀ b,s.heap.get? b=none->X.s₀.heap.get? b=none:=fun b z=>by
  cases q:X.s₀.heap.get? b with
  | none=>rfl
  | some o =>
   obtain ⟨o',q'⟩:=I.base.there b o q (by rw [O.ex]; simp)
   rw [z] at q'
   cases q'
 exact ⟨a,cls,H',rfl,J.os,bare,b,ok,⟨old a hn,hn',oe,vs,T,oT,ts,a0,e1,e2,e3,e4,e5,e6,e7,e8,e9,e10,old T e11⟩,q⟩
end
noncomputable abbrev cxE (P:Program) (w:World) (K:W.Frag) (mg:Str->Option Value) (base:Heap) (N:List Str) (qual:Str) (scope:Scope) (f:Addr) (cd:Value) (A:Around) (outer:List Env) (s:Shared) (H:Hp) (E:XK):Cx:=cxOf (CXE P w) P w K mg base N qual scope f cd A outer s H E
section
variable {P:Program} {w:World} {K:W.Frag} {mg:Str->Option Value} {base:Heap} {N:List Str} {qual:Str} {scope:Scope} {f:Addr} {cd:Value} {A:Around} {outer:List Env} {s:Shared} {H:Hp} {E:XK}
theorem qle9:Own (cxE P w K mg base N qual scope f cd A outer s H E):=⟨rfl,rfl,rfl⟩
theorem passE:qih9 (CXE P w) (cxE P w K mg base N qual scope f cd A outer s H E) E:=fun pins σ H1 s1 e s' I c =>
 wpAny_mono (qlp9 (E':=fun _ _=>False) I c qle9 _ I.ok.frames) (fun _ _ c2=>cx_drop I c2 qle9) fun _ _ z=>z.elim
noncomputable def Makes (X:Cx) (E:XK):Prop:=∀ (pins:List (Addr × Obj)) (σ:St) (H:Hp) (s:Shared) (C:Value) (us:List Value) (x:Addr) (h':Heap),Inv X pins σ H s->Heap.MadeExcOf s.heap h' x C us->E C none H->X.xe (.ref x) { s with heap:=h' }
theorem makeE:Makes (cxE P w K mg base N qual scope f cd A outer s H E) E:=fun pins σ H1 s1 C us x h' I m q =>
 wpAny_mono (qob9 (E':=fun _ _=>False) I m qle9 _ I.ok.frames q) (fun _ _ c2=>cx_drop I c2 qle9) fun _ _ z=>z.elim
end
section
variable {X:Cx} {pins:List (Addr × Obj)} {σ:St} {H:Hp} {s:Shared} {E:XK} {e:Value} {s':Shared}
theorem qlw9 {E':Value->Shared->Prop} {Q:Unit->Shared->Prop} {A:Around} (I:Inv X pins σ H s) (c:CXE X.prog X.w X.stack H s E e s') (q:∀ s'',CXE X.prog X.w X.stack H s E e s''->Q () s'') :
  wpAny (model X.prog X.w) A (setFlight e none) Q E' s':=by
 obtain ⟨a,cls,H',rfl,os,bare,un,ok,⟨hn,hn',oe,vs,T,oT,ts,a0,e1,e2,e3,e4,e5,e6,e7,e8,e9,e10,e11⟩,z⟩:=c
 have fr:=I.stack
 have fk:∀ b∈frs X.stack,∃ o,s.heap.get? b=some o/\∀ vs,o.data ≠ .fields vs:=fun b hb=>(fr.mem hb).2
 have fs:∀ b o,b∈frs X.stack->s.heap.get? b=some o->∃ sl,s'.heap.get? b=some { o with slots:=sl }:=fun b o hb e=>un.slot b o e (I.stkFree b hb) hb (by simp)
 have fr':s'.heap.FunFrames (hides (a :: T :: frs X.stack) s'.heap) X.stack:=qeg9 fr (fun b hb=>by simp [hb]) fs
 have hl:∀ b∈a :: T :: frs X.stack,b∈frs X.stack\/(s.heap.get? b=none/\H' b=none):=fun b hb=>by
  rcases List.mem_cons.mp hb with rfl | hb
  ·exact .inr ⟨hn,hn'⟩
  ·rcases List.mem_cons.mp hb with rfl | hb
   ·exact .inr ⟨e11,e10⟩
   ·exact .inl hb
 refine wpAny_setFlight_noneW (base:=hides (a :: T :: frs X.stack) s'.heap) (cls:=cls) (a0:=a0) (fl:=.none) qem9 fr' ⟨oe,vs,T,oT,ts,e1,⟨e2,e3⟩,e4,e5,qdx9 (by simp),e6,e7,e8,e9⟩ fun h2 st _ tr k=>q _ ?_
 have sl:∀ b o,s'.heap.get? b=some o->(∀ vs,o.data ≠ .fields vs)->∃ sl,h2.get? b=some { o with slots:=sl }:=fun b o z1 z2=>⟨o.slots,k b o z1 z2⟩
 obtain ⟨u2,ok2⟩:=qlb9 un ok st sl fr I.stkFree hl
 refine ⟨a,cls,H',rfl,os,bare,u2,ok2,qhi9 ok hn hn' sl (fun b hb=>?_) (fun b o e=>un.there b o e (by simp)) tr,z⟩
 rcases hl b hb with z | z
 ·obtain ⟨o,z1,z2⟩:=fk b z
  obtain ⟨s1,z3⟩:=fs b o z z1
  exact .inl ⟨_,z3,z2⟩
 ·exact .inr z
theorem qnw9 {E' E'':Value->Shared->Prop} {Q:Shared->Prop} {A:Around} (I:Inv X pins σ H s) (c:CXE X.prog X.w X.stack H s E e s') (O:Own X) (hA:A.frames=some X.stack) (q:∀ s'',CXE X.prog X.w X.stack H s E e s''->Q s'') :
  wpAny (model X.prog X.w) A (noteFrame e X.env) (fun _ s2=>wpAny (model X.prog X.w) A (setFlight e none) (fun _ s3=>Q s3) E' s2) E'' s':=by
 obtain ⟨a,cls,H',rfl,os,bare,un,ok,⟨hn,hn',oe,vs,T,oT,ts,a0,e1,e2,e3,e4,e5,e6,e7,e8,e9,e10,e11⟩,z⟩:=c
 have fr:=I.stack
 have fk:∀ b∈frs X.stack,∃ o,s.heap.get? b=some o/\∀ vs,o.data ≠ .fields vs:=fun b hb=>(fr.mem hb).2
 have fs:∀ b o,b∈frs X.stack->s.heap.get? b=some o->∃ sl,s'.heap.get? b=some { o with slots:=sl }:=fun b o hb e=>un.slot b o e (I.stkFree b hb) hb (by simp)
 have fr':s'.heap.FunFrames (hides (a :: T :: frs X.stack) s'.heap) X.stack:=qeg9 fr (fun b hb=>by simp [hb]) fs
 have hl:∀ b∈a :: T :: frs X.stack,b∈frs X.stack\/(s.heap.get? b=none/\H' b=none):=fun b hb=>by
  rcases List.mem_cons.mp hb with rfl | hb
  ·exact .inr ⟨hn,hn'⟩
  ·rcases List.mem_cons.mp hb with rfl | hb
   ·exact .inr ⟨e11,e10⟩
   ·exact .inl hb
 refine wpAny_noteFrame_onW (base:=hides (a :: T :: frs X.stack) s'.heap) (cls:=cls) (a0:=a0) (by rw [hA,O.stk]) (by rw [<- O.stk]; exact fr') O.fr ⟨oe,vs,T,oT,ts,e1,⟨e2,e3⟩,e4,e5,qdx9 (by simp),e6,e7,e8,e9⟩ qem9 (qdx9 (by simp)) fun h1 N=>?_
 obtain ⟨st1,fr1,tr1,sl1⟩:=N
 refine wpAny_setFlight_noneW (base:=hides (a :: T :: frs X.stack) s'.heap) (cls:=cls) (a0:=a0) (l:=X.env :: X.outer) st1 fr1 tr1 fun h2 st _ tr k=>q _ ?_
 have sl:∀ b o,s'.heap.get? b=some o->(∀ vs,o.data ≠ .fields vs)->∃ sl,h2.get? b=some { o with slots:=sl }:=fun b o z1 z2=>by
  obtain ⟨sl,z3⟩:=sl1 b o z1 z2
  exact ⟨sl,k b _ z3 z2⟩
 obtain ⟨u2,ok2⟩:=qlb9 un ok st sl fr I.stkFree hl
 refine ⟨a,cls,H',rfl,os,bare,u2,ok2,qhi9 ok hn hn' sl (fun b hb=>?_) (fun b o e=>un.there b o e (by simp)) tr,z⟩
 rcases hl b hb with z | z
 ·obtain ⟨o,z1,z2⟩:=fk b z
  obtain ⟨s1,z3⟩:=fs b o z z1
  exact .inl ⟨_,z3,z2⟩
 ·exact .inr z
end
noncomputable def bmV:List Value:=[.type "ValueError",.type "Exception",.type "BaseException",.type "object"]
structure ExC (K:W.Frag) (C:Addr) (bm:List Value):Prop where
 ex:∃ nm q N bs hdct sn sub ab col dd k0 k1 k2 k3 k5,K.lookup C=some (excClassObj nm q C N bs bm hdct sn sub ab col dd k0 k1 k2 k3 k5 "ValueError.__new__")/\W.nsOkIn K N=true/\W.nsIn K N "__init__" = some none
 tl:W.tailIn K bmV bm=true
 bx:bm.contains (.type "BaseException")=true
section
variable {X:Cx} {C:Addr} {bm:List Value} {E:XK} {x:Str} {np cpos pos:Pos} {e:Expr} {es:List Expr} {t:TA}
noncomputable def tRaise (C:Addr) (E:XK) (t:TA):TS:=fun _ σ H=>t σ H fun vs H1=>vs.length<=1000/\E (.ref C) none H1
theorem ps_raise (M:Makes X E) (c:ExC X.K C bm) (hg:Gl X x) (hm:X.mg x=some (.ref C)) (ha:PA X (e :: es) t) (hc:X.calm=true:=by rfl) (hdb:(x == ("__debug__" : Str))=false:=by decide)
  (he:starEach (e :: es) X.env=(false,eval e X.env) :: starEach es X.env:=by rfl) (hpl:(backTo cpos (starEach (e :: es) X.env)).any (·.1)=false:=by rfl) :
  PS X (.Raise (some (.Call (.Name x np) (e :: es) [] cpos)) none pos) (tRaise C E t):=by
 intro pins s σ H D I h
 obtain ⟨nm,q,N,bs,hdct,sn,sub,ab,col,dd,k0,k1,k2,k3,k5,l1,l2,l3⟩:=c.ex
 refine wpAny_Raise_call_subU (nm:=nm) (q:=q) (C:=C) (N:=N) (bs:=bs) (hdct:=hdct) (sn:=sn) (sub:=sub) (ab:=ab) (col:=col) (dd:=dd) (k0:=k0) (k1:=k1) (k2:=k2) (k3:=k3) (k5:=k5) (bm:=bm) (bmB:=bmV) (mN:=Heap.nsMap X.base N) PySem.F.excBase_ValueError (by decide) PySem.F.excBase_ValueError c.bx (I.ok.hd hc) hpl (W.nsMap_none_of_in I.ok.mod.kin l2 l3) ?_
 refine qgz9 I hg hm ⟨rfl,?_⟩ hdb
 have key:=thn (ha cpos pins s σ H _ I h) (Q':=fun us s1=>(us.length<=sizeLine)/\s1.heap.get? C=some (excClassObj nm q C N bs bm hdct sn sub ab col dd k0 k1 k2 k3 k5 "ValueError.__new__")/\s1.heap.Ns N (Heap.nsMap X.base N)/\OwnTail s1.heap bmV bm/\∀ (h':Heap) (e:Addr),Heap.MadeExcOf s1.heap h' e (.ref C) us->X.xe (.ref e) { s1 with heap:=h' }) fun us s1 ⟨vs,H1,I1,r,z,q1⟩=>?_
 ·rw [he] at key ⊢
  exact PySem.Calls.evalArgs_plain (wpAny_mono key (fun us s1 ⟨a1,a2,a3,a4,a5⟩=>⟨rfl,a1,a2,a3,a4,a5⟩) fun _ _ z=>z)
 ·refine ⟨?_,I1.kIn _ _ l1,(Heap.Ns.of_isNs (W.isNs_of_in I.ok.mod.kin l2)).keeps I1.bk,W.tail_of_in I1.kIn c.tl,fun h' e m=>M pins σ H1 s1 _ us e h' I1 m q1⟩
  rw [<- r.length]
  exact Nat.le_trans z (by decide)
end
structure CalleeX (P:Program) (w:World) (K:W.Frag) (mg:Str->Option Value) (base:Heap) (k:Nat) (x:Str) (ps:List Str) (sp:Sp):Prop where
 ex:∃ (f:Addr) (fd:FuncData),FnOk P w K mg base (CXE P w) k f fd ps sp/\Binds K fd ps []/\W.keepIn K (.ref f)=true/\mg x=some (.ref f)
section
variable {X:Cx} {k:Nat} {ps:List Str} {sp:Sp} {E:XK} {x:Str} {p pos pos':Pos} {e:Expr} {es:List Expr} {t:TA}
theorem CalleeX.up {P:Program} {w:World} {K:W.Frag} {mg:Str->Option Value} {base:Heap} {j:Nat} (c:CalleeX P w K mg base k x ps sp) (h:k<=j):CalleeX P w K mg base j x ps sp:=by
 obtain ⟨f,fd,F,b,kp,m⟩:=c.ex
 exact ⟨f,fd,F.mono h,b,kp,m⟩
theorem CalleeX.mk' {P:Program} {w:World} {K:W.Frag} {mg:Str->Option Value} {base:Heap} {f:Addr} {fd:FuncData} (G:FnOk P w K mg base (CXE P w) k f fd ps sp) (b:Binds K fd ps []) (kp:W.keepIn K (.ref f)=true) (m:mg x=some (.ref f)):CalleeX P w K mg base k x ps sp:=⟨f,fd,G,b,kp,m⟩
noncomputable def qla9 (X:Cx) (pins:List (Addr × Obj)) (σ:St) (E:XK) (e:Value) (s':Shared):Prop:=∃ H s,Inv X pins σ H s/\CXE X.prog X.w X.stack H s E e s'
noncomputable def PSx (X:Cx) (st:List Stmt) (t:XK->TS):Prop:=∀ (E:XK) (pins:List (Addr × Obj)) (s:Shared) (σ:St) (H:Hp) (D:Ends),Inv X pins σ H s->t E D σ H->wpAny (model X.prog X.w) X.A (execs st X.env) (SP X pins D) (qla9 X pins σ E) s
noncomputable def PEx (X:Cx) (e:Expr) (t:XK->TE):Prop:=∀ (E:XK) (pins:List (Addr × Obj)) (s:Shared) (σ:St) (H:Hp) (Q:VK),Inv X pins σ H s->t E σ H Q->wpAny (model X.prog X.w) X.A (eval e X.env) (EP X pins σ Q) (qla9 X pins σ E) s
theorem run_fnX {f:Addr} {fd:FuncData} {pins:List (Addr × Obj)} {σ:St} {H:Hp} {s:Shared} {Q:VK} {us:List Value} {vs:List V} (F:FnOk X.prog X.w X.K X.mg X.base (CXE X.prog X.w) k f fd ps sp) (hr:Room k X.A) (hb:Binds X.K fd ps [])
  (I:Inv X pins σ H s) (r:Vals vs us) (h:sp (vs ++ []) H Q E):wpAny (model X.prog X.w) X.A (call (.ref f) us) (EP X pins σ Q) (qla9 X pins σ E) s:=by
 have r2:Vals (vs ++ []) (us ++ []):=r.append .nil
 have hl:(us ++ []).length=ps.length:=by rw [<- r2.length]; exact F.len _ _ _ _ h
 refine wpAny_call (codeAny_mono (F.run X.A X.stack s H ⟨us,[]⟩ (us ++ []) (vs ++ []) Q E hr I.env0 (hb s us I.kIn hl) r2 h) fun r s' hq=>?_)
 cases r with
 | error e=>exact ⟨H,s,I,hq⟩
 | ok fl =>
  cases fl with
  | ret u=>exact I.after hq
  | next=>exact False.elim hq
  | brk=>exact False.elim hq
  | cont=>exact False.elim hq
theorem psx_expr {te:XK->TE} (he:PEx X e te) (hs:swapsWith e none pos.line X.env=pure false:=by rfl):PSx X [.Expr e pos] (fun E=>tDrop (te E)):=by
 intro E pins s σ H D I h
 have key:wpAny (model X.prog X.w) X.A (exec (.Expr e pos) X.env) (SP X pins D) (qla9 X pins σ E) s:=wpAny_Expr_any (thn (he E pins s σ H _ I h) fun v s1 ⟨x,H1,I1,r1,q1⟩=>⟨σ,H1,I1,q1⟩) I.quiet hs
 refine wpAny_execs_cons (thn key fun f s1 q=>?_)
 cases f with
 | next=>exact wpAny_execs_nil q
 | ret v=>exact q
 | brk=>exact q
 | cont=>exact q
end
section
variable {M:Model} {A:Around} {E:Value->Shared->Prop} {h:Heap} {g:Array GenState} {d:Drawn} {t:Nat} {os:OsState} {a C C':Addr} {oe:Obj} {Q:Bool->Shared->Prop}
theorem qmg9 {nm q N bs bm hdct sn sub ab col dd k0 k1 k2 k3 k5 nw nm' q' N' bs' bm' hdct' sn' sub' ab' col' dd' k0' k1' k2' k3' k5' nw'} (hC:h.get? C=some (excClassObj nm q C N bs bm hdct sn sub ab col dd k0 k1 k2 k3 k5 nw)) (hC':h.get? C'=some (excClassObj nm' q' C' N' bs' bm' hdct' sn' sub' ab' col' dd' k0' k1' k2' k3' k5' nw'))
  (he:h.get? a=some oe) (hc:oe.cls=.ref C') (hb:bm.contains (.type "BaseException")=true) (z:Q ((Value.ref C' :: bm').contains (.ref C)) ⟨h,g,d,t,os⟩):wpAny M A (excMatches (.ref a) (.ref C)) Q E ⟨h,g,d,t,os⟩:=by
 have isX:∀ {Q':Bool->Shared->Prop},Q' true ⟨h,g,d,t,os⟩->wpAny M A (isExcClass (.ref C)) Q' E ⟨h,g,d,t,os⟩:=fun {Q'} q1=>by
  unfold isExcClass
  refine wpAny_bind ?_
  simp only [isType,loadHead]
  refine wpAny_bind (wpAny_loadPart_at hC (wpAny_pure (wpAny_ite_true rfl (wpAny_isSubtype_exc hC ?_))))
  rw [show (Value.ref C :: bm).contains (.type "BaseException")=true by rw [List.contains_cons,hb]; simp]
  exact q1
 unfold excMatches isInstance
 simp only [typeOf]
 refine wpAny_bind (wpAny_bind (wpAny_bind (wpAny_loadPart_at hC (wpAny_pure ?_))))
 refine wpAny_of_eq tc_notTuple (wpAny_ite_false rfl (wpAny_bind (wpAny_pure ?_)))
 refine wpAny_bind ?_
 simp only [List.forIn_cons,List.forIn_nil]
 refine wpAny_bind (wpAny_bind (isX (wpAny_ite_false rfl (wpAny_pure (wpAny_pure ?_)))))
 refine wpAny_bind (wpAny_bind (wpAny_loadPart_at he (wpAny_pure ?_)))
 rw [hc]
 refine wpAny_bind (wpAny_bind (wpAny_bind (wpAny_isSubtype_exc hC' ?_)))
 cases b:(Value.ref C' :: bm').contains (.ref C) with
 | true =>
  rw [b] at z
  exact wpAny_ite_true rfl (wpAny_pure (wpAny_pure (wpAny_pure z)))
 | false =>
  rw [b] at z
  exact wpAny_ite_false rfl (wpAny_pure (wpAny_pure (wpAny_pure z)))
end
noncomputable abbrev Cx.inH (X:Cx) (a:Addr):Cx:={ X with A:=X.A.mark (some (.ref a)),calm:=false,xe:=fun _ _=>False }
section
variable {X:Cx} {pins:List (Addr × Obj)} {σ:St} {H:Hp} {s:Shared} {a:Addr}
theorem Inv.inH (I:Inv X pins σ H s) (a:Addr):Inv (X.inH a) pins σ H s :=
 ⟨⟨I.ok.mod,I.ok.kind,I.ok.glob,I.ok.blt,I.ok.above,I.ok.inj,I.ok.has,I.ok.cab,(fun z=>nomatch z),I.ok.frames,I.ok.stk,I.ok.exf,I.ok.bs,I.ok.bsz,I.ok.noex,I.ok.exfs,I.ok.funs,I.ok.frf⟩,I.os,I.bare,I.base,I.loc,I.cell,I.free,I.freeC,I.pin,I.hok,I.len⟩
theorem Inv.outH (ok:X.Ok) (I:Inv (X.inH a) pins σ H s):Inv X pins σ H s:=⟨ok,I.os,I.bare,I.base,I.loc,I.cell,I.free,I.freeC,I.pin,I.hok,I.len⟩
theorem SP.outH (ok:X.Ok) {D:Ends} {f:Flow} {s':Shared} (h:SP (X.inH a) pins D f s'):SP X pins D f s':=by
 cases f with
 | next=>obtain ⟨σ',H',I,q⟩:=h; exact ⟨σ',H',I.outH ok,q⟩
 | brk=>obtain ⟨σ',H',I,q⟩:=h; exact ⟨σ',H',I.outH ok,q⟩
 | cont=>obtain ⟨σ',H',I,q⟩:=h; exact ⟨σ',H',I.outH ok,q⟩
 | ret u=>obtain ⟨v,σ',H',I,r,q⟩:=h; exact ⟨v,σ',H',I.outH ok,r,q⟩
theorem CXE.inv {E:XK} {e:Value} {s':Shared} (I:Inv X pins σ H s) (c:CXE X.prog X.w X.stack H s E e s'):∃ a cls H',e=.ref a/\Inv X pins σ H' s'/\(∃ oe,s'.heap.get? a=some oe/\oe.cls=cls)/\E cls none H':=by
 obtain ⟨a,cls,H',rfl,os,bare,un,ok,⟨hn,hn',oe,vs,T,oT,ts,a0,e1,e2,_⟩,z⟩:=c
 exact ⟨a,cls,H',rfl,I.call' os un ok bare fun b z=>absurd z (by simp),⟨oe,e1,e2⟩,z⟩
end
noncomputable def tTry (K:W.Frag) (C:Addr) (tb:XK->TS) (th:TS):TS:=fun D σ H=>∃ E:XK,tb E D σ H/\∀ cls H',E cls none H'->(∃ C' bm',cls=.ref C'/\ExC K C' bm'/\(Value.ref C' :: bm').contains (.ref C)=true)/\th D σ H'
section
variable {X:Cx} {body suite:List Stmt} {b0:Stmt} {tb:XK->TS} {th:TS} {C:Addr} {bm:List Value} {x:Str} {np hpos pos:Pos}
theorem ps_try (hb:PSx X body tb) (c:ExC X.K C bm) (hg:Gl X x) (hm:X.mg x=some (.ref C)) (O:Own X) (hs:∀ a,PSs (X.inH a) (b0 :: suite) th) (hdb:(x == ("__debug__" : Str))=false:=by decide) :
  PS X (.Try body [.ExceptHandler (some (.Name x np)) none (b0 :: suite) hpos] [] [] pos) (tTry X.K C tb th):=by
 intro pins s σ H D I ⟨E,h1,h2⟩
 refine wpAny_Try_except (wpAny_mono (hb E pins s σ H D I h1) (fun f s1 q=>?_) (fun e s1 c1=>?_))
 ·cases f with
  | next=>exact wpAny_execs_nil q
  | ret v=>exact q
  | brk=>exact q
  | cont=>exact q
 obtain ⟨H1,s0,I1,c1⟩:=c1
 refine qnw9 I1 c1 O I.ok.frames fun s3 c3=>?_
 obtain ⟨a,cls,H',rfl,J,⟨oe,e1,e2⟩,z⟩:=c3.inv I1
 obtain ⟨⟨C',bm',rfl,c',hc⟩,_⟩:=h2 cls H' z
 obtain ⟨nm,q,N,bs,hdct,sn,sub,ab,col,dd,k0,k1,k2,k3,k5,l1,_⟩:=c.ex
 obtain ⟨nm',q',N',bs',hdct',sn',sub',ab',col',dd',k0',k1',k2',k3',k5',l1',_⟩:=c'.ex
 refine wpAny_handleBy_cons (codeAny_handlers_test ?_) (fun z=>nomatch z)
 refine Calls.Name_function_global I.ok.kind hg (Calls.loadGlobal_global (by rw [I.ok.glob]; exact I.mod.glob.keeps J.bk) hm ?_) hdb
 obtain ⟨h,g,d,t,os⟩:=s3
 refine qmg9 (J.kIn _ _ l1) (J.kIn _ _ l1') e1 e2 c.bx ?_
 rw [hc]
 refine codeAny_handlers_suite (qlw9 I1 c3 fun s4 c4=>?_)
 obtain ⟨a4,cls4,H4,e4,J4,_,z4⟩:=c4.inv I1
 cases e4
 refine wpAny_mono (hs a pins s4 σ H4 D (J4.inH a) (h2 cls4 H4 z4).2) (fun f s5 q5=>?_) fun _ _ z=>z.elim
 exact q5.outH I.ok
end
end L2
namespace L2
open PySem PySem.W PySem.Calls PyProof.Rows
section
variable {prog:Program} {w:World} {A:Around} {E:Value->Shared->Prop} {s:Shared} {K:Frag} {a D:Addr}
end
section
variable {X:Cx} {pins:List (Addr × Obj)} {σ:St} {H:Hp} {s:Shared}
end
section
variable {X:Cx} {body suite:List Stmt} {b0:Stmt} {tb:XK->TS} {th:TS} {C:Addr} {bm:List Value} {x n:Str} {i:Nat} {np hpos pos:Pos}
end
structure QEx (X:Cx) (e:Expr) (t:XK->TE):Prop where
 run:PEx X e t
structure QSx (X:Cx) (st:List Stmt) (t:XK->TS):Prop where
 run:PSx X st t
section
variable {X:Cx} {E:XK} {x n:Str} {p np cpos hpos pos:Pos} {e:Expr} {es:List Expr} {t:TA} {k i:Nat} {ps:List Str} {sp:Sp} {body suite:List Stmt} {b0:Stmt} {tb:XK->TS} {th:TS} {C:Addr} {bm:List Value}
theorem qs_raise (M:Makes X E) (c:ExC X.K C bm) (hg:Gl X x) (hm:X.mg x=some (.ref C)) (ha:QA X (e :: es) t) (hc:X.calm=true:=by rfl) (hdb:(x == ("__debug__" : Str))=false:=by decide)
  (he:qbi9 e=true:=by rfl) (hpl:(backTo cpos (starEach (e :: es) X.env)).any (·.1)=false:=by rfl):QS X (.Raise (some (.Call (.Name x np) (e :: es) [] cpos)) none pos) (tRaise C E t):=⟨ps_raise M c hg hm ha.run hc hdb (se_of he) hpl⟩
theorem qsx_expr {te:XK->TE} (he:QEx X e te) (hs:swapsWith e none pos.line X.env=pure false:=by rfl):QSx X [.Expr e pos] (fun E=>tDrop (te E)):=⟨psx_expr he.run hs⟩
theorem qs_try (hb:QSx X body tb) (c:ExC X.K C bm) (hg:Gl X x) (hm:X.mg x=some (.ref C)) (O:Own X) (hs:∀ a,QSs (X.inH a) (b0 :: suite) th) (hdb:(x == ("__debug__" : Str))=false:=by decide) :
  QS X (.Try body [.ExceptHandler (some (.Name x np)) none (b0 :: suite) hpos] [] [] pos) (tTry X.K C tb th):=⟨ps_try hb.run c hg hm O (fun a=>(hs a).run) hdb⟩
end
section
variable {P:Program} {w:World} {K:W.Frag} {mg:Str->Option Value} {base:Heap} {N:List Str} {qual:Str} {scope:Scope} {f:Addr} {cd:Value} {A:Around} {outer:List Env} {s:Shared} {H:Hp} {E:XK}
theorem own0 {CX:CXT}:Own (cxOf CX P w K mg base N qual scope f cd A outer s H E).nox:=⟨rfl,rfl,rfl⟩
theorem Fun.okX {x:Str} {st:Stmt} {fd:FuncData} {ps:List Str} {k:Nat} {sp:Sp} (F:Fun K x qual st f fd) (S:FnScope N ps (qaa9 st)) (len:∀ vs H Q E,sp vs H Q E->vs.length=ps.length)
  (hbody:∀ (cdv:Value) (A:Around) (outer:List Env) (s:Shared) (H:Hp) (vs:List V) (Q:VK) (E:XK),Room k (A.deeper (envOfC qual (qaa9 st) s.heap.objs.size f cdv))->sp vs H Q E ->
   ∃ t,QSs (cxE P w K mg base N qual (qaa9 st) f cdv A outer s H E) (qag9 st) t/\t { nx:=fun _ H'=>Q .non H',rt:=Q } (start N vs) H):FnOk P w K mg base (CXE P w) (k+1) f fd ps sp:=by
 obtain ⟨oc,od,kV,doc,pm,an,cdv,ct,osl,rfl,lk,hcd⟩:=F.ex
 refine fn_of lk hcd S len fun A outer s H vs Q E hr hsp=>?_
 obtain ⟨t,h1,h2⟩:=hbody cdv A outer s H vs Q E hr hsp
 exact ⟨t,h1.run,h2⟩
end
section
variable {K:W.Frag} {C D:Addr}
theorem exc_of {nm q N bs bm hdct sn sub ab col dd k0 k1 k2 k3 k5} (l:K.lookup C=some (excClassObj nm q C N bs bm hdct sn sub ab col dd k0 k1 k2 k3 k5 "ValueError.__new__"))
  (e:W.excIn K C [.type "ValueError",.type "Exception",.type "BaseException",.type "object"] "ValueError.__new__" = true) (b:bm.contains (.type "BaseException")=true):ExC K C bm:=by
 unfold W.excIn at e
 rw [l] at e
 simp only [excClassObj,Bool.and_eq_true,beq_iff_eq] at e
 obtain ⟨⟨⟨_,ht⟩,hok⟩,hni⟩:=e
 exact ⟨⟨nm,q,N,bs,hdct,sn,sub,ab,col,dd,k0,k1,k2,k3,k5,l,hok,hni⟩,ht,b⟩
end
section
variable {X:Cx} {body suite1 suite2:List Stmt} {b1 b2:Stmt} {tb:XK->TS} {th1 th2:TS} {C1 C2:Addr} {bm1 bm2:List Value} {x1 x2 n:Str} {i:Nat} {np1 hpos1 np2 hpos2 pos:Pos}
end
section
variable {P:Program} {w:World} {K:W.Frag} {mg:Str->Option Value} {base:Heap} {k:Nat} {f:Addr} {fd:FuncData} {ps:List Str} {sp sp1 sp2:Sp} {x:Str}
theorem FnOk.or {CX:CXT} (F1:FnOk P w K mg base CX k f fd ps sp1) (F2:FnOk P w K mg base CX k f fd ps sp2):FnOk P w K mg base CX k f fd ps (fun vs H Q E=>sp1 vs H Q E\/sp2 vs H Q E) :=
 ⟨fun vs H Q E h=>h.elim (F1.len vs H Q E) (F2.len vs H Q E),fun A outer s H args us vs Q E hr he hb hv hs=>hs.elim (F1.run A outer s H args us vs Q E hr he hb hv) (F2.run A outer s H args us vs Q E hr he hb hv)⟩
end
end L2
namespace Ma
noncomputable def Mu (d:Int) (f:Int->Int) (m:Nat):Prop :=
 ∃ J V:List Int,J.length+V.length<=m/\(∀ b,0<=b->b < d->f b+2<=f (b+1)->b∈J)/\∀ t,0<=t->t < d->f t=f (t+1)->f t % d∈V
theorem pw_mem {R:List T3} {p:T3->T3->Prop} (h:R.Pairwise p):∀ u∈R,∀ v∈R,u=v\/p u v\/p v u:=by
 induction R with
 | nil=>intro u hu; cases hu
 | cons x l ih =>
  have h':=List.pairwise_cons.mp h
  intro u hu v hv
  rcases List.mem_cons.mp hu with rfl | hu'
  ·rcases List.mem_cons.mp hv with rfl | hv'
   ·exact .inl rfl
   ·exact .inr (.inl (h'.1 v hv'))
  ·rcases List.mem_cons.mp hv with rfl | hv'
   ·exact .inr (.inr (h'.1 u hu'))
   ·exact ih h'.2 u hu' v hv'
theorem CK.end_at {d:Int} {R:List T3} {f:Int->Int} (h:CK d R) (T:Tells d R f):∀ w∈R,0<=w.2.1/\w.2.1 < d/\f w.2.1 < f (w.2.1+1)/\(w.2.1+1 < d->f (w.2.1+1)=f w.2.1+1->f (w.2.1+1)=f (w.2.1+1+1)):=by
 intro w hw
 have C:=h.can T
 obtain ⟨m0,m1,m2,m3⟩:=C.mem w hw
 obtain ⟨e1,e2⟩:=m3 w.2.1 m1 (Int.le_refl _)
 refine ⟨by omega,m2,e2,fun k1 k2=>?_⟩
 have mo:=(h.rise T).mono (w.2.1+1) (w.2.1+1+1) (by omega)
 rcases (by omega:f (w.2.1+1)=f (w.2.1+1+1)\/f (w.2.1+1) < f (w.2.1+1+1)) with z | k3
 ·exact z
 exfalso
 obtain ⟨v,hv,v1,v2⟩:=C.cov (w.2.1+1) (by omega) k1 k3
 obtain ⟨e3,_⟩:=(C.mem v hv).2.2.2 _ v1 v2
 rcases pw_mem C.srt w hw v hv with rfl | ⟨p,q⟩ | ⟨p,q⟩
 ·omega
 ·exact q (by omega) (by omega)
 ·omega
theorem mod_ne {d x y:Int} (l:x < y) (l2:y < x+d):x % d ≠ y % d:=fun e=>by
 have a1:=Int.emod_add_mul_ediv x d
 have a2:=Int.emod_add_mul_ediv y d
 have k1:0 < d * (y / d) - d * (x / d):=by omega
 have k2:d * (y / d) - d * (x / d) < d:=by omega
 rw [<- Int.mul_sub] at k1 k2
 generalize y / d - x / d=k at k1 k2
 rcases (by omega:k<=0\/1<=k) with y | y
 ·have:=Int.mul_nonpos_of_nonneg_of_nonpos (show 0<=d by omega) y
  omega
 ·have:=Int.mul_le_mul_of_nonneg_left y (show 0<=d by omega)
  omega
theorem mu_len {d:Int} {R:List T3} {f:Int->Int} {m:Nat} (h:CK d R) (T:Tells d R f) (M:Mu d f m):R.length<=m+1:=by
 obtain ⟨J,V,hm,hJ,hV⟩:=M
 have hd:=h.d0
 have rf:=h.rise T
 let key:T3->Nat × Int:=fun w=>if w.2.1+1=d then (0,0) else if f w.2.1+2<=f (w.2.1+1) then (1,w.2.1) else (2,f (w.2.1+1) % d)
 have nd:(R.map key).Nodup:=by
  refine List.pairwise_map.mpr (h.srt.imp_of_mem fun {u v} hu hv p=>?_)
  obtain ⟨u0,u1,u2,u3⟩:=h.end_at T u hu
  obtain ⟨v0,v1,v2,v3⟩:=h.end_at T v hv
  have vl:=(h.win v hv).2.1
  intro z
  dsimp only [key] at z
  rw [if_neg (by omega)] at z
  split at z
  ·split at z
   ·cases (Prod.mk.inj z).1
   ·split at z
    ·have:=(Prod.mk.inj z).2
     omega
    ·cases (Prod.mk.inj z).1
  ·split at z
   ·cases (Prod.mk.inj z).1
   ·split at z
    ·cases (Prod.mk.inj z).1
    ·have m1:=rf.mono (u.2.1+1) v.2.1 (by omega)
     have m2:=rf.mono (v.2.1+1) (u.2.1+d) (by omega)
     have m3:=rf.mul u.2.1 1
     rw [Int.mul_one] at m3
     exact mod_ne (d:=d) (show f (u.2.1+1) < f (v.2.1+1) by omega) (by omega) (Prod.mk.inj z).2
 have:=qiz9 (l:=R.map key) (L:=(0,0) :: (J.map (fun b=>(1,b)) ++ V.map (fun b=>(2,b)))) nd fun x hx=>by
  obtain ⟨w,hw,rfl⟩:=List.mem_map.mp hx
  obtain ⟨b0,b1,e1,e2⟩:=h.end_at T w hw
  show (if w.2.1+1=d then (0,0) else if f w.2.1+2<=f (w.2.1+1) then (1,w.2.1) else (2,f (w.2.1+1) % d))∈_
  split
  ·exact List.mem_cons_self ..
  ·refine List.mem_cons_of_mem _ ?_
   split
   ·exact List.mem_append_left _ (List.mem_map.mpr ⟨_,hJ _ b0 b1 (by assumption),rfl⟩)
   ·exact List.mem_append_right _ (List.mem_map.mpr ⟨_,hV (w.2.1+1) (by omega) (by omega) (e2 (by omega) (by omega)),rfl⟩)
 simp only [List.length_map,List.length_cons,List.length_append] at this
 omega
theorem jn_cases (late:Bool) (x y:Int):(late=true/\x<=jn late x y/\y<=jn late x y/\(jn late x y=x\/jn late x y=y))\/(late=false/\jn late x y<=x/\jn late x y<=y/\(jn late x y=x\/jn late x y=y)):=by
 unfold jn
 cases late
 ·refine .inr ⟨rfl,?_⟩
  simp only [Bool.false_eq_true,if_false]
  split <;> omega
 ·refine .inl ⟨rfl,?_⟩
  simp only [if_true]
  split <;> omega
theorem mu_jn {d:Int} {late:Bool} {f g:Int->Int} {m1 m2:Nat} (rf:Rise d f) (rg:Rise d g) (M1:Mu d f m1) (M2:Mu d g m2):Mu d (fun x=>jn late (f x) (g x)) (m1+m2):=by
 obtain ⟨J1,V1,h1,j1,v1⟩:=M1
 obtain ⟨J2,V2,h2,j2,v2⟩:=M2
 refine ⟨J1 ++ J2,V1 ++ V2,by simp only [List.length_append]; omega,fun b b0 b1 e=>?_,fun t t0 t1 e=>?_⟩
 ·have f1:=rf.mono b (b+1) (by omega)
  have g1:=rg.mono b (b+1) (by omega)
  have c0:=jn_cases late (f b) (g b)
  have c1:=jn_cases late (f (b+1)) (g (b+1))
  dsimp only at e
  have:f b+2<=f (b+1)\/g b+2<=g (b+1):=by
   rcases c0 with ⟨a0,a1,a2,a3⟩ | ⟨a0,a1,a2,a3⟩ <;> rcases c1 with ⟨b0,b1,b2,b3⟩ | ⟨b0,b1,b2,b3⟩
   ·omega
   ·rw [a0] at b0; cases b0
   ·rw [a0] at b0; cases b0
   ·omega
  rcases this with z | z
  ·exact List.mem_append_left _ (j1 b b0 b1 z)
  ·exact List.mem_append_right _ (j2 b b0 b1 z)
 ·have f1:=rf.mono t (t+1) (by omega)
  have g1:=rg.mono t (t+1) (by omega)
  have c0:=jn_cases late (f t) (g t)
  have c1:=jn_cases late (f (t+1)) (g (t+1))
  dsimp only at e ⊢
  have:(f t=f (t+1)/\jn late (f t) (g t)=f t)\/(g t=g (t+1)/\jn late (f t) (g t)=g t):=by
   rcases c0 with ⟨a0,a1,a2,a3⟩ | ⟨a0,a1,a2,a3⟩ <;> rcases c1 with ⟨b0,b1,b2,b3⟩ | ⟨b0,b1,b2,b3⟩
   ·omega
   ·rw [a0] at b0; cases b0
   ·rw [a0] at b0; cases b0
   ·omega
  rcases this with ⟨z,w⟩ | ⟨z,w⟩
  ·rw [w]; exact List.mem_append_left _ (v1 t t0 t1 z)
  ·rw [w]; exact List.mem_append_right _ (v2 t t0 t1 z)
theorem Rise.at_mod {d:Int} {g:Int->Int} (rg:Rise d g) (x:Int):g (x % d)=g x - d * (x / d)/\g (x % d+1)=g (x+1) - d * (x / d):=by
 have ed:=Int.emod_add_mul_ediv x d
 have p0:=rg.mul (x % d) (x / d)
 have p1:=rg.mul (x % d+1) (x / d)
 rw [ed] at p0
 rw [show x % d+1+d * (x / d)=x+1 by omega] at p1
 omega
theorem qoj9 {d x k:Int}:(x - d * k) % d=x % d:=by
 rw [Int.sub_eq_add_neg,<- Int.mul_neg,Int.add_mul_emod_self_left]
theorem mu_comp {d:Int} (hd:0 < d) {f g:Int->Int} {m1 m2:Nat} (rf:Rise d f) (rg:Rise d g) (M1:Mu d f m1) (M2:Mu d g m2):Mu d (fun x=>g (f x)) (m1+m2):=by
 obtain ⟨J1,V1,h1,j1,v1⟩:=M1
 obtain ⟨J2,V2,h2,j2,v2⟩:=M2
 classical
 let back:Int->Int:=fun x=>if h:∃ b,0<=b/\b < d/\f b % d=x/\f b < f (b+1) then h.choose else 0
 have hback:∀ b,0<=b->b < d->f b < f (b+1)->back (f b % d)=b:=fun b b0 b1 l=>by
  have ex:∃ c,0<=c/\c < d/\f c % d=f b % d/\f c < f (c+1):=⟨b,b0,b1,rfl,l⟩
  simp only [back]
  rw [dif_pos ex]
  obtain ⟨c0,c1,c2,c3⟩:=ex.choose_spec
  generalize ex.choose=c at *
  rcases (by omega:c < b\/c=b\/b < c) with z | z | z
  ·have n1:=rf.mono (c+1) b (by omega)
   have n2:=rf.mono (b+1) (c+d) (by omega)
   have n3:=rf.mul c 1
   rw [Int.mul_one] at n3
   exact absurd c2 (mod_ne (by omega) (by omega))
  ·exact z
  ·have n1:=rf.mono (b+1) c (by omega)
   have n2:=rf.mono (c+1) (b+d) (by omega)
   have n3:=rf.mul b 1
   rw [Int.mul_one] at n3
   exact absurd c2.symm (mod_ne (by omega) (by omega))
 refine ⟨J1 ++ J2.map back,V1.map (fun u=>g u % d) ++ V2,by simp only [List.length_append,List.length_map]; omega,fun b b0 b1 e=>?_,fun t t0 t1 e=>?_⟩
 ·dsimp only at e
  have fm:=rf.mono b (b+1) (by omega)
  rcases (by omega:f b+2<=f (b+1)\/f (b+1)=f b+1\/f (b+1)=f b) with z | z | z
  ·exact List.mem_append_left _ (j1 b b0 b1 z)
  ·refine List.mem_append_right _ (List.mem_map.mpr ⟨f b % d,?_,hback b b0 b1 (by omega)⟩)
   have p:=rg.at_mod (f b)
   rw [z] at e
   exact j2 _ (Int.emod_nonneg _ (by omega)) (Int.emod_lt_of_pos _ hd) (by omega)
  ·rw [z] at e
   omega
 ·dsimp only at e ⊢
  have fm:=rf.mono t (t+1) (by omega)
  by_cases z:f t=f (t+1)
  ·refine List.mem_append_left _ (List.mem_map.mpr ⟨f t % d,v1 t t0 t1 z,?_⟩)
   rw [(rg.at_mod (f t)).1,qoj9]
  ·refine List.mem_append_right _ ?_
   have p:=rg.at_mod (f t)
   have q1:=rg.mono (f t) (f t+1) (by omega)
   have q2:=rg.mono (f t+1) (f (t+1)) (by omega)
   have:=v2 _ (Int.emod_nonneg (f t) (by omega)) (Int.emod_lt_of_pos (f t) hd) (by omega)
   rw [p.1,qoj9] at this
   exact this
theorem mu_of {d:Int} {R:List T3} {f:Int->Int} (h:CK d R) (T:Tells d R f):Mu d f (2 * R.length):=by
 have C:=h.can T
 have hd:=h.d0
 have rf:=h.rise T
 refine ⟨R.map (·.2.1),R.map (fun w=>(w.1+w.2.2) % d),by simp only [List.length_map]; omega,fun b b0 b1 e=>?_,fun t t0 t1 e=>?_⟩
 ·obtain ⟨w,hw,w1,w2⟩:=C.cov b b0 b1 (by omega)
  obtain ⟨_,_,_,m3⟩:=C.mem w hw
  refine List.mem_map.mpr ⟨w,hw,?_⟩
  rcases (by omega:w.2.1=b\/b+1<=w.2.1) with z | z
  ·exact z
  ·have a1:=(m3 b w1 w2).1
   have a2:=(m3 (b+1) (by omega) z).1
   omega
 ·obtain ⟨x,x0,x1,x2,x3⟩:=qon9 hd rf t
  have ne:t ≠ x:=fun z=>by subst z; omega
  have fx:=rf.mono t (x - 1) (by omega)
  have fx':=rf.mono (x - 1) x (by omega)
  have p:=rf.at_mod x
  have pm:=rf.at_mod (x - 1)
  obtain ⟨w,hw,w1,w2⟩:=C.cov (x % d) (Int.emod_nonneg _ (by omega)) (Int.emod_lt_of_pos _ hd) (by omega)
  obtain ⟨m0,_,_,m3⟩:=C.mem w hw
  have a1:=(m3 _ w1 w2).1
  refine List.mem_map.mpr ⟨w,hw,?_⟩
  rcases (by omega:w.1=x % d\/w.1<=x % d - 1) with z | z
  ·rw [z,<- a1,p.1,qoj9,x2]
  ·have a2:=(m3 (x % d - 1) z (by omega)).1
   have:=rf.mul (x % d - 1) (x / d)
   have ed:=Int.emod_add_mul_ediv x d
   rw [show x % d - 1+d * (x / d)=x - 1 by omega] at this
   omega
noncomputable def MuR (d:Int) (R:List T3) (m:Nat):Prop:=CK d R/\(R ≠ []->Mu d (bf d R) m)
theorem Mu.congr {d:Int} {f g:Int->Int} {m:Nat} (M:Mu d f m) (e:∀ t,f t=g t):Mu d g m:=by
 have:f=g:=funext e
 exact this ▸ M
theorem Mu.le {d:Int} {f:Int->Int} {m m':Nat} (M:Mu d f m) (l:m<=m'):Mu d f m':=by
 obtain ⟨J,V,h,a,b⟩:=M
 exact ⟨J,V,by omega,a,b⟩
theorem MuR.len {d:Int} {R:List T3} {m:Nat} (h:MuR d R m):R.length<=m+1:=by
 by_cases z:R=[]
 ·rw [z]; exact Nat.zero_le _
 ·exact mu_len h.1 (tells_bf z) (h.2 z)
theorem mur_nil {d:Int} (hd:0 < d) {m:Nat}:MuR d [] m:=⟨ck_nil hd,fun z=>absurd rfl z⟩
theorem mur_one {d:Int} {w:T3} (h:CK d [w]):MuR d [w] 2:=⟨h,fun z=>mu_of h (tells_bf z)⟩
theorem MuR.le {d:Int} {R:List T3} {m m':Nat} (h:MuR d R m) (l:m<=m'):MuR d R m':=⟨h.1,fun z=>(h.2 z).le l⟩
theorem MuR.min {d:Int} {R R1 R2:List T3} {m1 m2:Nat} (h:CK d R) (h1:MuR d R1 m1) (h2:MuR d R2 m2) (e:∀ t,bt d R t=omin (bt d R1 t) (bt d R2 t)):MuR d R (m1+m2):=by
 by_cases z1:R1=[]
 ·subst z1
  have:R=R2:=h.uniq h2.1 fun t=>by rw [e t,bt_nil]; cases bt d R2 t <;> rfl
  rw [this]
  exact h2.le (by omega)
 by_cases z2:R2=[]
 ·subst z2
  have:R=R1:=h.uniq h1.1 fun t=>by rw [e t,bt_nil]; cases bt d R1 t <;> rfl
  rw [this]
  exact h1.le (by omega)
 refine ⟨h,fun z=>(mu_jn (late:=false) (h1.1.rise (tells_bf (d:=d) z1)) (h2.1.rise (tells_bf (d:=d) z2)) (h1.2 z1) (h2.2 z2)).congr fun t=>?_⟩
 have a:=tells_bf (d:=d) z t
 rw [e t,(tells_bf (d:=d) z1).min (tells_bf (d:=d) z2) t] at a
 exact Option.some.inj a
theorem MuR.max {d:Int} {R R1 R2:List T3} {m1 m2:Nat} (h:CK d R) (h1:MuR d R1 m1) (h2:MuR d R2 m2) (e:∀ t,bt d R t=omax (bt d R1 t) (bt d R2 t)):MuR d R (m1+m2):=by
 by_cases z1:R1=[]
 ·subst z1
  have:R=[]:=h.uniq (ck_nil h.d0) fun t=>by rw [e t,bt_nil]; cases bt d R2 t <;> rfl
  rw [this]
  exact mur_nil h.d0
 by_cases z2:R2=[]
 ·subst z2
  have:R=[]:=h.uniq (ck_nil h.d0) fun t=>by rw [e t,bt_nil]; cases bt d R1 t <;> rfl
  rw [this]
  exact mur_nil h.d0
 refine ⟨h,fun z=>(mu_jn (late:=true) (h1.1.rise (tells_bf (d:=d) z1)) (h2.1.rise (tells_bf (d:=d) z2)) (h1.2 z1) (h2.2 z2)).congr fun t=>?_⟩
 have a:=tells_bf (d:=d) z t
 rw [e t,(tells_bf (d:=d) z1).max (tells_bf (d:=d) z2) t] at a
 exact Option.some.inj a
theorem MuR.bind {d:Int} {R R1 R2:List T3} {m1 m2:Nat} (h:CK d R) (h1:MuR d R1 m1) (h2:MuR d R2 m2) (e:∀ t,bt d R t=obind (bt d R1) (bt d R2) t):MuR d R (m1+m2):=by
 by_cases z1:R1=[]
 ·subst z1
  have:R=[]:=h.uniq (ck_nil h.d0) fun t=>by rw [e t]; rfl
  rw [this]
  exact mur_nil h.d0
 by_cases z2:R2=[]
 ·subst z2
  have:R=[]:=h.uniq (ck_nil h.d0) fun t=>by rw [e t]; unfold obind; cases bt d R1 t <;> rfl
  rw [this]
  exact mur_nil h.d0
 refine ⟨h,fun z=>(mu_comp h.d0 (h1.1.rise (tells_bf (d:=d) z1)) (h2.1.rise (tells_bf (d:=d) z2)) (h1.2 z1) (h2.2 z2)).congr fun t=>?_⟩
 have a:=tells_bf (d:=d) z t
 rw [e t] at a
 unfold obind at a
 rw [tells_bf (d:=d) z1 t] at a
 exact Option.some.inj ((tells_bf (d:=d) z2 _).symm.trans a)
end Ma
namespace L2
open PySem PySem.Spec PyProof.Rows
theorem qgw9 {h base base':Heap} (k:∀ b o,base.get? b=some o->base'.get? b=some o):∀ {l:List Env},h.FunFrames base' l->h.FunFrames base l
 | [],_=>trivial
 | env :: rest,⟨hk,⟨L,o,hf,hn,ho,hd⟩,hr⟩=>⟨hk,⟨L,o,hf,(by
   cases e:base.get? L with
   | none=>rfl
   | some x =>
    rw [k L x e] at hn
    cases hn),ho,hd⟩,qgw9 k hr⟩
theorem FnOk.widen {P:Program} {w:World} {K:W.Frag} {mg:Str->Option Value} {base base':Heap} {CX:CXT} {k:Nat} {f:Addr} {fd:FuncData} {ps:List Str} {sp:Sp} (F:FnOk P w K mg base CX k f fd ps sp) (m:Mod K mg base) (hk:∀ b o,base.get? b=some o->base'.get? b=some o) (hz:base.objs.size<=base'.objs.size) :
  FnOk P w K mg base' CX k f fd ps sp:=⟨F.len,fun A outer s H args us vs Q E hr e0 hb r hsp=>F.run A outer s H args us vs Q E hr ⟨e0.frames,m,fun b o e=>e0.bs b o (hk b o e),Nat.le_trans hz e0.bsz,qgw9 hk e0.funs,e0.frf,e0.hok,e0.bare⟩ hb r hsp⟩
theorem Callee.widen {P:Program} {w:World} {K:W.Frag} {mg:Str->Option Value} {base base':Heap} {k:Nat} {x:Str} {ps:List Str} {sp:Sp} (C:Callee P w K mg base k x ps sp) (m:Mod K mg base) (hk:∀ b o,base.get? b=some o->base'.get? b=some o) (hz:base.objs.size<=base'.objs.size) :
  Callee P w K mg base' k x ps sp:=by
 obtain ⟨f,fd,G,b,kp,m'⟩:=C.ex
 exact ⟨f,fd,G.widen m hk hz,b,kp,m'⟩
noncomputable def tLam4 (i1 i2:Nat) (P:Addr) (pos:Pos) (qual:Str) (te1 te2 te3:TE) (spG:V->V->Addr->Addr->Sp):TE:=fun σ H Q=>∃ v1 v2,σ[i1]?=some (some v1)/\σ[i2]?=some (some v2)/\te1 σ H fun w1 H1=>te2 σ H1 fun w2 H2=>te3 σ H2 fun w3 H3=>TabOk H3 P pos qual /\
 ∀ fl c' H4,SameT P H3 H4->TabOk H4 P pos qual->H4 c'=some (.ext (CodeQ c' qual))->spG v1 v2 fl c' [w1,w2,w3,.ref fl] H4 Q E0
section
variable {X:Cx} {k:Nat} {x y1 y2:Str} {g c P cy1 cy2:Addr} {gd:FuncData} {ps2 N ps:List Str} {spG:V->V->Addr->Addr->Sp} {e1 e2 e3 body:Expr} {te1 te2 te3:TE} {params:Arguments} {sc:Scope} {lpos p pos:Pos} {clos:List (Str × Addr)}
theorem qgt9 (i1 i2:Nat) (hr:Room k X.A) (hg:Gl X x) (hm:X.mg x=some (.ref g)) (hk:W.keepIn X.K (.ref g)=true) (hbG:Binds X.K gd ps2 []) (hl2:ps2.length=4) (hcode:X.env.code=.ref c) (hC:W.CodeHd X.base c P) (hB:BMain X.mg X.base)
  (hcl:closureFor sc X.env=pure clos)
  (hN1:X.N[i1]?=some y1) (hky1:X.env.kindOf y1=some .cell) (hvy1:Vis X.env.scope y1) (hcy1:X.env.cells.lookup y1=some cy1) (hfy1:X.fn y1=true) (hcly1:clos.lookup y1=some cy1)
  (hN2:X.N[i2]?=some y2) (hky2:X.env.kindOf y2=some .cell) (hvy2:Vis X.env.scope y2) (hcy2:X.env.cells.lookup y2=some cy2) (hfy2:X.fn y2=true) (hcly2:clos.lookup y2=some cy2)
  (honly:∀ z d,clos.lookup z=some d->(z=y1/\d=cy1)\/(z=y2/\d=cy2)) (hNp:N=ps ++ [y1,y2]) (hsy1:sc.names.lookup y1=some .free) (hsy2:sc.names.lookup y2=some .free)
  (h1:PE X e1 te1) (h2:PE X e2 te2) (h3:PE X e3 te3)
  (G:∀ (base':Heap) (fl c':Addr) (v1 v2:V) (pm ctv:Value),Mod X.K X.mg X.base->(∀ b o,X.base.get? b=some o->base'.get? b=some o)->X.base.objs.size<=base'.objs.size->base'.get? fl=some (W.kla_obj "<lambda>" (X.env.qual ++ "<lambda>") params body sc clos pm c' ctv)->qhl9 base' sc clos N ps [v1,v2]->FnOk X.prog X.w X.K X.mg base' CX0 k g gd ps2 (spG v1 v2 fl c'))
  (hdb:(x == ("__debug__" : Str))=false:=by decide) (hdef:defaultsOf params X.env=([],[]):=by rfl)
  (he:starEach [e1,e2,e3,.Lambda params body sc lpos] X.env=(false,eval e1 X.env) :: starEach [e2,e3,.Lambda params body sc lpos] X.env:=by rfl) (he2:starEach [e2,e3,.Lambda params body sc lpos] X.env=(false,eval e2 X.env) :: starEach [e3,.Lambda params body sc lpos] X.env:=by rfl)
  (he3:starEach [e3,.Lambda params body sc lpos] X.env=(false,eval e3 X.env) :: starEach [.Lambda params body sc lpos] X.env:=by rfl) (he4:starEach [.Lambda params body sc lpos] X.env=(false,eval (.Lambda params body sc lpos) X.env) :: starEach [] X.env:=by rfl)
  (hpl:(backTo pos (starEach [e2,e3,.Lambda params body sc lpos] X.env)).any (·.1)=false:=by rfl) :
  PE X (.Call (.Name x p) [e1,e2,e3,.Lambda params body sc lpos] [] pos) (tLam4 i1 i2 P lpos (X.env.qual ++ "<lambda>") te1 te2 te3 spG):=by
 intro pins s σ H Q I h
 obtain ⟨v1,v2,hv1,hv2,h⟩:=h
 refine wpAny_Call_Name_kw (qgz9 I hg hm ?_ hdb)
 refine W.callWith_K (h₀:=X.base) I.ok.mod.kin hk ?_ he hpl
 rw [he]
 show wpAny _ _ (spliced ((false,eval e1 X.env) :: backTo pos (starEach [e2,e3,.Lambda params body sc lpos] X.env))) _ _ s
 refine Calls.spliced_cons (thn (h1 pins s σ H _ I h) fun u1 sa ⟨w1,Ha,Ia,r1,ha⟩=>?_)
 rw [he2]
 show wpAny _ _ (spliced ((false,eval e2 X.env) :: backTo pos (starEach [e3,.Lambda params body sc lpos] X.env))) _ _ sa
 refine Calls.spliced_cons (thn (h2 pins sa σ Ha _ Ia ha) fun u2 sb ⟨w2,Hb,Ib,r2,hb⟩=>?_)
 rw [he3]
 show wpAny _ _ (spliced ((false,eval e3 X.env) :: backTo pos (starEach [.Lambda params body sc lpos] X.env))) _ _ sb
 refine Calls.spliced_cons (thn (h3 pins sb σ Hb _ Ib hb) fun u3 s1 ⟨w3,H1,I1,r3,tab,q1⟩=>?_)
 rw [he4]
 show wpAny _ _ (spliced ((false,eval (.Lambda params body sc lpos) X.env) :: backTo pos (starEach [] X.env))) _ _ s1
 refine Calls.spliced_cons (W.kla_eval hdef ?_)
 have cellAt:∀ {i:Nat} {y:Str} {cy:Addr} {v:V},X.N[i]?=some y->X.env.kindOf y=some .cell->Vis X.env.scope y->X.env.cells.lookup y=some cy->σ[i]?=some (some v)->∀ {H2:Hp} {s2:Shared},Inv X pins σ H2 s2->∃ u,RelV v u/\s2.heap.IsCell cy (some u):=fun {i y cy v} hN hky hvy hcy hv {H2 s2} J=>by
  obtain ⟨m,_,hl⟩:=J.loc
  obtain ⟨u,ru,lk⟩:=hl i y v hN hv hvy
  rcases lk with ⟨z,_⟩ | ⟨_,d,e',q⟩
  ·rw [hky] at z; cases z
  ·rw [hcy] at e'
   cases e'
   exact ⟨u,ru,q⟩
 have fin:∀ (fl c':Addr) (pm ctv:Value) (H2:Hp) (s2:Shared),Inv X pins σ H2 s2->SameT P H1 H2->TabOk H2 P lpos (X.env.qual ++ "<lambda>")->H2 c'=some (.ext (CodeQ c' (X.env.qual ++ "<lambda>"))) ->
   s2.heap.get? fl=some (W.kla_obj "<lambda>" (X.env.qual ++ "<lambda>") params body sc clos pm c' ctv)->H2 fl=none->fl ∉ frs X.stack ->
   wpAny (model X.prog X.w) X.A (spliced (backTo pos (starEach [] X.env))) (fun vs s3=>X.K.In s3.heap/\wpAny (model X.prog X.w) X.A (call (.ref g) ([] ++ (u1 :: u2 :: u3 :: .ref fl :: vs))) (EP X pins σ Q) X.xe s3) X.xe s2:=by
  intro fl c' pm ctv H2 s2 I2 sm tb hc' hfl nfl nfs
  refine Calls.spliced_nil ⟨I2.kIn,?_⟩
  have hb1:=qei9 (X:=X) hfl nfl nfs
  have nc:∀ {y:Str} {cy:Addr},X.env.cells.lookup y=some cy->X.fn y=true->cy ∉ frs X.stack:=fun {y cy} hcy hfy z=>by
   rcases List.mem_cons.mp (I2.stkSub cy z) with e | e
   ·exact I2.cne y cy hcy e
   ·have lo:=I2.ok.cab y cy hfy hcy
    obtain ⟨_,o,eo,_⟩:=I2.ok.funs.mem e
    exact absurd (Nat.lt_of_lt_of_le (Heap.lt_size eo) lo) (Nat.lt_irrefl _)
  obtain ⟨ua,ra,oa,qa1,qa2⟩:=cellAt hN1 hky1 hvy1 hcy1 hv1 I2
  obtain ⟨ub,rb,ob,qb1,qb2⟩:=cellAt hN2 hky2 hvy2 hcy2 hv2 I2
  have hba:=qei9 (X:=X) qa1 (I2.freeC y1 cy1 hcy1) (nc hcy1 hfy1)
  have hbb:=qei9 (X:=X) qb1 (I2.freeC y2 cy2 hcy2) (nc hcy2 hfy2)
  have ca:qhl9 (fixed X H2 s2.heap) sc clos N ps [v1,v2]:=by
   refine ⟨by rw [hNp,List.length_append]; rfl,fun z d e=>?_,fun j z v' e1 e2=>?_⟩
   ·rcases honly z d e with ⟨rfl,rfl⟩ | ⟨rfl,rfl⟩
    ·exact ⟨some ua,oa,hba,qa2⟩
    ·exact ⟨some ub,ob,hbb,qb2⟩
   ·rw [hNp,List.getElem?_append_right (Nat.le_add_right _ _),Nat.add_sub_cancel_left] at e1
    match j,e1,e2 with
    | 0,e1,e2 =>
     cases e1
     cases e2
     exact ⟨hsy1,cy1,ua,hcly1,⟨oa,hba,qa2⟩,ra⟩
    | 1,e1,e2 =>
     cases e1
     cases e2
     exact ⟨hsy2,cy2,ub,hcly2,⟨ob,hbb,qb2⟩,rb⟩
    | j+2,e1,e2=>cases e2
  have F:=G _ fl c' v1 v2 pm ctv I2.ok.mod I2.base_fixed (Nat.le_trans I2.env0.bsz (Nat.le_of_eq (W.hideAll_size _ _).symm)) hb1 ca
  have hsp:=q1 fl c' H2 sm tb hc'
  have bnd:BindsTo s2 gd ⟨[u1,u2,u3,.ref fl],[]⟩ (ps2.zip [u1,u2,u3,.ref fl]):=by
   have:=hbG s2 [u1,u2,u3,.ref fl] I2.kIn (by rw [hl2]; rfl)
   simpa using this
  refine wpAny_call (codeAny_mono (F.run X.A X.stack s2 H2 ⟨[u1,u2,u3,.ref fl],[]⟩ [u1,u2,u3,.ref fl] [w1,w2,w3,.ref fl] Q E0 hr I2.env_fixed bnd (.cons r1 (.cons r2 (.cons r3 (.cons rfl .nil)))) hsp) fun r s' hq=>?_)
  cases r with
  | error e=>exact False.elim hq
  | ok fl' =>
   cases fl' with
   | ret u=>exact I2.after hq
   | next=>exact False.elim hq
   | brk=>exact False.elim hq
   | cont=>exact False.elim hq
 obtain ⟨bm,ob,b1,b2,b3,b4,b5,b6⟩:=hB
 obtain ⟨ps0,hP,ht,hor⟩:=tab
 have hPo:s1.heap.get? P=some (W.tabObj ps0):=I1.hok P _ hP
 have notP:∀ b o,X.base.get? b=some o->b ≠ P:=fun b o e z=>by
  have:=(I1.bs b o e).2
  rw [z,hP] at this
  cases this
 obtain ⟨og,esg,epg,eg,dg,rg⟩:=I1.mod.glob
 have hbA:s1.heap.BuiltinsAt X.mg P:=⟨bm,ob,b1,b2,(fun z=>by rw [z,eg] at b3; cases b3; rw [b6] at dg; cases dg),notP _ _ b3,I1.bk _ _ b3,b4,b5,b6⟩
 have gl:s1.heap.Ns mainGlobals X.mg:=I1.mod.glob.keeps I1.bk
 rcases hor with hnf | ⟨c',hf,hc'⟩
 ·refine W.kla_makeFunction (mg:=X.mg) hcl I1.ok.glob gl hcode (hC.keeps I1.bk) hPo ht hnf (notP _ _ eg) hbA fun c' ctv h' tk hx hge hlt hrec htb=>?_
  have ltP:P < s1.heap.objs.size:=Heap.lt_size hPo
  have neP:P ≠ c':=Nat.ne_of_lt (Nat.lt_of_lt_of_le ltP hge)
  have nc':H1 c'=none:=I1.hok.fresh hge
  have old:∀ b o,b ≠ P->s1.heap.get? b=some o->(h'.push (W.kla_obj "<lambda>" (X.env.qual ++ "<lambda>") params body sc clos ((X.mg "__name__").getD .none) c' ctv)).get? b=some o:=fun b o n e=>Heap.get?_push_of_some _ (hx b o n e)
  have kP:∀ b o,H1 b=some o->(∀ z,o ≠ .tbl z)->b ≠ P:=fun b o e n z=>by rw [z,hP] at e; exact n ps0 (Option.some.inj e).symm
  have up:∀ b o,H1 b=some o->b ≠ P->upd (upd H1 c' (.ext (CodeQ c' (X.env.qual ++ "<lambda>")))) P (.tbl (ps0 ++ #[rawInt lpos.line,rawInt lpos.col,.ref c'])) b=some o:=fun b o e n=>by
   rw [qao9 n,qao9 (qax9 e nc')]
   exact e
  have upN:∀ b,H1 b=none->b ≠ c'->upd (upd H1 c' (.ext (CodeQ c' (X.env.qual ++ "<lambda>")))) P (.tbl (ps0 ++ #[rawInt lpos.line,rawInt lpos.col,.ref c'])) b=none:=fun b e n=>by
   rw [qao9 (fun z=>by rw [z,hP] at e; cases e),qao9 n]
   exact e
  have u:Un X.fs [] H1 (upd (upd H1 c' (.ext (CodeQ c' (X.env.qual ++ "<lambda>")))) P (.tbl (ps0 ++ #[rawInt lpos.line,rawInt lpos.col,.ref c']))) s1.heap (h'.push (W.kla_obj "<lambda>" (X.env.qual ++ "<lambda>") params body sc clos ((X.mg "__name__").getD .none) c' ctv)):=by
   have nP:∀ b,H1 b=none->b ≠ P:=fun b n z=>by rw [z,hP] at n; cases n
   refine ⟨fun b o e n _ _=>old b o (nP b n) e,fun b o e n _ _=>⟨o.slots,old b o (nP b n) e⟩,fun b o e n _=>upN b n (Nat.ne_of_lt (Nat.lt_of_lt_of_le (Heap.lt_size e) hge)),fun b o e _=>?_,fun b xs e=>up b _ e (kP b _ e fun _ z=>nomatch z),fun b o w e=>up b _ e (kP b _ e fun _ z=>nomatch z),fun b pz e=>?_⟩
   ·by_cases hb:b=P
    ·rw [hb]
     exact ⟨_,Heap.get?_push_of_some _ htb⟩
    ·exact ⟨o,old b o hb e⟩
   ·by_cases hb:b=P
    ·rw [hb] at e ⊢
     rw [hP] at e
     cases e
     exact ⟨_,qaf9⟩
    ·exact ⟨#[],by rw [up b _ e hb]; simp⟩
  have hok:HOk X.prog X.w (upd (upd H1 c' (.ext (CodeQ c' (X.env.qual ++ "<lambda>")))) P (.tbl (ps0 ++ #[rawInt lpos.line,rawInt lpos.col,.ref c']))) (h'.push (W.kla_obj "<lambda>" (X.env.qual ++ "<lambda>") params body sc clos ((X.mg "__name__").getD .none) c' ctv)):=by
   intro b o e
   by_cases hb:b=P
   ·rw [hb,qaf9] at e
    cases e
    rw [hb]
    exact Heap.get?_push_of_some _ htb
   ·rw [qao9 hb] at e
    by_cases hb2:b=c'
    ·rw [hb2,qaf9] at e
     cases e
     rw [hb2]
     obtain ⟨c2,oc,vs,tq,ee,hoc,rest⟩:=hrec
     cases ee
     refine ⟨⟨_,oc,vs,tq,rfl,Heap.get?_push_of_some _ hoc,rest⟩,⟨oc,Heap.get?_push_of_some _ hoc⟩,fun h1 h2 hq hk=>?_⟩
     obtain ⟨c3,o3,v3,t3,e3,g3,r3⟩:=hq
     cases e3
     exact ⟨_,o3,v3,t3,rfl,hk _ g3,r3⟩
    ·rw [qao9 hb2] at e
     refine (I1.hok b o e).stay (fun d z hd q=>old d z ?_ q) (fun d q=>up d _ q (kP d _ q fun _ z=>nomatch z)) fun d xs q=>up d _ q (kP d _ q fun _ z=>nomatch z)
     rcases hd with hd | hd
     ·rw [hd]; exact hb
     ·exact kP d _ hd fun _ z=>nomatch z
  have I2:=I1.un (t':=tk) u hok
  refine fin h'.objs.size c' _ ctv _ _ I2 (fun b o e n=>up b o e n) ⟨_,qaf9,?_,.inr ⟨c',?_,?_⟩⟩ ?_ (Heap.get?_push_size _ rfl) ?_ ?_
  ·have:=TriplesOk_snoc lpos.line lpos.col (.ref c') ps0.toList ht
   simpa using this
  ·have:=codeAmong_snoc (pos:=lpos) (c:=.ref c') ps0.toList ht hnf
   simpa using this
  ·rw [qao9 neP.symm,qaf9]
  ·rw [qao9 neP.symm,qaf9]
  ·refine upN _ (I1.hok.fresh (Nat.le_trans hge (Nat.le_of_lt hlt))) (Nat.ne_of_gt hlt)
  ·exact fun z=>by
    rcases List.mem_cons.mp (I1.stkSub _ z) with e | e
    ·exact absurd (I1.lt) (by rw [<- e]; exact Nat.not_lt.mpr (Nat.le_trans hge (Nat.le_of_lt hlt)))
    ·exact I1.nofs (Nat.le_trans hge (Nat.le_of_lt hlt)) e
 ·refine W.kla_makeFunctionHit (mg:=X.mg) hcl I1.ok.glob gl hcode (hC.keeps I1.bk) hPo ht hf hbA fun ctv h' tk hk hsz=>?_
  have I2:Inv X pins σ H1 { s1 with heap:=h'.push { cls:=.type "function",data:=.func (W.kla_fn "<lambda>" (X.env.qual ++ "<lambda>") params body sc clos ((X.mg "__name__").getD .none) (.ref c') ctv) },toks:=tk }:=I1.kept (t':=tk) fun b o e=>Heap.get?_push_of_some _ (hk b o e)
  refine fin h'.objs.size c' _ ctv H1 _ I2 (fun b o e _=>e) ⟨ps0,hP,ht,.inr ⟨c',hf,hc'⟩⟩ hc' (Heap.get?_push_size _ rfl) (I1.hok.fresh hsz) ?_
  exact fun z=>by
   rcases List.mem_cons.mp (I1.stkSub _ z) with e | e
   ·exact absurd (I1.lt) (by rw [<- e]; exact Nat.not_lt.mpr hsz)
   ·exact I1.nofs hsz e
end
theorem qek9 {X:Cx} (K:W.Frag) (hK:X.K=K):QCall X (.type "list") (fun xs H Q=>∃ p ys,xs=[.ref p]/\(SqL K H p ys\/SqT K H p ys)/\∀ l,H l=none->Q (.ref l) (upd H l (.lst ys))):=by
 subst hK
 exact qgi9
section
variable {X:Cx} {o e value:Expr} {f m x:Str} {p pos pos' apos:Pos} {ta tv:TE} {t:TA} {es:List Expr} {k:Nat} {C:Addr} {ps:List Str} {sp:Sp}
theorem qgf9 (he:QE X e ta) (hb:attributeBase e f X.env (eval e X.env)=eval e X.env:=by rfl):QE X (.Attribute e f pos) (tFld X.K ta f):=⟨pe_fld he.run hb⟩
theorem qs_fld (ha:QE X o ta) (hv:QE X value tv) (hs:swapsWith value (some (.Attribute o f pos')) pos.line X.env=pure false:=by rfl):QS X (.Assign [.Attribute o f pos'] value pos) (sFld X.K ta tv f):=⟨ps_fld ha.run hv.run hs⟩
structure MCal (P:Program) (w:World) (K:W.Frag) (mg:Str->Option Value) (base:Heap) (k:Nat) (C:Addr) (m:Str) (ps:List Str) (sp:Sp):Prop where
 ex:∃ (f:Addr) (fd:FuncData),FnOk P w K mg base CX0 k f fd ps sp/\Binds K fd ps []/\Meth K C m f
 cl:Cls K C
theorem MCal.up {P:Program} {w:World} {K:W.Frag} {mg:Str->Option Value} {base:Heap} {j:Nat} (M:MCal P w K mg base j C m ps sp) (h:j<=k):MCal P w K mg base k C m ps sp:=by
 obtain ⟨⟨f,fd,G,b,me⟩,c⟩:=M
 exact ⟨⟨f,fd,G.mono h,b,me⟩,c⟩
theorem qgr9 {pl:Sem Bool} (M:MCal X.prog X.w X.K X.mg X.base k C m ps sp) (hr:Room k X.A) (ho:QE X o ta) (ha:QA X (e :: es) t) (h:qbi9 e=true:=by rfl) (hpl:es.all qbi9=true:=by rfl)
  (ht:eval (.Call (.Attribute o m apos) (e :: es) [] pos) X.env=(do
   let ov <- eval o X.env
   standAt apos.atName
   let (f,first) <- holding [ov] (getMethod ov m pl)
   callWith pos f first (backTo pos (starEach (e :: es) X.env)) (backToKw pos (keywordEach [] X.env))):=by rfl) :
  QE X (.Call (.Attribute o m apos) (e :: es) [] pos) (tMeth C m sp [] E0 ta t):=by
 obtain ⟨⟨f,fd,G,b,me⟩,c⟩:=M
 exact ⟨pe_meth ho.run c me G hr b .nil pass0 ha.run (se_of h) (qhq9 hpl) ht⟩
structure KCal (P:Program) (w:World) (K:W.Frag) (mg:Str->Option Value) (base:Heap) (k:Nat) (x:Str) (C:Addr) (ps:List Str) (sp:Sp):Prop where
 ex:∃ (f:Addr) (fd:FuncData),Mk K C f/\FnOk P w K mg base CX0 k f fd ps sp/\Binds K fd ps []
 mg_:mg x=some (.ref C)
theorem KCal.up {P:Program} {w:World} {K:W.Frag} {mg:Str->Option Value} {base:Heap} {j:Nat} (M:KCal P w K mg base j x C ps sp) (h:j<=k):KCal P w K mg base k x C ps sp:=by
 obtain ⟨⟨f,fd,mk,G,b⟩,c⟩:=M
 exact ⟨⟨f,fd,mk,G.mono h,b⟩,c⟩
theorem qe_make (M:KCal X.prog X.w X.K X.mg X.base k x C ps sp) (hr:Room (k+1) X.A) (hg:Gl X x) (ha:QA X (e :: es) t) (h:qbi9 e=true:=by rfl) (hpl:es.all qbi9=true:=by rfl) (hdb:(x == ("__debug__" : Str))=false:=by decide) :
  QE X (.Call (.Name x p) (e :: es) [] pos) (tMake C sp [] E0 t):=by
 obtain ⟨⟨f,fd,mk,G,b⟩,c⟩:=M
 exact ⟨pe_make mk G hr hg c b .nil pass0 ha.run hdb (se_of h) (qhq9 hpl)⟩
end
structure FunD (K:W.Frag) (x qual:Str) (st:Stmt) (f:Addr) (fd:FuncData):Prop where
 ex:∃ (oc:Value) (od:Option Addr) (dV kV doc pm:Value) (an:Option Addr) (cdv ct:Value) (osl:Array (Option Value)),
  fd=W.fnOf x qual (qah9 st) (qag9 st) (qaa9 st) dV kV doc pm an cdv ct/\K.lookup f=some ⟨oc,od,.func fd,osl⟩/\W.codeIn K cdv qual=true
theorem FunD.okQ {P:Program} {w:World} {K:W.Frag} {mg:Str->Option Value} {base:Heap} {x qual:Str} {st:Stmt} {f:Addr} {fd:FuncData} {N ps:List Str} {k:Nat} {sp:Sp} (F:FunD K x qual st f fd) (S:FnScope N ps (qaa9 st)) (len:∀ vs H Q E,sp vs H Q E->vs.length=ps.length)
  (hbody:∀ (cdv:Value) (A:Around) (outer:List Env) (s:Shared) (H:Hp) (vs:List V) (Q:VK) (E:XK),Room k (A.deeper (envOfC qual (qaa9 st) s.heap.objs.size f cdv))->sp vs H Q E ->
   ∃ t,QSs (cxOf CX0 P w K mg base N qual (qaa9 st) f cdv A outer s H E).nox (qag9 st) t/\t { nx:=fun _ H'=>Q .non H',rt:=Q } (start N vs) H):FnOk P w K mg base CX0 (k+1) f fd ps sp:=by
 obtain ⟨oc,od,dV,kV,doc,pm,an,cdv,ct,osl,rfl,lk,hcd⟩:=F.ex
 refine fn_of lk hcd S len fun A outer s H vs Q E hr hsp=>?_
 obtain ⟨t,h,q⟩:=hbody cdv A outer s H vs Q E hr hsp
 exact ⟨t,h.run.nox,q⟩
section
variable {X:Cx} {o e ev:Expr} {m x kn:Str} {p pos apos kpos:Pos} {ta te:TE} {t tk:TA} {es:List Expr} {k:Nat} {C f:Addr} {fd:FuncData} {ps:List Str} {sp:Sp} {E:XK}
structure MCalX (P:Program) (w:World) (K:W.Frag) (mg:Str->Option Value) (base:Heap) (k:Nat) (C:Addr) (m:Str) (ps:List Str) (sp:Sp):Prop where
 ex:∃ (f:Addr) (fd:FuncData),FnOk P w K mg base (CXE P w) k f fd ps sp/\Binds K fd ps []/\Meth K C m f
 cl:Cls K C
theorem MCalX.up {P:Program} {w:World} {K:W.Frag} {mg:Str->Option Value} {base:Heap} {j:Nat} (M:MCalX P w K mg base j C m ps sp) (h:j<=k):MCalX P w K mg base k C m ps sp:=by
 obtain ⟨⟨f,fd,G,b,me⟩,c⟩:=M
 exact ⟨⟨f,fd,G.mono h,b,me⟩,c⟩
theorem qe_methX {pl:Sem Bool} (M:MCalX X.prog X.w X.K X.mg X.base k C m ps sp) (hr:Room k X.A) (hx:qih9 (CXE X.prog X.w) X E) (ho:QE X o ta) (ha:QA X (e :: es) t) (h:qbi9 e=true:=by rfl) (hpl:es.all qbi9=true:=by rfl)
  (ht:eval (.Call (.Attribute o m apos) (e :: es) [] pos) X.env=(do
   let ov <- eval o X.env
   standAt apos.atName
   let (f,first) <- holding [ov] (getMethod ov m pl)
   callWith pos f first (backTo pos (starEach (e :: es) X.env)) (backToKw pos (keywordEach [] X.env))):=by rfl) :
  QE X (.Call (.Attribute o m apos) (e :: es) [] pos) (tMeth C m sp [] E ta t):=by
 obtain ⟨⟨f,fd,G,b,me⟩,c⟩:=M
 exact ⟨pe_meth ho.run c me G hr b .nil hx ha.run (se_of h) (qhq9 hpl) ht⟩
theorem pex_meth {pl:Sem Bool} (M:MCalX X.prog X.w X.K X.mg X.base k C m ps sp) (hr:Room k X.A) (ho:PE X.nox o ta) (ha:PA X.nox (e :: es) t) (hst:starEach (e :: es) X.env=(false,eval e X.env) :: starEach es X.env) (hpl:(backTo pos (starEach es X.env)).any (·.1)=false)
  (ht:eval (.Call (.Attribute o m apos) (e :: es) [] pos) X.env=(do
   let ov <- eval o X.env
   standAt apos.atName
   let (f,first) <- holding [ov] (getMethod ov m pl)
   callWith pos f first (backTo pos (starEach (e :: es) X.env)) (backToKw pos (keywordEach [] X.env)))) :
  PEx X (.Call (.Attribute o m apos) (e :: es) [] pos) (fun E=>tMeth C m sp [] E ta t):=by
 obtain ⟨⟨f,fd,F,b,me⟩,c⟩:=M
 intro E pins s σ H Q I h
 refine W.methodCall_KW (pl:=pl) (wpAny_mono (ho pins s σ H _ (I.wish _) h) (fun u s1 ⟨x,H1,I1,rx,a,dx,fs,ex,ea,l,q⟩=>?_) fun _ _ z=>z.elim) ht
 subst ex
 obtain rfl:u=Value.ref a:=rx
 refine qit9 I1.unwish ea c me l ?_
 refine W.callWith_K (first:=[.ref a]) (h₀:=X.base) I.ok.mod.kin me.kp (wpAny_mono (ha pos pins s1 σ H1 _ I1 q) (fun us s2 ⟨vs,H2,I2,r,q2⟩=>⟨I2.kIn,?_⟩) fun _ _ z=>z.elim) hst hpl
 exact run_fnX (us:=.ref a :: us) (vs:=.ref a :: vs) F hr b I2.unwish (.cons rfl r) q2
theorem qex_meth {pl:Sem Bool} (M:MCalX X.prog X.w X.K X.mg X.base k C m ps sp) (hr:Room k X.A) (ho:QE X.nox o ta) (ha:QA X.nox (e :: es) t) (h:qbi9 e=true:=by rfl) (hpl:es.all qbi9=true:=by rfl)
  (ht:eval (.Call (.Attribute o m apos) (e :: es) [] pos) X.env=(do
   let ov <- eval o X.env
   standAt apos.atName
   let (f,first) <- holding [ov] (getMethod ov m pl)
   callWith pos f first (backTo pos (starEach (e :: es) X.env)) (backToKw pos (keywordEach [] X.env))):=by rfl) :
  QEx X (.Call (.Attribute o m apos) (e :: es) [] pos) (fun E=>tMeth C m sp [] E ta t):=⟨pex_meth M hr ho.run ha.run (se_of h) (qhq9 hpl) ht⟩
structure KCalD (P:Program) (w:World) (K:W.Frag) (mg:Str->Option Value) (base:Heap) (k:Nat) (x:Str) (C:Addr) (ps:List Str) (sp:Sp):Prop where
 ex:∃ (f:Addr) (fd:FuncData) (tk:Tok),Mk K C f/\FnOk P w K mg base CX0 k f fd ps sp/\Binds K fd ps [.int 1 tk]
 mg_:mg x=some (.ref C)
theorem qe_makeD (M:KCalD X.prog X.w X.K X.mg X.base k x C ps sp) (hr:Room (k+1) X.A) (hg:Gl X x) (ha:QA X (e :: es) t) (h:qbi9 e=true:=by rfl) (hpl:es.all qbi9=true:=by rfl) (hdb:(x == ("__debug__" : Str))=false:=by decide) :
  QE X (.Call (.Name x p) (e :: es) [] pos) (tMake C sp [.int 1] E0 t):=by
 obtain ⟨⟨f,fd,tk,mk,G,b⟩,c⟩:=M
 exact ⟨pe_make mk G hr hg c b (.cons ⟨tk,rfl⟩ .nil) pass0 ha.run hdb (se_of h) (qhq9 hpl)⟩
structure KCalK (P:Program) (w:World) (K:W.Frag) (mg:Str->Option Value) (base:Heap) (k:Nat) (x:Str) (C:Addr) (kn:Str) (ps:List Str) (sp:Sp):Prop where
 ex:∃ (f:Addr) (fd:FuncData),Mk K C f/\FnOk P w K mg base CX0 k f fd ps sp/\∀ (s:Shared) (us:List Value) (v:Value),K.In s.heap->us.length+1=ps.length->BindsTo s fd ⟨us,[(kn,v)]⟩ (ps.zip (us ++ [v]))
 mg_:mg x=some (.ref C)
noncomputable def tMakeK (C:Addr) (sp:Sp) (t:TA) (te:TE):TE:=fun σ H Q=>t σ H fun vs H1=>tCons te tNil σ H1 fun zs H2=>∃ z,zs=[z]/\∀ x dx,H2 x=none->H2 dx=none->dx ≠ x ->
 sp (.ref x :: (vs ++ [z])) (upd (upd H2 dx (.own x)) x (.ins C dx [])) (fun v H3=>v=.non/\Q (.ref x) H3) E0
theorem qe_makeK (M:KCalK X.prog X.w X.K X.mg X.base k x C kn ps sp) (hr:Room (k+1) X.A) (hg:Gl X x) (ha:QA X (e :: es) t) (hv:QE X ev te) (h:qbi9 e=true:=by rfl) (hpl:((backTo pos (starEach (e :: es) X.env)).any (·.1) || (backToKw pos (keywordEach [⟨some kn,ev,kpos⟩] X.env)).any (·.1.isNone))=false:=by rfl)
  (hall:(backToKw pos (keywordEach [⟨some kn,ev,kpos⟩] X.env)).all (·.1.isSome)=true:=by rfl) (hks:(backToKw pos (keywordEach [⟨some kn,ev,kpos⟩] X.env)).filterMap (·.1)=[kn]:=by rfl) (hdb:(x == ("__debug__" : Str))=false:=by decide) :
  QE X (.Call (.Name x p) (e :: es) [⟨some kn,ev,kpos⟩] pos) (tMakeK C sp t te):=by
 obtain ⟨⟨f,fd,M,F,hb⟩,hm⟩:=M
 refine ⟨?_⟩
 intro pins s σ H Q I hq
 refine wpAny_Call_Name_kw (qgz9 I hg hm ?_ hdb)
 refine W.callWith_KW (h₀:=X.base) I.ok.mod.kin M.kp hall (thn (ha.run pos pins s σ H _ I hq) fun us s1 ⟨vs,H1,I1,r,q⟩=>?_) hpl (se_of h)
 refine thn (pk_cons (nm:=some kn) (kpos:=kpos) hv.run pk_nil pos pins s1 σ H1 _ I1 q) fun ws s2 ⟨zs,H2,I2,rz,z,ez,q2⟩=>⟨I2.kIn,?_⟩
 rw [hks]
 subst ez
 obtain ⟨v,rfl,rv⟩:=vals1 rz
 have hq:=q2 (s2.heap.objs.size+1) s2.heap.objs.size (I2.hok.fresh (Nat.le_succ _)) (I2.hok.fresh (Nat.le_refl _)) (Nat.ne_of_lt (Nat.lt_succ_self _))
 have I3:=Inv.made (C:=C) I2
 have r2:Vals (V.ref (s2.heap.objs.size+1) :: (vs ++ [z])) (Value.ref (s2.heap.objs.size+1) :: (us ++ [v])):=.cons rfl (r.append rz)
 have hl:(Value.ref (s2.heap.objs.size+1) :: us).length+1=ps.length:=by
  have e:=r2.length
  rw [F.len _ _ _ _ hq] at e
  simp at e ⊢
  omega
 refine wpAny_call (qmp9 (f:=f) I2.kIn M.makes M.init (beq_iff_eq.mp M.fn) (codeAny_mono (F.run _ X.stack _ _ ⟨Value.ref (s2.heap.objs.size+1) :: us,[(kn,v)]⟩ (Value.ref (s2.heap.objs.size+1) :: (us ++ [v])) _ _ E0 (hr.make C us [(kn,v)])
  (I3.env0.make C us [(kn,v)]) (hb _ (Value.ref (s2.heap.objs.size+1) :: us) v I3.kIn hl) r2 hq) fun r s' hq'=>?_))
 cases r with
 | error e=>exact (pass0 pins σ _ _ e s' I3 hq':X.xe e s')
 | ok fl =>
  cases fl with
  | ret u =>
   obtain ⟨v',H',I4,rv',ev',q4⟩:=I3.after hq'
   subst ev'
   exact ⟨rv',⟨V.ref (s2.heap.objs.size+1),H',I4,rfl,q4⟩⟩
  | next=>exact False.elim hq'
  | brk=>exact False.elim hq'
  | cont=>exact False.elim hq'
end
end L2
namespace My
open PySem L2
open Ma (T3 T4 rA rB rC)
theorem qlv9:FnScope ["thing"] ["thing"] (qaa9 qde9):=⟨rfl,rfl,rfl,by decide +kernel,rfl,by decide +kernel,by decide +kernel⟩
theorem qjp9:FnScope ["day","thing"] ["day","thing"] (qaa9 qco9):=⟨rfl,rfl,rfl,by decide +kernel,rfl,by decide +kernel,by decide +kernel⟩
theorem qmb9:FnScope ["day","thing"] ["day","thing"] (qaa9 qdd9):=⟨rfl,rfl,rfl,by decide +kernel,rfl,by decide +kernel,by decide +kernel⟩
theorem sc_next_open:FnScope ["day","window","t","hour","midnight"] ["day","window","t"] (qaa9 qcl9):=⟨rfl,rfl,rfl,by decide +kernel,rfl,by decide +kernel,by decide +kernel⟩
theorem qiu9:FnScope ["count","thing"] ["count","thing"] (qaa9 qcm9):=⟨rfl,rfl,rfl,by decide +kernel,rfl,by decide +kernel,by decide +kernel⟩
theorem qns9:FnScope ["day","size","thing"] ["day","size","thing"] (qaa9 qdt9):=⟨rfl,rfl,rfl,by decide +kernel,rfl,by decide +kernel,by decide +kernel⟩
theorem sc_is_net:FnScope ["day","size","roads"] ["day","size","roads"] (qaa9 qej9):=⟨rfl,rfl,rfl,by decide +kernel,rfl,by decide +kernel,by decide +kernel⟩
theorem qlu9:FnScope ["day","size","roads"] ["day","size","roads"] (qaa9 qdc9):=⟨rfl,rfl,rfl,by decide +kernel,rfl,by decide +kernel,by decide +kernel⟩
theorem qin9:FnScope ["size","thing"] ["size","thing"] (qaa9 qce9):=⟨rfl,rfl,rfl,by decide +kernel,rfl,by decide +kernel,by decide +kernel⟩
theorem sc_copied:FnScope ["roads"] ["roads"] (qaa9 qel9):=⟨rfl,rfl,rfl,by decide +kernel,rfl,by decide +kernel,by decide +kernel⟩
theorem sc_first_where:FnScope ["clock","holds","low","high","middle"] ["clock","holds"] (qaa9 qaz9):=⟨rfl,rfl,rfl,by decide +kernel,rfl,by decide +kernel,by decide +kernel⟩
theorem sc_set_off:FnScope ["day","clock","t","hour","number","found","x"] ["day","clock","t"] (qaa9 qbl9):=⟨rfl,rfl,rfl,by decide +kernel,rfl,by decide +kernel,by decide +kernel⟩
theorem sc_come:FnScope ["day","clock","t","departure"] ["day","clock","t"] (qaa9 qgy9):=⟨rfl,rfl,rfl,by decide +kernel,rfl,by decide +kernel,by decide +kernel⟩
theorem qmc9:FnScope ["day"] ["day"] (qaa9 qcz9):=⟨rfl,rfl,rfl,by decide +kernel,rfl,by decide +kernel,by decide +kernel⟩
theorem sc_stretches:FnScope ["day","clock","rows","p","a","b","c"] ["day","clock"] (qaa9 qcs9):=⟨rfl,rfl,rfl,by decide +kernel,rfl,by decide +kernel,by decide +kernel⟩
theorem qim9:FnScope ["row"] ["row"] (qaa9 qbz9):=⟨rfl,rfl,rfl,by decide +kernel,rfl,by decide +kernel,by decide +kernel⟩
theorem sc_overlay:FnScope ["day","one","other","ones","others","rows","k","j","p","q"] ["day","one","other"] (qaa9 qdq9):=⟨rfl,rfl,rfl,by decide +kernel,rfl,by decide +kernel,by decide +kernel⟩
theorem qis9:FnScope ["clock","a","b","c"] ["clock","a","b","c"] (qaa9 qca9):=⟨rfl,rfl,rfl,by decide +kernel,rfl,by decide +kernel,by decide +kernel⟩
theorem sc_clock_from:FnScope ["day","rows","clock","k","row","following","q","v"] ["day","rows"] (qaa9 qcf9):=⟨rfl,rfl,rfl,by decide +kernel,rfl,by decide +kernel,by decide +kernel⟩
theorem sc_picked:FnScope ["p","q","waiting","riding","late","cut","ahead","then"] ["p","q","waiting","riding","late"] (qaa9 qeh9):=⟨rfl,rfl,rfl,by decide +kernel,rfl,by decide +kernel,by decide +kernel⟩
theorem sc_joined:FnScope ["day","one","other","late","rows","p","q","still","v","other_still","other_v"] ["day","one","other","late"] (qaa9 qeq9):=⟨rfl,rfl,rfl,by decide +kernel,rfl,by decide +kernel,by decide +kernel⟩
theorem sc_sooner:FnScope ["day","one","other"] ["day","one","other"] (qaa9 qen9):=⟨rfl,rfl,rfl,by decide +kernel,rfl,by decide +kernel,by decide +kernel⟩
theorem sc_later:FnScope ["day","one","other"] ["day","one","other"] (qaa9 qfi9):=⟨rfl,rfl,rfl,by decide +kernel,rfl,by decide +kernel,by decide +kernel⟩
theorem sc_ridden:FnScope ["day","p","q","ride","others","hour","midnight","k","rows","end"] ["day","p","q","ride","others"] (qaa9 qbv9):=⟨rfl,rfl,rfl,by decide +kernel,rfl,by decide +kernel,by decide +kernel⟩
theorem sc_behind:FnScope ["day","one","other","others","rows","p","q","still","v"] ["day","one","other"] (qaa9 qeo9):=⟨rfl,rfl,rfl,by decide +kernel,rfl,by decide +kernel,by decide +kernel⟩
theorem sc_clock_within:FnScope ["day","board","half"] ["day","board"] (qaa9 qbk9):=⟨rfl,rfl,rfl,by decide +kernel,rfl,by decide +kernel,by decide +kernel⟩
theorem qln9:FnScope ["day","board"] ["day","board"] (qaa9 qdh9):=⟨rfl,rfl,rfl,by decide +kernel,rfl,by decide +kernel,by decide +kernel⟩
theorem qmh9:FnScope ["day","roads"] ["day","roads"] (qaa9 qdf9):=⟨rfl,rfl,rfl,by decide +kernel,rfl,by decide +kernel,by decide +kernel⟩
theorem qnc9:FnScope ["day","size","place"] ["day","size","place"] (qaa9 qdp9):=⟨rfl,rfl,rfl,by decide +kernel,rfl,by decide +kernel,by decide +kernel⟩
theorem qgo9:FnScope ["told"] ["told"] (qaa9 qbs9):=⟨rfl,rfl,rfl,by decide +kernel,rfl,by decide +kernel,by decide +kernel⟩
theorem sc_grown:FnScope ["day","size","place","step","found"] ["day","size","place","step"] (qaa9 qcv9):=⟨rfl,rfl,rfl,by decide +kernel,rfl,by decide +kernel,by decide +kernel⟩
theorem sc_ride_first:FnScope ["day","fords","told","found","start","end","ford"] ["day","fords","told"] (qaa9 qcb9):=⟨rfl,rfl,rfl,by decide +kernel,rfl,by decide +kernel,by decide +kernel⟩
theorem sc_rounds_to:FnScope ["day","size","roads","goal","fords"] ["day","size","roads","goal"] (qaa9 qbd9):=⟨rfl,rfl,rfl,by decide +kernel,rfl,by decide +kernel,by decide +kernel⟩
theorem qiy9:FnScope ["thing"] ["thing"] (qaa9 qcp9):=⟨rfl,rfl,rfl,by decide +kernel,rfl,by decide +kernel,by decide +kernel⟩
theorem sc_guarded:FnScope ["day","roads","guard","asks","start","end","board","a","b","c"] ["day","roads","guard"] (qaa9 qdr9):=⟨rfl,rfl,rfl,by decide +kernel,rfl,by decide +kernel,by decide +kernel⟩
theorem sc_ask_first:FnScope ["day","asks","told","found","start","end","window","barred","kept"] ["day","asks","told"] (qaa9 qcr9):=⟨rfl,rfl,rfl,by decide +kernel,rfl,by decide +kernel,by decide +kernel⟩
theorem sc_guarded_rounds:FnScope ["day","size","roads","goal","guard","asks"] ["day","size","roads","goal","guard"] (qaa9 qan9):=⟨rfl,rfl,rfl,by decide +kernel,rfl,by decide +kernel,by decide +kernel⟩
theorem sc_level_rounds:FnScope ["day","size","roads","goal","most","found"] ["day","size","roads","goal","most"] (qaa9 qbr9):=⟨rfl,rfl,rfl,by decide +kernel,rfl,by decide +kernel,by decide +kernel⟩
theorem sc_comes_by:FnScope ["day","clock","t","s","y"] ["day","clock","t","s"] (qaa9 qdb9):=⟨rfl,rfl,rfl,by decide +kernel,rfl,by decide +kernel,by decide +kernel⟩
theorem sc_least_round:FnScope ["day","tables","place","t","s","number","told"] ["day","tables","place","t","s"] (qaa9 qbu9):=⟨rfl,rfl,rfl,by decide +kernel,rfl,by decide +kernel,by decide +kernel⟩
theorem sc_ask_by:FnScope ["day","roads","told","guard","place","t","s","number","road","window_number","window","x","z"] ["day","roads","told","guard","place","t","s"] (qaa9 qer9):=⟨rfl,rfl,rfl,by decide +kernel,rfl,by decide +kernel,by decide +kernel⟩
theorem sc_walk:FnScope ["day","roads","tables","guard","place","t","s","left","row","ask"] ["day","roads","tables","guard","place","t"] (qaa9 qhd9):=⟨rfl,rfl,rfl,by decide +kernel,rfl,by decide +kernel,by decide +kernel⟩
theorem qgl9:FnScope ["script","k"] ["script","k"] (qaa9 qbp9):=⟨rfl,rfl,rfl,by decide +kernel,rfl,by decide +kernel,by decide +kernel⟩
theorem qlt9:FnScope ["cell"] ["cell"] (qaa9 qcy9):=⟨rfl,rfl,rfl,by decide +kernel,rfl,by decide +kernel,by decide +kernel⟩
theorem sc__law_way:FnScope ["day","cell","y","z","a","b","wide"] ["day","cell"] (qaa9 qda9):=⟨rfl,rfl,rfl,by decide +kernel,rfl,by decide +kernel,by decide +kernel⟩
theorem sc__law_net:FnScope ["script","start","cell","mixed","day","size","many","turn","roads","k","way","road","spot","at"] ["script","start"] (qaa9 qdg9):=⟨rfl,rfl,rfl,by decide +kernel,rfl,by decide +kernel,by decide +kernel⟩
theorem qjh9:FnScope ["roads"] ["roads"] (qaa9 qcn9):=⟨rfl,rfl,rfl,by decide +kernel,rfl,by decide +kernel,by decide +kernel⟩
theorem sc__law_spoil:FnScope ["day","handed","bit","start","other","board"] ["day","handed","bit"] (qaa9 qcd9):=⟨rfl,rfl,rfl,by decide +kernel,rfl,by decide +kernel,by decide +kernel⟩
theorem sc__law_refused:FnScope ["gate","t","refused"] ["gate","t"] (qaa9 qbq9):=⟨rfl,rfl,rfl,by decide +kernel,rfl,by decide +kernel,by decide +kernel⟩
theorem sc__law_all_told:FnScope ["gate","size","t","found","left","place","asks"] ["gate","size","t"] (qaa9 qbm9):=⟨rfl,rfl,rfl,by decide +kernel,rfl,by decide +kernel,by decide +kernel⟩
theorem sc_law:FnScope ["script","day","size","roads","goal","t","handed","plain","one","back","first","third","given"] ["script"] (qaa9 qgn9):=⟨rfl,rfl,rfl,by decide +kernel,rfl,by decide +kernel,by decide +kernel⟩
theorem qgh9:FnScope ["self","day","size","roads","goal","most"] ["self","day","size","roads","goal","most"] (qaa9 qar9):=⟨rfl,rfl,rfl,by decide +kernel,rfl,by decide +kernel,by decide +kernel⟩
theorem qjb9:FnScope ["self","place","t","left"] ["self","place","t","left"] (qaa9 qbo9):=⟨rfl,rfl,rfl,by decide +kernel,rfl,by decide +kernel,by decide +kernel⟩
theorem qdz9:FnScope ["self","left"] ["self","left"] (qaa9 qau9):=⟨rfl,rfl,rfl,by decide +kernel,rfl,by decide +kernel,by decide +kernel⟩
theorem qew9:FnScope ["self","place","t","left"] ["self","place","t","left"] (qaa9 qbb9):=⟨rfl,rfl,rfl,by decide +kernel,rfl,by decide +kernel,by decide +kernel⟩
theorem sc_Gate_plan:FnScope ["self","place","t","left","guard"] ["self","place","t","left"] (qaa9 qbn9):=⟨rfl,rfl,rfl,by decide +kernel,rfl,by decide +kernel,by decide +kernel⟩
theorem bl_1 {us:List Value} (h:us.length=1):∃ a0:Value,us=[a0]:=match us,h with | [_],_=>⟨_,rfl⟩
theorem bl_2 {us:List Value} (h:us.length=2):∃ a0 a1:Value,us=[a0,a1]:=match us,h with | [_,_],_=>⟨_,_,rfl⟩
theorem bl_3 {us:List Value} (h:us.length=3):∃ a0 a1 a2:Value,us=[a0,a1,a2]:=match us,h with | [_,_,_],_=>⟨_,_,_,rfl⟩
theorem bl_4 {us:List Value} (h:us.length=4):∃ a0 a1 a2 a3:Value,us=[a0,a1,a2,a3]:=match us,h with | [_,_,_,_],_=>⟨_,_,_,_,rfl⟩
theorem bl_5 {us:List Value} (h:us.length=5):∃ a0 a1 a2 a3 a4:Value,us=[a0,a1,a2,a3,a4]:=match us,h with | [_,_,_,_,_],_=>⟨_,_,_,_,_,rfl⟩
theorem bl_6 {us:List Value} (h:us.length=6):∃ a0 a1 a2 a3 a4 a5:Value,us=[a0,a1,a2,a3,a4,a5]:=match us,h with | [_,_,_,_,_,_],_=>⟨_,_,_,_,_,_,rfl⟩
theorem bl_7 {us:List Value} (h:us.length=7):∃ a0 a1 a2 a3 a4 a5 a6:Value,us=[a0,a1,a2,a3,a4,a5,a6]:=match us,h with | [_,_,_,_,_,_,_],_=>⟨_,_,_,_,_,_,_,rfl⟩
noncomputable def spLaw (K:W.Frag) (tabs:List (Addr × Addr)):Sp:=fun vs H Q _=>∃ (a:Addr) (ns:List Int),vs=[.ref a]/\SqL K H a (ns.map V.int)/\ns.length<=63/\(∀ t∈tabs,H t.2=some (.tbl #[]))/\∀ H',Q (.bl true) H'
theorem qfp9 (x:Int) {m:Int} (h:0 < m):0<=x % m/\x % m < m:=⟨Int.emod_nonneg x (by omega),Int.emod_lt_of_pos x h⟩
structure Bl (mg:Str->Option Value):Prop where
 len:mg "len" = none
 max:mg "max" = none
 min:mg "min" = none
 all:mg "all" = none
 range:mg "range" = none
 enumerate:mg "enumerate" = none
 isinstance:mg "isinstance" = none
 bool_:mg "bool" = none
 int_:mg "int" = none
 tuple_:mg "tuple" = none
 list_:mg "list" = none
section
variable {P:Program} {w:World} {K:W.Frag} {mg:Str->Option Value} {base:Heap} {f:Addr} {fd:FuncData} {n:Nat}
theorem qmf9 (F:Fun K "is_whole" "is_whole" qde9 f fd) (B:Bl mg):FnOk P w K mg base CX0 (n+1) f fd ["thing"] qfe9:=by
 refine F.okQ qlv9 (fun vs H Q E h=>?_) (fun cdv A outer s H vs Q E hr h=>?_)
 ·obtain ⟨_,rfl,_⟩:=h
  rfl
 obtain ⟨x,rfl,dv,q⟩:=h
 refine ⟨_,(qae9 (qas9 (qlq9 (qe_cb qep9 rfl B.isinstance qcc9 (qa_c (qv 0) (qa_c (qgx9 (v:=.ty "int") rfl B.int_ bt_int rfl) qac9))) (qlo9 (qe_not (qe_cb qep9 rfl B.isinstance qcc9 (qa_c (qv 0) (qa_c (qgx9 (v:=.ty "bool") rfl B.bool_ bt_bool rfl) qac9)))))))),?_⟩
 try dsimp only [cx_k,cx_kn,as_nil,as_name,Nat.reduceAdd]
 cases dv with
 | non=>exact ⟨_,rfl,_,"int",_,_,rfl,.non,rfl,_,rfl,iteF q⟩
 | bl b=>exact ⟨_,rfl,_,"int",_,_,rfl,.bl _,rfl,_,rfl,iteT ⟨_,rfl,_,"bool",_,_,rfl,.bl _,rfl,_,rfl,q⟩⟩
 | int i=>exact ⟨_,rfl,_,"int",_,_,rfl,.int _,rfl,_,rfl,iteT ⟨_,rfl,_,"bool",_,_,rfl,.int _,rfl,_,rfl,q⟩⟩
 | str z=>exact ⟨_,rfl,_,"int",_,_,rfl,.str _,rfl,_,rfl,iteF q⟩
 | lst e=>exact ⟨_,rfl,_,"int",_,_,rfl,.lst e,rfl,_,rfl,iteF q⟩
 | tup e=>exact ⟨_,rfl,_,"int",_,_,rfl,.tup e,rfl,_,rfl,iteF q⟩
theorem qjn9 (F:Fun K "is_window" "is_window" qco9 f fd) (B:Bl mg) (Cf0:Callee P w K mg base n "is_whole" ["thing"] qfe9):FnOk P w K mg base CX0 (n+1) f fd ["day","thing"] qod9:=by
 refine F.okQ qjp9 (fun vs H Q E h=>?_) (fun cdv A outer s H vs Q E hr h=>?_)
 ·obtain ⟨_,_,rfl,_⟩:=h
  rfl
 obtain ⟨day,x,rfl,dv,q⟩:=h
 refine ⟨_,(qab9 (qs_if (QW.pt (qw_or (qfd9 (qcq9 (qe_cb qep9 rfl B.isinstance qcc9 (qa_c (qv 1) (qa_c (qgx9 (v:=.ty "tuple") rfl B.tuple_ qny9 rfl) qac9))))) (qfr9 (qap9 qop_ne (qe_cb qat9 rfl B.len qcj9 (qa_c (qv 1) qac9)) qad9 (qay9 _))))) (qae9 (qas9 qe_bl)) qba9) (qab9 (qs_if (qfd9 (qcq9 (qe_cb (qfy9 rfl) rfl B.all bt_all (qa_c (qet9 ["part"] [none] (BlkOk.of rfl rfl (SubL.to subN) rfl) rfl (qi_tup (qv 1)) (fun _ _ _ _=>(qam9 (i:=0) (show (["part"]:List Str).Nodup by decide) rfl (Or.inl rfl))) (fun _ _ _ _=>(qe_fn Cf0 hr rfl (qa_c (qv 0) qac9)))) qac9)))) (qae9 (qas9 qe_bl)) qba9) (qae9 (qas9 (qlq9 (qe_chain3 qjm9 qjm9 qdv9 qad9 (qe_ix qav9 (qv 1) qad9 (fun _ _=>rfl)) (qe_ix qav9 (qv 1) qad9 (fun _ _=>rfl)) (qv 0)) (qlo9 (qkj9 qop_ge (qe_ix qav9 (qv 1) qad9 (fun _ _=>rfl)) qad9 (qay9 _)))))))),?_⟩
 try dsimp only [cx_k,cx_kn,as_nil,as_name,Nat.reduceAdd]
 obtain ⟨t,hty,hk⟩:=dv.1.isTup (K:=K)
 have q0:winV H day x=false->∀ H',Same H H'->Q (.bl false) H':=fun e H' s=>by
  have:=q H' s
  rw [e] at this
  exact this
 cases ht:tupV H x with
 | none =>
  rw [ht] at hk
  have hw:winV H day x=false:=by unfold winV; rw [ht]
  exact ⟨_,rfl,_,"tuple",t,_,rfl,hty,hk,_,rfl,iteT (iteT (q0 hw _ (Same.refl H)))⟩
 | some xs =>
  rw [ht] at hk
  have hwl:winV H day x=winL day xs:=by unfold winV; rw [ht]
  have dz:=dv.2 xs ht
  obtain ⟨r,rfl,er⟩:=qiq9 ht
  refine ⟨_,rfl,_,"tuple",t,_,rfl,hty,hk,_,rfl,iteF ?_⟩
  refine ⟨_,rfl,r,xs,rfl,.inr (SqT.of er),rfl,_,rfl,?_⟩
  by_cases hl:xs.length=3
  ·obtain ⟨u,v,w',rfl⟩:=three hl
   refine iteN (by simp) ?_
   refine ⟨_,rfl,r,rfl,⟨_,SqT.of er⟩,?_⟩
   refine comp_tup0 (K:=K) (a:=r) (xs:=[u,v,w']) (fun D i H'=>Same H H'/\H' D=some (.lst ((([u,v,w']:List V).take i).map fun y=>V.bl (isWh y)))) (fun D hD=>⟨qal9 hD _,qaf9⟩) (fun D i H' _ _ h=>SqT.of (h.1 _ _ er)) ?_ ?_
   ·intro D i y H' hD hi z9;obtain ⟨s2,hD2⟩ := z9
    refine ⟨fun k v' e=>?_,_,rfl,y,rfl,(dz y (List.mem_of_getElem? hi)).same s2,_,hD2,(by rw [List.length_map,List.length_take]; exact qfv9 (by simp; omega)),fun b o eb=>?_,?_⟩
    ·match k,e with
     | 0,e=>cases e
     | k+1,e=>cases e
    ·rw [qao9 (qax9 eb hD)]
     exact s2 _ _ eb
    ·rw [qaf9,qdl9 _ hi]
   ·intro D H' hD z9;obtain ⟨s2,hD2⟩ := z9
    have eD:H' D=some (.lst (([isWh u,isWh v,isWh w']:List Bool).map V.bl)):=hD2
    refine ⟨D,_,rfl,SqL.of eD,_,rfl,?_⟩
    refine ite2 (fun c=>?_) (fun c=>?_)
    ·refine q0 ?_ H' s2
     rw [hwl]
     have c':(isWh u && (isWh v && isWh w'))=false:=by cases hu:isWh u <;> cases hv:isWh v <;> cases hw:isWh w' <;> simp [hu,hv,hw] at c ⊢
     unfold winL
     split
     ·rename_i a b c e
      cases e
      exact absurd c' (by simp [isWh])
     ·rfl
    ·have c':isWh u=true/\isWh v=true/\isWh w'=true:=by simpa using c
     obtain ⟨a,rfl⟩:=qga9 c'.1
     obtain ⟨b,rfl⟩:=qga9 c'.2.1
     obtain ⟨c3,rfl⟩:=qga9 c'.2.2
     have q1:=q H' s2
     rw [hwl] at q1
     have er':=s2 _ _ er
     unfold winL at q1
     dsimp only at q1
     refine ⟨_,rfl,r,_,_,_,rfl,rfl,SqT.of er',rfl,_,_,rfl,rfl,_,rfl,?_⟩
     refine ite2 (fun c1=>?_) (fun c1=>?_)
     ·rw [c1,Bool.true_and] at q1
      refine ⟨_,rfl,r,_,_,_,rfl,rfl,SqT.of er',rfl,_,_,rfl,rfl,_,rfl,?_⟩
      refine ite2 (fun c2=>?_) (fun c2=>?_)
      ·rw [c2,Bool.true_and] at q1
       refine ⟨_,rfl,_,_,rfl,rfl,_,rfl,?_⟩
       refine ite2 (fun c3=>?_) (fun c3=>?_)
       ·rw [c3,Bool.true_and] at q1
        exact ⟨_,rfl,r,_,_,_,rfl,rfl,SqT.of er',rfl,_,_,rfl,rfl,q1⟩
       ·rw [Bool.eq_false_iff.mpr c3,Bool.false_and] at q1
        exact q1
      ·rw [Bool.eq_false_iff.mpr c2,Bool.false_and] at q1
       exact ⟨_,rfl,iteF q1⟩
     ·rw [Bool.eq_false_iff.mpr c1,Bool.false_and] at q1
      exact ⟨_,rfl,iteF q1⟩
  ·refine iteP (by simp; omega) (q0 ?_ _ (Same.refl H))
   rw [hwl]
   unfold winL
   split
   ·rename_i e
    exact absurd rfl hl
   ·rfl
theorem qlr9 (F:Fun K "is_board" "is_board" qdd9 f fd) (B:Bl mg) (Ca1:Callee P w K mg base n "is_window" ["day","thing"] qod9):FnOk P w K mg base CX0 (n+1) f fd ["day","thing"] qot9:=by
 refine F.okQ qmb9 (fun vs H Q E h=>?_) (fun cdv A outer s H vs Q E hr h=>?_)
 ·obtain ⟨_,_,rfl,_⟩:=h
  rfl
 obtain ⟨day,x,rfl,dv,q⟩:=h
 refine ⟨_,(qae9 (qas9 (qlq9 (qe_cb qep9 rfl B.isinstance qcc9 (qa_c (qv 1) (qa_c (qgx9 (v:=.ty "list") rfl B.list_ qfm9 rfl) qac9))) (qlo9 (qe_cb (qfy9 rfl) rfl B.all bt_all (qa_c (qet9 ["part","day"] [none,some 0] (BlkOk.of rfl rfl (SubL.to (subC rfl subN)) rfl) rfl (qck9 (qv 1)) (fun _ _ _ _=>(qam9 (i:=0) (show (["part","day"]:List Str).Nodup by decide) rfl (Or.inl rfl))) (fun _ _ _ _=>(qe_fn Ca1 hr rfl (qa_c (qv 1) (qa_c (qv 0) qac9))))) qac9)))))),?_⟩
 try dsimp only [cx_k,cx_kn,as_nil,as_name,Nat.reduceAdd]
 obtain ⟨t,hty,hk⟩:=dv.1.isLst (K:=K)
 unfold qfo9 at q
 cases ht:lstV H x with
 | none =>
  rw [ht] at hk q
  exact ⟨_,rfl,_,"list",t,_,rfl,hty,hk,_,rfl,iteF (q _ (Same.refl H))⟩
 | some xs =>
  rw [ht] at hk q
  obtain ⟨hlen,dz⟩:=dv.2 xs ht
  obtain ⟨p,rfl,ep⟩:=qia9 ht
  refine ⟨_,rfl,_,"list",t,_,rfl,hty,hk,_,rfl,iteT ?_⟩
  refine ⟨_,rfl,p,rfl,⟨_,SqL.of ep⟩,?_⟩
  refine qcu9 (K:=K) (a:=p) (xs:=xs) (fun D i H'=>Same H H'/\H' D=some (.lst ((xs.take i).map fun y=>V.bl (winV H day y)))) (fun D hD=>⟨qal9 hD _,qaf9⟩) (fun D i H' _ _ h=>SqL.of (h.1 _ _ ep)) ?_ ?_
  ·intro D i y H' hD hi z9;obtain ⟨s2,hD2⟩ := z9
   have d2:=dz y (List.mem_of_getElem? hi)
   refine ⟨fun k v' e=>?_,_,rfl,_,rfl,day,y,rfl,d2.same s2,fun H3 s3=>⟨_,s3 _ _ hD2,(by rw [List.length_map,List.length_take]; exact qfv9 (by omega)),fun b o eb=>?_,?_⟩⟩
   ·match k,e with
    | 0,e=>cases e
    | 1,e=>exact e
    | k+2,e=>cases e
   ·rw [qao9 (qax9 eb hD)]
    exact s3 _ _ (s2 _ _ eb)
   ·rw [qaf9,qdl9 _ hi,d2.1.winV_same s2]
  ·intro D H' hD z9;obtain ⟨s2,hD2⟩ := z9
   have eD:H' D=some (.lst ((xs.map (winV H day)).map V.bl)):=by
    rw [hD2,List.take_length,List.map_map]
    rfl
   refine ⟨D,_,rfl,SqL.of eD,?_⟩
   have e1:(xs.map (winV H day)).all id=xs.all (winV H day):=by rw [List.all_map]; rfl
   rw [e1]
   exact q H' s2
end
noncomputable def qfh9:Sp:=fun vs H Q _=>∃ (day:Int) (p:Addr) (R:List T3),vs=[.int day,.ref p]/\LA enc3 H p R/\R.length<=4000000/\∀ (l:Addr) (H':Hp),Same H H'->H l=none->LA enc4 H' l (Ma.strOf day R)->Q (.ref l) H'
section
variable {P:Program} {w:World} {K:W.Frag} {mg:Str->Option Value} {base:Heap} {f:Addr} {fd:FuncData} {n:Nat}
theorem qka9 (F:Fun K "stretches" "stretches" qcs9 f fd) (B:Bl mg):FnOk P w K mg base CX0 (n+1) f fd ["day","clock"] qfh9:=by
 refine F.okQ sc_stretches (fun vs H Q E h=>?_) (fun cdv A outer s H vs Q E hr h=>?_)
 ·obtain ⟨_,_,_,rfl,_⟩:=h
  rfl
 obtain ⟨day,p,R,rfl,hR,hlen,q⟩:=h
 refine ⟨_,(qab9 (qak9 (i:=2) sc_stretches.nd rfl (Or.inl rfl) (qch9 qac9)) (qab9 (qak9 (i:=3) sc_stretches.nd rfl (Or.inl rfl) qad9) (qab9 (qea9 PassesOwn.never rfl (qck9 (qv 1)) (qfb9 rfl (qaj9 (qam9 (i:=4) sc_stretches.nd rfl (Or.inl rfl)) (qaj9 (qam9 (i:=5) sc_stretches.nd rfl (Or.inl rfl)) (qaj9 (qam9 (i:=6) sc_stretches.nd rfl (Or.inl rfl)) qct9)))) (qev9 (qs_if (qap9 qdv9 (qv 3) (qv 4) (qay9 _)) (qae9 (qbc9 (qbg9 (qv 2) (qa_c (qci9 (qa_c (qv 3) (qa_c (qe_op qdi9 (qv 4) qad9) (qa_c qe_bl (qa_c (qe_op qaw9 (qv 4) (qv 6)) qac9))))) qac9)))) qba9) (qab9 (qbc9 (qbg9 (qv 2) (qa_c (qci9 (qa_c (qv 4) (qa_c (qv 5) (qa_c qe_bl (qa_c (qv 6) qac9))))) qac9))) (qae9 (qak9 (i:=3) sc_stretches.nd rfl (Or.inl rfl) (qe_op qaw9 (qv 5) qad9)))))) (qev9 (qs_if (qhv9 (QW.pt (qjk9 (qap9 qfs9 (qe_cb qat9 rfl B.len qcj9 (qa_c (qv 2) qac9)) qad9 (qay9 _)) (qgs9 (qap9 qdv9 (qv 3) (qv 0) (qay9 _)))))) (qae9 (qbc9 (qbg9 (qv 2) (qa_c (qci9 (qa_c (qv 3) (qa_c (qe_op qdi9 (qv 0) qad9) (qa_c qe_bl (qa_c (qe_op qaw9 (qe_op qaw9 (qv 0) (qe_ix qav9 (qe_ix qai9 (qv 1) qad9 (fun _ _=>rfl)) qad9 (fun _ _=>rfl))) (qe_ix qav9 (qe_ix qai9 (qv 1) qad9 (fun _ _=>rfl)) qad9 (fun _ _=>rfl))) qac9))))) qac9)))) qba9) (qae9 (qas9 (qv 2))))))),?_⟩
 try dsimp only [cx_k,cx_kn,as_nil,as_name,Nat.reduceAdd]
 refine ⟨(by show 0<=sizeLine; decide),fun pr hpr=>?_⟩
 have s0:Same H (upd H pr (.lst [])):=qal9 hpr _
 obtain ⟨ws,hw1,hw2,hw3⟩:=hR.lst
 refine ⟨_,rfl,p,rfl,⟨_,SqL.of (s0 _ _ hw1)⟩,qdm9 (K:=K) (a:=p) (xs:=ws)
  (fun i σ H'=>∃ (v1 v2 v3:Option V),σ=[some (.int day),some (.ref p),some (.ref pr),some (.int (Ma.stPre (R.take i)).2),v1,v2,v3]/\Same H H'/\LA enc4 H' pr (Ma.stPre (R.take i)).1)
  ⟨_,_,_,rfl,s0,LA.nil qaf9⟩ (fun i σ H' _ ⟨_,_,_,_,s1,_⟩=>SqL.of (s1 _ _ hw1)) ?_ ?_⟩
 ·intro i y σ H1 hi z9;obtain ⟨v1,v2,v3,rfl,s1,hL⟩ := z9
  obtain ⟨r,x,rfl,ex,er⟩:=hw3 i y hi
  obtain ⟨a,b,c⟩:=x
  have er1:=s1 _ _ er
  have hi2:i < R.length:=(List.getElem?_eq_some_iff.mp ex).1
  have et:R.take (i+1)=R.take i ++ [(a,b,c)]:=by rw [List.take_add_one,ex]; rfl
  have ln:(Ma.stPre (R.take i)).1.length<=2 * i:=by
   have:=(Ma.stPre_len (R.take i)).1
   rw [List.length_take] at this
   omega
  rw [et,Ma.stPre_snoc]
  unfold Ma.stStep
  generalize (Ma.stPre (R.take i)).1=S at *
  generalize (Ma.stPre (R.take i)).2=pp at *
  refine ⟨r,_,rfl,SqT.of er1,rfl,_,_,rfl,_,_,rfl,_,_,rfl,rfl,?_⟩
  refine ⟨fun σ' H2=>σ'=[some (.int day),some (.ref p),some (.ref pr),some (.int pp),some (.int a),some (.int b),some (.int c)]/\Same H H2/\LA enc4 H2 pr (if pp < a then S ++ [(pp,a - 1,true,a+c)] else S),?_,?_⟩
  ·refine ⟨_,rfl,_,rfl,_,_,rfl,rfl,_,rfl,?_⟩
   refine ite2 (fun z=>?_) (fun z=>?_)
   ·rw [if_pos (of_decide_eq_true z)]
    obtain ⟨us,hu1,hu2,hu3⟩:=hL.lst
    refine ⟨_,rfl,.inl ⟨rfl,_,SqL.of hu1⟩,_,rfl,_,rfl,_,_,rfl,rfl,_,rfl,_,rfl,_,_,rfl,rfl,(by show 4<=sizeLine; decide),fun r2 hr2=>?_⟩
    have s2:=qal9 hr2 (.tup [.int pp,.int (a - 1),.bl true,.int (a+c)])
    refine ⟨pr,us,.ref r2,rfl,rfl,s2 _ _ hu1,qbj9 (by omega),rfl,qcx9 hpr (s1.trans s2),?_⟩
    exact (hL.same s2).append (x:=(pp,a - 1,true,a+c)) (s2 _ _ hu1) qaf9
   ·rw [if_neg (fun y=>z (decide_eq_true y))]
    exact ⟨rfl,s1,hL⟩
  intro σ' H2 z9;obtain ⟨rfl,s2,hL2⟩ := z9
  have ln2:(if pp < a then S ++ [(pp,a - 1,true,a+c)] else S).length<=2 * i+1:=by
   split
   ·simp; omega
   ·omega
  generalize (if pp < a then S ++ [(pp,a - 1,true,a+c)] else S)=S2 at *
  obtain ⟨us,hu1,hu2,hu3⟩:=hL2.lst
  refine ⟨_,rfl,.inl ⟨rfl,_,SqL.of hu1⟩,_,rfl,_,rfl,_,rfl,(by show 4<=sizeLine; decide),fun r2 hr2=>?_⟩
  have s3:=qal9 hr2 (.tup [.int a,.int b,.bl false,.int c])
  refine ⟨pr,us,.ref r2,rfl,rfl,s3 _ _ hu1,qbj9 (by omega),?_⟩
  refine ⟨_,rfl,_,_,rfl,rfl,_,_,_,rfl,qcx9 hpr (s2.trans s3),?_⟩
  exact (hL2.same s3).append (x:=(a,b,false,c)) (s3 _ _ hu1) qaf9
 ·intro σ H1 z9;obtain ⟨v1,v2,v3,rfl,s1,hL⟩ := z9
  rw [hw2,List.take_length] at hL ⊢
  have ln:=Ma.stPre_len R
  obtain ⟨us,hu1,hu2,hu3⟩:=hL.lst
  refine ⟨fun σ' H2=>∃ u1 u2 u3 u4,σ'=[some (.int day),some (.ref p),some (.ref pr),u1,u2,u3,u4]/\Same H H2/\LA enc4 H2 pr (Ma.strOf day R),?_,?_⟩
  ·unfold Ma.strOf
   refine ⟨fun c H2=>H2=H1/\c=decide (0 < (Ma.stPre R).1.length/\(Ma.stPre R).2 < day),?_,?_⟩
   ·refine ⟨_,rfl,pr,_,rfl,.inl (SqL.of hu1),_,_,rfl,rfl,_,rfl,?_⟩
    refine ite2 (fun z=>?_) (fun z=>?_)
    ·have z':(0:Int) < ((us.length:Nat):Int):=of_decide_eq_true z
     refine ⟨_,rfl,_,rfl,_,_,rfl,rfl,_,rfl,rfl,?_⟩
     have z2:0 < (Ma.stPre R).1.length:=by omega
     by_cases c:(Ma.stPre R).2 < day <;> simp [c,z2]
    ·refine ⟨rfl,?_⟩
     have z':¬ (0:Int) < ((us.length:Nat):Int):=fun y=>z (decide_eq_true y)
     exact (decide_eq_false (by omega)).symm
   intro c H2 z9;obtain ⟨rfl,rfl⟩ := z9
   refine ite2 (fun z=>?_) (fun z=>?_)
   ·have z':=of_decide_eq_true z
    rw [if_pos z']
    have n0:0 < R.length:=by
     rcases Nat.eq_zero_or_pos R.length with e | e
     ·have:=ln.1
      omega
     ·exact e
    obtain ⟨ws',k1,k2,k3⟩:=(hR.same s1).at (K:=K)
    obtain ⟨r0,ka,kb⟩:=k3 0 _ (Ma.r_at n0)
    refine ⟨_,rfl,.inl ⟨rfl,_,SqL.of hu1⟩,_,rfl,_,rfl,_,_,rfl,rfl,_,rfl,_,rfl,p,_,_,_,rfl,rfl,SqL.of k1,ka,r0,_,_,_,rfl,rfl,SqT.of kb,rfl,_,_,rfl,rfl,_,rfl,p,_,_,_,rfl,rfl,SqL.of k1,ka,r0,_,_,_,rfl,rfl,SqT.of kb,rfl,_,_,rfl,rfl,
     (by show 4<=sizeLine; decide),fun r2 hr2=>?_⟩
    have s3:=qal9 hr2 (.tup [.int (Ma.stPre R).2,.int (day - 1),.bl true,.int (day+Ma.rA R 0+Ma.rC R 0)])
    refine ⟨pr,us,.ref r2,rfl,rfl,s3 _ _ hu1,qbj9 (by omega),_,_,_,_,rfl,qcx9 hpr (s1.trans s3),?_⟩
    exact (hL.same s3).append (x:=((Ma.stPre R).2,day - 1,true,day+Ma.rA R 0+Ma.rC R 0)) (s3 _ _ hu1) qaf9
   ·rw [if_neg (fun y=>z (decide_eq_true y))]
    exact ⟨_,_,_,_,rfl,s1,hL⟩
  intro σ' H2 z9;obtain ⟨u1,u2,u3,u4,rfl,s2,hL2⟩ := z9
  exact ⟨_,rfl,q pr H2 s2 hpr hL2⟩
end
open Ma (T6)
noncomputable def enc6 (r:T6):List V:=[.int r.1,.int r.2.1,.bl r.2.2.1,.int r.2.2.2.1,.bl r.2.2.2.2.1,.int r.2.2.2.2.2]
noncomputable def qhc9:Sp:=fun vs H Q _=>∃ (r:Addr) (x:T4),vs=[.ref r]/\H r=some (.tup (enc4 x))/\Q (.int (Ma.ftold x)) H
noncomputable def spPut:Sp:=fun vs H Q _=>∃ (p:Addr) (a b c:Int) (R:List T3),vs=[.ref p,.int a,.int b,.int c]/\LA enc3 H p R/\R.length<=16000000/\∀ H',SameT p H H'->LA enc3 H' p (Ma.putW R a b c)->Q .non H'
noncomputable def qfj9:Sp:=fun vs H Q _=>∃ (day:Int) (p:Addr) (S:List T4) (g:Int->Int),vs=[.int day,.ref p]/\LA enc4 H p S/\S.length<=16000000/\0 < day/\Ma.Rise day g/\Ma.Cov g 0 S day /\
 ∀ (l:Addr) (R:List T3) (H':Hp),Same H H'->H l=none->LA enc3 H' l R->R.length<=S.length->Ma.Can 0 day g R->Q (.ref l) H'
noncomputable def qkr9:Sp:=fun vs H Q _=>∃ (day:Int) (p1 p2:Addr) (R1 R2:List T3) (f1 f2:Int->Int),vs=[.int day,.ref p1,.ref p2]/\LA enc3 H p1 R1/\LA enc3 H p2 R2/\R1.length<=1900000/\R2.length<=1900000/\Ma.CK day R1/\Ma.CK day R2/\Ma.Tells day R1 f1/\Ma.Tells day R2 f2 /\
 ∀ (l:Addr) (O:List T6) (H':Hp),Same H H'->H l=none->LA enc6 H' l O->O.length<=2 * R1.length+2 * R2.length+2->Ma.Cov2 f1 f2 0 O day->Q (.ref l) H'
noncomputable def qnp9:Sp:=fun vs H Q _=>∃ (p q wt rd:Int) (late:Bool),vs=[.int p,.int q,.int wt,.int rd,.bl late]/\∀ (l:Addr) (H':Hp),Same H H'->H l=none->LA enc4 H' l (Ma.pickL p q wt rd late)->Q (.ref l) H'
noncomputable def qji9:Sp:=fun vs H Q _=>∃ (day:Int) (p1 p2:Addr) (late:Bool) (R1 R2:List T3) (f1 f2:Int->Int),vs=[.int day,.ref p1,.ref p2,.bl late]/\LA enc3 H p1 R1/\LA enc3 H p2 R2/\R1.length<=1900000/\R2.length<=1900000/\Ma.CK day R1/\Ma.CK day R2/\Ma.Tells day R1 f1/\Ma.Tells day R2 f2 /\
 ∀ (l:Addr) (R:List T3) (H':Hp),Same H H'->H l=none->LA enc3 H' l R->R.length<=4 * R1.length+4 * R2.length+4->Ma.Can 0 day (fun x=>Ma.jn late (f1 x) (f2 x)) R->Q (.ref l) H'
noncomputable def spTwo (op:Option Int->Option Int->Option Int):Sp:=fun vs H Q _=>∃ (day:Int) (p1 p2:Addr) (R1 R2:List T3),vs=[.int day,.ref p1,.ref p2]/\LA enc3 H p1 R1/\LA enc3 H p2 R2/\R1.length<=1900000/\R2.length<=1900000/\Ma.CK day R1/\Ma.CK day R2 /\
 ∀ (l:Addr) (R:List T3) (H':Hp),Same H H'->H l=none->LA enc3 H' l R->R.length<=4 * R1.length+4 * R2.length+4->Ma.CK day R->(∀ t,Ma.bt day R t=op (Ma.bt day R1 t) (Ma.bt day R2 t))->Q (.ref l) H'
section
variable {P:Program} {w:World} {K:W.Frag} {mg:Str->Option Value} {base:Heap} {f:Addr} {fd:FuncData} {n:Nat}
theorem qid9 (F:Fun K "first_told" "first_told" qbz9 f fd):FnOk P w K mg base CX0 (n+1) f fd ["row"] qhc9:=by
 refine F.okQ qim9 (fun vs H Q E h=>?_) (fun cdv A outer s H vs Q E hr h=>?_)
 ·obtain ⟨_,_,rfl,_⟩:=h
  rfl
 obtain ⟨r,x,rfl,hx,q⟩:=h
 refine ⟨_,(qae9 (qas9 (qdo9 (qcq9 (qe_ix qav9 (qv 0) qad9 (fun _ _=>rfl))) (qe_ix qav9 (qv 0) qad9 (fun _ _=>rfl)) (qe_op qaw9 (qe_ix qav9 (qv 0) qad9 (fun _ _=>rfl)) (qe_ix qav9 (qv 0) qad9 (fun _ _=>rfl)))))),?_⟩
 try dsimp only [cx_k,cx_kn,as_nil,as_name,Nat.reduceAdd]
 refine ⟨_,rfl,r,_,_,_,rfl,rfl,SqT.of hx,rfl,_,rfl,?_⟩
 unfold Ma.ftold at q
 refine ite2 (fun c=>?_) (fun c=>?_)
 ·rw [if_pos c] at q
  exact ⟨_,rfl,r,_,_,_,rfl,rfl,SqT.of hx,rfl,q⟩
 ·rw [if_neg c] at q
  exact ⟨_,rfl,r,_,_,_,rfl,rfl,SqT.of hx,rfl,_,rfl,r,_,_,_,rfl,rfl,SqT.of hx,rfl,_,_,rfl,rfl,q⟩
theorem ok_put (F:Fun K "put_window" "put_window" qca9 f fd) (B:Bl mg):FnOk P w K mg base CX0 (n+1) f fd ["clock","a","b","c"] spPut:=by
 refine F.okQ qis9 (fun vs H Q E h=>?_) (fun cdv A outer s H vs Q E hr h=>?_)
 ·obtain ⟨_,_,_,_,_,rfl,_⟩:=h
  rfl
 obtain ⟨p,a,b,c,R,rfl,hR,hlen,q⟩:=h
 refine ⟨_,(qab9 (qs_if (qap9 qfs9 (qv 1) (qv 2) (qay9 _)) (qae9 qs_retN) qba9) (qae9 (qs_if (qhv9 (QW.pt (qjk9 (qap9 qfs9 (qe_cb qat9 rfl B.len qcj9 (qa_c (qv 0) qac9)) qad9 (qay9 _)) (qjk9 (qap9 qdn9 (qe_op qaw9 (qe_ix qav9 (qe_ix qai9 (qv 0) (qec9 qad9) (fun _ _=>rfl)) qad9 (fun _ _=>rfl)) qad9) (qv 1) (qay9 _)) (qgs9 (qap9 qdn9 (qe_ix qav9 (qe_ix qai9 (qv 0) (qec9 qad9) (fun _ _=>rfl)) qad9 (fun _ _=>rfl)) (qv 3) (qay9 _))))))) (qae9 (qs_asg (qci9 (qa_c (qe_ix qav9 (qe_ix qai9 (qv 0) (qec9 qad9) (fun _ _=>rfl)) qad9 (fun _ _=>rfl)) (qa_c (qv 2) (qa_c (qv 3) qac9)))) (qg_sub (qv 0) (qec9 qad9) qjw9))) (qae9 (qbc9 (qbg9 (qv 0) (qa_c (qci9 (qa_c (qv 1) (qa_c (qv 2) (qa_c (qv 3) qac9)))) qac9))))))),?_⟩
 try dsimp only [cx_k,cx_kn,as_nil,as_name,Nat.reduceAdd]
 obtain ⟨vs,hv1,hv2,hv3⟩:=hR.lst
 have neg1:∀ (i:Int) ,(-1:Int)=-i->i=1:=fun i e=>by omega
 refine ⟨_,rfl,_,rfl,_,_,rfl,rfl,_,rfl,?_⟩
 unfold Ma.putW at q
 refine ite2 (fun z=>?_) (fun z=>?_)
 ·rw [if_pos (of_decide_eq_true z)] at q
  exact q H (fun b o e _=>e) hR
 rw [if_neg (fun y=>z (decide_eq_true y))] at q
 have app:∀ H1:Hp,H1=H->(∀ H',SameT p H H'->LA enc3 H' p (R ++ [(a,b,c)])->Q .non H')->∀ r2,H1 r2=none->Q .non (upd (upd H1 r2 (.tup [.int a,.int b,.int c])) p (.lst (vs ++ [.ref r2]))):=by
  rintro H1 rfl q' r2 hr2
  have s2:=qal9 hr2 (.tup [.int a,.int b,.int c])
  refine q' _ (fun x o e nx=>?_) ((hR.same s2).append (x:=(a,b,c)) (s2 _ _ hv1) qaf9)
  rw [qao9 nx]
  exact s2 _ _ e
 cases hl:R.getLast? with
 | none =>
  rw [hl] at q
  have e0:=List.getLast?_eq_none_iff.mp hl
  subst e0
  have v0:vs=[]:=List.length_eq_zero_iff.mp hv2
  subst v0
  refine ⟨fun k H'=>k=false/\H'=H,?_,?_⟩
  ·exact ⟨_,rfl,p,_,rfl,.inl (SqL.of hv1),_,_,rfl,rfl,_,rfl,iteN (by simp) ⟨rfl,rfl⟩⟩
  intro k H1 z9;obtain ⟨rfl,rfl⟩ := z9
  refine iteF ⟨_,rfl,.inl ⟨rfl,_,SqL.of hv1⟩,_,rfl,_,rfl,_,rfl,(by show 3<=sizeLine; decide),fun r2 hr2=>?_⟩
  refine ⟨p,_,.ref r2,rfl,rfl,(qal9 hr2 _) _ _ hv1,qbj9 (by simp),app H1 rfl q r2 hr2⟩
 | some l =>
  rw [hl] at q
  obtain ⟨R0,rfl⟩:=List.getLast?_eq_some_iff.mp hl
  have vl:vs.length=R0.length+1:=by rw [hv2]; simp
  have vne:vs ≠ []:=fun e=>by rw [e] at vl; simp at vl
  obtain ⟨r,x,e1,e2,e3⟩:=hv3 R0.length _ (List.getElem?_eq_getElem (by omega))
  have e2':l=x:=by simpa using e2
  subst e2'
  have at1:atI vs (-1)=some (.ref r):=by
   rw [qnv9 vne,show vs.length - 1=R0.length by omega,List.getElem?_eq_getElem (by omega),e1]
  obtain ⟨la,lb,lc⟩:=l
  refine ⟨fun k H'=>k=decide (lb+1=a/\lc=c)/\H'=H,?_,?_⟩
  ·refine ⟨_,rfl,p,_,rfl,.inl (SqL.of hv1),_,_,rfl,rfl,_,rfl,iteP (decide_eq_true (by show (0:Int) < ((vs.length:Nat):Int); omega)) ?_⟩
   refine ⟨_,rfl,_,rfl,p,_,_,_,rfl,rfl,SqL.of hv1,at1,r,_,_,_,rfl,rfl,SqT.of e3,rfl,_,_,rfl,rfl,_,rfl,rfl,_,rfl,?_⟩
   refine ite2 (fun y=>?_) (fun y=>?_)
   ·have y':lb+1=a:=by
     have:=of_decide_eq_true y
     simpa [enc3] using this
    refine ⟨_,rfl,_,rfl,p,_,_,_,rfl,rfl,SqL.of hv1,at1,r,_,_,_,rfl,rfl,SqT.of e3,rfl,_,rfl,rfl,_,rfl,?_,rfl⟩
    by_cases c0:lc=c <;> simp [y',c0]
   ·have y':¬ lb+1=a:=fun e=>y (decide_eq_true (by rw [<- e]))
    exact ⟨by simp [y'],rfl⟩
  intro k H1 z9;obtain ⟨rfl,rfl⟩ := z9
  dsimp only at q
  refine ite2 (fun y=>?_) (fun y=>?_)
  ·have y':=of_decide_eq_true y
   rw [if_pos y',List.dropLast_concat] at q
   refine ⟨_,rfl,_,rfl,p,_,_,_,rfl,rfl,SqL.of hv1,at1,r,_,_,_,rfl,rfl,SqT.of e3,rfl,_,rfl,_,rfl,(by show 3<=sizeLine; decide),fun r2 hr2=>?_⟩
   have s2:=qal9 hr2 (.tup [.int la,.int b,.int c])
   have ix:ixN vs.length (-1)=some R0.length:=by
    unfold ixN
    rw [if_neg (by omega),if_pos (by omega)]
    congr 1
    omega
   refine ⟨_,rfl,_,rfl,p,vs,-1,R0.length,rfl,rfl,s2 _ _ hv1,ix,?_⟩
   refine q _ (fun x o e nx=>?_) ?_
   ·rw [qao9 nx]
    exact s2 _ _ e
   ·have h:=(hR.same s2).setAt (x:=(la,b,c)) (j:=R0.length) (s2 _ _ hv1) qaf9
    have e:(R0 ++ [(la,lb,lc)]).set R0.length (la,b,c)=R0 ++ [(la,b,c)]:=by simp
    rw [e] at h
    exact h
  ·rw [if_neg (fun z=>y (decide_eq_true z))] at q
   refine ⟨_,rfl,.inl ⟨rfl,_,SqL.of hv1⟩,_,rfl,_,rfl,_,rfl,(by show 3<=sizeLine; decide),fun r2 hr2=>?_⟩
   exact ⟨p,_,.ref r2,rfl,rfl,(qal9 hr2 _) _ _ hv1,qbj9 (by omega),app H1 rfl q r2 hr2⟩
theorem qip9 (F:Fun K "clock_from" "clock_from" qcf9 f fd) (B:Bl mg) (Cu0:Callee P w K mg base n "first_told" ["row"] qhc9) (Cv0:Callee P w K mg base n "put_window" ["clock","a","b","c"] spPut) :
  FnOk P w K mg base CX0 (n+1) f fd ["day","rows"] qfj9:=by
 refine F.okQ sc_clock_from (fun vs H Q E h=>?_) (fun cdv A outer s H vs Q E hr h=>?_)
 ·obtain ⟨_,_,_,_,rfl,_⟩:=h
  rfl
 obtain ⟨day,p,S,g,rfl,hS,hlen,hd,rg,hC,q⟩:=h
 refine ⟨_,(qab9 (qak9 (i:=2) sc_clock_from.nd rfl (Or.inl rfl) (qch9 qac9)) (qab9 (qea9 PassesOwn.never rfl (qkw9 rfl B.enumerate (qa_c (qv 1) qac9)) (qfb9 rfl (qaj9 (qam9 (i:=3) sc_clock_from.nd rfl (Or.inl rfl)) (qaj9 (qam9 (i:=4) sc_clock_from.nd rfl (Or.inl rfl)) qct9))) (qab9 (qak9 (i:=5) sc_clock_from.nd rfl (Or.inl rfl) (qho9 (qdo9 (qap9 qdv9 (qe_op qaw9 (qv 3) qad9) (qe_cb qat9 rfl B.len qcj9 (qa_c (qv 1) qac9)) (qay9 _)) (qe_fn Cu0 hr rfl (qa_c (qe_ix qai9 (qv 1) (qe_op qaw9 (qv 3) qad9) (fun _ _=>rfl)) qac9)) (qe_op qaw9 (qv 0) (qe_fn Cu0 hr rfl (qa_c (qe_ix qai9 (qv 1) qad9 (fun _ _=>rfl)) qac9)))))) (qab9 (qak9 (i:=6) sc_clock_from.nd rfl (Or.inl rfl) (qe_ix qav9 (qv 4) qad9 (fun _ _=>rfl))) (qab9 (qak9 (i:=7) sc_clock_from.nd rfl (Or.inl rfl) (qe_ix qav9 (qv 4) qad9 (fun _ _=>rfl))) (qae9 (qs_if (qcq9 (qe_ix qav9 (qv 4) qad9 (fun _ _=>rfl))) (qae9 (qbc9 (qe_fn Cv0 hr rfl (qa_c (qv 2) (qa_c (qv 6) (qa_c (qho9 (qdo9 (qap9 qdv9 (qv 7) (qv 5) (qay9 _)) (qv 6) (qe_op qdi9 (qv 6) qad9))) (qa_c (qe_op qdi9 (qv 7) (qv 6)) qac9))))))) (qae9 (qbc9 (qe_fn Cv0 hr rfl (qa_c (qv 2) (qa_c (qe_ix qav9 (qv 4) qad9 (fun _ _=>rfl)) (qa_c (qho9 (qdo9 (qap9 qdv9 (qe_op qaw9 (qv 6) (qv 7)) (qv 5) (qay9 _)) (qv 6) (qe_op qdi9 (qv 6) qad9))) (qa_c (qv 7) qac9))))))))))))) (qae9 (qas9 (qv 2))))),?_⟩
 try dsimp only [cx_k,cx_kn,as_nil,as_name,Nat.reduceAdd]
 refine ⟨(by show 0<=sizeLine; decide),fun pc hpc=>?_⟩
 have s0:Same H (upd H pc (.lst [])):=qal9 hpc _
 obtain ⟨ws,hw1,hw2,hw3⟩:=hS.lst
 refine ⟨_,rfl,p,rfl,⟨_,SqL.of (s0 _ _ hw1)⟩,qhn9 (K:=K) (a:=p) (xs:=ws)
  (fun i σ H'=>∃ (R:List T3) (at_:Int) (v1 v2 v3 v4 v5:Option V),σ=[some (.int day),some (.ref p),some (.ref pc),v1,v2,v3,v4,v5]/\Same H H'/\LA enc3 H' pc R/\R.length<=i/\0<=at_/\Ma.Can 0 at_ g R/\(∀ r,S[i]?=some r->r.1=at_)/\(i=S.length->at_=day))
  ⟨[],0,_,_,_,_,_,rfl,s0,LA.nil qaf9,Nat.le_refl _,Int.le_refl _,⟨List.Pairwise.nil,(fun w hw=>by cases hw),fun x x0 x1=>by omega⟩,fun r e=>(hC.get e).2.2.2.2.1 rfl,fun e=>?_⟩
  (fun i σ H' _ ⟨_,_,_,_,_,_,_,_,s1,_⟩=>SqL.of (s1 _ _ hw1)) ?_ ?_⟩
 ·have:S=[]:=List.length_eq_zero_iff.mp e.symm
  rw [this] at hC
  exact hC
 ·intro i y pe σ H1 hi z9 hpe;obtain ⟨R,at_,v1,v2,v3,v4,v5,rfl,s1,hR,hRl,a0,hCan,hat,_⟩ := z9
  obtain ⟨r,x,rfl,ex,er⟩:=hw3 i y hi
  have e1:=hat x ex
  obtain ⟨g1,g2,g3,g4,g5,g6,g7⟩:=hC.get ex
  have hi2:i < S.length:=(List.getElem?_eq_some_iff.mp ex).1
  have s2:=qal9 hpe (.tup [.int i,.ref r])
  generalize hg2:upd H1 pe (.tup [.int i,.ref r])=H2 at *
  have ep:H2 pe=some (.tup [.int i,.ref r]):=by rw [<- hg2]; exact qaf9
  clear hg2
  have s02:=s1.trans s2
  have er2:=s02 _ _ er
  have hw12:=s02 _ _ hw1
  have fo:=Ma.cfo_eq hC rg.per ex
  have step:=hCan.row a0 x e1 g2 g4
  rw [<- fo] at step
  refine ⟨pe,_,rfl,SqT.of ep,rfl,_,_,rfl,_,_,rfl,rfl,?_⟩
  refine ⟨fun v H'=>H'=H2/\v=.int (Ma.cfo day S i),?_,?_⟩
  ·refine ⟨_,rfl,_,_,rfl,rfl,_,rfl,p,_,rfl,.inl (SqL.of hw12),_,_,rfl,rfl,_,rfl,?_⟩
   obtain ⟨ws',k1,k2,k3⟩:=(hS.same s02).at (K:=K)
   rw [hw12] at k1
   cases k1
   unfold Ma.cfo
   refine ite2 (fun c=>?_) (fun c=>?_)
   ·have c':(i:Int)+1 < ((ws.length:Nat):Int):=of_decide_eq_true c
    have hi3:i+1 < S.length:=by omega
    obtain ⟨r3,ka,kb⟩:=k3 (i+1) _ (List.getElem?_eq_getElem hi3)
    rw [List.getElem?_eq_getElem hi3]
    exact ⟨_,rfl,_,rfl,_,_,rfl,rfl,p,_,_,_,rfl,rfl,SqL.of hw12,ka,r3,_,rfl,kb,rfl,rfl⟩
   ·have c':¬ (i:Int)+1 < ((ws.length:Nat):Int):=fun z=>c (decide_eq_true z)
    have hi3:S.length<=i+1:=by omega
    obtain ⟨r3,ka,kb⟩:=k3 0 _ (List.getElem?_eq_getElem (by omega:0 < S.length))
    rw [List.getElem?_eq_none_iff.mpr hi3,List.getElem?_eq_getElem (by omega:0 < S.length)]
    exact ⟨_,rfl,_,rfl,p,_,_,_,rfl,rfl,SqL.of hw12,ka,r3,_,rfl,kb,_,_,rfl,rfl,rfl,rfl⟩
  intro v H3 z9;obtain ⟨rfl,rfl⟩ := z9
  generalize Ma.cfo day S i=fol at *
  obtain ⟨xp,xq,xs,xv⟩:=x
  refine ⟨_,rfl,r,_,_,_,rfl,rfl,SqT.of er2,rfl,?_⟩
  refine ⟨_,rfl,r,_,_,_,rfl,rfl,SqT.of er2,rfl,?_⟩
  have hR2:=hR.same s2
  have fin:∀ (H4:Hp) (u1 u2 u3 u4 u5:Option V),SameT pc H3 H4->LA enc3 H4 pc (Ma.cfStep fol (xp,xq,xs,xv) R)->∃ (R:List T3) (at_:Int) (v1 v2 v3 v4 v5:Option V),[some (.int day),some (.ref p),some (.ref pc),u1,u2,u3,u4,u5]=[some (.int day),some (.ref p),some (.ref pc),v1,v2,v3,v4,v5]/\Same H H4/\LA enc3 H4 pc R/\R.length<=i+1/\0<=at_/\Ma.Can 0 at_ g R/\(∀ r,S[i+1]?=some r->r.1=at_)/\(i+1=S.length->at_=day):=by
   intro H4 u1 u2 u3 u4 u5 s4 h4
   refine ⟨_,xq+1,u1,u2,u3,u4,u5,rfl,fun b o e=>s4 b o (s02 _ _ e) (qax9 e hpc),h4,?_,?_,step,fun r' e'=>g6 r' e',fun e=>g7 e⟩
   ·have:=Ma.cfStep_len fol (xp,xq,xs,xv) R
    omega
   ·have g1':0<=xp:=g1
    have g2':xp<=xq:=g2
    omega
  unfold Ma.cfStep at fin
  dsimp only at fin
  refine ⟨_,rfl,r,_,_,_,rfl,rfl,SqT.of er2,rfl,_,rfl,?_⟩
  refine ite2 (fun c=>?_) (fun c=>?_)
  ·have c':xs=true:=c
   rw [if_pos c'] at fin
   refine ⟨_,rfl,_,rfl,?_⟩
   refine ⟨fun v H'=>H'=H3/\v=.int (if xv < fol then xq else xq - 1),?_,?_⟩
   ·refine ⟨_,rfl,_,rfl,_,_,rfl,rfl,_,rfl,?_⟩
    refine ite2 (fun z=>?_) (fun z=>?_)
    ·exact ⟨_,rfl,rfl,by rw [if_pos (of_decide_eq_true z)]⟩
    ·exact ⟨_,rfl,_,_,rfl,rfl,rfl,by rw [if_neg (fun y=>z (decide_eq_true y))]⟩
   intro v H4 z9;obtain ⟨rfl,rfl⟩ := z9
   exact ⟨_,rfl,_,rfl,_,_,rfl,rfl,pc,_,_,_,R,rfl,hR2,by omega,fun H5 s5 h5=>fin H5 _ _ _ _ _ s5 h5⟩
  ·have c':¬ xs=true:=c
   rw [if_neg c'] at fin
   refine ⟨_,rfl,_,rfl,r,_,_,_,rfl,rfl,SqT.of er2,rfl,?_⟩
   refine ⟨fun v H'=>H'=H3/\v=.int (if xq+xv < fol then xq else xq - 1),?_,?_⟩
   ·refine ⟨_,rfl,_,rfl,_,_,rfl,rfl,_,rfl,_,_,rfl,rfl,_,rfl,?_⟩
    refine ite2 (fun z=>?_) (fun z=>?_)
    ·exact ⟨_,rfl,rfl,by rw [if_pos (of_decide_eq_true z)]⟩
    ·exact ⟨_,rfl,_,_,rfl,rfl,rfl,by rw [if_neg (fun y=>z (decide_eq_true y))]⟩
   intro v H4 z9;obtain ⟨rfl,rfl⟩ := z9
   exact ⟨_,rfl,pc,_,_,_,R,rfl,hR2,by omega,fun H5 s5 h5=>fin H5 _ _ _ _ _ s5 h5⟩
 ·intro σ H1 z9;obtain ⟨R,at_,v1,v2,v3,v4,v5,rfl,s1,hR,hRl,a0,hCan,hat,hend⟩ := z9
  have e:=hend hw2
  subst e
  exact ⟨_,rfl,q pc R H1 s1 hpc hR (by omega) hCan⟩
theorem qou9 (F:Fun K "overlay" "overlay" qdq9 f fd) (B:Bl mg) (Ch0:Callee P w K mg base n "stretches" ["day","clock"] qfh9):FnOk P w K mg base CX0 (n+1) f fd ["day","one","other"] qkr9:=by
 refine F.okQ sc_overlay (fun vs H Q E h=>?_) (fun cdv A outer s H vs Q E hr h=>?_)
 ·obtain ⟨_,_,_,_,_,_,_,rfl,_⟩:=h
  rfl
 obtain ⟨day,p1,p2,R1,R2,f1,f2,rfl,hR1,hR2,hl1,hl2,ck1,ck2,T1,T2,q⟩:=h
 refine ⟨_,(qab9 (qak9 (i:=3) sc_overlay.nd rfl (Or.inl rfl) (qe_fn Ch0 hr rfl (qa_c (qv 0) (qa_c (qv 1) qac9)))) (qab9 (qak9 (i:=4) sc_overlay.nd rfl (Or.inl rfl) (qe_fn Ch0 hr rfl (qa_c (qv 0) (qa_c (qv 2) qac9)))) (qab9 (qak9 (i:=5) sc_overlay.nd rfl (Or.inl rfl) (qch9 qac9)) (qab9 (qak9 (i:=6) sc_overlay.nd rfl (Or.inl rfl) qad9) (qab9 (qak9 (i:=7) sc_overlay.nd rfl (Or.inl rfl) qad9) (qab9 (qak9 (i:=8) sc_overlay.nd rfl (Or.inl rfl) qad9) (qab9 (qef9 PassesOwn.never (qap9 qdv9 (qv 8) (qv 0) (qay9 _)) (qab9 (qak9 (i:=9) sc_overlay.nd rfl (Or.inl rfl) (qe_cb (qfx9 rfl) rfl B.min bt_min (qa_c (qe_ix qav9 (qe_ix qai9 (qv 3) (qv 6) (fun _ _=>rfl)) qad9 (fun _ _=>rfl)) (qa_c (qe_ix qav9 (qe_ix qai9 (qv 4) (qv 7) (fun _ _=>rfl)) qad9 (fun _ _=>rfl)) qac9)))) (qab9 (qbc9 (qbg9 (qv 5) (qa_c (qci9 (qa_c (qv 8) (qa_c (qv 9) (qa_c (qe_ix qav9 (qe_ix qai9 (qv 3) (qv 6) (fun _ _=>rfl)) qad9 (fun _ _=>rfl)) (qa_c (qe_ix qav9 (qe_ix qai9 (qv 3) (qv 6) (fun _ _=>rfl)) qad9 (fun _ _=>rfl)) (qa_c (qe_ix qav9 (qe_ix qai9 (qv 4) (qv 7) (fun _ _=>rfl)) qad9 (fun _ _=>rfl)) (qa_c (qe_ix qav9 (qe_ix qai9 (qv 4) (qv 7) (fun _ _=>rfl)) qad9 (fun _ _=>rfl)) qac9))))))) qac9))) (qev9 (qs_if (qap9 qdn9 (qe_ix qav9 (qe_ix qai9 (qv 3) (qv 6) (fun _ _=>rfl)) qad9 (fun _ _=>rfl)) (qv 9) (qay9 _)) (qae9 (qoi9 (i:=6) sc_overlay.nd rfl (Or.inl rfl) ip_add qad9)) qba9) (qev9 (qs_if (qap9 qdn9 (qe_ix qav9 (qe_ix qai9 (qv 4) (qv 7) (fun _ _=>rfl)) qad9 (fun _ _=>rfl)) (qv 9) (qay9 _)) (qae9 (qoi9 (i:=7) sc_overlay.nd rfl (Or.inl rfl) ip_add qad9)) qba9) (qae9 (qak9 (i:=8) sc_overlay.nd rfl (Or.inl rfl) (qe_op qaw9 (qv 9) qad9)))))))) (qae9 (qas9 (qv 5)))))))))),?_⟩
 try dsimp only [cx_k,cx_kn,as_nil,as_name,Nat.reduceAdd]
 refine ⟨_,rfl,_,rfl,day,p1,R1,rfl,hR1,by omega,fun l1 H1 s1 fr1 hS1=>?_⟩
 refine ⟨_,rfl,_,rfl,day,p2,R2,rfl,hR2.same s1,by omega,fun l2 H2 s2 fr2 hS2=>?_⟩
 have C1:=Ma.str_cov ck1 T1
 have C2:=Ma.str_cov ck2 T2
 have b1:=Ma.strOf_len day R1
 have b2:=Ma.strOf_len day R2
 have hS1:=hS1.same s2
 generalize Ma.strOf day R1=S1 at *
 generalize Ma.strOf day R2=S2 at *
 have s02:=s1.trans s2
 have hd:=ck1.d0
 refine ⟨(by show 0<=sizeLine; decide),fun pr hpr=>?_⟩
 have sr:Same H2 (upd H2 pr (.lst [])):=qal9 hpr _
 refine qed9 (fun σ H'=>∃ (O:List T6) (k j:Nat) (p:Int) (v:Option V),σ=[some (.int day),some (.ref p1),some (.ref p2),some (.ref l1),some (.ref l2),some (.ref pr),some (.int k),some (.int j),some (.int p),v] /\
   Same H2 H'/\LA enc6 H' pr O/\Ma.Cov2 f1 f2 0 O p/\0<=p/\p<=day/\O.length<=k+j/\k<=S1.length/\j<=S2.length/\(p < day->∃ r1 r2,S1[k]?=some r1/\r1.1<=p/\p<=r1.2.1/\S2[j]?=some r2/\r2.1<=p/\p<=r2.2.1))
  (fun σ _=>match σ with | [_,_,_,_,_,_,_,_,some (.int p),_]=>(day - p).toNat | _=>0) ?_ ?_ ?_
 ·refine ⟨[],0,0,0,none,rfl,sr,LA.nil qaf9,rfl,Int.le_refl _,by omega,by simp,Nat.zero_le _,Nat.zero_le _,fun h=>?_⟩
  have n1:0 < S1.length:=by
   rcases Nat.eq_zero_or_pos S1.length with e | e
   ·rw [List.length_eq_zero_iff.mp e] at C1
    have:(0:Int)=day:=C1
    omega
   ·exact e
  have n2:0 < S2.length:=by
   rcases Nat.eq_zero_or_pos S2.length with e | e
   ·rw [List.length_eq_zero_iff.mp e] at C2
    have:(0:Int)=day:=C2
    omega
   ·exact e
  have e1:=List.getElem?_eq_getElem n1
  have e2:=List.getElem?_eq_getElem n2
  obtain ⟨g1,g2,g3,g4,g5,g6,g7⟩:=C1.get e1
  obtain ⟨h1,h2,h3,h4,h5,h6,h7⟩:=C2.get e2
  have:=g5 rfl
  have:=h5 rfl
  exact ⟨_,_,e1,by omega,by omega,e2,by omega,by omega⟩
 ·intro σ H3 z9;obtain ⟨O,k,j,p,v,rfl,s3,hO,cv,p0,pd,ol,kl,jl,hin⟩ := z9
  refine ⟨_,rfl,_,rfl,_,_,rfl,rfl,_,rfl,?_⟩
  refine ite2 (fun c=>?_) (fun c=>?_)
  ·have c':p < day:=of_decide_eq_true c
   obtain ⟨r1,r2,e1,x1,x2,e2,y1,y2⟩:=hin c'
   obtain ⟨g1,g2,g3,g4,g5,g6,g7⟩:=C1.get e1
   obtain ⟨h1,h2,h3,h4,h5,h6,h7⟩:=C2.get e2
   obtain ⟨us1,u1,u2,u3⟩:=(hS1.same s3).at (K:=K)
   obtain ⟨us2,w1,w2,w3⟩:=(hS2.same s3).at (K:=K)
   obtain ⟨a1,ua,ub⟩:=u3 k _ e1
   obtain ⟨a2,wa,wb⟩:=w3 j _ e2
   obtain ⟨q1p,q1q,q1s,q1v⟩:=r1
   obtain ⟨q2p,q2q,q2s,q2v⟩:=r2
   have x2':p<=q1q:=x2
   have y2':p<=q2q:=y2
   refine ⟨_,rfl,_,rfl,l1,_,_,_,rfl,rfl,SqL.of u1,ua,a1,_,_,_,rfl,rfl,SqT.of ub,rfl,_,rfl,_,rfl,l2,_,_,_,rfl,rfl,SqL.of w1,wa,a2,_,_,_,rfl,rfl,SqT.of wb,rfl,_,_,rfl,?_⟩
   generalize hq:(if q2q < q1q then q2q else q1q)=qq
   have qp:p<=qq:=by rw [<- hq]; split <;> omega
   have qa:qq<=q1q:=by rw [<- hq]; split <;> omega
   have qb:qq<=q2q:=by rw [<- hq]; split <;> omega
   have qe:qq=q1q\/qq=q2q:=by rw [<- hq]; split <;> simp
   obtain ⟨vs,v1,v2,v3⟩:=hO.lst
   refine ⟨_,rfl,.inl ⟨rfl,_,SqL.of v1⟩,_,rfl,_,rfl,_,rfl,_,rfl,l1,_,_,_,rfl,rfl,SqL.of u1,ua,a1,_,_,_,rfl,rfl,SqT.of ub,rfl,_,rfl,_,rfl,l1,_,_,_,rfl,rfl,SqL.of u1,ua,a1,_,_,_,rfl,rfl,SqT.of ub,rfl,
    _,rfl,_,rfl,l2,_,_,_,rfl,rfl,SqL.of w1,wa,a2,_,_,_,rfl,rfl,SqT.of wb,rfl,_,rfl,_,rfl,l2,_,_,_,rfl,rfl,SqL.of w1,wa,a2,_,_,_,rfl,rfl,SqT.of wb,rfl,(by show 6<=sizeLine; decide),fun rn hrn=>?_⟩
   have s4:=qal9 hrn (.tup [.int p,.int qq,.bl q1s,.int q1v,.bl q2s,.int q2v])
   refine ⟨pr,vs,.ref rn,rfl,rfl,s4 _ _ v1,qbj9 (by omega),?_⟩
   have hO5:=(hO.same s4).append (x:=(p,qq,q1s,q1v,q2s,q2v)) (s4 _ _ v1) qaf9
   have s5:=qcx9 (o:=.lst (vs ++ [.ref rn])) hpr (s3.trans s4)
   have cv5:Ma.Cov2 f1 f2 0 (O ++ [(p,qq,q1s,q1v,q2s,q2v)]) (qq+1):=Ma.Cov2.snoc (r:=(p,qq,q1s,q1v,q2s,q2v)) qp (fun x a b=>by
    have a':p<=x:=a
    have b':x<=qq:=b
    exact ⟨g4 x (by show q1p<=x; have:q1p<=p:=x1; omega) (by show x<=q1q; omega),h4 x (by show q2p<=x; have:q2p<=p:=y1; omega) (by show x<=q2q; omega)⟩) cv
   generalize upd (upd H3 rn _) pr _=H5 at *
   have hS15:=hS1.same s5
   have hS25:=hS2.same s5
   obtain ⟨us1,u1,u2,u3⟩:=hS15.at (K:=K)
   obtain ⟨us2,w1,w2,w3⟩:=hS25.at (K:=K)
   obtain ⟨a1,ua,ub⟩:=u3 k _ e1
   obtain ⟨a2,wa,wb⟩:=w3 j _ e2
   refine ⟨fun σ' H'=>H'=H5/\∃ k':Nat,σ'=[some (.int day),some (.ref p1),some (.ref p2),some (.ref l1),some (.ref l2),some (.ref pr),some (.int k'),some (.int j),some (.int p),some (.int qq)]/\((qq=q1q/\k'=k+1)\/(qq < q1q/\k'=k)),?_,?_⟩
   ·refine ⟨_,rfl,_,rfl,l1,_,_,_,rfl,rfl,SqL.of u1,ua,a1,_,_,_,rfl,rfl,SqT.of ub,rfl,_,rfl,rfl,_,rfl,?_⟩
    refine ite2 (fun z=>?_) (fun z=>?_)
    ·have z':=of_decide_eq_true z
     injection z' with z'
     exact ⟨_,rfl,_,_,rfl,rfl,rfl,k+1,rfl,.inl ⟨z'.symm,rfl⟩⟩
    ·have z':¬ q1q=qq:=fun e=>z (decide_eq_true (by rw [e]))
     exact ⟨rfl,k,rfl,.inr ⟨by omega,rfl⟩⟩
   intro σ' H6 z9;obtain ⟨rfl,k',rfl,hk'⟩ := z9
   refine ⟨fun σ' H'=>H'=H6/\∃ j':Nat,σ'=[some (.int day),some (.ref p1),some (.ref p2),some (.ref l1),some (.ref l2),some (.ref pr),some (.int k'),some (.int j'),some (.int p),some (.int qq)]/\((qq=q2q/\j'=j+1)\/(qq < q2q/\j'=j)),?_,?_⟩
   ·refine ⟨_,rfl,_,rfl,l2,_,_,_,rfl,rfl,SqL.of w1,wa,a2,_,_,_,rfl,rfl,SqT.of wb,rfl,_,rfl,rfl,_,rfl,?_⟩
    refine ite2 (fun z=>?_) (fun z=>?_)
    ·have z':=of_decide_eq_true z
     injection z' with z'
     exact ⟨_,rfl,_,_,rfl,rfl,rfl,j+1,rfl,.inl ⟨z'.symm,rfl⟩⟩
    ·have z':¬ q2q=qq:=fun e=>z (decide_eq_true (by rw [e]))
     exact ⟨rfl,j,rfl,.inr ⟨by omega,rfl⟩⟩
   intro σ' H7 z9;obtain ⟨rfl,j',rfl,hj'⟩ := z9
   have kS:k < S1.length:=(List.getElem?_eq_some_iff.mp e1).1
   have jS:j < S2.length:=(List.getElem?_eq_some_iff.mp e2).1
   refine ⟨_,rfl,_,_,rfl,rfl,⟨_,k',j',qq+1,_,rfl,s5,hO5,cv5,by omega,?_,?_,by omega,by omega,fun lt=>?_⟩,?_⟩
   ·have:q1q < day:=g3
    omega
   ·rw [List.length_append,List.length_singleton]
    omega
   ·have A:∃ r1,S1[k']?=some r1/\r1.1<=qq+1/\qq+1<=r1.2.1:=by
     rcases hk' with ⟨z,rfl⟩ | ⟨z,rfl⟩
     ·have hk1:k+1 < S1.length:=by
       rcases (by omega:k+1 < S1.length\/k+1=S1.length) with y | y
       ·exact y
       ·have:=g7 y
        have:q1q+1=day:=this
        omega
      have e:=List.getElem?_eq_getElem hk1
      have:=g6 _ e
      have:=(C1.get e).2.1
      have:(S1[k+1]).1=q1q+1:=g6 _ e
      exact ⟨_,e,by omega,by omega⟩
     ·exact ⟨_,e1,by show q1p<=qq+1; have:q1p<=p:=x1; omega,by show qq+1<=q1q; omega⟩
    have A2:∃ r2,S2[j']?=some r2/\r2.1<=qq+1/\qq+1<=r2.2.1:=by
     rcases hj' with ⟨z,rfl⟩ | ⟨z,rfl⟩
     ·have hk1:j+1 < S2.length:=by
       rcases (by omega:j+1 < S2.length\/j+1=S2.length) with y | y
       ·exact y
       ·have:=h7 y
        have:q2q+1=day:=this
        omega
      have e:=List.getElem?_eq_getElem hk1
      have:=(C2.get e).2.1
      have:(S2[j+1]).1=q2q+1:=h6 _ e
      exact ⟨_,e,by omega,by omega⟩
     ·exact ⟨_,e2,by show q2p<=qq+1; have:q2p<=p:=y1; omega,by show qq+1<=q2q; omega⟩
    obtain ⟨r1',b1,b2,b3⟩:=A
    obtain ⟨r2',d1,d2,d3⟩:=A2
    exact ⟨r1',r2',b1,b2,b3,d1,d2,d3⟩
   ·show (day - (qq+1)).toNat < (day - p).toNat
    omega
  ·have c':¬ p < day:=fun z=>c (decide_eq_true z)
   have e:p=day:=by omega
   subst e
   refine ⟨_,rfl,q pr O H3 (s02.trans s3) (s02.free hpr) hO (by omega) cv⟩
 ·intro σ H' Q1 Q2 hq z9;obtain ⟨v,e1,v',e2,i,j,e3,e4,k,e5,q1⟩ := z9
  exact ⟨v,e1,v',e2,i,j,e3,e4,k,e5,hq _ _ q1⟩
end
section
variable {P:Program} {w:World} {K:W.Frag} {mg:Str->Option Value} {base:Heap} {f:Addr} {fd:FuncData} {n:Nat}
theorem ok_picked (F:Fun K "picked" "picked" qeh9 f fd) (B:Bl mg):FnOk P w K mg base CX0 (n+1) f fd ["p","q","waiting","riding","late"] qnp9:=by
 refine F.okQ sc_picked (fun vs H Q E h=>?_) (fun cdv A outer s H vs Q E hr h=>?_)
 ·obtain ⟨_,_,_,_,_,rfl,_⟩:=h
  rfl
 obtain ⟨p,qq,wt,rd,late,rfl,q⟩:=h
 refine ⟨_,(qab9 (qak9 (i:=5) sc_picked.nd rfl (Or.inl rfl) (qe_op qdi9 (qv 2) (qv 3))) (qab9 (qak9 (i:=6) sc_picked.nd rfl (Or.inl rfl) (qci9 (qa_c (qv 0) (qa_c (qe_cb (qfx9 rfl) rfl B.min bt_min (qa_c (qv 1) (qa_c (qv 5) qac9))) (qa_c (qv 4) (qa_c (qho9 (qdo9 (qcq9 (qv 4)) (qv 2) (qv 3))) qac9)))))) (qab9 (qak9 (i:=7) sc_picked.nd rfl (Or.inl rfl) (qci9 (qa_c (qe_cb (qht9 rfl) rfl B.max bt_max (qa_c (qv 0) (qa_c (qe_op qaw9 (qv 5) qad9) qac9))) (qa_c (qv 1) (qa_c (qe_not (qv 4)) (qa_c (qho9 (qdo9 (qcq9 (qv 4)) (qv 3) (qv 2))) qac9)))))) (qae9 (qas9 (qe_compIf ["part"] [none] (BlkOk.of rfl rfl (SubL.to subN) rfl) rfl (qi_tup (qci9 (qa_c (qv 6) (qa_c (qv 7) qac9)))) (fun _ _ _ _=>(qam9 (i:=0) (show (["part"]:List Str).Nodup by decide) rfl (Or.inl rfl))) (fun _ _ _ _=>(qap9 qjm9 (qe_ix (qiv9 K rfl) (qv 0) qad9 (fun _ _=>rfl)) (qe_ix (qiv9 K rfl) (qv 0) qad9 (fun _ _=>rfl)) (qay9 _))) (fun _ _ _ _=>(qv 0)))))))),?_⟩
 try dsimp only [cx_k,cx_kn,as_nil,as_name,Nat.reduceAdd]
 refine ⟨_,rfl,_,rfl,_,_,rfl,rfl,?_⟩
 refine ⟨_,rfl,_,rfl,_,rfl,_,_,rfl,_,rfl,?_⟩
 refine ⟨fun v H'=>H'=H/\v=.int (if late=true then wt else rd),?_,?_⟩
 ·refine ⟨_,rfl,_,rfl,?_⟩
  cases late
  ·exact iteF ⟨_,rfl,rfl,rfl⟩
  ·exact iteT ⟨_,rfl,rfl,rfl⟩
 intro v H1 z9;obtain ⟨rfl,rfl⟩ := z9
 refine ⟨(by show 4<=sizeLine; decide),fun ra hra=>?_⟩
 generalize hgH2:upd _ ra _=H2
 obtain ⟨s2,e2⟩:=qaq9 hra hgH2
 clear hgH2
 refine ⟨_,rfl,_,rfl,_,_,rfl,rfl,_,_,rfl,_,rfl,_,rfl,_,rfl,?_⟩
 refine ⟨fun v H'=>H'=H2/\v=.int (if late=true then rd else wt),?_,?_⟩
 ·refine ⟨_,rfl,_,rfl,?_⟩
  cases late
  ·exact iteF ⟨_,rfl,rfl,rfl⟩
  ·exact iteT ⟨_,rfl,rfl,rfl⟩
 intro v H2 z9;obtain ⟨rfl,rfl⟩ := z9
 refine ⟨(by show 4<=sizeLine; decide),fun rt hrt=>?_⟩
 generalize hgH3:upd _ rt _=H3
 obtain ⟨s3,e3⟩:=qaq9 hrt hgH3
 clear hgH3
 have e23:=s3 _ _ e2
 refine ⟨_,rfl,_,rfl,(by show 2<=sizeLine; decide),fun rp hrp=>?_⟩
 generalize hgH4:upd _ rp _=H4
 obtain ⟨s4,e4⟩:=qaq9 hrp hgH4
 clear hgH4
 have e24:=s4 _ _ e23
 have e34:=s4 _ _ e3
 have s14:=(s2.trans s3).trans s4
 unfold Ma.pickL at q
 generalize hx1:(if wt - rd < qq then wt - rd else qq)=x1 at *
 generalize hx2:(if wt - rd+1 > p then wt - rd+1 else p)=x2 at *
 generalize (if late=true then wt else rd)=v1 at *
 generalize (if late=true then rd else wt)=v2 at *
 refine ⟨rp,rfl,⟨_,SqT.of e4⟩,?_⟩
 refine qos9 (K:=K) (a:=rp) (xs:=[.ref ra,.ref rt]) (fun D i H'=>Same H4 H'/\LA enc4 H' D (if i=0 then [] else if i=1 then (if p<=x1 then [(p,x1,late,v1)] else []) else (if p<=x1 then [(p,x1,late,v1)] else []) ++ (if x2<=qq then [(x2,qq,!late,v2)] else [])))
  (fun D hD=>⟨qal9 hD _,LA.nil qaf9⟩) (fun D i H' _ _ h=>SqT.of (h.1 _ _ e4)) ?_ ?_
 ·intro D i y H' hD hi z9;obtain ⟨sD,hD2⟩ := z9
  obtain ⟨ds,hd1,hd2,hd3⟩:=hD2.lst
  refine ⟨fun k v e=>?_,?_⟩
  ·match k,e with
   | 0,e=>cases e
   | k+1,e=>cases e
  match i,hi with
  | 0,hi =>
   have ey:y=.ref ra:=by simpa using hi.symm
   subst ey
   have er:=sD _ _ e24
   refine ⟨_,rfl,ra,_,_,_,rfl,rfl,SqT.of er,rfl,_,rfl,ra,_,_,_,rfl,rfl,SqT.of er,rfl,_,_,rfl,rfl,_,rfl,?_⟩
   refine ite2 (fun c=>?_) (fun c=>?_)
   ·refine ⟨_,rfl,ds,hd1,qbj9 (by rw [hd2]; simp),qcx9 hD sD,?_⟩
    have c':p<=x1:=of_decide_eq_true c
    have:=hD2.append (x:=(p,x1,late,v1)) hd1 er
    simpa [c'] using this
   ·have c':¬ p<=x1:=fun z=>c (decide_eq_true z)
    exact ⟨sD,by simpa [c'] using hD2⟩
  | 1,hi =>
   have ey:y=.ref rt:=by simpa using hi.symm
   subst ey
   have er:=sD _ _ e34
   refine ⟨_,rfl,rt,_,_,_,rfl,rfl,SqT.of er,rfl,_,rfl,rt,_,_,_,rfl,rfl,SqT.of er,rfl,_,_,rfl,rfl,_,rfl,?_⟩
   refine ite2 (fun c=>?_) (fun c=>?_)
   ·refine ⟨_,rfl,ds,hd1,qbj9 (by rw [hd2]; simp; split <;> simp),qcx9 hD sD,?_⟩
    have c':x2<=qq:=of_decide_eq_true c
    have:=hD2.append (x:=(x2,qq,!late,v2)) hd1 er
    simpa [c'] using this
   ·have c':¬ x2<=qq:=fun z=>c (decide_eq_true z)
    exact ⟨sD,by simpa [c'] using hD2⟩
  | k+2,hi=>simp at hi
 ·intro D H' hD z9;obtain ⟨sD,hD2⟩ := z9
  exact q D H' (s14.trans sD) (s14.free hD) (by simpa using hD2)
theorem ok_joined (F:Fun K "joined" "joined" qeq9 f fd) (B:Bl mg) (Ck1:Callee P w K mg base n "overlay" ["day","one","other"] qkr9) (Cf1:Callee P w K mg base n "picked" ["p","q","waiting","riding","late"] qnp9) (Ck0:Callee P w K mg base n "clock_from" ["day","rows"] qfj9) :
  FnOk P w K mg base CX0 (n+1) f fd ["day","one","other","late"] qji9:=by
 refine F.okQ sc_joined (fun vs H Q E h=>?_) (fun cdv A outer s H vs Q E hr h=>?_)
 ·obtain ⟨_,_,_,_,_,_,_,_,rfl,_⟩:=h
  rfl
 obtain ⟨day,p1,p2,late,R1,R2,f1,f2,rfl,hR1,hR2,hl1,hl2,ck1,ck2,T1,T2,q⟩:=h
 refine ⟨_,(qab9 (qak9 (i:=4) sc_joined.nd rfl (Or.inl rfl) (qch9 qac9)) (qab9 (qea9 PassesOwn.never rfl (qck9 (qe_fn Ck1 hr rfl (qa_c (qv 0) (qa_c (qv 1) (qa_c (qv 2) qac9))))) (qfb9 rfl (qaj9 (qam9 (i:=5) sc_joined.nd rfl (Or.inl rfl)) (qaj9 (qam9 (i:=6) sc_joined.nd rfl (Or.inl rfl)) (qaj9 (qam9 (i:=7) sc_joined.nd rfl (Or.inl rfl)) (qaj9 (qam9 (i:=8) sc_joined.nd rfl (Or.inl rfl)) (qaj9 (qam9 (i:=9) sc_joined.nd rfl (Or.inl rfl)) (qaj9 (qam9 (i:=10) sc_joined.nd rfl (Or.inl rfl)) qct9))))))) (qae9 (qs_if (qap9 qdn9 (qv 7) (qv 9) (qay9 _)) (qae9 (qbc9 (qbg9 (qv 4) (qa_c (qci9 (qa_c (qv 5) (qa_c (qv 6) (qa_c (qv 7) (qa_c (qho9 (qdo9 (qcq9 (qv 3)) (qe_cb (qht9 rfl) rfl B.max bt_max (qa_c (qv 8) (qa_c (qv 10) qac9))) (qe_cb (qfx9 rfl) rfl B.min bt_min (qa_c (qv 8) (qa_c (qv 10) qac9))))) qac9))))) qac9)))) (qae9 (qs_if (qcq9 (qv 7)) (qae9 (qbc9 (qhg9 (qv 4) (qa_c (qe_fn Cf1 hr rfl (qa_c (qv 5) (qa_c (qv 6) (qa_c (qv 8) (qa_c (qv 10) (qa_c (qv 3) qac9)))))) qac9)))) (qae9 (qbc9 (qhg9 (qv 4) (qa_c (qe_fn Cf1 hr rfl (qa_c (qv 5) (qa_c (qv 6) (qa_c (qv 10) (qa_c (qv 8) (qa_c (qv 3) qac9)))))) qac9))))))))) (qae9 (qas9 (qe_fn Ck0 hr rfl (qa_c (qv 0) (qa_c (qv 4) qac9))))))),?_⟩
 try dsimp only [cx_k,cx_kn,as_nil,as_name,Nat.reduceAdd]
 refine ⟨(by show 0<=sizeLine; decide),fun pr hpr=>?_⟩
 have s0:Same H (upd H pr (.lst [])):=qal9 hpr _
 refine ⟨_,rfl,_,rfl,_,rfl,day,p1,p2,R1,R2,f1,f2,rfl,hR1.same s0,hR2.same s0,hl1,hl2,ck1,ck2,T1,T2,fun lo O H1 s1 fr1 hO hOl cv=>?_⟩
 have er1:H1 pr=some (.lst []):=s1 _ _ qaf9
 have nlo:lo ≠ pr:=fun e=>by rw [e,qaf9] at fr1; cases fr1
 have s01:=s0.trans s1
 clear fr1 s1
 obtain ⟨ws,hw1,hw2,hw3⟩:=hO.lst
 have nws:∀ (i:Nat) r,ws[i]?=some (.ref r)->r ≠ pr:=fun i r e z=>by
  obtain ⟨r',x,e1,_,e2⟩:=hw3 i _ e
  cases e1
  rw [z,er1] at e2
  cases e2
 have rg:=Ma.rise_jn late (ck1.rise T1) (ck2.rise T2)
 refine ⟨lo,rfl,⟨_,SqL.of hw1⟩,qdm9 (K:=K) (a:=lo) (xs:=ws)
  (fun i σ H'=>∃ (S:List T4) (at_:Int) (v1 v2 v3 v4 v5 v6:Option V),σ=[some (.int day),some (.ref p1),some (.ref p2),some (.bl late),some (.ref pr),v1,v2,v3,v4,v5,v6]/\Same H H'/\SameT pr H1 H'/\LA enc4 H' pr S/\S.length<=2 * i/\Ma.Cov (fun x=>Ma.jn late (f1 x) (f2 x)) 0 S at_/\(∀ r,O[i]?=some r->r.1=at_)/\(i=O.length->at_=day))
  ⟨[],0,_,_,_,_,_,_,rfl,s01,fun b o e _=>e,LA.nil er1,by simp,rfl,fun r e=>(cv.get e).2.2.2.2.1 rfl,fun e=>?_⟩
  (fun i σ H' _ ⟨_,_,_,_,_,_,_,_,_,_,s1,_⟩=>SqL.of (s1 _ _ hw1 nlo)) ?_ ?_⟩
 ·rw [List.length_eq_zero_iff.mp e.symm] at cv
  exact cv
 ·intro i y σ H2 hi z9;obtain ⟨S,at_,v1,v2,v3,v4,v5,v6,rfl,sH,s2,hS,hSl,hC,hat,_⟩ := z9
  obtain ⟨r,x,rfl,ex,er⟩:=hw3 i y hi
  have e1:=hat x ex
  obtain ⟨g1,g2,g3,g4,g5,g6,g7⟩:=cv.get ex
  have er2:=s2 _ _ er (nws i r hi)
  have hi2:i < O.length:=(List.getElem?_eq_some_iff.mp ex).1
  have jr:=Ma.joinRow_cov (late:=late) g2 g4
  rw [e1] at jr
  have hC2:=hC.append jr
  have jl:=Ma.joinRow_len late x
  obtain ⟨us,hu1,hu2,hu3⟩:=hS.lst
  have fin:∀ (H4:Hp) (u1 u2 u3 u4 u5 u6:Option V),SameT pr H2 H4->LA enc4 H4 pr (S ++ Ma.joinRow late x)->∃ (S:List T4) (at_:Int) (v1 v2 v3 v4 v5 v6:Option V),[some (.int day),some (.ref p1),some (.ref p2),some (.bl late),some (.ref pr),u1,u2,u3,u4,u5,u6]=[some (.int day),some (.ref p1),some (.ref p2),some (.bl late),some (.ref pr),v1,v2,v3,v4,v5,v6]/\Same H H4/\SameT pr H1 H4/\LA enc4 H4 pr S/\S.length<=2 * (i+1)/\Ma.Cov (fun x=>Ma.jn late (f1 x) (f2 x)) 0 S at_/\(∀ r,O[i+1]?=some r->r.1=at_)/\(i+1=O.length->at_=day):=by
   intro H4 u1 u2 u3 u4 u5 u6 s4 h4
   refine ⟨_,_,u1,u2,u3,u4,u5,u6,rfl,fun b o e=>s4 _ _ (sH _ _ e) (qax9 e hpr),fun b o e nb=>s4 _ _ (s2 _ _ e nb) nb,h4,?_,hC2,fun r' e'=>g6 r' e',fun e=>g7 e⟩
   rw [List.length_append]
   omega
  obtain ⟨xp,xq,xs,xv,xs',xv'⟩:=x
  unfold Ma.joinRow at fin
  dsimp only at fin
  refine ⟨r,_,rfl,SqT.of er2,rfl,_,_,rfl,_,_,rfl,_,_,rfl,_,_,rfl,_,_,rfl,_,_,rfl,rfl,?_⟩
  refine ⟨_,rfl,_,rfl,rfl,_,rfl,?_⟩
  refine ite2 (fun c=>?_) (fun c=>?_)
  ·have c':xs=xs':=by
    have:=of_decide_eq_true c
    injection this
   rw [if_pos c'] at fin
   refine ⟨_,rfl,.inl ⟨rfl,_,SqL.of hu1⟩,_,rfl,_,rfl,_,rfl,?_⟩
   refine ⟨fun v H'=>H'=H2/\v=.int (Ma.jn late xv xv'),?_,?_⟩
   ·refine ⟨_,rfl,_,rfl,?_⟩
    unfold Ma.jn
    cases late
    ·exact iteF ⟨_,rfl,_,rfl,_,_,rfl,rfl,rfl⟩
    ·exact iteT ⟨_,rfl,_,rfl,_,_,rfl,rfl,rfl⟩
   intro v H3 z9;obtain ⟨rfl,rfl⟩ := z9
   refine ⟨(by show 4<=sizeLine; decide),fun rn hrn=>?_⟩
   have s4:=qal9 hrn (.tup [.int xp,.int xq,.bl xs,.int (Ma.jn late xv xv')])
   refine ⟨pr,us,.ref rn,rfl,rfl,s4 _ _ hu1,qbj9 (by omega),?_⟩
   refine fin _ _ _ _ _ _ _ (fun b o e nb=>?_) ((hS.same s4).append (x:=(xp,xq,xs,Ma.jn late xv xv')) (s4 _ _ hu1) qaf9)
   rw [qao9 nb]
   exact s4 _ _ e
  ·have c':¬ xs=xs':=fun e=>c (decide_eq_true (by rw [e]))
   rw [if_neg c'] at fin
   refine ⟨_,rfl,_,rfl,?_⟩
   have ext:∀ (L:List T4),L.length<=2->(∀ (H4:Hp) (u1 u2 u3 u4 u5 u6:Option V),SameT pr H2 H4->LA enc4 H4 pr (S ++ L)->∃ (S:List T4) (at_:Int) (v1 v2 v3 v4 v5 v6:Option V),[some (.int day),some (.ref p1),some (.ref p2),some (.bl late),some (.ref pr),u1,u2,u3,u4,u5,u6]=[some (.int day),some (.ref p1),some (.ref p2),some (.bl late),some (.ref pr),v1,v2,v3,v4,v5,v6]/\Same H H4/\SameT pr H1 H4/\LA enc4 H4 pr S/\S.length<=2 * (i+1)/\Ma.Cov (fun x=>Ma.jn late (f1 x) (f2 x)) 0 S at_/\(∀ r,O[i+1]?=some r->r.1=at_)/\(i+1=O.length->at_=day)) ->
     ∀ (l:Addr) (H3:Hp),Same H2 H3->LA enc4 H3 l L->∀ (u1 u2 u3 u4 u5 u6:Option V),∃ (l2 b:Addr) (ys zs:List V),V.ref pr=.ref l2/\[V.ref l]=[.ref b]/\H3 l2=some (.lst ys)/\H3 b=some (.lst zs)/\ys.length+zs.length<=sizeLine/\∃ (S:List T4) (at_:Int) (v1 v2 v3 v4 v5 v6:Option V),[some (.int day),some (.ref p1),some (.ref p2),some (.bl late),some (.ref pr),u1,u2,u3,u4,u5,u6]=[some (.int day),some (.ref p1),some (.ref p2),some (.bl late),some (.ref pr),v1,v2,v3,v4,v5,v6]/\Same H (upd H3 l2 (.lst (ys ++ zs)))/\SameT pr H1 (upd H3 l2 (.lst (ys ++ zs)))/\LA enc4 (upd H3 l2 (.lst (ys ++ zs))) pr S/\S.length<=2 * (i+1)/\Ma.Cov (fun x=>Ma.jn late (f1 x) (f2 x)) 0 S at_/\(∀ r,O[i+1]?=some r->r.1=at_)/\(i+1=O.length->at_=day):=by
    intro L hL fin' l H3 s3 hl u1 u2 u3 u4 u5 u6
    obtain ⟨zs,z1,z2,z3⟩:=hl.lst
    refine ⟨pr,l,us,zs,rfl,rfl,s3 _ _ hu1,z1,?_,fin' _ _ _ _ _ _ _ (fun b o e nb=>?_) ((hS.same s3).extend hl (s3 _ _ hu1) z1)⟩
    ·have:=qbj9 (n:=us.length+zs.length) (by omega)
     omega
    ·rw [qao9 nb]
     exact s3 _ _ e
   cases xs with
   | true =>
    rw [if_pos rfl] at fin
    refine iteT ⟨_,rfl,.inl ⟨rfl,_,SqL.of hu1⟩,_,rfl,_,rfl,_,rfl,_,rfl,_,rfl,xp,xq,xv,xv',late,rfl,fun l H3 s3 _ hl=>?_⟩
    exact ext _ (Ma.pick_len ..) fin l H3 s3 hl _ _ _ _ _ _
   | false =>
    rw [if_neg (by decide)] at fin
    refine iteF ⟨_,rfl,.inl ⟨rfl,_,SqL.of hu1⟩,_,rfl,_,rfl,_,rfl,_,rfl,_,rfl,xp,xq,xv',xv,late,rfl,fun l H3 s3 _ hl=>?_⟩
    exact ext _ (Ma.pick_len ..) fin l H3 s3 hl _ _ _ _ _ _
 ·intro σ H2 z9;obtain ⟨S,at_,v1,v2,v3,v4,v5,v6,rfl,sH,s2,hS,hSl,hC,hat,hend⟩ := z9
  have e:=hend hw2
  subst e
  refine ⟨_,rfl,_,rfl,at_,pr,S,_,rfl,hS,by omega,ck1.d0,rg,hC,fun l R H3 s3 fl hR hRl can=>?_⟩
  exact q l R H3 (sH.trans s3) (sH.free fl) hR (by omega) can
end
section
variable {P:Program} {w:World} {K:W.Frag} {mg:Str->Option Value} {base:Heap} {f:Addr} {fd:FuncData} {n:Nat}
theorem ok_sooner (F:Fun K "sooner" "sooner" qen9 f fd) (B:Bl mg) (Cx0:Callee P w K mg base n "joined" ["day","one","other","late"] qji9):FnOk P w K mg base CX0 (n+1) f fd ["day","one","other"] (spTwo Ma.omin):=by
 refine F.okQ sc_sooner (fun vs H Q E h=>?_) (fun cdv A outer s H vs Q E hr h=>?_)
 ·obtain ⟨_,_,_,_,_,rfl,_⟩:=h
  rfl
 obtain ⟨day,p1,p2,R1,R2,rfl,hR1,hR2,hl1,hl2,ck1,ck2,q⟩:=h
 refine ⟨_,(qab9 (qs_if (qhv9 (QW.pt (qw_or (qap9 qdn9 (qe_cb qat9 rfl B.len qcj9 (qa_c (qv 1) qac9)) qad9 (qay9 _)) (qfr9 (qap9 qdn9 (qe_cb qat9 rfl B.len qcj9 (qa_c (qv 2) qac9)) qad9 (qay9 _)))))) (qae9 (qas9 (qe_op qop_cat (qv 1) (qv 2)))) qba9) (qae9 (qas9 (qe_fn Cx0 hr rfl (qa_c (qv 0) (qa_c (qv 1) (qa_c (qv 2) (qa_c qe_bl qac9)))))))),?_⟩
 try dsimp only [cx_k,cx_kn,as_nil,as_name,Nat.reduceAdd]
 obtain ⟨us,hu1,hu2,hu3⟩:=hR1.lst
 obtain ⟨ws,hw1,hw2,hw3⟩:=hR2.lst
 refine ⟨fun b H'=>H'=H/\b=decide (R1=[]\/R2=[]),?_,?_⟩
 ·refine ⟨_,rfl,p1,_,rfl,.inl (SqL.of hu1),rfl,_,rfl,?_⟩
  refine ite2 (fun c=>?_) (fun c=>?_)
  ·have c':=of_decide_eq_true c
   injection c' with c'
   have e:R1=[]:=List.length_eq_zero_iff.mp (by omega)
   exact ⟨rfl,by simp [e]⟩
  ·have n1:R1 ≠ []:=fun e=>c (decide_eq_true (by rw [hu2,e]; rfl))
   refine ⟨_,rfl,p2,_,rfl,.inl (SqL.of hw1),rfl,_,rfl,rfl,?_⟩
   rw [hw2]
   cases R2 with
   | nil=>simp
   | cons x r=>simp [n1]; omega
 intro b H1 z9;obtain ⟨rfl,rfl⟩ := z9
 refine ite2 (fun c=>?_) (fun c=>?_)
 ·have c':=of_decide_eq_true c
  refine ⟨_,rfl,_,rfl,p1,p2,us,ws,rfl,rfl,hu1,hw1,?_,fun l hl=>?_⟩
  ·have:=qbj9 (n:=us.length+ws.length) (by omega)
   omega
  refine q l (R1 ++ R2) _ (qal9 hl _) hl (hR1.cat hR2 hu1 hw1 hl) (by rw [List.length_append]; omega) ?_ (fun t=>Ma.bt_append day R1 R2 t)
  rcases c' with e | e
  ·rw [e]; exact ck2
  ·rw [e,List.append_nil]; exact ck1
 ·have c':¬ (R1=[]\/R2=[]):=fun z=>c (decide_eq_true z)
  have n1:R1 ≠ []:=fun e=>c' (.inl e)
  have n2:R2 ≠ []:=fun e=>c' (.inr e)
  have T1:=Ma.tells_bf (d:=day) n1
  have T2:=Ma.tells_bf (d:=day) n2
  refine ⟨_,rfl,_,rfl,_,rfl,day,p1,p2,false,R1,R2,_,_,rfl,hR1,hR2,hl1,hl2,ck1,ck2,T1,T2,fun l R H2 s2 fl hR hRl can=>?_⟩
  have rg:=Ma.rise_jn false (ck1.rise T1) (ck2.rise T2)
  exact q l R H2 s2 fl hR hRl (can.ck ck1.d0 rg) fun t=>by rw [can.tells ck1.d0 rg t,T1.min T2 t]
end
section
variable {P:Program} {w:World} {K:W.Frag} {mg:Str->Option Value} {base:Heap} {f:Addr} {fd:FuncData} {n:Nat}
theorem ok_later (F:Fun K "later" "later" qfi9 f fd) (B:Bl mg) (Cx0:Callee P w K mg base n "joined" ["day","one","other","late"] qji9):FnOk P w K mg base CX0 (n+1) f fd ["day","one","other"] (spTwo Ma.omax):=by
 refine F.okQ sc_later (fun vs H Q E h=>?_) (fun cdv A outer s H vs Q E hr h=>?_)
 ·obtain ⟨_,_,_,_,_,rfl,_⟩:=h
  rfl
 obtain ⟨day,p1,p2,R1,R2,rfl,hR1,hR2,hl1,hl2,ck1,ck2,q⟩:=h
 refine ⟨_,(qab9 (qs_if (qhv9 (QW.pt (qw_or (qap9 qdn9 (qe_cb qat9 rfl B.len qcj9 (qa_c (qv 1) qac9)) qad9 (qay9 _)) (qfr9 (qap9 qdn9 (qe_cb qat9 rfl B.len qcj9 (qa_c (qv 2) qac9)) qad9 (qay9 _)))))) (qae9 (qas9 (qch9 qac9))) qba9) (qae9 (qas9 (qe_fn Cx0 hr rfl (qa_c (qv 0) (qa_c (qv 1) (qa_c (qv 2) (qa_c qe_bl qac9)))))))),?_⟩
 try dsimp only [cx_k,cx_kn,as_nil,as_name,Nat.reduceAdd]
 obtain ⟨us,hu1,hu2,hu3⟩:=hR1.lst
 obtain ⟨ws,hw1,hw2,hw3⟩:=hR2.lst
 refine ⟨fun b H'=>H'=H/\b=decide (R1=[]\/R2=[]),?_,?_⟩
 ·refine ⟨_,rfl,p1,_,rfl,.inl (SqL.of hu1),rfl,_,rfl,?_⟩
  refine ite2 (fun c=>?_) (fun c=>?_)
  ·have c':=of_decide_eq_true c
   injection c' with c'
   have e:R1=[]:=List.length_eq_zero_iff.mp (by omega)
   exact ⟨rfl,by simp [e]⟩
  ·have n1:R1 ≠ []:=fun e=>c (decide_eq_true (by rw [hu2,e]; rfl))
   refine ⟨_,rfl,p2,_,rfl,.inl (SqL.of hw1),rfl,_,rfl,rfl,?_⟩
   rw [hw2]
   cases R2 with
   | nil=>simp
   | cons x r=>simp [n1]; omega
 intro b H1 z9;obtain ⟨rfl,rfl⟩ := z9
 refine ite2 (fun c=>?_) (fun c=>?_)
 ·have c':=of_decide_eq_true c
  refine ⟨(by show 0<=sizeLine; decide),fun l hl=>?_⟩
  refine q l [] _ (qal9 hl _) hl (LA.nil qaf9) (by simp) (Ma.ck_nil ck1.d0) fun t=>?_
  rcases c' with e | e
  ·rw [e]; rfl
  ·rw [e,Ma.bt_nil]; cases Ma.bt day R1 t <;> rfl
 ·have c':¬ (R1=[]\/R2=[]):=fun z=>c (decide_eq_true z)
  have n1:R1 ≠ []:=fun e=>c' (.inl e)
  have n2:R2 ≠ []:=fun e=>c' (.inr e)
  have T1:=Ma.tells_bf (d:=day) n1
  have T2:=Ma.tells_bf (d:=day) n2
  refine ⟨_,rfl,_,rfl,_,rfl,day,p1,p2,true,R1,R2,_,_,rfl,hR1,hR2,hl1,hl2,ck1,ck2,T1,T2,fun l R H2 s2 fl hR hRl can=>?_⟩
  have rg:=Ma.rise_jn true (ck1.rise T1) (ck2.rise T2)
  exact q l R H2 s2 fl hR hRl (can.ck ck1.d0 rg) fun t=>by rw [can.tells ck1.d0 rg t,T1.max T2 t]
end
noncomputable def qjd9 (m:Nat):Sp:=fun vs H Q _=>∃ (day:Int) (p:Addr) (R:List T3),vs=[.int day,.ref p]/\LA enc3 H p R/\R.length<=2 ^ m/\R.length<=900000/\0 < day/\Ma.Wins day R /\
 ∀ (l:Addr) (R':List T3) (H':Hp),Same H H'->H l=none->LA enc3 H' l R'->R'.length<=2 * R.length+1->Ma.CK day R'->(∀ t,Ma.bt day R' t=Ma.bt day R t)->Q (.ref l) H'
section
variable {P:Program} {w:World} {K:W.Frag} {mg:Str->Option Value} {base:Heap} {f:Addr} {fd:FuncData} {n:Nat}
theorem qlc9 (F:Fun K "clock_within" "clock_within" qbk9 f fd) (B:Bl mg) (bd:Binds K fd ["day","board"] []) (kp:W.keepIn K (.ref f)=true) (mgf:mg "clock_within" = some (.ref f)) (Ci2:Callee P w K mg base n "sooner" ["day","one","other"] (spTwo Ma.omin)) :
  ∀ m,FnOk P w K mg base CX0 (n+m+1) f fd ["day","board"] (qjd9 m)
 | 0=>by
  refine F.okQ sc_clock_within (fun vs H Q E h=>?_) (fun cdv A outer s H vs Q E hr h=>?_)
  ·obtain ⟨_,_,_,rfl,_⟩:=h
   rfl
  obtain ⟨day,p,R,rfl,hR,hl,hl9,hd,hW,q⟩:=h
  have Cj0:Callee P w K mg base (n+0) "sooner" ["day","one","other"] (fun _ _ _ _=>False):=by
   obtain ⟨f,fd,G,b,kp,m⟩:=Ci2.ex
   exact ⟨f,fd,⟨fun _ _ _ _ h=>h.elim,fun _ _ _ _ _ _ _ _ _ _ _ _ _ h=>h.elim⟩,b,kp,m⟩
  have Cd0:Callee P w K mg base (n+0) "clock_within" ["day","board"] (fun _ _ _ _=>False):=⟨f,fd,⟨fun _ _ _ _ h=>h.elim,fun _ _ _ _ _ _ _ _ _ _ _ _ _ h=>h.elim⟩,bd,kp,mgf⟩
  refine ⟨_,(qab9 (qs_if (qap9 qdv9 (qe_cb qat9 rfl B.len qcj9 (qa_c (qv 1) qac9)) qad9 (qay9 _)) (qae9 (qas9 (qe_ct qgi9 rfl B.list_ qfm9 (qa_c (qv 1) qac9)))) qba9) (qab9 (qak9 (i:=2) sc_clock_within.nd rfl (Or.inl rfl) (qe_op qbh9 (qe_cb qat9 rfl B.len qcj9 (qa_c (qv 1) qac9)) qad9)) (qae9 (qas9 (qe_fn Cj0 hr rfl (qa_c (qv 0) (qa_c (qe_fn Cd0 hr rfl (qa_c (qv 0) (qa_c (qme9 (qv 1) qgp9 (qgq9 (qv 2))) qac9))) (qa_c (qe_fn Cd0 hr rfl (qa_c (qv 0) (qa_c (qme9 (qv 1) (qgq9 (qv 2)) qgp9) qac9))) qac9)))))))),?_⟩
  try dsimp only [cx_k,cx_kn,as_nil,as_name,Nat.reduceAdd]
  obtain ⟨us,hu1,hu2,hu3⟩:=hR.lst
  have hl':R.length<=1:=hl
  refine ⟨_,rfl,p,_,rfl,.inl (SqL.of hu1),_,_,rfl,rfl,_,rfl,iteP (decide_eq_true (by show ((us.length:Nat):Int) < 2; omega)) ?_⟩
  refine ⟨_,rfl,p,_,rfl,.inl (SqL.of hu1),fun pl hpl=>?_⟩
  generalize hgH1:upd _ pl _=H1
  obtain ⟨s1,e1⟩:=qaq9 hpl hgH1
  clear hgH1
  have hR1:=hR.copy s1 hu1 e1
  refine q pl R H1 s1 hpl hR1 (by omega) ?_ fun t=>rfl
  match R,hl' with
  | [],_=>exact Ma.ck_nil hd
  | [x],_=>exact Ma.ck_one hd (hW x (List.mem_singleton.mpr rfl))
 | m+1=>by
  have Cd0:Callee P w K mg base (n+m+1) "clock_within" ["day","board"] (qjd9 m):=Callee.mk' (qlc9 F B bd kp mgf Ci2 m) bd kp mgf
  have Cj0:=Ci2.up (show n<=n+m+1 by omega)
  refine F.okQ sc_clock_within (fun vs H Q E h=>?_) (fun cdv A outer s H vs Q E hr h=>?_)
  ·obtain ⟨_,_,_,rfl,_⟩:=h
   rfl
  obtain ⟨day,p,R,rfl,hR,hl,hl9,hd,hW,q⟩:=h
  refine ⟨_,(qab9 (qs_if (qap9 qdv9 (qe_cb qat9 rfl B.len qcj9 (qa_c (qv 1) qac9)) qad9 (qay9 _)) (qae9 (qas9 (qe_ct qgi9 rfl B.list_ qfm9 (qa_c (qv 1) qac9)))) qba9) (qab9 (qak9 (i:=2) sc_clock_within.nd rfl (Or.inl rfl) (qe_op qbh9 (qe_cb qat9 rfl B.len qcj9 (qa_c (qv 1) qac9)) qad9)) (qae9 (qas9 (qe_fn Cj0 hr rfl (qa_c (qv 0) (qa_c (qe_fn Cd0 hr rfl (qa_c (qv 0) (qa_c (qme9 (qv 1) qgp9 (qgq9 (qv 2))) qac9))) (qa_c (qe_fn Cd0 hr rfl (qa_c (qv 0) (qa_c (qme9 (qv 1) (qgq9 (qv 2)) qgp9) qac9))) qac9)))))))),?_⟩
  try dsimp only [cx_k,cx_kn,as_nil,as_name,Nat.reduceAdd]
  obtain ⟨us,hu1,hu2,hu3⟩:=hR.lst
  refine ⟨_,rfl,p,_,rfl,.inl (SqL.of hu1),_,_,rfl,rfl,_,rfl,?_⟩
  refine ite2 (fun c=>?_) (fun c=>?_)
  ·have c':((us.length:Nat):Int) < 2:=of_decide_eq_true c
   refine ⟨_,rfl,p,_,rfl,.inl (SqL.of hu1),fun pl hpl=>?_⟩
   generalize hgH1:upd _ pl _=H1
   obtain ⟨s1,e1⟩:=qaq9 hpl hgH1
   clear hgH1
   have hR1:=hR.copy s1 hu1 e1
   have hl':R.length<=1:=by omega
   refine q pl R H1 s1 hpl hR1 (by omega) ?_ fun t=>rfl
   match R,hl' with
   | [],_=>exact Ma.ck_nil hd
   | [x],_=>exact Ma.ck_one hd (hW x (List.mem_singleton.mpr rfl))
  have c':¬ ((us.length:Nat):Int) < 2:=fun z=>c (decide_eq_true z)
  refine ⟨_,rfl,p,_,rfl,.inl (SqL.of hu1),_,_,rfl,rfl,⟨by decide,by decide⟩,?_⟩
  have eh:((us.length:Nat):Int) / 2=((R.length / 2:Nat):Int):=by rw [hu2]; rfl
  dsimp only
  rw [eh]
  generalize hh:R.length / 2=h
  have h1:0 < h:=by omega
  have h2:h<=us.length:=by omega
  have pw:2 ^ (m+1)=2 * 2 ^ m:=by rw [Nat.pow_succ,Nat.mul_comm]
  refine ⟨_,rfl,_,rfl,_,rfl,_,rfl,_,rfl,p,us,rfl,SqL.of hu1,fun pa hpa=>?_⟩
  rw [qnh9 us h h2]
  have ea:us.take h=(us.drop 0).take h:=by simp
  rw [ea]
  generalize hgH1:upd _ pa _=H1
  obtain ⟨s1,e1⟩:=qaq9 hpa hgH1
  clear hgH1
  have hA:=hR.part s1 hu1 0 h e1
  rw [List.drop_zero] at hA
  refine ⟨day,pa,R.take h,rfl,hA,by rw [List.length_take]; omega,by rw [List.length_take]; omega,hd,fun w hw=>hW w (List.mem_of_mem_take hw),fun la Ra H2 s2 fa ha hal cka bta=>?_⟩
  have hu12:=s2 _ _ (s1 _ _ hu1)
  have hR2:=(hR.same s1).same s2
  refine ⟨_,rfl,_,rfl,_,rfl,_,rfl,p,us,rfl,SqL.of hu12,fun pb hpb=>?_⟩
  rw [qno9 us h h2]
  have eb:us.drop h=(us.drop h).take us.length:=by rw [List.take_of_length_le]; simp
  rw [eb]
  generalize hgH3:upd _ pb _=H3
  obtain ⟨s3,e3⟩:=qaq9 hpb hgH3
  clear hgH3
  have hB:=hR2.part s3 hu12 h us.length e3
  rw [List.take_of_length_le (by rw [List.length_drop]; omega)] at hB
  refine ⟨day,pb,R.drop h,rfl,hB,by rw [List.length_drop]; omega,by rw [List.length_drop]; omega,hd,fun w hw=>hW w (List.mem_of_mem_drop hw),fun lb Rb H4 s4 fb hb hbl ckb btb=>?_⟩
  have s34:=s3.trans s4
  rw [List.length_take] at hal
  rw [List.length_drop] at hbl
  refine ⟨day,la,lb,Ra,Rb,rfl,ha.same s34,hb,by omega,by omega,cka,ckb,fun l R' H5 s5 fl hR' hl' ck' bt'=>?_⟩
  have s05:=((s1.trans s2).trans s34).trans s5
  have eb:∀ t,Ma.bt day R' t=Ma.bt day R t:=fun t=>by rw [bt',bta,btb,<- Ma.bt_append,List.take_append_drop]
  exact q l R' H5 s05 (((s1.trans s2).trans s34).free fl) hR' (Ma.ck_len ck' hW eb) ck' eb
end
noncomputable def qli9:Sp:=fun vs H Q _=>∃ (day:Int) (p:Addr) (R:List T3),vs=[.int day,.ref p]/\LA enc3 H p R/\R.length<=1000/\0 < day/\Ma.Wins day R /\
 ∀ (l:Addr) (R':List T3) (H':Hp),Same H H'->H l=none->LA enc3 H' l R'->R'.length<=2 * R.length+1->Ma.CK day R'->(∀ t,Ma.bt day R' t=Ma.bt day R t)->Q (.ref l) H'
section
variable {P:Program} {w:World} {K:W.Frag} {mg:Str->Option Value} {base:Heap} {f:Addr} {fd:FuncData} {n:Nat}
theorem qma9 (F:Fun K "clock_of" "clock_of" qdh9 f fd) (Cr0:Callee P w K mg base n "is_board" ["day","thing"] qot9) (Cd0:Callee P w K mg base n "clock_within" ["day","board"] (qjd9 10)):FnOk P w K mg base CX0 (n+1) f fd ["day","board"] qli9:=by
 refine F.okQ qln9 (fun vs H Q E h=>?_) (fun cdv A outer s H vs Q E hr h=>?_)
 ·obtain ⟨_,_,_,rfl,_⟩:=h
  rfl
 obtain ⟨day,p,R,rfl,hR,hl,hd,hW,q⟩:=h
 refine ⟨_,(qab9 (qs_if (qfd9 (qcq9 (qe_fn Cr0 hr rfl (qa_c (qv 0) (qa_c (qv 1) qac9))))) (qae9 qgb9) qba9) (qae9 (qas9 (qe_fn Cd0 hr rfl (qa_c (qv 0) (qa_c (qv 1) qac9)))))),?_⟩
 try dsimp only [cx_k,cx_kn,as_nil,as_name,Nat.reduceAdd]
 refine ⟨_,rfl,_,rfl,day,.ref p,rfl,la_dv3 hR hl,fun H1 s1=>?_⟩
 rw [qnl9 hR hW]
 refine ⟨_,rfl,iteF ?_⟩
 exact ⟨_,rfl,_,rfl,day,p,R,rfl,hR.same s1,(by show R.length<=1024; omega),by omega,hd,hW,fun l R' H2 s2 fl h1 h2 h3 h4=>q l R' H2 (s1.trans s2) (s1.free fl) h1 h2 h3 h4⟩
end
section
variable {P:Program} {w:World} {K:W.Frag} {mg:Str->Option Value} {base:Heap} {f:Addr} {fd:FuncData} {n:Nat}
theorem ok_cell (F:Fun K "_law_cell_at" "_law_cell_at" qbp9 f fd) (B:Bl mg):FnOk P w K mg base CX0 (n+1) f fd ["script","k"] (spCell K):=by
 refine F.okQ qgl9 (fun vs H Q E h=>?_) (fun cdv A outer s H vs Q E hr h=>?_)
 ·obtain ⟨_,_,_,rfl,_⟩:=h
  rfl
 obtain ⟨a,ns,k,rfl,hS,h0,q⟩:=h
 refine ⟨_,(qab9 (qs_if (qap9 qdv9 (qv 1) (qe_cb qat9 rfl B.len qcj9 (qa_c (qv 0) qac9)) (qay9 _)) (qae9 (qas9 (qe_ix qai9 (qv 0) (qv 1) (fun _ _=>rfl)))) qba9) (qae9 (qas9 qad9))),?_⟩
 try dsimp only [cx_k,cx_kn,as_nil,as_name,Nat.reduceAdd]
 have hl:(ns.map V.int).length=ns.length:=List.length_map _
 refine ⟨_,rfl,_,rfl,a,_,rfl,.inl hS,_,_,rfl,rfl,_,rfl,?_⟩
 refine ite2 (fun c=>?_) (fun c=>?_)
 ·have c':k < (((ns.map V.int).length:Nat):Int):=of_decide_eq_true c
  rw [hl] at c'
  obtain ⟨v,hv⟩:=at_int (ns:=ns) h0 (by omega)
  exact ⟨_,rfl,_,rfl,a,_,_,_,rfl,rfl,hS,hv,q v⟩
 ·exact q 0
theorem ok_day (F:Fun K "_law_day" "_law_day" qcy9 f fd):FnOk P w K mg base CX0 (n+1) f fd ["cell"] spDay:=by
 refine F.okQ qlt9 (fun vs H Q E h=>?_) (fun cdv A outer s H vs Q E hr h=>?_)
 ·obtain ⟨_,rfl,_⟩:=h
  rfl
 obtain ⟨c,rfl,q⟩:=h
 refine ⟨_,(qab9 (qs_if (qap9 qdn9 (qe_op qbf9 (qv 0) qad9) qad9 (qay9 _)) (qae9 (qas9 (qe_ix qai9 (qch9 (qa_c qad9 (qa_c qad9 (qa_c qad9 (qa_c qad9 (qa_c qad9 (qa_c (qe_op qhz9 qad9 qad9) qac9))))))) (qe_op qbf9 (qe_op qbh9 (qv 0) qad9) qad9) (fun _ _=>rfl)))) qba9) (qab9 (qs_if (qap9 qdn9 (qe_op qbf9 (qv 0) qad9) qad9 (qay9 _)) (qae9 (qas9 (qe_op qaw9 qad9 (qe_op qbf9 (qe_op qbh9 (qv 0) qad9) qad9)))) qba9) (qae9 (qas9 (qe_op qaw9 qad9 (qe_op qbf9 (qe_op qbh9 (qv 0) qad9) (qe_op qhz9 qad9 qad9))))))),?_⟩
 try dsimp only [cx_k,cx_kn,as_nil,as_name,Nat.reduceAdd]
 refine ⟨_,rfl,_,_,rfl,rfl,(by show (0:Int) < 3; decide),rfl,_,rfl,?_⟩
 refine ite2 (fun _=>?_) (fun _=>?_)
 ·refine ⟨_,_,rfl,rfl,⟨by decide,by decide,by decide⟩,(by show 6<=sizeLine; decide),fun p hp=>?_⟩
  obtain ⟨v,hv,v1,v2⟩:=day6 (c:=(10:Int) ^ (15:Int).toNat) (j:=c / 3 % 6) (by rw [pow15]; decide) (Int.emod_nonneg _ (by decide)) (Int.emod_lt_of_pos _ (by decide))
  refine ⟨_,rfl,_,_,rfl,rfl,⟨by decide,by decide⟩,_,_,rfl,rfl,(by show (0:Int) < 6; decide),p,_,_,.int v,rfl,rfl,SqL.of qaf9,hv,?_⟩
  exact q v _ v1 v2 (qal9 hp _)
 refine ⟨_,rfl,_,_,rfl,rfl,(by show (0:Int) < 3; decide),rfl,_,rfl,?_⟩
 refine ite2 (fun _=>?_) (fun _=>?_)
 ·refine ⟨_,rfl,_,_,rfl,rfl,⟨by decide,by decide⟩,_,_,rfl,rfl,(by show (0:Int) < 60; decide),_,_,rfl,rfl,?_⟩
  have h0:=Int.emod_nonneg (c / 3) (show (60:Int) ≠ 0 by decide)
  have h1:=Int.emod_lt_of_pos (c / 3) (show (0:Int) < 60 by decide)
  exact q _ H (by omega) (by omega) (Same.refl H)
 ·refine ⟨_,rfl,_,_,rfl,rfl,⟨by decide,by decide⟩,_,_,rfl,rfl,⟨by decide,by decide,by decide⟩,_,_,rfl,rfl,(by show (0:Int) < 10 ^ (15:Int).toNat; rw [pow15]; decide),_,_,rfl,rfl,?_⟩
  have h0:=Int.emod_nonneg (c / 3) (show ((10:Int) ^ (15:Int).toNat) ≠ 0 by rw [pow15]; decide)
  have h1:=Int.emod_lt_of_pos (c / 3) (show (0:Int) < (10:Int) ^ (15:Int).toNat by rw [pow15]; decide)
  refine q (1+c / 3 % (10:Int) ^ (15:Int).toNat) H ?_ ?_ (Same.refl H)
  ·generalize c / 3 % (10:Int) ^ (15:Int).toNat=v at *
   rw [pow15] at h1
   omega
  ·generalize c / 3 % (10:Int) ^ (15:Int).toNat=v at *
   rw [pow15] at h1
   omega
end
noncomputable def spNext:Sp:=fun vs H Q _=>∃ (day:Int) (r:Addr) (a b c t:Int),vs=[.int day,.ref r,.int t]/\0 < day/\Tup3 H r a b c/\Q (.int (Ma.nextO day a b t)) H
section
variable {P:Program} {w:World} {K:W.Frag} {mg:Str->Option Value} {base:Heap} {f:Addr} {fd:FuncData} {n:Nat}
theorem ok_next (F:Fun K "next_open" "next_open" qcl9 f fd) (B:Bl mg):FnOk P w K mg base CX0 (n+1) f fd ["day","window","t"] spNext:=by
 refine F.okQ sc_next_open (fun vs H Q E h=>?_) (fun cdv A outer s H vs Q E hr h=>?_)
 ·obtain ⟨_,_,_,_,_,_,rfl,_⟩:=h
  rfl
 obtain ⟨day,r,a,b,c,t,rfl,hd,hw,q⟩:=h
 refine ⟨_,(qab9 (qak9 (i:=3) sc_next_open.nd rfl (Or.inl rfl) (qe_op qbf9 (qv 2) (qv 0))) (qab9 (qak9 (i:=4) sc_next_open.nd rfl (Or.inl rfl) (qe_op qdi9 (qv 2) (qv 3))) (qab9 (qs_if (qap9 qfs9 (qv 3) (qe_ix qav9 (qv 1) qad9 (fun _ _=>rfl)) (qay9 _)) (qae9 (qas9 (qe_op qaw9 (qe_op qaw9 (qv 4) (qv 0)) (qe_ix qav9 (qv 1) qad9 (fun _ _=>rfl))))) qba9) (qae9 (qas9 (qe_op qaw9 (qv 4) (qe_cb (qht9 rfl) rfl B.max bt_max (qa_c (qv 3) (qa_c (qe_ix qav9 (qv 1) qad9 (fun _ _=>rfl)) qac9))))))))),?_⟩
 try dsimp only [cx_k,cx_kn,as_nil,as_name,Nat.reduceAdd]
 refine ⟨_,rfl,_,rfl,_,_,rfl,rfl,hd,?_⟩
 refine ⟨_,rfl,_,rfl,_,_,rfl,rfl,?_⟩
 refine ⟨_,rfl,_,rfl,r,_,_,_,rfl,rfl,SqT.of hw,rfl,_,_,rfl,rfl,_,rfl,?_⟩
 unfold Ma.nextO at q
 refine ite2 (fun c1=>?_) (fun c1=>?_)
 ·rw [if_pos (of_decide_eq_true c1)] at q
  exact ⟨_,rfl,_,rfl,_,_,rfl,rfl,_,rfl,r,_,_,_,rfl,rfl,SqT.of hw,rfl,_,_,rfl,rfl,q⟩
 ·rw [if_neg (fun z=>c1 (decide_eq_true z))] at q
  exact ⟨_,rfl,_,rfl,_,rfl,r,_,_,_,rfl,rfl,SqT.of hw,rfl,_,_,rfl,_,_,rfl,rfl,q⟩
end
theorem RowsAt.sameT {H H':Hp} {p P:Addr} {R:List T3} {pos:Pos} {qual:Str} (h:RowsAt H p R) (s:SameT P H H') (t:TabOk H P pos qual):RowsAt H' p R:=h.mono fun b o e n=>s b o e fun z=>by
 obtain ⟨ps,hp,_⟩:=t
 rw [z,hp] at e
 exact n ps (Option.some.inj e).symm
noncomputable def pAt (p:T3->Bool) (R:List T3) (i:Nat):Bool:=p (rA R i,rB R i,rC R i)
noncomputable def spLam (p:T3->Bool) (c':Addr) (qual:Str):Sp:=fun vs H Q _=>∃ (r:Addr) (t:T3),vs=[.ref r]/\H c'=some (.ext (CodeQ c' qual))/\H r=some (.tup [.int t.1,.int t.2.1,.int t.2.2])/\Q (.bl (p t)) H
noncomputable def spFW (p:T3->Bool) (fl c':Addr) (qual:Str):Sp:=fun vs H Q _=>∃ (pc:Addr) (R:List T3),vs=[.ref pc,.ref fl]/\H c'=some (.ext (CodeQ c' qual))/\RowsAt H pc R/\(∀ i j,i < j->j < R.length->pAt p R i=true->pAt p R j=true) /\
 ∀ m:Nat,m<=R.length->(∀ i,i < m->pAt p R i=false)->(m < R.length->pAt p R m=true)->Q (.int m) H
section
variable {P:Program} {w:World} {K:W.Frag} {mg:Str->Option Value} {base:Heap} {f:Addr} {fd:FuncData} {n:Nat}
theorem qhx9 {p:T3->Bool} {fl c':Addr} {fdl:FuncData} {qual:Str} (F:Fun K "first_where" "first_where" qaz9 f fd) (B:Bl mg) (G:FnOk P w K mg base CX0 n fl fdl ["window"] (spLam p c' qual)) (bG:Binds K fdl ["window"] []) (ho:W.FnAt fl base) :
  FnOk P w K mg base CX0 (n+1) f fd ["clock","holds"] (spFW p fl c' qual):=by
 refine F.okQ sc_first_where (fun vs H Q E h=>?_) (fun cdv A outer s H vs Q E hr h=>?_)
 ·obtain ⟨_,_,rfl,_⟩:=h
  rfl
 obtain ⟨pc,R,rfl,hc,hR,hmono,q⟩:=h
 refine ⟨_,(qab9 (qak9 (i:=2) sc_first_where.nd rfl (Or.inl rfl) qad9) (qab9 (qak9 (i:=3) sc_first_where.nd rfl (Or.inl rfl) (qe_cb qat9 rfl B.len qcj9 (qa_c (qv 0) qac9))) (qab9 (qef9 PassesOwn.never (qap9 qdv9 (qv 2) (qv 3) (qay9 _)) (qab9 (qak9 (i:=4) sc_first_where.nd rfl (Or.inl rfl) (qe_op qbh9 (qe_op qaw9 (qv 2) (qv 3)) qad9)) (qae9 (qs_if (qcq9 ⟨pe_clo 1 G hr bG ho (qa_c (qe_ix qai9 (qv 0) (qv 4) (fun _ _=>rfl)) qac9).run⟩) (qae9 (qak9 (i:=3) sc_first_where.nd rfl (Or.inl rfl) (qv 4))) (qae9 (qak9 (i:=2) sc_first_where.nd rfl (Or.inl rfl) (qe_op qaw9 (qv 4) qad9))))))) (qae9 (qas9 (qv 2)))))),?_⟩
 try dsimp only [cx_k,cx_kn,as_nil,as_name,Nat.reduceAdd]
 obtain ⟨xs,hS,hlen,hat⟩:=hR.at (K:=K)
 refine ⟨_,rfl,pc,_,rfl,.inl hS,?_⟩
 refine qed9 (fun σ H'=>H'=H/\∃ (lo hi:Nat) (v:Option V),σ=[some (.ref pc),some (.ref fl),some (.int lo),some (.int hi),v]/\lo<=hi/\hi<=R.length/\(∀ i,i < lo->pAt p R i=false)/\(∀ i,hi<=i->i < R.length->pAt p R i=true))
  (fun σ _=>match σ with | [_,_,some (.int l),some (.int h),_]=>(h - l).toNat | _=>0) ⟨rfl,0,R.length,none,by rw [hlen]; rfl,Nat.zero_le _,Nat.le_refl _,fun i hi=>absurd hi (Nat.not_lt_zero _),fun i h1 h2=>absurd h2 (Nat.not_lt.mpr h1)⟩ ?_ ?_
 ·intro σ H' z9;obtain ⟨rfl,lo,hi,v,rfl,l1,l2,l3,l4⟩ := z9
  refine ⟨_,rfl,_,rfl,_,_,rfl,rfl,_,rfl,?_⟩
  refine ite2 (fun c1=>?_) (fun c1=>?_)
  ·have c2:(lo:Int) < (hi:Int):=of_decide_eq_true c1
   refine ⟨_,rfl,_,rfl,_,_,rfl,rfl,_,_,rfl,rfl,⟨by decide,by decide⟩,?_⟩
   have m1:(lo:Int)<=((lo:Int)+hi) / 2:=by omega
   have m2:((lo:Int)+hi) / 2 < (hi:Int):=by omega
   obtain ⟨r,ha,hr'⟩:=hat (((lo:Int)+hi) / 2) (by omega) (by omega)
   refine ⟨rfl,_,rfl,_,rfl,pc,_,_,_,rfl,rfl,hS,ha,r,(rA R (((lo:Int)+hi) / 2).toNat,rB R (((lo:Int)+hi) / 2).toNat,rC R (((lo:Int)+hi) / 2).toNat),rfl,hc,hr',_,rfl,?_⟩
   refine ite2 (fun c3=>?_) (fun c3=>?_)
   ·refine ⟨_,rfl,⟨rfl,lo,(((lo:Int)+hi) / 2).toNat,some (.int (((lo:Int)+hi) / 2)),?_,by omega,by omega,l3,fun i h1 h2=>?_⟩,?_⟩
    ·show _=([some (.ref pc),some (.ref fl),some (.int lo),some (.int (((((lo:Int)+hi) / 2).toNat:Nat):Int)),some (.int (((lo:Int)+hi) / 2))]:List (Option V))
     rw [show (((((lo:Int)+hi) / 2).toNat:Nat):Int)=(((lo:Int)+hi) / 2) by omega]
     rfl
    ·rcases (by omega:i=(((lo:Int)+hi) / 2).toNat\/(((lo:Int)+hi) / 2).toNat < i) with e | e
     ·rw [e]; exact c3
     ·exact hmono _ _ e h2 c3
    ·show ((((lo:Int)+hi) / 2) - (lo:Int)).toNat < ((hi:Int) - (lo:Int)).toNat
     omega
   ·refine ⟨_,rfl,_,_,rfl,rfl,⟨rfl,(((lo:Int)+hi) / 2).toNat+1,hi,some (.int (((lo:Int)+hi) / 2)),?_,by omega,l2,fun i h1=>?_,l4⟩,?_⟩
    ·show _=([some (.ref pc),some (.ref fl),some (.int (((((lo:Int)+hi) / 2).toNat+1:Nat):Int)),some (.int hi),some (.int (((lo:Int)+hi) / 2))]:List (Option V))
     rw [show (((((lo:Int)+hi) / 2).toNat+1:Nat):Int)=(((lo:Int)+hi) / 2)+1 by omega]
     rfl
    ·have c4:pAt p R (((lo:Int)+hi) / 2).toNat=false:=Bool.eq_false_iff.mpr c3
     rcases (by omega:i=(((lo:Int)+hi) / 2).toNat\/i < (((lo:Int)+hi) / 2).toNat) with e | e
     ·rw [e]; exact c4
     ·refine Bool.eq_false_iff.mpr fun z=>?_
      have:=hmono _ _ e (by omega) z
      rw [c4] at this
      cases this
    ·show ((hi:Int) - ((((lo:Int)+hi) / 2)+1)).toNat < ((hi:Int) - (lo:Int)).toNat
     omega
  ·have c2:¬ (lo:Int) < (hi:Int):=fun z=>c1 (decide_eq_true z)
   have e:lo=hi:=by omega
   subst e
   exact ⟨_,rfl,q lo l2 l3 fun h=>l4 lo (Nat.le_refl _) h⟩
 ·intro σ H' Q1 Q2 hq z9;obtain ⟨v,e1,v',e2,i,j,e3,e4,k,e5,q1⟩ := z9
  exact ⟨v,e1,v',e2,i,j,e3,e4,k,e5,hq _ _ q1⟩
end
noncomputable def lamQ (x:Str):Str:=(x ++ ".<locals>.") ++ "<lambda>"
noncomputable def lamIn:Stmt->Expr
 | .Assign _ (.Call _ [_,l] _ _) _=>l
 | _=>.Constant .none 0 ⟨0,0,0,0⟩
noncomputable def lamSc:Expr->Scope
 | .Lambda _ _ sc _=>sc
 | _=>{ kind:=.function,names:=[],isGenerator:=false,isCoroutine:=false }
noncomputable def qkh9:Expr->Expr
 | .Lambda _ b _ _=>b
 | e=>e
noncomputable def qkp9:Expr->Arguments
 | .Lambda a _ _ _=>a
 | _=>{ posonlyargs:=[],args:=[],vararg:=none,kwonlyargs:=[],kw_defaults:=[],kwarg:=none,defaults:=[] }
theorem qey9 {y:Str} {c:Addr} (z:Str) (d:Addr) (e:([(y,c)]:List (Str × Addr)).lookup z=some d):z=y/\d=c:=by
 rw [List.lookup_cons] at e
 cases h:z == y with
 | true=>rw [h] at e; cases e; exact ⟨eq_of_beq h,rfl⟩
 | false=>rw [h] at e; cases e
theorem qkn9 {a b x:Str} {c:Addr} (h:([(a,NameKind.local),(b,NameKind.free)]:List (Str × NameKind)).lookup x=some .free):∃ d,([(b,c)]:List (Str × Addr)).lookup x=some d:=by
 rw [List.lookup_cons] at h
 cases h1:x == a with
 | true=>rw [h1] at h; cases h
 | false =>
  rw [h1] at h
  have h':([(b,NameKind.free)]:List (Str × NameKind)).lookup x=some .free:=h
  rw [List.lookup_cons] at h'
  cases h2:x == b with
  | true=>exact ⟨c,by rw [List.lookup_cons,h2]⟩
  | false=>rw [h2] at h'; cases h'
noncomputable def qop9 (P0:Addr) (pos:Pos):Sp:=fun vs H Q _=>∃ (day:Int) (pc:Addr) (t:Int) (R:List T3),vs=[.int day,.ref pc,.int t]/\RowsAt H pc R/\TabOk H P0 pos (lamQ "set_off")/\Ma.Clk day R.length (rA R) (rB R) (rC R) /\
 (R.length=0->Q .non H)/\(R.length ≠ 0->∀ (x y:Int) (r:Addr) (H':Hp),Ma.First day R.length (rA R) (rB R) (rC R) t x y->SameT P0 H H'->TabOk H' P0 pos (lamQ "set_off")->H' r=some (.tup [.int x,.int y])->Q (.ref r) H')
noncomputable def spCome (P0:Addr) (pos:Pos):Sp:=fun vs H Q _=>∃ (day:Int) (pc:Addr) (t:Int) (R:List T3),vs=[.int day,.ref pc,.int t]/\RowsAt H pc R/\TabOk H P0 pos (lamQ "set_off")/\Ma.Clk day R.length (rA R) (rB R) (rC R) /\
 (R.length=0->Q .non H)/\(R.length ≠ 0->∀ (x y:Int) (H':Hp),Ma.First day R.length (rA R) (rB R) (rC R) t x y->SameT P0 H H'->TabOk H' P0 pos (lamQ "set_off")->Q (.int y) H')
theorem TabOk.same {H H1:Hp} {P:Addr} {pos:Pos} {q:Str} (t:TabOk H P pos q) (a:Same H H1):TabOk H1 P pos q:=by
 obtain ⟨ps,h1,h2,h3⟩:=t
 refine ⟨ps,a _ _ h1,h2,?_⟩
 rcases h3 with h3 | ⟨c,h3,h4⟩
 ·exact .inl h3
 ·exact .inr ⟨c,h3,a _ _ h4⟩
noncomputable abbrev lamS:Expr:=lamIn ((qag9 qbl9).getD 2 (.Pass ⟨0,0,0,0⟩))
theorem sc_lamS (c:Addr):LamScope ["window","hour"] ["window"] (lamSc lamS) [("hour",c)]:=⟨rfl,rfl,rfl,by decide,rfl,by decide +kernel,by decide +kernel,fun _ h=>qkn9 h,fun x y d h1 h2=>(qey9 x d h1).1.trans (qey9 y d h2).1.symm⟩
noncomputable def spGS (v:V) (fl c':Addr):Sp:=match v with
 | .int hour=>spFW (fun t=>decide (hour<=t.2.1)) fl c' (lamQ "set_off")
 | _=>fun _ _ _ _=>False
section
variable {P:Program} {w:World} {K:W.Frag} {mg:Str->Option Value} {base:Heap} {f g:Addr} {fd gd:FuncData} {n:Nat}
theorem qcw9 {k:Nat} {ps:List Str} {f:Addr} {fd:FuncData}:FnOk P w K mg base CX0 k f fd ps (fun _ _ _ _=>False):=⟨fun _ _ _ _ h=>h.elim,fun _ _ _ _ _ _ _ _ _ _ _ _ _ h=>h.elim⟩
theorem ok_lamS {v:V} {fl c' cy:Addr} {pm ctv:Value} (FW:Fun K "first_where" "first_where" qaz9 g gd) (B:Bl mg)
  (hfl:base.get? fl=some (W.kla_obj "<lambda>" (lamQ "set_off") (qkp9 lamS) (qkh9 lamS) (lamSc lamS) [("hour",cy)] pm c' ctv)) (hca:qhl9 base (lamSc lamS) [("hour",cy)] ["window","hour"] ["window"] [v]) :
  FnOk P w K mg base CX0 2 g gd ["clock","holds"] (spGS v fl c'):=by
 cases v with
 | int hour =>
  refine qhx9 (n:=1) FW B (lam_ok (k:=0) (N:=["window","hour"]) (cs:=[.int hour]) hfl (fun vs H Q E h=>?_) (sc_lamS cy) hca (fun vs H Q E h=>?_) (fun A outer s H vs Q E hr h=>?_)) (Binds.all fun us hl=>match us,hl with | [_],_=>rfl) ⟨_,_,_,_,hfl⟩
  ·obtain ⟨_,_,_,h,_⟩:=h
   exact h
  ·obtain ⟨_,_,rfl,_⟩:=h
   rfl
  ·obtain ⟨r,t,rfl,hc,hr',q⟩:=h
   refine ⟨_,qna9 op_le (pv 1) (pe_ix ix_tup (pv 0) pe_int (fun _ _=>rfl)) (qay9 _),?_⟩
   exact ⟨_,rfl,_,rfl,r,_,_,_,rfl,rfl,SqT.of hr',rfl,_,_,rfl,rfl,q⟩
 | non=>exact qcw9
 | bl b=>exact qcw9
 | str x=>exact qcw9
 | byt b=>exact qcw9
 | flt b=>exact qcw9
 | ref a=>exact qcw9
 | ty n=>exact qcw9
theorem K0 {d:Int} {n:Nat} {A B C:Nat->Int} (h:Ma.Clk d n A B C):0 < d:=h.d0
theorem qoo9 {c P0:Addr} {oc kV doc pm ct:Value} {od an:Option Addr} {osl:Array (Option Value)} (lk:K.lookup f=some ⟨oc,od,.func (W.fnOf "set_off" "set_off" (qah9 qbl9) (qag9 qbl9) (qaa9 qbl9) .none kV doc pm an (.ref c) ct),osl⟩) (hcd:W.codeIn K (.ref c) "set_off" = true)
  (B:Bl mg) (hC:W.CodeHd base c P0) (hB:BMain mg base) (FW:Fun K "first_where" "first_where" qaz9 g gd) (bW:Binds K gd ["clock","holds"] []) (mW:mg "first_where" = some (.ref g)) (Co0:Callee P w K mg base 2 "next_open" ["day","window","t"] spNext) :
  FnOk P w K mg base CX0 3 f (W.fnOf "set_off" "set_off" (qah9 qbl9) (qag9 qbl9) (qaa9 qbl9) .none kV doc pm an (.ref c) ct) ["day","clock","t"] (qop9 P0 ⟨68,32,68,64⟩):=by
 refine fn_of lk hcd sc_set_off (fun vs H Q E h=>?_) (fun A outer s H vs Q E hr h=>?_)
 ·obtain ⟨_,_,_,_,rfl,_⟩:=h
  rfl
 obtain ⟨day,pc,t,R,rfl,hR,tab,hK,q0,q1⟩:=h
 refine ⟨_,PSs.nox (QSs.run (qab9 (qs_if (qap9 qdn9 (qe_cb qat9 rfl B.len qcj9 (qa_c (qv 1) qac9)) qad9 (qay9 _)) (qae9 (qas9 qmd9)) qba9) (qab9 (qak9 (i:=3) sc_set_off.nd rfl (Or.inr rfl) (qe_op qbf9 (qv 2) (qv 0))) (qab9 (qak9 (i:=4) sc_set_off.nd rfl (Or.inl rfl) ⟨qif9 (N:=["window","hour"]) (ps:=["window"]) 3 hr rfl mW FW.kp bW rfl rfl hC hB rfl rfl rfl (Or.inr (Or.inl rfl)) rfl rfl rfl qey9 rfl rfl (pv 1) (fun base' fl c' v pm ctv hfl hca=>ok_lamS FW B hfl hca)⟩) (qab9 (qak9 (i:=5) sc_set_off.nd rfl (Or.inl rfl) (qe_ix qai9 (qv 1) (qe_op qbf9 (qv 4) (qe_cb qat9 rfl B.len qcj9 (qa_c (qv 1) qac9))) (fun _ _=>rfl))) (qab9 (qak9 (i:=6) sc_set_off.nd rfl (Or.inl rfl) (qe_fn Co0 hr rfl (qa_c (qv 0) (qa_c (qv 5) (qa_c (qv 2) qac9))))) (qae9 (qas9 (qci9 (qa_c (qv 6) (qa_c (qe_op qaw9 (qv 6) (qe_ix qav9 (qv 5) qad9 (fun _ _=>rfl))) qac9))))))))))),?_⟩
 try dsimp only [cx_k,cx_kn,as_nil,as_name,Nat.reduceAdd]
 obtain ⟨xs,hS,hlen,hat⟩:=hR.at (K:=K)
 refine ⟨_,rfl,pc,_,rfl,.inl hS,rfl,_,rfl,?_⟩
 refine ite2 (fun c1=>?_) (fun c1=>?_)
 ·have c2:V.int ((xs.length:Nat):Int)=V.int 0:=of_decide_eq_true c1
  injection c2 with c3
  exact q0 (by omega)
 have n0:R.length ≠ 0:=fun z=>c1 (decide_eq_true (by rw [hlen,z]; rfl))
 refine ⟨_,rfl,_,rfl,_,_,rfl,rfl,K0 hK,?_⟩
 refine ⟨_,rfl,_,rfl,tab,fun fl c' H2 sm tb hc'=>?_⟩
 refine ⟨pc,R,rfl,hc',hR.sameT sm tab,fun i j hij hj hp=>?_,fun m m1 m2 m3=>?_⟩
 ·have a1:=of_decide_eq_true hp
  have:=hK.lt i j hij hj
  have:=hK.ab j hj
  exact decide_eq_true (by show t % day<=rB R j; have a2:t % day<=rB R i:=a1; omega)
 have hR2:=hR.sameT sm tab
 obtain ⟨xs2,hS2,hlen2,hat2⟩:=hR2.at (K:=K)
 have hm:((m:Int) % ((xs2.length:Nat):Int))=((m % R.length:Nat):Int):=by rw [hlen2]; rfl
 have hml:m % R.length < R.length:=Nat.mod_lt _ (by omega)
 obtain ⟨r,ha,hr'⟩:=hat2 ((m % R.length:Nat):Int) (Int.natCast_nonneg _) (by omega)
 refine ⟨_,rfl,_,rfl,_,rfl,pc,_,rfl,.inl hS2,_,_,rfl,rfl,(by show 0 < ((xs2.length:Nat):Int); omega),pc,_,_,.ref r,rfl,rfl,hS2,by rw [hm]; exact ha,?_⟩
 refine ⟨_,rfl,_,rfl,_,rfl,day,r,_,_,_,t,rfl,hK.d0,hr',?_⟩
 refine ⟨_,rfl,_,rfl,_,rfl,r,_,_,_,rfl,rfl,SqT.of hr',rfl,_,_,rfl,rfl,(by show 2<=sizeLine; decide),fun r2 hr2=>?_⟩
 refine q1 n0 _ _ r2 _ (Ma.first_of hK (by omega) m1 (fun i hi=>?_) (fun hi=>?_) (i:=m % R.length) rfl) (SameT.trans sm (SameT.same (qal9 hr2 _))) (TabOk.same tb (qal9 hr2 _)) qaf9
 ·have z:=m2 i hi
  exact of_decide_eq_false z
 ·exact of_decide_eq_true (m3 hi)
theorem ok_come {P0:Addr} {pos:Pos} (F:Fun K "come" "come" qgy9 f fd) (Cl1:Callee P w K mg base n "set_off" ["day","clock","t"] (qop9 P0 pos)):FnOk P w K mg base CX0 (n+1) f fd ["day","clock","t"] (spCome P0 pos):=by
 refine F.okQ sc_come (fun vs H Q E h=>?_) (fun cdv A outer s H vs Q E hr h=>?_)
 ·obtain ⟨_,_,_,_,rfl,_⟩:=h
  rfl
 obtain ⟨day,pc,t,R,rfl,hR,tab,hK,q0,q1⟩:=h
 refine ⟨_,(qab9 (qak9 (i:=3) sc_come.nd rfl (Or.inl rfl) (qe_fn Cl1 hr rfl (qa_c (qv 0) (qa_c (qv 1) (qa_c (qv 2) qac9))))) (qab9 (qs_if (qt_isN (qv 3)) (qae9 (qas9 qmd9)) qba9) (qae9 (qas9 (qe_ix qav9 (qv 3) qad9 (fun _ _=>rfl)))))),?_⟩
 try dsimp only [cx_k,cx_kn,as_nil,as_name,Nat.reduceAdd]
 refine ⟨_,rfl,_,rfl,_,rfl,day,pc,t,R,rfl,hR,tab,hK,fun e0=>?_,fun n0 x y r H' hF sm tb hr'=>?_⟩
 ·refine ⟨_,rfl,_,rfl,iteP (decide_eq_true rfl) (q0 e0)⟩
 ·refine ⟨_,rfl,_,rfl,iteN (by simp) ?_⟩
  exact ⟨_,rfl,r,_,_,_,rfl,rfl,SqT.of hr',rfl,q1 n0 x y H' hF sm tb⟩
end
theorem tab_wr {H:Hp} {P p:Addr} {pos:Pos} {q:Str} {xs ys:List V} (t:TabOk H P pos q) (e:H p=some (.lst xs)):TabOk (upd H p (.lst ys)) P pos q:=by
 obtain ⟨ps,h1,h2,h3⟩:=t
 refine ⟨ps,by rw [qao9 (fun z=>by rw [z,e] at h1; cases h1)]; exact h1,h2,?_⟩
 rcases h3 with h3 | ⟨c,h3,h4⟩
 ·exact .inl h3
 ·exact .inr ⟨c,h3,by rw [qao9 (fun z=>by rw [z,e] at h4; cases h4)]; exact h4⟩
theorem tb_one (P:Addr) (pos:Pos) (q:Str):TB fun H=>TabOk H P pos q:=⟨fun _ _ t s=>TabOk.same t s,fun _ _ _ _ t e=>tab_wr t e⟩
theorem TB.and {T T':Hp->Prop} (h:TB T) (h':TB T'):TB fun H=>T H/\T' H:=⟨fun H H' t s=>⟨h.same H H' t.1 s,h'.same H H' t.2 s⟩,fun H p xs ys t e=>⟨h.wr H p xs ys t.1 e,h'.wr H p xs ys t.2 e⟩⟩
noncomputable def qir9 (T:Hp->Prop):Sp:=fun vs H Q _=>∃ (day:Int) (p:Addr) (t:Int) (R:List T3),vs=[.int day,.ref p,.int t]/\LA enc3 H p R/\T H/\Ma.CK day R/\∀ H',SameU H H'->T H'->Q (optV (Ma.bt day R t)) H'
theorem come_T {P:Program} {w:World} {K:W.Frag} {mg:Str->Option Value} {base:Heap} {n:Nat} {T:Hp->Prop} {P0:Addr} {pos:Pos} (C:Callee P w K mg base n "come" ["day","clock","t"] (spCome P0 pos)) (h1:∀ H,T H->TabOk H P0 pos (lamQ "set_off"))
  (h2:∀ H H',T H->SameT P0 H H'->TabOk H' P0 pos (lamQ "set_off")->T H'):Callee P w K mg base n "come" ["day","clock","t"] (qir9 T):=Callee.imp C fun vs H Q E h=>by
 obtain ⟨day,p,t,R,rfl,hR,hT,ck,q⟩:=h
 refine ⟨day,p,t,R,rfl,hR.rows,h1 H hT,ck.clk,fun e=>?_,fun n0 x y H' hF sm tb=>?_⟩
 ·have e':=List.length_eq_zero_iff.mp e
  subst e'
  exact q H (SameU.refl H) hT
 ·have:=q H' (SameU.tab sm (h1 H hT) tb) (h2 H H' hT sm tb)
  rw [Ma.first_bt ck.clk hF] at this
  exact this
theorem qbx9 {H H':Hp} {P P0:Addr} {pos pos0:Pos} {q q0:Str} (t:TabOk H P pos q) (t0:TabOk H P0 pos0 q0) (s:SameT P0 H H') (ne:P ≠ P0):TabOk H' P pos q:=by
 obtain ⟨ps,h1,h2,h3⟩:=t
 refine ⟨ps,s _ _ h1 ne,h2,?_⟩
 rcases h3 with h3 | ⟨c,h3,h4⟩
 ·exact .inl h3
 ·refine .inr ⟨c,h3,s _ _ h4 fun z=>?_⟩
  obtain ⟨ps0,g1,_⟩:=t0
  rw [z,g1] at h4
  cases h4
noncomputable def spLamG {α:Type} (enc:α->List V) (p:α->Bool) (c':Addr) (qual:Str):Sp:=fun vs H Q _=>∃ (r:Addr) (x:α),vs=[.ref r]/\H c'=some (.ext (CodeQ c' qual))/\H r=some (.tup (enc x))/\Q (.bl (p x)) H
noncomputable def spFWG {α:Type} (enc:α->List V) (p:α->Bool) (fl c':Addr) (qual:Str):Sp:=fun vs H Q _=>∃ (pc:Addr) (xs:List α),vs=[.ref pc,.ref fl]/\H c'=some (.ext (CodeQ c' qual))/\LA enc H pc xs /\
 (∀ (i j:Nat) x y,i < j->xs[i]?=some x->xs[j]?=some y->p x=true->p y=true) /\
 ∀ m:Nat,m<=xs.length->(∀ (i:Nat) x,i < m->xs[i]?=some x->p x=false)->(∀ x,xs[m]?=some x->p x=true)->Q (.int m) H
section
variable {P:Program} {w:World} {K:W.Frag} {mg:Str->Option Value} {base:Heap} {f:Addr} {fd:FuncData} {n:Nat}
theorem qgm9 {α:Type} {enc:α->List V} {p:α->Bool} {fl c':Addr} {fdl:FuncData} {qual:Str} {v0:Str} (F:Fun K "first_where" "first_where" qaz9 f fd) (B:Bl mg) (G:FnOk P w K mg base CX0 n fl fdl [v0] (spLamG enc p c' qual)) (bG:Binds K fdl [v0] []) (ho:W.FnAt fl base) :
  FnOk P w K mg base CX0 (n+1) f fd ["clock","holds"] (spFWG enc p fl c' qual):=by
 refine F.okQ sc_first_where (fun vs H Q E h=>?_) (fun cdv A outer s H vs Q E hr h=>?_)
 ·obtain ⟨_,_,rfl,_⟩:=h
  rfl
 obtain ⟨pc,xs,rfl,hc,hR,hmono,q⟩:=h
 refine ⟨_,(qab9 (qak9 (i:=2) sc_first_where.nd rfl (Or.inl rfl) qad9) (qab9 (qak9 (i:=3) sc_first_where.nd rfl (Or.inl rfl) (qe_cb qat9 rfl B.len qcj9 (qa_c (qv 0) qac9))) (qab9 (qef9 PassesOwn.never (qap9 qdv9 (qv 2) (qv 3) (qay9 _)) (qab9 (qak9 (i:=4) sc_first_where.nd rfl (Or.inl rfl) (qe_op qbh9 (qe_op qaw9 (qv 2) (qv 3)) qad9)) (qae9 (qs_if (qcq9 ⟨pe_clo 1 G hr bG ho (qa_c (qe_ix qai9 (qv 0) (qv 4) (fun _ _=>rfl)) qac9).run⟩) (qae9 (qak9 (i:=3) sc_first_where.nd rfl (Or.inl rfl) (qv 4))) (qae9 (qak9 (i:=2) sc_first_where.nd rfl (Or.inl rfl) (qe_op qaw9 (qv 4) qad9))))))) (qae9 (qas9 (qv 2)))))),?_⟩
 try dsimp only [cx_k,cx_kn,as_nil,as_name,Nat.reduceAdd]
 obtain ⟨vs,hv,hlen,hat⟩:=hR.at (K:=K)
 refine ⟨_,rfl,pc,_,rfl,.inl (SqL.of hv),?_⟩
 refine qed9 (fun σ H'=>H'=H/\∃ (lo hi:Nat) (v:Option V),σ=[some (.ref pc),some (.ref fl),some (.int lo),some (.int hi),v]/\lo<=hi/\hi<=xs.length/\(∀ (i:Nat) x,i < lo->xs[i]?=some x->p x=false)/\(∀ (i:Nat) x,hi<=i->xs[i]?=some x->p x=true))
  (fun σ _=>match σ with | [_,_,some (.int l),some (.int h),_]=>(h - l).toNat | _=>0) ⟨rfl,0,xs.length,none,by rw [hlen]; rfl,Nat.zero_le _,Nat.le_refl _,fun i x hi=>absurd hi (Nat.not_lt_zero _),fun i x h1 h2=>absurd (List.getElem?_eq_some_iff.mp h2).1 (Nat.not_lt.mpr h1)⟩ ?_ ?_
 ·intro σ H' z9;obtain ⟨rfl,lo,hi,v,rfl,l1,l2,l3,l4⟩ := z9
  refine ⟨_,rfl,_,rfl,_,_,rfl,rfl,_,rfl,?_⟩
  refine ite2 (fun c1=>?_) (fun c1=>?_)
  ·have c2:(lo:Int) < (hi:Int):=of_decide_eq_true c1
   refine ⟨_,rfl,_,rfl,_,_,rfl,rfl,_,_,rfl,rfl,⟨by decide,by decide⟩,?_⟩
   have m1:(lo:Int)<=((lo:Int)+hi) / 2:=by omega
   have m2:((lo:Int)+hi) / 2 < (hi:Int):=by omega
   have hk:(((lo:Int)+hi) / 2).toNat < xs.length:=by omega
   have ex:=List.getElem?_eq_getElem hk
   obtain ⟨r,ha,hr'⟩:=hat _ _ ex
   have ek:((((((lo:Int)+hi) / 2).toNat:Nat)):Int)=((lo:Int)+hi) / 2:=by omega
   rw [ek] at ha
   refine ⟨rfl,_,rfl,_,rfl,pc,_,_,_,rfl,rfl,SqL.of hv,ha,r,_,rfl,hc,hr',_,rfl,?_⟩
   refine ite2 (fun c3=>?_) (fun c3=>?_)
   ·refine ⟨_,rfl,⟨rfl,lo,(((lo:Int)+hi) / 2).toNat,some (.int (((lo:Int)+hi) / 2)),?_,by omega,by omega,l3,fun i x h1 h2=>?_⟩,?_⟩
    ·rw [ek]
     rfl
    ·rcases (by omega:i=(((lo:Int)+hi) / 2).toNat\/(((lo:Int)+hi) / 2).toNat < i) with e | e
     ·rw [e,ex] at h2
      cases h2
      exact c3
     ·exact hmono _ _ _ _ e ex h2 c3
    ·show ((((lo:Int)+hi) / 2) - (lo:Int)).toNat < ((hi:Int) - (lo:Int)).toNat
     omega
   ·refine ⟨_,rfl,_,_,rfl,rfl,⟨rfl,(((lo:Int)+hi) / 2).toNat+1,hi,some (.int (((lo:Int)+hi) / 2)),?_,by omega,l2,fun i x h1 h2=>?_,l4⟩,?_⟩
    ·rw [show (((((lo:Int)+hi) / 2).toNat+1:Nat):Int)=(((lo:Int)+hi) / 2)+1 by omega]
     rfl
    ·have c4:p xs[(((lo:Int)+hi) / 2).toNat]=false:=Bool.eq_false_iff.mpr c3
     rcases (by omega:i=(((lo:Int)+hi) / 2).toNat\/i < (((lo:Int)+hi) / 2).toNat) with e | e
     ·rw [e,ex] at h2
      cases h2
      exact c4
     ·refine Bool.eq_false_iff.mpr fun z=>?_
      have:=hmono _ _ _ _ e h2 ex z
      rw [c4] at this
      cases this
    ·show ((hi:Int) - ((((lo:Int)+hi) / 2)+1)).toNat < ((hi:Int) - (lo:Int)).toNat
     omega
  ·have c2:¬ (lo:Int) < (hi:Int):=fun z=>c1 (decide_eq_true z)
   have e:lo=hi:=by omega
   subst e
   exact ⟨_,rfl,q lo l2 l3 fun x h=>l4 lo x (Nat.le_refl _) h⟩
 ·intro σ H' Q1 Q2 hq z9;obtain ⟨v,e1,v',e2,i,j,e3,e4,k,e5,q1⟩ := z9
  exact ⟨v,e1,v',e2,i,j,e3,e4,k,e5,hq _ _ q1⟩
end
noncomputable def qoc9 (P0:Addr) (pos:Pos):Sp:=fun vs H Q _=>∃ (day p qq ride:Int) (po:Addr) (S:List T4) (g:Int->Int),vs=[.int day,.int p,.int qq,.int ride,.ref po]/\LA enc4 H po S/\TabOk H P0 pos (lamQ "ridden")/\S.length<=4000000/\0 < day/\p<=qq/\qq < p+day/\Ma.Rise day g/\Ma.Cov g 0 S day /\
 ∀ (l:Addr) (S':List T4) (H':Hp),SameT P0 H H'->TabOk H' P0 pos (lamQ "ridden")->H l=none->LA enc4 H' l S'->S'.length<=S.length+1->Ma.Cov (fun x=>g (x+ride)) p S' (qq+1)->Q (.ref l) H'
noncomputable abbrev lamR:Expr:=lamIn ((qag9 qbv9).getD 2 (.Pass ⟨0,0,0,0⟩))
theorem sc_lamR (c:Addr):LamScope ["row","hour"] ["row"] (lamSc lamR) [("hour",c)]:=⟨rfl,rfl,rfl,by decide,rfl,by decide +kernel,by decide +kernel,fun _ h=>qkn9 h,fun x y d h1 h2=>(qey9 x d h1).1.trans (qey9 y d h2).1.symm⟩
noncomputable def spGR (v:V) (fl c':Addr):Sp:=match v with
 | .int hour=>spFWG enc4 (fun t=>decide (hour<=t.2.1)) fl c' (lamQ "ridden")
 | _=>fun _ _ _ _=>False
section
variable {P:Program} {w:World} {K:W.Frag} {mg:Str->Option Value} {base:Heap} {f g:Addr} {fd gd:FuncData} {n:Nat}
theorem ok_lamR {v:V} {fl c' cy:Addr} {pm ctv:Value} (FW:Fun K "first_where" "first_where" qaz9 g gd) (B:Bl mg)
  (hfl:base.get? fl=some (W.kla_obj "<lambda>" (lamQ "ridden") (qkp9 lamR) (qkh9 lamR) (lamSc lamR) [("hour",cy)] pm c' ctv)) (hca:qhl9 base (lamSc lamR) [("hour",cy)] ["row","hour"] ["row"] [v]) :
  FnOk P w K mg base CX0 2 g gd ["clock","holds"] (spGR v fl c'):=by
 cases v with
 | int hour =>
  refine qgm9 (n:=1) (v0 := "row") FW B (lam_ok (k:=0) (N:=["row","hour"]) (cs:=[.int hour]) hfl (fun vs H Q E h=>?_) (sc_lamR cy) hca (fun vs H Q E h=>?_) (fun A outer s H vs Q E hr h=>?_)) (Binds.all fun us hl=>match us,hl with | [_],_=>rfl) ⟨_,_,_,_,hfl⟩
  ·obtain ⟨_,_,_,h,_⟩:=h
   exact h
  ·obtain ⟨_,_,rfl,_⟩:=h
   rfl
  ·obtain ⟨r,t,rfl,hc,hr',q⟩:=h
   refine ⟨_,qna9 op_le (pv 1) (pe_ix ix_tup (pv 0) pe_int (fun _ _=>rfl)) (qay9 _),?_⟩
   exact ⟨_,rfl,_,rfl,r,_,_,_,rfl,rfl,SqT.of hr',rfl,_,_,rfl,rfl,q⟩
 | non=>exact qcw9
 | bl b=>exact qcw9
 | str x=>exact qcw9
 | byt b=>exact qcw9
 | flt b=>exact qcw9
 | ref a=>exact qcw9
 | ty n=>exact qcw9
theorem ok_ridden {c P0:Addr} {oc kV doc pm ct:Value} {od an:Option Addr} {osl:Array (Option Value)} (lk:K.lookup f=some ⟨oc,od,.func (W.fnOf "ridden" "ridden" (qah9 qbv9) (qag9 qbv9) (qaa9 qbv9) .none kV doc pm an (.ref c) ct),osl⟩) (hcd:W.codeIn K (.ref c) "ridden" = true)
  (B:Bl mg) (hC:W.CodeHd base c P0) (hB:BMain mg base) (FW:Fun K "first_where" "first_where" qaz9 g gd) (bW:Binds K gd ["clock","holds"] []) (mW:mg "first_where" = some (.ref g)) :
  FnOk P w K mg base CX0 3 f (W.fnOf "ridden" "ridden" (qah9 qbv9) (qag9 qbv9) (qaa9 qbv9) .none kV doc pm an (.ref c) ct) ["day","p","q","ride","others"] (qoc9 P0 ⟨154,28,154,54⟩):=by
 refine fn_of lk hcd sc_ridden (fun vs H Q E h=>?_) (fun A outer s H vs Q E hr h=>?_)
 ·obtain ⟨_,_,_,_,_,_,_,rfl,_⟩:=h
  rfl
 obtain ⟨day,p0,qq,ride,po,S,gg,rfl,hS,tab,hSl,hd,pq,qd,rg,hCv,q⟩:=h
 refine ⟨_,PSs.nox (QSs.run (qab9 (qak9 (i:=5) sc_ridden.nd rfl (Or.inr rfl) (qe_op qbf9 (qe_op qaw9 (qv 1) (qv 3)) (qv 0))) (qab9 (qak9 (i:=6) sc_ridden.nd rfl (Or.inl rfl) (qe_op qdi9 (qe_op qaw9 (qv 1) (qv 3)) (qv 5))) (qab9 (qak9 (i:=7) sc_ridden.nd rfl (Or.inl rfl) ⟨qif9 (N:=["row","hour"]) (ps:=["row"]) 5 hr rfl mW FW.kp bW rfl rfl hC hB rfl rfl rfl (Or.inr (Or.inl rfl)) rfl rfl rfl qey9 rfl rfl (pv 4) (fun base' fl c' v pm ctv hfl hca=>ok_lamR FW B hfl hca)⟩) (qab9 (qak9 (i:=8) sc_ridden.nd rfl (Or.inl rfl) (qch9 qac9)) (qab9 (qef9 PassesOwn.never (qap9 qjm9 (qv 1) (qv 2) (qay9 _)) (qab9 (qak9 (i:=9) sc_ridden.nd rfl (Or.inl rfl) (qe_cb (qfx9 rfl) rfl B.min bt_min (qa_c (qv 2) (qa_c (qe_op qdi9 (qe_op qaw9 (qv 6) (qe_ix qav9 (qe_ix qai9 (qv 4) (qv 7) (fun _ _=>rfl)) qad9 (fun _ _=>rfl))) (qv 3)) qac9)))) (qev9 (qs_if (qcq9 (qe_ix qav9 (qe_ix qai9 (qv 4) (qv 7) (fun _ _=>rfl)) qad9 (fun _ _=>rfl))) (qae9 (qbc9 (qbg9 (qv 8) (qa_c (qci9 (qa_c (qv 1) (qa_c (qv 9) (qa_c qe_bl (qa_c (qe_op qaw9 (qv 6) (qe_ix qav9 (qe_ix qai9 (qv 4) (qv 7) (fun _ _=>rfl)) qad9 (fun _ _=>rfl))) qac9))))) qac9)))) (qae9 (qbc9 (qbg9 (qv 8) (qa_c (qci9 (qa_c (qv 1) (qa_c (qv 9) (qa_c qe_bl (qa_c (qe_op qaw9 (qv 3) (qe_ix qav9 (qe_ix qai9 (qv 4) (qv 7) (fun _ _=>rfl)) qad9 (fun _ _=>rfl))) qac9))))) qac9))))) (qab9 (qak9 (i:=1) sc_ridden.nd rfl (Or.inl rfl) (qe_op qaw9 (qv 9) qad9)) (qab9 (qoi9 (i:=7) sc_ridden.nd rfl (Or.inl rfl) ip_add qad9) (qae9 (qs_if (qap9 qdn9 (qv 7) (qe_cb qat9 rfl B.len qcj9 (qa_c (qv 4) qac9)) (qay9 _)) (qab9 (qak9 (i:=7) sc_ridden.nd rfl (Or.inl rfl) qad9) (qae9 (qoi9 (i:=6) sc_ridden.nd rfl (Or.inl rfl) ip_add (qv 0)))) qba9))))))) (qae9 (qas9 (qv 8))))))))),?_⟩
 try dsimp only [cx_k,cx_kn,as_nil,as_name,Nat.reduceAdd]
 refine ⟨_,rfl,_,rfl,_,_,rfl,rfl,_,rfl,_,_,rfl,rfl,hd,?_⟩
 obtain ⟨qt,eq0,h0,h1⟩:=Ma.split day (p0+ride) hd
 dsimp only
 generalize (p0+ride) % day=hour at *
 refine ⟨_,rfl,_,rfl,_,_,rfl,rfl,_,rfl,_,_,rfl,rfl,?_⟩
 dsimp only
 generalize hm0:p0+ride - hour=mid0
 have em0:mid0=day * qt:=by omega
 refine ⟨_,rfl,_,rfl,tab,fun fl c' H2 sm tb hc'=>?_⟩
 have su:=SameU.tab sm tab tb
 have hS2:=hS.u su
 refine ⟨po,S,rfl,hc',hS2,fun i j x y hij ex ey hp=>?_,fun k0 m1 m2 m3=>?_⟩
 ·have a1:hour<=x.2.1:=of_decide_eq_true hp
  have:=hCv.lt ex ey hij
  have:=(hCv.get ey).2.1
  exact decide_eq_true (by show hour<=y.2.1; omega)
 have hk0:k0 < S.length:=by
  rcases Nat.lt_or_ge k0 S.length with z | z
  ·exact z
  ·exfalso
   obtain ⟨i,r,er,r1,r2⟩:=hCv.find h0 h1
   have hi:=(List.getElem?_eq_some_iff.mp er).1
   have:=of_decide_eq_false (m2 i r (by omega) er)
   omega
 have er0:=List.getElem?_eq_getElem hk0
 generalize hr0:S[k0]=r0 at *
 have r0b:hour<=r0.2.1:=of_decide_eq_true (m3 r0 er0)
 have r0a:r0.1<=hour:=by
  rcases Nat.eq_zero_or_pos k0 with z | z
  ·have:=(hCv.get er0).2.2.2.2.1 z
   omega
  ·have hk:k0 - 1 < S.length:=by omega
   have e1:=List.getElem?_eq_getElem hk
   have:=of_decide_eq_false (m2 (k0 - 1) _ (by omega) e1)
   have:=(hCv.get e1).2.2.2.2.2.1 r0 (by rw [show k0 - 1+1=k0 by omega]; exact er0)
   omega
 refine ⟨(by show 0<=sizeLine; decide),fun pr hpr=>?_⟩
 have sr:Same H2 (upd H2 pr (.lst [])):=qal9 hpr _
 refine qed9 (fun σ H'=>∃ (S':List T4) (p m:Int) (k:Nat) (v:Option V),σ=[some (.int day),some (.int p),some (.int qq),some (.int ride),some (.ref po),some (.int hour),some (.int m),some (.int k),some (.ref pr),v] /\
   Same H2 H'/\LA enc4 H' pr S'/\Ma.Cov (fun x=>gg (x+ride)) p0 S' p/\p<=qq+1/\S'.length<=S.length+1 /\
   (p<=qq->(∃ kk,m=day * kk)/\(∃ r,S[k]?=some r/\m+r.1<=p+ride/\p+ride<=m+r.2.1)/\((m=mid0/\S'.length+k0=k)\/(m=mid0+day/\S'.length+k0=S.length+k/\k<=k0))))
  (fun σ _=>match σ with | [_,some (.int p),_,_,_,_,_,_,_,_]=>(qq+1 - p).toNat | _=>0) ?_ ?_ ?_
 ·exact ⟨[],p0,mid0,k0,none,rfl,sr,LA.nil qaf9,rfl,by omega,by simp,fun _=>⟨⟨qt,em0⟩,⟨r0,er0,by omega,by omega⟩,.inl ⟨rfl,by simp⟩⟩⟩
 ·intro σ H3 z9;obtain ⟨S',p,m,k,v,rfl,s3,hS',cv,pl,sl,hin⟩ := z9
  refine ⟨_,rfl,_,rfl,_,_,rfl,rfl,_,rfl,?_⟩
  refine ite2 (fun c=>?_) (fun c=>?_)
  ·have c':p<=qq:=of_decide_eq_true c
   obtain ⟨⟨kk,em⟩,⟨r,er,x1,x2⟩,hw⟩:=hin c'
   obtain ⟨g1,g2,g3,g4,g5,g6,g7⟩:=hCv.get er
   have hkS:=(List.getElem?_eq_some_iff.mp er).1
   obtain ⟨us,u1,u2,u3⟩:=(hS2.same s3).at (K:=K)
   obtain ⟨ra,ua,ub⟩:=u3 k _ er
   refine ⟨_,rfl,_,rfl,_,rfl,_,rfl,po,_,_,_,rfl,rfl,SqL.of u1,ua,ra,_,_,_,rfl,rfl,SqT.of ub,rfl,_,_,rfl,rfl,_,rfl,_,_,rfl,rfl,_,_,rfl,?_⟩
   generalize he:(if m+r.2.1 - ride < qq then m+r.2.1 - ride else qq)=e
   have e1:p<=e:=by rw [<- he]; split <;> omega
   have e2:e<=qq:=by rw [<- he]; split <;> omega
   have e3:e+ride<=m+r.2.1:=by rw [<- he]; split <;> omega
   have e4:e < qq->e+ride=m+r.2.1:=by rw [<- he]; split <;> omega
   have rc:=Ma.ride_cov rg em e1 x1 e3 g4
   obtain ⟨vs,v1,v2,v3⟩:=hS'.lst
   refine ⟨fun σ' H'=>σ'=[some (.int day),some (.int p),some (.int qq),some (.int ride),some (.ref po),some (.int hour),some (.int m),some (.int k),some (.ref pr),some (.int e)]/\Same H2 H'/\LA enc4 H' pr (S' ++ [Ma.rideRow p e m ride r]),?_,?_⟩
   ·refine ⟨_,rfl,_,rfl,po,_,_,_,rfl,rfl,SqL.of u1,ua,ra,_,_,_,rfl,rfl,SqT.of ub,rfl,_,rfl,?_⟩
    unfold Ma.rideRow
    refine ite2 (fun z=>?_) (fun z=>?_)
    ·rw [if_pos z]
     refine ⟨_,rfl,.inl ⟨rfl,_,SqL.of v1⟩,_,rfl,_,rfl,_,rfl,_,rfl,_,rfl,po,_,_,_,rfl,rfl,SqL.of u1,ua,ra,_,_,_,rfl,rfl,SqT.of ub,rfl,_,_,rfl,rfl,(by show 4<=sizeLine; decide),fun rn hrn=>?_⟩
     have s4:=qal9 hrn (.tup [.int p,.int e,.bl true,.int (m+r.2.2.2)])
     exact ⟨pr,vs,.ref rn,rfl,rfl,s4 _ _ v1,qbj9 (by omega),rfl,qcx9 hpr (s3.trans s4),(hS'.same s4).append (x:=(p,e,true,m+r.2.2.2)) (s4 _ _ v1) qaf9⟩
    ·rw [if_neg z]
     refine ⟨_,rfl,.inl ⟨rfl,_,SqL.of v1⟩,_,rfl,_,rfl,_,rfl,_,rfl,_,rfl,po,_,_,_,rfl,rfl,SqL.of u1,ua,ra,_,_,_,rfl,rfl,SqT.of ub,rfl,_,_,rfl,rfl,(by show 4<=sizeLine; decide),fun rn hrn=>?_⟩
     have s4:=qal9 hrn (.tup [.int p,.int e,.bl false,.int (ride+r.2.2.2)])
     exact ⟨pr,vs,.ref rn,rfl,rfl,s4 _ _ v1,qbj9 (by omega),rfl,qcx9 hpr (s3.trans s4),(hS'.same s4).append (x:=(p,e,false,ride+r.2.2.2)) (s4 _ _ v1) qaf9⟩
   intro σ' H4 z9;obtain ⟨rfl,s4,hS4⟩ := z9
   refine ⟨_,rfl,_,_,rfl,rfl,?_⟩
   refine ⟨_,rfl,_,_,rfl,rfl,?_⟩
   obtain ⟨us,u1,u2,u3⟩:=(hS2.same s4).at (K:=K)
   have cv4:=cv.append rc
   have sl4:(S' ++ [Ma.rideRow p e m ride r]).length<=S.length+1:=by
    rw [List.length_append,List.length_singleton]
    rcases hw with ⟨_,z⟩ | ⟨_,z,z2⟩ <;> omega
   have ek:((k:Int)+1)=(((k+1:Nat)):Int):=by omega
   have nxt:∀ (m':Int) (k':Nat),(k+1 < S.length->m'=m/\k'=k+1)->(k+1=S.length->m'=m+day/\k'=0)->(e+1<=qq->(∃ kk,m'=day * kk)/\(∃ r,S[k']?=some r/\m'+r.1<=e+1+ride/\e+1+ride<=m'+r.2.1)/\((m'=mid0/\(S' ++ [Ma.rideRow p e m ride r]).length+k0=k')\/(m'=mid0+day/\(S' ++ [Ma.rideRow p e m ride r]).length+k0=S.length+k'/\k'<=k0))):=by
    intro m' k' ha hb lt
    have e5:=e4 (by omega)
    rw [List.length_append,List.length_singleton]
    rcases (by omega:k+1 < S.length\/k+1=S.length) with z | z
    ·obtain ⟨rfl,rfl⟩:=ha z
     have en:=List.getElem?_eq_getElem z
     have q1:=g6 _ en
     have q2:=(hCv.get en).2.1
     refine ⟨⟨kk,em⟩,⟨_,en,by omega,by omega⟩,?_⟩
     rcases hw with ⟨y1,y2⟩ | ⟨y1,y2,y3⟩
     ·exact .inl ⟨y1,by omega⟩
     ·refine .inr ⟨y1,by omega,?_⟩
      rcases (by omega:k < k0\/k=k0) with y | y
      ·omega
      ·exfalso
       have er':=er
       rw [y,er0] at er'
       cases er'
       omega
    ·obtain ⟨rfl,rfl⟩:=hb z
     have q1:=g7 z
     have hn0:0 < S.length:=by omega
     have en:=List.getElem?_eq_getElem hn0
     have q2:=(hCv.get en).2.2.2.2.1 rfl
     have q3:=(hCv.get en).2.1
     refine ⟨⟨kk+1,by rw [em,Int.mul_add,Int.mul_one]⟩,⟨_,en,by omega,by omega⟩,?_⟩
     rcases hw with ⟨y1,y2⟩ | ⟨y1,y2,y3⟩
     ·exact .inr ⟨by omega,by omega,Nat.zero_le _⟩
     ·exfalso
      have y:k=k0:=by omega
      have er':=er
      rw [y,er0] at er'
      cases er'
      omega
   dsimp only
   rw [ek]
   refine ⟨_,rfl,_,rfl,po,_,rfl,.inl (SqL.of u1),rfl,_,rfl,?_⟩
   refine ite2 (fun z=>?_) (fun z=>?_)
   ·have z':=of_decide_eq_true z
    injection z' with z'
    refine ⟨_,rfl,_,rfl,_,_,rfl,rfl,⟨_,e+1,m+day,0,_,rfl,s4,hS4,cv4,by omega,sl4,nxt (m+day) 0 (fun y=>by omega) fun _=>⟨rfl,rfl⟩⟩,?_⟩
    show (qq+1 - (e+1)).toNat < (qq+1 - p).toNat
    omega
   ·have z':¬ (((k+1:Nat)):Int)=((us.length:Nat):Int):=fun y=>z (decide_eq_true (by rw [y]))
    refine ⟨⟨_,e+1,m,k+1,_,rfl,s4,hS4,cv4,by omega,sl4,nxt m (k+1) (fun _=>⟨rfl,rfl⟩) fun y=>by omega⟩,?_⟩
    show (qq+1 - (e+1)).toNat < (qq+1 - p).toNat
    omega
  ·have c':¬ p<=qq:=fun z=>c (decide_eq_true z)
   have e:p=qq+1:=by omega
   subst e
   have fr:H pr=none:=by
    cases eh:H pr with
    | none=>rfl
    | some o =>
     by_cases zp:pr=P0
     ·obtain ⟨ps,hp,_⟩:=tb
      rw [zp,hp] at hpr
      cases hpr
     ·rw [sm _ _ eh zp] at hpr
      cases hpr
   exact ⟨_,rfl,q pr S' H3 (SameT.trans sm (SameT.same s3)) (TabOk.same tb s3) fr hS' sl cv⟩
 ·intro σ H' Q1 Q2 hq z9;obtain ⟨v,e1,v',e2,i,j,e3,e4,k,e5,q1⟩ := z9
  exact ⟨v,e1,v',e2,i,j,e3,e4,k,e5,hq _ _ q1⟩
end
noncomputable def qku9 (T:Hp->Prop):Sp:=fun vs H Q _=>∃ (day p qq ride:Int) (po:Addr) (S:List T4) (g:Int->Int),vs=[.int day,.int p,.int qq,.int ride,.ref po]/\LA enc4 H po S/\T H/\S.length<=4000000/\0 < day/\p<=qq/\qq < p+day/\Ma.Rise day g/\Ma.Cov g 0 S day /\
 ∀ (l:Addr) (S':List T4) (H':Hp),SameU H H'->T H'->H l=none->LA enc4 H' l S'->S'.length<=S.length+1->Ma.Cov (fun x=>g (x+ride)) p S' (qq+1)->Q (.ref l) H'
theorem ridden_T {P:Program} {w:World} {K:W.Frag} {mg:Str->Option Value} {base:Heap} {n:Nat} {T:Hp->Prop} {P0:Addr} {pos:Pos} (C:Callee P w K mg base n "ridden" ["day","p","q","ride","others"] (qoc9 P0 pos)) (h1:∀ H,T H->TabOk H P0 pos (lamQ "ridden"))
  (h2:∀ H H',T H->SameT P0 H H'->TabOk H' P0 pos (lamQ "ridden")->T H'):Callee P w K mg base n "ridden" ["day","p","q","ride","others"] (qku9 T):=Callee.imp C fun vs H Q E h=>by
 obtain ⟨day,p,qq,ride,po,S,g,rfl,hS,hT,a1,a2,a3,a4,a5,a6,q⟩:=h
 exact ⟨day,p,qq,ride,po,S,g,rfl,hS,h1 H hT,a1,a2,a3,a4,a5,a6,fun l S' H' sm tb=>q l S' H' (SameU.tab sm (h1 H hT) tb) (h2 H H' hT sm tb)⟩
noncomputable def qhj9 (T:Hp->Prop):Sp:=fun vs H Q _=>∃ (day:Int) (p1 p2:Addr) (R1 R2:List T3),vs=[.int day,.ref p1,.ref p2]/\LA enc3 H p1 R1/\LA enc3 H p2 R2/\T H/\R1.length<=1900000/\R2.length<=1900000/\(2 * R1.length+1) * (2 * R2.length+2)<=16000000/\Ma.CK day R1/\Ma.CK day R2 /\
 ∀ (l:Addr) (R:List T3) (H':Hp),SameU H H'->T H'->H l=none->LA enc3 H' l R->R.length<=(2 * R1.length+1) * (2 * R2.length+2)->Ma.CK day R->(∀ t,Ma.bt day R t=Ma.obind (Ma.bt day R1) (Ma.bt day R2) t)->Q (.ref l) H'
section
variable {P:Program} {w:World} {K:W.Frag} {mg:Str->Option Value} {base:Heap} {f:Addr} {fd:FuncData} {n:Nat} {T:Hp->Prop}
theorem ok_behind (hTB:TB T) (F:Fun K "behind" "behind" qeo9 f fd) (B:Bl mg) (Ch0:Callee P w K mg base n "stretches" ["day","clock"] qfh9) (Cw0:Callee P w K mg base n "come" ["day","clock","t"] (qir9 T)) (Cp1:Callee P w K mg base n "ridden" ["day","p","q","ride","others"] (qku9 T))
  (Ck0:Callee P w K mg base n "clock_from" ["day","rows"] qfj9):FnOk P w K mg base CX0 (n+1) f fd ["day","one","other"] (qhj9 T):=by
 refine F.okQ sc_behind (fun vs H Q E h=>?_) (fun cdv A outer s H vs Q E hr h=>?_)
 ·obtain ⟨_,_,_,_,_,rfl,_⟩:=h
  rfl
 obtain ⟨day,p1,p2,R1,R2,rfl,hR1,hR2,hT,hl1,hl2,hl3,ck1,ck2,q⟩:=h
 refine ⟨_,(qab9 (qs_if (qhv9 (QW.pt (qw_or (qap9 qdn9 (qe_cb qat9 rfl B.len qcj9 (qa_c (qv 1) qac9)) qad9 (qay9 _)) (qfr9 (qap9 qdn9 (qe_cb qat9 rfl B.len qcj9 (qa_c (qv 2) qac9)) qad9 (qay9 _)))))) (qae9 (qas9 (qch9 qac9))) qba9) (qab9 (qak9 (i:=3) sc_behind.nd rfl (Or.inl rfl) (qe_fn Ch0 hr rfl (qa_c (qv 0) (qa_c (qv 2) qac9)))) (qab9 (qak9 (i:=4) sc_behind.nd rfl (Or.inl rfl) (qch9 qac9)) (qab9 (qea9 PassesOwn.never rfl (qck9 (qe_fn Ch0 hr rfl (qa_c (qv 0) (qa_c (qv 1) qac9)))) (qfb9 rfl (qaj9 (qam9 (i:=5) sc_behind.nd rfl (Or.inl rfl)) (qaj9 (qam9 (i:=6) sc_behind.nd rfl (Or.inl rfl)) (qaj9 (qam9 (i:=7) sc_behind.nd rfl (Or.inl rfl)) (qaj9 (qam9 (i:=8) sc_behind.nd rfl (Or.inl rfl)) qct9))))) (qae9 (qs_if (qcq9 (qv 7)) (qae9 (qbc9 (qbg9 (qv 4) (qa_c (qci9 (qa_c (qv 5) (qa_c (qv 6) (qa_c qe_bl (qa_c (qe_fn Cw0 hr rfl (qa_c (qv 0) (qa_c (qv 2) (qa_c (qv 8) qac9)))) qac9))))) qac9)))) (qae9 (qbc9 (qhg9 (qv 4) (qa_c (qe_fn Cp1 hr rfl (qa_c (qv 0) (qa_c (qv 5) (qa_c (qv 6) (qa_c (qv 8) (qa_c (qv 3) qac9)))))) qac9))))))) (qae9 (qas9 (qe_fn Ck0 hr rfl (qa_c (qv 0) (qa_c (qv 4) qac9))))))))),?_⟩
 try dsimp only [cx_k,cx_kn,as_nil,as_name,Nat.reduceAdd]
 obtain ⟨us,hu1,hu2,hu3⟩:=hR1.lst
 obtain ⟨ws,hw1,hw2,hw3⟩:=hR2.lst
 refine ⟨fun b H'=>H'=H/\b=decide (R1=[]\/R2=[]),?_,?_⟩
 ·refine ⟨_,rfl,p1,_,rfl,.inl (SqL.of hu1),rfl,_,rfl,?_⟩
  refine ite2 (fun c=>?_) (fun c=>?_)
  ·have c':=of_decide_eq_true c
   injection c' with c'
   have e:R1=[]:=List.length_eq_zero_iff.mp (by omega)
   exact ⟨rfl,by simp [e]⟩
  ·have n1:R1 ≠ []:=fun e=>c (decide_eq_true (by rw [hu2,e]; rfl))
   refine ⟨_,rfl,p2,_,rfl,.inl (SqL.of hw1),rfl,_,rfl,rfl,?_⟩
   rw [hw2]
   cases R2 with
   | nil=>simp
   | cons x r=>simp [n1]; omega
 intro b H1 z9;obtain ⟨rfl,rfl⟩ := z9
 refine ite2 (fun c=>?_) (fun c=>?_)
 ·have c':=of_decide_eq_true c
  refine ⟨(by show 0<=sizeLine; decide),fun l hl=>?_⟩
  refine q l [] _ (SameU.of (qal9 hl _)) (hTB.same _ _ hT (qal9 hl _)) hl (LA.nil qaf9) (by simp) (Ma.ck_nil ck1.d0) fun t=>?_
  unfold Ma.obind
  rcases c' with e | e
  ·rw [e]; rfl
  ·rw [e,Ma.bt_nil]; cases Ma.bt day R1 t <;> rfl
 have c':¬ (R1=[]\/R2=[]):=fun z=>c (decide_eq_true z)
 have T1:=Ma.tells_bf (d:=day) (fun e=>c' (.inl e))
 have T2:=Ma.tells_bf (d:=day) (fun e=>c' (.inr e))
 have rf:=ck1.rise T1
 have rg:=ck2.rise T2
 have C1:=Ma.str_cov ck1 T1
 have C2:=Ma.str_cov ck2 T2
 have b1:=Ma.strOf_len day R1
 have b2:=Ma.strOf_len day R2
 have hd:=ck1.d0
 refine ⟨_,rfl,_,rfl,day,p2,R2,rfl,hR2,by omega,fun l2 H2 s2 f2 hS2=>?_⟩
 refine ⟨(by show 0<=sizeLine; decide),fun pr hpr=>?_⟩
 have s3:Same H2 (upd H2 pr (.lst [])):=qal9 hpr _
 have s13:=s2.trans s3
 refine ⟨_,rfl,_,rfl,day,p1,R1,rfl,hR1.same s13,by omega,fun l1 H4 s4 f4 hS1=>?_⟩
 have er4:H4 pr=some (.lst []):=s4 _ _ qaf9
 have n1:l1 ≠ pr:=fun e=>by rw [e,qaf9] at f4; cases f4
 have s14:=s13.trans s4
 have hS2:=(hS2.same s3).same s4
 have n2:l2 ≠ pr:=fun e=>by
  have h:=s2.free hpr
  obtain ⟨vs,z,_⟩:=hS2.lst
  rw [e,er4] at z
  cases z
  obtain ⟨vs',z',_⟩:=(show LA enc4 H2 l2 (Ma.strOf day R2) from by assumption).lst
  rw [e,hpr] at z'
  cases z'
 have hR2:=(hR2.same s14)
 have np2:p2 ≠ pr:=fun e=>by
  have z:=s2 _ _ hw1
  rw [e,hpr] at z
  cases z
 have hT4:=hTB.same _ _ hT s14
 have hfr:H1 pr=none:=s2.free hpr
 clear s3 f4 f2
 generalize Ma.strOf day R1=S1 at *
 generalize Ma.strOf day R2=S2 at *
 generalize Ma.bf day R1=f1 at *
 generalize Ma.bf day R2=f2 at *
 obtain ⟨xs,hx1,hx2,hx3⟩:=hS1.lst
 have hrow:∀ {α:Type} {enc:α->List V} {l:Addr} {ys:List α} {H':Hp},LA enc H4 l ys->l ≠ pr->(∀ b o,H4 b=some o->b ≠ pr->(∀ z,o ≠ .tbl z)->H' b=some o)->LA enc H' l ys:=fun {α enc l ys H'} h nl st=>by
  obtain ⟨rs,h1,h2,h3⟩:=h.ex
  refine ⟨rs,st _ _ h1 nl (fun _ z=>nomatch z),h2,fun i r x e e'=>?_⟩
  have h4:=h3 i r x e e'
  exact st _ _ h4 (fun z=>by rw [z,er4] at h4; cases h4) (fun _ z=>nomatch z)
 refine ⟨l1,rfl,⟨_,SqL.of hx1⟩,qdm9 (K:=K) (a:=l1) (xs:=xs)
  (fun i σ H'=>∃ (S:List T4) (at_:Int) (v1 v2 v3 v4:Option V),σ=[some (.int day),some (.ref p1),some (.ref p2),some (.ref l2),some (.ref pr),v1,v2,v3,v4]/\SameU H1 H'/\T H'/\(∀ b o,H4 b=some o->b ≠ pr->(∀ z,o ≠ .tbl z)->H' b=some o)/\LA enc4 H' pr S/\S.length<=i * (S2.length+1)/\Ma.Cov (fun x=>f2 (f1 x)) 0 S at_/\(∀ r,S1[i]?=some r->r.1=at_)/\(i=S1.length->at_=day))
  ⟨[],0,_,_,_,_,rfl,SameU.of s14,hT4,fun b o e _ _=>e,LA.nil er4,by simp,rfl,fun r e=>(C1.get e).2.2.2.2.1 rfl,fun e=>?_⟩
  (fun i σ H' _ ⟨_,_,_,_,_,_,_,_,_,s1,_⟩=>SqL.of (s1 _ _ hx1 n1 (fun _ z=>nomatch z))) ?_ ?_⟩
 ·rw [List.length_eq_zero_iff.mp e.symm] at C1
  exact C1
 ·intro i y σ H5 hi z9;obtain ⟨S,at_,v1,v2,v3,v4,rfl,sU,t5,st,hS,hSl,hC,hat,_⟩ := z9
  obtain ⟨r,x,rfl,ex,er⟩:=hx3 i y hi
  have e1:=hat x ex
  obtain ⟨g1,g2,g3,g4,g5,g6,g7⟩:=C1.get ex
  have nr:r ≠ pr:=fun z=>by rw [z,er4] at er; cases er
  have er5:=st _ _ er nr (fun _ z=>nomatch z)
  have hi2:i < S1.length:=(List.getElem?_eq_some_iff.mp ex).1
  obtain ⟨xp,xq,xs',xv⟩:=x
  have e1':xp=at_:=e1
  subst e1'
  have g2':xp<=xq:=g2
  have g3':xq < day:=g3
  have g1':0<=xp:=g1
  have g4':∀ x,xp<=x->x<=xq->f1 x=if xs'=true then xv else x+xv:=g4
  obtain ⟨vs,hv1,hv2,hv3⟩:=hS.lst
  have bnd:(i+1) * (S2.length+1)<=16000000:=by
   have:(i+1) * (S2.length+1)<=(2 * R1.length+1) * (2 * R2.length+2):=Nat.mul_le_mul (by omega) (by omega)
   omega
  rw [Nat.succ_mul] at bnd
  refine ⟨r,_,rfl,SqT.of er5,rfl,_,_,rfl,_,_,rfl,_,_,rfl,_,_,rfl,rfl,?_⟩
  refine ⟨_,rfl,_,rfl,?_⟩
  cases xs' with
  | true =>
   refine iteT ⟨_,rfl,.inl ⟨rfl,_,SqL.of hv1⟩,_,rfl,_,rfl,_,rfl,_,rfl,_,rfl,day,p2,xv,R2,rfl,hrow hR2 np2 st,t5,ck2,fun H6 u6 t6=>?_⟩
   rw [T2 xv]
   refine ⟨(by show 4<=sizeLine; decide),fun rn hrn=>?_⟩
   have s7:=qal9 hrn (.tup [.int xp,.int xq,.bl true,.int (f2 xv)])
   have u7:=u6.trans (SameU.of s7)
   have hv7:=u7.lst hv1
   refine ⟨pr,vs,.ref rn,rfl,rfl,hv7,qbj9 (by omega),?_⟩
   have cr:Ma.Cov (fun x=>f2 (f1 x)) xp [(xp,xq,true,f2 xv)] (xq+1):=Ma.Cov.one (r:=(xp,xq,true,f2 xv)) g2' fun x x0 x1=>by
    have:=g4' x x0 x1
    rw [if_pos rfl] at this
    show f2 (f1 x)=f2 xv
    rw [this]
   refine ⟨_,_,_,_,_,_,rfl,SameU.wr hfr (sU.trans u7),hTB.wr _ _ _ _ (hTB.same _ _ t6 s7) hv7,fun b o e nb nt=>?_,((hS.u u6).same s7).append (x:=(xp,xq,true,f2 xv)) hv7 qaf9,?_,hC.append cr,fun r' e'=>g6 r' e',fun e=>g7 e⟩
   ·rw [qao9 nb]
    exact u7.1 _ _ (st _ _ e nb nt) nt
   ·rw [List.length_append,List.length_singleton,Nat.succ_mul]
    omega
  | false =>
   refine iteF ⟨_,rfl,.inl ⟨rfl,_,SqL.of hv1⟩,_,rfl,_,rfl,_,rfl,_,rfl,_,rfl,day,xp,xq,xv,l2,S2,f2,rfl,hrow hS2 n2 st,t5,by omega,hd,g2',by omega,rg,C2,fun l S' H6 u6 t6 fl hS' hSl' cr=>?_⟩
   obtain ⟨zs,hz1,hz2,hz3⟩:=hS'.lst
   have hv6:=u6.lst hv1
   refine ⟨pr,l,vs,zs,rfl,rfl,hv6,hz1,Nat.le_of_lt (qbj9 (by omega)),?_⟩
   have cr':Ma.Cov (fun x=>f2 (f1 x)) xp S' (xq+1):=by
    refine Ma.Cov.congr (fun x x0 x1=>?_) cr
    have:=g4' x x0 (by omega)
    rw [if_neg (by decide)] at this
    show f2 (x+xv)=f2 (f1 x)
    rw [this]
   refine ⟨_,_,_,_,_,_,rfl,SameU.wr hfr (sU.trans u6),hTB.wr _ _ _ _ t6 hv6,fun b o e nb nt=>?_,(hS.u u6).extend hS' hv6 hz1,?_,hC.append cr',fun r' e'=>g6 r' e',fun e=>g7 e⟩
   ·rw [qao9 nb]
    exact u6.1 _ _ (st _ _ e nb nt) nt
   ·rw [List.length_append,Nat.succ_mul]
    omega
 ·intro σ H5 z9;obtain ⟨S,at_,v1,v2,v3,v4,rfl,sU,t5,st,hS,hSl,hC,hat,hend⟩ := z9
  have e:=hend hx2
  subst e
  rw [hx2] at hSl
  have bnd:S1.length * (S2.length+1)<=(2 * R1.length+1) * (2 * R2.length+2):=Nat.mul_le_mul b1 (by omega)
  have rc:=Ma.rise_comp rf rg
  refine ⟨_,rfl,_,rfl,at_,pr,S,_,rfl,hS,by omega,hd,rc,hC,fun l R H6 s6 fl hR hRl can=>?_⟩
  refine q l R H6 (sU.trans (SameU.of s6)) (hTB.same _ _ t5 s6) (sU.free fl) hR (by omega) (can.ck hd rc) fun t=>?_
  rw [can.tells hd rc t]
  unfold Ma.obind
  rw [T1 t]
  exact (T2 _).symm
end
noncomputable abbrev RdT:=Int × Int × Addr × List T3
noncomputable def keyN (m:RdT):Int × Int × Addr:=(m.1,m.2.1,m.2.2.1)
noncomputable def encK (k:Int × Int × Addr):List V:=[.int k.1,.int k.2.1,.ref k.2.2]
structure NA (H:Hp) (p:Addr) (N:List RdT):Prop where
 la:LA encK H p (N.map keyN)
 bd:∀ m∈N,LA enc3 H m.2.2.1 m.2.2.2/\m.2.2.1 ≠ p
 nd:(N.map fun m=>m.2.2.1).Nodup
section
variable {K:W.Frag} {H H':Hp} {p r b:Addr} {N:List RdT} {s e:Int} {vs us:List V}
theorem NA.nil (h:H p=some (.lst [])):NA H p []:=⟨LA.nil h,(fun m hm=>by cases hm),List.Pairwise.nil⟩
theorem NA.mono (h:NA H p N) (s:∀ b o,H b=some o->(∀ z,o ≠ .tbl z)->H' b=some o):NA H' p N:=⟨h.la.mono s,fun m hm=>⟨(h.bd m hm).1.mono s,(h.bd m hm).2⟩,h.nd⟩
theorem NA.same (h:NA H p N) (s:Same H H'):NA H' p N:=h.mono fun b o e _=>s b o e
theorem NA.fresh (h:NA H p N) (fb:H b=none):b ≠ p/\b ∉ N.map fun m=>m.2.2.1:=by
 refine ⟨fun z=>?_,fun hm=>?_⟩
 ·obtain ⟨vs,h1,_⟩:=h.la.lst
  rw [<- z,fb] at h1
  cases h1
 ·obtain ⟨m,hm',e⟩:=List.mem_map.mp hm
  obtain ⟨vs,h1,_⟩:=(h.bd m hm').1.lst
  rw [e,fb] at h1
  cases h1
theorem NA.snoc (h:NA H p N) (fb:b ≠ p/\b ∉ N.map fun m=>m.2.2.1) (hx:H p=some (.lst vs)) (hb:H b=some (.lst [])) (hr:H r=some (.tup [.int s,.int e,.ref b])):NA (upd H p (.lst (vs ++ [.ref r]))) p (N ++ [(s,e,b,[])]):=by
 refine ⟨?_,fun m hm=>?_,?_⟩
 ·rw [List.map_append]
  exact h.la.append (x:=(s,e,b)) hx hr
 ·rcases List.mem_append.mp hm with hm | hm
  ·obtain ⟨h1,h2⟩:=h.bd m hm
   exact ⟨qbw9 h1 hx h2,h2⟩
  ·rw [List.mem_singleton] at hm
   subst hm
   exact ⟨LA.nil (by rw [qao9 fb.1]; exact hb),fb.1⟩
 ·rw [List.map_append]
  refine List.nodup_append.mpr ⟨h.nd,by simp,fun x hx y hy=>?_⟩
  simp only [List.map_cons,List.map_nil,List.mem_singleton] at hy
  subst hy
  exact fun z=>fb.2 (z ▸ hx)
end
noncomputable def NFr (H:Hp) (N:List RdT):Prop:=∀ m∈N,H m.2.2.1=none
theorem NFr.snoc {H:Hp} {N:List RdT} {m:RdT} (h:NFr H N) (e:H m.2.2.1=none):NFr H (N ++ [m]):=fun x hx=>by
 rcases List.mem_append.mp hx with hx | hx
 ·exact h x hx
 ·rw [List.mem_singleton] at hx
  subst hx
  exact e
theorem NA.add {H:Hp} {p r b:Addr} {N:List RdT} {s e:Int} {vs:List V} {R:List T3} (h:NA H p N) (fb:b ≠ p/\b ∉ N.map fun m=>m.2.2.1) (hx:H p=some (.lst vs)) (hb:LA enc3 H b R) (hr:H r=some (.tup [.int s,.int e,.ref b])):NA (upd H p (.lst (vs ++ [.ref r]))) p (N ++ [(s,e,b,R)]):=by
 refine ⟨?_,fun m hm=>?_,?_⟩
 ·rw [List.map_append]
  exact h.la.append (x:=(s,e,b)) hx hr
 ·rcases List.mem_append.mp hm with hm | hm
  ·obtain ⟨h1,h2⟩:=h.bd m hm
   exact ⟨qbw9 h1 hx h2,h2⟩
  ·rw [List.mem_singleton] at hm
   subst hm
   exact ⟨qbw9 hb hx fb.1,fb.1⟩
 ·rw [List.map_append]
  refine List.nodup_append.mpr ⟨h.nd,by simp,fun x hx y hy=>?_⟩
  simp only [List.map_cons,List.map_nil,List.mem_singleton] at hy
  subst hy
  exact fun z=>fb.2 (z ▸ hx)
noncomputable def strip (m:RdT):Int × Int × List T3:=(m.1,m.2.1,m.2.2.2)
noncomputable def numV (count:Int):V->Bool
 | .int i=>decide (0<=i) && decide (i < count)
 | _=>false
noncomputable def posW (H:Hp) (x:V):Bool:=match tupV H x with
 | some [_,_,.int c]=>decide (0 < c)
 | _=>false
noncomputable def posB (H:Hp) (x:V):Bool:=match lstV H x with
 | some ws=>ws.all (posW H)
 | none=>false
noncomputable def roadL (H:Hp) (day size:Int):List V->Bool
 | [s,e,b]=>numV size s && (numV size e && (qfo9 H day b && posB H b))
 | _=>false
noncomputable def roadV (H:Hp) (day size:Int) (x:V):Bool:=match tupV H x with
 | some xs=>roadL H day size xs
 | none=>false
noncomputable def netV (H:Hp) (day:Int) (size roads:V):Bool:=match size with
 | .int n=>decide (1<=n) && (match lstV H roads with
  | some xs=>xs.all (roadV H day n)
  | none=>false)
 | _=>false
noncomputable def DvR (H:Hp) (x:V):Prop:=Dv H x/\∀ zs,tupV H x=some zs->∀ z∈zs,Dv3 H z
noncomputable def DvN (H:Hp) (x:V):Prop:=Dv H x/\∀ xs,lstV H x=some xs->xs.length<=1000/\∀ y∈xs,DvR H y
theorem Dv3.same {H H':Hp} {x:V} (h:Dv3 H x) (s:Same H H'):Dv3 H' x:=⟨h.1.same s,fun xs e=>by
 rw [h.1.lstV_same s] at e
 exact ⟨(h.2 xs e).1,fun y hy=>((h.2 xs e).2 y hy).same s⟩⟩
theorem DvR.same {H H':Hp} {x:V} (h:DvR H x) (s:Same H H'):DvR H' x:=⟨h.1.same s,fun xs e=>by
 rw [h.1.tupV_same s] at e
 exact fun y hy=>(h.2 xs e y hy).same s⟩
theorem Dv3.boardV_same {H H':Hp} {x:V} (h:Dv3 H x) (s:Same H H') (day:Int):qfo9 H' day x=qfo9 H day x:=by
 unfold qfo9
 rw [h.1.lstV_same s]
 cases e:lstV H x with
 | none=>rfl
 | some xs =>
  rw [Bool.eq_iff_iff,List.all_eq_true,List.all_eq_true]
  exact ⟨fun z y hy=>by rw [<- ((h.2 xs e).2 y hy).1.winV_same s day]; exact z y hy,fun z y hy=>by rw [((h.2 xs e).2 y hy).1.winV_same s day]; exact z y hy⟩
theorem Dv2.posW_same {H H':Hp} {x:V} (h:Dv2 H x) (s:Same H H'):posW H' x=posW H x:=by
 unfold posW
 rw [h.1.tupV_same s]
theorem Dv3.posB_same {H H':Hp} {x:V} (h:Dv3 H x) (s:Same H H'):posB H' x=posB H x:=by
 unfold posB
 rw [h.1.lstV_same s]
 cases e:lstV H x with
 | none=>rfl
 | some xs =>
  rw [Bool.eq_iff_iff,List.all_eq_true,List.all_eq_true]
  exact ⟨fun z y hy=>by rw [<- ((h.2 xs e).2 y hy).posW_same s]; exact z y hy,fun z y hy=>by rw [((h.2 xs e).2 y hy).posW_same s]; exact z y hy⟩
theorem DvR.roadV_same {H H':Hp} {x:V} (h:DvR H x) (s:Same H H') (day size:Int):roadV H' day size x=roadV H day size x:=by
 unfold roadV
 rw [h.1.tupV_same s]
 cases e:tupV H x with
 | none=>rfl
 | some xs =>
  have hz:=h.2 xs e
  show roadL H' day size xs=roadL H day size xs
  unfold roadL
  split
  ·rw [(hz _ (by simp)).boardV_same s,(hz _ (by simp)).posB_same s]
  ·rfl
theorem qmr9 {H:Hp} {day:Int} {x:V} (h:winV H day x=true):∃ (r:Addr) (a b c:Int),x=.ref r/\H r=some (.tup [.int a,.int b,.int c]):=by
 unfold winV at h
 split at h
 ·rename_i xs e
  obtain ⟨r,rfl,er⟩:=qiq9 e
  unfold winL at h
  split at h
  ·exact ⟨r,_,_,_,rfl,er⟩
  ·cases h
 ·cases h
noncomputable def qgj9:Sp:=fun vs H Q _=>∃ (count:Int) (x:V),vs=[.int count,x]/\Dv H x/\Q (.bl (numV count x)) H
noncomputable def spRoad:Sp:=fun vs H Q _=>∃ (day size:Int) (x:V),vs=[.int day,.int size,x]/\DvR H x/\∀ H',Same H H'->Q (.bl (roadV H day size x)) H'
noncomputable def spIsNet:Sp:=fun vs H Q _=>∃ (day:Int) (size x:V),vs=[.int day,size,x]/\Dv H size/\DvN H x/\∀ H',Same H H'->Q (.bl (netV H day size x)) H'
section
variable {P:Program} {w:World} {K:W.Frag} {mg:Str->Option Value} {base:Heap} {f:Addr} {fd:FuncData} {n:Nat}
theorem qjl9 (F:Fun K "is_number" "is_number" qcm9 f fd) (Cf0:Callee P w K mg base n "is_whole" ["thing"] qfe9):FnOk P w K mg base CX0 (n+1) f fd ["count","thing"] qgj9:=by
 refine F.okQ qiu9 (fun vs H Q E h=>?_) (fun cdv A outer s H vs Q E hr h=>?_)
 ·obtain ⟨_,_,rfl,_⟩:=h
  rfl
 obtain ⟨count,x,rfl,dv,q⟩:=h
 refine ⟨_,(qae9 (qas9 (qlq9 (qe_fn Cf0 hr rfl (qa_c (qv 1) qac9)) (qlo9 (qe_chain qjm9 qdv9 qad9 (qv 1) (qv 0)))))),?_⟩
 try dsimp only [cx_k,cx_kn,as_nil,as_name,Nat.reduceAdd]
 refine ⟨_,rfl,x,rfl,dv,_,rfl,?_⟩
 cases hw:isWh x with
 | false =>
  refine iteF ?_
  have e:numV count x=false:=by
   unfold numV
   split
   ·cases hw
   ·rfl
  rw [e] at q
  exact q
 | true =>
  obtain ⟨i,rfl⟩:=qga9 hw
  unfold numV at q
  dsimp only at q
  refine iteT ⟨_,rfl,_,_,rfl,rfl,_,rfl,ite2 (fun c=>?_) (fun c=>?_)⟩
  ·rw [c,Bool.true_and] at q
   exact ⟨_,rfl,_,_,rfl,rfl,q⟩
  ·rw [Bool.eq_false_iff.mpr c,Bool.false_and] at q
   exact q
theorem qmx9 (F:Fun K "is_road" "is_road" qdt9 f fd) (B:Bl mg) (Cc0:Callee P w K mg base n "is_number" ["count","thing"] qgj9) (Cr0:Callee P w K mg base n "is_board" ["day","thing"] qot9):FnOk P w K mg base CX0 (n+1) f fd ["day","size","thing"] spRoad:=by
 refine F.okQ qns9 (fun vs H Q E h=>?_) (fun cdv A outer s H vs Q E hr h=>?_)
 ·obtain ⟨_,_,_,rfl,_⟩:=h
  rfl
 obtain ⟨day,size,x,rfl,dv,q⟩:=h
 refine ⟨_,(qab9 (qs_if (QW.pt (qw_or (qfd9 (qcq9 (qe_cb qep9 rfl B.isinstance qcc9 (qa_c (qv 2) (qa_c (qgx9 (v:=.ty "tuple") rfl B.tuple_ qny9 rfl) qac9))))) (qfr9 (qap9 qop_ne (qe_cb qat9 rfl B.len qcj9 (qa_c (qv 2) qac9)) qad9 (qay9 _))))) (qae9 (qas9 qe_bl)) qba9) (qab9 (qs_if (QW.pt (qw_or (qfd9 (qcq9 (qe_fn Cc0 hr rfl (qa_c (qv 1) (qa_c (qe_ix qav9 (qv 2) qad9 (fun _ _=>rfl)) qac9))))) (qfr9 (qfd9 (qcq9 (qe_fn Cc0 hr rfl (qa_c (qv 1) (qa_c (qe_ix qav9 (qv 2) qad9 (fun _ _=>rfl)) qac9)))))))) (qae9 (qas9 qe_bl)) qba9) (qae9 (qas9 (qlq9 (qe_fn Cr0 hr rfl (qa_c (qv 0) (qa_c (qe_ix qav9 (qv 2) qad9 (fun _ _=>rfl)) qac9))) (qlo9 (qe_cb (qfy9 rfl) rfl B.all bt_all (qa_c (qet9 ["window"] [none] (BlkOk.of rfl rfl (SubL.to subN) rfl) rfl (qck9 (qe_ix qav9 (qv 2) qad9 (fun _ _=>rfl))) (fun _ _ _ _=>(qam9 (i:=0) (show (["window"]:List Str).Nodup by decide) rfl (Or.inl rfl))) (fun _ _ _ _=>(qkj9 qfs9 (qe_ix (qiv9 K rfl) (qv 0) qad9 (fun _ _=>rfl)) qad9 (qay9 _)))) qac9)))))))),?_⟩
 try dsimp only [cx_k,cx_kn,as_nil,as_name,Nat.reduceAdd]
 obtain ⟨t,hty,hk⟩:=dv.1.isTup (K:=K)
 have q0:roadV H day size x=false->∀ H',Same H H'->Q (.bl false) H':=fun e H' s=>by
  have:=q H' s
  rw [e] at this
  exact this
 cases ht:tupV H x with
 | none =>
  rw [ht] at hk
  have hw:roadV H day size x=false:=by unfold roadV; rw [ht]
  exact ⟨_,rfl,_,"tuple",t,_,rfl,hty,hk,_,rfl,iteT (iteT (q0 hw _ (Same.refl H)))⟩
 | some xs =>
  rw [ht] at hk
  have hwl:roadV H day size x=roadL H day size xs:=by unfold roadV; rw [ht]
  have dz:=dv.2 xs ht
  obtain ⟨r,rfl,er⟩:=qiq9 ht
  refine ⟨_,rfl,_,"tuple",t,_,rfl,hty,hk,_,rfl,iteF ?_⟩
  refine ⟨_,rfl,r,xs,rfl,.inr (SqT.of er),rfl,_,rfl,?_⟩
  by_cases hl:xs.length=3
  ·obtain ⟨u,v,b,rfl⟩:=three hl
   refine iteN (by simp) ?_
   have eL:roadL H day size [u,v,b]=(numV size u && (numV size v && (qfo9 H day b && posB H b))):=rfl
   rw [eL] at hwl
   refine ⟨_,rfl,_,rfl,r,_,_,_,rfl,rfl,SqT.of er,rfl,size,u,rfl,(dz u (by simp)).1,_,rfl,?_⟩
   cases hu:numV size u with
   | false=>exact iteT (iteT (q0 (by rw [hwl,hu]; rfl) _ (Same.refl H)))
   | true =>
    refine iteF ⟨_,rfl,_,rfl,r,_,_,_,rfl,rfl,SqT.of er,rfl,size,v,rfl,(dz v (by simp)).1,_,rfl,?_⟩
    cases hv:numV size v with
    | false=>exact iteT (q0 (by rw [hwl,hu,hv]; rfl) _ (Same.refl H))
    | true =>
     refine iteF ?_
     have db:=dz b (by simp)
     refine ⟨_,rfl,_,rfl,r,_,_,_,rfl,rfl,SqT.of er,rfl,day,b,rfl,db,fun H1 s1=>⟨_,rfl,?_⟩⟩
     cases hb:qfo9 H day b with
     | false=>exact iteF (q0 (by rw [hwl,hu,hv,hb]; rfl) _ s1)
     | true =>
      refine iteT ?_
      rw [hwl,hu,hv,hb] at q
      simp only [Bool.true_and] at q
      unfold qfo9 at hb
      split at hb
      ·rename_i ws hws
       obtain ⟨hlen,_⟩:=db.2 ws hws
       obtain ⟨p,rfl,ep⟩:=qia9 hws
       rw [List.all_eq_true] at hb
       have ep1:=s1 _ _ ep
       refine ⟨_,rfl,r,_,_,_,rfl,rfl,SqT.of (s1 _ _ er),rfl,p,rfl,⟨_,SqL.of ep1⟩,?_⟩
       refine qcu9 (K:=K) (a:=p) (xs:=ws) (fun D i H'=>Same H1 H'/\H' D=some (.lst ((ws.take i).map fun y=>V.bl (posW H y)))) (fun D hD=>⟨qal9 hD _,qaf9⟩) (fun D i H' _ _ h=>SqL.of (h.1 _ _ ep1)) ?_ ?_
       ·intro D i y H' hD hi z9;obtain ⟨s2,hD2⟩ := z9
        obtain ⟨r2,a,b,c,rfl,e2⟩:=qmr9 (hb y (List.mem_of_getElem? hi))
        refine ⟨fun k v' e=>?_,?_⟩
        ·match k,e with
         | 0,e=>cases e
         | k+1,e=>cases e
        refine ⟨_,rfl,r2,_,_,_,rfl,rfl,SqT.of (s2 _ _ (s1 _ _ e2)),rfl,_,_,rfl,rfl,_,hD2,(by rw [List.length_map,List.length_take]; exact qfv9 (by omega)),fun b o eb=>?_,?_⟩
        ·rw [qao9 (qax9 eb hD)]
         exact s2 _ _ eb
        ·rw [qaf9,qdl9 _ hi]
         simp [posW,tupV,e2]
       ·intro D H' hD z9;obtain ⟨s2,hD2⟩ := z9
        have eD:H' D=some (.lst ((ws.map (posW H)).map V.bl)):=by
         rw [hD2,List.take_length,List.map_map]
         rfl
        refine ⟨D,_,rfl,SqL.of eD,?_⟩
        have e1:(ws.map (posW H)).all id=ws.all (posW H):=by rw [List.all_map]; rfl
        rw [e1]
        have:=q H' (s1.trans s2)
        unfold posB at this
        rw [hws] at this
        exact this
      ·cases hb
  ·refine iteP (by simp; omega) (q0 ?_ _ (Same.refl H))
   rw [hwl]
   unfold roadL
   split
   ·rename_i e
    exact absurd rfl hl
   ·rfl
theorem ok_is_net (F:Fun K "is_net" "is_net" qej9 f fd) (B:Bl mg) (Cf0:Callee P w K mg base n "is_whole" ["thing"] qfe9) (Cm1:Callee P w K mg base n "is_road" ["day","size","thing"] spRoad):FnOk P w K mg base CX0 (n+1) f fd ["day","size","roads"] spIsNet:=by
 refine F.okQ sc_is_net (fun vs H Q E h=>?_) (fun cdv A outer s H vs Q E hr h=>?_)
 ·obtain ⟨_,_,_,rfl,_⟩:=h
  rfl
 obtain ⟨day,size,x,rfl,ds,dv,q⟩:=h
 refine ⟨_,(qab9 (qs_if (QW.pt (qw_or (qfd9 (qcq9 (qe_fn Cf0 hr rfl (qa_c (qv 1) qac9)))) (qw_or (qap9 qdv9 (qv 1) qad9 (qay9 _)) (qfr9 (qfd9 (qcq9 (qe_cb qep9 rfl B.isinstance qcc9 (qa_c (qv 2) (qa_c (qgx9 (v:=.ty "list") rfl B.list_ qfm9 rfl) qac9))))))))) (qae9 (qas9 qe_bl)) qba9) (qae9 (qas9 (qe_cb (qfy9 rfl) rfl B.all bt_all (qa_c (qet9 ["road","day","size"] [none,some 0,some 1] (BlkOk.of rfl rfl (SubL.to (subC rfl (subC rfl subN))) rfl) rfl (qck9 (qv 2)) (fun _ _ _ _=>(qam9 (i:=0) (show (["road","day","size"]:List Str).Nodup by decide) rfl (Or.inl rfl))) (fun _ _ _ _=>(qe_fn Cm1 hr rfl (qa_c (qv 1) (qa_c (qv 2) (qa_c (qv 0) qac9)))))) qac9))))),?_⟩
 try dsimp only [cx_k,cx_kn,as_nil,as_name,Nat.reduceAdd]
 refine ⟨_,rfl,size,rfl,ds,_,rfl,?_⟩
 cases hw:isWh size with
 | false =>
  have e:netV H day size x=false:=by
   unfold netV
   split
   ·cases hw
   ·rfl
  have q':=q H (Same.refl H)
  rw [e] at q'
  exact iteT (iteT q')
 | true =>
  obtain ⟨m,rfl⟩:=qga9 hw
  unfold netV at q
  dsimp only at q
  refine iteF ⟨_,rfl,_,_,rfl,rfl,_,rfl,ite2 (fun c=>?_) (fun c=>?_)⟩
  ·have c':m < 1:=of_decide_eq_true c
   have q':=q H (Same.refl H)
   rw [decide_eq_false (show ¬ 1<=m by omega)] at q'
   exact iteT q'
  have c':1<=m:=by
   have:¬ m < 1:=fun z=>c (decide_eq_true z)
   omega
  rw [decide_eq_true c',Bool.true_and] at q
  obtain ⟨t,hty,hk⟩:=dv.1.isLst (K:=K)
  cases ht:lstV H x with
  | none =>
   rw [ht] at hk q
   exact ⟨_,rfl,_,"list",t,_,rfl,hty,hk,_,rfl,iteT (q _ (Same.refl H))⟩
  | some xs =>
   rw [ht] at hk q
   obtain ⟨hlen,dz⟩:=dv.2 xs ht
   obtain ⟨p,rfl,ep⟩:=qia9 ht
   refine ⟨_,rfl,_,"list",t,_,rfl,hty,hk,_,rfl,iteF ?_⟩
   refine ⟨_,rfl,p,rfl,⟨_,SqL.of ep⟩,?_⟩
   refine qcu9 (K:=K) (a:=p) (xs:=xs) (fun D i H'=>Same H H'/\H' D=some (.lst ((xs.take i).map fun y=>V.bl (roadV H day m y)))) (fun D hD=>⟨qal9 hD _,qaf9⟩) (fun D i H' _ _ h=>SqL.of (h.1 _ _ ep)) ?_ ?_
   ·intro D i y H' hD hi z9;obtain ⟨s2,hD2⟩ := z9
    have d2:=dz y (List.mem_of_getElem? hi)
    refine ⟨fun k v' e=>?_,_,rfl,_,rfl,_,rfl,day,m,y,rfl,d2.same s2,fun H3 s3=>⟨_,s3 _ _ hD2,(by rw [List.length_map,List.length_take]; exact qfv9 (by omega)),fun b o eb=>?_,?_⟩⟩
    ·match k,e with
     | 0,e=>cases e
     | 1,e=>exact e
     | 2,e=>exact e
     | k+3,e=>cases e
    ·rw [qao9 (qax9 eb hD)]
     exact s3 _ _ (s2 _ _ eb)
    ·rw [qaf9,qdl9 _ hi,d2.roadV_same s2]
   ·intro D H' hD z9;obtain ⟨s2,hD2⟩ := z9
    have eD:H' D=some (.lst ((xs.map (roadV H day m)).map V.bl)):=by
     rw [hD2,List.take_length,List.map_map]
     rfl
    refine ⟨D,_,rfl,SqL.of eD,?_⟩
    have e1:(xs.map (roadV H day m)).all id=xs.all (roadV H day m):=by rw [List.all_map]; rfl
    rw [e1]
    exact q H' s2
end
inductive Ew (H:Hp):Nat->V->Prop
 | non {n:Nat}:Ew H n .non
 | bl {n:Nat} (b:Bool):Ew H n (.bl b)
 | int {n:Nat} (i:Int):Ew H n (.int i)
 | str {n:Nat} (x:Str):Ew H n (.str x)
 | lst {n:Nat} {a:Addr} {xs:List V}:H a=some (.lst xs)->xs.length<=1000->(∀ y∈xs,Ew H n y)->Ew H (n+1) (.ref a)
 | tup {n:Nat} {a:Addr} {xs:List V}:H a=some (.tup xs)->(∀ y∈xs,Ew H n y)->Ew H (n+1) (.ref a)
theorem Ew.same {H H':Hp} (s:Same H H'):∀ {n:Nat} {x:V},Ew H n x->Ew H' n x:=by
 intro n x h
 induction h with
 | non=>exact .non
 | bl b=>exact .bl b
 | int i=>exact .int i
 | str x=>exact .str x
 | lst e l _ ih=>exact .lst (s _ _ e) l ih
 | tup e _ ih=>exact .tup (s _ _ e) ih
theorem Ew.dv {H:Hp} {n:Nat} {x:V} (h:Ew H n x):Dv H x:=by
 cases h with
 | non=>exact .non
 | bl b=>exact .bl b
 | int i=>exact .int i
 | str x=>exact .str x
 | lst e _ _=>exact .lst e
 | tup e _=>exact .tup e
theorem Ew.parts {H:Hp} {n:Nat} {x:V} {zs:List V} (h:Ew H (n+1) x) (e:tupV H x=some zs):∀ z∈zs,Ew H n z:=by
 obtain ⟨a,rfl,ea⟩:=qiq9 e
 cases h with
 | lst e2 _ _=>rw [ea] at e2; cases e2
 | tup e2 p=>rw [ea] at e2; cases e2; exact p
theorem Ew.items {H:Hp} {n:Nat} {x:V} {zs:List V} (h:Ew H (n+1) x) (e:lstV H x=some zs):zs.length<=1000/\∀ z∈zs,Ew H n z:=by
 obtain ⟨a,rfl,ea⟩:=qia9 e
 cases h with
 | tup e2 _=>rw [ea] at e2; cases e2
 | lst e2 l p=>rw [ea] at e2; cases e2; exact ⟨l,p⟩
theorem Ew.d2 {H:Hp} {n:Nat} {x:V} (h:Ew H (n+1) x):Dv2 H x:=⟨h.dv,fun zs e z hz=>(h.parts e z hz).dv⟩
theorem Ew.d3 {H:Hp} {n:Nat} {x:V} (h:Ew H (n+2) x):Dv3 H x:=⟨h.dv,fun zs e=>⟨(h.items e).1,fun z hz=>((h.items e).2 z hz).d2⟩⟩
theorem Ew.dr {H:Hp} {n:Nat} {x:V} (h:Ew H (n+3) x):DvR H x:=⟨h.dv,fun zs e z hz=>(h.parts e z hz).d3⟩
theorem Ew.dn {H:Hp} {n:Nat} {x:V} (h:Ew H (n+4) x):DvN H x:=⟨h.dv,fun zs e=>⟨(h.items e).1,fun z hz=>((h.items e).2 z hz).dr⟩⟩
noncomputable def hide (p:Addr) (H:Hp):Hp:=fun b=>if b=p then none else H b
theorem qdu9 {p b:Addr} {H:Hp} {o:HO} (e:H b=some o) (n:b ≠ p):hide p H b=some o:=by
 unfold hide
 rw [if_neg n]
 exact e
theorem hide_to {p:Addr} {H:Hp}:Same (hide p H) H:=fun b o e=>by
 unfold hide at e
 split at e
 ·cases e
 ·exact e
section
variable {H H1 H2:Hp} {n:Nat} {q:Addr} {xs:List V} {v:V}
end
theorem la_ew {H:Hp} {p b:Addr} {R:List T3} {zs:List V} (h:LA enc3 H b R) (hp:H p=some (.lst zs)) (nb:b ≠ p) (l:R.length<=1000):Ew (hide p H) 2 (.ref b):=by
 obtain ⟨vs,h1,h2,h3⟩:=h.lst
 refine .lst (qdu9 h1 nb) (by omega) fun y hy=>?_
 obtain ⟨i,hi⟩:=List.mem_iff_getElem?.mp hy
 obtain ⟨r,x,rfl,_,er⟩:=h3 i y hi
 refine .tup (qdu9 er fun z=>by rw [z,hp] at er; cases er) fun y hy=>?_
 simp only [enc3,List.mem_cons,List.not_mem_nil,or_false] at hy
 rcases hy with rfl | rfl | rfl <;> exact .int _
theorem NA.item {H:Hp} {p:Addr} {N:List RdT} {vs:List V} {y:V} (h:NA H p N) (l:∀ m∈N,m.2.2.2.length<=1000) (e:H p=some (.lst vs)) (hy:y∈vs):Ew (hide p H) 3 y:=by
 obtain ⟨vs',h1,h2,h3⟩:=h.la.lst
 rw [h1] at e
 cases e
 obtain ⟨i,hi⟩:=List.mem_iff_getElem?.mp hy
 obtain ⟨r,x,rfl,ex,er⟩:=h3 i y hi
 obtain ⟨m,hm,rfl⟩:=List.mem_map.mp (List.mem_of_getElem? ex)
 refine .tup (qdu9 er fun z=>by rw [z,h1] at er; cases er) fun y hy=>?_
 simp only [encK,keyN,List.mem_cons,List.not_mem_nil,or_false] at hy
 rcases hy with rfl | rfl | rfl
 ·exact .int _
 ·exact .int _
 ·exact la_ew (h.bd m hm).1 h1 (h.bd m hm).2 (l m hm)
theorem NA.ew {H:Hp} {p:Addr} {N:List RdT} (h:NA H p N) (l:∀ m∈N,m.2.2.2.length<=1000) (l2:N.length<=1000):Ew H 4 (.ref p):=by
 obtain ⟨vs,h1,h2,_⟩:=h.la.lst
 exact .lst h1 (by rw [h2,List.length_map]; exact l2) fun y hy=>(h.item l h1 hy).same hide_to
noncomputable def BA (H:Hp) (p:Addr) (Bs:List (List T3)):Prop:=∃ rs:List Addr,H p=some (.lst (rs.map V.ref))/\rs.length=Bs.length/\p ∉ rs/\rs.Nodup/\∀ (i:Nat) r B,rs[i]?=some r->Bs[i]?=some B->LA enc3 H r B
section
variable {H H':Hp} {p q:Addr} {Bs:List (List T3)} {d:Int}
theorem BA.nil (h:H p=some (.lst [])):BA H p []:=⟨[],h,rfl,by simp,List.nodup_nil,fun i r B e=>by simp at e⟩
theorem BA.u (h:BA H p Bs) (s:SameU H H'):BA H' p Bs:=by
 obtain ⟨rs,h1,h2,h3,h4,h5⟩:=h
 exact ⟨rs,s.lst h1,h2,h3,h4,fun i r B a b=>(h5 i r B a b).u s⟩
theorem BA.rd {K:W.Frag} (h:BA H p Bs):RdV K H (.ref p) (.list (Bs.map datB)):=by
 obtain ⟨rs,h1,h2,-,-,h5⟩:=h
 refine .lst (SqL.of h1) ?_
 clear h1
 induction rs generalizing Bs with
 | nil =>
  cases Bs with
  | nil=>exact .nil
  | cons B Bs=>simp at h2
 | cons r rs ih =>
  cases Bs with
  | nil=>simp at h2
  | cons B Bs=>exact .cons (rd3 (h5 0 r B rfl rfl)) (ih (Bs:=Bs) (by simpa using h2) fun i r B a b=>h5 (i+1) r B a b)
theorem BA.snoc {r:Addr} {rs:List Addr} {B:List T3} (h:BA H p Bs) (hx:H p=some (.lst (rs.map V.ref))) (hr:LA enc3 H r B) (n1:r ≠ p) (n2:r ∉ rs):BA (upd H p (.lst (rs.map V.ref ++ [.ref r]))) p (Bs ++ [B]):=by
 obtain ⟨rs',h1,h2,h3,h4,h5⟩:=h
 rw [hx] at h1
 have e:rs=rs':=by
  have:rs.map V.ref=rs'.map V.ref:=by
   injection h1 with h1
   injection h1
  exact (List.map_inj_right fun a b z=>by cases z; rfl).mp this
 subst e
 refine ⟨rs ++ [r],by rw [qaf9]; simp,by simp [h2],by simp [h3,Ne.symm n1],?_,fun i r' B' a b=>?_⟩
 ·rw [List.nodup_append]
  exact ⟨h4,by simp,fun a ha b hb=>by rw [List.mem_singleton] at hb; subst hb; exact fun z=>n2 (z ▸ ha)⟩
 ·rcases Nat.lt_or_ge i rs.length with z | z
  ·rw [List.getElem?_append_left z] at a
   rw [List.getElem?_append_left (by omega)] at b
   exact qbw9 (h5 i r' B' a b) hx fun z=>h3 (z ▸ List.mem_of_getElem? a)
  ·obtain ⟨lt,_⟩:=List.getElem?_eq_some_iff.mp a
   have ei:i=rs.length:=by simp at lt; omega
   subst ei
   rw [List.getElem?_append_right (Nat.le_refl _),Nat.sub_self] at a
   rw [List.getElem?_append_right (by omega),show rs.length - Bs.length=0 by omega] at b
   cases a
   cases b
   exact qbw9 hr hx n1
end
noncomputable def Yg (H H':Hp) (p:Addr):Prop:=∀ rs:List Addr,H' p=some (.lst (rs.map V.ref))->∀ r∈rs,H r=none
theorem qha9 {rs rs':List Addr} (h:(HO.lst (rs.map V.ref))=.lst (rs'.map V.ref)):rs=rs':=by
 injection h with h
 exact (List.map_inj_right fun a b z=>by cases z; rfl).mp h
theorem Yg.of {H H':Hp} {p:Addr} {rs:List Addr} (e:H' p=some (.lst (rs.map V.ref))) (h:∀ r∈rs,H r=none):Yg H H' p:=fun rs' e'=>by
 rw [e] at e'
 rw [<- qha9 (Option.some.inj e')]
 exact h
theorem Ma.bt_still {d:Int} (hd:0 < d) (t:Int):Ma.bt d [(0,d - 1,0)] t=some t:=by
 have h:=Ma.bt_snoc d [] (0,d - 1,0) t
 rw [List.nil_append,Ma.bt_nil] at h
 rw [h]
 unfold Ma.btS
 dsimp only
 rw [Ma.nextO_eq d 0 (d - 1) t (by omega)]
 have m:=qfp9 t hd
 rw [if_neg (by omega),if_neg (by omega),Int.add_zero]
theorem Ma.ck_still {d:Int} (hd:0 < d):Ma.CK d [(0,d - 1,0)]:=Ma.ck_one hd ⟨Int.le_refl _,by show 0<=d - 1; omega,by show d - 1 < d; omega,Int.le_refl _⟩
theorem LA.one {H:Hp} {p r:Addr} {x:T3} (h:H p=some (.lst [.ref r])) (e:H r=some (.tup (enc3 x))):LA enc3 H p [x]:=LA.of h rfl fun i y hi=>by
 match i,hi with
 | 0,hi=>cases hi; exact ⟨r,rfl,fun z hz=>by cases hz; exact e⟩
 | k+1,hi=>simp at hi
theorem qeb9 {α:Type} {L:List α} {i:Nat} {x:α} (h:L[i]?=some x):L.take (i+1)=L.take i ++ [x]:=by rw [List.take_succ,h]; rfl
noncomputable abbrev Tb:=List (List T3)
noncomputable def cl (Cs:Tb) (p:Int):List T3:=Cs.getD p.toNat []
noncomputable def ways (d:Int) (F:List RdT) (Cs:Tb) (p t:Int) (o:Option Int):Option Int:=F.foldl (fun acc m=>if m.1=p then Ma.omin acc (Ma.obind (Ma.bt d m.2.2.2) (Ma.bt d (cl Cs m.2.1)) t) else acc) o
noncomputable def stepT (d:Int) (F:List RdT) (Cs:Tb) (p t:Int):Option Int:=ways d F Cs p t (Ma.bt d (cl Cs p) t)
theorem ways_snoc {d:Int} {F:List RdT} {m:RdT} {Cs:Tb} {p t:Int} {o:Option Int}:ways d (F ++ [m]) Cs p t o=if m.1=p then Ma.omin (ways d F Cs p t o) (Ma.obind (Ma.bt d m.2.2.2) (Ma.bt d (cl Cs m.2.1)) t) else ways d F Cs p t o:=by simp [ways]
noncomputable def stay (d:Int) (n:Nat) (p:Int):Tb:=(List.range n).map fun (i:Nat)=>if (i:Int)=p then [(0,d - 1,0)] else []
theorem cl_at {Cs:Tb} {p:Int} (h0:0<=p) (h1:p < (Cs.length:Int)):Cs[p.toNat]?=some (cl Cs p):=by
 unfold cl
 rw [List.getD_eq_getElem?_getD,List.getElem?_eq_getElem (by omega)]
 rfl
theorem qfq9 {Cs:Tb} {p:Int} (h0:0<=p) (h1:p < (Cs.length:Int)):cl Cs p∈Cs:=List.mem_of_getElem? (cl_at h0 h1)
theorem cl_set {Cs:Tb} {p q:Int} {R:List T3} (h0:0<=p) (h1:p < (Cs.length:Int)) (g0:0<=q) (g1:q < (Cs.length:Int)):cl (Cs.set q.toNat R) p=if q=p then R else cl Cs p:=by
 unfold cl
 rw [List.getD_eq_getElem?_getD,List.getD_eq_getElem?_getD,List.getElem?_set]
 by_cases e:q=p
 ·subst e
  rw [if_pos rfl,if_pos rfl,if_pos (by omega)]
  rfl
 ·rw [if_neg e,if_neg (by omega)]
theorem qgv9 {d:Int} {n:Nat} {p q:Int} (h0:0<=q) (h1:q < (n:Int)):cl (stay d n p) q=if q=p then [(0,d - 1,0)] else []:=by
 unfold cl stay
 rw [List.getD_eq_getElem?_getD,List.getElem?_map,List.getElem?_range (by omega)]
 show (if ((q.toNat:Nat):Int)=p then _ else _)=_
 rw [show ((q.toNat:Nat):Int)=q by omega]
noncomputable def TOk (d:Int) (M:Nat) (Cs:Tb):Prop:=∀ C∈Cs,Ma.MuR d C M
noncomputable def FOk (d size:Int) (m:Nat) (F:List RdT):Prop:=∀ f∈F,(0<=f.1/\f.1 < size)/\(0<=f.2.1/\f.2.1 < size)/\Ma.MuR d f.2.2.2 m
theorem TOk.le {d:Int} {M M':Nat} {Cs:Tb} (h:TOk d M Cs) (l:M<=M'):TOk d M' Cs:=fun C hC=>(h C hC).le l
noncomputable def mxT (f m:Nat):Nat->Nat
 | 0=>2
 | k+1=>mxT f m k+f * (m+mxT f m k)
structure NetOk (d size:Int) (N:List RdT):Prop where
 all:∀ m∈N,(0<=m.1/\m.1 < size)/\(0<=m.2.1/\m.2.1 < size)/\m.2.2.2.length<=100/\∀ w∈m.2.2.2,0<=w.1/\w.1<=w.2.1/\w.2.1 < d/\1<=w.2.2
noncomputable def Fords (d:Int) (N F:List RdT):Prop:=F.length=N.length/\∀ (i:Nat) m f,N[i]?=some m->F[i]?=some f->f.1=m.1/\f.2.1=m.2.1/\Ma.CK d f.2.2.2/\f.2.2.2.length<=2 * m.2.2.2.length+1/\∀ t,Ma.bt d f.2.2.2 t=Ma.bt d m.2.2.2 t
theorem NetOk.wins {d size:Int} {N:List RdT} (h:NetOk d size N) {m:RdT} (hm:m∈N):Ma.Wins d m.2.2.2:=fun w hw=>by
 obtain ⟨a,b,c,e⟩:=(h.all m hm).2.2.2 w hw
 exact ⟨a,b,c,by omega⟩
theorem Fords.ok {d size:Int} {N F:List RdT} {m:Nat} (h:Fords d N F) (hN:NetOk d size N) (l:∀ x∈N,4 * x.2.2.2.length+2<=m):FOk d size m F:=fun f hf=>by
 obtain ⟨i,hi⟩:=List.getElem?_of_mem hf
 have lt:=(List.getElem?_eq_some_iff.mp hi).1
 have hx:=List.getElem?_eq_getElem (show i < N.length by rw [<- h.1]; exact lt)
 obtain ⟨e1,e2,ck,ln,_⟩:=h.2 i _ f hx hi
 have hm:=List.mem_of_getElem? hx
 have:=hN.all _ hm
 have:=l _ hm
 exact ⟨by rw [e1]; exact (hN.all _ hm).1,by rw [e2]; exact (hN.all _ hm).2.1,ck,fun z=>(Ma.mu_of ck (Ma.tells_bf z)).le (by omega)⟩
structure FA (H:Hp) (p:Addr) (F:List RdT):Prop where
 la:LA encK H p (F.map keyN)
 bd:∀ m∈F,LA enc3 H m.2.2.1 m.2.2.2
theorem FA.u {H H':Hp} {p:Addr} {F:List RdT} (h:FA H p F) (s:SameU H H'):FA H' p F:=⟨h.la.u s,fun m hm=>(h.bd m hm).u s⟩
theorem NA.u {H H':Hp} {p:Addr} {N:List RdT} (h:NA H p N) (s:SameU H H'):NA H' p N:=⟨h.la.u s,fun m hm=>⟨(h.bd m hm).1.u s,(h.bd m hm).2⟩,h.nd⟩
theorem NA.net {H:Hp} {p:Addr} {N:List RdT} {d size:Int} (h:NA H p N) (hN:NetOk d size N) (h1:1<=size):netV H d (.int size) (.ref p)=true:=by
 obtain ⟨vs,e1,e2,e3⟩:=h.la.lst
 unfold netV
 rw [qkg9 e1]
 simp only [Bool.and_eq_true,decide_eq_true_eq]
 refine ⟨h1,List.all_eq_true.mpr fun y hy=>?_⟩
 obtain ⟨i,hi⟩:=List.mem_iff_getElem?.mp hy
 obtain ⟨r,x,rfl,ex,er⟩:=e3 i y hi
 obtain ⟨m,hm,rfl⟩:=List.mem_map.mp (List.mem_of_getElem? ex)
 obtain ⟨⟨a1,a2⟩,⟨b1,b2⟩,_,w⟩:=hN.all m hm
 unfold roadV
 rw [qol9 er]
 have hb:=(h.bd m hm).1
 have hB:=qnl9 hb (hN.wins hm)
 show (numV size (.int m.1) && (numV size (.int m.2.1) && (qfo9 H d (.ref m.2.2.1) && posB H (.ref m.2.2.1))))=true
 rw [hB]
 simp only [numV,Bool.and_eq_true,decide_eq_true_eq]
 refine ⟨⟨a1,a2⟩,⟨b1,b2⟩,trivial,?_⟩
 obtain ⟨us,u1,u2,u3⟩:=hb.lst
 unfold posB
 rw [qkg9 u1]
 refine List.all_eq_true.mpr fun y hy=>?_
 obtain ⟨i,hi⟩:=List.mem_iff_getElem?.mp hy
 obtain ⟨r,x,rfl,ex,er⟩:=u3 i y hi
 unfold posW
 rw [qol9 er]
 have:=(w x (List.mem_of_getElem? ex)).2.2.2
 simp only [enc3,decide_eq_true_eq]
 omega
theorem BA.at {H:Hp} {p:Addr} {Cs:Tb} {i:Int} (h:BA H p Cs) (h0:0<=i) (h1:i < (Cs.length:Int)):∃ (rs:List Addr) (r:Addr),H p=some (.lst (rs.map V.ref))/\atI (rs.map V.ref) i=some (.ref r)/\rs[i.toNat]?=some r/\rs.length=Cs.length/\LA enc3 H r (cl Cs i):=by
 obtain ⟨rs,e1,e2,e3,e4,e5⟩:=h
 have hr:rs[i.toNat]?=some (rs[i.toNat]'(by omega)):=List.getElem?_eq_getElem (by omega)
 refine ⟨rs,_,e1,?_,hr,e2,e5 _ _ _ hr (cl_at h0 h1)⟩
 have:=qeu9 (j:=i.toNat) (v:=V.ref (rs[i.toNat]'(by omega))) (xs:=rs.map V.ref) (by rw [List.getElem?_map,hr]; rfl)
 rw [show ((i.toNat:Nat):Int)=i by omega] at this
 exact this
theorem ixN_pos {n:Nat} {i:Int} (h0:0<=i) (h1:i < (n:Int)):ixN n i=some i.toNat:=by
 unfold ixN
 rw [if_pos h0,if_pos h1]
theorem BA.set {H:Hp} {p r:Addr} {Cs:Tb} {rs:List Addr} {i:Nat} {R:List T3} (h:BA H p Cs) (hx:H p=some (.lst (rs.map V.ref))) (hr:LA enc3 H r R) (n1:r ≠ p) (n2:r ∉ rs) (hi:i < Cs.length):BA (upd H p (.lst ((rs.map V.ref).set i (.ref r)))) p (Cs.set i R):=by
 obtain ⟨rs',e1,e2,e3,e4,e5⟩:=h
 rw [hx] at e1
 have e:=qha9 (Option.some.inj e1)
 subst e
 have ms:(rs.map V.ref).set i (.ref r)=(rs.set i r).map V.ref:=by rw [List.map_set]
 refine ⟨rs.set i r,by rw [qaf9,ms],by simp [e2],fun z=>?_,?_,fun j r' B a b=>?_⟩
 ·rcases List.mem_or_eq_of_mem_set z with z | z
  ·exact e3 z
  ·exact n1 z.symm
 ·rw [List.nodup_iff_pairwise_ne,List.pairwise_iff_getElem]
  intro a b ha hb hab
  rw [List.getElem_set,List.getElem_set]
  have ha':a < rs.length:=by simpa using ha
  have hb':b < rs.length:=by simpa using hb
  by_cases z1:i=a
  ·rw [if_pos z1,if_neg (by omega)]
   exact fun z=>n2 (z ▸ List.getElem_mem hb')
  ·rw [if_neg z1]
   by_cases z2:i=b
   ·rw [if_pos z2]
    exact fun z=>n2 (z ▸ List.getElem_mem ha')
   ·rw [if_neg z2]
    intro z
    have:=(List.getElem_inj e4).mp z
    omega
 ·rw [List.getElem?_set] at a b
  by_cases z:i=j
  ·rw [if_pos z,if_pos (by omega)] at a b
   cases a
   cases b
   exact qbw9 hr hx n1
  ·rw [if_neg z] at a b
   exact qbw9 (e5 j r' B a b) hx fun z=>e3 (z ▸ List.mem_of_getElem? a)
theorem comp_copy {K:W.Frag} {H:Hp} {p:Addr} {Cs:Tb} {σ:L2.St} {Q:VK} (hB:BA H p Cs) (hl:Cs.length<=1000) (q:∀ (l:Addr) (H':Hp),Same H H'->H l=none->BA H' l Cs->Yg H H' l->Q (.ref l) H') :
  cBody [none] (gName 0) tTrue (tCB (fun xs H Q=>∃ p ys,xs=[V.ref p]/\(SqL K H p ys\/SqT K H p ys)/\∀ l,H l=none->Q (V.ref l) (upd H l (.lst ys))) (tCons (tVar 0) tNil)) σ Q (Itl K p) H:=by
 obtain ⟨rs,h1,h2,h3,h4,h5⟩:=id hB
 have hrl:(rs.map V.ref).length=Cs.length:=by simp [h2]
 refine qcu9 (K:=K) (a:=p) (xs:=rs.map V.ref) (fun D i H'=>Same H H'/\BA H' D (Cs.take i)/\Yg H H' D) (fun D hD=>⟨qal9 hD _,BA.nil qaf9,Yg.of (rs:=[]) qaf9 (fun r hr=>by cases hr)⟩) (fun D i H' _ _ h=>SqL.of (h.1 _ _ h1)) ?_ ?_
 ·intro D i y H' hD hi z9;obtain ⟨sD,hB',hY⟩ := z9
  have hil:i < rs.length:=by
   have:=(List.getElem?_eq_some_iff.mp hi).1
   simpa using this
  have hr':rs[i]?=some rs[i]:=List.getElem?_eq_getElem hil
  have ey:y=.ref rs[i]:=by
   rw [List.getElem?_map,hr'] at hi
   exact (Option.some.inj hi).symm
  subst ey
  have hb:Cs[i]?=some (Cs[i]'(by omega)):=List.getElem?_eq_getElem (by omega)
  have la:=(h5 i _ _ hr' hb).same sD
  generalize Cs[i]'(by omega)=C at hb la
  generalize rs[i]=rc at la
  obtain ⟨us,hu1,hu2,hu3⟩:=la.lst
  refine ⟨fun k v e=>?_,?_⟩
  ·match k,e with
   | 0,e=>cases e
   | k+1,e=>cases e
  refine ⟨_,rfl,rc,_,rfl,.inl (SqL.of hu1),fun l hl'=>?_⟩
  have hl0:=hl'
  have s1:=qal9 hl' (.lst us)
  have hc:=la.copy s1 hu1 qaf9
  generalize upd H' l (.lst us)=H1 at *
  obtain ⟨os,o1,o2,o3,o4,o5⟩:=id hB'
  have hol:os.length=i:=by rw [o2,List.length_take]; omega
  have nlD:l ≠ D:=fun z=>by rw [z,o1] at hl0; cases hl0
  have nlo:l ∉ os:=fun z=>by
   obtain ⟨j,hj⟩:=List.getElem?_of_mem z
   have lj:=(List.getElem?_eq_some_iff.mp hj).1
   exact la_ne (enc':=enc3) (o5 j l _ hj (List.getElem?_eq_getElem (by omega))) hl0 rfl
  refine ⟨_,s1 _ _ o1,qbj9 (by simp; omega),qcx9 hD (sD.trans s1),?_,Yg.of (rs:=os ++ [l]) (by rw [qaf9]; simp) fun r hr=>?_⟩
  ·rw [qeb9 hb]
   exact (hB'.u (SameU.of s1)).snoc (s1 _ _ o1) hc nlD nlo
  ·rcases List.mem_append.mp hr with hr | hr
   ·exact hY os o1 r hr
   ·rw [List.mem_singleton] at hr
    subst hr
    exact sD.free hl0
 ·intro D H' hD z9;obtain ⟨sD,hB',hY⟩ := z9
  rw [hrl,List.take_length] at hB'
  exact q D H' sD hD hB' hY
noncomputable def qkm9:Sp:=fun vs H Q _=>∃ (d size:Int) (p:Addr) (N:List RdT),vs=[.int d,.int size,.ref p]/\NA H p N/\N.length<=1000/\NetOk d size N/\1<=size/\∀ H',Same H H'->Q .non H'
noncomputable def qds9:Sp:=fun vs H Q _=>∃ size p:Int,vs=[.int size,.int p]/\0<=p/\p < size/\Q .non H
noncomputable def qkb9:Sp:=fun vs H Q _=>∃ (d size:Int) (p:Addr) (N:List RdT),vs=[.int d,.ref p]/\NA H p N/\N.length<=1000/\0 < d/\NetOk d size N/\∀ (l:Addr) (F:List RdT) (H':Hp),Same H H'->FA H' l F->Fords d N F->Q (.ref l) H'
noncomputable def spStand:Sp:=fun vs H Q _=>∃ day:Int,vs=[.int day]/\∀ (l:Addr) (H':Hp),Same H H'->H l=none->LA enc3 H' l [(0,day - 1,0)]->Q (.ref l) H'
noncomputable def qdw9:Sp:=fun vs H Q _=>∃ (d:Int) (n:Nat) (p:Int),vs=[.int d,.int n,.int p]/\n<=1000/\∀ (l:Addr) (H':Hp),Same H H'->H l=none->BA H' l (stay d n p)->Yg H H' l->Q (.ref l) H'
noncomputable def qdy9:Sp:=fun vs H Q _=>∃ (p:Addr) (Cs:Tb),vs=[.ref p]/\BA H p Cs/\Cs.length<=1000/\∀ (l:Addr) (H':Hp),Same H H'->H l=none->BA H' l Cs->Yg H H' l->Q (.ref l) H'
noncomputable def spRide (T:Hp->Prop) (stp:Int->List RdT->Tb->Int->Int->Option Int):Sp:=fun vs H Q _=>∃ (d:Int) (pF:Addr) (F:List RdT) (pt:Addr) (Cs:Tb) (M m:Nat),vs=[.int d,.ref pF,.ref pt]/\FA H pF F/\BA H pt Cs/\T H/\FOk d Cs.length m F/\TOk d M Cs/\M+F.length * (m+M)<=1000000/\(2 * (m+1)+2) * (2 * (M+1)+2)<=16000000/\Cs.length<=1000 /\
 ∀ (l:Addr) (Ds:Tb) (H':Hp),SameU H H'->T H'->H l=none->BA H' l Ds->Yg H H' l->Ds.length=Cs.length->TOk d (M+F.length * (m+M)) Ds->(∀ p,0<=p->p < (Cs.length:Int)->∀ t,Ma.bt d (cl Ds p) t=stp d F Cs p t)->Q (.ref l) H'
section
variable {P:Program} {w:World} {K:W.Frag} {mg:Str->Option Value} {base:Heap} {f:Addr} {fd:FuncData} {n:Nat} {T:Hp->Prop}
theorem qlz9 (F:Fun K "need_net" "need_net" qdc9 f fd) (Cq1:Callee P w K mg base n "is_net" ["day","size","roads"] spIsNet):FnOk P w K mg base CX0 (n+1) f fd ["day","size","roads"] qkm9:=by
 refine F.okQ qlu9 (fun vs H Q E h=>?_) (fun cdv A outer s H vs Q E hr h=>?_)
 ·obtain ⟨_,_,_,_,rfl,_⟩:=h
  rfl
 obtain ⟨d,size,p,N,rfl,hN,nl,ok,h1,q⟩:=h
 refine ⟨_,(qae9 (qs_if (qfd9 (qcq9 (qe_fn Cq1 hr rfl (qa_c (qv 0) (qa_c (qv 1) (qa_c (qv 2) qac9)))))) (qae9 qgb9) qba9)),?_⟩
 try dsimp only [cx_k,cx_kn,as_nil,as_name,Nat.reduceAdd]
 have ew:=hN.ew (fun m hm=>by have:=(ok.all m hm).2.2.1; omega) nl
 refine ⟨_,rfl,_,rfl,_,rfl,d,.int size,.ref p,rfl,.int _,Ew.dn (n:=0) ew,fun H1 s1=>?_⟩
 rw [hN.net ok h1]
 exact ⟨_,rfl,iteF (q H1 s1)⟩
theorem qie9 (F:Fun K "need_place" "need_place" qce9 f fd) (Cc0:Callee P w K mg base n "is_number" ["count","thing"] qgj9):FnOk P w K mg base CX0 (n+1) f fd ["size","thing"] qds9:=by
 refine F.okQ qin9 (fun vs H Q E h=>?_) (fun cdv A outer s H vs Q E hr h=>?_)
 ·obtain ⟨_,_,rfl,_⟩:=h
  rfl
 obtain ⟨size,p,rfl,h0,h1,q⟩:=h
 refine ⟨_,(qae9 (qs_if (qfd9 (qcq9 (qe_fn Cc0 hr rfl (qa_c (qv 0) (qa_c (qv 1) qac9))))) (qae9 qgb9) qba9)),?_⟩
 try dsimp only [cx_k,cx_kn,as_nil,as_name,Nat.reduceAdd]
 refine ⟨_,rfl,_,rfl,size,.int p,rfl,.int _,?_⟩
 have e:numV size (.int p)=true:=by simp [numV,h0,h1]
 rw [e]
 exact ⟨_,rfl,iteF q⟩
theorem ok_stand (F:Fun K "standing" "standing" qcz9 f fd):FnOk P w K mg base CX0 (n+1) f fd ["day"] spStand:=by
 refine F.okQ qmc9 (fun vs H Q E h=>?_) (fun cdv A outer s H vs Q E hr h=>?_)
 ·obtain ⟨_,rfl,_⟩:=h
  rfl
 obtain ⟨day,rfl,q⟩:=h
 refine ⟨_,(qae9 (qas9 (qch9 (qa_c (qci9 (qa_c qad9 (qa_c (qe_op qdi9 (qv 0) qad9) (qa_c qad9 qac9)))) qac9)))),?_⟩
 try dsimp only [cx_k,cx_kn,as_nil,as_name,Nat.reduceAdd]
 refine ⟨_,rfl,_,_,rfl,rfl,(by show 3<=sizeLine; decide),fun r1 hr1=>?_⟩
 generalize hgH1:upd _ r1 _=H1
 obtain ⟨s1,e1⟩:=qaq9 hr1 hgH1
 clear hgH1
 refine ⟨(by show 1<=sizeLine; decide),fun pl hpl=>?_⟩
 generalize hgH2:upd _ pl _=H2
 obtain ⟨s2,e2⟩:=qaq9 hpl hgH2
 clear hgH2
 exact q pl H2 (s1.trans s2) (s1.free hpl) (LA.one e2 (s2 _ _ e1))
theorem qls9 (F:Fun K "fords_of" "fords_of" qdf9 f fd) (Cg1:Callee P w K mg base n "clock_of" ["day","board"] qli9):FnOk P w K mg base CX0 (n+1) f fd ["day","roads"] qkb9:=by
 refine F.okQ qmh9 (fun vs H Q E h=>?_) (fun cdv A outer s H vs Q E hr h=>?_)
 ·obtain ⟨_,_,_,_,rfl,_⟩:=h
  rfl
 obtain ⟨d,size,pr,N,rfl,hN,nl,hd,ok,q⟩:=h
 refine ⟨_,(qae9 (qas9 (qet9 ["start","end","board","day"] [none,none,none,some 0] (BlkOk.of rfl rfl (SubL.to (subC rfl subN)) rfl) rfl (qck9 (qv 1)) (fun _ _ _ _=>(qkd9 (n:=3) K rfl rfl (qaj9 (qam9 (i:=0) (show (["start","end","board","day"]:List Str).Nodup by decide) rfl (Or.inl rfl)) (qaj9 (qam9 (i:=1) (show (["start","end","board","day"]:List Str).Nodup by decide) rfl (Or.inl rfl)) (qaj9 (qam9 (i:=2) (show (["start","end","board","day"]:List Str).Nodup by decide) rfl (Or.inl rfl)) qct9))))) (fun _ _ _ _=>(qci9 (qa_c (qv 0) (qa_c (qv 1) (qa_c (qe_fn Cg1 hr rfl (qa_c (qv 3) (qa_c (qv 2) qac9))) qac9)))))))),?_⟩
 try dsimp only [cx_k,cx_kn,as_nil,as_name,Nat.reduceAdd]
 obtain ⟨ws,hw1,hw2,hw3⟩:=hN.la.lst
 rw [List.length_map] at hw2
 refine ⟨_,rfl,pr,rfl,⟨_,SqL.of hw1⟩,?_⟩
 refine qcu9 (K:=K) (a:=pr) (xs:=ws) (fun D i H'=>Same H H'/\∃ F,FA H' D F/\(∀ m∈F,m.2.2.1 ≠ D)/\Fords d (N.take i) F) (fun D hD=>⟨qal9 hD _,[],⟨LA.nil qaf9,fun m hm=>by cases hm⟩,(fun m hm=>by cases hm),by simp,fun i m f a b=>by simp at b⟩) (fun D i H' _ _ h=>SqL.of (h.1 _ _ hw1)) ?_ ?_
 ·intro D i y H' hD hi z9;obtain ⟨sD,F,hF,hne,fo⟩ := z9
  obtain ⟨r,x,rfl,ex,er⟩:=hw3 i y hi
  have hi2:i < N.length:=by
   have:=(List.getElem?_eq_some_iff.mp hi).1
   omega
  have em:=List.getElem?_eq_getElem hi2
  rw [List.getElem?_map,em] at ex
  cases ex
  have hm:=List.getElem_mem hi2
  have hb:=(hN.bd _ hm).1
  generalize N[i]=m at *
  refine ⟨r,_,rfl,SqT.of (sD _ _ er),rfl,_,_,rfl,_,_,rfl,_,_,rfl,rfl,fun k v e=>?_,?_⟩
  ·match k,e with
   | 0,e=>cases e
   | 1,e=>cases e
   | 2,e=>cases e
   | 3,e=>exact e
   | k+4,e=>cases e
  have lb:=(ok.all m hm).2.2.1
  refine ⟨_,rfl,_,rfl,_,rfl,_,rfl,d,m.2.2.1,m.2.2.2,rfl,hb.same sD,by omega,hd,ok.wins hm,fun l R' H1 s1 f1 la1 l1 ck1 e1=>?_⟩
  refine ⟨(by show 3<=sizeLine; decide),fun rr hrr=>?_⟩
  generalize hgH2:upd _ rr _=H2
  obtain ⟨s2,e2⟩:=qaq9 hrr hgH2
  clear hgH2
  have s12:=s1.trans s2
  obtain ⟨vs,hv1,hv2,_⟩:=(hF.u (SameU.of s12)).la.lst
  have ml:F.length=i:=by rw [fo.1,List.length_take]; omega
  rw [List.length_map] at hv2
  have nlD:l ≠ D:=fun z=>by
   obtain ⟨us,u1,_⟩:=hF.la.lst
   rw [z,u1] at f1
   cases f1
  refine ⟨_,hv1,qbj9 (by omega),qcx9 hD (sD.trans s12),F ++ [(m.1,m.2.1,l,R')],⟨?_,fun x hx=>?_⟩,fun x hx=>?_,?_,fun j a b ha hb'=>?_⟩
  ·rw [List.map_append]
   exact (hF.u (SameU.of s12)).la.append (x:=(m.1,m.2.1,l)) hv1 e2
  ·rcases List.mem_append.mp hx with hx | hx
   ·exact qbw9 ((hF.u (SameU.of s12)).bd x hx) hv1 (hne x hx)
   ·rw [List.mem_singleton] at hx
    subst hx
    exact qbw9 (la1.same s2) hv1 nlD
  ·rcases List.mem_append.mp hx with hx | hx
   ·exact hne x hx
   ·rw [List.mem_singleton] at hx
    subst hx
    exact nlD
  ·rw [List.length_append,ml,List.length_take]
   simp
   omega
  ·rw [qeb9 em] at ha
   rcases Nat.lt_or_ge j i with z | z
   ·rw [List.getElem?_append_left (by simp; omega)] at ha
    rw [List.getElem?_append_left (by omega)] at hb'
    exact fo.2 j a b ha hb'
   ·have:=(List.getElem?_eq_some_iff.mp hb').1
    simp at this
    have ej:j=i:=by omega
    subst ej
    rw [List.getElem?_append_right (by simp; omega),List.length_take,show j - min j N.length=0 by omega] at ha
    rw [List.getElem?_append_right (by omega),ml,Nat.sub_self] at hb'
    cases ha
    cases hb'
    exact ⟨rfl,rfl,ck1,l1,e1⟩
 ·intro D H' hD z9;obtain ⟨sD,F,hF,hne,fo⟩ := z9
  rw [hw2,List.take_length] at fo
  exact q D F H' sD hF fo
theorem ok_copied (F:Fun K "copied_table" "copied_table" qbs9 f fd) (B:Bl mg):FnOk P w K mg base CX0 (n+1) f fd ["told"] qdy9:=by
 refine F.okQ qgo9 (fun vs H Q E h=>?_) (fun cdv A outer s H vs Q E hr h=>?_)
 ·obtain ⟨_,_,rfl,_⟩:=h
  rfl
 obtain ⟨p,Cs,rfl,hB,hl,q⟩:=h
 refine ⟨_,(qae9 (qas9 (qet9 ["clock"] [none] (BlkOk.of rfl rfl (SubL.to subN) rfl) rfl (qck9 (qv 0)) (fun _ _ _ _=>(qam9 (i:=0) (show (["clock"]:List Str).Nodup by decide) rfl (Or.inl rfl))) (fun _ _ _ _=>(qe_ct (qek9 K rfl) rfl B.list_ qfm9 (qa_c (qv 0) qac9)))))),?_⟩
 try dsimp only [cx_k,cx_kn,as_nil,as_name,Nat.reduceAdd]
 obtain ⟨rs,h1,h2,h3,h4,h5⟩:=id hB
 refine ⟨_,rfl,p,rfl,⟨_,SqL.of h1⟩,?_⟩
 exact comp_copy hB hl q
theorem qoz9 (F:Fun K "staying" "staying" qdp9 f fd) (B:Bl mg) (Ch1:Callee P w K mg base n "standing" ["day"] spStand):FnOk P w K mg base CX0 (n+1) f fd ["day","size","place"] qdw9:=by
 refine F.okQ qnc9 (fun vs H Q E h=>?_) (fun cdv A outer s H vs Q E hr h=>?_)
 ·obtain ⟨_,_,_,rfl,_⟩:=h
  rfl
 obtain ⟨d,m,p,rfl,ml,q⟩:=h
 refine ⟨_,(qae9 (qas9 (qet9 ["number","day","place"] [none,some 0,some 2] (BlkOk.of rfl rfl (SubL.to (subC rfl (subC rfl subN))) rfl) rfl (qfu9 rfl B.range (qa_c (qv 1) qac9)) (fun _ _ _ _=>(qam9 (i:=0) (show (["number","day","place"]:List Str).Nodup by decide) rfl (Or.inl rfl))) (fun _ _ _ _=>(qho9 (qdo9 (qap9 qdn9 (qv 0) (qv 2) (qay9 _)) (qe_fn Ch1 hr rfl (qa_c (qv 1) qac9)) (qch9 qac9))))))),?_⟩
 try dsimp only [cx_k,cx_kn,as_nil,as_name,Nat.reduceAdd]
 refine ⟨_,rfl,(m:Int),rfl,by omega,by omega,?_⟩
 have mt:((m:Nat):Int).toNat=m:=by omega
 refine qmi9 (lo:=0) (n:=((m:Nat):Int).toNat) (fun D i H'=>Same H H'/\BA H' D (stay d i p)/\Yg H H' D) (fun D hD=>⟨qal9 hD _,BA.nil qaf9,Yg.of (rs:=[]) qaf9 (fun r hr=>by cases hr)⟩) ?_ ?_
 ·intro D i H' hD hi z9;obtain ⟨sD,hB,hY⟩ := z9
  refine ⟨fun k v e=>?_,?_⟩
  ·match k,e with
   | 0,e=>cases e
   | 1,e=>exact e
   | 2,e=>exact e
   | k+3,e=>cases e
  have fin:∀ (l:Addr) (C:List T3) (H1:Hp),Same H' H1->H' l=none->LA enc3 H1 l C->C=(if (i:Int)=p then [(0,d - 1,0)] else [])->∃ ys,H1 D=some (.lst ys)/\ys.length < sizeLine/\Same H (upd H1 D (.lst (ys ++ [.ref l])))/\BA (upd H1 D (.lst (ys ++ [.ref l]))) D (stay d (i+1) p)/\Yg H (upd H1 D (.lst (ys ++ [.ref l]))) D:=fun l C H1 s1 fl hC eC=>by
   obtain ⟨os,o1,o2,o3,o4,o5⟩:=id hB
   have hol:os.length=i:=by rw [o2]; simp [stay]
   have nlD:l ≠ D:=fun z=>by rw [z,o1] at fl; cases fl
   have nlo:l ∉ os:=fun z=>by
    obtain ⟨j,hj⟩:=List.getElem?_of_mem z
    have lj:=(List.getElem?_eq_some_iff.mp hj).1
    exact la_ne (enc':=enc3) (o5 j l _ hj (List.getElem?_eq_getElem (by omega))) fl rfl
   refine ⟨_,s1 _ _ o1,qbj9 (by simp; omega),qcx9 hD (sD.trans s1),?_,Yg.of (rs:=os ++ [l]) (by rw [qaf9]; simp) fun r hr=>?_⟩
   ·have:=(hB.u (SameU.of s1)).snoc (s1 _ _ o1) hC nlD nlo
    have e:stay d (i+1) p=stay d i p ++ [C]:=by
     unfold stay
     rw [List.range_succ,List.map_append,eC]
     rfl
    rw [e]
    exact this
   ·rcases List.mem_append.mp hr with hr | hr
    ·exact hY os o1 r hr
    ·rw [List.mem_singleton] at hr
     subst hr
     exact sD.free fl
  rw [show (0:Int)+((i:Nat):Int)=(i:Int) by omega]
  refine ⟨fun v H1=>∃ (l:Addr) (C:List T3),v=.ref l/\Same H' H1/\H' l=none/\LA enc3 H1 l C/\C=(if (i:Int)=p then [(0,d - 1,0)] else []),?_,?_⟩
  ·refine ⟨_,rfl,_,rfl,rfl,_,rfl,ite2 (fun c=>?_) (fun c=>?_)⟩
   ·have c':(i:Int)=p:=by
     have:=of_decide_eq_true c
     injection this
    refine ⟨_,rfl,d,rfl,fun l H1 s1 f1 la1=>⟨l,_,rfl,s1,f1,la1,by rw [if_pos c']⟩⟩
   ·have c':¬ (i:Int)=p:=fun z=>c (decide_eq_true (by rw [z]))
    refine ⟨(by show 0<=sizeLine; decide),fun l hl=>⟨l,[],rfl,qal9 hl _,hl,LA.nil qaf9,by rw [if_neg c']⟩⟩
  intro v H1 z9;obtain ⟨l,C,rfl,s1,f1,la1,eC⟩ := z9
  exact fin l C H1 s1 f1 la1 eC
 ·intro D H' hD z9;obtain ⟨sD,hB,hY⟩ := z9
  rw [mt] at hB
  exact q D H' sD hD hB hY
theorem qic9 (hTB:TB T) (F:Fun K "ride_first" "ride_first" qcb9 f fd) (Ca0:Callee P w K mg base n "copied_table" ["told"] qdy9) (Cj0:Callee P w K mg base n "sooner" ["day","one","other"] (spTwo Ma.omin)) (Cm0:Callee P w K mg base n "behind" ["day","one","other"] (qhj9 T)):FnOk P w K mg base CX0 (n+1) f fd ["day","fords","told"] (spRide T stepT):=by
 refine F.okQ sc_ride_first (fun vs H Q E h=>?_) (fun cdv A outer s H vs Q E hr h=>?_)
 ·obtain ⟨_,_,_,_,_,_,_,rfl,_⟩:=h
  rfl
 obtain ⟨d,pF,F,pt,Cs,M,m,rfl,hF,hB,hT,fok,tok,b1,b2,nl,q⟩:=h
 refine ⟨_,(qab9 (qak9 (i:=3) sc_ride_first.nd rfl (Or.inl rfl) (qe_fn Ca0 hr rfl (qa_c (qv 2) qac9))) (qab9 (qea9 PassesOwn.never rfl (qck9 (qv 1)) (qfb9 rfl (qaj9 (qam9 (i:=4) sc_ride_first.nd rfl (Or.inl rfl)) (qaj9 (qam9 (i:=5) sc_ride_first.nd rfl (Or.inl rfl)) (qaj9 (qam9 (i:=6) sc_ride_first.nd rfl (Or.inl rfl)) qct9)))) (qae9 (qs_asg (qe_fn Cj0 hr rfl (qa_c (qv 0) (qa_c (qe_ix qai9 (qv 3) (qv 4) (fun _ _=>rfl)) (qa_c (qe_fn Cm0 hr rfl (qa_c (qv 0) (qa_c (qv 6) (qa_c (qe_ix qai9 (qv 2) (qv 5) (fun _ _=>rfl)) qac9)))) qac9)))) (qg_sub (qv 3) (qv 4) qjw9)))) (qae9 (qas9 (qv 3))))),?_⟩
 try dsimp only [cx_k,cx_kn,as_nil,as_name,Nat.reduceAdd]
 refine ⟨_,rfl,pt,Cs,rfl,hB,nl,fun pn H1 s1 f1 B1 Y1=>?_⟩
 have u1:=SameU.of s1
 obtain ⟨ws,hw1,hw2,hw3⟩:=hF.la.lst
 rw [List.length_map] at hw2
 refine ⟨_,rfl,pF,rfl,⟨_,SqL.of (s1 _ _ hw1)⟩,qdm9 (K:=K) (a:=pF) (xs:=ws)
  (fun i σ H'=>∃ (Ds:Tb) (v4 v5 v6:Option V),σ=[some (.int d),some (.ref pF),some (.ref pt),some (.ref pn),v4,v5,v6]/\SameU H H'/\T H'/\BA H' pn Ds/\Yg H H' pn/\Ds.length=Cs.length/\TOk d (M+i * (m+M)) Ds/\∀ p,0<=p->p < (Cs.length:Int)->∀ t,Ma.bt d (cl Ds p) t=ways d (F.take i) Cs p t (Ma.bt d (cl Cs p) t))
  ⟨Cs,_,_,_,rfl,u1,hTB.same _ _ hT s1,B1,Y1,rfl,by simpa using tok,fun p _ _ t=>rfl⟩ (fun i σ H' _ ⟨_,_,_,_,_,u,_⟩=>SqL.of (u.lst hw1)) ?_ ?_⟩
 ·intro i y σ H2 hi z9;obtain ⟨Ds,v4,v5,v6,rfl,u2,t2,B2,Y2,l2,tok2,e2⟩ := z9
  obtain ⟨r,x,rfl,ex,er⟩:=hw3 i y hi
  have hi2:i < F.length:=by
   have:=(List.getElem?_eq_some_iff.mp hi).1
   omega
  have em:=List.getElem?_eq_getElem hi2
  rw [List.getElem?_map,em] at ex
  cases ex
  have hm:=List.getElem_mem hi2
  generalize F[i]=g at *
  obtain ⟨⟨a0,a1⟩,⟨b0,b1'⟩,mu⟩:=fok g hm
  refine ⟨r,_,rfl,SqT.of (u2.tup er),rfl,_,_,rfl,_,_,rfl,_,_,rfl,rfl,?_⟩
  obtain ⟨rs,rc,r1,r2,r3,r4,r5⟩:=B2.at a0 (by rw [l2]; exact a1)
  obtain ⟨ts,tc,q1,q2,q3,q4,q5⟩:=(hB.u u2).at b0 b1'
  have muD:=tok2 _ (qfq9 a0 (by rw [l2]; exact a1))
  have muC:=tok _ (qfq9 b0 b1')
  have lg:=mu.len
  have lC:=muC.len
  have lD:=muD.len
  have im:M+i * (m+M)<=M+F.length * (m+M):=Nat.add_le_add_left (Nat.mul_le_mul_right _ (by omega)) _
  have im2:M+(i+1) * (m+M)<=M+F.length * (m+M):=Nat.add_le_add_left (Nat.mul_le_mul_right _ (by omega)) _
  have ie:M+(i+1) * (m+M)=M+i * (m+M)+(m+M):=by rw [Nat.add_mul,Nat.one_mul]; omega
  have bnd:(2 * g.2.2.2.length+1) * (2 * (cl Cs g.2.1).length+2)<=16000000:=Nat.le_trans (Nat.mul_le_mul (by omega) (by omega)) b2
  refine ⟨_,rfl,_,rfl,_,rfl,pn,_,_,_,rfl,rfl,SqL.of r1,r2,_,rfl,_,rfl,_,rfl,_,rfl,pt,_,_,_,rfl,rfl,SqL.of q1,q2,d,g.2.2.1,tc,g.2.2.2,cl Cs g.2.1,rfl,(hF.u u2).bd g hm,q5,t2,by omega,by omega,bnd,mu.1,muC.1,fun l3 R3 H3 u3 t3 f3 la3 _ ck3 e3=>?_⟩
  have mu3:=Ma.MuR.bind ck3 mu muC e3
  have l3':=mu3.len
  refine ⟨d,rc,l3,cl Ds g.1,R3,rfl,r5.u u3,la3,by omega,by omega,muD.1,ck3,fun l4 R4 H4 s4 f4 la4 _ ck4 e4=>?_⟩
  have mu4:=Ma.MuR.min ck4 muD mu3 e4
  have u24:=u3.trans (SameU.of s4)
  have r14:=u24.lst r1
  have nlp:l4 ≠ pn:=fun z=>by rw [z,u3.lst r1] at f4; cases f4
  have nlr:l4 ∉ rs:=fun z=>by
   obtain ⟨rs',x1,x2,x3,x4,x5⟩:=B2.u u3
   rw [u3.lst r1] at x1
   have:=qha9 (Option.some.inj x1)
   subst this
   obtain ⟨j,hj⟩:=List.getElem?_of_mem z
   have lj:=(List.getElem?_eq_some_iff.mp hj).1
   exact la_ne (enc':=enc3) (x5 j l4 _ hj (List.getElem?_eq_getElem (by omega))) f4 rfl
  refine ⟨_,rfl,_,rfl,pn,_,_,g.1.toNat,rfl,rfl,r14,ixN_pos a0 (by rw [List.length_map,r4,l2]; exact a1),?_⟩
  refine ⟨Ds.set g.1.toNat R4,_,_,_,rfl,SameU.wr f1 (u2.trans u24),hTB.wr _ _ _ _ (hTB.same _ _ t3 s4) r14,(B2.u u24).set r14 la4 nlp nlr (by omega),Yg.of (rs:=rs.set g.1.toNat l4) (by rw [qaf9,List.map_set]) fun r' hr'=>?_,by simp [l2],fun C hC=>?_,fun p p0 p1 t=>?_⟩
  ·rcases List.mem_or_eq_of_mem_set hr' with z | z
   ·exact Y2 rs r1 r' z
   ·subst z
    exact (u2.trans u3).free f4
  ·rw [ie]
   rcases List.mem_or_eq_of_mem_set hC with z | z
   ·exact (tok2 C z).le (by omega)
   ·subst z
    exact mu4
  ·rw [qeb9 em,ways_snoc,cl_set p0 (by rw [l2]; exact p1) a0 (by rw [l2]; exact a1)]
   by_cases z:g.1=p
   ·rw [if_pos z,if_pos z,e4,e2 g.1 a0 a1,e3,z]
   ·rw [if_neg z,if_neg z,e2 p p0 p1]
 ·intro σ H2 z9;obtain ⟨Ds,v4,v5,v6,rfl,u2,t2,B2,Y2,l2,tok2,e2⟩ := z9
  rw [hw2] at tok2 e2
  rw [List.take_length] at e2
  exact ⟨_,rfl,q pn Ds H2 u2 t2 f1 B2 Y2 l2 tok2 e2⟩
end
noncomputable def TL (H0 H:Hp) (p:Addr) (Ts:List Tb):Prop:=∃ qs:List (Addr × List Addr),H p=some (.lst (qs.map fun q=>V.ref q.1))/\qs.length=Ts.length/\(p :: qs.flatMap fun q=>q.1 :: q.2).Nodup/\(∀ a∈p :: qs.flatMap fun q=>q.1 :: q.2,H0 a=none) /\
 ∀ (i:Nat) q B,qs[i]?=some q->Ts[i]?=some B->H q.1=some (.lst (q.2.map V.ref))/\q.2.length=B.length/\∀ (j:Nat) r C,q.2[j]?=some r->B[j]?=some C->LA enc3 H r C
section
variable {H0 H H':Hp} {p:Addr} {Ts:List Tb}
theorem TL.live {qs:List (Addr × List Addr)} (e1:H p=some (.lst (qs.map fun q=>V.ref q.1))) (e2:qs.length=Ts.length) (e5:∀ (i:Nat) q B,qs[i]?=some q->Ts[i]?=some B->H q.1=some (.lst (q.2.map V.ref))/\q.2.length=B.length/\∀ (j:Nat) r C,q.2[j]?=some r->B[j]?=some C->LA enc3 H r C) :
  ∀ a∈p :: qs.flatMap fun q=>q.1 :: q.2,H a ≠ none:=fun a ha z=>by
 rcases List.mem_cons.mp ha with e | e
 ·rw [e,e1] at z
  cases z
 ·obtain ⟨q,hq,hm⟩:=List.mem_flatMap.mp e
  obtain ⟨i,hi⟩:=List.getElem?_of_mem hq
  have lt:=(List.getElem?_eq_some_iff.mp hi).1
  obtain ⟨g1,g2,g3⟩:=e5 i q _ hi (List.getElem?_eq_getElem (by omega))
  rcases List.mem_cons.mp hm with e | e
  ·rw [e,g1] at z
   cases z
  ·obtain ⟨j,hj⟩:=List.getElem?_of_mem e
   have lj:=(List.getElem?_eq_some_iff.mp hj).1
   exact la_ne (enc':=enc3) (g3 j a _ hj (List.getElem?_eq_getElem (by omega))) z rfl
theorem TL.old {H1:Hp} (h:TL H1 H p Ts) (s:SameU H0 H1):TL H0 H p Ts:=by
 obtain ⟨qs,e1,e2,e3,e4,e5⟩:=h
 exact ⟨qs,e1,e2,e3,fun a ha=>s.free (e4 a ha),e5⟩
theorem TL.lst (h:TL H0 H p Ts):∃ xs:List V,H p=some (.lst xs)/\xs.length=Ts.length:=by
 obtain ⟨qs,e1,e2,_⟩:=h
 exact ⟨_,e1,by simp [e2]⟩
theorem TL.at {i:Nat} {B:Tb} {xs:List V} (h:TL H0 H p Ts) (hx:H p=some (.lst xs)) (hi:Ts[i]?=some B):∃ q:Addr,xs[i]?=some (.ref q)/\BA H q B/\H0 q=none/\Yg H0 H q/\q ≠ p:=by
 obtain ⟨qs,e1,e2,e3,e4,e5⟩:=h
 rw [e1] at hx
 cases hx
 have lt:=(List.getElem?_eq_some_iff.mp hi).1
 have hq:qs[i]?=some (qs[i]'(by omega)):=List.getElem?_eq_getElem (by omega)
 have hm:=List.mem_of_getElem? hq
 generalize qs[i]'(by omega)=q at hq hm
 obtain ⟨g1,g2,g3⟩:=e5 i q B hq hi
 have fm:∀ a∈q.1 :: q.2,a∈qs.flatMap fun q=>q.1 :: q.2:=fun a ha=>List.mem_flatMap.mpr ⟨q,hm,ha⟩
 have nd:(q.1 :: q.2).Nodup:=by
  have:=(List.nodup_cons.mp e3).2
  obtain ⟨as,bs,rfl⟩:=List.append_of_mem hm
  rw [List.flatMap_append,List.flatMap_cons] at this
  exact (List.nodup_append.mp ((List.nodup_append.mp this).2.1)).1
 obtain ⟨nd1,nd2⟩:=List.nodup_cons.mp nd
 refine ⟨q.1,by rw [List.getElem?_map,hq]; rfl,⟨q.2,g1,g2,nd1,nd2,g3⟩,e4 _ (List.mem_cons_of_mem _ (fm _ (List.mem_cons_self ..))),Yg.of g1 fun r hr=>e4 _ (List.mem_cons_of_mem _ (fm _ (List.mem_cons_of_mem _ hr))),fun z=>?_⟩
 exact (List.nodup_cons.mp e3).1 (z ▸ fm _ (List.mem_cons_self ..))
theorem TL.one {q:Addr} {B:Tb} (hB:BA H q B) (hp:H p=none) (fp:H0 p=none) (fq:H0 q=none) (Y:Yg H0 H q):TL H0 (upd H p (.lst [.ref q])) p [B]:=by
 obtain ⟨rs,b1,b2,b3,b4,b5⟩:=hB
 have fr:=Y rs b1
 have nq:q ≠ p:=fun z=>by rw [z,hp] at b1; cases b1
 have nr:p ∉ rs:=fun z=>by
  obtain ⟨j,hj⟩:=List.getElem?_of_mem z
  have lj:=(List.getElem?_eq_some_iff.mp hj).1
  exact la_ne (enc':=enc3) (b5 j p _ hj (List.getElem?_eq_getElem (by omega))) hp rfl
 refine ⟨[(q,rs)],qaf9,rfl,?_,fun a ha=>?_,fun i q' B' a b=>?_⟩
 ·show (p :: (q :: rs ++ [])).Nodup
  rw [List.append_nil]
  refine List.nodup_cons.mpr ⟨fun z=>?_,List.nodup_cons.mpr ⟨b3,b4⟩⟩
  rcases List.mem_cons.mp z with e | e
  ·exact nq e.symm
  ·exact nr e
 ·have ha:a∈p :: (q :: rs ++ []):=ha
  rw [List.append_nil] at ha
  rcases List.mem_cons.mp ha with e | e
  ·rw [e]; exact fp
  ·rcases List.mem_cons.mp e with e | e
   ·rw [e]; exact fq
   ·exact fr a e
 ·match i,a,b with
  | 0,a,b =>
   cases a
   cases b
   exact ⟨by rw [qao9 nq]; exact b1,b2,fun j r C x y=>(b5 j r C x y).same (qal9 hp _)⟩
  | i+1,a,b=>simp at a
theorem qez9 {α:Type} {xs:List α} {k:Nat} (h1:1<=k) (h2:k<=xs.length):atI xs (-(k:Int))=xs[xs.length - k]?:=by
 unfold atI ixN
 rw [if_neg (by omega),if_pos (by omega)]
 show xs[(-(k:Int)+(xs.length:Int)).toNat]?=_
 congr 1
 omega
theorem TL.snoc {Ha:Hp} {q:Addr} {B:Tb} {xs:List V} (h:TL H0 Ha p Ts) (s:SameU Ha H) (fq:Ha q=none) (hB:BA H q B) (hY:Yg Ha H q) (u:SameU H0 Ha) (hx:H p=some (.lst xs)):TL H0 (upd H p (.lst (xs ++ [.ref q]))) p (Ts ++ [B]):=by
 obtain ⟨qs,e1,e2,e3,e4,e5⟩:=h
 have lv:=TL.live e1 e2 e5
 obtain ⟨rs,b1,b2,b3,b4,b5⟩:=hB
 have fr:=hY rs b1
 rw [s.lst e1] at hx
 cases hx
 have ap:∀ a∈q :: rs,a ≠ p/\a ∉ (qs.flatMap fun q=>q.1 :: q.2)/\Ha a=none:=fun a ha=>by
  have z:Ha a=none:=by
   rcases List.mem_cons.mp ha with e | e
   ·rw [e]; exact fq
   ·exact fr a e
  exact ⟨fun y=>lv a (by rw [y]; exact List.mem_cons_self ..) z,fun y=>lv a (List.mem_cons_of_mem _ y) z,z⟩
 have hp:∀ {r:Addr} {C:List T3},r ≠ p->LA enc3 H r C->LA enc3 (upd H p (.lst ((qs.map fun q=>V.ref q.1) ++ [.ref q]))) r C:=fun n h=>qbw9 h (s.lst e1) n
 refine ⟨qs ++ [(q,rs)],by rw [qaf9,List.map_append]; rfl,by simp [e2],?_,fun a ha=>?_,fun i q' B' a b=>?_⟩
 ·obtain ⟨n1,n2⟩:=List.nodup_cons.mp e3
  rw [List.flatMap_append,List.flatMap_cons,List.flatMap_nil,List.append_nil]
  refine List.nodup_cons.mpr ⟨fun z=>?_,List.nodup_append.mpr ⟨n2,List.nodup_cons.mpr ⟨b3,b4⟩,fun a ha b hb e=>(ap b hb).2.1 (e ▸ ha)⟩⟩
  rcases List.mem_append.mp z with z | z
  ·exact n1 z
  ·exact (ap p z).1 rfl
 ·rw [List.flatMap_append,List.flatMap_cons,List.flatMap_nil,List.append_nil] at ha
  rcases List.mem_cons.mp ha with e | e
  ·exact e4 a (by rw [e]; exact List.mem_cons_self ..)
  ·rcases List.mem_append.mp e with e | e
   ·exact e4 a (List.mem_cons_of_mem _ e)
   ·exact u.free (ap a e).2.2
 ·rcases Nat.lt_or_ge i qs.length with z | z
  ·rw [List.getElem?_append_left z] at a
   rw [List.getElem?_append_left (by omega)] at b
   obtain ⟨g1,g2,g3⟩:=e5 i q' B' a b
   have hm:=List.mem_of_getElem? a
   have np:∀ x∈q'.1 :: q'.2,x ≠ p:=fun x hx e=>(List.nodup_cons.mp e3).1 (e ▸ List.mem_flatMap.mpr ⟨q',hm,hx⟩)
   exact ⟨by rw [qao9 (np _ (List.mem_cons_self ..))]; exact s.lst g1,g2,fun j r C x y=>hp (np r (List.mem_cons_of_mem _ (List.mem_of_getElem? x))) ((g3 j r C x y).u s)⟩
  ·have lt:=(List.getElem?_eq_some_iff.mp a).1
   simp at lt
   have ei:i=qs.length:=by omega
   subst ei
   rw [List.getElem?_append_right (Nat.le_refl _),Nat.sub_self] at a
   rw [List.getElem?_append_right (by omega),show qs.length - Ts.length=0 by omega] at b
   cases a
   cases b
   exact ⟨by rw [qao9 (ap q (List.mem_cons_self ..)).1]; exact b1,b2,fun j r C x y=>hp (ap r (List.mem_cons_of_mem _ (List.mem_of_getElem? x))).1 (b5 j r C x y)⟩
end
noncomputable def spStep (T:Hp->Prop) (stp:Int->List RdT->Tb->Int->Int->Option Int) (qual:Str) (v1 v2:V) (c':Addr):Sp:=match v1,v2 with
 | .int d,.ref pF=>fun vs H Q E=>H c'=some (.ext (CodeQ c' qual))/\∃ pt:Addr,vs=[.ref pt]/\spRide T stp [.int d,.ref pF,.ref pt] H Q E
 | _,_=>fun _ _ _ _=>False
structure TsOk (d:Int) (n:Nat) (p:Int) (F:List RdT) (m:Nat) (stp:Int->List RdT->Tb->Int->Int->Option Int) (Ts:List Tb):Prop where
 first:Ts[0]?=some (stay d n p)
 each:∀ (i:Nat) A,Ts[i]?=some A->A.length=n/\TOk d (mxT F.length m i) A
 grow:∀ (i:Nat) A B,Ts[i]?=some A->Ts[i+1]?=some B->∀ p,0<=p->p < (n:Int)->∀ t,Ma.bt d (cl B p) t=stp d F A p t
noncomputable def Few (f m n:Nat):Prop:=∀ k,k+1 < n->mxT f m (k+1)<=1000000/\(2 * (m+1)+2) * (2 * (mxT f m k+1)+2)<=16000000
noncomputable def qni9 (T:Hp->Prop) (stp:Int->List RdT->Tb->Int->Int->Option Int) (qual:Str) (v1 v2:V) (fl c':Addr):Sp:=match v1,v2 with
 | .int d,.ref pF=>fun vs H Q _=>∃ (n:Nat) (p:Int) (F:List RdT) (m:Nat),vs=[.int d,.int n,.int p,.ref fl]/\H c'=some (.ext (CodeQ c' qual))/\FA H pF F/\T H/\1<=n/\n<=1000/\0 < d/\FOk d n m F/\Few F.length m n /\
  ∀ (l:Addr) (Ts:List Tb) (H':Hp),SameU H H'->T H'->TL H H' l Ts->Ts.length=n->TsOk d n p F m stp Ts->Q (.ref l) H'
 | _,_=>fun _ _ _ _=>False
theorem stay_ok {d:Int} (hd:0 < d) {n:Nat} {p:Int}:TOk d 2 (stay d n p):=fun C hC=>by
 obtain ⟨i,_,rfl⟩:=List.mem_map.mp hC
 split
 ·exact Ma.mur_one (Ma.ck_still hd)
 ·exact Ma.mur_nil hd
section
variable {P:Program} {w:World} {K:W.Frag} {mg:Str->Option Value} {base:Heap} {f:Addr} {fd:FuncData} {n:Nat} {T:Hp->Prop}
theorem ok_grown {v1 v2:V} {fl c':Addr} {fdl:FuncData} {qual:Str} {stp:Int->List RdT->Tb->Int->Int->Option Int} (hTB:TB T) (F:Fun K "grown" "grown" qcv9 f fd) (B:Bl mg) (Ce0:Callee P w K mg base n "staying" ["day","size","place"] qdw9) (Ca0:Callee P w K mg base n "copied_table" ["told"] qdy9)
  (G:FnOk P w K mg base CX0 n fl fdl ["told"] (spStep T stp qual v1 v2 c')) (bG:Binds K fdl ["told"] []) (ho:W.FnAt fl base):FnOk P w K mg base CX0 (n+1) f fd ["day","size","place","step"] (qni9 T stp qual v1 v2 fl c'):=by
 unfold qni9
 split
 case h_2=>exact qcw9
 rename_i d pF
 refine F.okQ sc_grown (fun vs H Q E h=>?_) (fun cdv A outer s H vs Q E hr h=>?_)
 ·obtain ⟨_,_,_,_,rfl,_⟩:=h
  rfl
 obtain ⟨N,p,Fs,m,rfl,hc,hF,hT,N1,N2,hd,fok,few,q⟩:=h
 refine ⟨_,(qab9 (qak9 (i:=4) sc_grown.nd rfl (Or.inl rfl) (qch9 (qa_c (qe_fn Ce0 hr rfl (qa_c (qv 0) (qa_c (qv 1) (qa_c (qv 2) qac9)))) qac9))) (qab9 (qef9 PassesOwn.never (qap9 qdv9 (qe_cb qat9 rfl B.len qcj9 (qa_c (qv 4) qac9)) (qv 1) (qay9 _)) (qae9 (qs_if (qhv9 (QW.pt (qjk9 (qap9 qfs9 (qe_cb qat9 rfl B.len qcj9 (qa_c (qv 4) qac9)) qad9 (qay9 _)) (qgs9 (qap9 (qnf9 hr.units) (qe_ix qai9 (qv 4) (qec9 qad9) (fun _ _=>rfl)) (qe_ix qai9 (qv 4) (qec9 qad9) (fun _ _=>rfl)) (qay9 _)))))) (qae9 (qbc9 (qbg9 (qv 4) (qa_c (qe_fn Ca0 hr rfl (qa_c (qe_ix qai9 (qv 4) (qec9 qad9) (fun _ _=>rfl)) qac9)) qac9)))) (qae9 (qbc9 (qbg9 (qv 4) (qa_c ⟨pe_clo 3 G hr bG ho (qa_c (qe_ix qai9 (qv 4) (qec9 qad9) (fun _ _=>rfl)) qac9).run⟩ qac9))))))) (qae9 (qas9 (qv 4))))),?_⟩
 try dsimp only [cx_k,cx_kn,as_nil,as_name,Nat.reduceAdd]
 refine ⟨_,rfl,_,rfl,_,rfl,d,N,p,rfl,N2,fun q0 H1 s1 f1 B1 Y1=>⟨(by show 1<=sizeLine; decide),fun pf hpf=>?_⟩⟩
 have L1:=TL.one (H0:=H) B1 hpf (s1.free hpf) f1 Y1
 have s12:=qal9 hpf (.lst [.ref q0])
 have S2:=s1.trans s12
 have k0:stay d N p∈[stay d N p]:=List.mem_singleton.mpr rfl
 have ok1:TsOk d N p Fs m stp [stay d N p]:=⟨rfl,fun i A hA=>by
   match i,hA with
   | 0,hA =>
    cases hA
    exact ⟨by simp [stay],stay_ok hd⟩
   | i+1,hA=>simp at hA,fun i A B hA hB=>by simp at hB⟩
 generalize upd H1 pf (.lst [.ref q0])=H2 at *
 refine qed9 (fun σ H'=>σ=[some (.int d),some (.int N),some (.int p),some (.ref fl),some (.ref pf)]/\SameU H H'/\T H'/\∃ Ts:List Tb,TL H H' pf Ts/\1<=Ts.length/\Ts.length<=N/\TsOk d N p Fs m stp Ts)
  (fun _ H'=>match H' pf with | some (.lst xs)=>N - xs.length | _=>0) ⟨rfl,SameU.of S2,hTB.same _ _ hT S2,_,L1,Nat.le_refl _,N1,ok1⟩ ?_ ?_
 ·intro σ H3 z9;obtain ⟨rfl,u3,t3,Ts,L3,l1,l2,ok⟩ := z9
  obtain ⟨xs,x1,xl⟩:=L3.lst
  refine ⟨_,rfl,pf,_,rfl,.inl (SqL.of x1),_,rfl,_,_,rfl,rfl,_,rfl,ite2 (fun c=>?_) (fun c=>?_)⟩
  ·have c':(xs.length:Int) < (N:Int):=of_decide_eq_true c
   have hA:Ts[Ts.length - 1]?=some (Ts[Ts.length - 1]'(by omega)):=List.getElem?_eq_getElem (by omega)
   generalize Ts[Ts.length - 1]'(by omega)=A at hA
   obtain ⟨qa,qa1,qa2,qa3,qa4,qa5⟩:=L3.at x1 hA
   obtain ⟨oA1,oA2⟩:=ok.each _ A hA
   have a1:atI xs (-1)=some (.ref qa):=by
    have:=qez9 (xs:=xs) (k:=1) (Nat.le_refl _) (by omega)
    rw [xl] at this
    exact this.trans qa1
   have mu0:∀ ys:List V,H3 pf=some (.lst ys)->ys=xs:=fun ys e=>by
    rw [x1] at e
    cases e
    rfl
   have fin:∀ (l:Addr) (B:Tb) (H4:Hp),SameU H3 H4->T H4->H3 l=none->BA H4 l B->Yg H3 H4 l->B.length=N->TOk d (mxT Fs.length m Ts.length) B->(∀ p,0<=p->p < (N:Int)->∀ t,Ma.bt d (cl B p) t=stp d Fs A p t)->∃ p_1 xs v,(V.ref pf:V)=.ref p_1/\[V.ref l]=[v]/\H4 p_1=some (.lst xs)/\xs.length < sizeLine /\
     ((([some (.int d),some (.int N),some (.int p),some (.ref fl),some (.ref pf)]:L2.St)=[some (.int d),some (.int N),some (.int p),some (.ref fl),some (.ref pf)]/\SameU H (upd H4 p_1 (.lst (xs ++ [v])))/\T (upd H4 p_1 (.lst (xs ++ [v])))/\∃ Ts:List Tb,TL H (upd H4 p_1 (.lst (xs ++ [v]))) pf Ts/\1<=Ts.length/\Ts.length<=N/\TsOk d N p Fs m stp Ts) /\
     (match upd H4 p_1 (.lst (xs ++ [v])) pf with | some (.lst xs)=>N - xs.length | _=>0) < (match H3 pf with | some (.lst xs)=>N - xs.length | _=>0)):=by
    intro l B H4 u4 t4 fl4 hB hY bl tB gB
    have x4:=u4.lst x1
    have L4:=L3.snoc u4 fl4 hB hY u3 x4
    obtain ⟨qs0,z1,_,_,z4,_⟩:=id L3
    have fpf:H pf=none:=z4 pf (List.mem_cons_self ..)
    refine ⟨pf,xs,_,rfl,rfl,x4,qbj9 (by omega),⟨rfl,SameU.wr fpf (u3.trans u4),hTB.wr _ _ _ _ t4 x4,Ts ++ [B],L4,by simp,by simp; omega,?_,?_,?_⟩,?_⟩
    ·rw [List.getElem?_append_left (by omega)]
     exact ok.first
    ·intro i C hC
     rcases Nat.lt_or_ge i Ts.length with z | z
     ·rw [List.getElem?_append_left z] at hC
      exact ok.each i C hC
     ·have:=(List.getElem?_eq_some_iff.mp hC).1
      simp at this
      have ei:i=Ts.length:=by omega
      subst ei
      rw [List.getElem?_append_right (Nat.le_refl _),Nat.sub_self] at hC
      cases hC
      exact ⟨bl,tB⟩
    ·intro i C D hC hD
     rcases Nat.lt_or_ge (i+1) Ts.length with z | z
     ·rw [List.getElem?_append_left (by omega)] at hC
      rw [List.getElem?_append_left z] at hD
      exact ok.grow i C D hC hD
     ·have:=(List.getElem?_eq_some_iff.mp hD).1
      simp at this
      have ei:i=Ts.length - 1:=by omega
      subst ei
      rw [List.getElem?_append_left (by omega),hA] at hC
      rw [List.getElem?_append_right (by omega),show Ts.length - 1+1 - Ts.length=0 by omega] at hD
      cases hC
      cases hD
      exact gB
    ·rw [qaf9,x1]
     show N - (xs ++ [V.ref l]).length < N - xs.length
     rw [List.length_append,List.length_singleton]
     omega
   have em:mxT Fs.length m Ts.length=mxT Fs.length m (Ts.length - 1)+Fs.length * (m+mxT Fs.length m (Ts.length - 1)):=by
    rw [show Ts.length=Ts.length - 1+1 by omega]
    rfl
   refine ⟨fun b H'=>H'=H3/\(b=true->∃ A',Ts[Ts.length - 1 - 1]?=some A'/\2<=Ts.length/\A'=A),?_,?_⟩
   ·refine ⟨_,rfl,pf,_,rfl,.inl (SqL.of x1),_,_,rfl,rfl,_,rfl,ite2 (fun c2=>?_) (fun c2=>⟨rfl,fun z=>by cases z⟩)⟩
    have c2':(1:Int) < (xs.length:Int):=of_decide_eq_true c2
    have hA':Ts[Ts.length - 1 - 1]?=some (Ts[Ts.length - 1 - 1]'(by omega)):=List.getElem?_eq_getElem (by omega)
    generalize Ts[Ts.length - 1 - 1]'(by omega)=A' at hA'
    obtain ⟨qb,qb1,qb2,qb3,qb4,qb5⟩:=L3.at x1 hA'
    have a2:atI xs (-2)=some (.ref qb):=by
     have:=qez9 (xs:=xs) (k:=2) (by omega) (by omega)
     rw [xl,show Ts.length - 2=Ts.length - 1 - 1 by omega] at this
     exact this.trans qb1
    refine ⟨_,rfl,_,rfl,pf,_,_,_,rfl,rfl,SqL.of x1,a1,_,rfl,_,rfl,pf,_,_,_,rfl,rfl,SqL.of x1,a2,_,_,qa2.rd,qb2.rd,qld9 _,qld9 _,_,rfl,rfl,fun z=>⟨A',hA',by omega,?_⟩⟩
    rw [qfa9 eqvB] at z
    exact (of_decide_eq_true z).symm
   intro b H3' z9;obtain ⟨rfl,hb⟩ := z9
   refine ite2 (fun cb=>?_) (fun cb=>?_)
   ·obtain ⟨A',hA',l2',rfl⟩:=hb cb
    refine ⟨_,rfl,.inl ⟨rfl,_,SqL.of x1⟩,_,rfl,_,rfl,pf,_,_,_,rfl,rfl,SqL.of x1,a1,qa,A',rfl,qa2,by omega,fun l H4 s4 f4 B4 Y4=>?_⟩
    refine fin l A' H4 (SameU.of s4) (hTB.same _ _ t3 s4) f4 B4 Y4 oA1 (oA2.le (by rw [em]; omega)) fun p' p0 p1 t=>?_
    exact ok.grow _ A' A' hA' (by rw [show Ts.length - 1 - 1+1=Ts.length - 1 by omega]; exact hA) p' p0 p1 t
   ·have fw:=few (Ts.length - 1) (by omega)
    rw [show Ts.length - 1+1=Ts.length by omega] at fw
    refine ⟨_,rfl,.inl ⟨rfl,_,SqL.of x1⟩,rfl,_,rfl,_,rfl,pf,_,_,_,rfl,rfl,SqL.of x1,a1,u3.1 _ _ hc (fun z y=>by cases y),qa,rfl,d,pF,Fs,qa,A,_,m,rfl,hF.u u3,qa2,t3,by rw [oA1]; exact fok,oA2,by rw [<- em]; exact fw.1,fw.2,by omega,fun l Ds H4 u4 t4 f4 B4 Y4 l4 tk4 e4=>?_⟩
    refine fin l Ds H4 u4 t4 f4 B4 Y4 (l4.trans oA1) (by rw [em]; exact tk4) fun p' p0 p1 t=>e4 p' p0 (by rw [oA1]; exact p1) t
  ·have c':¬ (xs.length:Int) < (N:Int):=fun z=>c (decide_eq_true z)
   exact ⟨_,rfl,q pf Ts H3 u3 t3 L3 (by omega) ok⟩
 ·intro σ H' Q1 Q2 hq z9;obtain ⟨v,e1,p1,ys,e2,e3,v2,e4,i,j,e5,e6,k,e7,q1⟩ := z9
  exact ⟨v,e1,p1,ys,e2,e3,v2,e4,i,j,e5,e6,k,e7,hq _ _ q1⟩
end
noncomputable def lamRet:Stmt->Expr
 | .Return (some (.Call _ [_,_,_,l] _ _)) _=>l
 | _=>.Constant .none 0 ⟨0,0,0,0⟩
theorem qfw9 {y1 y2:Str} {c1 c2:Addr} (z:Str) (d:Addr) (e:([(y2,c2),(y1,c1)]:List (Str × Addr)).lookup z=some d):(z=y1/\d=c1)\/(z=y2/\d=c2):=by
 rw [List.lookup_cons] at e
 cases h:z == y2 with
 | true=>rw [h] at e; cases e; exact .inr ⟨eq_of_beq h,rfl⟩
 | false =>
  rw [h] at e
  exact .inl (qey9 z d e)
theorem qlj9 {y1 y2:Str} {c1 c2:Addr} (ne:c1 ≠ c2) (x y:Str) (c:Addr) (h1:([(y2,c2),(y1,c1)]:List (Str × Addr)).lookup x=some c) (h2:([(y2,c2),(y1,c1)]:List (Str × Addr)).lookup y=some c):x=y:=by
 rcases qfw9 x c h1 with ⟨a,b⟩ | ⟨a,b⟩ <;> rcases qfw9 y c h2 with ⟨a',b'⟩ | ⟨a',b'⟩
 ·exact a.trans a'.symm
 ·exact absurd (b.symm.trans b') ne
 ·exact absurd (b'.symm.trans b) ne
 ·exact a.trans a'.symm
theorem qof9 {y1 y2:Str} {c1 c2:Addr} {sc:Scope} (h:∀ y∈sc.names,y.2=.free->y.1=y1\/y.1=y2) (x:Str) (e:sc.names.lookup x=some .free):∃ d,([(y2,c2),(y1,c1)]:List (Str × Addr)).lookup x=some d:=by
 have hm:=PySem.mem_of_lookup e
 rw [List.lookup_cons]
 rcases h _ hm rfl with z | z
 ·have z:x=y1:=z
  cases h2:x == y2 with
  | true=>exact ⟨c2,rfl⟩
  | false =>
   refine ⟨c1,?_⟩
   rw [z,List.lookup_cons]
   simp
 ·have z:x=y2:=z
  rw [z]
  exact ⟨c2,by simp⟩
noncomputable abbrev lamT:Expr:=lamRet ((qag9 qbd9).getD 1 (.Pass ⟨0,0,0,0⟩))
theorem sc_lamT (c1 c2:Addr) (ne:c1 ≠ c2):LamScope ["told","day","fords"] ["told"] (lamSc lamT) [("fords",c2),("day",c1)]:=⟨rfl,rfl,rfl,by decide,rfl,by decide +kernel,by decide +kernel,qof9 (by decide +kernel),qlj9 ne⟩
section
variable {P:Program} {w:World} {K:W.Frag} {mg:Str->Option Value} {base:Heap} {f g:Addr} {fd gd:FuncData} {n:Nat} {T:Hp->Prop}
theorem ok_lamT {v1 v2:V} {fl c' c1 c2:Addr} {pm ctv:Value} (ne:c1 ≠ c2) (hTB:TB T) (FG:Fun K "grown" "grown" qcv9 g gd) (B:Bl mg) (Ce0:Callee P w K mg base (n+1) "staying" ["day","size","place"] qdw9) (Ca0:Callee P w K mg base (n+1) "copied_table" ["told"] qdy9) (Cq0:Callee P w K mg base n "ride_first" ["day","fords","told"] (spRide T stepT))
  (hfl:base.get? fl=some (W.kla_obj "<lambda>" (lamQ "rounds_to") (qkp9 lamT) (qkh9 lamT) (lamSc lamT) [("fords",c2),("day",c1)] pm c' ctv)) (hca:qhl9 base (lamSc lamT) [("fords",c2),("day",c1)] ["told","day","fords"] ["told"] [v1,v2]) :
  FnOk P w K mg base CX0 (n+2) g gd ["day","size","place","step"] (qni9 T stepT (lamQ "rounds_to") v1 v2 fl c'):=by
 refine ok_grown (n:=n+1) hTB FG B Ce0 Ca0 (lam_ok (k:=n) (N:=["told","day","fords"]) (cs:=[v1,v2]) hfl (fun vs H Q E h=>?_) (sc_lamT c1 c2 ne) hca (fun vs H Q E h=>?_) (fun A outer s H vs Q E hr h=>?_)) (Binds.all fun us hl=>match us,hl with | [_],_=>rfl) ⟨_,_,_,_,hfl⟩
 all_goals unfold spStep at h
 all_goals split at h
 all_goals first | exact h.elim | skip
 ·exact h.1
 ·obtain ⟨_,_,rfl,_⟩:=h
  rfl
 ·obtain ⟨hc,pt,rfl,h⟩:=h
  refine ⟨_,pe_fn Cq0 hr rfl (pa_c (pv 1) (pa_c (pv 2) (pa_c (pv 0) pa_nil))),?_⟩
  exact ⟨_,rfl,_,rfl,_,rfl,h⟩
end
noncomputable def qng9 (T:Hp->Prop):Sp:=fun vs H Q _=>∃ (d:Int) (n:Nat) (pr:Addr) (N:List RdT) (goal:Int) (m:Nat),vs=[.int d,.int n,.ref pr,.int goal]/\NA H pr N/\T H/\0 < d/\NetOk d n N/\1<=n/\n<=1000/\N.length<=1000/\(∀ x∈N,4 * x.2.2.2.length+2<=m)/\Few N.length m n/\0<=goal/\goal < (n:Int) /\
 ∀ (l:Addr) (F:List RdT) (Ts:List Tb) (H':Hp),SameU H H'->T H'->Fords d N F->TL H H' l Ts->Ts.length=n->TsOk d n goal F m stepT Ts->Q (.ref l) H'
section
variable {P:Program} {w:World} {K:W.Frag} {mg:Str->Option Value} {base:Heap} {f g:Addr} {fd gd:FuncData} {n:Nat} {T:Hp->Prop}
theorem qjr9 {c P0:Addr} {oc kV doc pm ct:Value} {od an:Option Addr} {osl:Array (Option Value)} (lk:K.lookup f=some ⟨oc,od,.func (W.fnOf "rounds_to" "rounds_to" (qah9 qbd9) (qag9 qbd9) (qaa9 qbd9) .none kV doc pm an (.ref c) ct),osl⟩) (hcd:W.codeIn K (.ref c) "rounds_to" = true)
  (B:Bl mg) (hC:W.CodeHd base c P0) (hB:BMain mg base) (FG:Fun K "grown" "grown" qcv9 g gd) (bG:Binds K gd ["day","size","place","step"] []) (mG:mg "grown" = some (.ref g)) (hTB:TB T) (h1:∀ H,T H->TabOk H P0 ⟨210,34,210,75⟩ (lamQ "rounds_to")) (h2:∀ H H',T H->SameT P0 H H'->TabOk H' P0 ⟨210,34,210,75⟩ (lamQ "rounds_to")->T H')
  (Ci1:Callee P w K mg base (n+2) "fords_of" ["day","roads"] qkb9) (Ce0:Callee P w K mg base (n+1) "staying" ["day","size","place"] qdw9) (Ca0:Callee P w K mg base (n+1) "copied_table" ["told"] qdy9) (Cq0:Callee P w K mg base n "ride_first" ["day","fords","told"] (spRide T stepT)) :
  FnOk P w K mg base CX0 (n+3) f (W.fnOf "rounds_to" "rounds_to" (qah9 qbd9) (qag9 qbd9) (qaa9 qbd9) .none kV doc pm an (.ref c) ct) ["day","size","roads","goal"] (qng9 T):=by
 refine fn_of lk hcd sc_rounds_to (fun vs H Q E h=>?_) (fun A outer s H vs Q E hr h=>?_)
 ·obtain ⟨_,_,_,_,_,_,rfl,_⟩:=h
  rfl
 obtain ⟨d,N,pr,Ns,goal,m,rfl,hN,hT,hd,nok,N1,N2,nl,lm,few,g0,g1,q⟩:=h
 refine ⟨_,PSs.nox (QSs.run (qab9 (qak9 (i:=4) sc_rounds_to.nd rfl (Or.inr rfl) (qe_fn Ci1 hr rfl (qa_c (qv 0) (qa_c (qv 2) qac9)))) (qae9 (qas9 ⟨qgt9 (N:=["told","day","fords"]) (ps:=["told"]) 0 4 hr rfl mG FG.kp bG rfl rfl hC hB rfl rfl rfl (Or.inr (Or.inl rfl)) rfl rfl rfl rfl rfl (Or.inr (Or.inl rfl)) rfl rfl rfl qfw9 rfl rfl rfl (pv 0) (pv 1) (pv 3) (fun base' fl c' v1 v2 pm ctv md hk hz hfl hca=>ok_lamT (Nat.ne_of_lt (Nat.lt_succ_self _)) hTB FG B (Ce0.widen md hk hz) (Ca0.widen md hk hz) (Cq0.widen md hk hz) hfl hca)⟩)))),?_⟩
 try dsimp only [cx_k,cx_kn,as_nil,as_name,Nat.reduceAdd]
 refine ⟨_,rfl,_,rfl,d,N,pr,Ns,rfl,hN,nl,hd,nok,fun pF F H1 s1 hF fo=>?_⟩
 have t1:=hTB.same _ _ hT s1
 refine ⟨_,_,rfl,rfl,_,rfl,_,rfl,_,rfl,h1 _ t1,fun fl c' H2 sm tb hc'=>?_⟩
 have u2:=SameU.tab sm (h1 _ t1) tb
 have u02:=(SameU.of s1).trans u2
 refine ⟨N,goal,F,m,rfl,hc',hF.u u2,h2 _ _ t1 sm tb,N1,N2,hd,fo.ok nok lm,by rw [fo.1]; exact few,fun l Ts H3 u3 t3 L3 l3 ok3=>?_⟩
 exact q l F Ts H3 (u02.trans u3) t3 fo (L3.old u02) l3 ok3
end
noncomputable def Mn (S:Int->Prop) (o:Option Int):Prop:=(∀ y,o=some y->S y/\∀ z,S z->y<=z)/\(o=none->∀ z,¬ S z)
theorem Mn.dom {S S':Int->Prop} {a:Option Int} (h:Mn S a) (h1:∀ y,S y->S' y) (h2:∀ y,S' y->∃ x,x<=y/\S x):Mn S' a:=by
 refine ⟨fun y e=>⟨h1 y (h.1 y e).1,fun z s=>?_⟩,fun e z s=>?_⟩
 ·obtain ⟨x,l,sx⟩:=h2 z s
  have:=(h.1 y e).2 x sx
  omega
 ·obtain ⟨x,l,sx⟩:=h2 z s
  exact h.2 e x sx
theorem Mn.congr {S S':Int->Prop} {a:Option Int} (h:Mn S a) (e:∀ y,S y↔S' y):Mn S' a:=h.dom (fun y s=>(e y).mp s) fun y s=>⟨y,Int.le_refl _,(e y).mpr s⟩
theorem Mn.omin {S S':Int->Prop} {a b:Option Int} (h:Mn S a) (h':Mn S' b):Mn (fun y=>S y\/S' y) (Ma.omin a b):=by
 cases a with
 | none=>exact ⟨fun y e=>⟨.inr (h'.1 y e).1,fun z s=>s.elim (fun s=>absurd s (h.2 rfl z)) ((h'.1 y e).2 z)⟩,fun e z s=>s.elim (h.2 rfl z) (h'.2 e z)⟩
 | some x =>
  cases b with
  | none=>exact ⟨fun y e=>⟨.inl (h.1 y e).1,fun z s=>s.elim ((h.1 y e).2 z) fun s=>absurd s (h'.2 rfl z)⟩,fun e=>by cases e⟩
  | some x' =>
   obtain ⟨s1,s2⟩:=h.1 x rfl
   obtain ⟨t1,t2⟩:=h'.1 x' rfl
   refine ⟨fun y e=>?_,fun e=>by cases e⟩
   have e:(if x' < x then x' else x)=y:=Option.some.inj e
   split at e
   ·subst e
    exact ⟨.inr t1,fun z s=>s.elim (fun s=>by have:=s2 z s; omega) (t2 z)⟩
   ·subst e
    exact ⟨.inl s1,fun z s=>s.elim (s2 z) fun s=>by have:=t2 z s; omega⟩
theorem Mn.none {S:Int->Prop} (h:∀ z,¬ S z):Mn S none:=⟨fun y e=>(nomatch e),fun _=>h⟩
theorem Mn.one {S:Int->Prop} {x:Int} (h1:S x) (h2:∀ z,S z->x<=z):Mn S (some x):=⟨fun y e=>by cases e; exact ⟨h1,h2⟩,fun e=>by cases e⟩
theorem bt_up {d:Int} {C:List T3} (ck:Ma.CK d C) {t t' z:Int} (h:Ma.bt d C t=some z) (l:t'<=t):∃ z',Ma.bt d C t'=some z'/\z'<=z:=by
 have n0:C ≠ []:=fun e=>by rw [e] at h; cases h
 have T:=Ma.tells_bf (d:=d) n0
 have r:=ck.rise T
 rw [T t] at h
 cases h
 exact ⟨_,T t',r.mono _ _ l⟩
theorem qpa9 {d:Int} {C:List T3} (ck:Ma.CK d C) {t z:Int} (h:Ma.bt d C t=some z):t<=z:=by
 have n0:C ≠ []:=fun e=>by rw [e] at h; cases h
 have T:=Ma.tells_bf (d:=d) n0
 rw [T t] at h
 cases h
 exact (ck.rise T).ge t
noncomputable def CkF (d:Int) (F:List RdT):Prop:=∀ m∈F,Ma.CK d m.2.2.2
noncomputable def Jo (d:Int) (F:List RdT):Nat->Int->Int->Int->Int->Prop
 | 0,p,t,q,y=>p=q/\t=y
 | k+1,p,t,q,y=>Jo d F k p t q y\/∃ m∈F,m.1=p/\∃ z,Ma.bt d m.2.2.2 t=some z/\Jo d F k m.2.1 z q y
theorem qmz9 {d:Int} {A:Tb} {p t:Int} {S:Int->Int->Int->Prop}:∀ {F:List RdT} {o:Option Int} {S0:Int->Prop},Mn S0 o->(∀ m∈F,∀ z,Mn (S m.2.1 z) (Ma.bt d (cl A m.2.1) z))->Mn (fun y=>S0 y\/∃ m∈F,m.1=p/\∃ z,Ma.bt d m.2.2.2 t=some z/\S m.2.1 z y) (ways d F A p t o)
 | [],o,S0,h,_=>h.congr fun y=>⟨.inl,fun s=>s.elim id fun ⟨m,hm,_⟩=>by cases hm⟩
 | m :: F,o,S0,h,hS=>by
  have hF:=fun x hx=>hS x (List.mem_cons_of_mem _ hx)
  by_cases e:m.1=p
  ·have hb:Mn (fun y=>∃ z,Ma.bt d m.2.2.2 t=some z/\S m.2.1 z y) (Ma.obind (Ma.bt d m.2.2.2) (Ma.bt d (cl A m.2.1)) t):=by
    unfold Ma.obind
    cases e':Ma.bt d m.2.2.2 t with
    | none=>exact Mn.none fun z ⟨x,hx,_⟩=>by cases hx
    | some z=>exact (hS m (List.mem_cons_self ..) z).congr fun y=>⟨fun s=>⟨z,rfl,s⟩,fun ⟨x,hx,s⟩=>by cases hx; exact s⟩
   have:=qmz9 (p:=p) (t:=t) (F:=F) (h.omin hb) hF
   have e2:ways d (m :: F) A p t o=ways d F A p t (Ma.omin o (Ma.obind (Ma.bt d m.2.2.2) (Ma.bt d (cl A m.2.1)) t)):=by
    show ways d F A p t (if m.1=p then _ else _)=_
    rw [if_pos e]
   rw [e2]
   refine this.congr fun y=>⟨fun s=>?_,fun s=>?_⟩
   ·rcases s with (s | s) | ⟨x,hx,s⟩
    ·exact .inl s
    ·exact .inr ⟨m,List.mem_cons_self ..,e,s⟩
    ·exact .inr ⟨x,List.mem_cons_of_mem _ hx,s⟩
   ·rcases s with s | ⟨x,hx,s1,s2⟩
    ·exact .inl (.inl s)
    ·rcases List.mem_cons.mp hx with rfl | hx
     ·exact .inl (.inr s2)
     ·exact .inr ⟨x,hx,s1,s2⟩
  ·have:=qmz9 (p:=p) (t:=t) (F:=F) h hF
   have e2:ways d (m :: F) A p t o=ways d F A p t o:=by
    show ways d F A p t (if m.1=p then _ else _)=_
    rw [if_neg e]
   rw [e2]
   refine this.congr fun y=>⟨fun s=>?_,fun s=>?_⟩
   ·rcases s with s | ⟨x,hx,s⟩
    ·exact .inl s
    ·exact .inr ⟨x,List.mem_cons_of_mem _ hx,s⟩
   ·rcases s with s | ⟨x,hx,s1,s2⟩
    ·exact .inl s
    ·rcases List.mem_cons.mp hx with rfl | hx
     ·exact absurd s1 e
     ·exact .inr ⟨x,hx,s1,s2⟩
theorem TsOk.mn {d:Int} {n:Nat} {goal:Int} {F:List RdT} {m:Nat} {Ts:List Tb} (hd:0 < d) (fok:FOk d n m F) (ok:TsOk d n goal F m stepT Ts):∀ {k:Nat} {A:Tb},Ts[k]?=some A->∀ p,0<=p->p < (n:Int)->∀ t,Mn (Jo d F k p t goal) (Ma.bt d (cl A p) t)
 | 0,A,hA,p,p0,p1,t=>by
  rw [ok.first] at hA
  cases hA
  rw [qgv9 p0 p1]
  by_cases e:p=goal
  ·rw [if_pos e,Ma.bt_still hd]
   exact Mn.one ⟨e,rfl⟩ fun z s=>Int.le_of_eq s.2
  ·rw [if_neg e]
   exact Mn.none fun z s=>e s.1
 | k+1,A,hA,p,p0,p1,t=>by
  have lt:=(List.getElem?_eq_some_iff.mp hA).1
  have hA':=List.getElem?_eq_getElem (show k < Ts.length by omega)
  rw [ok.grow k _ A hA' hA p p0 p1 t]
  exact qmz9 (S:=fun q z=>Jo d F k q z goal) (ok.mn hd fok hA' p p0 p1 t) fun x hx z=>ok.mn hd fok hA' _ (fok x hx).2.1.1 (fok x hx).2.1.2 z
noncomputable def Pa (d:Int) (F:List RdT):List Int->Int->Int->Int->Int->Prop
 | [],p,t,q,y=>p=q/\t=y
 | x :: ps,p,t,q,y=>∃ m∈F,m.1=p/\m.2.1=x/\∃ z,Ma.bt d m.2.2.2 t=some z/\Pa d F ps x z q y
section
variable {d:Int} {F:List RdT}
theorem Jo.up:∀ {k:Nat} {p t q y:Int},Jo d F k p t q y->Jo d F (k+1) p t q y:=fun h=>.inl h
theorem Jo.le {k j:Nat} {p t q y:Int} (h:Jo d F k p t q y) (l:k<=j):Jo d F j p t q y:=by
 induction j with
 | zero =>
  have:k=0:=by omega
  subst this
  exact h
 | succ j ih =>
  rcases (by omega:k=j+1\/k<=j) with e | e
  ·subst e
   exact h
  ·exact (ih e).up
theorem Jo.pa:∀ {k:Nat} {p t q y:Int},Jo d F k p t q y->∃ ps,ps.length<=k/\Pa d F ps p t q y
 | 0,p,t,q,y,h=>⟨[],Nat.le_refl _,h⟩
 | k+1,p,t,q,y,h=>by
  rcases h with h | ⟨m,hm,e,z,hz,h⟩
  ·obtain ⟨ps,l,h⟩:=h.pa
   exact ⟨ps,by omega,h⟩
  ·obtain ⟨ps,l,h⟩:=h.pa
   exact ⟨m.2.1 :: ps,by simp; omega,m,hm,e,rfl,z,hz,h⟩
theorem Pa.jo:∀ {ps:List Int} {p t q y:Int},Pa d F ps p t q y->Jo d F ps.length p t q y
 | [],p,t,q,y,h=>h
 | x :: ps,p,t,q,y,⟨m,hm,e,ex,z,hz,h⟩=>.inr ⟨m,hm,e,z,hz,by rw [ex]; exact h.jo⟩
theorem Pa.early (ck:CkF d F):∀ {ps:List Int} {p t t' q y:Int},Pa d F ps p t q y->t'<=t->∃ y',y'<=y/\Pa d F ps p t' q y'
 | [],p,t,t',q,y,⟨e1,e2⟩,l=>⟨t',by omega,e1,rfl⟩
 | x :: ps,p,t,t',q,y,⟨m,hm,e,ex,z,hz,h⟩,l=>by
  obtain ⟨z',hz',lz⟩:=bt_up (ck m hm) hz l
  obtain ⟨y',ly,h'⟩:=h.early ck lz
  exact ⟨y',ly,m,hm,e,ex,z',hz',h'⟩
theorem Jo.early (ck:CkF d F) {k:Nat} {p t t' q y:Int} (h:Jo d F k p t q y) (l:t'<=t):∃ y',y'<=y/\Jo d F k p t' q y':=by
 obtain ⟨ps,lp,h⟩:=h.pa
 obtain ⟨y',ly,h'⟩:=h.early ck l
 exact ⟨y',ly,h'.jo.le lp⟩
end
theorem FOk.ck {d size:Int} {m:Nat} {F:List RdT} (h:FOk d size m F):CkF d F:=fun x hx=>(h x hx).2.2.1
theorem strip_mem {N M:List RdT} (h:M.map strip=N.map strip) {m:RdT} (hm:m∈M):∃ x∈N,x.1=m.1/\x.2.1=m.2.1/\x.2.2.2=m.2.2.2:=by
 have:strip m∈N.map strip:=by rw [<- h]; exact List.mem_map.mpr ⟨m,hm,rfl⟩
 obtain ⟨x,hx,e⟩:=List.mem_map.mp this
 simp only [strip,Prod.mk.injEq] at e
 exact ⟨x,hx,e⟩
theorem qkc9 {N M:List RdT} (h:M.map strip=N.map strip):M.length=N.length:=by simpa using congrArg List.length h
theorem NetOk.strip {d size:Int} {N M:List RdT} (h:NetOk d size N) (e:M.map strip=N.map strip):NetOk d size M:=⟨fun m hm=>by
 obtain ⟨x,hx,e1,e2,e3⟩:=strip_mem e hm
 rw [<- e1,<- e2,<- e3]
 exact h.all x hx⟩
theorem Fords.of {d:Int} {N F:List RdT} (h:Fords d N F) {f:RdT} (hf:f∈F):∃ x∈N,x.1=f.1/\x.2.1=f.2.1/\∀ t,Ma.bt d f.2.2.2 t=Ma.bt d x.2.2.2 t:=by
 obtain ⟨i,hi⟩:=List.getElem?_of_mem hf
 have lt:=(List.getElem?_eq_some_iff.mp hi).1
 have hx:=List.getElem?_eq_getElem (show i < N.length by rw [<- h.1]; exact lt)
 obtain ⟨e1,e2,_,_,e3⟩:=h.2 i _ f hx hi
 exact ⟨_,List.mem_of_getElem? hx,e1.symm,e2.symm,e3⟩
theorem Fords.to {d:Int} {N F:List RdT} (h:Fords d N F) {x:RdT} (hx:x∈N):∃ f∈F,f.1=x.1/\f.2.1=x.2.1/\∀ t,Ma.bt d f.2.2.2 t=Ma.bt d x.2.2.2 t:=by
 obtain ⟨i,hi⟩:=List.getElem?_of_mem hx
 have lt:=(List.getElem?_eq_some_iff.mp hi).1
 have hf:=List.getElem?_eq_getElem (show i < F.length by rw [h.1]; exact lt)
 obtain ⟨e1,e2,_,_,e3⟩:=h.2 i _ _ hi hf
 exact ⟨_,List.mem_of_getElem? hf,e1,e2,e3⟩
theorem qje9 {f f' m:Nat} (h:f<=f'):∀ k,mxT f m k<=mxT f' m k
 | 0=>Nat.le_refl _
 | k+1=>by
  have:=qje9 (m:=m) h k
  exact Nat.add_le_add this (Nat.mul_le_mul h (by omega))
theorem few16 {f n:Nat} (h:f<=16) (hn:n<=4):Few f 66 n:=fun k hk=>by
 have h1:=qje9 (m:=66) h (k+1)
 have h2:=qje9 (m:=66) h k
 have b1:mxT 16 66 (k+1)<=1000000:=by
  match k,hk with
  | 0,_=>decide
  | 1,_=>decide
  | 2,_=>decide
  | k+3,hk=>omega
 have b2:mxT 16 66 k<=19586:=by
  match k,hk with
  | 0,_=>decide
  | 1,_=>decide
  | 2,_=>decide
  | k+3,hk=>omega
 exact ⟨by omega,Nat.le_trans (Nat.mul_le_mul_left _ (show 2 * (mxT f 66 k+1)+2<=2 * 19587+2 by omega)) (by decide)⟩
theorem qnb9 {d t z:Int} {R:List T3} (h:Ma.bt d R t=some z):∃ w∈R,Ma.bt d [w] t=some z:=by
 obtain ⟨⟨w,hw,e⟩,_⟩:=Ma.bt_min h
 exact ⟨w,hw,by rw [e]; rfl⟩
theorem bt_le_of {d t z:Int} {R:List T3} {w:T3} (hw:w∈R) (h:Ma.bt d [w] t=some z):∃ z',Ma.bt d R t=some z'/\z'<=z:=by
 rcases Ma.bt_spec d t R with ⟨e,_⟩ | ⟨y,e,m⟩
 ·rw [e] at hw
  cases hw
 ·refine ⟨y,e,?_⟩
  have e2:Ma.bt d [w] t=some (Ma.nextO d w.1 w.2.1 t+w.2.2):=rfl
  rw [e2] at h
  cases h
  exact m.2 w hw
section
variable {P:Program} {w:World} {K:W.Frag} {mg:Str->Option Value} {base:Heap} {f:Addr} {fd:FuncData} {n:Nat}
end
section
variable {d:Int} {F F':List RdT}
end
theorem qhm9 (x y:Option Int):Ma.omin x y=Ma.omin y x:=by
 cases x with
 | none=>cases y <;> rfl
 | some x =>
  cases y with
  | none=>rfl
  | some y =>
   show some (Ma.jn false x y)=some (Ma.jn false y x)
   congr 1
   rcases Ma.jn_cases false x y with ⟨h,_⟩ | ⟨_,h1,h2,h3⟩
   ·cases h
   rcases Ma.jn_cases false y x with ⟨h,_⟩ | ⟨_,k1,k2,k3⟩
   ·cases h
   omega
theorem qdk9 (x y z:Option Int):Ma.omin (Ma.omin x y) z=Ma.omin x (Ma.omin y z):=by
 cases x with
 | none=>rfl
 | some x =>
  cases y with
  | none=>cases z <;> rfl
  | some y =>
   cases z with
   | none=>rfl
   | some z =>
    show some (Ma.jn false (Ma.jn false x y) z)=some (Ma.jn false x (Ma.jn false y z))
    congr 1
    rcases Ma.jn_cases false x y with ⟨h,_⟩ | ⟨_,h1,h2,h3⟩
    ·cases h
    rcases Ma.jn_cases false y z with ⟨h,_⟩ | ⟨_,k1,k2,k3⟩
    ·cases h
    rcases Ma.jn_cases false (Ma.jn false x y) z with ⟨h,_⟩ | ⟨_,l1,l2,l3⟩
    ·cases h
    rcases Ma.jn_cases false x (Ma.jn false y z) with ⟨h,_⟩ | ⟨_,m1,m2,m3⟩
    ·cases h
    omega
theorem qhr9 (x:Option Int):Ma.omin x x=x:=by
 cases x with
 | none=>rfl
 | some x =>
  show some (Ma.jn false x x)=_
  congr 1
  rcases Ma.jn_cases false x x with ⟨h,_⟩ | ⟨_,h1,h2,h3⟩
  ·cases h
  omega
noncomputable def LeO (x y:Option Int):Prop:=Ma.omin x y=x
theorem LeO.refl (x:Option Int):LeO x x:=qhr9 x
theorem LeO.left (x y:Option Int):LeO (Ma.omin x y) x:=by
 show Ma.omin (Ma.omin x y) x=Ma.omin x y
 rw [qhm9,<- qdk9,qhr9]
theorem LeO.min {x x' y y':Option Int} (h:LeO x x') (k:LeO y y'):LeO (Ma.omin x y) (Ma.omin x' y'):=by
 show Ma.omin (Ma.omin x y) (Ma.omin x' y')=Ma.omin x y
 rw [qdk9,<- qdk9 y x' y',qhm9 y x',qdk9 x' y y',<- qdk9 x x',show Ma.omin x x'=x from h,show Ma.omin y y'=y from k]
theorem LeO.none (x:Option Int):LeO x Option.none:=by
 show Ma.omin x Option.none=x
 cases x <;> rfl
theorem LeO.some {x y:Int}:LeO (some x) (some y)↔x<=y:=by
 show Option.some (Ma.jn false x y)=Option.some x↔_
 rcases Ma.jn_cases false x y with ⟨h,_⟩ | ⟨_,h1,h2,h3⟩
 ·cases h
 constructor
 ·intro e
  have:=Option.some.inj e
  omega
 ·intro e
  congr 1
  omega
theorem LeO.max {x x' y y':Option Int} (h:LeO x x') (k:LeO y y'):LeO (Ma.omax x y) (Ma.omax x' y'):=by
 cases x' with
 | none=>exact LeO.none _
 | some x' =>
  cases y' with
  | none=>exact LeO.none _
  | some y' =>
   cases x with
   | none=>cases (show Ma.omin Option.none (Option.some x')=Option.none from h)
   | some x =>
    cases y with
    | none=>cases (show Ma.omin Option.none (Option.some y')=Option.none from k)
    | some y =>
     refine LeO.some.mpr ?_
     have a:=LeO.some.mp h
     have b:=LeO.some.mp k
     rcases Ma.jn_cases true x y with ⟨_,h1,h2,h3⟩ | ⟨h,_⟩
     ·rcases Ma.jn_cases true x' y' with ⟨_,k1,k2,k3⟩ | ⟨h,_⟩
      ·omega
      ·cases h
     ·cases h
theorem rise_jn {d:Int} {late:Bool} {f g:Int->Int} (rf:Ma.Rise d f) (rg:Ma.Rise d g):Ma.Rise d fun x=>Ma.jn late (f x) (g x):=by
 refine ⟨fun t=>?_,fun t u h=>?_,fun t=>?_⟩
 ·have:=rf.ge t
  have:=rg.ge t
  rcases Ma.jn_cases late (f t) (g t) with ⟨_,h1,h2,h3⟩ | ⟨_,h1,h2,h3⟩ <;> omega
 ·have:=rf.mono t u h
  have:=rg.mono t u h
  rcases Ma.jn_cases late (f t) (g t) with ⟨e,h1,h2,h3⟩ | ⟨e,h1,h2,h3⟩ <;> rcases Ma.jn_cases late (f u) (g u) with ⟨e',k1,k2,k3⟩ | ⟨e',k1,k2,k3⟩
  ·omega
  ·rw [e] at e'; cases e'
  ·rw [e] at e'; cases e'
  ·omega
 ·have a:=rf.per t
  have b:=rg.per t
  rcases Ma.jn_cases late (f t) (g t) with ⟨e,h1,h2,h3⟩ | ⟨e,h1,h2,h3⟩ <;> rcases Ma.jn_cases late (f (t+d)) (g (t+d)) with ⟨e',k1,k2,k3⟩ | ⟨e',k1,k2,k3⟩
  ·omega
  ·rw [e] at e'; cases e'
  ·rw [e] at e'; cases e'
  ·omega
theorem rise_comp {d:Int} {f g:Int->Int} (rf:Ma.Rise d f) (rg:Ma.Rise d g):Ma.Rise d fun x=>g (f x):=by
 refine ⟨fun t=>?_,fun t u h=>rg.mono _ _ (rf.mono _ _ h),fun t=>?_⟩
 ·have:=rf.ge t
  have:=rg.ge (f t)
  omega
 ·show g (f (t+d))=_
  rw [rf.per,rg.per]
noncomputable def MuO (d:Int) (F:Int->Option Int) (m:Nat):Prop:=(∀ t,F t=none)\/∃ f:Int->Int,Ma.Rise d f/\Ma.Mu d f m/\∀ t,F t=some (f t)
section
variable {d:Int} {F G:Int->Option Int} {a b:Nat}
theorem MuR.o {R:List T3} (h:Ma.MuR d R a):MuO d (Ma.bt d R) a:=by
 by_cases z:R=[]
 ·subst z
  exact .inl fun t=>rfl
 ·have T:=Ma.tells_bf (d:=d) z
  exact .inr ⟨_,h.1.rise T,h.2 z,T⟩
theorem MuO.r {R:List T3} (ck:Ma.CK d R) (h:MuO d (Ma.bt d R) a):Ma.MuR d R a:=by
 refine ⟨ck,fun z=>?_⟩
 have T:=Ma.tells_bf (d:=d) z
 rcases h with h | ⟨f,_,mu,e⟩
 ·have:=T 0
  rw [h] at this
  cases this
 ·exact mu.congr fun t=>Option.some.inj ((e t).symm.trans (T t))
theorem MuO.le (h:MuO d F a) (l:a<=b):MuO d F b:=h.imp id fun ⟨f,r,m,e⟩=>⟨f,r,m.le l,e⟩
theorem MuO.congr (h:MuO d F a) (e:∀ t,G t=F t):MuO d G a:=by
 have:G=F:=funext e
 rw [this]
 exact h
theorem MuO.none:MuO d (fun _=>Option.none) a:=.inl fun _=>rfl
theorem MuO.min (h:MuO d F a) (k:MuO d G b):MuO d (fun t=>Ma.omin (F t) (G t)) (a+b):=by
 rcases h with h | ⟨f,rf,mf,ef⟩
 ·refine (k.le (Nat.le_add_left ..)).congr fun t=>?_
  rw [h]
  rfl
 rcases k with k | ⟨g,rg,mg,eg⟩
 ·refine (show MuO d F (a+b) from .inr ⟨f,rf,mf.le (Nat.le_add_right ..),ef⟩).congr fun t=>?_
  rw [k,ef]
  rfl
 exact .inr ⟨_,rise_jn rf rg,Ma.mu_jn (late:=false) rf rg mf mg,fun t=>by dsimp only; rw [ef,eg]; rfl⟩
theorem MuO.max (h:MuO d F a) (k:MuO d G b):MuO d (fun t=>Ma.omax (F t) (G t)) (a+b):=by
 rcases h with h | ⟨f,rf,mf,ef⟩
 ·exact .inl fun t=>by dsimp only; rw [h]; rfl
 rcases k with k | ⟨g,rg,mg,eg⟩
 ·exact .inl fun t=>by dsimp only; rw [k,ef]; rfl
 exact .inr ⟨_,rise_jn rf rg,Ma.mu_jn (late:=true) rf rg mf mg,fun t=>by dsimp only; rw [ef,eg]; rfl⟩
theorem MuO.bind (hd:0 < d) (h:MuO d F a) (k:MuO d G b):MuO d (Ma.obind F G) (a+b):=by
 rcases h with h | ⟨f,rf,mf,ef⟩
 ·exact .inl fun t=>by unfold Ma.obind; rw [h]; rfl
 rcases k with k | ⟨g,rg,mg,eg⟩
 ·exact .inl fun t=>by unfold Ma.obind; rw [ef]; exact k _
 exact .inr ⟨_,rise_comp rf rg,Ma.mu_comp hd rf rg mf mg,fun t=>by unfold Ma.obind; rw [ef]; exact eg _⟩
theorem MuO.id:MuO d (fun t=>some t) 0:=.inr ⟨fun t=>t,⟨fun t=>Int.le_refl _,fun _ _ h=>h,fun _=>rfl⟩,⟨[],[],Nat.le_refl _,fun b _ _ h=>by dsimp only at h; omega,fun t _ _ h=>by dsimp only at h; omega⟩,fun _=>rfl⟩
end
section
variable {ι:Type} {st:ι->Int} {p:Int}
noncomputable def fo (st:ι->Int) (val:ι->Option Int) (p:Int) (A:List ι) (o:Option Int):Option Int:=A.foldl (fun acc a=>if st a=p then Ma.omin acc (val a) else acc) o
theorem fo_o {val:ι->Option Int}:∀ {A:List ι} {o:Option Int},fo st val p A o=Ma.omin o (fo st val p A none)
 | [],o=>(LeO.none o).symm
 | a :: A,o=>by
  show fo st val p A (if st a=p then _ else _)=Ma.omin o (fo st val p A (if st a=p then _ else _))
  by_cases e:st a=p
  ·rw [if_pos e,if_pos e,fo_o,fo_o (o:=Ma.omin none (val a)),<- qdk9]
   rfl
  ·rw [if_neg e,if_neg e,fo_o]
theorem fo_le {val val':ι->Option Int}:∀ {A:List ι} {o o':Option Int},(∀ a∈A,LeO (val a) (val' a))->LeO o o'->LeO (fo st val p A o) (fo st val' p A o')
 | [],o,o',_,h=>h
 | a :: A,o,o',hA,h=>by
  show LeO (fo st val p A (if st a=p then _ else _)) (fo st val' p A (if st a=p then _ else _))
  refine fo_le (fun x hx=>hA x (List.mem_cons_of_mem _ hx)) ?_
  by_cases e:st a=p
  ·rw [if_pos e,if_pos e]
   exact h.min (hA a (List.mem_cons_self ..))
  ·rw [if_neg e,if_neg e]
   exact h
theorem fo_ge {val:ι->Option Int} {t:Int}:∀ {A:List ι},(∀ a∈A,∀ y,val a=some y->t<=y)->LeO (some t) (fo st val p A none)
 | [],_=>LeO.none _
 | a :: A,hA=>by
  show LeO _ (fo st val p A (if st a=p then _ else _))
  have ih:=fo_ge (A:=A) fun x hx=>hA x (List.mem_cons_of_mem _ hx)
  by_cases e:st a=p
  ·rw [if_pos e,fo_o,<- qhr9 (some t)]
   refine LeO.min ?_ ih
   show LeO _ (val a)
   cases ev:val a with
   | none=>exact LeO.none _
   | some y=>exact LeO.some.mpr (hA a (List.mem_cons_self ..) y ev)
  ·rw [if_neg e]
   exact ih
noncomputable def wsum (q:ι->Prop) [DecidablePred q] (wt:ι->Nat):List ι->Nat
 | []=>0
 | a :: A=>(if q a then wt a else 0)+wsum q wt A
theorem wsum_two {q:ι->Prop} [DecidablePred q] {wt:ι->Nat}:∀ {A:List ι},wsum q wt A+wsum (fun a=>¬ q a) wt A=(A.map wt).sum
 | []=>rfl
 | a :: A=>by
  have:=wsum_two (q:=q) (wt:=wt) (A:=A)
  show (if q a then wt a else 0)+wsum q wt A+((if ¬ q a then wt a else 0)+wsum (fun a=>¬ q a) wt A)=wt a+(A.map wt).sum
  by_cases e:q a
  ·rw [if_pos e,if_neg (not_not_intro e)]; omega
  ·rw [if_neg e,if_pos e]; omega
theorem fo_mu {d:Int} {val:ι->Int->Option Int} {q:ι->Prop} [DecidablePred q] {wt:ι->Nat} {m c:Nat}:∀ {A:List ι},(∀ a∈A,q a->MuO d (val a) (wt a * m))->(∀ a∈A,¬ q a->MuO d (val a) (wt a * c))->MuO d (fun t=>fo st (fun a=>val a t) p A none) (wsum q wt A * m+wsum (fun a=>¬ q a) wt A * c)
 | [],_,_=>MuO.none
 | a :: A,h1,h2=>by
  have ih:=fo_mu (A:=A) (fun x hx=>h1 x (List.mem_cons_of_mem _ hx)) (fun x hx=>h2 x (List.mem_cons_of_mem _ hx))
  by_cases e:st a=p
  ·have e2:∀ t,fo st (fun a=>val a t) p (a :: A) none=Ma.omin (val a t) (fo st (fun a=>val a t) p A none):=fun t=>by
    show fo st (fun a=>val a t) p A (if st a=p then _ else _)=_
    rw [if_pos e,fo_o]
    rfl
   show MuO d _ (((if q a then wt a else 0)+wsum q wt A) * m+((if ¬ q a then wt a else 0)+wsum (fun a=>¬ q a) wt A) * c)
   by_cases z:q a
   ·rw [if_pos z,if_neg (not_not_intro z),Nat.zero_add,Nat.add_mul,Nat.add_assoc]
    exact ((h1 a (List.mem_cons_self ..) z).min ih).congr e2
   ·rw [if_neg z,if_pos z,Nat.zero_add,Nat.add_mul]
    exact (((h2 a (List.mem_cons_self ..) z).min ih).congr e2).le (by omega)
  ·have e2:∀ t,fo st (fun a=>val a t) p (a :: A) none=fo st (fun a=>val a t) p A none:=fun t=>by
    show fo st (fun a=>val a t) p A (if st a=p then _ else _)=_
    rw [if_neg e]
   refine (ih.congr e2).le ?_
   show _<=((if q a then wt a else 0)+wsum q wt A) * m+((if ¬ q a then wt a else 0)+wsum (fun a=>¬ q a) wt A) * c
   exact Nat.add_le_add (Nat.mul_le_mul_right _ (by omega)) (Nat.mul_le_mul_right _ (by omega))
end
noncomputable def bdF (g s m:Nat):Nat->Nat
 | 0=>0
 | 1=>g * m
 | j+2=>g * m+s * (m+bdF g s m (j+1))
structure Grow (d:Int) (n:Nat) (goal:Int) {ι:Type} (st en:ι->Int) (val:Tb->ι->Int->Option Int) (A:List ι) (Ts:List Tb):Prop where
 first:Ts[0]?=some (stay d n goal)
 ck:∀ (i:Nat) X,Ts[i]?=some X->∀ p,0<=p->p < (n:Int)->Ma.CK d (cl X p)
 grow:∀ (i:Nat) X Y,Ts[i]?=some X->Ts[i+1]?=some Y->∀ p,0<=p->p < (n:Int)->∀ t,Ma.bt d (cl Y p) t=fo st (fun a=>val X a t) p A (Ma.bt d (cl X p) t)
structure Item (d:Int) (n:Nat) {ι:Type} (en:ι->Int) (val:Tb->ι->Int->Option Int) (wt:ι->Nat) (m:Nat) (a:ι):Prop where
 rng:0<=en a/\en a < (n:Int)
 le:∀ X Y:Tb,(∀ t,LeO (Ma.bt d (cl X (en a)) t) (Ma.bt d (cl Y (en a)) t))->∀ t,LeO (val X a t) (val Y a t)
 ge:∀ X:Tb,Ma.CK d (cl X (en a))->∀ t y,val X a t=some y->t<=y
 mu:∀ (X:Tb) (b:Nat),MuO d (Ma.bt d (cl X (en a))) b->MuO d (val X a) (wt a * (m+b))
 none:∀ X:Tb,cl X (en a)=[]->∀ t,val X a t=Option.none
section
variable {d:Int} {n:Nat} {goal:Int} {ι:Type} {st en:ι->Int} {val:Tb->ι->Int->Option Int} {wt:ι->Nat} {m:Nat} {A:List ι} {Ts:List Tb}
theorem Grow.base (hI:∀ a∈A,Item d n en val wt m a) (h:Grow d n goal st en val A Ts):∀ (j:Nat) (X Y:Tb),Ts[j]?=some X->Ts[j+1]?=some Y->∀ p,0<=p->p < (n:Int)->∀ t,Ma.bt d (cl Y p) t=Ma.omin (Ma.bt d (cl (stay d n goal) p) t) (fo st (fun a=>val X a t) p A none)
 | 0,X,Y,hX,hY,p,p0,p1,t=>by
  rw [h.grow 0 X Y hX hY p p0 p1 t]
  have:=h.first
  rw [hX] at this
  cases this
  exact fo_o
 | j+1,X,Y,hX,hY,p,p0,p1,t=>by
  rw [h.grow (j+1) X Y hX hY p p0 p1 t,fo_o]
  have lt:=(List.getElem?_eq_some_iff.mp hX).1
  have hW:=List.getElem?_eq_getElem (show j < Ts.length by omega)
  generalize Ts[j]=W at hW
  rw [h.base hI j W X hW hX p p0 p1 t]
  have le:LeO (fo st (fun a=>val X a t) p A none) (fo st (fun a=>val W a t) p A none):=by
   refine fo_le (fun a ha=>?_) (LeO.refl _)
   refine (hI a ha).le X W (fun t=>?_) t
   rw [h.grow j W X hW hX _ (hI a ha).rng.1 (hI a ha).rng.2 t,fo_o]
   exact LeO.left _ _
  rw [qdk9,qhm9 (fo st (fun a=>val W a t) p A none),show Ma.omin (fo st (fun a=>val X a t) p A none) (fo st (fun a=>val W a t) p A none)=_ from le]
theorem Grow.fine (hd:0 < d) (hI:∀ a∈A,Item d n en val wt m a) (h:Grow d n goal st en val A Ts):∀ (j:Nat) (X:Tb),Ts[j]?=some X->∀ p,0<=p->p < (n:Int)->(p=goal->∀ t,Ma.bt d (cl X p) t=some t)/\Ma.MuR d (cl X p) (bdF (wsum (fun a=>en a=goal) wt A) (wsum (fun a=>¬ en a=goal) wt A) m j)/\(j=0->p ≠ goal->cl X p=[])
 | 0,X,hX,p,p0,p1=>by
  have:=h.first
  rw [hX] at this
  cases this
  rw [qgv9 p0 p1]
  by_cases e:p=goal
  ·rw [if_pos e]
   have ck:Ma.CK d [(0,d - 1,0)]:=Ma.ck_still hd
   exact ⟨fun _ t=>Ma.bt_still hd t,MuO.r ck (MuO.id.congr fun t=>Ma.bt_still hd t),fun _ z=>absurd e z⟩
  ·rw [if_neg e]
   exact ⟨fun z=>absurd z e,Ma.mur_nil hd,fun _ _=>rfl⟩
 | j+1,Y,hY,p,p0,p1=>by
  have lt:=(List.getElem?_eq_some_iff.mp hY).1
  have hX:=List.getElem?_eq_getElem (show j < Ts.length by omega)
  generalize Ts[j]=X at hX
  have ih:=h.fine hd hI j X hX
  have e:=h.base hI j X Y hX hY p p0 p1
  have ckY:=h.ck _ Y hY p p0 p1
  refine ⟨fun g t=>?_,MuO.r ckY ?_,fun z=>by cases z⟩
  ·rw [e,qgv9 p0 p1,if_pos g,Ma.bt_still hd]
   exact fo_ge fun a ha y hy=>(hI a ha).ge X (h.ck _ X hX _ (hI a ha).rng.1 (hI a ha).rng.2) t y hy
  ·by_cases g:p=goal
   ·refine (MuO.id.le (Nat.zero_le _)).congr fun t=>?_
    rw [e,qgv9 p0 p1,if_pos g,Ma.bt_still hd]
    exact fo_ge fun a ha y hy=>(hI a ha).ge X (h.ck _ X hX _ (hI a ha).rng.1 (hI a ha).rng.2) t y hy
   ·have e2:∀ t,Ma.bt d (cl Y p) t=fo st (fun a=>val X a t) p A none:=fun t=>by
     rw [e,qgv9 p0 p1,if_neg g]
     rfl
    have h1:∀ a∈A,en a=goal->MuO d (val X a) (wt a * m):=fun a ha ea=>by
     have:=(hI a ha).mu X 0 (MuO.id.congr ((ih _ (hI a ha).rng.1 (hI a ha).rng.2).1 ea))
     rw [Nat.add_zero] at this
     exact this
    match j,ih with
    | 0,ih =>
     have h2:∀ a∈A,¬ en a=goal->MuO d (val X a) (wt a * 0):=fun a ha ea=>.inl ((hI a ha).none X ((ih _ (hI a ha).rng.1 (hI a ha).rng.2).2.2 rfl ea))
     refine ((fo_mu (st:=st) (p:=p) h1 h2).congr e2).le ?_
     rw [Nat.mul_zero,Nat.add_zero]
     exact Nat.le_refl _
    | j+1,ih =>
     have h2:∀ a∈A,¬ en a=goal->MuO d (val X a) (wt a * (m+bdF (wsum (fun a=>en a=goal) wt A) (wsum (fun a=>¬ en a=goal) wt A) m (j+1))):=fun a ha ea=>(hI a ha).mu X _ (MuR.o (ih _ (hI a ha).rng.1 (hI a ha).rng.2).2.1)
     exact (fo_mu (st:=st) (p:=p) h1 h2).congr e2
end
theorem bdF_le (g s m:Nat) (h:g+s<=6):bdF g s m 0<=15 * m/\bdF g s m 1<=15 * m/\bdF g s m 2<=15 * m/\bdF g s m 3<=62 * m:=by
 have k2:∀ g,g<=6->∀ s,s<=6->g+s<=6->g+s * (1+g)<=15/\g+s * (1+(g+s * (1+g)))<=62:=by decide
 obtain ⟨a,b⟩:=k2 g (by omega) s (by omega) h
 have e1:bdF g s m 1=g * m:=rfl
 have e2:bdF g s m 2=(g+s * (1+g)) * m:=by
  show g * m+s * (m+g * m)=_
  rw [Nat.add_mul,Nat.mul_assoc,Nat.add_mul,Nat.one_mul]
 have e3:bdF g s m 3=(g+s * (1+(g+s * (1+g)))) * m:=by
  show g * m+s * (m+bdF g s m 2)=_
  rw [e2,Nat.add_mul g (s * (1+(g+s * (1+g)))),Nat.mul_assoc s,Nat.add_mul 1,Nat.one_mul]
 refine ⟨Nat.zero_le _,?_,?_,?_⟩
 ·rw [e1]; exact Nat.mul_le_mul_right _ (by omega)
 ·rw [e2]; exact Nat.mul_le_mul_right _ a
 ·rw [e3]; exact Nat.mul_le_mul_right _ b
theorem bdF_le4 (g s m:Nat) (h:g+s<=4):bdF g s m 0<=8 * m/\bdF g s m 1<=8 * m/\bdF g s m 2<=8 * m/\bdF g s m 3<=25 * m:=by
 have k2:∀ g,g<=4->∀ s,s<=4->g+s<=4->g+s * (1+g)<=8/\g+s * (1+(g+s * (1+g)))<=25:=by decide
 obtain ⟨a,b⟩:=k2 g (by omega) s (by omega) h
 have e1:bdF g s m 1=g * m:=rfl
 have e2:bdF g s m 2=(g+s * (1+g)) * m:=by
  show g * m+s * (m+g * m)=_
  rw [Nat.add_mul,Nat.mul_assoc,Nat.add_mul,Nat.one_mul]
 have e3:bdF g s m 3=(g+s * (1+(g+s * (1+g)))) * m:=by
  show g * m+s * (m+bdF g s m 2)=_
  rw [e2,Nat.add_mul g (s * (1+(g+s * (1+g)))),Nat.mul_assoc s,Nat.add_mul 1,Nat.one_mul]
 refine ⟨Nat.zero_le _,?_,?_,?_⟩
 ·rw [e1]; exact Nat.mul_le_mul_right _ (by omega)
 ·rw [e2]; exact Nat.mul_le_mul_right _ a
 ·rw [e3]; exact Nat.mul_le_mul_right _ b
noncomputable abbrev AskT:=Int × Int × Addr × T3 × Addr × List T3
noncomputable def keyA (a:AskT):Int × Int × Addr × Addr:=(a.1,a.2.1,a.2.2.1,a.2.2.2.2.1)
noncomputable def encA (k:Int × Int × Addr × Addr):List V:=[.int k.1,.int k.2.1,.ref k.2.2.1,.ref k.2.2.2]
structure AA (H:Hp) (p:Addr) (A:List AskT):Prop where
 la:LA encA H p (A.map keyA)
 bd:∀ a∈A,LA enc3 H a.2.2.1 [a.2.2.2.1]/\LA enc3 H a.2.2.2.2.1 a.2.2.2.2.2
theorem AA.u {H H':Hp} {p:Addr} {A:List AskT} (h:AA H p A) (s:SameU H H'):AA H' p A:=⟨h.la.u s,fun a ha=>⟨(h.bd a ha).1.u s,(h.bd a ha).2.u s⟩⟩
noncomputable def AOk (d size:Int) (m:Nat) (A:List AskT):Prop:=∀ a∈A,(0<=a.1/\a.1 < size)/\(0<=a.2.1/\a.2.1 < size)/\Ma.CK d [a.2.2.2.1]/\∃ mb,mb+2<=m/\Ma.MuR d a.2.2.2.2.2 mb
noncomputable def askO (d:Int) (Cs:Tb) (a:AskT) (t:Int):Option Int:=Ma.omax (Ma.obind (Ma.bt d [a.2.2.2.1]) (Ma.bt d (cl Cs a.2.1)) t) (Ma.bt d a.2.2.2.2.2 t)
noncomputable def asksO (d:Int) (A:List AskT) (Cs:Tb) (p t:Int) (o:Option Int):Option Int:=A.foldl (fun acc a=>if a.1=p then Ma.omin acc (askO d Cs a t) else acc) o
noncomputable def stepA (d:Int) (A:List AskT) (Cs:Tb) (p t:Int):Option Int:=asksO d A Cs p t (Ma.bt d (cl Cs p) t)
theorem qms9 {d:Int} {A:List AskT} {a:AskT} {Cs:Tb} {p t:Int} {o:Option Int}:asksO d (A ++ [a]) Cs p t o=if a.1=p then Ma.omin (asksO d A Cs p t o) (askO d Cs a t) else asksO d A Cs p t o:=by simp [asksO]
noncomputable def spAsk (T:Hp->Prop) (stp:Int->List AskT->Tb->Int->Int->Option Int):Sp:=fun vs H Q _=>∃ (d:Int) (pF:Addr) (F:List AskT) (pt:Addr) (Cs:Tb) (M m:Nat),vs=[.int d,.ref pF,.ref pt]/\AA H pF F/\BA H pt Cs/\T H/\AOk d Cs.length m F/\TOk d M Cs/\M+F.length * (m+M)<=1800000/\m<=1000000/\Cs.length<=1000 /\
 ∀ (l:Addr) (Ds:Tb) (H':Hp),SameU H H'->T H'->H l=none->BA H' l Ds->Yg H H' l->Ds.length=Cs.length->TOk d (M+F.length * (m+M)) Ds->(∀ p,0<=p->p < (Cs.length:Int)->∀ t,Ma.bt d (cl Ds p) t=stp d F Cs p t)->Q (.ref l) H'
noncomputable def dscA (a:AskT):Int × Int × T3:=(a.1,a.2.1,a.2.2.2.1)
noncomputable def wsN (N:List RdT):List (Int × Int × T3):=N.flatMap fun m=>m.2.2.2.map fun w=>(m.1,m.2.1,w)
theorem qky9 {N M:List RdT}:wsN (N ++ M)=wsN N ++ wsN M:=by unfold wsN; rw [List.flatMap_append]
theorem qee9 {m:RdT} {N:List RdT}:wsN (m :: N)=(m.2.2.2.map fun w=>(m.1,m.2.1,w)) ++ wsN N:=by unfold wsN; rw [List.flatMap_cons]
theorem wsN_snoc {N:List RdT} {m:RdT}:wsN (N ++ [m])=wsN N ++ m.2.2.2.map fun w=>(m.1,m.2.1,w):=by simp [wsN]
noncomputable def BrOk (d:Int) (G:Tb) (a:AskT):Prop:=∀ t,Ma.bt d a.2.2.2.2.2 t=Ma.bt d (cl G a.1) (Ma.nextO d a.2.2.2.1.1 a.2.2.2.1.2.1 t+1)
noncomputable def qks9 (T:Hp->Prop):Sp:=fun vs H Q _=>∃ (d:Int) (n:Nat) (pr:Addr) (N:List RdT) (pg:Addr) (G:Tb) (Mg:Nat),vs=[.int d,.ref pr,.ref pg]/\NA H pr N/\BA H pg G/\T H/\0 < d/\NetOk d n N/\G.length=n/\TOk d Mg G/\Mg<=100000/\(wsN N).length<=1000 /\
 ∀ (l:Addr) (A:List AskT) (H':Hp),SameU H H'->T H'->AA H' l A->A.map dscA=wsN N->(∀ a∈A,BrOk d G a)->AOk d n (Mg+4) A->Q (.ref l) H'
section
variable {P:Program} {w:World} {K:W.Frag} {mg:Str->Option Value} {base:Heap} {f:Addr} {fd:FuncData} {n:Nat} {T:Hp->Prop}
theorem qjq9 (hTB:TB T) (F:Fun K "ask_first" "ask_first" qcr9 f fd) (Ca0:Callee P w K mg base n "copied_table" ["told"] qdy9) (Cj0:Callee P w K mg base n "sooner" ["day","one","other"] (spTwo Ma.omin)) (Cu1:Callee P w K mg base n "later" ["day","one","other"] (spTwo Ma.omax)) (Cm0:Callee P w K mg base n "behind" ["day","one","other"] (qhj9 T)):FnOk P w K mg base CX0 (n+1) f fd ["day","asks","told"] (spAsk T stepA):=by
 refine F.okQ sc_ask_first (fun vs H Q E h=>?_) (fun cdv A outer s H vs Q E hr h=>?_)
 ·obtain ⟨_,_,_,_,_,_,_,rfl,_⟩:=h
  rfl
 obtain ⟨d,pF,F,pt,Cs,M,m,rfl,hF,hB,hT,fok,tok,b1,b2,nl,q⟩:=h
 refine ⟨_,(qab9 (qak9 (i:=3) sc_ask_first.nd rfl (Or.inl rfl) (qe_fn Ca0 hr rfl (qa_c (qv 2) qac9))) (qab9 (qea9 PassesOwn.never rfl (qck9 (qv 1)) (qfb9 rfl (qaj9 (qam9 (i:=4) sc_ask_first.nd rfl (Or.inl rfl)) (qaj9 (qam9 (i:=5) sc_ask_first.nd rfl (Or.inl rfl)) (qaj9 (qam9 (i:=6) sc_ask_first.nd rfl (Or.inl rfl)) (qaj9 (qam9 (i:=7) sc_ask_first.nd rfl (Or.inl rfl)) qct9))))) (qab9 (qak9 (i:=8) sc_ask_first.nd rfl (Or.inl rfl) (qe_fn Cu1 hr rfl (qa_c (qv 0) (qa_c (qe_fn Cm0 hr rfl (qa_c (qv 0) (qa_c (qv 6) (qa_c (qe_ix qai9 (qv 2) (qv 5) (fun _ _=>rfl)) qac9)))) (qa_c (qv 7) qac9))))) (qae9 (qs_asg (qe_fn Cj0 hr rfl (qa_c (qv 0) (qa_c (qe_ix qai9 (qv 3) (qv 4) (fun _ _=>rfl)) (qa_c (qv 8) qac9)))) (qg_sub (qv 3) (qv 4) qjw9))))) (qae9 (qas9 (qv 3))))),?_⟩
 try dsimp only [cx_k,cx_kn,as_nil,as_name,Nat.reduceAdd]
 refine ⟨_,rfl,pt,Cs,rfl,hB,nl,fun pn H1 s1 f1 B1 Y1=>?_⟩
 have u1:=SameU.of s1
 obtain ⟨ws,hw1,hw2,hw3⟩:=hF.la.lst
 rw [List.length_map] at hw2
 refine ⟨_,rfl,pF,rfl,⟨_,SqL.of (s1 _ _ hw1)⟩,qdm9 (K:=K) (a:=pF) (xs:=ws)
  (fun i σ H'=>∃ (Ds:Tb) (v4 v5 v6 v7 v8:Option V),σ=[some (.int d),some (.ref pF),some (.ref pt),some (.ref pn),v4,v5,v6,v7,v8]/\SameU H H'/\T H'/\BA H' pn Ds/\Yg H H' pn/\Ds.length=Cs.length/\TOk d (M+i * (m+M)) Ds/\∀ p,0<=p->p < (Cs.length:Int)->∀ t,Ma.bt d (cl Ds p) t=asksO d (F.take i) Cs p t (Ma.bt d (cl Cs p) t))
  ⟨Cs,_,_,_,_,_,rfl,u1,hTB.same _ _ hT s1,B1,Y1,rfl,by simpa using tok,fun p _ _ t=>rfl⟩ (fun i σ H' _ ⟨_,_,_,_,_,_,_,u,_⟩=>SqL.of (u.lst hw1)) ?_ ?_⟩
 ·intro i y σ H2 hi z9;obtain ⟨Ds,v4,v5,v6,v7,v8,rfl,u2,t2,B2,Y2,l2,tok2,e2⟩ := z9
  obtain ⟨r,x,rfl,ex,er⟩:=hw3 i y hi
  have hi2:i < F.length:=by
   have:=(List.getElem?_eq_some_iff.mp hi).1
   omega
  have em:=List.getElem?_eq_getElem hi2
  rw [List.getElem?_map,em] at ex
  cases ex
  have hm:=List.getElem_mem hi2
  generalize F[i]=g at *
  obtain ⟨⟨a0,a1⟩,⟨b0,b1'⟩,ckw,mb,hmb,mub⟩:=fok g hm
  refine ⟨r,_,rfl,SqT.of (u2.tup er),rfl,_,_,rfl,_,_,rfl,_,_,rfl,_,_,rfl,rfl,?_⟩
  obtain ⟨rs,rc,r1,r2,r3,r4,r5⟩:=B2.at a0 (by rw [l2]; exact a1)
  obtain ⟨ts,tc,q1,q2,q3,q4,q5⟩:=(hB.u u2).at b0 b1'
  have muD:=tok2 _ (qfq9 a0 (by rw [l2]; exact a1))
  have muC:=tok _ (qfq9 b0 b1')
  have muw:=Ma.mur_one ckw
  have lb:=mub.len
  have lC:=muC.len
  have lD:=muD.len
  have im:M+i * (m+M)<=M+F.length * (m+M):=Nat.add_le_add_left (Nat.mul_le_mul_right _ (by omega)) _
  have im2:M+(i+1) * (m+M)<=M+F.length * (m+M):=Nat.add_le_add_left (Nat.mul_le_mul_right _ (by omega)) _
  have ie:M+(i+1) * (m+M)=M+i * (m+M)+(m+M):=by rw [Nat.add_mul,Nat.one_mul]; omega
  have bnd:(2 * [g.2.2.2.1].length+1) * (2 * (cl Cs g.2.1).length+2)<=16000000:=by
   show 3 * (2 * (cl Cs g.2.1).length+2)<=16000000
   omega
  refine ⟨_,rfl,_,rfl,_,rfl,_,rfl,_,rfl,pt,_,_,_,rfl,rfl,SqL.of q1,q2,d,g.2.2.1,tc,[g.2.2.2.1],cl Cs g.2.1,rfl,((hF.u u2).bd g hm).1,q5,t2,by simp,by omega,bnd,ckw,muC.1,fun l3 R3 H3 u3 t3 f3 la3 _ ck3 e3=>?_⟩
  have mu3:=Ma.MuR.bind ck3 muw muC e3
  have l3':=mu3.len
  refine ⟨_,rfl,d,l3,g.2.2.2.2.1,R3,g.2.2.2.2.2,rfl,la3,((hF.u (u2.trans u3)).bd g hm).2,by omega,by omega,ck3,mub.1,fun l4 R4 H4 s4 f4 la4 _ ck4 e4=>?_⟩
  have mu4:=Ma.MuR.max ck4 mu3 mub e4
  have l4':=mu4.len
  have u24:=u3.trans (SameU.of s4)
  have t4:=hTB.same _ _ t3 s4
  refine ⟨_,rfl,_,rfl,_,rfl,pn,_,_,_,rfl,rfl,SqL.of (u24.lst r1),r2,_,rfl,d,rc,l4,cl Ds g.1,R4,rfl,r5.u u24,la4,by omega,by omega,muD.1,ck4,fun l5 R5 H5 s5 f5 la5 _ ck5 e5=>?_⟩
  have mu5:=Ma.MuR.min ck5 muD mu4 e5
  have u25:=u24.trans (SameU.of s5)
  have r15:=u25.lst r1
  have nlp:l5 ≠ pn:=fun z=>by rw [z,u24.lst r1] at f5; cases f5
  have nlr:l5 ∉ rs:=fun z=>by
   obtain ⟨rs',x1,x2,x3,x4,x5⟩:=B2.u u24
   rw [u24.lst r1] at x1
   have:=qha9 (Option.some.inj x1)
   subst this
   obtain ⟨j,hj⟩:=List.getElem?_of_mem z
   have lj:=(List.getElem?_eq_some_iff.mp hj).1
   exact la_ne (enc':=enc3) (x5 j l5 _ hj (List.getElem?_eq_getElem (by omega))) f5 rfl
  refine ⟨_,rfl,_,rfl,pn,_,_,g.1.toNat,rfl,rfl,r15,ixN_pos a0 (by rw [List.length_map,r4,l2]; exact a1),?_⟩
  refine ⟨Ds.set g.1.toNat R5,_,_,_,_,_,rfl,SameU.wr f1 (u2.trans u25),hTB.wr _ _ _ _ (hTB.same _ _ t4 s5) r15,(B2.u u25).set r15 la5 nlp nlr (by omega),Yg.of (rs:=rs.set g.1.toNat l5) (by rw [qaf9,List.map_set]) fun r' hr'=>?_,by simp [l2],fun C hC=>?_,fun p p0 p1 t=>?_⟩
  ·rcases List.mem_or_eq_of_mem_set hr' with z | z
   ·exact Y2 rs r1 r' z
   ·subst z
    exact (u2.trans u24).free f5
  ·rw [ie]
   rcases List.mem_or_eq_of_mem_set hC with z | z
   ·exact (tok2 C z).le (by omega)
   ·subst z
    exact mu5.le (by omega)
  ·rw [qeb9 em,qms9,cl_set p0 (by rw [l2]; exact p1) a0 (by rw [l2]; exact a1)]
   by_cases z:g.1=p
   ·rw [if_pos z,if_pos z,e5,e2 g.1 a0 a1,e4,e3,z]
    rfl
   ·rw [if_neg z,if_neg z,e2 p p0 p1]
 ·intro σ H2 z9;obtain ⟨Ds,v4,v5,v6,v7,v8,rfl,u2,t2,B2,Y2,l2,tok2,e2⟩ := z9
  rw [hw2] at tok2 e2
  rw [List.take_length] at e2
  exact ⟨_,rfl,q pn Ds H2 u2 t2 f1 B2 Y2 l2 tok2 e2⟩
theorem qom9 (hTB:TB T) (F:Fun K "guarded" "guarded" qdr9 f fd) (Cm0:Callee P w K mg base n "behind" ["day","one","other"] (qhj9 T)):FnOk P w K mg base CX0 (n+1) f fd ["day","roads","guard"] (qks9 T):=by
 refine F.okQ sc_guarded (fun vs H Q E h=>?_) (fun cdv A outer s H vs Q E hr h=>?_)
 ·obtain ⟨_,_,_,_,_,_,_,rfl,_⟩:=h
  rfl
 obtain ⟨d,n',pr,N,pg,G,Mg,rfl,hN,hG,hT,hd,nok,lG,tokG,M5,lW,q⟩:=h
 refine ⟨_,(qab9 (qak9 (i:=3) sc_guarded.nd rfl (Or.inl rfl) (qch9 qac9)) (qab9 (qea9 PassesOwn.never rfl (qck9 (qv 1)) (qfb9 rfl (qaj9 (qam9 (i:=4) sc_guarded.nd rfl (Or.inl rfl)) (qaj9 (qam9 (i:=5) sc_guarded.nd rfl (Or.inl rfl)) (qaj9 (qam9 (i:=6) sc_guarded.nd rfl (Or.inl rfl)) qct9)))) (qae9 (qea9 PassesOwn.never rfl (qck9 (qv 6)) (qfb9 rfl (qaj9 (qam9 (i:=7) sc_guarded.nd rfl (Or.inl rfl)) (qaj9 (qam9 (i:=8) sc_guarded.nd rfl (Or.inl rfl)) (qaj9 (qam9 (i:=9) sc_guarded.nd rfl (Or.inl rfl)) qct9)))) (qae9 (qbc9 (qbg9 (qv 3) (qa_c (qci9 (qa_c (qv 4) (qa_c (qv 5) (qa_c (qch9 (qa_c (qci9 (qa_c (qv 7) (qa_c (qv 8) (qa_c (qv 9) qac9)))) qac9)) (qa_c (qe_fn Cm0 hr rfl (qa_c (qv 0) (qa_c (qch9 (qa_c (qci9 (qa_c (qv 7) (qa_c (qv 8) (qa_c qad9 qac9)))) qac9)) (qa_c (qe_ix qai9 (qv 2) (qv 4) (fun _ _=>rfl)) qac9)))) qac9))))) qac9))))))) (qae9 (qas9 (qv 3))))),?_⟩
 try dsimp only [cx_k,cx_kn,as_nil,as_name,Nat.reduceAdd]
 refine ⟨(by show 0<=sizeLine; decide),fun pA hpA=>?_⟩
 have fpA:=hpA
 generalize hgH1:upd _ pA _=H1
 obtain ⟨s1,e1⟩:=qaq9 hpA hgH1
 clear hgH1
 obtain ⟨ws,w1,w2,w3⟩:=hN.la.lst
 rw [List.length_map] at w2
 have lenT:∀ i (h:i < N.length) j,(wsN (N.take i) ++ ((N[i]).2.2.2.take j).map fun w=>((N[i]).1,(N[i]).2.1,w)).length<=(wsN N).length:=fun i h j=>by
  have h1:wsN N=wsN (N.take i) ++ wsN (N.drop i):=by
   have:=qky9 (N:=N.take i) (M:=N.drop i)
   rw [List.take_append_drop] at this
   exact this
  have h2:N.drop i=N[i] :: N.drop (i+1):=List.drop_eq_getElem_cons h
  rw [h1,h2,List.length_append,List.length_append]
  rw [qee9,List.length_append,List.length_map,List.length_map,List.length_take]
  omega
 refine ⟨_,rfl,pr,rfl,⟨_,SqL.of (s1 _ _ w1)⟩,qdm9 (K:=K) (a:=pr) (xs:=ws)
  (fun i σ H'=>∃ (A:List AskT) (v4 v5 v6 v7 v8 v9:Option V),σ=[some (.int d),some (.ref pr),some (.ref pg),some (.ref pA),v4,v5,v6,v7,v8,v9]/\SameU H H'/\T H'/\AA H' pA A/\(∀ a∈A,a.2.2.1 ≠ pA/\a.2.2.2.2.1 ≠ pA)/\A.map dscA=wsN (N.take i)/\(∀ a∈A,BrOk d G a)/\AOk d n' (Mg+4) A)
  ⟨[],_,_,_,_,_,_,rfl,SameU.of s1,hTB.same _ _ hT s1,⟨LA.nil e1,fun a ha=>(by cases ha)⟩,fun a ha=>(by cases ha),rfl,fun a ha=>(by cases ha),fun a ha=>(by cases ha)⟩ (fun i σ H' _ ⟨_,_,_,_,_,_,_,_,u,_⟩=>SqL.of (u.lst w1)) ?_ ?_⟩
 ·intro i y σ H2 hi z9;obtain ⟨A2,v4,v5,v6,v7,v8,v9,rfl,u2,t2,hA,neA,dA,brA,okA⟩ := z9
  obtain ⟨r,x,rfl,ex,er⟩:=w3 i y hi
  have hi2:i < N.length:=by
   have:=(List.getElem?_eq_some_iff.mp hi).1
   omega
  have em:=List.getElem?_eq_getElem hi2
  rw [List.getElem?_map,em] at ex
  cases ex
  have hm:=List.getElem_mem hi2
  have lenI:=lenT i hi2
  generalize N[i]=m at *
  obtain ⟨⟨a0,a1⟩,⟨b0,b1⟩,_,wm⟩:=nok.all m hm
  refine ⟨r,_,rfl,SqT.of (u2.tup er),rfl,_,_,rfl,_,_,rfl,_,_,rfl,rfl,?_⟩
  obtain ⟨bs,c1,c2,c3⟩:=(hN.bd m hm).1.lst
  refine ⟨_,rfl,m.2.2.1,rfl,⟨_,SqL.of (u2.lst c1)⟩,qdm9 (K:=K) (a:=m.2.2.1) (xs:=bs)
   (fun j σ H'=>∃ (A:List AskT) (v7 v8 v9:Option V),σ=[some (.int d),some (.ref pr),some (.ref pg),some (.ref pA),some (.int m.1),some (.int m.2.1),some (.ref m.2.2.1),v7,v8,v9]/\SameU H H'/\T H'/\AA H' pA A/\(∀ a∈A,a.2.2.1 ≠ pA/\a.2.2.2.2.1 ≠ pA)/\A.map dscA=wsN (N.take i) ++ (m.2.2.2.take j).map (fun w=>(m.1,m.2.1,w))/\(∀ a∈A,BrOk d G a)/\AOk d n' (Mg+4) A)
   ⟨A2,_,_,_,rfl,u2,t2,hA,neA,by simpa using dA,brA,okA⟩ (fun j σ H' _ ⟨_,_,_,_,_,u,_⟩=>SqL.of (u.lst c1)) ?_ ?_⟩
  ·intro j y σ H3 hj z9;obtain ⟨A3,v7',v8',v9',rfl,u3,t3,hA3,neA3,dA3,brA3,okA3⟩ := z9
   obtain ⟨rw',xw,rfl,exw,erw⟩:=c3 j y hj
   have hxw:=List.mem_of_getElem? exw
   obtain ⟨x0,x1,x2,x3⟩:=wm xw hxw
   refine ⟨rw',_,rfl,SqT.of (u3.tup erw),rfl,_,_,rfl,_,_,rfl,_,_,rfl,rfl,?_⟩
   obtain ⟨vs,f1,f2,_⟩:=hA3.la.lst
   refine ⟨_,rfl,.inl ⟨rfl,_,SqL.of f1⟩,_,rfl,_,rfl,_,rfl,_,rfl,_,rfl,(by show 3<=sizeLine; decide),fun r4 hr4=>?_⟩
   generalize hgH4:upd _ r4 _=H4
   obtain ⟨s4,e4⟩:=qaq9 hr4 hgH4
   clear hgH4
   refine ⟨(by show 1<=sizeLine; decide),fun p5 hp5=>?_⟩
   have np5:p5 ≠ pA:=fun z=>by rw [z,s4 _ _ f1] at hp5; cases hp5
   generalize hgH5:upd _ p5 _=H5
   obtain ⟨s5,e5⟩:=qaq9 hp5 hgH5
   clear hgH5
   have l5:LA enc3 H5 p5 [xw]:=LA.one e5 (s5 _ _ e4)
   refine ⟨_,rfl,_,rfl,_,rfl,(by show 3<=sizeLine; decide),fun r6 hr6=>?_⟩
   generalize hgH6:upd _ r6 _=H6
   obtain ⟨s6,e6⟩:=qaq9 hr6 hgH6
   clear hgH6
   refine ⟨(by show 1<=sizeLine; decide),fun p7 hp7=>?_⟩
   generalize hgH7:upd _ p7 _=H7
   obtain ⟨s7,e7⟩:=qaq9 hp7 hgH7
   clear hgH7
   have l7:LA enc3 H7 p7 [(xw.1,xw.2.1,1)]:=LA.one e7 (s7 _ _ e6)
   have s37:=((s4.trans s5).trans s6).trans s7
   have u7:=u3.trans (SameU.of s37)
   obtain ⟨gs,gc,g1,g2,g3,g4,g5⟩:=(hG.u u7).at a0 (by rw [lG]; exact a1)
   have muG:=tokG _ (qfq9 (Cs:=G) a0 (by rw [lG]; exact a1))
   have lGc:=muG.len
   have ck1:Ma.CK d [(xw.1,xw.2.1,1)]:=Ma.ck_one hd ⟨x0,x1,x2,by show (0:Int)<=1; decide⟩
   refine ⟨_,rfl,_,rfl,pg,_,_,_,rfl,rfl,SqL.of g1,g2,d,p7,gc,_,cl G m.1,rfl,l7,g5,hTB.same _ _ t3 s37,by simp,by omega,?_,ck1,muG.1,fun l8 R8 H8 u8 t8 f8 la8 _ ck8 e8=>?_⟩
   ·show 3 * (2 * (cl G m.1).length+2)<=16000000
    omega
   have mu8:=Ma.MuR.bind ck8 (Ma.mur_one ck1) muG e8
   refine ⟨(by show 4<=sizeLine; decide),fun r9 hr9=>?_⟩
   generalize hgH9:upd _ r9 _=H9
   obtain ⟨s9,e9⟩:=qaq9 hr9 hgH9
   clear hgH9
   have u39:=(SameU.of s37).trans (u8.trans (SameU.of s9))
   have f1':=u39.lst f1
   have n8:l8 ≠ pA:=fun z=>by rw [z,s37 _ _ f1] at f8; cases f8
   have hA9:=hA3.u u39
   have l5':=l5.u ((SameU.of (s6.trans s7)).trans (u8.trans (SameU.of s9)))
   have la8':=la8.same s9
   have lenA:A3.length<=1000:=by
    have h1:=congrArg List.length dA3
    rw [List.length_map] at h1
    have:=lenI j
    omega
   have br8:BrOk d G (m.1,m.2.1,p5,xw,l8,R8):=fun t=>by
    show Ma.bt d R8 t=Ma.bt d (cl G m.1) (Ma.nextO d xw.1 xw.2.1 t+1)
    rw [e8]
    rfl
   refine ⟨pA,vs,.ref r9,rfl,rfl,f1',qbj9 (by rw [f2,List.length_map]; omega),A3 ++ [(m.1,m.2.1,p5,xw,l8,R8)],_,_,_,rfl,SameU.wr fpA (u3.trans u39),hTB.wr _ _ _ _ (hTB.same _ _ t8 s9) f1',⟨?_,fun a ha=>?_⟩,fun a ha=>?_,?_,fun a ha=>?_,fun a ha=>?_⟩
   ·rw [List.map_append]
    exact hA9.la.append (x:=(m.1,m.2.1,p5,l8)) f1' e9
   ·rcases List.mem_append.mp ha with ha | ha
    ·exact ⟨qbw9 (hA9.bd a ha).1 f1' (neA3 a ha).1,qbw9 (hA9.bd a ha).2 f1' (neA3 a ha).2⟩
    ·rw [List.mem_singleton] at ha
     subst ha
     exact ⟨qbw9 l5' f1' np5,qbw9 la8' f1' n8⟩
   ·rcases List.mem_append.mp ha with ha | ha
    ·exact neA3 a ha
    ·rw [List.mem_singleton] at ha
     subst ha
     exact ⟨np5,n8⟩
   ·rw [List.map_append,dA3,qdl9 _ exw,List.append_assoc]
    rfl
   ·rcases List.mem_append.mp ha with ha | ha
    ·exact brA3 a ha
    ·rw [List.mem_singleton] at ha
     subst ha
     exact br8
   ·rcases List.mem_append.mp ha with ha | ha
    ·exact okA3 a ha
    ·rw [List.mem_singleton] at ha
     subst ha
     exact ⟨⟨a0,a1⟩,⟨b0,b1⟩,Ma.ck_one hd ⟨x0,x1,x2,by show 0<=xw.2.2; omega⟩,2+Mg,by omega,mu8⟩
  ·intro σ H3 z9;obtain ⟨A3,v7',v8',v9',rfl,u3,t3,hA3,neA3,dA3,brA3,okA3⟩ := z9
   refine ⟨A3,_,_,_,_,_,_,rfl,u3,t3,hA3,neA3,?_,brA3,okA3⟩
   rw [dA3,qeb9 em,wsN_snoc,c2,List.take_length]
 ·intro σ H2 z9;obtain ⟨A2,v4,v5,v6,v7,v8,v9,rfl,u2,t2,hA,neA,dA,brA,okA⟩ := z9
  rw [w2,List.take_length] at dA
  exact ⟨_,rfl,q pA A2 H2 u2 t2 hA dA brA okA⟩
end
noncomputable def spStepA (T:Hp->Prop) (stp:Int->List AskT->Tb->Int->Int->Option Int) (qual:Str) (v1 v2:V) (c':Addr):Sp:=match v1,v2 with
 | .int d,.ref pF=>fun vs H Q E=>H c'=some (.ext (CodeQ c' qual))/\∃ pt:Addr,vs=[.ref pt]/\spAsk T stp [.int d,.ref pF,.ref pt] H Q E
 | _,_=>fun _ _ _ _=>False
noncomputable abbrev gF (p:Int) (F:List AskT):Nat:=wsum (fun a:AskT=>a.2.1=p) (fun _=>1) F
noncomputable abbrev sF (p:Int) (F:List AskT):Nat:=wsum (fun a:AskT=>¬ a.2.1=p) (fun _=>1) F
theorem gs_len {p:Int} {F:List AskT}:gF p F+sF p F=F.length:=by
 have h:(F.map fun _:AskT=>1).sum=F.length:=by
  induction F with
  | nil=>rfl
  | cons a F ih=>rw [List.map_cons,List.sum_cons,ih,List.length_cons]; omega
 exact wsum_two.trans h
theorem ask_item {d:Int} {n:Nat} {m:Nat} {F:List AskT} (hd:0 < d) (fok:AOk d n m F):∀ a∈F,Item d n (fun a:AskT=>a.2.1) (fun X a t=>askO d X a t) (fun _=>1) m a:=fun a ha=>by
 obtain ⟨_,b,ckw,mb,hmb,mub⟩:=fok a ha
 refine ⟨b,fun X Y h t=>?_,fun X ck t y e=>?_,fun X b hX=>?_,fun X e t=>?_⟩
 ·refine LeO.max ?_ (LeO.refl _)
  unfold Ma.obind
  cases Ma.bt d [a.2.2.2.1] t with
  | none=>exact LeO.refl _
  | some x=>exact h x
 ·have r1:=ckw.rise (Ma.tells_bf (d:=d) (R:=[a.2.2.2.1]) (by simp))
  have T1:=Ma.tells_bf (d:=d) (R:=[a.2.2.2.1]) (by simp) t
  unfold askO Ma.obind at e
  rw [T1] at e
  have g1:=r1.ge t
  generalize Ma.bf d [a.2.2.2.1] t=x at e g1
  have e':Ma.omax (Ma.bt d (cl X a.2.1) x) (Ma.bt d a.2.2.2.2.2 t)=some y:=e
  cases ez:Ma.bt d (cl X a.2.1) x with
  | none=>rw [ez] at e'; cases e'
  | some z =>
   have lz:=qpa9 ck ez
   rw [ez] at e'
   cases eu:Ma.bt d a.2.2.2.2.2 t with
   | none=>rw [eu] at e'; cases e'
   | some u =>
    rw [eu] at e'
    have:Ma.jn true z u=y:=Option.some.inj e'
    rcases Ma.jn_cases true z u with ⟨_,h1,_,_⟩ | ⟨h,_⟩
    ·omega
    ·cases h
 ·have:=(MuO.bind hd (MuR.o (Ma.mur_one ckw)) hX).max (MuR.o mub)
  exact this.le (by omega)
 ·unfold askO Ma.obind
  have h:∀ x,Ma.bt d (cl X a.2.1) x=none:=fun x=>by rw [e]; rfl
  cases Ma.bt d [a.2.2.2.1] t with
  | none=>rfl
  | some x=>show Ma.omax (Ma.bt d (cl X a.2.1) x) _=none; rw [h]; rfl
structure TsOkA (d:Int) (n:Nat) (p:Int) (F:List AskT) (m:Nat) (stp:Int->List AskT->Tb->Int->Int->Option Int) (Ts:List Tb):Prop where
 first:Ts[0]?=some (stay d n p)
 each:∀ (i:Nat) A,Ts[i]?=some A->A.length=n/\TOk d (bdF (gF p F) (sF p F) m i) A
 grow:∀ (i:Nat) A B,Ts[i]?=some A->Ts[i+1]?=some B->∀ p,0<=p->p < (n:Int)->∀ t,Ma.bt d (cl B p) t=stp d F A p t
noncomputable def qjx9 (T:Hp->Prop) (stp:Int->List AskT->Tb->Int->Int->Option Int) (qual:Str) (v1 v2:V) (fl c':Addr):Sp:=match v1,v2 with
 | .int d,.ref pF=>fun vs H Q _=>∃ (n:Nat) (p:Int) (F:List AskT) (m:Nat),vs=[.int d,.int n,.int p,.ref fl]/\H c'=some (.ext (CodeQ c' qual))/\AA H pF F/\T H/\1<=n/\n<=1000/\0 < d/\AOk d n m F/\m<=1000000/\(∀ i,i+1 < n->bdF (gF p F) (sF p F) m i+F.length * (m+bdF (gF p F) (sF p F) m i)<=1800000) /\
  ∀ (l:Addr) (Ts:List Tb) (H':Hp),SameU H H'->T H'->TL H H' l Ts->Ts.length=n->TsOkA d n p F m stp Ts->Q (.ref l) H'
 | _,_=>fun _ _ _ _=>False
section
variable {P:Program} {w:World} {K:W.Frag} {mg:Str->Option Value} {base:Heap} {f:Addr} {fd:FuncData} {n:Nat} {T:Hp->Prop}
theorem ok_grownA {v1 v2:V} {fl c':Addr} {fdl:FuncData} {qual:Str} {stp:Int->List AskT->Tb->Int->Int->Option Int} (hst:stp=stepA) (hTB:TB T) (F:Fun K "grown" "grown" qcv9 f fd) (B:Bl mg) (Ce0:Callee P w K mg base n "staying" ["day","size","place"] qdw9) (Ca0:Callee P w K mg base n "copied_table" ["told"] qdy9)
  (G:FnOk P w K mg base CX0 n fl fdl ["told"] (spStepA T stp qual v1 v2 c')) (bG:Binds K fdl ["told"] []) (ho:W.FnAt fl base):FnOk P w K mg base CX0 (n+1) f fd ["day","size","place","step"] (qjx9 T stp qual v1 v2 fl c'):=by
 subst hst
 unfold qjx9
 split
 case h_2=>exact qcw9
 rename_i d pF
 refine F.okQ sc_grown (fun vs H Q E h=>?_) (fun cdv A outer s H vs Q E hr h=>?_)
 ·obtain ⟨_,_,_,_,rfl,_⟩:=h
  rfl
 obtain ⟨N,p,Fs,m,rfl,hc,hF,hT,N1,N2,hd,fok,m6,few,q⟩:=h
 refine ⟨_,(qab9 (qak9 (i:=4) sc_grown.nd rfl (Or.inl rfl) (qch9 (qa_c (qe_fn Ce0 hr rfl (qa_c (qv 0) (qa_c (qv 1) (qa_c (qv 2) qac9)))) qac9))) (qab9 (qef9 PassesOwn.never (qap9 qdv9 (qe_cb qat9 rfl B.len qcj9 (qa_c (qv 4) qac9)) (qv 1) (qay9 _)) (qae9 (qs_if (qhv9 (QW.pt (qjk9 (qap9 qfs9 (qe_cb qat9 rfl B.len qcj9 (qa_c (qv 4) qac9)) qad9 (qay9 _)) (qgs9 (qap9 (qnf9 hr.units) (qe_ix qai9 (qv 4) (qec9 qad9) (fun _ _=>rfl)) (qe_ix qai9 (qv 4) (qec9 qad9) (fun _ _=>rfl)) (qay9 _)))))) (qae9 (qbc9 (qbg9 (qv 4) (qa_c (qe_fn Ca0 hr rfl (qa_c (qe_ix qai9 (qv 4) (qec9 qad9) (fun _ _=>rfl)) qac9)) qac9)))) (qae9 (qbc9 (qbg9 (qv 4) (qa_c ⟨pe_clo 3 G hr bG ho (qa_c (qe_ix qai9 (qv 4) (qec9 qad9) (fun _ _=>rfl)) qac9).run⟩ qac9))))))) (qae9 (qas9 (qv 4))))),?_⟩
 try dsimp only [cx_k,cx_kn,as_nil,as_name,Nat.reduceAdd]
 refine ⟨_,rfl,_,rfl,_,rfl,d,N,p,rfl,N2,fun q0 H1 s1 f1 B1 Y1=>⟨(by show 1<=sizeLine; decide),fun pf hpf=>?_⟩⟩
 have L1:=TL.one (H0:=H) B1 hpf (s1.free hpf) f1 Y1
 have s12:=qal9 hpf (.lst [.ref q0])
 have S2:=s1.trans s12
 have k0:stay d N p∈[stay d N p]:=List.mem_singleton.mpr rfl
 have ok1:TsOkA d N p Fs m stepA [stay d N p]:=⟨rfl,fun i A hA=>by
   match i,hA with
   | 0,hA =>
    cases hA
    refine ⟨by simp [stay],fun C hC=>?_⟩
    obtain ⟨i,_,rfl⟩:=List.mem_map.mp hC
    split
    ·exact MuO.r (Ma.ck_still hd) (MuO.id.congr fun t=>Ma.bt_still hd t)
    ·exact Ma.mur_nil hd
   | i+1,hA=>simp at hA,fun i A B hA hB=>by simp at hB⟩
 generalize upd H1 pf (.lst [.ref q0])=H2 at *
 refine qed9 (fun σ H'=>σ=[some (.int d),some (.int N),some (.int p),some (.ref fl),some (.ref pf)]/\SameU H H'/\T H'/\∃ Ts:List Tb,TL H H' pf Ts/\1<=Ts.length/\Ts.length<=N/\TsOkA d N p Fs m stepA Ts)
  (fun _ H'=>match H' pf with | some (.lst xs)=>N - xs.length | _=>0) ⟨rfl,SameU.of S2,hTB.same _ _ hT S2,_,L1,Nat.le_refl _,N1,ok1⟩ ?_ ?_
 ·intro σ H3 z9;obtain ⟨rfl,u3,t3,Ts,L3,l1,l2,ok⟩ := z9
  obtain ⟨xs,x1,xl⟩:=L3.lst
  refine ⟨_,rfl,pf,_,rfl,.inl (SqL.of x1),_,rfl,_,_,rfl,rfl,_,rfl,ite2 (fun c=>?_) (fun c=>?_)⟩
  ·have c':(xs.length:Int) < (N:Int):=of_decide_eq_true c
   have hA:Ts[Ts.length - 1]?=some (Ts[Ts.length - 1]'(by omega)):=List.getElem?_eq_getElem (by omega)
   generalize Ts[Ts.length - 1]'(by omega)=A at hA
   obtain ⟨qa,qa1,qa2,qa3,qa4,qa5⟩:=L3.at x1 hA
   obtain ⟨oA1,oA2⟩:=ok.each _ A hA
   have a1:atI xs (-1)=some (.ref qa):=by
    have:=qez9 (xs:=xs) (k:=1) (Nat.le_refl _) (by omega)
    rw [xl] at this
    exact this.trans qa1
   have mu0:∀ ys:List V,H3 pf=some (.lst ys)->ys=xs:=fun ys e=>by
    rw [x1] at e
    cases e
    rfl
   have fin:∀ (l:Addr) (B:Tb) (H4:Hp),SameU H3 H4->T H4->H3 l=none->BA H4 l B->Yg H3 H4 l->B.length=N->(∀ C∈B,Ma.CK d C)->(∀ p,0<=p->p < (N:Int)->∀ t,Ma.bt d (cl B p) t=stepA d Fs A p t)->∃ p_1 xs v,(V.ref pf:V)=.ref p_1/\[V.ref l]=[v]/\H4 p_1=some (.lst xs)/\xs.length < sizeLine /\
     ((([some (.int d),some (.int N),some (.int p),some (.ref fl),some (.ref pf)]:L2.St)=[some (.int d),some (.int N),some (.int p),some (.ref fl),some (.ref pf)]/\SameU H (upd H4 p_1 (.lst (xs ++ [v])))/\T (upd H4 p_1 (.lst (xs ++ [v])))/\∃ Ts:List Tb,TL H (upd H4 p_1 (.lst (xs ++ [v]))) pf Ts/\1<=Ts.length/\Ts.length<=N/\TsOkA d N p Fs m stepA Ts) /\
     (match upd H4 p_1 (.lst (xs ++ [v])) pf with | some (.lst xs)=>N - xs.length | _=>0) < (match H3 pf with | some (.lst xs)=>N - xs.length | _=>0)):=by
    intro l B H4 u4 t4 fl4 hB hY bl ckB gB
    have x4:=u4.lst x1
    have L4:=L3.snoc u4 fl4 hB hY u3 x4
    obtain ⟨qs0,z1,_,_,z4,_⟩:=id L3
    have fpf:H pf=none:=z4 pf (List.mem_cons_self ..)
    have F1:(Ts ++ [B])[0]?=some (stay d N p):=by
     rw [List.getElem?_append_left (by omega)]
     exact ok.first
    have F2:∀ (i:Nat) C,(Ts ++ [B])[i]?=some C->C.length=N/\∀ R∈C,Ma.CK d R:=by
     intro i C hC
     rcases Nat.lt_or_ge i Ts.length with z | z
     ·rw [List.getElem?_append_left z] at hC
      exact ⟨(ok.each i C hC).1,fun R hR=>((ok.each i C hC).2 R hR).1⟩
     ·have:=(List.getElem?_eq_some_iff.mp hC).1
      simp at this
      have ei:i=Ts.length:=by omega
      subst ei
      rw [List.getElem?_append_right (Nat.le_refl _),Nat.sub_self] at hC
      cases hC
      exact ⟨bl,ckB⟩
    have F3:∀ (i:Nat) C D,(Ts ++ [B])[i]?=some C->(Ts ++ [B])[i+1]?=some D->∀ p,0<=p->p < (N:Int)->∀ t,Ma.bt d (cl D p) t=stepA d Fs C p t:=by
     intro i C D hC hD
     rcases Nat.lt_or_ge (i+1) Ts.length with z | z
     ·rw [List.getElem?_append_left (by omega)] at hC
      rw [List.getElem?_append_left z] at hD
      exact ok.grow i C D hC hD
     ·have:=(List.getElem?_eq_some_iff.mp hD).1
      simp at this
      have ei:i=Ts.length - 1:=by omega
      subst ei
      rw [List.getElem?_append_left (by omega),hA] at hC
      rw [List.getElem?_append_right (by omega),show Ts.length - 1+1 - Ts.length=0 by omega] at hD
      cases hC
      cases hD
      exact gB
    have GR:Grow d N p (fun a:AskT=>a.1) (fun a:AskT=>a.2.1) (fun X a t=>askO d X a t) Fs (Ts ++ [B]):=⟨F1,fun i X hX q q0 q1=>(F2 i X hX).2 _ (qfq9 q0 (by rw [(F2 i X hX).1]; exact q1)),F3⟩
    have E4:∀ (i:Nat) C,(Ts ++ [B])[i]?=some C->C.length=N/\TOk d (bdF (gF p Fs) (sF p Fs) m i) C:=fun i C hC=>by
     refine ⟨(F2 i C hC).1,fun R hR=>?_⟩
     obtain ⟨j,hj⟩:=List.getElem?_of_mem hR
     have lj:=(List.getElem?_eq_some_iff.mp hj).1
     have hl:=(F2 i C hC).1
     have:=(GR.fine hd (ask_item hd fok) i C hC (j:Int) (by omega) (by omega)).2.1
     have ec:cl C (j:Int)=R:=by
      unfold cl
      rw [List.getD_eq_getElem?_getD,Int.toNat_natCast,hj]
      rfl
     rw [ec] at this
     exact this
    refine ⟨pf,xs,_,rfl,rfl,x4,qbj9 (by omega),⟨rfl,SameU.wr fpf (u3.trans u4),hTB.wr _ _ _ _ t4 x4,Ts ++ [B],L4,by simp,by simp; omega,⟨F1,E4,F3⟩⟩,?_⟩
    ·rw [qaf9,x1]
     show N - (xs ++ [V.ref l]).length < N - xs.length
     rw [List.length_append,List.length_singleton]
     omega
   refine ⟨fun b H'=>H'=H3/\(b=true->∃ A',Ts[Ts.length - 1 - 1]?=some A'/\2<=Ts.length/\A'=A),?_,?_⟩
   ·refine ⟨_,rfl,pf,_,rfl,.inl (SqL.of x1),_,_,rfl,rfl,_,rfl,ite2 (fun c2=>?_) (fun c2=>⟨rfl,fun z=>by cases z⟩)⟩
    have c2':(1:Int) < (xs.length:Int):=of_decide_eq_true c2
    have hA':Ts[Ts.length - 1 - 1]?=some (Ts[Ts.length - 1 - 1]'(by omega)):=List.getElem?_eq_getElem (by omega)
    generalize Ts[Ts.length - 1 - 1]'(by omega)=A' at hA'
    obtain ⟨qb,qb1,qb2,qb3,qb4,qb5⟩:=L3.at x1 hA'
    have a2:atI xs (-2)=some (.ref qb):=by
     have:=qez9 (xs:=xs) (k:=2) (by omega) (by omega)
     rw [xl,show Ts.length - 2=Ts.length - 1 - 1 by omega] at this
     exact this.trans qb1
    refine ⟨_,rfl,_,rfl,pf,_,_,_,rfl,rfl,SqL.of x1,a1,_,rfl,_,rfl,pf,_,_,_,rfl,rfl,SqL.of x1,a2,_,_,qa2.rd,qb2.rd,qld9 _,qld9 _,_,rfl,rfl,fun z=>⟨A',hA',by omega,?_⟩⟩
    rw [qfa9 eqvB] at z
    exact (of_decide_eq_true z).symm
   intro b H3' z9;obtain ⟨rfl,hb⟩ := z9
   refine ite2 (fun cb=>?_) (fun cb=>?_)
   ·obtain ⟨A',hA',l2',rfl⟩:=hb cb
    refine ⟨_,rfl,.inl ⟨rfl,_,SqL.of x1⟩,_,rfl,_,rfl,pf,_,_,_,rfl,rfl,SqL.of x1,a1,qa,A',rfl,qa2,by omega,fun l H4 s4 f4 B4 Y4=>?_⟩
    refine fin l A' H4 (SameU.of s4) (hTB.same _ _ t3 s4) f4 B4 Y4 oA1 (fun R hR=>(oA2 R hR).1) fun p' p0 p1 t=>?_
    exact ok.grow _ A' A' hA' (by rw [show Ts.length - 1 - 1+1=Ts.length - 1 by omega]; exact hA) p' p0 p1 t
   ·have fw:=few (Ts.length - 1) (by omega)
    refine ⟨_,rfl,.inl ⟨rfl,_,SqL.of x1⟩,rfl,_,rfl,_,rfl,pf,_,_,_,rfl,rfl,SqL.of x1,a1,u3.1 _ _ hc (fun z y=>by cases y),qa,rfl,d,pF,Fs,qa,A,_,m,rfl,hF.u u3,qa2,t3,by rw [oA1]; exact fok,oA2,fw,m6,by omega,fun l Ds H4 u4 t4 f4 B4 Y4 l4 tk4 e4=>?_⟩
    refine fin l Ds H4 u4 t4 f4 B4 Y4 (l4.trans oA1) (fun R hR=>(tk4 R hR).1) fun p' p0 p1 t=>e4 p' p0 (by rw [oA1]; exact p1) t
  ·have c':¬ (xs.length:Int) < (N:Int):=fun z=>c (decide_eq_true z)
   exact ⟨_,rfl,q pf Ts H3 u3 t3 L3 (by omega) ok⟩
 ·intro σ H' Q1 Q2 hq z9;obtain ⟨v,e1,p1,ys,e2,e3,v2,e4,i,j,e5,e6,k,e7,q1⟩ := z9
  exact ⟨v,e1,p1,ys,e2,e3,v2,e4,i,j,e5,e6,k,e7,hq _ _ q1⟩
end
noncomputable def yo (H0 H:Hp):Hp:=fun b=>match H0 b with
 | some (.lst _)=>none
 | _=>H b
section
variable {H0 H H':Hp} {b p:Addr} {o:HO}
theorem yo_of (e:H b=some o) (n:∀ xs,H0 b ≠ some (.lst xs)):yo H0 H b=some o:=by
 unfold yo
 split
 ·rename_i xs h
  exact absurd h (n xs)
 ·exact e
theorem qhe9 (e:yo H0 H b=some o):H b=some o/\∀ xs,H0 b ≠ some (.lst xs):=by
 unfold yo at e
 split at e
 ·cases e
 ·rename_i h
  exact ⟨e,fun xs z=>h xs z⟩
theorem yo_to:Same (yo H0 H) H:=fun _ _ e=>(qhe9 e).1
theorem yo_none (e:H b=none):yo H0 H b=none:=by
 unfold yo
 split
 ·rfl
 ·exact e
theorem qfz9 (f:H0 b=none):∀ xs,H0 b ≠ some (.lst xs):=fun xs z=>by rw [f] at z; cases z
theorem yo_u (s:SameU H H'):SameU (yo H0 H) (yo H0 H'):=by
 constructor
 ·intro b o e n
  obtain ⟨a,c⟩:=qhe9 e
  exact yo_of (s.1 _ _ a n) c
 ·intro b o e
  obtain ⟨a,c⟩:=qhe9 e
  obtain ⟨o',z⟩:=s.2 _ _ a
  exact ⟨o',yo_of z c⟩
theorem yo_upd (n:∀ xs,H0 p ≠ some (.lst xs)):yo H0 (upd H p o)=upd (yo H0 H) p o:=funext fun b=>by
 by_cases c:b=p
 ·subst c
  rw [qaf9]
  exact yo_of qaf9 n
 ·rw [qao9 c]
  unfold yo
  rw [qao9 c]
theorem tup_yo {xs:List V} (u:SameU H0 H) (e:H b=some (.tup xs)):yo H0 H b=some (.tup xs):=yo_of e fun ys z=>by
 rw [u.lst z] at e
 cases e
theorem LA.yo {α:Type} {enc:α->List V} {R:List α} (h:LA enc H p R) (u:SameU H0 H) (f:H0 p=none):LA enc (yo H0 H) p R:=by
 obtain ⟨rs,h1,h2,h3⟩:=h.ex
 exact ⟨rs,yo_of h1 (qfz9 f),h2,fun i r y e1 e2=>tup_yo u (h3 i r y e1 e2)⟩
theorem NA.yo {N:List RdT} (h:NA H p N) (u:SameU H0 H) (f:H0 p=none) (nf:NFr H0 N):NA (yo H0 H) p N:=⟨h.la.yo u f,fun m hm=>⟨(h.bd m hm).1.yo u (nf m hm),(h.bd m hm).2⟩,h.nd⟩
theorem TL.yo {Hc:Hp} {Ts:List Tb} (h:TL Hc H p Ts) (fr:∀ a,Hc a=none->H0 a=none) (u:SameU H0 H):TL Hc (yo H0 H) p Ts:=by
 obtain ⟨qs,e1,e2,e3,e4,e5⟩:=h
 have fa:∀ a∈p :: qs.flatMap fun q=>q.1 :: q.2,H0 a=none:=fun a ha=>fr a (e4 a ha)
 refine ⟨qs,yo_of e1 (qfz9 (fa p (List.mem_cons_self ..))),e2,e3,e4,fun i q B a b=>?_⟩
 obtain ⟨f1,f2,f3⟩:=e5 i q B a b
 have fq:∀ c∈q.1 :: q.2,H0 c=none:=fun c hc=>fa c (List.mem_cons_of_mem _ (List.mem_flatMap.mpr ⟨q,List.mem_of_getElem? a,hc⟩))
 exact ⟨yo_of f1 (qfz9 (fq _ (List.mem_cons_self ..))),f2,fun j r C a' b'=>(f3 j r C a' b').yo u (fq r (List.mem_cons_of_mem _ (List.mem_of_getElem? a')))⟩
end
noncomputable def Ways (W c Mx:Nat):Prop:=(W<=6/\c=62/\Mx=8000)\/(W<=4/\c=25/\Mx=34000)
theorem few_fine {g s f Mg i c Mx W:Nat} (hw:Ways W c Mx) (h:g+s<=W) (hM:Mg<=Mx) (hi:i<=2) (hf:f<=W):bdF g s (Mg+4) i+f * (Mg+4+bdF g s (Mg+4) i)<=1800000:=by
 rcases hw with ⟨w,rfl,rfl⟩ | ⟨w,rfl,rfl⟩
 ·obtain ⟨a,b,c,_⟩:=bdF_le g s (Mg+4) (by omega)
  have k:bdF g s (Mg+4) i<=15 * (Mg+4):=by
   match i,hi with
   | 0,_=>exact a
   | 1,_=>exact b
   | 2,_=>exact c
  have:=Nat.mul_le_mul_right (Mg+4+bdF g s (Mg+4) i) (show f<=6 by omega)
  omega
 ·obtain ⟨a,b,c,_⟩:=bdF_le4 g s (Mg+4) (by omega)
  have k:bdF g s (Mg+4) i<=8 * (Mg+4):=by
   match i,hi with
   | 0,_=>exact a
   | 1,_=>exact b
   | 2,_=>exact c
  have:=Nat.mul_le_mul_right (Mg+4+bdF g s (Mg+4) i) (show f<=4 by omega)
  omega
theorem qkx9 {g s m i c Mx W:Nat} (hw:Ways W c Mx) (h:g+s<=W) (hi:i<=3):bdF g s m i<=c * m:=by
 rcases hw with ⟨w,rfl,rfl⟩ | ⟨w,rfl,rfl⟩
 ·obtain ⟨a,b,c,e⟩:=bdF_le g s m (by omega)
  match i,hi with
  | 0,_=>omega
  | 1,_=>omega
  | 2,_=>omega
  | 3,_=>exact e
 ·obtain ⟨a,b,c,e⟩:=bdF_le4 g s m (by omega)
  match i,hi with
  | 0,_=>omega
  | 1,_=>omega
  | 2,_=>omega
  | 3,_=>exact e
noncomputable abbrev lamA:Expr:=lamRet ((qag9 qan9).getD 1 (.Pass ⟨0,0,0,0⟩))
theorem sc_lamA (c1 c2:Addr) (ne:c1 ≠ c2):LamScope ["told","day","asks"] ["told"] (lamSc lamA) [("day",c1),("asks",c2)]:=⟨rfl,rfl,rfl,by decide,rfl,by decide +kernel,by decide +kernel,qof9 (by decide +kernel),qlj9 (Ne.symm ne)⟩
noncomputable def qkl9 (T:Hp->Prop):Sp:=fun vs H Q _=>∃ (d:Int) (n:Nat) (pr:Addr) (N:List RdT) (goal:Int) (pg:Addr) (G:Tb) (Mg:Nat),vs=[.int d,.int n,.ref pr,.int goal,.ref pg]/\NA H pr N/\BA H pg G/\T H/\0 < d/\NetOk d n N/\1<=n/\n<=1000/\G.length=n/\TOk d Mg G/\(∃ c Mx,Ways (wsN N).length c Mx/\Mg<=Mx)/\n<=4 /\
 ∀ (l:Addr) (A:List AskT) (Ts:List Tb) (H':Hp),SameU H H'->T H'->TL H H' l Ts->Ts.length=n->A.map dscA=wsN N->(∀ a∈A,BrOk d G a)->TsOkA d n goal A (Mg+4) stepA Ts->Q (.ref l) H'
section
variable {P:Program} {w:World} {K:W.Frag} {mg:Str->Option Value} {base:Heap} {f g:Addr} {fd gd:FuncData} {n:Nat} {T:Hp->Prop}
theorem ok_lamA {v1 v2:V} {fl c' c1 c2:Addr} {pm ctv:Value} (ne:c1 ≠ c2) (hTB:TB T) (FG:Fun K "grown" "grown" qcv9 g gd) (B:Bl mg) (Ce0:Callee P w K mg base (n+1) "staying" ["day","size","place"] qdw9) (Ca0:Callee P w K mg base (n+1) "copied_table" ["told"] qdy9) (Cs0:Callee P w K mg base n "ask_first" ["day","asks","told"] (spAsk T stepA))
  (hfl:base.get? fl=some (W.kla_obj "<lambda>" (lamQ "guarded_rounds") (qkp9 lamA) (qkh9 lamA) (lamSc lamA) [("day",c1),("asks",c2)] pm c' ctv)) (hca:qhl9 base (lamSc lamA) [("day",c1),("asks",c2)] ["told","day","asks"] ["told"] [v1,v2]) :
  FnOk P w K mg base CX0 (n+2) g gd ["day","size","place","step"] (qjx9 T stepA (lamQ "guarded_rounds") v1 v2 fl c'):=by
 refine ok_grownA (n:=n+1) rfl hTB FG B Ce0 Ca0 (lam_ok (k:=n) (N:=["told","day","asks"]) (cs:=[v1,v2]) hfl (fun vs H Q E h=>?_) (sc_lamA c1 c2 ne) hca (fun vs H Q E h=>?_) (fun A outer s H vs Q E hr h=>?_)) (Binds.all fun us hl=>match us,hl with | [_],_=>rfl) ⟨_,_,_,_,hfl⟩
 all_goals unfold spStepA at h
 all_goals split at h
 all_goals first | exact h.elim | skip
 ·exact h.1
 ·obtain ⟨_,_,rfl,_⟩:=h
  rfl
 ·obtain ⟨hc,pt,rfl,h⟩:=h
  refine ⟨_,pe_fn Cs0 hr rfl (pa_c (pv 1) (pa_c (pv 2) (pa_c (pv 0) pa_nil))),?_⟩
  exact ⟨_,rfl,_,rfl,_,rfl,h⟩
theorem qoh9 {c P0:Addr} {oc kV doc pm ct:Value} {od an:Option Addr} {osl:Array (Option Value)} (lk:K.lookup f=some ⟨oc,od,.func (W.fnOf "guarded_rounds" "guarded_rounds" (qah9 qan9) (qag9 qan9) (qaa9 qan9) .none kV doc pm an (.ref c) ct),osl⟩) (hcd:W.codeIn K (.ref c) "guarded_rounds" = true)
  (B:Bl mg) (hC:W.CodeHd base c P0) (hB:BMain mg base) (FG:Fun K "grown" "grown" qcv9 g gd) (bG:Binds K gd ["day","size","place","step"] []) (mG:mg "grown" = some (.ref g)) (hTB:TB T) (h1:∀ H,T H->TabOk H P0 ⟨229,34,229,73⟩ (lamQ "guarded_rounds")) (h2:∀ H H',T H->SameT P0 H H'->TabOk H' P0 ⟨229,34,229,73⟩ (lamQ "guarded_rounds")->T H')
  (Cn1:Callee P w K mg base (n+2) "guarded" ["day","roads","guard"] (qks9 T)) (Ce0:Callee P w K mg base (n+1) "staying" ["day","size","place"] qdw9) (Ca0:Callee P w K mg base (n+1) "copied_table" ["told"] qdy9) (Cs0:Callee P w K mg base n "ask_first" ["day","asks","told"] (spAsk T stepA)) :
  FnOk P w K mg base CX0 (n+3) f (W.fnOf "guarded_rounds" "guarded_rounds" (qah9 qan9) (qag9 qan9) (qaa9 qan9) .none kV doc pm an (.ref c) ct) ["day","size","roads","goal","guard"] (qkl9 T):=by
 refine fn_of lk hcd sc_guarded_rounds (fun vs H Q E h=>?_) (fun A outer s H vs Q E hr h=>?_)
 ·obtain ⟨_,_,_,_,_,_,_,_,rfl,_⟩:=h
  rfl
 obtain ⟨d,N,pr,Ns,goal,pg,G,Mg,rfl,hN,hG,hT,hd,nok,N1,N2,lG,tokG,⟨c,Mx,hw,M5⟩,n4,q⟩:=h
 have lW:(wsN Ns).length<=6:=by rcases hw with ⟨w,_⟩ | ⟨w,_⟩ <;> omega
 have Mx5:Mx<=34000:=by rcases hw with ⟨_,_,w⟩ | ⟨_,_,w⟩ <;> omega
 refine ⟨_,PSs.nox (QSs.run (qab9 (qak9 (i:=5) sc_guarded_rounds.nd rfl (Or.inr rfl) (qe_fn Cn1 hr rfl (qa_c (qv 0) (qa_c (qv 2) (qa_c (qv 4) qac9))))) (qae9 (qas9 ⟨qgt9 (N:=["told","day","asks"]) (ps:=["told"]) 0 5 hr rfl mG FG.kp bG rfl rfl hC hB rfl rfl rfl (Or.inr (Or.inl rfl)) rfl rfl rfl rfl rfl (Or.inr (Or.inl rfl)) rfl rfl rfl (fun z d e=>(qfw9 z d e).symm) rfl rfl rfl (pv 0) (pv 1) (pv 3) (fun base' fl c' v1 v2 pm ctv md hk hz hfl hca=>ok_lamA (Nat.ne_of_lt (Nat.lt_succ_self _)) hTB FG B (Ce0.widen md hk hz) (Ca0.widen md hk hz) (Cs0.widen md hk hz) hfl hca)⟩)))),?_⟩
 try dsimp only [cx_k,cx_kn,as_nil,as_name,Nat.reduceAdd]
 refine ⟨_,rfl,_,rfl,_,rfl,d,N,pr,Ns,pg,G,Mg,rfl,hN,hG,hT,hd,nok,lG,tokG,by omega,by omega,fun pA As H1 u1 t1 hA dA brA okA=>?_⟩
 refine ⟨_,_,rfl,rfl,_,rfl,_,rfl,_,rfl,h1 _ t1,fun fl c' H2 sm tb hc'=>?_⟩
 have u2:=SameU.tab sm (h1 _ t1) tb
 have u02:=u1.trans u2
 have lA:As.length=(wsN Ns).length:=by rw [<- dA,List.length_map]
 refine ⟨N,goal,As,Mg+4,rfl,hc',hA.u u2,h2 _ _ t1 sm tb,N1,N2,hd,okA,by omega,fun i hi=>few_fine hw (by rw [gs_len,lA]; exact Nat.le_refl _) M5 (by omega) (by rw [lA]; exact Nat.le_refl _),fun l Ts H3 u3 t3 L3 l3 ok3=>?_⟩
 exact q l As Ts H3 (u02.trans u3) t3 (L3.old u02) l3 dA brA ok3
end
noncomputable def L0 (d:Int) (n:Nat) (goal:Int) (N:List RdT) (C:Tb):Prop:=∃ (F:List RdT) (m:Nat) (Ts:List Tb),Fords d N F/\FOk d n m F/\TsOk d n goal F m stepT Ts/\Ts[n - 1]?=some C
noncomputable def mkF (c:Nat):Nat->Nat
 | 0=>c * 2
 | k+1=>c * (mkF c k+4)
theorem qnt9 {ι κ:Type} {st:ι->Int} {st':κ->Int} {val:ι->Option Int} {val':κ->Option Int} {p:Int}:∀ {A:List ι} {B:List κ} {o:Option Int},A.length=B.length->(∀ (i:Nat) a b,A[i]?=some a->B[i]?=some b->st a=st' b/\val a=val' b)->fo st val p A o=fo st' val' p B o
 | [],[],o,_,_=>rfl
 | [],b :: B,o,h,_=>by cases h
 | a :: A,[],o,h,_=>by cases h
 | a :: A,b :: B,o,h,hv=>by
  obtain ⟨e1,e2⟩:=hv 0 a b rfl rfl
  show fo st val p A (if st a=p then _ else _)=fo st' val' p B (if st' b=p then _ else _)
  rw [e1,e2]
  exact qnt9 (Nat.succ.inj h) fun i x y hx hy=>hv (i+1) x y hx hy
theorem qov9 {d:Int} (hd:0 < d):∀ {R:List T3},Ma.Wins d R->MuO d (Ma.bt d R) (R.length * 2)
 | [],_=>.inl fun t=>rfl
 | w :: R,W=>by
  have h1:=MuR.o (Ma.mur_one (Ma.ck_one hd (W w (List.mem_cons_self ..))))
  have h2:=qov9 hd (R:=R) fun x hx=>W x (List.mem_cons_of_mem _ hx)
  refine ((h1.min h2).le (by rw [List.length_cons]; omega)).congr fun t=>?_
  exact Ma.bt_append d [w] R t
theorem road_item {d:Int} {n:Nat} {N:List RdT} (hd:0 < d) (nok:NetOk d n N):∀ a∈N,Item d n (fun m:RdT=>m.2.1) (fun X m t=>Ma.obind (Ma.bt d m.2.2.2) (Ma.bt d (cl X m.2.1)) t) (fun m=>m.2.2.2.length) 2 a:=fun a ha=>by
 have W:=nok.wins ha
 refine ⟨(nok.all a ha).2.1,fun X Y h t=>?_,fun X ck t y e=>?_,fun X b hX=>?_,fun X e t=>?_⟩
 ·unfold Ma.obind
  cases Ma.bt d a.2.2.2 t with
  | none=>exact LeO.refl _
  | some x=>exact h x
 ·unfold Ma.obind at e
  cases ex:Ma.bt d a.2.2.2 t with
  | none=>rw [ex] at e; cases e
  | some x =>
   rw [ex] at e
   have n0:a.2.2.2 ≠ []:=fun z=>by rw [z] at ex; cases ex
   have T:=Ma.tells_bf (d:=d) n0
   have:=(Ma.board_rise hd W T).ge t
   rw [T t] at ex
   have:=Option.some.inj ex
   have:=qpa9 ck (show Ma.bt d (cl X a.2.1) x=some y from e)
   omega
 ·by_cases z:a.2.2.2=[]
  ·exact .inl fun t=>by unfold Ma.obind; rw [z]; rfl
  ·have lp:=List.length_pos_iff.mpr z
   refine (MuO.bind hd (qov9 hd W) hX).le ?_
   have:=Nat.mul_le_mul_right b (show 1<=a.2.2.2.length from lp)
   rw [Nat.mul_add]
   omega
 ·unfold Ma.obind
  have h:∀ x,Ma.bt d (cl X a.2.1) x=none:=fun x=>by rw [e]; rfl
  cases Ma.bt d a.2.2.2 t with
  | none=>rfl
  | some x=>exact h x
theorem ws_sum {N:List RdT}:(N.map fun m:RdT=>m.2.2.2.length).sum=(wsN N).length:=by
 induction N with
 | nil=>rfl
 | cons m N ih=>rw [List.map_cons,List.sum_cons,qee9,List.length_append,List.length_map,ih]
theorem L0.fine {d:Int} {n:Nat} {goal:Int} {N:List RdT} {C:Tb} {c Mx:Nat} (hd:0 < d) (nok:NetOk d n N) (hw:Ways (wsN N).length c Mx) (n4:n<=4) (n1:1<=n) (h:L0 d n goal N C):C.length=n/\TOk d (mkF c 0) C:=by
 obtain ⟨F,m,Ts,fo',fok,ok,hC⟩:=h
 have GR:Grow d n goal (fun m:RdT=>m.1) (fun m:RdT=>m.2.1) (fun X m t=>Ma.obind (Ma.bt d m.2.2.2) (Ma.bt d (cl X m.2.1)) t) N Ts:=by
  refine ⟨ok.first,fun i X hX q q0 q1=>((ok.each i X hX).2 _ (qfq9 q0 (by rw [(ok.each i X hX).1]; exact q1))).1,fun i X Y hX hY q q0 q1 t=>?_⟩
  rw [ok.grow i X Y hX hY q q0 q1 t]
  refine qnt9 fo'.1 fun i f x hf hx=>?_
  obtain ⟨e1,e2,_,_,e5⟩:=fo'.2 i x f hx hf
  refine ⟨e1,?_⟩
  unfold Ma.obind
  rw [e5,e2]
 refine ⟨(ok.each _ C hC).1,fun R hR=>?_⟩
 obtain ⟨j,hj⟩:=List.getElem?_of_mem hR
 have lj:=(List.getElem?_eq_some_iff.mp hj).1
 have hl:=(ok.each _ C hC).1
 have:=(GR.fine hd (road_item hd nok) (n - 1) C hC (j:Int) (by omega) (by omega)).2.1
 have ec:cl C (j:Int)=R:=by
  unfold cl
  rw [List.getD_eq_getElem?_getD,Int.toNat_natCast,hj]
  rfl
 rw [ec] at this
 refine this.le (qkx9 (m:=2) hw (by rw [wsum_two,ws_sum]; exact Nat.le_refl _) (by omega))
theorem hide_u {p:Addr} {H H':Hp} (s:SameU H H'):SameU (hide p H) (hide p H'):=by
 refine ⟨fun b o e nt=>?_,fun b o e=>?_⟩
 ·unfold hide at e ⊢
  by_cases c:b=p
  ·rw [if_pos c] at e
   cases e
  ·rw [if_neg c] at e ⊢
   exact s.1 b o e nt
 ·unfold hide at e ⊢
  by_cases c:b=p
  ·rw [if_pos c] at e
   cases e
  ·rw [if_neg c] at e ⊢
   exact s.2 b o e
theorem hide_wr {p:Addr} {H:Hp} {o:HO}:hide p (upd H p o)=hide p H:=funext fun b=>by
 unfold hide
 by_cases c:b=p
 ·rw [if_pos c,if_pos c]
 ·rw [if_neg c,if_neg c,qao9 c]
theorem LA.hide {H:Hp} {p b:Addr} {R:List T3} {zs:List V} (h:LA enc3 H b R) (hp:H p=some (.lst zs)) (nb:b ≠ p):LA enc3 (hide p H) b R:=by
 obtain ⟨rs,h1,h2,h3⟩:=h.ex
 refine ⟨rs,qdu9 h1 nb,h2,fun i r x e1 e2=>?_⟩
 have:=h3 i r x e1 e2
 exact qdu9 this fun z=>by rw [z,hp] at this; cases this
theorem BA.hide {H:Hp} {p q:Addr} {C:Tb} {zs:List V} (h:BA H q C) (hp:H p=some (.lst zs)) (nq:q ≠ p) (nr:∀ rs:List Addr,H q=some (.lst (rs.map V.ref))->p ∉ rs):BA (hide p H) q C:=by
 obtain ⟨rs,h1,h2,h3,h4,h5⟩:=h
 exact ⟨rs,qdu9 h1 nq,h2,h3,h4,fun i r B a b=>(h5 i r B a b).hide hp fun z=>nr rs h1 (z ▸ List.mem_of_getElem? a)⟩
noncomputable def LV (H:Hp) (p:Addr) (Cs:List Tb):Prop:=∃ qs:List Addr,H p=some (.lst (qs.map V.ref))/\qs.length=Cs.length/\∀ (i:Nat) q C,qs[i]?=some q->Cs[i]?=some C->BA H q C
theorem LV.u {H H':Hp} {p:Addr} {Cs:List Tb} (h:LV H p Cs) (s:SameU H H'):LV H' p Cs:=by
 obtain ⟨qs,h1,h2,h3⟩:=h
 exact ⟨qs,s.lst h1,h2,fun i q C a b=>(h3 i q C a b).u s⟩
theorem LV.last {H:Hp} {l:Addr} {Ts:List Tb} {n:Nat} {G:Tb} (h:LV H l Ts) (e:Ts.length=n) (n1:1<=n) (hG:Ts[n - 1]?=some G):∃ (xs:List V) (q:Addr),H l=some (.lst xs)/\atI xs (-1)=some (.ref q)/\BA H q G:=by
 obtain ⟨qs,h1,h2,h3⟩:=h
 have hq:=List.getElem?_eq_getElem (show n - 1 < qs.length by omega)
 refine ⟨_,qs[n - 1],h1,?_,h3 _ _ G hq hG⟩
 have:=qez9 (xs:=qs.map V.ref) (k:=1) (Nat.le_refl _) (by rw [List.length_map]; omega)
 rw [List.length_map,h2,e,List.getElem?_map,hq] at this
 exact this
theorem TL.lvh {H0 H H':Hp} {l p:Addr} {Ts:List Tb} {zs:List V} (h:TL H0 H l Ts) (s:SameU H H') (hp:H' p=some (.lst zs)) (c:H0 p ≠ none\/H p=none):LV (hide p H') l Ts:=by
 obtain ⟨qs,e1,e2,e3,e4,e5⟩:=h
 have ne:∀ a∈l :: qs.flatMap fun q=>q.1 :: q.2,a ≠ p:=fun a ha z=>by
  rcases c with c | c
  ·exact c (z ▸ e4 a ha)
  ·exact TL.live e1 e2 e5 a ha (z ▸ c)
 have mq:∀ (q:Addr × List Addr),q∈qs->∀ a∈q.1 :: q.2,a ≠ p:=fun q hq a ha=>ne a (List.mem_cons_of_mem _ (List.mem_flatMap.mpr ⟨q,hq,ha⟩))
 refine ⟨qs.map fun q=>q.1,qdu9 (by rw [List.map_map]; exact s.lst e1) (ne l (List.mem_cons_self ..)),by rw [List.length_map]; exact e2,fun i q C a b=>?_⟩
 rw [List.getElem?_map] at a
 obtain ⟨q',hq',rfl⟩:=Option.map_eq_some_iff.mp a
 have mm:=mq q' (List.mem_of_getElem? hq')
 obtain ⟨f1,f2,f3⟩:=e5 i q' C hq' b
 obtain ⟨qb,b1,b2,_⟩:=TL.at (H0:=H0) ⟨qs,e1,e2,e3,e4,e5⟩ e1 b
 rw [List.getElem?_map,hq'] at b1
 cases b1
 refine (b2.u s).hide hp (mm _ (List.mem_cons_self ..)) fun rs hr hm=>?_
 rw [s.lst f1] at hr
 have e:=qha9 (Option.some.inj hr)
 exact mm p (List.mem_cons_of_mem _ (e ▸ hm)) rfl
noncomputable def LRs (H:Hp) (p:Addr) (Tss:List (List Tb)):Prop:=∃ ls:List Addr,H p=some (.lst (ls.map V.ref))/\ls.length=Tss.length/\∀ (i:Nat) l Ts,ls[i]?=some l->Tss[i]?=some Ts->LV (hide p H) l Ts
theorem LRs.u {H H':Hp} {p:Addr} {Tss:List (List Tb)} (h:LRs H p Tss) (s:SameU H H'):LRs H' p Tss:=by
 obtain ⟨ls,h1,h2,h3⟩:=h
 exact ⟨ls,s.lst h1,h2,fun i l C a b=>(h3 i l C a b).u (hide_u s)⟩
theorem LRs.snoc {H:Hp} {p l:Addr} {Tss:List (List Tb)} {Ts:List Tb} {ls:List Addr} (h:LRs H p Tss) (hx:H p=some (.lst (ls.map V.ref))) (e1:LV (hide p H) l Ts):LRs (upd H p (.lst (ls.map V.ref ++ [.ref l]))) p (Tss ++ [Ts]):=by
 obtain ⟨ls',h1,h2,h3⟩:=h
 rw [hx] at h1
 have e:=qha9 (Option.some.inj h1)
 subst e
 refine ⟨ls ++ [l],by rw [qaf9,List.map_append]; rfl,by simp [h2],fun i l' C' a b=>?_⟩
 rw [hide_wr]
 rcases Nat.lt_or_ge i ls.length with c | c
 ·rw [List.getElem?_append_left c] at a
  rw [List.getElem?_append_left (by omega)] at b
  exact h3 i l' C' a b
 ·have li:=(List.getElem?_eq_some_iff.mp a).1
  rw [List.length_append,List.length_singleton] at li
  have:i=ls.length:=by omega
  subst this
  rw [List.getElem?_append_right (Nat.le_refl _),Nat.sub_self] at a
  rw [List.getElem?_append_right (by omega),show ls.length - Tss.length=0 by omega] at b
  cases a
  cases b
  exact e1
theorem LRs.at {H:Hp} {p:Addr} {Tss:List (List Tb)} {k:Nat} {Ts:List Tb} (h:LRs H p Tss) (g:Tss[k]?=some Ts):∃ (xs:List V) (l:Addr),H p=some (.lst xs)/\xs.length=Tss.length/\xs[k]?=some (.ref l)/\LV H l Ts:=by
 obtain ⟨ls,h1,h2,h3⟩:=h
 have hk:=(List.getElem?_eq_some_iff.mp g).1
 have hq:=List.getElem?_eq_getElem (show k < ls.length by omega)
 exact ⟨_,ls[k],h1,by rw [List.length_map]; exact h2,by rw [List.getElem?_map,hq]; rfl,(h3 k _ Ts hq g).u (SameU.of hide_to)⟩
structure LvR (d:Int) (n:Nat) (goal:Int) (N:List RdT) (Tss:List (List Tb)):Prop where
 len:∀ (k:Nat) Ts,Tss[k]?=some Ts->Ts.length=n/\∀ (i:Nat) A,Ts[i]?=some A->A.length=n/\∃ M,TOk d M A
 zero:∀ Ts,Tss[0]?=some Ts->∃ F m,Fords d N F/\FOk d n m F/\TsOk d n goal F m stepT Ts
 suc:∀ (k:Nat) Us Ts G,Tss[k]?=some Us->Tss[k+1]?=some Ts->Us[n - 1]?=some G->∃ A m,A.map dscA=wsN N/\(∀ a∈A,BrOk d G a)/\TsOkA d n goal A m stepA Ts
noncomputable def spTurn:Sp:=fun vs H Q _=>∃ k:Int,vs=[.int k]/\0<=k/\Q .non H
noncomputable def LvIn (T:Hp->Prop) (d:Int) (n:Nat) (pr:Addr) (N:List RdT) (goal:Int) (most m:Nat) (H:Hp):Prop:=NA H pr N/\T H/\0 < d/\NetOk d n N/\1<=n/\n<=1000/\N.length<=1000/\(∀ x∈N,4 * x.2.2.2.length+2<=m)/\Few N.length m n/\((wsN N).length<=6/\most<=2\/(wsN N).length<=4/\most<=3)/\n<=4/\0<=goal/\goal < (n:Int)
noncomputable def qkf9 (T:Hp->Prop):Sp:=fun vs H Q _=>∃ (d:Int) (n:Nat) (pr:Addr) (N:List RdT) (goal:Int) (most m:Nat),vs=[.int d,.int n,.ref pr,.int goal,.int most]/\LvIn T d n pr N goal most m H /\
 ∀ (l:Addr) (Tss:List (List Tb)) (H':Hp),SameU H H'->T H'->LRs (yo H H') l Tss->Tss.length=most+1->LvR d n goal N Tss->Q (.ref l) H'
section
variable {P:Program} {w:World} {K:W.Frag} {mg:Str->Option Value} {base:Heap} {f:Addr} {fd:FuncData} {n:Nat} {T:Hp->Prop}
theorem qjs9 (F:Fun K "need_turn" "need_turn" qcp9 f fd) (Cf0:Callee P w K mg base n "is_whole" ["thing"] qfe9):FnOk P w K mg base CX0 (n+1) f fd ["thing"] spTurn:=by
 refine F.okQ qiy9 (fun vs H Q E h=>?_) (fun cdv A outer s H vs Q E hr h=>?_)
 ·obtain ⟨_,rfl,_⟩:=h
  rfl
 obtain ⟨k,rfl,k0,q⟩:=h
 refine ⟨_,(qae9 (qs_if (QW.pt (qw_or (qfd9 (qcq9 (qe_fn Cf0 hr rfl (qa_c (qv 0) qac9)))) (qfr9 (qap9 qdv9 (qv 0) qad9 (qay9 _))))) (qae9 qgb9) qba9)),?_⟩
 try dsimp only [cx_k,cx_kn,as_nil,as_name,Nat.reduceAdd]
 refine ⟨_,rfl,.int k,rfl,.int _,_,rfl,iteF ?_⟩
 exact ⟨_,rfl,_,_,rfl,rfl,_,rfl,iteN (by simp; omega) q⟩
theorem qmm9 (hTB:TB T) (F:Fun K "level_rounds" "level_rounds" qbr9 f fd) (B:Bl mg) (Cj1:Callee P w K mg base n "need_net" ["day","size","roads"] qkm9) (Cb0:Callee P w K mg base n "need_place" ["size","thing"] qds9) (Cb1:Callee P w K mg base n "need_turn" ["thing"] spTurn) (Cc1:Callee P w K mg base n "rounds_to" ["day","size","roads","goal"] (qng9 T)) (Ct0:Callee P w K mg base n "guarded_rounds" ["day","size","roads","goal","guard"] (qkl9 T)):FnOk P w K mg base CX0 (n+1) f fd ["day","size","roads","goal","most"] (qkf9 T):=by
 refine F.okQ sc_level_rounds (fun vs H Q E h=>?_) (fun cdv A outer s H vs Q E hr h=>?_)
 ·obtain ⟨_,_,_,_,_,_,_,rfl,_⟩:=h
  rfl
 obtain ⟨d,N,pr,Ns,goal,most,m,rfl,⟨hN,hT,hd,nok,N1,N2,nl,lm,few,lW,n4,g0,g1⟩,q⟩:=h
 refine ⟨_,(qab9 (qbc9 (qe_fn Cj1 hr rfl (qa_c (qv 0) (qa_c (qv 1) (qa_c (qv 2) qac9))))) (qab9 (qbc9 (qe_fn Cb0 hr rfl (qa_c (qv 1) (qa_c (qv 3) qac9)))) (qab9 (qbc9 (qe_fn Cb1 hr rfl (qa_c (qv 4) qac9))) (qab9 (qak9 (i:=5) sc_level_rounds.nd rfl (Or.inl rfl) (qch9 (qa_c (qe_fn Cc1 hr rfl (qa_c (qv 0) (qa_c (qv 1) (qa_c (qv 2) (qa_c (qv 3) qac9))))) qac9))) (qab9 (qef9 PassesOwn.never (qap9 qjm9 (qe_cb qat9 rfl B.len qcj9 (qa_c (qv 5) qac9)) (qv 4) (qay9 _)) (qae9 (qbc9 (qbg9 (qv 5) (qa_c (qe_fn Ct0 hr rfl (qa_c (qv 0) (qa_c (qv 1) (qa_c (qv 2) (qa_c (qv 3) (qa_c (qe_ix qai9 (qe_ix qai9 (qv 5) (qec9 qad9) (fun _ _=>rfl)) (qec9 qad9) (fun _ _=>rfl)) qac9)))))) qac9))))) (qae9 (qas9 (qv 5)))))))),?_⟩
 try dsimp only [cx_k,cx_kn,as_nil,as_name,Nat.reduceAdd]
 obtain ⟨cc,Mx,hw,hmk,m100⟩:∃ c Mx,Ways (wsN Ns).length c Mx/\(∀ k,k+1<=most->mkF c k<=Mx)/\most<=3:=by
  rcases lW with ⟨a,b⟩ | ⟨a,b⟩
  ·refine ⟨62,8000,.inl ⟨a,rfl,rfl⟩,fun k hk=>?_,by omega⟩
   rcases (by omega:k=0\/k=1) with e | e <;> rw [e] <;> decide
  ·refine ⟨25,34000,.inr ⟨a,rfl,rfl⟩,fun k hk=>?_,b⟩
   rcases (by omega:k=0\/k=1\/k=2) with e | e | e <;> rw [e] <;> decide
 refine ⟨_,rfl,_,rfl,_,rfl,d,N,pr,Ns,rfl,hN,nl,nok,by omega,fun H1 s1=>?_⟩
 refine ⟨_,rfl,_,rfl,N,goal,rfl,g0,g1,?_⟩
 refine ⟨_,rfl,(most:Int),rfl,by omega,?_⟩
 refine ⟨_,rfl,_,rfl,_,rfl,_,rfl,d,N,pr,Ns,goal,m,rfl,hN.same s1,hTB.same _ _ hT s1,hd,nok,N1,N2,nl,lm,few,g0,g1,fun l0 Fs Ts H2 u2 t2 fo L2' l2 ok2=>?_⟩
 refine ⟨(by show 1<=sizeLine; decide),fun pf hpf=>?_⟩
 have fpf:H pf=none:=s1.free (u2.free hpf)
 have hC:Ts[N - 1]?=some (Ts[N - 1]'(by omega)):=List.getElem?_eq_getElem (by omega)
 generalize Ts[N - 1]'(by omega)=C at hC
 have s23:=qal9 hpf (.lst [.ref l0])
 have U2:SameU H H2:=(SameU.of s1).trans u2
 have LR3:LRs (yo H (upd H2 pf (.lst [.ref l0]))) pf [Ts]:=by
  refine ⟨[l0],yo_of qaf9 (qfz9 fpf),rfl,fun i l Ts' a b=>?_⟩
  match i,a,b with
  | 0,a,b =>
   cases a
   cases b
   exact (L2'.yo (fun a e=>s1.free e) U2).lvh (yo_u (SameU.of s23)) (yo_of qaf9 (qfz9 fpf)) (.inr (yo_none hpf))
  | k+1,a,b=>simp at a
 have ok3:LvR d N goal Ns [Ts]/\∀ (k:Nat) Ts' C',[Ts][k]?=some Ts'->Ts'[N - 1]?=some C'->C'.length=N/\TOk d (mkF cc k) C':=⟨⟨fun k Ts' e=>by
  match k,e with
  | 0,e =>
   cases e
   exact ⟨l2,fun i A hA=>⟨(ok2.each i A hA).1,_,(ok2.each i A hA).2⟩⟩
  | k+1,e=>simp at e,fun Ts' e=>by cases e; exact ⟨Fs,m,fo,fo.ok nok lm,ok2⟩,fun k _ _ _ _ e=>by simp at e⟩,fun k Ts' C' e e'=>by
  match k,e with
  | 0,e =>
   cases e
   exact L0.fine hd nok hw n4 N1 ⟨Fs,m,Ts,fo,fo.ok nok lm,ok2,e'⟩
  | k+1,e=>simp at e⟩
 have u3:SameU H (upd H2 pf (.lst [.ref l0])):=(SameU.of s1).trans (u2.trans (SameU.of s23))
 have t3:=hTB.same _ _ t2 s23
 generalize upd H2 pf (.lst [.ref l0])=H3 at *
 refine qed9 (fun σ H'=>σ=[some (.int d),some (.int N),some (.ref pr),some (.int goal),some (.int most),some (.ref pf)]/\SameU H H'/\T H'/\∃ Cs:List (List Tb),LRs (yo H H') pf Cs/\1<=Cs.length/\Cs.length<=most+1/\LvR d N goal Ns Cs/\∀ (k:Nat) Ts' C',Cs[k]?=some Ts'->Ts'[N - 1]?=some C'->C'.length=N/\TOk d (mkF cc k) C')
  (fun _ H'=>match H' pf with | some (.lst xs)=>most+1 - xs.length | _=>0) ⟨rfl,u3,t3,[Ts],LR3,Nat.le_refl _,by simp,ok3⟩ ?_ ?_
 ·intro σ H4 z9;obtain ⟨rfl,u4,t4,Cs,R4,c1,c2,ok4,bd4⟩ := z9
  obtain ⟨ls,r1y,r2,r3⟩:=id R4
  have r1:=yo_to _ _ r1y
  refine ⟨_,rfl,pf,_,rfl,.inl (SqL.of r1),_,rfl,_,_,rfl,rfl,_,rfl,ite2 (fun c=>?_) (fun c=>?_)⟩
  ·have c':(((ls.map V.ref).length:Nat):Int)<=(most:Int):=of_decide_eq_true c
   rw [List.length_map] at c'
   have hU:=List.getElem?_eq_getElem (show Cs.length - 1 < Cs.length by omega)
   have hl:=List.getElem?_eq_getElem (show Cs.length - 1 < ls.length by omega)
   generalize Cs[Cs.length - 1]=Us at hU
   generalize ls[Cs.length - 1]=lg at hl
   have lU:=(ok4.len _ Us hU).1
   have hG:=List.getElem?_eq_getElem (show N - 1 < Us.length by omega)
   generalize Us[N - 1]=G at hG
   obtain ⟨xg,qg,g1',g2',g3'⟩:=(r3 _ lg Us hl hU).last lU N1 hG
   have b1:atI (ls.map V.ref) (-1)=some (.ref lg):=by
    have:=qez9 (xs:=ls.map V.ref) (k:=1) (Nat.le_refl _) (by rw [List.length_map]; omega)
    rw [List.length_map,r2,List.getElem?_map,hl] at this
    exact this
   have hG4:BA H4 qg G:=g3'.u (SameU.of (hide_to.trans yo_to))
   have hx4:H4 lg=some (.lst xg):=yo_to _ _ (hide_to _ _ g1')
   obtain ⟨lG,tokG⟩:=bd4 _ Us G hU hG
   have mg1:mkF cc (Cs.length - 1)<=Mx:=hmk _ (by omega)
   refine ⟨_,rfl,.inl ⟨rfl,_,SqL.of r1⟩,_,rfl,_,rfl,_,rfl,_,rfl,_,rfl,_,rfl,pf,_,_,_,rfl,rfl,SqL.of r1,b1,_,rfl,lg,_,_,_,rfl,rfl,SqL.of hx4,g2',d,N,pr,Ns,goal,qg,G,_,rfl,hN.u u4,hG4,t4,hd,nok,N1,N2,lG,tokG,⟨cc,Mx,hw,mg1⟩,n4,fun l5 As Ts5 H5 u5 t5 L5 l5' dA brA ok5=>?_⟩
   have R6:=(R4.u (yo_u u5)).snoc ((yo_u u5).lst r1y) ((L5.yo (fun a e=>u4.free e) (u4.trans u5)).lvh (SameU.refl _) ((yo_u u5).lst r1y) (.inl (by rw [r1]; exact fun z=>by cases z)))
   rw [<- yo_upd (qfz9 fpf)] at R6
   have lA:As.length=(wsN Ns).length:=by rw [<- dA,List.length_map]
   have at6:∀ (k:Nat) Ts',(Cs ++ [Ts5])[k]?=some Ts'->(k < Cs.length/\Cs[k]?=some Ts')\/(k=Cs.length - 1+1/\Ts'=Ts5):=fun k Ts' e=>by
    rcases Nat.lt_or_ge k Cs.length with z | z
    ·rw [List.getElem?_append_left z] at e
     exact .inl ⟨z,e⟩
    ·have lk:=(List.getElem?_eq_some_iff.mp e).1
     rw [List.length_append,List.length_singleton] at lk
     rw [List.getElem?_append_right (by omega),show k - Cs.length=0 by omega] at e
     cases e
     exact .inr ⟨by omega,rfl⟩
   refine ⟨pf,_,.ref l5,rfl,rfl,u5.lst r1,qbj9 (by rw [List.length_map]; omega),⟨rfl,SameU.wr fpf (u4.trans u5),hTB.wr _ _ _ _ t5 (u5.lst r1),Cs ++ [Ts5],R6,by simp,by simp; omega,⟨fun k Ts' e=>?_,fun Ts' e=>?_,fun k Us' Ts' G' e e' eG=>?_⟩,fun k Ts' C' e e'=>?_⟩,?_⟩
   ·rcases at6 k Ts' e with ⟨_,z⟩ | ⟨_,rfl⟩
    ·exact ok4.len k Ts' z
    ·exact ⟨l5',fun i A hA=>⟨(ok5.each i A hA).1,_,(ok5.each i A hA).2⟩⟩
   ·rcases at6 0 Ts' e with ⟨_,z⟩ | ⟨z,_⟩
    ·exact ok4.zero Ts' z
    ·omega
   ·rcases at6 (k+1) Ts' e' with ⟨z0,z⟩ | ⟨z,rfl⟩
    ·rcases at6 k Us' e with ⟨_,y⟩ | ⟨y,_⟩
     ·exact ok4.suc k Us' Ts' G' y z eG
     ·omega
    ·rcases at6 k Us' e with ⟨_,y⟩ | ⟨y,_⟩
     ·have ek:k=Cs.length - 1:=by omega
      rw [ek,hU] at y
      cases y
      rw [hG] at eG
      cases eG
      exact ⟨As,_,dA,brA,ok5⟩
     ·omega
   ·rcases at6 k Ts' e with ⟨_,z⟩ | ⟨ek,rfl⟩
    ·exact bd4 k Ts' C' z e'
    ·have:=ok5.each _ _ e'
     rw [ek]
     exact ⟨this.1,this.2.le (qkx9 (m:=mkF cc (Cs.length - 1)+4) hw (by rw [gs_len,lA]; exact Nat.le_refl _) (by omega))⟩
   ·rw [qaf9,r1]
    show most+1 - (ls.map V.ref ++ [V.ref l5]).length < most+1 - (ls.map V.ref).length
    rw [List.length_append,List.length_singleton,List.length_map]
    omega
  ·have c':¬ (((ls.map V.ref).length:Nat):Int)<=(most:Int):=fun z=>c (decide_eq_true z)
   rw [List.length_map] at c'
   exact ⟨_,rfl,q pf Cs H4 u4 t4 R4 (by omega) ok4⟩
 ·intro σ H' Q1 Q2 hq z9;obtain ⟨v,e1,p1,ys,e2,e3,v2,e4,i,j,e5,e6,k,e7,q1⟩ := z9
  exact ⟨v,e1,p1,ys,e2,e3,v2,e4,i,j,e5,e6,k,e7,hq _ _ q1⟩
end
noncomputable def WinOk (d:Int) (w:T3):Prop:=0<=w.1/\w.1<=w.2.1/\w.2.1 < d/\1<=w.2.2
noncomputable def spWay:Sp:=fun vs H Q _=>∃ d cell:Int,vs=[.int d,.int cell]/\1<=d/\d<=1000000000000000/\∀ (r:Addr) (x:T3) (H':Hp),Same H H'->H' r=some (.tup (enc3 x))->WinOk d x->Q (.ref r) H'
theorem menu4w {a b c j:Int} (ha:1<=a) (hb:1<=b) (hc:1<=c) (h0:0<=j) (h1:j < 4):∃ v:Int,atI [V.int 3,V.int a,V.int b,V.int c] j=some (.int v)/\1<=v:=by
 rcases (by omega:j=0\/j=1\/j=2\/j=3) with rfl | rfl | rfl | rfl
 ·exact ⟨3,rfl,by decide⟩
 ·exact ⟨a,rfl,ha⟩
 ·exact ⟨b,rfl,hb⟩
 ·exact ⟨c,rfl,hc⟩
section
variable {P:Program} {w:World} {K:W.Frag} {mg:Str->Option Value} {base:Heap} {f:Addr} {fd:FuncData} {n:Nat}
theorem ok_way (F:Fun K "_law_way" "_law_way" qda9 f fd):FnOk P w K mg base CX0 (n+1) f fd ["day","cell"] spWay:=by
 refine F.okQ sc__law_way (fun vs H Q E h=>?_) (fun cdv A outer s H vs Q E hr h=>?_)
 ·obtain ⟨_,_,rfl,_⟩:=h
  rfl
 obtain ⟨d,cell,rfl,d1,d2,q⟩:=h
 refine ⟨_,(qab9 (qak9 (i:=2) sc__law_way.nd rfl (Or.inl rfl) (qe_op qbf9 (qe_op qgu9 (qv 1) qad9) qad9)) (qab9 (qak9 (i:=3) sc__law_way.nd rfl (Or.inl rfl) (qe_op qbf9 (qe_op qgu9 (qv 1) qad9) qad9)) (qab9 (qak9 (i:=4) sc__law_way.nd rfl (Or.inl rfl) (qe_op qbf9 (qv 1) (qv 0))) (qab9 (qak9 (i:=5) sc__law_way.nd rfl (Or.inl rfl) (qv 4)) (qev9 (qs_if (qap9 qdn9 (qe_op qbf9 (qv 2) qad9) qad9 (qay9 _)) (qab9 (qak9 (i:=4) sc__law_way.nd rfl (Or.inl rfl) qad9) (qae9 (qak9 (i:=5) sc__law_way.nd rfl (Or.inl rfl) (qe_op qdi9 (qv 0) qad9)))) qba9) (qev9 (qs_if (qap9 qfs9 (qe_op qbf9 (qv 2) qad9) qad9 (qay9 _)) (qae9 (qak9 (i:=5) sc__law_way.nd rfl (Or.inl rfl) (qe_op qaw9 (qv 4) (qe_op qbf9 (qe_op qbh9 (qv 2) qad9) (qe_op qdi9 (qv 0) (qv 4)))))) qba9) (qab9 (qak9 (i:=6) sc__law_way.nd rfl (Or.inl rfl) (qe_ix qai9 (qch9 (qa_c qad9 (qa_c (qe_op qaw9 qad9 (qe_op qbh9 (qv 0) qad9)) (qa_c (qe_op qaw9 (qv 0) qad9) (qa_c (qe_op qhz9 qad9 qad9) qac9))))) (qe_op qbf9 (qv 3) qad9) (fun _ _=>rfl))) (qae9 (qas9 (qci9 (qa_c (qv 4) (qa_c (qv 5) (qa_c (qe_op qaw9 qad9 (qe_op qbf9 (qe_op qgu9 (qe_op qbh9 (qv 3) qad9) qad9) (qv 6))) qac9))))))))))))),?_⟩
 try dsimp only [cx_k,cx_kn,as_nil,as_name,Nat.reduceAdd]
 have hd:0 < d:=by omega
 refine ⟨_,rfl,_,_,rfl,rfl,.inr ⟨by decide,by decide⟩,_,_,rfl,rfl,(by show (0:Int) < 2147483647; decide),?_⟩
 refine ⟨_,rfl,_,_,rfl,rfl,.inr ⟨by decide,by decide⟩,_,_,rfl,rfl,(by show (0:Int) < 2147483629; decide),?_⟩
 dsimp only
 generalize cell * 1103515245 % 2147483647=y
 generalize cell * 1664525013 % 2147483629=z
 refine ⟨_,rfl,_,rfl,_,_,rfl,rfl,hd,?_⟩
 refine ⟨_,rfl,?_⟩
 have e0:=qfp9 cell hd
 refine ⟨fun σ' H'=>H'=H/\∃ a b:Int,σ'=[some (.int d),some (.int cell),some (.int y),some (.int z),some (.int a),some (.int b),none]/\0<=a/\a<=b/\b < d,?_,?_⟩
 ·refine ⟨_,rfl,_,_,rfl,rfl,(by show (0:Int) < 4; decide),rfl,_,rfl,ite2 (fun _=>?_) (fun _=>⟨rfl,_,_,rfl,e0.1,Int.le_refl _,e0.2⟩)⟩
  exact ⟨_,rfl,_,_,rfl,rfl,rfl,0,d - 1,rfl,Int.le_refl _,by omega,by omega⟩
 intro σ' H1 z9;obtain ⟨rfl,a,b,rfl,a0,ab,bd⟩ := z9
 refine ⟨fun σ' H'=>H'=H1/\∃ b:Int,σ'=[some (.int d),some (.int cell),some (.int y),some (.int z),some (.int a),some (.int b),none]/\a<=b/\b < d,?_,?_⟩
 ·refine ⟨_,rfl,_,_,rfl,rfl,(by show (0:Int) < 4; decide),_,_,rfl,rfl,_,rfl,ite2 (fun _=>?_) (fun _=>⟨rfl,b,rfl,ab,bd⟩)⟩
  have pa:0 < d - a:=by omega
  have em:=qfp9 (y / 4) pa
  exact ⟨_,rfl,_,rfl,_,_,rfl,rfl,⟨by decide,by decide⟩,_,rfl,_,rfl,_,_,rfl,rfl,_,_,rfl,rfl,pa,_,_,rfl,rfl,rfl,_,rfl,by omega,by omega⟩
 intro σ' H2 z9;obtain ⟨rfl,b',rfl,ab',bd'⟩ := z9
 refine ⟨_,rfl,_,_,rfl,rfl,⟨by decide,by decide⟩,_,_,rfl,rfl,_,rfl,_,_,rfl,rfl,_,_,rfl,rfl,⟨by decide,by decide,by decide⟩,(by show 4<=sizeLine; decide),fun p hp=>?_⟩
 have h2:1<=1+d / 2:=by
  have:=Int.ediv_nonneg (show 0<=d by omega) (show (0:Int)<=2 by decide)
  omega
 obtain ⟨v,hv,v1⟩:=menu4w (a:=1+d / 2) (b:=d+1) (c:=(10:Int) ^ (15:Int).toNat) (j:=z % 4) h2 (by omega) (by rw [pow15]; decide) (Int.emod_nonneg _ (by decide)) (Int.emod_lt_of_pos _ (by decide))
 generalize hgH3:upd _ p _=H3
 obtain ⟨s3,e3⟩:=qaq9 hp hgH3
 clear hgH3
 refine ⟨_,rfl,_,_,rfl,rfl,(by show (0:Int) < 4; decide),p,_,_,.int v,rfl,rfl,SqL.of e3,hv,?_⟩
 have em:=qfp9 (z / 4 * 1000003) (show 0 < v by omega)
 refine ⟨_,rfl,_,rfl,_,rfl,_,_,rfl,rfl,⟨by decide,by decide⟩,_,_,rfl,rfl,.inr ⟨by decide,by decide⟩,_,rfl,_,_,rfl,rfl,(by omega),_,_,rfl,rfl,(by show 3<=sizeLine; decide),fun rr hrr=>?_⟩
 generalize hgH4:upd _ rr _=H4
 obtain ⟨s4,e4⟩:=qaq9 hrr hgH4
 clear hgH4
 exact q rr (a,b',1+z / 4 * 1000003 % v) H4 (s3.trans s4) e4 ⟨a0,ab',bd',by show 1<=1+z / 4 * 1000003 % v; omega⟩
end
section
variable {H H':Hp} {p r b:Addr} {N:List RdT} {us:List V}
theorem NA.atG {i:Nat} {m:RdT} (h:NA H p N) (g:N[i]?=some m):∃ (ws:List V) (r:Addr),H p=some (.lst ws)/\ws.length=N.length/\atI ws (i:Int)=some (.ref r)/\H r=some (.tup [.int m.1,.int m.2.1,.ref m.2.2.1]):=by
 obtain ⟨ws,hw1,hw2,hw3⟩:=h.la.lst
 rw [List.length_map] at hw2
 have hi:=(List.getElem?_eq_some_iff.mp g).1
 obtain ⟨r,x',y,ex,er⟩:=hw3 i _ (List.getElem?_eq_getElem (by omega))
 rw [List.getElem?_map,g] at ex
 cases ex
 exact ⟨ws,r,hw1,hw2,by rw [<- y]; exact qeu9 (List.getElem?_eq_getElem (by omega)),er⟩
theorem qki9 {α β:Type} {f:α->β} {N:List α} {i:Nat} {m m':α} (g:N[i]?=some m) (e:f m'=f m):(N.set i m').map f=N.map f:=by
 refine List.ext_getElem? fun j=>?_
 rw [List.getElem?_map,List.getElem?_map,List.getElem?_set]
 have hi:=(List.getElem?_eq_some_iff.mp g).1
 by_cases c:i=j
 ·subst c
  rw [if_pos rfl,if_pos hi,g]
  exact congrArg some e
 ·rw [if_neg c]
theorem NA.pushAt {i:Nat} {m:RdT} {x:T3} (h:NA H p N) (g:N[i]?=some m) (hb:H m.2.2.1=some (.lst us)) (hr:H r=some (.tup (enc3 x))):NA (upd H m.2.2.1 (.lst (us ++ [.ref r]))) p (N.set i (m.1,m.2.1,m.2.2.1,m.2.2.2 ++ [x])):=by
 have hm:=List.mem_of_getElem? g
 have hl:=h.bd m hm
 refine ⟨?_,fun m2 hm2=>?_,?_⟩
 ·rw [qki9 (f:=keyN) (m':=(m.1,m.2.1,m.2.2.1,m.2.2.2 ++ [x])) g rfl]
  exact qbw9 (ys:=us ++ [.ref r]) h.la hb (Ne.symm hl.2)
 ·obtain ⟨j,hj⟩:=List.getElem?_of_mem hm2
  rw [List.getElem?_set] at hj
  by_cases c:i=j
  ·subst c
   rw [if_pos rfl,if_pos (List.getElem?_eq_some_iff.mp g).1] at hj
   cases hj
   exact ⟨hl.1.append (x:=x) hb hr,hl.2⟩
  ·rw [if_neg c] at hj
   obtain ⟨h1,h2⟩:=h.bd m2 (List.mem_of_getElem? hj)
   refine ⟨qbw9 h1 hb fun z=>c ?_,h2⟩
   have e1:(N.map fun m=>m.2.2.1)[i]?=some m.2.2.1:=by rw [List.getElem?_map,g]; rfl
   have e2:(N.map fun m=>m.2.2.1)[j]?=some m.2.2.1:=by rw [List.getElem?_map,hj,<- z]; rfl
   have li:=(List.getElem?_eq_some_iff.mp e1).1
   exact (List.getElem?_inj li h.nd).mp (e1.trans e2.symm)
 ·rw [qki9 (f:=fun m:RdT=>m.2.2.1) (m':=(m.1,m.2.1,m.2.2.1,m.2.2.2 ++ [x])) g rfl]
  exact h.nd
theorem NA.rot {k:Nat} {xs:List V} (h:NA H p N) (s:Same H H') (hx:H p=some (.lst xs)) (hr:H r=none) (e:H' r=some (.lst (xs.drop k ++ xs.take k))):NA H' r (N.drop k ++ N.take k):=by
 have sub:∀ m∈N.drop k ++ N.take k,m∈N:=fun m hm=>(List.mem_append.mp hm).elim List.mem_of_mem_drop List.mem_of_mem_take
 obtain ⟨ws,w1,w2,w3⟩:=h.la.lst
 rw [hx] at w1
 cases w1
 rw [List.length_map] at w2
 refine ⟨LA.of e (by simp [w2]) fun i y hy=>?_,fun m hm=>?_,?_⟩
 ·have hle:(xs.drop k).length=(N.drop k).length:=by simp [w2]
  rcases Nat.lt_or_ge i (xs.drop k).length with c | c
  ·rw [List.getElem?_append_left c,List.getElem?_drop] at hy
   obtain ⟨r',x,e1,e2,e3⟩:=w3 _ y hy
   refine ⟨r',e1,fun x' hx'=>?_⟩
   rw [List.map_append,List.getElem?_append_left (by rw [List.length_map]; omega),List.map_drop,List.getElem?_drop,e2] at hx'
   cases hx'
   exact s _ _ e3
  ·rw [List.getElem?_append_right c,List.getElem?_take] at hy
   by_cases z:i - (xs.drop k).length < k
   ·rw [if_pos z] at hy
    obtain ⟨r',x,e1,e2,e3⟩:=w3 _ y hy
    refine ⟨r',e1,fun x' hx'=>?_⟩
    rw [List.map_append,List.getElem?_append_right (by rw [List.length_map]; omega),List.length_map,<- hle,List.map_take,List.getElem?_take,if_pos z,e2] at hx'
    cases hx'
    exact s _ _ e3
   ·rw [if_neg z] at hy
    cases hy
 ·obtain ⟨h1,_⟩:=h.bd m (sub m hm)
  refine ⟨h1.same s,fun z=>?_⟩
  obtain ⟨vs,v1,_⟩:=h1.lst
  rw [z,hr] at v1
  cases v1
 ·have nd:=h.nd
  rw [<- List.take_append_drop k N,List.map_append] at nd
  obtain ⟨n1,n2,n3⟩:=List.nodup_append.mp nd
  rw [List.map_append]
  exact List.nodup_append.mpr ⟨n2,n1,fun x hx y hy z=>n3 y hy x hx z.symm⟩
end
theorem ws_rot {N:List RdT} (k:Nat):(wsN (N.drop k ++ N.take k)).length=(wsN N).length:=by
 have e:=congrArg List.length (congrArg wsN (List.take_append_drop k N))
 rw [qky9,List.length_append] at e
 rw [qky9,List.length_append]
 omega
theorem ws_push:∀ {N:List RdT} {i:Nat} {m:RdT} {x:T3},N[i]?=some m->(wsN (N.set i (m.1,m.2.1,m.2.2.1,m.2.2.2 ++ [x]))).length=(wsN N).length+1
 | [],i,m,x,h=>by simp at h
 | y :: N,0,m,x,h=>by
  cases h
  show (wsN ((y.1,y.2.1,y.2.2.1,y.2.2.2 ++ [x]) :: N)).length=_
  rw [qee9,qee9,List.length_append,List.length_append,List.length_map,List.length_map,List.length_append,List.length_singleton]
  omega
 | y :: N,i+1,m,x,h=>by
  show (wsN (y :: N.set i _)).length=_
  rw [qee9,qee9,List.length_append,List.length_append,ws_push (N:=N) (i:=i) h]
  omega
theorem ws_nil:∀ {N:List RdT},(∀ m∈N,m.2.2.2=[])->(wsN N).length=0
 | [],_=>rfl
 | y :: N,h=>by
  rw [qee9,List.length_append,List.length_map,h y (List.mem_cons_self ..),ws_nil fun m hm=>h m (List.mem_cons_of_mem _ hm)]
  rfl
theorem qja9 {N:List RdT} {m:RdT} (hm:m∈N):m.2.2.2.length<=(wsN N).length:=by
 obtain ⟨a,b,rfl⟩:=List.append_of_mem hm
 rw [qky9,qee9,List.length_append,List.length_append,List.length_map]
 omega
structure GNet (d:Int) (n:Nat) (N:List RdT):Prop where
 rng:∀ m∈N,(0<=m.1/\m.1 < (n:Int))/\(0<=m.2.1/\m.2.1 < (n:Int))/\∀ w∈m.2.2.2,WinOk d w
 len:N.length<=5
 ws:(wsN N).length<=6
theorem GNet.ok {d:Int} {n:Nat} {N:List RdT} (h:GNet d n N):NetOk d n N:=⟨fun m hm=>⟨(h.rng m hm).1,(h.rng m hm).2.1,by have:=qja9 hm; have:=h.ws; omega,(h.rng m hm).2.2⟩⟩
noncomputable def spNetG (K:W.Frag):Sp:=fun vs H Q _=>∃ (a:Addr) (ns:List Int) (st:Int),vs=[.ref a,.int st]/\SqL K H a (ns.map V.int)/\0<=st /\
 ∀ (r l:Addr) (d:Int) (n:Nat) (goal:Int) (N:List RdT) (H':Hp),Same H H'->H' r=some (.tup [.int d,.int n,.ref l,.int goal])->NA H' l N->1<=d->d<=1000000000000000->1<=n->n<=4->0<=goal->goal < (n:Int)->GNet d n N->NFr H N->Q (.ref r) H'
theorem menu8s {a b c d e f g h j:Int} {ok:Int->Prop} (ha:ok a) (hb:ok b) (hc:ok c) (hd:ok d) (he:ok e) (hf:ok f) (hg:ok g) (hh:ok h) (h0:0<=j) (h1:j < 8):∃ v:Int,atI [V.int a,V.int b,V.int c,V.int d,V.int e,V.int f,V.int g,V.int h] j=some (.int v)/\ok v:=by
 rcases (by omega:j=0\/j=1\/j=2\/j=3\/j=4\/j=5\/j=6\/j=7) with rfl | rfl | rfl | rfl | rfl | rfl | rfl | rfl
 ·exact ⟨a,rfl,ha⟩
 ·exact ⟨b,rfl,hb⟩
 ·exact ⟨c,rfl,hc⟩
 ·exact ⟨d,rfl,hd⟩
 ·exact ⟨e,rfl,he⟩
 ·exact ⟨f,rfl,hf⟩
 ·exact ⟨g,rfl,hg⟩
 ·exact ⟨h,rfl,hh⟩
theorem menu6s {a b c d e f j:Int} {ok:Int->Prop} (ha:ok a) (hb:ok b) (hc:ok c) (hd:ok d) (he:ok e) (hf:ok f) (h0:0<=j) (h1:j < 6):∃ v:Int,atI [V.int a,V.int b,V.int c,V.int d,V.int e,V.int f] j=some (.int v)/\ok v:=by
 rcases (by omega:j=0\/j=1\/j=2\/j=3\/j=4\/j=5) with rfl | rfl | rfl | rfl | rfl | rfl
 ·exact ⟨a,rfl,ha⟩
 ·exact ⟨b,rfl,hb⟩
 ·exact ⟨c,rfl,hc⟩
 ·exact ⟨d,rfl,hd⟩
 ·exact ⟨e,rfl,he⟩
 ·exact ⟨f,rfl,hf⟩
section
variable {P:Program} {w:World} {K:W.Frag} {mg:Str->Option Value} {base:Heap} {f:Addr} {fd:FuncData} {n:Nat}
theorem ok_netG (F:Fun K "_law_net" "_law_net" qdg9 f fd) (B:Bl mg) (Cg0:Callee P w K mg base n "_law_cell_at" ["script","k"] (spCell K)) (Cf2:Callee P w K mg base n "_law_day" ["cell"] spDay) (Cg2:Callee P w K mg base n "_law_way" ["day","cell"] spWay):FnOk P w K mg base CX0 (n+1) f fd ["script","start"] (spNetG K):=by
 refine F.okQ sc__law_net (fun vs H Q E h=>?_) (fun cdv A outer s H vs Q E hr h=>?_)
 ·obtain ⟨_,_,_,rfl,_⟩:=h
  rfl
 obtain ⟨a,ns,st,rfl,hS,st0,q⟩:=h
 refine ⟨_,(qab9 (qak9 (i:=2) sc__law_net.nd rfl (Or.inl rfl) (qe_fn Cg0 hr rfl (qa_c (qv 0) (qa_c (qv 1) qac9)))) (qab9 (qak9 (i:=3) sc__law_net.nd rfl (Or.inl rfl) (qe_op qbf9 (qe_op qgu9 (qv 2) qad9) qad9)) (qab9 (qak9 (i:=4) sc__law_net.nd rfl (Or.inl rfl) (qe_fn Cf2 hr rfl (qa_c (qe_fn Cg0 hr rfl (qa_c (qv 0) (qa_c (qe_op qaw9 (qv 1) qad9) qac9))) qac9))) (qab9 (qak9 (i:=5) sc__law_net.nd rfl (Or.inl rfl) (qe_ix qai9 (qch9 (qa_c qad9 (qa_c qad9 (qa_c qad9 (qa_c qad9 (qa_c qad9 (qa_c qad9 (qa_c qad9 (qa_c qad9 qac9))))))))) (qe_op qbf9 (qv 2) qad9) (fun _ _=>rfl))) (qab9 (qak9 (i:=6) sc__law_net.nd rfl (Or.inl rfl) (qe_ix qai9 (qch9 (qa_c qad9 (qa_c qad9 (qa_c qad9 (qa_c qad9 (qa_c qad9 (qa_c qad9 (qa_c qad9 (qa_c qad9 qac9))))))))) (qe_op qbf9 (qv 3) qad9) (fun _ _=>rfl))) (qab9 (qak9 (i:=7) sc__law_net.nd rfl (Or.inl rfl) (qe_op qbf9 (qe_op qbh9 (qv 3) qad9) (qv 5))) (qab9 (qak9 (i:=8) sc__law_net.nd rfl (Or.inl rfl) (qch9 qac9)) (qab9 (qea9 PassesOwn.never rfl (qfu9 rfl B.range (qa_c (qv 6) qac9)) (qam9 (i:=9) sc__law_net.nd rfl (Or.inl rfl)) (qab9 (qak9 (i:=10) sc__law_net.nd rfl (Or.inl rfl) (qe_fn Cg0 hr rfl (qa_c (qv 0) (qa_c (qe_op qaw9 (qe_op qaw9 (qv 1) qad9) (qv 9)) qac9)))) (qab9 (qak9 (i:=11) sc__law_net.nd rfl (Or.inl rfl) (qci9 (qa_c (qe_op qbf9 (qe_op qbh9 (qv 10) qad9) (qv 5)) (qa_c (qe_op qbf9 (qe_op qbh9 (qv 10) (qe_op qgu9 qad9 (qv 5))) (qv 5)) (qa_c (qch9 qac9) qac9))))) (qev9 (qs_if (qhv9 (QW.pt (qjk9 (qap9 qdv9 (qe_op qaw9 (qv 9) qad9) (qv 5) (qay9 _)) (qgs9 (QW.pt (qw_or (qap9 qdn9 (qe_op qbf9 (qv 10) qad9) qad9 (qay9 _)) (qfr9 (qap9 qfs9 (qe_op qbf9 (qe_op qbh9 (qv 3) qad9) qad9) qad9 (qay9 _))))))))) (qae9 (qak9 (i:=11) sc__law_net.nd rfl (Or.inl rfl) (qci9 (qa_c (qe_op qbf9 (qe_op qaw9 (qe_op qaw9 (qv 9) qad9) (qv 7)) (qv 5)) (qa_c (qe_op qbf9 (qe_op qaw9 (qv 9) (qv 7)) (qv 5)) (qa_c (qch9 qac9) qac9)))))) qba9) (qae9 (qbc9 (qbg9 (qv 8) (qa_c (qv 11) qac9)))))))) (qab9 (qea9 PassesOwn.never rfl (qfu9 rfl B.range (qa_c (qe_ix qai9 (qch9 (qa_c qad9 (qa_c qad9 (qa_c qad9 (qa_c qad9 (qa_c qad9 (qa_c qad9 qac9))))))) (qe_op qbf9 (qe_op qbh9 (qv 3) qad9) qad9) (fun _ _=>rfl)) qac9)) (qam9 (i:=9) sc__law_net.nd rfl (Or.inl rfl)) (qab9 (qak9 (i:=12) sc__law_net.nd rfl (Or.inl rfl) (qe_fn Cg0 hr rfl (qa_c (qv 0) (qa_c (qe_op qaw9 (qe_op qaw9 (qv 1) qad9) (qv 9)) qac9)))) (qae9 (qs_if (qap9 qfs9 (qv 6) qad9 (qay9 _)) (qab9 (qak9 (i:=13) sc__law_net.nd rfl (Or.inl rfl) (qe_op qbf9 (qv 12) (qv 6))) (qev9 (qs_if (qap9 qdv9 (qv 9) (qv 6) (qay9 _)) (qae9 (qak9 (i:=13) sc__law_net.nd rfl (Or.inl rfl) (qv 9))) qba9) (qae9 (qbc9 (qbg9 (qe_ix qav9 (qe_ix qai9 (qv 8) (qv 13) (fun _ _=>rfl)) qad9 (fun _ _=>rfl)) (qa_c (qe_fn Cg2 hr rfl (qa_c (qv 4) (qa_c (qe_op qbh9 (qv 12) (qv 6)) qac9))) qac9)))))) qba9)))) (qab9 (qak9 (i:=13) sc__law_net.nd rfl (Or.inl rfl) (qe_op qbf9 (qe_op qbh9 (qv 3) qad9) (qe_op qaw9 (qv 6) qad9))) (qab9 (qak9 (i:=8) sc__law_net.nd rfl (Or.inl rfl) (qe_op qop_cat (qme9 (qv 8) (qgq9 (qv 13)) qgp9) (qme9 (qv 8) qgp9 (qgq9 (qv 13))))) (qev9 (qs_if (qap9 qdn9 (qe_op qbf9 (qe_op qbh9 (qv 3) qad9) qad9) qad9 (qay9 _)) (qae9 (qak9 (i:=7) sc__law_net.nd rfl (Or.inl rfl) (qe_op qbf9 (qe_op qbh9 (qv 3) qad9) (qv 5)))) qba9) (qae9 (qas9 (qci9 (qa_c (qv 4) (qa_c (qv 5) (qa_c (qv 8) (qa_c (qv 7) qac9))))))))))))))))))),?_⟩
 try dsimp only [cx_k,cx_kn,as_nil,as_name,Nat.reduceAdd]
 refine ⟨_,rfl,_,rfl,a,ns,st,rfl,hS,st0,fun cell=>?_⟩
 refine ⟨_,rfl,_,_,rfl,rfl,.inr ⟨by decide,by decide⟩,_,_,rfl,rfl,(by show (0:Int) < 2147483647; decide),?_⟩
 dsimp only
 generalize cell * 1103515245 % 2147483647=mixed
 refine ⟨_,rfl,_,rfl,_,_,rfl,rfl,a,ns,st+1,rfl,hS,by omega,fun c1=>⟨c1,rfl,fun d H1 d1 d2 s1=>?_⟩⟩
 have hd:0 < d:=by omega
 refine ⟨(by show 8<=sizeLine; decide),fun p2 hp2=>?_⟩
 generalize hgH2:upd _ p2 _=H2
 obtain ⟨s2,e2⟩:=qaq9 hp2 hgH2
 clear hgH2
 obtain ⟨sz,hsz,z1,z2⟩:=menu8s (a:=3) (b:=4) (c:=2) (d:=3) (e:=4) (f:=3) (g:=4) (h:=1) (j:=cell % 8) (ok:=fun v=>1<=v/\v<=4) (by decide) (by decide) (by decide) (by decide) (by decide) (by decide) (by decide) (by decide) (Int.emod_nonneg _ (by decide)) (Int.emod_lt_of_pos _ (by decide))
 refine ⟨_,rfl,_,_,rfl,rfl,(by show (0:Int) < 8; decide),p2,_,_,.int sz,rfl,rfl,SqL.of e2,hsz,?_⟩
 obtain ⟨N,rfl⟩:∃ N:Nat,sz=(N:Int):=⟨sz.toNat,by omega⟩
 have NP:(0:Int) < N:=by omega
 refine ⟨(by show 8<=sizeLine; decide),fun p3 hp3=>?_⟩
 generalize hgH3:upd _ p3 _=H3
 obtain ⟨s3,e3⟩:=qaq9 hp3 hgH3
 clear hgH3
 obtain ⟨mn,hmn,m1,m2⟩:=menu8s (a:=3) (b:=4) (c:=5) (d:=4) (e:=5) (f:=4) (g:=5) (h:=0) (j:=mixed % 8) (ok:=fun v=>0<=v/\v<=5) (by decide) (by decide) (by decide) (by decide) (by decide) (by decide) (by decide) (by decide) (Int.emod_nonneg _ (by decide)) (Int.emod_lt_of_pos _ (by decide))
 refine ⟨_,rfl,_,_,rfl,rfl,(by show (0:Int) < 8; decide),p3,_,_,.int mn,rfl,rfl,SqL.of e3,hmn,?_⟩
 obtain ⟨M,rfl⟩:∃ M:Nat,mn=(M:Int):=⟨mn.toNat,by omega⟩
 have s03:=(s1.trans s2).trans s3
 refine ⟨_,rfl,_,_,rfl,rfl,⟨by decide,by decide⟩,_,rfl,_,_,rfl,rfl,NP,?_⟩
 have gb:=qfp9 (mixed / 1000) NP
 dsimp only
 generalize mixed / 1000 % (N:Int)=turn at gb
 refine ⟨(by show 0<=sizeLine; decide),fun pr hpr=>?_⟩
 have fpr:H pr=none:=s03.free hpr
 generalize hgH4:upd _ pr _=H4
 obtain ⟨s4,e4⟩:=qaq9 hpr hgH4
 clear hgH4
 have s04:=s03.trans s4
 refine ⟨_,rfl,(M:Int),rfl,by omega,by omega,qhy9 (lo:=0) (n:=((M:Int)).toNat)
  (fun i σ H'=>∃ (Ns:List RdT) (v9 v10 v11:Option V),σ=[some (.ref a),some (.int st),some (.int cell),some (.int mixed),some (.int d),some (.int N),some (.int M),some (.int turn),some (.ref pr),v9,v10,v11,none,none]/\Same H H'/\NA H' pr Ns/\NFr H Ns/\Ns.length=i/\∀ m∈Ns,(0<=m.1/\m.1 < (N:Int))/\(0<=m.2.1/\m.2.1 < (N:Int))/\m.2.2.2=[])
  ⟨[],_,_,_,rfl,s04,NA.nil e4,fun m hm=>(by cases hm),rfl,fun m hm=>(by cases hm)⟩ ?_ ?_⟩
 ·intro i σ H5 hi z9;obtain ⟨Ns,v9,v10,v11,rfl,s5,hN,hfr,hl,hrg⟩ := z9
  rw [Int.toNat_natCast] at hi
  refine ⟨_,rfl,_,rfl,_,_,rfl,rfl,_,rfl,_,_,rfl,rfl,a,ns,_,rfl,s5.seq hS,by omega,fun way=>?_⟩
  refine ⟨_,rfl,_,_,rfl,rfl,⟨by decide,by decide⟩,_,rfl,_,_,rfl,rfl,NP,_,rfl,_,rfl,_,_,rfl,rfl,.inl ⟨by decide,by decide⟩,_,_,rfl,rfl,⟨by show (0:Int) < 2 * N; omega,by show 2 * (N:Int) < _; omega⟩,_,rfl,_,_,rfl,rfl,NP,(by show 0<=sizeLine; decide),fun pb hpb=>?_⟩
  have fb:=hN.fresh hpb
  have fb0:H pb=none:=s5.free hpb
  generalize hgH6:upd _ pb _=H6
  obtain ⟨s6,e6⟩:=qaq9 hpb hgH6
  clear hgH6
  refine ⟨(by show 3<=sizeLine; decide),fun rr hrr=>?_⟩
  generalize hgH7:upd _ rr _=H7
  obtain ⟨s7,e7⟩:=qaq9 hrr hgH7
  clear hgH7
  have s57:=s6.trans s7
  refine ⟨fun σ' H'=>∃ (x e:Int) (b r:Addr),σ'=[some (.ref a),some (.int st),some (.int cell),some (.int mixed),some (.int d),some (.int N),some (.int M),some (.int turn),some (.ref pr),some (.int (0+(i:Int))),some (.int way),some (.ref r),none,none]/\Same H5 H'/\H' r=some (.tup [.int x,.int e,.ref b])/\H' b=some (.lst [])/\H b=none/\(b ≠ pr/\b ∉ Ns.map fun m=>m.2.2.1)/\(0<=x/\x < (N:Int))/\(0<=e/\e < (N:Int)),?_,?_⟩
  ·refine ⟨fun b H'=>H'=H7,?_,?_⟩
   ·refine ⟨_,rfl,_,_,rfl,rfl,_,rfl,_,_,rfl,rfl,_,rfl,ite2 (fun _=>?_) (fun _=>rfl)⟩
    refine ⟨_,rfl,_,_,rfl,rfl,(by show (0:Int) < 2; decide),rfl,_,rfl,ite2 (fun _=>rfl) (fun _=>?_)⟩
    exact ⟨_,rfl,_,_,rfl,rfl,⟨by decide,by decide⟩,_,_,rfl,rfl,(by show (0:Int) < 6; decide),_,_,rfl,rfl,_,rfl,rfl⟩
   rintro b H7' rfl
   refine ite2 (fun _=>?_) (fun _=>?_)
   ·refine ⟨_,rfl,_,_,rfl,rfl,_,rfl,_,_,rfl,rfl,_,rfl,_,_,rfl,rfl,NP,_,rfl,_,rfl,_,_,rfl,rfl,_,rfl,_,_,rfl,rfl,NP,(by show 0<=sizeLine; decide),fun p8 hp8=>?_⟩
    have fb8:=(hN.same s57).fresh hp8
    have fb80:H p8=none:=(s5.trans s57).free hp8
    generalize hgH8:upd _ p8 _=H8
    obtain ⟨s8,e8⟩:=qaq9 hp8 hgH8
    clear hgH8
    refine ⟨(by show 3<=sizeLine; decide),fun r9 hr9=>?_⟩
    generalize hgH9:upd _ r9 _=H9
    obtain ⟨s9,e9⟩:=qaq9 hr9 hgH9
    clear hgH9
    exact ⟨_,_,p8,r9,rfl,(s57.trans s8).trans s9,e9,s9 _ _ e8,fb80,fb8,qfp9 _ NP,qfp9 _ NP⟩
   ·exact ⟨_,_,pb,rr,rfl,s57,e7,s7 _ _ e6,fb0,fb,qfp9 _ NP,qfp9 _ NP⟩
  intro σ' H8 z9;obtain ⟨x,e,b,r,rfl,s8,er,eb,fb0',fb',xr,er'⟩ := z9
  have hN8:=hN.same s8
  obtain ⟨vs,hv1,hv2,_⟩:=hN8.la.lst
  rw [List.length_map] at hv2
  refine ⟨_,rfl,.inl ⟨rfl,_,SqL.of hv1⟩,_,rfl,pr,_,.ref r,rfl,rfl,hv1,qbj9 (by omega),?_⟩
  refine ⟨Ns ++ [(x,e,b,[])],_,_,_,rfl,qcx9 fpr (s5.trans s8),hN8.snoc fb' hv1 eb er,hfr.snoc fb0',by simp [hl],fun m hm=>?_⟩
  rcases List.mem_append.mp hm with hm | hm
  ·exact hrg m hm
  ·rw [List.mem_singleton] at hm
   subst hm
   exact ⟨xr,er',rfl⟩
 intro σ H5 z9;obtain ⟨Ns,v9,v10,v11,rfl,s5,hN,hfr,hl,hrg⟩ := z9
 rw [Int.toNat_natCast] at hl
 refine ⟨(by show 6<=sizeLine; decide),fun p6 hp6=>?_⟩
 generalize hgH6:upd _ p6 _=H6
 obtain ⟨s6,e6⟩:=qaq9 hp6 hgH6
 clear hgH6
 obtain ⟨cn,hcn,n1,n2⟩:=menu6s (a:=4) (b:=5) (c:=3) (d:=6) (e:=4) (f:=2) (j:=mixed / 8 % 6) (ok:=fun v=>0<=v/\v<=6) (by decide) (by decide) (by decide) (by decide) (by decide) (by decide) (Int.emod_nonneg _ (by decide)) (Int.emod_lt_of_pos _ (by decide))
 refine ⟨_,rfl,_,_,rfl,rfl,⟨by decide,by decide⟩,_,_,rfl,rfl,(by show (0:Int) < 6; decide),p6,_,_,.int cn,rfl,rfl,SqL.of e6,hcn,?_⟩
 refine ⟨cn,rfl,by omega,by omega,qhy9 (lo:=0) (n:=cn.toNat)
  (fun i σ H'=>∃ (Ns:List RdT) (v9 v10 v11 v12 v13:Option V),σ=[some (.ref a),some (.int st),some (.int cell),some (.int mixed),some (.int d),some (.int N),some (.int M),some (.int turn),some (.ref pr),v9,v10,v11,v12,v13]/\Same H H'/\NA H' pr Ns/\NFr H Ns/\Ns.length=M/\(wsN Ns).length<=i/\∀ m∈Ns,(0<=m.1/\m.1 < (N:Int))/\(0<=m.2.1/\m.2.1 < (N:Int))/\∀ w∈m.2.2.2,WinOk d w)
  ⟨Ns,_,_,_,_,_,rfl,s5.trans s6,hN.same s6,hfr,hl,Nat.le_of_eq (ws_nil fun m hm=>(hrg m hm).2.2),fun m hm=>⟨(hrg m hm).1,(hrg m hm).2.1,fun w hw=>by rw [(hrg m hm).2.2] at hw; cases hw⟩⟩ ?_ ?_⟩
 ·clear hN hfr hl hrg s6 e6 s5
  intro i σ H7 hi z9;obtain ⟨Ns,v9,v10,v11,v12,v13,rfl,s7,hN,hfr,hl,hw,hrg⟩ := z9
  refine ⟨_,rfl,_,rfl,_,_,rfl,rfl,_,rfl,_,_,rfl,rfl,a,ns,_,rfl,s7.seq hS,by omega,fun sp=>?_⟩
  refine ⟨_,rfl,_,_,rfl,rfl,_,rfl,ite2 (fun c=>?_) (fun c=>⟨Ns,_,_,_,_,_,rfl,s7,hN,hfr,hl,by omega,hrg⟩)⟩
  have MP:(0:Int) < M:=of_decide_eq_true c
  refine ⟨_,rfl,_,rfl,_,_,rfl,rfl,MP,?_⟩
  refine ⟨fun σ' H'=>H'=H7/\∃ at_:Nat,σ'=[some (.ref a),some (.int st),some (.int cell),some (.int mixed),some (.int d),some (.int N),some (.int M),some (.int turn),some (.ref pr),some (.int (0+(i:Int))),v10,v11,some (.int sp),some (.int at_)]/\at_ < M,?_,?_⟩
  ·refine ⟨_,rfl,_,rfl,_,_,rfl,rfl,_,rfl,ite2 (fun c=>?_) (fun _=>?_)⟩
   ·have c':0+(i:Int) < (M:Int):=of_decide_eq_true c
    exact ⟨_,rfl,rfl,i,by rw [Int.zero_add]; rfl,by omega⟩
   ·have em:=qfp9 sp MP
    exact ⟨rfl,(sp % (M:Int)).toNat,by rw [Int.toNat_of_nonneg em.1]; rfl,by omega⟩
  intro σ' H7' z9;obtain ⟨rfl,at_,rfl,la⟩ := z9
  have hm:=List.getElem?_eq_getElem (show at_ < Ns.length by omega)
  generalize Ns[at_]=m at hm
  obtain ⟨ws,r,w1,w2,w3,w4⟩:=hN.atG hm
  have mm:=List.mem_of_getElem? hm
  have hb:=(hN.bd m mm).1
  obtain ⟨us,u1,u2,_⟩:=hb.lst
  refine ⟨_,rfl,_,rfl,pr,_,_,_,rfl,rfl,SqL.of w1,w3,r,_,_,_,rfl,rfl,SqT.of w4,rfl,.inl ⟨rfl,_,SqL.of u1⟩,_,rfl,_,rfl,_,rfl,_,_,rfl,rfl,⟨MP,by show (M:Int) < _; omega⟩,d,_,rfl,d1,d2,fun r2 x H8 s8 e8 wok=>?_⟩
  have bl:=qja9 mm
  refine ⟨m.2.2.1,us,.ref r2,rfl,rfl,s8 _ _ u1,qbj9 (by omega),?_⟩
  refine ⟨Ns.set at_ (m.1,m.2.1,m.2.2.1,m.2.2.2 ++ [x]),_,_,_,_,_,rfl,qcx9 (hfr m mm) (s7.trans s8),(hN.same s8).pushAt hm (s8 _ _ u1) e8,fun m2 hm2=>?_,by rw [List.length_set]; exact hl,by rw [ws_push hm]; omega,fun m2 hm2=>?_⟩
  ·rcases List.mem_or_eq_of_mem_set hm2 with z | z
   ·exact hfr m2 z
   ·subst z
    exact hfr m mm
  ·rcases List.mem_or_eq_of_mem_set hm2 with z | z
   ·exact hrg m2 z
   ·subst z
    obtain ⟨i1,i2,i3⟩:=hrg m mm
    refine ⟨i1,i2,fun w hw=>?_⟩
    rcases List.mem_append.mp hw with hw | hw
    ·exact i3 w hw
    ·rw [List.mem_singleton] at hw
     subst hw
     exact wok
 clear hN hfr hl hrg s6 e6 s5
 intro σ H7 z9;obtain ⟨Ns,v9',v10',v11',v12,v13,rfl,s7,hN,hfr,hl,hw,hrg⟩ := z9
 have MP1:(0:Int) < (M:Int)+1:=by omega
 refine ⟨_,rfl,_,_,rfl,rfl,⟨by decide,by decide⟩,_,rfl,_,_,rfl,rfl,_,_,rfl,rfl,MP1,?_⟩
 have ab:=qfp9 (mixed / 300) MP1
 dsimp only
 generalize mixed / 300 % ((M:Int)+1)=at_ at ab
 obtain ⟨k,rfl⟩:∃ k:Nat,at_=(k:Int):=⟨at_.toNat,by omega⟩
 obtain ⟨ws,w1,w2,_⟩:=hN.la.lst
 rw [List.length_map] at w2
 refine ⟨_,rfl,_,rfl,_,rfl,pr,_,rfl,SqL.of w1,fun p8 hp8=>?_⟩
 rw [qno9 ws k (by omega)]
 generalize hgH8:upd _ p8 _=H8
 obtain ⟨s8,e8⟩:=qaq9 hp8 hgH8
 clear hgH8
 refine ⟨_,rfl,_,rfl,_,rfl,pr,_,rfl,SqL.of (s8 _ _ w1),fun p9 hp9=>?_⟩
 rw [qnh9 ws k (by omega)]
 generalize hgH9:upd _ p9 _=H9
 obtain ⟨s9,e9⟩:=qaq9 hp9 hgH9
 clear hgH9
 refine ⟨p8,p9,_,_,rfl,rfl,s9 _ _ e8,e9,Nat.le_of_lt (qbj9 (by simp; omega)),fun pz hpz=>?_⟩
 have fpz:H7 pz=none:=(s8.trans s9).free hpz
 generalize hgHA:upd _ pz _=HA
 obtain ⟨sA,eA⟩:=qaq9 hpz hgHA
 clear hgHA
 have s7A:=(s8.trans s9).trans sA
 have hR:=hN.rot s7A w1 fpz eA
 have SA:=s7.trans s7A
 have gn:GNet d N (Ns.drop k ++ Ns.take k):=⟨fun m hm=>hrg m ((List.mem_append.mp hm).elim List.mem_of_mem_drop List.mem_of_mem_take),by simp; omega,by rw [ws_rot]; omega⟩
 have hfr2:NFr H (Ns.drop k ++ Ns.take k):=fun m hm=>hfr m ((List.mem_append.mp hm).elim List.mem_of_mem_drop List.mem_of_mem_take)
 refine ⟨fun σ' H'=>H'=HA/\∃ turn:Int,σ'=[some (.ref a),some (.int st),some (.int cell),some (.int mixed),some (.int d),some (.int N),some (.int M),some (.int turn),some (.ref pz),v9',v10',v11',v12,some (.int (k:Int))]/\0<=turn/\turn < (N:Int),?_,?_⟩
 ·refine ⟨_,rfl,_,_,rfl,rfl,⟨by decide,by decide⟩,_,_,rfl,rfl,(by show (0:Int) < 6; decide),rfl,_,rfl,ite2 (fun _=>?_) (fun _=>⟨rfl,turn,rfl,gb.1,gb.2⟩)⟩
  exact ⟨_,rfl,_,_,rfl,rfl,⟨by decide,by decide⟩,_,rfl,_,_,rfl,rfl,NP,rfl,_,rfl,qfp9 _ NP⟩
 intro σ' HA' z9;obtain ⟨rfl,goal,rfl,g0,g1⟩ := z9
 refine ⟨_,rfl,_,rfl,_,rfl,_,rfl,(by show 4<=sizeLine; decide),fun rz hrz=>?_⟩
 generalize hgHB:upd _ rz _=HB
 obtain ⟨sB,eB⟩:=qaq9 hrz hgHB
 clear hgHB
 exact q rz pz d N goal _ HB (SA.trans sB) eB (hR.same sB) d1 d2 (by omega) (by omega) g0 g1 gn hfr2
end
theorem qnr9 {d:Int} {Cs:Tb} {p t:Int}:∀ {A:List AskT} {o:Option Int} {S0:Int->Prop},Mn S0 o->Mn (fun y=>S0 y\/∃ a∈A,a.1=p/\askO d Cs a t=some y) (asksO d A Cs p t o)
 | [],o,S0,h=>h.congr fun y=>⟨.inl,fun s=>s.elim id fun ⟨a,ha,_⟩=>by cases ha⟩
 | a :: A,o,S0,h=>by
  by_cases e:a.1=p
  ·have hb:Mn (fun y=>askO d Cs a t=some y) (askO d Cs a t):=by
    cases ea:askO d Cs a t with
    | none=>exact Mn.none fun y z=>by cases z
    | some x=>exact Mn.one rfl fun z hz=>by cases hz; exact Int.le_refl _
   have:=qnr9 (d:=d) (Cs:=Cs) (p:=p) (t:=t) (A:=A) (h.omin hb)
   have e2:asksO d (a :: A) Cs p t o=asksO d A Cs p t (Ma.omin o (askO d Cs a t)):=by
    show asksO d A Cs p t (if a.1=p then _ else _)=_
    rw [if_pos e]
   rw [e2]
   refine this.congr fun y=>⟨fun s=>?_,fun s=>?_⟩
   ·rcases s with (s | s) | ⟨x,hx,s⟩
    ·exact .inl s
    ·exact .inr ⟨a,List.mem_cons_self ..,e,s⟩
    ·exact .inr ⟨x,List.mem_cons_of_mem _ hx,s⟩
   ·rcases s with s | ⟨x,hx,s1,s2⟩
    ·exact .inl (.inl s)
    ·rcases List.mem_cons.mp hx with rfl | hx
     ·exact .inl (.inr s2)
     ·exact .inr ⟨x,hx,s1,s2⟩
  ·have:=qnr9 (d:=d) (Cs:=Cs) (p:=p) (t:=t) (A:=A) h
   have e2:asksO d (a :: A) Cs p t o=asksO d A Cs p t o:=by
    show asksO d A Cs p t (if a.1=p then _ else _)=_
    rw [if_neg e]
   rw [e2]
   refine this.congr fun y=>⟨fun s=>?_,fun s=>?_⟩
   ·rcases s with s | ⟨x,hx,s⟩
    ·exact .inl s
    ·exact .inr ⟨x,List.mem_cons_of_mem _ hx,s⟩
   ·rcases s with s | ⟨x,hx,s1,s2⟩
    ·exact .inl s
    ·rcases List.mem_cons.mp hx with rfl | hx
     ·exact absurd s1 e
     ·exact .inr ⟨x,hx,s1,s2⟩
noncomputable def qke9:Sp:=fun vs H Q _=>∃ (p:Addr) (N:List RdT),vs=[.ref p]/\NA H p N/\N.length<=100/\∀ (l:Addr) (M:List RdT) (H':Hp),Same H H'->NA H' l M->M.map strip=N.map strip->NFr H M->H l=none->Q (.ref l) H'
section
variable {P:Program} {w:World} {K:W.Frag} {mg:Str->Option Value} {base:Heap} {f:Addr} {fd:FuncData} {n:Nat}
theorem qly9 (F:Fun K "copied" "copied" qel9 f fd) (B:Bl mg):FnOk P w K mg base CX0 (n+1) f fd ["roads"] qke9:=by
 refine F.okQ sc_copied (fun vs H Q E h=>?_) (fun cdv A outer s H vs Q E hr h=>?_)
 ·obtain ⟨_,_,rfl,_⟩:=h
  rfl
 obtain ⟨pr,N,rfl,hN,hl,q⟩:=h
 refine ⟨_,(qae9 (qas9 (qet9 ["start","end","board"] [none,none,none] (BlkOk.of rfl rfl (SubL.to subN) rfl) rfl (qck9 (qv 0)) (fun _ _ _ _=>(qkd9 (n:=3) K rfl rfl (qaj9 (qam9 (i:=0) (show (["start","end","board"]:List Str).Nodup by decide) rfl (Or.inl rfl)) (qaj9 (qam9 (i:=1) (show (["start","end","board"]:List Str).Nodup by decide) rfl (Or.inl rfl)) (qaj9 (qam9 (i:=2) (show (["start","end","board"]:List Str).Nodup by decide) rfl (Or.inl rfl)) qct9))))) (fun _ _ _ _=>(qci9 (qa_c (qv 0) (qa_c (qv 1) (qa_c (qe_ct (qek9 K rfl) rfl B.list_ qfm9 (qa_c (qv 2) qac9)) qac9)))))))),?_⟩
 try dsimp only [cx_k,cx_kn,as_nil,as_name,Nat.reduceAdd]
 obtain ⟨ws,hw1,hw2,hw3⟩:=hN.la.lst
 rw [List.length_map] at hw2
 refine ⟨_,rfl,pr,rfl,⟨_,SqL.of hw1⟩,?_⟩
 refine qcu9 (K:=K) (a:=pr) (xs:=ws) (fun D i H'=>Same H H'/\∃ M,NA H' D M/\M.map strip=(N.take i).map strip/\NFr H M) (fun D hD=>⟨qal9 hD _,[],NA.nil qaf9,rfl,fun m hm=>by cases hm⟩) (fun D i H' _ _ h=>SqL.of (h.1 _ _ hw1)) ?_ ?_
 ·intro D i y H' hD hi z9;obtain ⟨sD,M,hM,eM,fM⟩ := z9
  obtain ⟨r,x,rfl,ex,er⟩:=hw3 i y hi
  have hi2:i < N.length:=by
   have:=(List.getElem?_eq_some_iff.mp hi).1
   omega
  have em:=List.getElem?_eq_getElem hi2
  rw [List.getElem?_map,em] at ex
  cases ex
  have hb:=(hN.bd _ (List.getElem_mem hi2)).1
  generalize hm:N[i]=m at *
  refine ⟨r,_,rfl,SqT.of (sD _ _ er),rfl,_,_,rfl,_,_,rfl,_,_,rfl,rfl,fun k v e=>?_,?_⟩
  ·match k,e with
   | 0,e=>cases e
   | 1,e=>cases e
   | 2,e=>cases e
   | k+3,e=>cases e
  obtain ⟨bs,hb1,hb2,hb3⟩:=(hb.same sD).lst
  refine ⟨_,rfl,_,rfl,_,rfl,m.2.2.1,_,rfl,.inl (SqL.of hb1),fun p1 hp1=>?_⟩
  have fb:=hM.fresh hp1
  have f0:=sD.free hp1
  generalize hgH1:upd _ p1 _=H1
  obtain ⟨s1,e1⟩:=qaq9 hp1 hgH1
  clear hgH1
  have hc:=(hb.same sD).copy s1 hb1 e1
  refine ⟨(by show 3<=sizeLine; decide),fun rr hrr=>?_⟩
  generalize hgH2:upd _ rr _=H2
  obtain ⟨s2,e2⟩:=qaq9 hrr hgH2
  clear hgH2
  obtain ⟨vs,hv1,hv2,_⟩:=((hM.same s1).same s2).la.lst
  have ml:M.length=i:=by
   have:=congrArg List.length eM
   rw [List.length_map,List.length_map,List.length_take] at this
   omega
  rw [List.length_map] at hv2
  refine ⟨_,hv1,qbj9 (by omega),qcx9 hD ((sD.trans s1).trans s2),M ++ [(m.1,m.2.1,p1,m.2.2.2)],((hM.same s1).same s2).add fb hv1 (hc.same s2) e2,?_,fM.snoc f0⟩
  rw [List.map_append,eM,qdl9 strip em]
  rfl
 ·intro D H' hD z9;obtain ⟨sD,M,hM,eM,fM⟩ := z9
  rw [hw2,List.take_length] at eM
  exact q D M H' sD hM eM fM hD
theorem ok_copyG (F:Fun K "_law_copy" "_law_copy" qcn9 f fd) (B:Bl mg):FnOk P w K mg base CX0 (n+1) f fd ["roads"] qke9:=by
 refine F.okQ qjh9 (fun vs H Q E h=>?_) (fun cdv A outer s H vs Q E hr h=>?_)
 ·obtain ⟨_,_,rfl,_⟩:=h
  rfl
 obtain ⟨pr,N,rfl,hN,hl,q⟩:=h
 refine ⟨_,(qae9 (qas9 (qet9 ["start","other","board"] [none,none,none] (BlkOk.of rfl rfl (SubL.to subN) rfl) rfl (qck9 (qv 0)) (fun _ _ _ _=>(qkd9 (n:=3) K rfl rfl (qaj9 (qam9 (i:=0) (show (["start","other","board"]:List Str).Nodup by decide) rfl (Or.inl rfl)) (qaj9 (qam9 (i:=1) (show (["start","other","board"]:List Str).Nodup by decide) rfl (Or.inl rfl)) (qaj9 (qam9 (i:=2) (show (["start","other","board"]:List Str).Nodup by decide) rfl (Or.inl rfl)) qct9))))) (fun _ _ _ _=>(qci9 (qa_c (qv 0) (qa_c (qv 1) (qa_c (qe_ct (qek9 K rfl) rfl B.list_ qfm9 (qa_c (qv 2) qac9)) qac9)))))))),?_⟩
 try dsimp only [cx_k,cx_kn,as_nil,as_name,Nat.reduceAdd]
 obtain ⟨ws,hw1,hw2,hw3⟩:=hN.la.lst
 rw [List.length_map] at hw2
 refine ⟨_,rfl,pr,rfl,⟨_,SqL.of hw1⟩,?_⟩
 refine qcu9 (K:=K) (a:=pr) (xs:=ws) (fun D i H'=>Same H H'/\∃ M,NA H' D M/\M.map strip=(N.take i).map strip/\NFr H M) (fun D hD=>⟨qal9 hD _,[],NA.nil qaf9,rfl,fun m hm=>by cases hm⟩) (fun D i H' _ _ h=>SqL.of (h.1 _ _ hw1)) ?_ ?_
 ·intro D i y H' hD hi z9;obtain ⟨sD,M,hM,eM,fM⟩ := z9
  obtain ⟨r,x,rfl,ex,er⟩:=hw3 i y hi
  have hi2:i < N.length:=by
   have:=(List.getElem?_eq_some_iff.mp hi).1
   omega
  have em:=List.getElem?_eq_getElem hi2
  rw [List.getElem?_map,em] at ex
  cases ex
  have hb:=(hN.bd _ (List.getElem_mem hi2)).1
  generalize hm:N[i]=m at *
  refine ⟨r,_,rfl,SqT.of (sD _ _ er),rfl,_,_,rfl,_,_,rfl,_,_,rfl,rfl,fun k v e=>?_,?_⟩
  ·match k,e with
   | 0,e=>cases e
   | 1,e=>cases e
   | 2,e=>cases e
   | k+3,e=>cases e
  obtain ⟨bs,hb1,hb2,hb3⟩:=(hb.same sD).lst
  refine ⟨_,rfl,_,rfl,_,rfl,m.2.2.1,_,rfl,.inl (SqL.of hb1),fun p1 hp1=>?_⟩
  have fb:=hM.fresh hp1
  have f0:=sD.free hp1
  generalize hgH1:upd _ p1 _=H1
  obtain ⟨s1,e1⟩:=qaq9 hp1 hgH1
  clear hgH1
  have hc:=(hb.same sD).copy s1 hb1 e1
  refine ⟨(by show 3<=sizeLine; decide),fun rr hrr=>?_⟩
  generalize hgH2:upd _ rr _=H2
  obtain ⟨s2,e2⟩:=qaq9 hrr hgH2
  clear hgH2
  obtain ⟨vs,hv1,hv2,_⟩:=((hM.same s1).same s2).la.lst
  have ml:M.length=i:=by
   have:=congrArg List.length eM
   rw [List.length_map,List.length_map,List.length_take] at this
   omega
  rw [List.length_map] at hv2
  refine ⟨_,hv1,qbj9 (by omega),qcx9 hD ((sD.trans s1).trans s2),M ++ [(m.1,m.2.1,p1,m.2.2.2)],((hM.same s1).same s2).add fb hv1 (hc.same s2) e2,?_,fM.snoc f0⟩
  rw [List.map_append,eM,qdl9 strip em]
  rfl
 ·intro D H' hD z9;obtain ⟨sD,M,hM,eM,fM⟩ := z9
  rw [hw2,List.take_length] at eM
  exact q D M H' sD hM eM fM hD
end
noncomputable def byO (o:Option Int) (s:Int):Bool:=match o with
 | none=>false
 | some y=>decide (y<=s)
noncomputable def natO:Option Nat->V
 | none=>.non
 | some j=>.int j
noncomputable def FstB (b:Nat->Bool) (n:Nat) (r:Option Nat):Prop:=(r=none/\∀ j,j < n->b j=false)\/∃ j,r=some j/\j < n/\b j=true/\∀ i,i < j->b i=false
theorem Mn.by {S:Int->Prop} {o:Option Int} (h:Mn S o) {s:Int}:byO o s=true↔∃ y,y<=s/\S y:=by
 cases o with
 | none=>exact ⟨fun z=>(by cases z),fun ⟨y,_,j⟩=>absurd j (h.2 rfl y)⟩
 | some y =>
  obtain ⟨a,b⟩:=h.1 y rfl
  exact ⟨fun z=>⟨y,of_decide_eq_true z,a⟩,fun ⟨y',l,j⟩=>decide_eq_true (by have:=b y' j; omega)⟩
noncomputable def gB (d:Int) (g:Option Tb) (p x s:Int):Bool:=match g with
 | none=>true
 | some G=>byO (Ma.bt d (cl G p) x) s
structure Stp (d:Int) (n:Nat) (goal:Int) (N:List RdT) (g:Option Tb) (Ts:List Tb):Prop where
 first:∀ p,0<=p->p < (n:Int)->∀ t s,byO (Ma.bt d (cl (Ts.getD 0 []) p) t) s=true↔p=goal/\t<=s
 step:∀ i,i+1 < n->∀ p,0<=p->p < (n:Int)->∀ t s,byO (Ma.bt d (cl (Ts.getD (i+1) []) p) t) s=true↔(byO (Ma.bt d (cl (Ts.getD i []) p) t) s=true\/∃ m∈N,m.1=p/\∃ w∈m.2.2.2,byO (Ma.bt d (cl (Ts.getD i []) m.2.1) (Ma.nextO d w.1 w.2.1 t+w.2.2)) s=true/\gB d g p (Ma.nextO d w.1 w.2.1 t+1) s=true)
theorem qes9 {Ts:List Tb} {j n:Nat} (l:Ts.length=n) (hj:j < n):Ts[j]?=some (Ts.getD j []):=by
 rw [List.getD_eq_getElem?_getD,List.getElem?_eq_getElem (by omega)]
 rfl
theorem TsOk.stp {d:Int} {n:Nat} {goal:Int} {N F:List RdT} {m:Nat} {Ts:List Tb} (hd:0 < d) (n1:1<=n) (nok:NetOk d n N) (fo:Fords d N F) (fok:FOk d n m F) (ok:TsOk d n goal F m stepT Ts) (l:Ts.length=n):Stp d n goal N none Ts:=by
 have bj:∀ {k:Nat},k < n->∀ {p t s:Int},0<=p->p < (n:Int)->(byO (Ma.bt d (cl (Ts.getD k []) p) t) s=true↔∃ y,y<=s/\Jo d F k p t goal y):=fun hk p t s p0 p1=>(ok.mn hd fok (qes9 l hk) p p0 p1 t).by
 refine ⟨fun p p0 p1 t s=>⟨fun h=>?_,fun h=>(bj (by omega) p0 p1).mpr ⟨t,h.2,h.1,rfl⟩⟩,fun i hi p p0 p1 t s=>⟨fun h=>?_,fun h=>?_⟩⟩
 ·obtain ⟨y,ly,e1,e2⟩:=(bj (by omega) p0 p1).mp h
  exact ⟨e1,by omega⟩
 ·obtain ⟨y,ly,jo⟩:=(bj hi p0 p1).mp h
  rcases jo with jo | ⟨f,hf,ef,z,hz,jo⟩
  ·exact .inl ((bj (by omega) p0 p1).mpr ⟨y,ly,jo⟩)
  ·obtain ⟨x,hx,ex1,ex2,ex3⟩:=fo.of hf
   rw [ex3] at hz
   obtain ⟨w',hw',hwz⟩:=qnb9 hz
   have ez:z=Ma.nextO d w'.1 w'.2.1 t+w'.2.2:=(Option.some.inj hwz).symm
   refine .inr ⟨x,hx,ex1.trans ef,w',hw',?_,rfl⟩
   rw [<- ez,ex2]
   exact (bj (by omega) (fok f hf).2.1.1 (fok f hf).2.1.2).mpr ⟨y,ly,jo⟩
 ·rcases h with h | ⟨x,hx,ex,w',hw',h,_⟩
  ·obtain ⟨y,ly,jo⟩:=(bj (by omega) p0 p1).mp h
   exact (bj hi p0 p1).mpr ⟨y,ly,.inl jo⟩
  ·obtain ⟨f5,hf5,ef1,ef2,ef3⟩:=fo.to hx
   obtain ⟨_,⟨b0,b1⟩,_,_⟩:=nok.all x hx
   obtain ⟨zz,hzz,lzz⟩:=bt_le_of hw' (show Ma.bt d [w'] t=some (Ma.nextO d w'.1 w'.2.1 t+w'.2.2) from rfl)
   rw [<- ef3] at hzz
   obtain ⟨y,ly,jo⟩:=(bj (by omega) b0 b1).mp h
   obtain ⟨y',ly',jo'⟩:=jo.early fok.ck lzz
   exact (bj hi p0 p1).mpr ⟨y',by omega,.inr ⟨f5,hf5,ef1.trans ex,zz,hzz,by rw [ef2]; exact jo'⟩⟩
theorem mn_self (o:Option Int):Mn (fun y=>o=some y) o:=by
 cases o with
 | none=>exact Mn.none fun y z=>by cases z
 | some x=>exact Mn.one rfl fun z hz=>by cases hz; exact Int.le_refl _
theorem jn_by {z u s:Int}:Ma.jn true z u<=s↔z<=s/\u<=s:=by
 rcases Ma.jn_cases true z u with ⟨_,h1,h2,h3⟩ | ⟨h,_⟩
 ·constructor
  ·intro h
   omega
  ·intro z9;obtain ⟨a,b⟩ := z9
   rcases h3 with h3 | h3 <;> omega
 ·cases h
theorem TsOkA.stp {d:Int} {n:Nat} {goal:Int} {N:List RdT} {A:List AskT} {m:Nat} {G:Tb} {Ts:List Tb} (hd:0 < d) (n1:1<=n) (nok:NetOk d n N) (dA:A.map dscA=wsN N) (br:∀ a∈A,BrOk d G a) (ok:TsOkA d n goal A m stepA Ts) (l:Ts.length=n):Stp d n goal N (some G) Ts:=by
 refine ⟨fun p p0 p1 t s=>?_,fun i hi p p0 p1 t s=>?_⟩
 ·have e0:=ok.first
  rw [qes9 l (by omega)] at e0
  rw [Option.some.inj e0,qgv9 p0 p1]
  by_cases e:p=goal
  ·rw [if_pos e,Ma.bt_still hd]
   exact ⟨fun h=>⟨e,of_decide_eq_true h⟩,fun h=>decide_eq_true h.2⟩
  ·rw [if_neg e]
   exact ⟨fun h=>(by cases h),fun h=>absurd h.1 e⟩
 ·rw [ok.grow i _ _ (qes9 l (by omega)) (qes9 l hi) p p0 p1 t]
  generalize Ts.getD i []=D
  refine (qnr9 (d:=d) (Cs:=D) (p:=p) (t:=t) (A:=A) (mn_self (Ma.bt d (cl D p) t))).by.trans ⟨fun h=>?_,fun h=>?_⟩
  ·obtain ⟨y,ly,e | ⟨a,ha,e,ea⟩⟩:=h
   ·refine .inl ?_
    rw [e]
    exact decide_eq_true ly
   ·have hd':dscA a∈wsN N:=by rw [<- dA]; exact List.mem_map.mpr ⟨a,ha,rfl⟩
    unfold wsN at hd'
    obtain ⟨m',hm',hw'⟩:=List.mem_flatMap.mp hd'
    obtain ⟨w,hw,ew⟩:=List.mem_map.mp hw'
    have e1:m'.1=a.1:=congrArg (fun x:Int × Int × T3=>x.1) ew
    have e2:m'.2.1=a.2.1:=congrArg (fun x:Int × Int × T3=>x.2.1) ew
    have e3:w=a.2.2.2.1:=congrArg (fun x:Int × Int × T3=>x.2.2) ew
    have hb:=br a ha t
    unfold askO at ea
    rw [hb,<- e3,<- e2,e] at ea
    have ea':Ma.omax (Ma.bt d (cl D m'.2.1) (Ma.nextO d w.1 w.2.1 t+w.2.2)) (Ma.bt d (cl G p) (Ma.nextO d w.1 w.2.1 t+1))=some y:=ea
    refine .inr ⟨m',hm',e1.trans e,w,hw,?_⟩
    show byO (Ma.bt d (cl D m'.2.1) (Ma.nextO d w.1 w.2.1 t+w.2.2)) s=true/\byO (Ma.bt d (cl G p) (Ma.nextO d w.1 w.2.1 t+1)) s=true
    cases ez:Ma.bt d (cl D m'.2.1) (Ma.nextO d w.1 w.2.1 t+w.2.2) with
    | none=>rw [ez] at ea'; cases ea'
    | some z =>
     cases eu:Ma.bt d (cl G p) (Ma.nextO d w.1 w.2.1 t+1) with
     | none=>rw [ez,eu] at ea'; cases ea'
     | some u =>
      rw [ez,eu] at ea'
      have ey:Ma.jn true z u=y:=Option.some.inj ea'
      have:=jn_by.mp (show Ma.jn true z u<=s by omega)
      exact ⟨decide_eq_true this.1,decide_eq_true this.2⟩
  ·rcases h with h | ⟨m',hm',e,w,hw,h1,h2⟩
   ·cases eb:Ma.bt d (cl D p) t with
    | none=>rw [eb] at h; cases h
    | some y =>
     rw [eb] at h
     exact ⟨y,of_decide_eq_true h,.inl rfl⟩
   ·have hin:(m'.1,m'.2.1,w)∈A.map dscA:=by
     rw [dA]
     unfold wsN
     exact List.mem_flatMap.mpr ⟨m',hm',List.mem_map.mpr ⟨w,hw,rfl⟩⟩
    obtain ⟨a,ha,ea⟩:=List.mem_map.mp hin
    have e1:a.1=m'.1:=congrArg (fun x:Int × Int × T3=>x.1) ea
    have e2:a.2.1=m'.2.1:=congrArg (fun x:Int × Int × T3=>x.2.1) ea
    have e3:a.2.2.2.1=w:=congrArg (fun x:Int × Int × T3=>x.2.2) ea
    have h2:byO (Ma.bt d (cl G p) (Ma.nextO d w.1 w.2.1 t+1)) s=true:=h2
    cases ez:Ma.bt d (cl D m'.2.1) (Ma.nextO d w.1 w.2.1 t+w.2.2) with
    | none=>rw [ez] at h1; cases h1
    | some z =>
     cases eu:Ma.bt d (cl G p) (Ma.nextO d w.1 w.2.1 t+1) with
     | none=>rw [eu] at h2; cases h2
     | some u =>
      rw [ez] at h1
      rw [eu] at h2
      refine ⟨Ma.jn true z u,jn_by.mpr ⟨of_decide_eq_true h1,of_decide_eq_true h2⟩,.inr ⟨a,ha,e1.trans e,?_⟩⟩
      unfold askO
      rw [br a ha t,e2,e3,e1,e]
      show Ma.omax (Ma.bt d (cl D m'.2.1) (Ma.nextO d w.1 w.2.1 t+w.2.2)) (Ma.bt d (cl G p) (Ma.nextO d w.1 w.2.1 t+1))=_
      rw [ez,eu]
      rfl
theorem LV.lst {H:Hp} {p:Addr} {Ts:List Tb} (h:LV H p Ts):∃ xs:List V,H p=some (.lst xs)/\xs.length=Ts.length:=by
 obtain ⟨qs,h1,h2,_⟩:=h
 exact ⟨_,h1,by rw [List.length_map]; exact h2⟩
theorem LV.at {H:Hp} {p:Addr} {Ts:List Tb} {i:Nat} {B:Tb} {xs:List V} (h:LV H p Ts) (hx:H p=some (.lst xs)) (hi:Ts[i]?=some B):∃ q:Addr,xs[i]?=some (.ref q)/\BA H q B:=by
 obtain ⟨qs,h1,h2,h3⟩:=h
 rw [hx] at h1
 cases h1
 have:=(List.getElem?_eq_some_iff.mp hi).1
 have hq:=List.getElem?_eq_getElem (show i < qs.length by omega)
 exact ⟨qs[i],by rw [List.getElem?_map,hq]; rfl,h3 i _ B hq hi⟩
noncomputable def qhp9 (T:Hp->Prop):Sp:=fun vs H Q _=>∃ (d:Int) (p:Addr) (t s:Int) (R:List T3),vs=[.int d,.ref p,.int t,.int s]/\LA enc3 H p R/\T H/\Ma.CK d R/\∀ H',SameU H H'->T H'->Q (.bl (byO (Ma.bt d R t) s)) H'
noncomputable def spLeast (T:Hp->Prop):Sp:=fun vs H Q _=>∃ (d:Int) (pl:Addr) (Ts:List Tb) (p t s:Int),vs=[.int d,.ref pl,.int p,.int t,.int s]/\LV H pl Ts/\T H/\0<=p/\(∀ A∈Ts,p < (A.length:Int)/\∀ C∈A,Ma.CK d C)/\∀ (r:Option Nat) (H':Hp),SameU H H'->T H'->FstB (fun j=>byO (Ma.bt d (cl (Ts.getD j []) p) t) s) Ts.length r->Q (natO r) H'
section
variable {P:Program} {w:World} {K:W.Frag} {mg:Str->Option Value} {base:Heap} {f:Addr} {fd:FuncData} {n:Nat} {T:Hp->Prop}
theorem qlm9 (F:Fun K "comes_by" "comes_by" qdb9 f fd) (Cw0:Callee P w K mg base n "come" ["day","clock","t"] (qir9 T)):FnOk P w K mg base CX0 (n+1) f fd ["day","clock","t","s"] (qhp9 T):=by
 refine F.okQ sc_comes_by (fun vs H Q E h=>?_) (fun cdv A outer s H vs Q E hr h=>?_)
 ·obtain ⟨_,_,_,_,_,rfl,_⟩:=h
  rfl
 obtain ⟨d,p,t,s',R,rfl,hR,hT,ck,q⟩:=h
 refine ⟨_,(qab9 (qak9 (i:=4) sc_comes_by.nd rfl (Or.inl rfl) (qe_fn Cw0 hr rfl (qa_c (qv 0) (qa_c (qv 1) (qa_c (qv 2) qac9))))) (qae9 (qas9 (qlq9 (qe_notN (qv 4)) (qlo9 (qkj9 qjm9 (qv 4) (qv 3) (qay9 _))))))),?_⟩
 try dsimp only [cx_k,cx_kn,as_nil,as_name,Nat.reduceAdd]
 refine ⟨_,rfl,_,rfl,_,rfl,d,p,t,R,rfl,hR,hT,ck,fun H1 u1 t1=>?_⟩
 have q:=q H1 u1 t1
 cases e:Ma.bt d R t with
 | none =>
  rw [e] at q
  exact ⟨_,rfl,_,rfl,iteN (by simp [optV]) q⟩
 | some y =>
  rw [e] at q
  exact ⟨_,rfl,_,rfl,iteP (by simp [optV]) ⟨_,rfl,_,rfl,_,_,rfl,rfl,q⟩⟩
theorem ok_least (hTB:TB T) (F:Fun K "least_round" "least_round" qbu9 f fd) (B:Bl mg) (Cn0:Callee P w K mg base n "comes_by" ["day","clock","t","s"] (qhp9 T)):FnOk P w K mg base CX0 (n+1) f fd ["day","tables","place","t","s"] (spLeast T):=by
 refine F.okQ sc_least_round (fun vs H Q E h=>?_) (fun cdv A outer s H vs Q E hr h=>?_)
 ·obtain ⟨_,_,_,_,_,_,rfl,_⟩:=h
  rfl
 obtain ⟨d,pl,Ts,p,t,s',rfl,Lq,hT,p0,hA,q⟩:=h
 refine ⟨_,(qab9 (qea9 PassesOwn.never rfl (qkw9 rfl B.enumerate (qa_c (qv 1) qac9)) (qfb9 rfl (qaj9 (qam9 (i:=5) sc_least_round.nd rfl (Or.inl rfl)) (qaj9 (qam9 (i:=6) sc_least_round.nd rfl (Or.inl rfl)) qct9))) (qae9 (qs_if (qcq9 (qe_fn Cn0 hr rfl (qa_c (qv 0) (qa_c (qe_ix qai9 (qv 6) (qv 2) (fun _ _=>rfl)) (qa_c (qv 3) (qa_c (qv 4) qac9)))))) (qae9 (qas9 (qv 5))) qba9))) (qae9 (qas9 qmd9))),?_⟩
 try dsimp only [cx_k,cx_kn,as_nil,as_name,Nat.reduceAdd]
 obtain ⟨xs,x1,xl⟩:=Lq.lst
 refine ⟨_,rfl,pl,rfl,⟨_,SqL.of x1⟩,qhn9 (K:=K) (a:=pl) (xs:=xs)
  (fun i σ H'=>∃ v5 v6:Option V,σ=[some (.int d),some (.ref pl),some (.int p),some (.int t),some (.int s'),v5,v6]/\SameU H H'/\T H'/\∀ j,j < i->byO (Ma.bt d (cl (Ts.getD j []) p) t) s'=false)
  ⟨_,_,rfl,SameU.refl _,hT,fun j hj=>absurd hj (Nat.not_lt_zero _)⟩ (fun i σ H' _ ⟨_,_,_,u,_⟩=>SqL.of (u.lst x1)) ?_ ?_⟩
 ·intro i y pp σ H1 hi z9 hpp;obtain ⟨v5,v6,rfl,u1,t1,hf⟩ := z9
  have hi2:=(List.getElem?_eq_some_iff.mp hi).1
  have hU:Ts[i]?=some (Ts[i]'(by omega)):=List.getElem?_eq_getElem (by omega)
  have hUm:=List.mem_of_getElem? hU
  have eg:Ts.getD i []=Ts[i]'(by omega):=by rw [List.getD_eq_getElem?_getD,hU]; rfl
  generalize Ts[i]'(by omega)=U at hU hUm eg
  obtain ⟨qa,qa1,qa2⟩:=Lq.at x1 hU
  rw [hi] at qa1
  cases qa1
  have s2:=qal9 hpp (.tup [.int i,.ref qa])
  have e2:upd H1 pp (.tup [.int i,.ref qa]) pp=some (.tup [.int i,.ref qa]):=qaf9
  generalize upd H1 pp (.tup [.int i,.ref qa])=H2 at *
  have u2:=u1.trans (SameU.of s2)
  refine ⟨pp,_,rfl,SqT.of e2,rfl,_,_,rfl,_,_,rfl,rfl,?_⟩
  obtain ⟨rs,rc,r1,r2,r3,r4,r5⟩:=(qa2.u u2).at p0 (hA U hUm).1
  refine ⟨_,rfl,_,rfl,_,rfl,qa,_,_,_,rfl,rfl,SqL.of r1,r2,_,rfl,_,rfl,d,rc,t,s',_,rfl,r5,hTB.same _ _ t1 s2,(hA U hUm).2 _ (qfq9 p0 (hA U hUm).1),fun H3 u3 t3=>?_⟩
  refine ⟨_,rfl,ite2 (fun c=>?_) (fun c=>?_)⟩
  ·refine ⟨_,rfl,q (some i) H3 (u2.trans u3) t3 (.inr ⟨i,rfl,by omega,?_,hf⟩)⟩
   show byO (Ma.bt d (cl (Ts.getD i []) p) t) s'=true
   rw [eg]
   exact c
  ·refine ⟨_,_,rfl,u2.trans u3,t3,fun j hj=>?_⟩
   rcases (by omega:j < i\/j=i) with z | z
   ·exact hf j z
   ·subst z
    rw [eg]
    simpa using c
 ·intro σ H1 z9;obtain ⟨v5,v6,rfl,u1,t1,hf⟩ := z9
  exact q none H1 u1 t1 (.inl ⟨rfl,fun j hj=>hf j (by omega)⟩)
end
noncomputable def GAt (H:Hp) (d:Int) (n:Nat) (gv:V) (g:Option Tb):Prop:=(gv=.non/\g=none)\/∃ pg G,gv=.ref pg/\g=some G/\BA H pg G/\G.length=n/\∀ C∈G,Ma.CK d C
theorem GAt.u {H H':Hp} {d:Int} {n:Nat} {gv:V} {g:Option Tb} (h:GAt H d n gv g) (s:SameU H H'):GAt H' d n gv g:=by
 rcases h with h | ⟨pg,G,e1,e2,e3,e4⟩
 ·exact .inl h
 ·exact .inr ⟨pg,G,e1,e2,e3.u s,e4⟩
noncomputable def spAskBy (T:Hp->Prop):Sp:=fun vs H Q _=>∃ (d:Int) (n:Nat) (pr:Addr) (N:List RdT) (pt:Addr) (Cs:Tb) (gv:V) (g:Option Tb) (p t s:Int),vs=[.int d,.ref pr,.ref pt,gv,.int p,.int t,.int s]/\GAt H d n gv g/\0<=p/\p < (n:Int)/\NA H pr N/\BA H pt Cs/\T H/\0 < d/\NetOk d n N/\Cs.length=n/\(∀ C∈Cs,Ma.CK d C) /\
 ∀ (v:V) (H':Hp),SameU H H'->T H'->((v=.non/\∀ m∈N,m.1=p->∀ w∈m.2.2.2,(byO (Ma.bt d (cl Cs m.2.1) (Ma.nextO d w.1 w.2.1 t+w.2.2)) s && gB d g p (Ma.nextO d w.1 w.2.1 t+1) s)=false) \/
  ∃ (r:Addr) (i j:Nat) (m:RdT) (w:T3),v=.ref r/\H' r=some (.tup [.int i,.int j,.int (Ma.nextO d w.1 w.2.1 t),.int (Ma.nextO d w.1 w.2.1 t+w.2.2)])/\N[i]?=some m/\m.1=p/\m.2.2.2[j]?=some w/\byO (Ma.bt d (cl Cs m.2.1) (Ma.nextO d w.1 w.2.1 t+w.2.2)) s=true/\gB d g p (Ma.nextO d w.1 w.2.1 t+1) s=true)->Q v H'
section
variable {P:Program} {w:World} {K:W.Frag} {mg:Str->Option Value} {base:Heap} {f:Addr} {fd:FuncData} {n:Nat} {T:Hp->Prop}
theorem ok_ask_by (hTB:TB T) (F:Fun K "ask_by" "ask_by" qer9 f fd) (B:Bl mg) (Co0:Callee P w K mg base n "next_open" ["day","window","t"] spNext) (Cn0:Callee P w K mg base n "comes_by" ["day","clock","t","s"] (qhp9 T)):FnOk P w K mg base CX0 (n+1) f fd ["day","roads","told","guard","place","t","s"] (spAskBy T):=by
 refine F.okQ sc_ask_by (fun vs H Q E h=>?_) (fun cdv A outer s H vs Q E hr h=>?_)
 ·obtain ⟨_,_,_,_,_,_,_,_,_,_,_,rfl,_⟩:=h
  rfl
 obtain ⟨d,N,pr,Ns,pt,Cs,gv,g0,p,t,s',rfl,hg,P0,P1,hN,hB,hT,hd,nok,lC,ck,q⟩:=h
 refine ⟨_,(qab9 (qea9 PassesOwn.never rfl (qkw9 rfl B.enumerate (qa_c (qv 1) qac9)) (qfb9 rfl (qaj9 (qam9 (i:=7) sc_ask_by.nd rfl (Or.inl rfl)) (qaj9 (qam9 (i:=8) sc_ask_by.nd rfl (Or.inl rfl)) qct9))) (qae9 (qea9 PassesOwn.never rfl (qkw9 rfl B.enumerate (qa_c (qho9 (qdo9 (qap9 qdn9 (qe_ix qav9 (qv 8) qad9 (fun _ _=>rfl)) (qv 4) (qay9 _)) (qe_ix qav9 (qv 8) qad9 (fun _ _=>rfl)) (qch9 qac9))) qac9)) (qfb9 rfl (qaj9 (qam9 (i:=9) sc_ask_by.nd rfl (Or.inl rfl)) (qaj9 (qam9 (i:=10) sc_ask_by.nd rfl (Or.inl rfl)) qct9))) (qab9 (qak9 (i:=11) sc_ask_by.nd rfl (Or.inl rfl) (qe_fn Co0 hr rfl (qa_c (qv 0) (qa_c (qv 10) (qa_c (qv 5) qac9))))) (qab9 (qak9 (i:=12) sc_ask_by.nd rfl (Or.inl rfl) (qe_op qaw9 (qv 11) (qe_ix qav9 (qv 10) qad9 (fun _ _=>rfl)))) (qae9 (qs_if (qhv9 (QW.pt (qjk9 (qcq9 (qe_fn Cn0 hr rfl (qa_c (qv 0) (qa_c (qe_ix qai9 (qv 2) (qe_ix qav9 (qv 8) qad9 (fun _ _=>rfl)) (fun _ _=>rfl)) (qa_c (qv 12) (qa_c (qv 6) qac9)))))) (qgs9 (QW.pt (qw_or (qt_isN (qv 3)) (qfr9 (qcq9 (qe_fn Cn0 hr rfl (qa_c (qv 0) (qa_c (qe_ix qai9 (qv 3) (qv 4) (fun _ _=>rfl)) (qa_c (qe_op qaw9 (qv 11) qad9) (qa_c (qv 6) qac9))))))))))))) (qae9 (qas9 (qci9 (qa_c (qv 7) (qa_c (qv 9) (qa_c (qv 11) (qa_c (qv 12) qac9))))))) qba9))))))) (qae9 (qas9 qmd9))),?_⟩
 try dsimp only [cx_k,cx_kn,as_nil,as_name,Nat.reduceAdd]
 obtain ⟨ws,hw1,hw2,hw3⟩:=hN.la.lst
 rw [List.length_map] at hw2
 refine ⟨_,rfl,pr,rfl,⟨_,SqL.of hw1⟩,qhn9 (K:=K) (a:=pr) (xs:=ws)
  (fun i σ H'=>∃ v7 v8 v9 v10 v11 v12:Option V,σ=[some (.int d),some (.ref pr),some (.ref pt),some gv,some (.int p),some (.int t),some (.int s'),v7,v8,v9,v10,v11,v12]/\SameU H H'/\T H'/\∀ (k:Nat) m,k < i->Ns[k]?=some m->m.1=p->∀ w∈m.2.2.2,(byO (Ma.bt d (cl Cs m.2.1) (Ma.nextO d w.1 w.2.1 t+w.2.2)) s' && gB d g0 p (Ma.nextO d w.1 w.2.1 t+1) s')=false)
  ⟨_,_,_,_,_,_,rfl,SameU.refl _,hT,fun k m hk=>absurd hk (Nat.not_lt_zero _)⟩ (fun i σ H' _ ⟨_,_,_,_,_,_,_,u,_⟩=>SqL.of (u.lst hw1)) ?_ ?_⟩
 ·intro i y pp σ H1 hi z9 hpp;obtain ⟨v7,v8,v9,v10,v11,v12,rfl,u1,t1,hf⟩ := z9
  obtain ⟨r,x,rfl,ex,er⟩:=hw3 i y hi
  have hi2:i < Ns.length:=by
   have:=(List.getElem?_eq_some_iff.mp hi).1
   omega
  have em:=List.getElem?_eq_getElem hi2
  rw [List.getElem?_map,em] at ex
  cases ex
  have hm:=List.getElem_mem hi2
  generalize Ns[i]=g at *
  obtain ⟨⟨a0,a1⟩,⟨b0,b1⟩,_,hwin⟩:=nok.all g hm
  obtain ⟨laG,_⟩:=hN.bd g hm
  have er1:=u1.tup er
  have s2:=qal9 hpp (.tup [.int i,.ref r])
  have e2:upd H1 pp (.tup [.int i,.ref r]) pp=some (.tup [.int i,.ref r]):=qaf9
  generalize upd H1 pp (.tup [.int i,.ref r])=H2 at *
  have er2:=s2 _ _ er1
  have u2:=u1.trans (SameU.of s2)
  have t2:=hTB.same _ _ t1 s2
  refine ⟨pp,_,rfl,SqT.of e2,rfl,_,_,rfl,_,_,rfl,rfl,?_⟩
  refine ⟨fun v H'=>∃ (l:Addr) (R:List T3),v=.ref l/\SameU H H'/\T H'/\LA enc3 H' l R/\((g.1=p/\R=g.2.2.2)\/(g.1 ≠ p/\R=[])),?_,?_⟩
  ·refine ⟨_,rfl,r,_,_,_,rfl,rfl,SqT.of er2,rfl,_,rfl,rfl,_,rfl,ite2 (fun c=>?_) (fun c=>?_)⟩
   ·have c':g.1=p:=by
     have:=of_decide_eq_true c
     injection this
    exact ⟨_,rfl,r,_,_,_,rfl,rfl,SqT.of er2,rfl,_,_,rfl,u2,t2,laG.u u2,.inl ⟨c',rfl⟩⟩
   ·have c':g.1 ≠ p:=fun z=>c (decide_eq_true (by rw [<- z]; rfl))
    exact ⟨(by show 0<=sizeLine; decide),fun l hl=>⟨l,[],rfl,u2.trans (SameU.of (qal9 hl _)),hTB.same _ _ t2 (qal9 hl _),LA.nil qaf9,.inr ⟨c',rfl⟩⟩⟩
  intro v H3 z9;obtain ⟨l,R,rfl,u3,t3,la3,eR⟩ := z9
  obtain ⟨xs,x1,x2,x3⟩:=la3.lst
  refine ⟨l,rfl,⟨_,SqL.of x1⟩,qhn9 (K:=K) (a:=l) (xs:=xs)
   (fun j σ H'=>∃ v9 v10 v11 v12:Option V,σ=[some (.int d),some (.ref pr),some (.ref pt),some gv,some (.int p),some (.int t),some (.int s'),some (.int i),some (.ref r),v9,v10,v11,v12]/\SameU H3 H'/\T H'/\∀ (k:Nat) w,k < j->R[k]?=some w->(byO (Ma.bt d (cl Cs g.2.1) (Ma.nextO d w.1 w.2.1 t+w.2.2)) s' && gB d g0 p (Ma.nextO d w.1 w.2.1 t+1) s')=false)
   ⟨_,_,_,_,rfl,SameU.refl _,t3,fun k m hk=>absurd hk (Nat.not_lt_zero _)⟩ (fun i σ H' _ ⟨_,_,_,_,_,u,_⟩=>SqL.of (u.lst x1)) ?_ ?_⟩
  ·intro j y p4 σ H4 hj z9 hp4;obtain ⟨v9,v10,v11,v12,rfl,u4,t4,hf4⟩ := z9
   obtain ⟨rw',w',rfl,ew',er'⟩:=x3 j y hj
   have s5:=qal9 hp4 (.tup [.int j,.ref rw'])
   have e5:upd H4 p4 (.tup [.int j,.ref rw']) p4=some (.tup [.int j,.ref rw']):=qaf9
   generalize upd H4 p4 (.tup [.int j,.ref rw'])=H5 at *
   have u5:=u4.trans (SameU.of s5)
   have t5:=hTB.same _ _ t4 s5
   have U5:=u3.trans u5
   have er5:Tup3 H5 rw' w'.1 w'.2.1 w'.2.2:=u5.tup er'
   have erg:=U5.tup er
   refine ⟨p4,_,rfl,SqT.of e5,rfl,_,_,rfl,_,_,rfl,rfl,?_⟩
   refine ⟨_,rfl,_,rfl,_,rfl,d,rw',_,_,_,t,rfl,hd,er5,?_⟩
   refine ⟨_,rfl,_,rfl,rw',_,_,_,rfl,rfl,SqT.of er5,rfl,_,_,rfl,rfl,?_⟩
   dsimp only
   obtain ⟨ts,tc,q1,q2,q3,q4,q5⟩:=(hB.u U5).at b0 (by rw [lC]; exact b1)
   refine ⟨fun b H'=>b=(byO (Ma.bt d (cl Cs g.2.1) (Ma.nextO d w'.1 w'.2.1 t+w'.2.2)) s' && gB d g0 p (Ma.nextO d w'.1 w'.2.1 t+1) s')/\SameU H5 H'/\T H',?_,?_⟩
   ·refine ⟨_,rfl,_,rfl,_,rfl,r,_,_,_,rfl,rfl,SqT.of erg,rfl,pt,_,_,_,rfl,rfl,SqL.of q1,q2,_,rfl,_,rfl,d,tc,_,s',_,rfl,q5,t5,ck _ (qfq9 b0 (by rw [lC]; exact b1)),fun H6 u6 t6=>?_⟩
    refine ⟨_,rfl,ite2 (fun c=>?_) (fun c=>?_)⟩
    ·rcases (hg.u (U5.trans u6)) with ⟨rfl,rfl⟩ | ⟨pg,G,rfl,rfl,hG,lG,ckG⟩
     ·refine ⟨_,rfl,_,rfl,iteP rfl ⟨?_,u6,t6⟩⟩
      rw [c]
      rfl
     ·obtain ⟨gs,gc,k1,k2,k3,k4,k5⟩:=hG.at P0 (by rw [lG]; exact P1)
      refine ⟨_,rfl,_,rfl,iteN (by simp) ?_⟩
      refine ⟨_,rfl,_,rfl,_,rfl,pg,_,_,_,rfl,rfl,SqL.of k1,k2,_,rfl,_,_,rfl,rfl,_,rfl,d,gc,_,s',_,rfl,k5,t6,ckG _ (qfq9 P0 (by rw [lG]; exact P1)),fun H7 u7 t7=>?_⟩
      refine ⟨_,rfl,?_,u6.trans u7,t7⟩
      rw [c]
      rfl
    ·refine ⟨?_,u6,t6⟩
     have c':byO (Ma.bt d (cl Cs g.2.1) (Ma.nextO d w'.1 w'.2.1 t+w'.2.2)) s'=false:=by simpa using c
     rw [c']
     rfl
   intro b H6 z9;obtain ⟨rfl,u6,t6⟩ := z9
   have U6:=U5.trans u6
   refine ite2 (fun c=>?_) (fun c=>?_)
   ·rcases eR with ⟨eg,rfl⟩ | ⟨_,rfl⟩
    ·refine ⟨_,rfl,_,rfl,_,rfl,_,rfl,(by show 4<=sizeLine; decide),fun r7 hr7=>?_⟩
     generalize hgH7:upd _ r7 _=H7
     obtain ⟨s7,e7⟩:=qaq9 hr7 hgH7
     clear hgH7
     exact q _ H7 (U6.trans (SameU.of s7)) (hTB.same _ _ t6 s7) (.inr ⟨r7,i,j,g,w',rfl,e7,em,eg,ew',(Bool.and_eq_true_iff.mp c).1,(Bool.and_eq_true_iff.mp c).2⟩)
    ·cases ew'
   ·refine ⟨_,_,_,_,rfl,u5.trans u6,t6,fun k w hk hw=>?_⟩
    rcases (by omega:k < j\/k=j) with z | z
    ·exact hf4 k w z hw
    ·subst z
     rw [ew'] at hw
     cases hw
     simpa using c
  ·intro σ H4 z9;obtain ⟨v9,v10,v11,v12,rfl,u4,t4,hf4⟩ := z9
   refine ⟨_,_,_,_,_,_,rfl,u3.trans u4,t4,fun k m hk hkm eg w hw=>?_⟩
   rcases (by omega:k < i\/k=i) with z | z
   ·exact hf k m z hkm eg w hw
   ·subst z
    rw [em] at hkm
    cases hkm
    rcases eR with ⟨_,rfl⟩ | ⟨z,_⟩
    ·obtain ⟨k',hk'⟩:=List.getElem?_of_mem hw
     exact hf4 k' w (by rw [x2]; exact (List.getElem?_eq_some_iff.mp hk').1) hk'
    ·exact absurd eg z
 ·intro σ H1 z9;obtain ⟨v7,v8,v9,v10,v11,v12,rfl,u1,t1,hf⟩ := z9
  refine q .non H1 u1 t1 (.inl ⟨rfl,fun m hm=>?_⟩)
  obtain ⟨k,hk⟩:=List.getElem?_of_mem hm
  exact hf k m (by rw [hw2]; exact (List.getElem?_eq_some_iff.mp hk).1) hk
end
noncomputable abbrev Ri:=Int × Int × Int × Int
noncomputable def encR (r:Ri):List V:=[.int r.1,.int r.2.1,.int r.2.2.1,.int r.2.2.2]
noncomputable def Rd1 (d:Int) (N:List RdT) (p t:Int) (r:Ri) (q y:Int):Prop:=∃ (i j:Nat) (m:RdT) (w:T3),r=((i:Int),(j:Int),Ma.nextO d w.1 w.2.1 t,Ma.nextO d w.1 w.2.1 t+w.2.2)/\N[i]?=some m/\m.1=p/\m.2.2.2[j]?=some w/\q=m.2.1/\y=r.2.2.2
noncomputable def WkG (d:Int) (N:List RdT) (g:Option Tb) (s:Int):List Ri->Int->Int->Int->Int->Prop
 | [],p,t,q,y=>p=q/\t=y
 | r :: rs,p,t,q,y=>∃ q' y',Rd1 d N p t r q' y'/\gB d g p (r.2.2.1+1) s=true/\WkG d N g s rs q' y' q y
theorem WkG.snoc {d:Int} {N:List RdT} {g:Option Tb} {s:Int}:∀ {rs:List Ri} {p t q y:Int} {r:Ri} {q' y':Int},WkG d N g s rs p t q y->Rd1 d N q y r q' y'->gB d g q (r.2.2.1+1) s=true->WkG d N g s (rs ++ [r]) p t q' y'
 | [],p,t,q,y,r,q',y',⟨e1,e2⟩,h,hg=>⟨q',y',by rw [e1,e2]; exact h,by rw [e1]; exact hg,rfl,rfl⟩
 | x :: rs,p,t,q,y,r,q',y',⟨q1,y1,h1,h2,h3⟩,h,hg=>⟨q1,y1,h1,h2,h3.snoc h hg⟩
noncomputable def spWalkG (T:Hp->Prop):Sp:=fun vs H Q _=>∃ (d:Int) (n:Nat) (pr:Addr) (N:List RdT) (pl:Addr) (Ts:List Tb) (gv:V) (g:Option Tb) (p t:Int) (goal:Int),vs=[.int d,.ref pr,.ref pl,gv,.int p,.int t]/\NA H pr N/\LV H pl Ts/\GAt H d n gv g/\T H/\0 < d/\NetOk d n N/\1<=n/\n<=1000/\Ts.length=n/\0<=p/\p < (n:Int)/\(∀ (i:Nat) A,Ts[i]?=some A->A.length=n/\∀ C∈A,Ma.CK d C)/\Stp d n goal N g Ts /\
 ∀ (v:V) (H':Hp),SameU H H'->T H'->((v=.non/\Ma.bt d (cl (Ts.getD (n - 1) []) p) t=none)\/∃ (l:Addr) (rs:List Ri) (s y:Int),v=.ref l/\H l=none/\LA encR H' l rs/\Ma.bt d (cl (Ts.getD (n - 1) []) p) t=some s/\WkG d N g s rs p t goal y/\y<=s/\rs.length < n/\∀ i,i < rs.length->byO (Ma.bt d (cl (Ts.getD i []) p) t) s=false)->Q v H'
section
variable {P:Program} {w:World} {K:W.Frag} {mg:Str->Option Value} {base:Heap} {f:Addr} {fd:FuncData} {n:Nat} {T:Hp->Prop}
theorem ok_walk (hTB:TB T) (F:Fun K "walk" "walk" qhd9 f fd) (B:Bl mg) (Cw0:Callee P w K mg base n "come" ["day","clock","t"] (qir9 T)) (Cy0:Callee P w K mg base n "least_round" ["day","tables","place","t","s"] (spLeast T)) (Cr1:Callee P w K mg base n "ask_by" ["day","roads","told","guard","place","t","s"] (spAskBy T)):FnOk P w K mg base CX0 (n+1) f fd ["day","roads","tables","guard","place","t"] (spWalkG T):=by
 refine F.okQ sc_walk (fun vs H Q E h=>?_) (fun cdv A outer s H vs Q E hr h=>?_)
 ·obtain ⟨_,_,_,_,_,_,_,_,_,_,_,rfl,_⟩:=h
  rfl
 obtain ⟨d,n,pr,N,pl,Ts,gv,g,p,t,goal,rfl,hN,hL,hg,hT,hd,nok,n1,n2,lT,p0,p1,ech,stp,q⟩:=h
 refine ⟨_,(qab9 (qak9 (i:=6) sc_walk.nd rfl (Or.inl rfl) (qe_fn Cw0 hr rfl (qa_c (qv 0) (qa_c (qe_ix qai9 (qe_ix qai9 (qv 2) (qec9 qad9) (fun _ _=>rfl)) (qv 4) (fun _ _=>rfl)) (qa_c (qv 5) qac9))))) (qab9 (qs_if (qt_isN (qv 6)) (qae9 (qas9 qmd9)) qba9) (qab9 (qak9 (i:=7) sc_walk.nd rfl (Or.inl rfl) (qe_fn Cy0 hr rfl (qa_c (qv 0) (qa_c (qv 2) (qa_c (qv 4) (qa_c (qv 5) (qa_c (qv 6) qac9))))))) (qab9 (qak9 (i:=8) sc_walk.nd rfl (Or.inl rfl) (qch9 qac9)) (qab9 (qef9 PassesOwn.never (qap9 qfs9 (qv 7) qad9 (qay9 _)) (qab9 (qoi9 (i:=7) sc_walk.nd rfl (Or.inl rfl) ip_sub qad9) (qab9 (qak9 (i:=9) sc_walk.nd rfl (Or.inl rfl) (qe_fn Cr1 hr rfl (qa_c (qv 0) (qa_c (qv 1) (qa_c (qe_ix qai9 (qv 2) (qv 7) (fun _ _=>rfl)) (qa_c (qv 3) (qa_c (qv 4) (qa_c (qv 5) (qa_c (qv 6) qac9))))))))) (qab9 (qbc9 (qbg9 (qv 8) (qa_c (qv 9) qac9))) (qab9 (qak9 (i:=4) sc_walk.nd rfl (Or.inl rfl) (qe_ix qav9 (qe_ix qai9 (qv 1) (qe_ix qav9 (qv 9) qad9 (fun _ _=>rfl)) (fun _ _=>rfl)) qad9 (fun _ _=>rfl))) (qae9 (qak9 (i:=5) sc_walk.nd rfl (Or.inl rfl) (qe_ix qav9 (qv 9) qad9 (fun _ _=>rfl))))))))) (qae9 (qas9 (qv 8)))))))),?_⟩
 try dsimp only [cx_k,cx_kn,as_nil,as_name,Nat.reduceAdd]
 have hlen:∀ j,j < n->Ts[j]?=some (Ts.getD j []):=fun j hj=>qes9 lT hj
 have each:∀ j,j < n->(Ts.getD j []).length=n/\∀ C∈Ts.getD j [],Ma.CK d C:=fun j hj=>ech j _ (hlen j hj)
 obtain ⟨xs,x1,xl⟩:=hL.lst
 obtain ⟨qa,qa1,qa2⟩:=hL.at x1 (hlen (n - 1) (by omega))
 have a1:atI xs (-1)=some (.ref qa):=by
  have:=qez9 (xs:=xs) (k:=1) (Nat.le_refl _) (by omega)
  rw [xl,lT] at this
  exact this.trans qa1
 obtain ⟨rs,rc,r1,r2,r3,r4,r5⟩:=qa2.at p0 (by rw [(each (n - 1) (by omega)).1]; exact p1)
 refine ⟨_,rfl,_,rfl,_,rfl,pl,_,_,_,rfl,rfl,SqL.of x1,a1,_,rfl,qa,_,_,_,rfl,rfl,SqL.of r1,r2,_,rfl,d,rc,t,_,rfl,r5,hT,(each (n - 1) (by omega)).2 _ (qfq9 p0 (by rw [(each (n - 1) (by omega)).1]; exact p1)),fun H1 u1 t1=>?_⟩
 cases es:Ma.bt d (cl (Ts.getD (n - 1) []) p) t with
 | none=>exact ⟨_,rfl,_,rfl,iteP (by simp [optV]) (q .non H1 u1 t1 (.inl ⟨rfl,es⟩))⟩
 | some s' =>
 refine ⟨_,rfl,_,rfl,iteN (by simp [optV]) ?_⟩
 refine ⟨_,rfl,_,rfl,_,rfl,_,rfl,_,rfl,d,pl,Ts,p,t,s',rfl,hL.u u1,t1,p0,fun A hA=>?_,fun r H2 u2 t2 fb=>?_⟩
 ·obtain ⟨i,hi⟩:=List.getElem?_of_mem hA
  have:=(List.getElem?_eq_some_iff.mp hi).1
  obtain ⟨a,b⟩:=ech i A hi
  exact ⟨by rw [a]; exact p1,b⟩
 rw [lT] at fb
 have q:=fun l rs y H' u t a b c e z=>q (.ref l) H' u t (.inr ⟨l,rs,s',y,rfl,a,b,es,c,e,z⟩)
 have ls:byO (Ma.bt d (cl (Ts.getD (n - 1) []) p) t) s'=true:=by rw [es]; exact decide_eq_true (Int.le_refl _)
 obtain ⟨L0,rfl,lz1,lz2,lz3⟩:∃ L0,r=some L0/\L0 < n/\byO (Ma.bt d (cl (Ts.getD L0 []) p) t) s'=true/\∀ i,i < L0->byO (Ma.bt d (cl (Ts.getD i []) p) t) s'=false:=by
  rcases fb with ⟨_,fb⟩ | fb
  ·have z:=fb (n - 1) (by omega)
   exact absurd (z.symm.trans ls) (by decide)
  ·exact fb
 refine ⟨(by show 0<=sizeLine; decide),fun l hl=>?_⟩
 have u12:=u1.trans u2
 have hl0:H l=none:=u12.free hl
 have s3:=qal9 hl (.lst [])
 have e3:upd H2 l (.lst []) l=some (.lst []):=qaf9
 generalize upd H2 l (.lst [])=H3 at *
 refine qed9 (fun σ H'=>∃ (p' t':Int) (L:Nat) (rs:List Ri) (v:Option V),σ=[some (.int d),some (.ref pr),some (.ref pl),some gv,some (.int p'),some (.int t'),some (.int s'),some (.int L),some (.ref l),v]/\SameU H H'/\T H'/\LA encR H' l rs/\rs.length+L=L0/\WkG d N g s' rs p t p' t'/\0<=p'/\p' < (n:Int)/\byO (Ma.bt d (cl (Ts.getD L []) p') t') s'=true/\∀ i,i < L->byO (Ma.bt d (cl (Ts.getD i []) p') t') s'=false)
  (fun σ _=>match σ with | [_,_,_,_,_,_,_,some (.int l),_,_]=>l.toNat | _=>0) ⟨p,t,L0,[],none,rfl,u12.trans (SameU.of s3),hTB.same _ _ t2 s3,LA.nil e3,by simp,⟨rfl,rfl⟩,p0,p1,lz2,lz3⟩ ?_ ?_
 ·intro σ H4 z9;obtain ⟨p',t',L,rs,v,rfl,u4,t4,la4,ll,wk,p0',p1',bT,bF⟩ := z9
  refine ⟨_,rfl,_,_,rfl,rfl,_,rfl,ite2 (fun c=>?_) (fun c=>?_)⟩
  ·have c':(0:Int) < (L:Int):=of_decide_eq_true c
   obtain ⟨M,rfl⟩:∃ M,L=M+1:=⟨L - 1,by omega⟩
   have hM:=hlen M (by omega)
   have hL4:=hL.u u4
   have x4:=u4.lst x1
   obtain ⟨qb,qb1,qb2⟩:=hL4.at x4 hM
   have ab:atI xs (M:Int)=some (.ref qb):=qeu9 qb1
   refine ⟨_,rfl,_,_,rfl,rfl,?_⟩
   dsimp only
   rw [show ((M+1:Nat):Int) - 1=(M:Int) by omega]
   refine ⟨_,rfl,_,rfl,_,rfl,_,rfl,pl,_,_,_,rfl,rfl,SqL.of x4,ab,_,rfl,_,rfl,_,rfl,_,rfl,d,n,pr,N,qb,_,gv,g,p',t',s',rfl,hg.u u4,p0',p1',hN.u u4,qb2,t4,hd,nok,(each M (by omega)).1,(each M (by omega)).2,fun v5 H5 u5 t5 alt=>?_⟩
   rcases alt with ⟨rfl,no⟩ | ⟨r5,i5,j5,m5,w5,rfl,e5,g1,g2,g3,g4,g5⟩
   ·exfalso
    rcases (stp.step M (by omega) p' p0' p1' t' s').mp bT with z | ⟨x,hx,ex,w',hw',k1,k2⟩
    ·rw [bF M (by omega)] at z
     cases z
    ·have no:=no x hx ex w' hw'
     rw [k1,k2] at no
     cases no
   have hm5:=List.mem_of_getElem? g1
   obtain ⟨⟨a0,a1⟩,⟨b0,b1⟩,_,_⟩:=nok.all m5 hm5
   have nostep:∀ i,i+1 < M+1->byO (Ma.bt d (cl (Ts.getD i []) m5.2.1) (Ma.nextO d w5.1 w5.2.1 t'+w5.2.2)) s'=false:=fun i hi=>by
    cases e:byO (Ma.bt d (cl (Ts.getD i []) m5.2.1) (Ma.nextO d w5.1 w5.2.1 t'+w5.2.2)) s' with
    | false=>rfl
    | true =>
     have:=(stp.step i (by omega) p' p0' p1' t' s').mpr (.inr ⟨m5,hm5,g2,w5,List.mem_of_getElem? g3,e,g5⟩)
     rw [bF (i+1) hi] at this
     cases this
   have rd1:Rd1 d N p' t' ((i5:Int),(j5:Int),Ma.nextO d w5.1 w5.2.1 t',Ma.nextO d w5.1 w5.2.1 t'+w5.2.2) m5.2.1 (Ma.nextO d w5.1 w5.2.1 t'+w5.2.2):=⟨i5,j5,m5,w5,rfl,g1,g2,g3,rfl,rfl⟩
   generalize Ma.nextO d w5.1 w5.2.1 t'+w5.2.2=z5 at *
   obtain ⟨vs,v1,v2,v3⟩:=la4.lst
   have v5:=u5.lst v1
   have la6:=(la4.u u5).append (x:=((i5:Int),(j5:Int),Ma.nextO d w5.1 w5.2.1 t',z5)) v5 e5
   have u6:SameU H (upd H5 l (.lst (vs ++ [.ref r5]))):=SameU.wr hl0 (u4.trans u5)
   have t6:=hTB.wr _ _ _ (vs ++ [.ref r5]) t5 v5
   have e6:upd H5 l (.lst (vs ++ [.ref r5])) r5=some (.tup (encR ((i5:Int),(j5:Int),Ma.nextO d w5.1 w5.2.1 t',z5))):=by
    rw [qao9 (fun z=>by rw [z,v5] at e5; cases e5)]
    exact e5
   refine ⟨_,rfl,.inl ⟨rfl,_,SqL.of v5⟩,_,rfl,l,_,_,rfl,rfl,v5,qbj9 (by omega),?_⟩
   generalize upd H5 l (.lst (vs ++ [.ref r5]))=H6 at *
   obtain ⟨ws,hw1,hw2,hw3⟩:=(hN.u u6).la.lst
   rw [List.length_map] at hw2
   have hi5:=(List.getElem?_eq_some_iff.mp g1).1
   obtain ⟨r7,x7,y7,ex7,er7⟩:=hw3 i5 _ (List.getElem?_eq_getElem (by omega))
   rw [List.getElem?_map,g1] at ex7
   cases ex7
   have a7:atI ws (i5:Int)=some (.ref r7):=by rw [<- y7]; exact qeu9 (List.getElem?_eq_getElem (by omega))
   refine ⟨_,rfl,_,rfl,r5,_,_,_,rfl,rfl,SqT.of e6,rfl,pr,_,_,_,rfl,rfl,SqL.of hw1,a7,r7,_,_,_,rfl,rfl,SqT.of er7,rfl,?_⟩
   refine ⟨_,rfl,r5,_,_,_,rfl,rfl,SqT.of e6,rfl,?_⟩
   refine ⟨⟨m5.2.1,z5,M,_,_,rfl,u6,t6,la6,by simp; omega,wk.snoc rd1 g5,b0,b1,g4,fun i hi=>nostep i (by omega)⟩,?_⟩
   ·show (M:Int).toNat < ((M+1:Nat):Int).toNat
    omega
  ·have c':¬ (0:Int) < (L:Int):=fun z=>c (decide_eq_true z)
   have:L=0:=by omega
   subst this
   obtain ⟨e1,e2⟩:=(stp.first p' p0' p1' t' s').mp bT
   subst e1
   exact ⟨_,rfl,q l rs t' H4 u4 t4 hl0 la4 wk e2 ⟨by omega,fun i hi=>lz3 i (by omega)⟩⟩
 ·intro σ H Q Q' h ⟨x,e,i,j,e1,e2,b,e3,e4⟩
  exact ⟨x,e,i,j,e1,e2,b,e3,h _ _ e4⟩
end
noncomputable def TBI (T:Hp->Prop):Prop:=∀ (H:Hp) (x C dx:Addr) (fs fs':List (Str × V)),T H->H x=some (.ins C dx fs)->T (upd H x (.ins C dx fs'))
theorem qko9 (P:Addr) (pos:Pos) (q:Str):TBI fun H=>TabOk H P pos q:=fun H x C dx fs fs' t e=>by
 obtain ⟨ps,h1,h2,h3⟩:=t
 refine ⟨ps,by rw [qao9 (fun z=>by rw [z,e] at h1; cases h1)]; exact h1,h2,?_⟩
 rcases h3 with h3 | ⟨c,h3,h4⟩
 ·exact .inl h3
 ·exact .inr ⟨c,h3,by rw [qao9 (fun z=>by rw [z,e] at h4; cases h4)]; exact h4⟩
theorem TBI.and {T T':Hp->Prop} (h:TBI T) (h':TBI T'):TBI fun H=>T H/\T' H:=fun H x C dx fs fs' t e=>⟨h H x C dx fs fs' t.1 e,h' H x C dx fs fs' t.2 e⟩
theorem upd_two {H:Hp} {x:Addr} {a b:HO}:upd (upd H x a) x b=upd H x b:=funext fun c=>by
 by_cases e:c=x
 ·rw [e,qaf9,qaf9]
 ·rw [qao9 e,qao9 e,qao9 e]
theorem hide_updI (H:Hp) (x:Addr) (o:HO):SameU (hide x H) (upd H x o):=by
 refine SameU.of fun b u e=>?_
 unfold hide at e
 by_cases c:b=x
 ·rw [if_pos c] at e
  cases e
 ·rw [if_neg c] at e
  rw [qao9 c]
  exact e
section
variable {H:Hp} {x C dx:Addr} {fs:List (Str × V)}
theorem LA.hideI {α:Type} {enc:α->List V} {p:Addr} {R:List α} (h:LA enc H p R) (e:H x=some (.ins C dx fs)):LA enc (My.hide x H) p R:=by
 obtain ⟨rs,h1,h2,h3⟩:=h.ex
 refine ⟨rs,qdu9 h1 (fun z=>by rw [z,e] at h1; cases h1),h2,fun i r y e1 e2=>?_⟩
 have:=h3 i r y e1 e2
 exact qdu9 this fun z=>by rw [z,e] at this; cases this
theorem NA.hideI {p:Addr} {N:List RdT} (h:NA H p N) (e:H x=some (.ins C dx fs)):NA (My.hide x H) p N:=⟨h.la.hideI e,fun m hm=>⟨(h.bd m hm).1.hideI e,(h.bd m hm).2⟩,h.nd⟩
theorem BA.hideI {p:Addr} {D:Tb} (h:BA H p D) (e:H x=some (.ins C dx fs)):BA (My.hide x H) p D:=by
 obtain ⟨rs,h1,h2,h3,h4,h5⟩:=h
 exact ⟨rs,qdu9 h1 (fun z=>by rw [z,e] at h1; cases h1),h2,h3,h4,fun i r B a b=>(h5 i r B a b).hideI e⟩
theorem hide_swap (p x:Addr) (H:Hp):hide p (hide x H)=hide x (hide p H):=funext fun b=>by
 unfold hide
 by_cases c:b=p
 ·by_cases c2:b=x
  ·rw [if_pos c,if_pos c2]
  ·rw [if_pos c,if_neg c2,if_pos c]
 ·by_cases c2:b=x
  ·rw [if_neg c,if_pos c2,if_pos c2]
  ·rw [if_neg c,if_neg c2,if_neg c2,if_neg c]
theorem LV.hideI {p:Addr} {Ts:List Tb} (h:LV H p Ts) (e:H x=some (.ins C dx fs)):LV (My.hide x H) p Ts:=by
 obtain ⟨qs,h1,h2,h3⟩:=h
 exact ⟨qs,qdu9 h1 (fun z=>by rw [z,e] at h1; cases h1),h2,fun i q D a b=>(h3 i q D a b).hideI e⟩
theorem LRs.hideI {p:Addr} {Tss:List (List Tb)} (h:LRs H p Tss) (e:H x=some (.ins C dx fs)):LRs (My.hide x H) p Tss:=by
 obtain ⟨ls,h1,h2,h3⟩:=h
 have np:x ≠ p:=fun z=>by rw [<- z,e] at h1; cases h1
 refine ⟨ls,qdu9 h1 (Ne.symm np),h2,fun i l D a b=>?_⟩
 rw [hide_swap]
 exact (h3 i l D a b).hideI (qdu9 e np)
end
noncomputable abbrev gfs (l pr:Addr) (d:Int) (n:Nat):List (Str × V):=[("levels",.ref l),("day",.int d),("size",.int n),("roads",.ref pr)]
structure GateAt (C:Addr) (H:Hp) (x:Addr) (d:Int) (n:Nat) (M:List RdT) (Cs:List (List Tb)):Prop where
 ex:∃ dx l pr,H x=some (.ins C dx (gfs l pr d n))/\LRs H l Cs/\NA H pr M
theorem GateAt.u {C:Addr} {H H':Hp} {x:Addr} {d:Int} {n:Nat} {M:List RdT} {Cs:List (List Tb)} (h:GateAt C H x d n M Cs) (s:SameU H H'):GateAt C H' x d n M Cs:=by
 obtain ⟨dx,l,pr,h1,h2,h3⟩:=h.ex
 exact ⟨dx,l,pr,s.1 _ _ h1 (fun _ z=>nomatch z),h2.u s,h3.u s⟩
structure GTxt (K:W.Frag) (C:Addr):Prop where
 cl:Cls K C
 nl:NoAttr K C "levels"
 nd:NoAttr K C "day"
 ns:NoAttr K C "size"
 nr:NoAttr K C "roads"
noncomputable def TssOk (d:Int) (n:Nat) (Tss:List (List Tb)):Prop:=1<=n/\∀ (k:Nat) Ts,Tss[k]?=some Ts->Ts.length=n/\∀ (i:Nat) A,Ts[i]?=some A->A.length=n/\∀ C∈A,Ma.CK d C
theorem LvR.tss {d:Int} {n:Nat} {goal:Int} {N:List RdT} {Tss:List (List Tb)} (n1:1<=n) (ok:LvR d n goal N Tss):TssOk d n Tss:=⟨n1,fun k Ts h=>⟨(ok.len k Ts h).1,fun i A hA=>⟨((ok.len k Ts h).2 i A hA).1,fun C hC=>by
 obtain ⟨_,M,tok⟩:=(ok.len k Ts h).2 i A hA
 exact (tok C hC).1⟩⟩⟩
noncomputable def gOf (Tss:List (List Tb)) (n:Nat):Nat->Option Tb
 | 0=>none
 | k+1=>some ((Tss.getD k []).getD (n - 1) [])
theorem LvR.stp {d:Int} {n:Nat} {goal:Int} {N:List RdT} {Tss:List (List Tb)} {k:Nat} {Ts:List Tb} (hd:0 < d) (n1:1<=n) (nok:NetOk d n N) (ok:LvR d n goal N Tss) (h:Tss[k]?=some Ts):Stp d n goal N (gOf Tss n k) Ts:=by
 match k,h with
 | 0,h =>
  obtain ⟨F,m,fo,fok,ts⟩:=ok.zero Ts h
  exact ts.stp hd n1 nok fo fok (ok.len 0 Ts h).1
 | k+1,h =>
  have lk:=(List.getElem?_eq_some_iff.mp h).1
  have hU:Tss[k]?=some (Tss.getD k []):=by
   rw [List.getD_eq_getElem?_getD,List.getElem?_eq_getElem (by omega)]
   rfl
  obtain ⟨A,m,dA,br,ts⟩:=ok.suc k _ Ts _ hU h (qes9 (ok.len k _ hU).1 (by omega))
  exact ts.stp hd n1 nok dA br (ok.len _ Ts h).1
theorem qig9 {N M:List RdT} (e:M.map strip=N.map strip) {m:RdT} (h:m∈N):∃ m'∈M,m'.1=m.1/\m'.2.1=m.2.1/\m'.2.2.2=m.2.2.2:=by
 have:strip m∈M.map strip:=by rw [e]; exact List.mem_map.mpr ⟨m,h,rfl⟩
 obtain ⟨m',hm',em⟩:=List.mem_map.mp this
 exact ⟨m',hm',congrArg (fun x:Int × Int × List T3=>x.1) em,congrArg (fun x:Int × Int × List T3=>x.2.1) em,congrArg (fun x:Int × Int × List T3=>x.2.2) em⟩
theorem strip_get {N M:List RdT} (e:M.map strip=N.map strip) {i:Nat} {m:RdT} (h:N[i]?=some m):∃ m',M[i]?=some m'/\m'.1=m.1/\m'.2.1=m.2.1/\m'.2.2.2=m.2.2.2:=by
 have:(M.map strip)[i]?=some (strip m):=by rw [e,List.getElem?_map,h]; rfl
 rw [List.getElem?_map] at this
 obtain ⟨m',hm',em⟩:=Option.map_eq_some_iff.mp this
 exact ⟨m',hm',congrArg (fun x:Int × Int × List T3=>x.1) em,congrArg (fun x:Int × Int × List T3=>x.2.1) em,congrArg (fun x:Int × Int × List T3=>x.2.2) em⟩
theorem Stp.strip {d:Int} {n:Nat} {goal:Int} {N M:List RdT} {g:Option Tb} {Ts:List Tb} (h:Stp d n goal N g Ts) (e:M.map strip=N.map strip):Stp d n goal M g Ts:=by
 refine ⟨h.first,fun i hi p p0 p1 t s=>(h.step i hi p p0 p1 t s).trans ⟨fun z=>?_,fun z=>?_⟩⟩
 ·rcases z with z | ⟨m,hm,e1,w,hw,z⟩
  ·exact .inl z
  ·obtain ⟨m',hm',a,b,c⟩:=qig9 e hm
   exact .inr ⟨m',hm',a.trans e1,w,by rw [c]; exact hw,by rw [b]; exact z⟩
 ·rcases z with z | ⟨m,hm,e1,w,hw,z⟩
  ·exact .inl z
  ·obtain ⟨m',hm',a,b,c⟩:=qig9 e.symm hm
   exact .inr ⟨m',hm',a.trans e1,w,by rw [c]; exact hw,by rw [b]; exact z⟩
theorem WkG.strip {d:Int} {N M:List RdT} {g:Option Tb} {s:Int} (e:M.map strip=N.map strip):∀ {rs:List Ri} {p t q y:Int},WkG d M g s rs p t q y->WkG d N g s rs p t q y
 | [],p,t,q,y,h=>h
 | r :: rs,p,t,q,y,⟨q',y',⟨i,j,m,w,e1,e2,e3,e4,e5,e6⟩,h2,h3⟩=>by
  obtain ⟨m',hm',a,b,c⟩:=strip_get e.symm e2
  exact ⟨q',y',⟨i,j,m',w,e1,hm',a.trans e3,by rw [c]; exact e4,e5.trans b.symm,e6⟩,h2,WkG.strip e h3⟩
noncomputable def qjc9 (T:Hp->Prop) (C:Addr):Sp:=fun vs H Q _=>∃ (x dx:Addr) (d:Int) (n:Nat) (pr:Addr) (N:List RdT) (goal:Int) (most:Nat) (H0:Hp),vs=[.ref x,.int d,.int n,.ref pr,.int goal,.int most]/\H x=some (.ins C dx [])/\H0 x=none/\SameU H0 H/\NA H0 pr N/\LvIn T d n pr N goal most 66 H/\N.length<=100 /\
 ∀ (H':Hp) (M:List RdT) (Cs:List (List Tb)),SameU H0 H'->T H'->GateAt C (yo H0 H') x d n M Cs->Cs.length=most+1->LvR d n goal N Cs->M.map strip=N.map strip->Q .non H'
noncomputable def qjt9 (T:Hp->Prop) (C:Addr):Sp:=fun vs H Q _=>∃ (x:Addr) (d:Int) (n:Nat) (M:List RdT) (Cs:List (List Tb)) (p t:Int) (k:Nat) (D:List Tb),vs=[.ref x,.int p,.int t,.int k]/\GateAt C H x d n M Cs/\T H/\Cs[k]?=some D/\TssOk d n Cs/\0<=p/\p < (n:Int) /\
 ∀ H',SameU H H'->T H'->Q (optV (Ma.bt d (cl (D.getD (n - 1) []) p) t)) H'
noncomputable def spLeft (C:Addr):Sp:=fun vs H Q _=>∃ (x:Addr) (d:Int) (n:Nat) (M:List RdT) (Cs:List (List Tb)) (k:Nat),vs=[.ref x,.int k]/\GateAt C H x d n M Cs/\k < Cs.length/\Q .non H
noncomputable def spPlan (T:Hp->Prop) (C:Addr):Sp:=fun vs H Q _=>∃ (x:Addr) (d:Int) (n:Nat) (M:List RdT) (Cs:List (List Tb)) (p t:Int) (k:Nat) (D:List Tb) (goal:Int) (N:List RdT),vs=[.ref x,.int p,.int t,.int k]/\GateAt C H x d n M Cs/\T H/\Cs[k]?=some D/\LvR d n goal N Cs/\NetOk d n N/\M.map strip=N.map strip/\0 < d/\1<=n/\n<=1000/\0<=p/\p < (n:Int) /\
 ∀ (v:V) (H':Hp),SameU H H'->T H'->((v=.non/\Ma.bt d (cl (D.getD (n - 1) []) p) t=none)\/∃ (l:Addr) (rs:List Ri) (s y:Int),v=.ref l/\H l=none/\LA encR H' l rs/\Ma.bt d (cl (D.getD (n - 1) []) p) t=some s/\WkG d N (gOf Cs n k) s rs p t goal y/\y<=s/\rs.length < n/\∀ i,i < rs.length->byO (Ma.bt d (cl (D.getD i []) p) t) s=false)->Q v H'
theorem numV_nat {c k:Nat} (h:k < c):numV (c:Int) (.int (k:Int))=true:=by
 simp [numV,isWh]
 omega
section
variable {P:Program} {w:World} {K:W.Frag} {mg:Str->Option Value} {base:Heap} {f:Addr} {fd:FuncData} {n:Nat} {T:Hp->Prop} {C:Addr}
theorem qnz9 (G:GTxt K C) (hTB:TB T) (hTI:TBI T) (F:FunD K "__init__" "Gate.__init__" qar9 f fd) (Cl0:Callee P w K mg base n "level_rounds" ["day","size","roads","goal","most"] (qkf9 T)) (Cz0:Callee P w K mg base n "copied" ["roads"] qke9):FnOk P w K mg base CX0 (n+1) f fd ["self","day","size","roads","goal","most"] (qjc9 T C):=by
 refine F.okQ qgh9 (fun vs H Q E h=>?_) (fun cdv A outer s H vs Q E hr h=>?_)
 ·obtain ⟨_,_,_,_,_,_,_,_,_,rfl,_⟩:=h
  rfl
 obtain ⟨x,dx,d,N,pr,Ns,goal,most,H0,rfl,hx,fx,s0,hN0,hin,l100,q⟩:=h
 refine ⟨_,(qab9 (qs_fld (qv 0) (qe_fn Cl0 hr rfl (qa_c (qv 1) (qa_c (qv 2) (qa_c (qv 3) (qa_c (qv 4) (qa_c (qv 5) qac9))))))) (qab9 (qs_fld (qv 0) (qv 1)) (qab9 (qs_fld (qv 0) (qv 2)) (qae9 (qs_fld (qv 0) (qe_fn Cz0 hr rfl (qa_c (qv 3) qac9))))))),?_⟩
 try dsimp only [cx_k,cx_kn,as_nil,as_name,Nat.reduceAdd]
 refine ⟨_,rfl,_,rfl,_,rfl,_,rfl,_,rfl,d,N,pr,Ns,goal,most,66,rfl,hin,fun l Cs H1 u1 t1 R1 lC ok=>?_⟩
 have x1:=u1.1 _ _ hx (fun _ z=>nomatch z)
 have few:∀ {k:Nat} {f:Str} {v:V} {fs:List (Str × V)},fs.length<=k->(putF f v fs).length<=k+1:=fun h=>Nat.le_trans (qfk9 _ _ _) (Nat.succ_le_succ h)
 refine ⟨_,rfl,x,C,dx,_,rfl,x1,G.cl,G.nl,(by show 0 < 1000; decide),?_⟩
 refine ⟨_,rfl,_,rfl,x,C,dx,_,rfl,qaf9,G.cl,G.nd,Nat.lt_of_le_of_lt (few (Nat.le_refl 0)) (by decide),?_⟩
 rw [upd_two]
 refine ⟨_,rfl,_,rfl,x,C,dx,_,rfl,qaf9,G.cl,G.ns,Nat.lt_of_le_of_lt (few (few (Nat.le_refl 0))) (by decide),?_⟩
 rw [upd_two]
 have l3:(putF "size" (V.int N) (putF "day" (V.int d) (putF "levels" (V.ref l) []))).length<=3:=few (few (few (Nat.le_refl 0)))
 have e4:∀ r,putF "roads" (V.ref r) (putF "size" (V.int N) (putF "day" (V.int d) (putF "levels" (V.ref l) [])))=gfs l r d N:=fun r=>by kernel_rfl
 generalize putF "size" (V.int N) (putF "day" (V.int d) (putF "levels" (V.ref l) []))=f3 at l3 e4
 have u3:SameU H0 (upd H1 x (.ins C dx f3)):=SameU.wr fx (s0.trans u1)
 have t3:=hTI _ x C dx _ f3 t1 x1
 refine ⟨_,rfl,pr,Ns,rfl,hN0.u u3,l100,fun pr' M H4 s4 hM eM hfr fl=>?_⟩
 have x4:H4 x=some (.ins C dx f3):=s4 _ _ qaf9
 refine ⟨_,rfl,x,C,dx,_,rfl,x4,G.cl,G.nr,by omega,?_⟩
 rw [e4]
 have u4:=u3.trans (SameU.of s4)
 have nx:=qfz9 fx
 refine q _ M Cs (SameU.wr fx u4) (hTI _ x C dx _ _ (hTB.same _ _ t3 s4) x4) ⟨dx,l,pr',yo_of qaf9 nx,?_,?_⟩ lC ok eM
 ·refine (R1.hideI (yo_of x1 fun ys z=>by rw [hx] at z; cases z)).u (SameU.of fun b o e=>?_)
  have nb:b ≠ x:=fun z=>by
   rw [z] at e
   unfold hide at e
   rw [if_pos rfl] at e
   cases e
  unfold hide at e
  rw [if_neg nb] at e
  obtain ⟨e,no⟩:=qhe9 e
  refine yo_of ?_ fun ys z=>no ys (s0.lst z)
  rw [qao9 nb]
  refine s4 _ _ ?_
  rw [qao9 nb]
  exact e
 ·rw [yo_upd nx]
  exact ((hM.yo u4 (u3.free fl) fun m hm=>u3.free (hfr m hm)).hideI (yo_of x4 nx)).u (hide_updI _ _ _)
theorem ok_told (G:GTxt K C) (F:Fun K "told" "Gate.told" qbo9 f fd) (Cw0:Callee P w K mg base n "come" ["day","clock","t"] (qir9 T)):FnOk P w K mg base CX0 (n+1) f fd ["self","place","t","left"] (qjt9 T C):=by
 refine F.okQ qjb9 (fun vs H Q E h=>?_) (fun cdv A outer s H vs Q E hr h=>?_)
 ·obtain ⟨_,_,_,_,_,_,_,_,_,rfl,_⟩:=h
  rfl
 obtain ⟨x,d,N,M,Cs,p,t,k,D,rfl,hg,hT,hD,cs,p0,p1,q⟩:=h
 refine ⟨_,(qae9 (qas9 (qe_fn Cw0 hr rfl (qa_c (qgf9 (qv 0)) (qa_c (qe_ix qai9 (qe_ix qai9 (qe_ix qai9 (qgf9 (qv 0)) (qv 3) (fun _ _=>rfl)) (qec9 qad9) (fun _ _=>rfl)) (qv 1) (fun _ _=>rfl)) (qa_c (qv 2) qac9)))))),?_⟩
 try dsimp only [cx_k,cx_kn,as_nil,as_name,Nat.reduceAdd]
 obtain ⟨dx,l,pr,x1,R1,hM⟩:=hg.ex
 obtain ⟨n1,cs⟩:=cs
 obtain ⟨lT,ech⟩:=cs k D hD
 obtain ⟨lD,ckD⟩:=ech (N - 1) _ (qes9 lT (by omega))
 obtain ⟨xs,lk,e1,e2,e3',eV⟩:=R1.at hD
 have e3:atI xs (k:Int)=some (.ref lk):=qeu9 e3'
 obtain ⟨ys,qk,e4,e5,e6⟩:=eV.last lT n1 (qes9 lT (by omega))
 obtain ⟨rs,rc,r1,r2,r3,r4,r5⟩:=e6.at p0 (by rw [lD]; exact p1)
 refine ⟨_,rfl,x,C,dx,_,_,rfl,x1,G.cl,G.nd,rfl,_,rfl,x,C,dx,_,_,rfl,x1,G.cl,G.nl,rfl,_,rfl,l,_,_,_,rfl,rfl,SqL.of e1,e3,_,rfl,lk,_,_,_,rfl,rfl,SqL.of e4,e5,_,rfl,qk,_,_,_,rfl,rfl,SqL.of r1,r2,_,rfl,d,rc,t,_,rfl,r5,hT,ckD _ (qfq9 p0 (by rw [lD]; exact p1)),q⟩
theorem qiw9 (G:GTxt K C) (F:Fun K "need_left" "Gate.need_left" qau9 f fd) (B:Bl mg) (Cc0:Callee P w K mg base n "is_number" ["count","thing"] qgj9):FnOk P w K mg base CX0 (n+1) f fd ["self","left"] (spLeft C):=by
 refine F.okQ qdz9 (fun vs H Q E h=>?_) (fun cdv A outer s H vs Q E hr h=>?_)
 ·obtain ⟨_,_,_,_,_,_,rfl,_⟩:=h
  rfl
 obtain ⟨x,d,N,M,Cs,k,rfl,hg,hk,q⟩:=h
 refine ⟨_,(qae9 (qs_if (qfd9 (qcq9 (qe_fn Cc0 hr rfl (qa_c (qe_cb qat9 rfl B.len qcj9 (qa_c (qgf9 (qv 0)) qac9)) (qa_c (qv 1) qac9))))) (qae9 qgb9) qba9)),?_⟩
 try dsimp only [cx_k,cx_kn,as_nil,as_name,Nat.reduceAdd]
 obtain ⟨dx,l,pr,x1,R1,hM⟩:=hg.ex
 obtain ⟨xs,lk,e1,e2,e3,e4⟩:=R1.at (List.getElem?_eq_getElem hk)
 refine ⟨_,rfl,x,C,dx,_,_,rfl,x1,G.cl,G.nl,rfl,l,_,rfl,.inl (SqL.of e1),_,rfl,_,_,rfl,.int _,_,rfl,?_⟩
 rw [e2,numV_nat hk]
 exact iteF q
theorem qox9 (G:GTxt K C) (F:Fun K "soonest" "Gate.soonest" qbb9 f fd) (Cb0:Callee P w K mg base n "need_place" ["size","thing"] qds9) (Cp0:MCal P w K mg base n C "need_left" ["self","left"] (spLeft C)) (Cd1:MCal P w K mg base n C "told" ["self","place","t","left"] (qjt9 T C)):FnOk P w K mg base CX0 (n+1) f fd ["self","place","t","left"] (qjt9 T C):=by
 refine F.okQ qew9 (fun vs H Q E h=>?_) (fun cdv A outer s H vs Q E hr h=>?_)
 ·obtain ⟨_,_,_,_,_,_,_,_,_,rfl,_⟩:=h
  rfl
 obtain ⟨x,d,N,M,Cs,p,t,k,D,rfl,hg,hT,hD,cs,p0,p1,q⟩:=h
 refine ⟨_,(qab9 (qbc9 (qe_fn Cb0 hr rfl (qa_c (qgf9 (qv 0)) (qa_c (qv 1) qac9)))) (qab9 (qbc9 (qgr9 Cp0 hr (qv 0) (qa_c (qv 3) qac9))) (qae9 (qas9 (qgr9 Cd1 hr (qv 0) (qa_c (qv 1) (qa_c (qv 2) (qa_c (qv 3) qac9)))))))),?_⟩
 try dsimp only [cx_k,cx_kn,as_nil,as_name,Nat.reduceAdd]
 obtain ⟨dx,l,pr,x1,R1,hM⟩:=hg.ex
 have hk:=(List.getElem?_eq_some_iff.mp hD).1
 refine ⟨_,rfl,x,C,dx,_,_,rfl,x1,G.cl,G.ns,rfl,_,rfl,N,p,rfl,p0,p1,?_⟩
 refine ⟨_,rfl,x,dx,_,rfl,x1,rfl,_,rfl,x,d,N,M,Cs,k,rfl,hg,hk,?_⟩
 exact ⟨_,rfl,x,dx,_,rfl,x1,rfl,_,rfl,_,rfl,_,rfl,x,d,N,M,Cs,p,t,k,D,rfl,hg,hT,hD,cs,p0,p1,q⟩
theorem ok_plan (G:GTxt K C) (F:Fun K "plan" "Gate.plan" qbn9 f fd) (Cb0:Callee P w K mg base n "need_place" ["size","thing"] qds9) (Cp0:MCal P w K mg base n C "need_left" ["self","left"] (spLeft C)) (Cx1:Callee P w K mg base n "walk" ["day","roads","tables","guard","place","t"] (spWalkG T)):FnOk P w K mg base CX0 (n+1) f fd ["self","place","t","left"] (spPlan T C):=by
 refine F.okQ sc_Gate_plan (fun vs H Q E h=>?_) (fun cdv A outer s H vs Q E hr h=>?_)
 ·obtain ⟨_,_,_,_,_,_,_,_,_,_,_,rfl,_⟩:=h
  rfl
 obtain ⟨x,d,N,M,Cs,p,t,k,D,goal,Ns,rfl,hg,hT,hD,ok,nok,eM,hd,n1,n2,p0,p1,q⟩:=h
 refine ⟨_,(qab9 (qbc9 (qe_fn Cb0 hr rfl (qa_c (qgf9 (qv 0)) (qa_c (qv 1) qac9)))) (qab9 (qbc9 (qgr9 Cp0 hr (qv 0) (qa_c (qv 3) qac9))) (qab9 (qak9 (i:=4) sc_Gate_plan.nd rfl (Or.inl rfl) (qho9 (qdo9 (qap9 qfs9 (qv 3) qad9 (qay9 _)) (qe_ix qai9 (qe_ix qai9 (qgf9 (qv 0)) (qe_op qdi9 (qv 3) qad9) (fun _ _=>rfl)) (qec9 qad9) (fun _ _=>rfl)) qmd9))) (qae9 (qas9 (qe_fn Cx1 hr rfl (qa_c (qgf9 (qv 0)) (qa_c (qgf9 (qv 0)) (qa_c (qe_ix qai9 (qgf9 (qv 0)) (qv 3) (fun _ _=>rfl)) (qa_c (qv 4) (qa_c (qv 1) (qa_c (qv 2) qac9)))))))))))),?_⟩
 try dsimp only [cx_k,cx_kn,as_nil,as_name,Nat.reduceAdd]
 obtain ⟨dx,l,pr,x1,R1,hM⟩:=hg.ex
 have hk:=(List.getElem?_eq_some_iff.mp hD).1
 have tss:=ok.tss n1
 refine ⟨_,rfl,x,C,dx,_,_,rfl,x1,G.cl,G.ns,rfl,_,rfl,N,p,rfl,p0,p1,?_⟩
 refine ⟨_,rfl,x,dx,_,rfl,x1,rfl,_,rfl,x,d,N,M,Cs,k,rfl,hg,hk,?_⟩
 refine ⟨fun v H'=>H'=H/\GAt H d N v (gOf Cs N k),?_,?_⟩
 ·refine ⟨_,rfl,_,_,rfl,rfl,_,rfl,ite2 (fun c=>?_) (fun c=>?_)⟩
  ·have c':(0:Int) < (k:Int):=of_decide_eq_true c
   obtain ⟨j,rfl⟩:∃ j,k=j+1:=⟨k - 1,by omega⟩
   have hU:Cs[j]?=some (Cs.getD j []):=by
    rw [List.getD_eq_getElem?_getD,List.getElem?_eq_getElem (by omega)]
    rfl
   obtain ⟨lT,ech⟩:=tss.2 j _ hU
   obtain ⟨lG,ckG⟩:=ech (N - 1) _ (qes9 lT (by omega))
   obtain ⟨xs,lk,e1,e2,e3',eV⟩:=R1.at hU
   have e3:atI xs (((j+1:Nat):Int) - 1)=some (.ref lk):=by
    rw [show ((j+1:Nat):Int) - 1=(j:Int) by omega]
    exact qeu9 e3'
   obtain ⟨ys,qk,e4,e5,e6⟩:=eV.last lT n1 (qes9 lT (by omega))
   exact ⟨_,rfl,x,C,dx,_,_,rfl,x1,G.cl,G.nl,rfl,_,rfl,_,_,rfl,rfl,l,_,_,_,rfl,rfl,SqL.of e1,e3,_,rfl,lk,_,_,_,rfl,rfl,SqL.of e4,e5,rfl,.inr ⟨qk,_,rfl,rfl,e6,lG,ckG⟩⟩
  ·have c':¬ (0:Int) < (k:Int):=fun z=>c (decide_eq_true z)
   have:k=0:=by omega
   subst this
   exact ⟨rfl,.inl ⟨rfl,rfl⟩⟩
 intro v H1 z9;obtain ⟨rfl,hv⟩ := z9
 obtain ⟨lT,ech⟩:=tss.2 k D hD
 obtain ⟨xs,lk,e1,e2,e3',eV⟩:=R1.at hD
 refine ⟨_,rfl,x,C,dx,_,_,rfl,x1,G.cl,G.nd,rfl,_,rfl,x,C,dx,_,_,rfl,x1,G.cl,G.nr,rfl,_,rfl,x,C,dx,_,_,rfl,x1,G.cl,G.nl,rfl,_,rfl,l,_,_,_,rfl,rfl,SqL.of e1,qeu9 e3',_,rfl,_,rfl,_,rfl,d,N,pr,M,lk,D,v,_,p,t,goal,rfl,hM,eV,hv,hT,hd,nok.strip eM,n1,n2,lT,p0,p1,ech,(ok.stp hd n1 nok hD).strip eM,fun v' H2 u2 t2 alt=>q v' H2 u2 t2 ?_⟩
 rcases alt with ⟨a,b⟩ | ⟨l',rs,s',y,a,b,c,e,f',g',h'⟩
 ·exact .inl ⟨a,b⟩
 ·exact .inr ⟨l',rs,s',y,a,b,c,e,f'.strip eM,g',h'⟩
end
theorem byO_inj {a b:Option Int} (h:∀ s,byO a s=byO b s):a=b:=by
 cases a with
 | none =>
  cases b with
  | none=>rfl
  | some y=>exact absurd (h y).symm (by show ¬ decide (y<=y)=false; simp)
 | some x =>
  cases b with
  | none=>exact absurd (h x) (by show ¬ decide (x<=x)=false; simp)
  | some y =>
   have h1:decide (x<=x)=decide (y<=x):=h x
   have h2:decide (x<=y)=decide (y<=y):=h y
   simp at h1 h2
   have:x=y:=by omega
   rw [this]
theorem Stp.eq {d:Int} {n:Nat} {goal:Int} {N:List RdT} {g g':Option Tb} {Ts Ts':List Tb} (nok:NetOk d n N) (h:Stp d n goal N g Ts) (h':Stp d n goal N g' Ts') (hg:∀ p,0<=p->p < (n:Int)->∀ x s,gB d g p x s=gB d g' p x s) :
  ∀ i,i < n->∀ p,0<=p->p < (n:Int)->∀ t s,byO (Ma.bt d (cl (Ts.getD i []) p) t) s=byO (Ma.bt d (cl (Ts'.getD i []) p) t) s
 | 0,_,p,p0,p1,t,s=>Bool.eq_iff_iff.mpr ((h.first p p0 p1 t s).trans (h'.first p p0 p1 t s).symm)
 | i+1,hi,p,p0,p1,t,s=>by
  have ih:=Stp.eq nok h h' hg i (by omega)
  refine Bool.eq_iff_iff.mpr ((h.step i hi p p0 p1 t s).trans (Iff.trans ?_ (h'.step i hi p p0 p1 t s).symm))
  rw [ih p p0 p1 t s]
  refine or_congr Iff.rfl ⟨fun ⟨m,hm,e,w,hw,a,b⟩=>⟨m,hm,e,w,hw,?_,?_⟩,fun ⟨m,hm,e,w,hw,a,b⟩=>⟨m,hm,e,w,hw,?_,?_⟩⟩
  ·obtain ⟨_,⟨b0,b1⟩,_⟩:=nok.all m hm
   rw [<- ih _ b0 b1]
   exact a
  ·rw [<- hg p p0 p1]
   exact b
  ·obtain ⟨_,⟨b0,b1⟩,_⟩:=nok.all m hm
   rw [ih _ b0 b1]
   exact a
  ·rw [hg p p0 p1]
   exact b
theorem LvR.eq {d:Int} {n:Nat} {goal:Int} {N N':List RdT} {Tss Tss':List (List Tb)} (hd:0 < d) (n1:1<=n) (nok:NetOk d n N) (nok':NetOk d n N') (ok:LvR d n goal N Tss) (ok':LvR d n goal N' Tss') (e:N'.map strip=N.map strip) :
  ∀ k,k < Tss.length->k < Tss'.length->∀ i,i < n->∀ p,0<=p->p < (n:Int)->∀ t,Ma.bt d (cl ((Tss.getD k []).getD i []) p) t=Ma.bt d (cl ((Tss'.getD k []).getD i []) p) t
 | k,hk,hk',i,hi,p,p0,p1,t=>by
  have at1:Tss[k]?=some (Tss.getD k []):=by
   rw [List.getD_eq_getElem?_getD,List.getElem?_eq_getElem hk]
   rfl
  have at2:Tss'[k]?=some (Tss'.getD k []):=by
   rw [List.getD_eq_getElem?_getD,List.getElem?_eq_getElem hk']
   rfl
  have s1:=ok.stp hd n1 nok at1
  have s2:=(ok'.stp hd n1 nok' at2).strip e.symm
  refine byO_inj fun s=>Stp.eq nok s1 s2 (fun p p0 p1 x s=>?_) i hi p p0 p1 t s
  match k,hk,hk' with
  | 0,_,_=>rfl
  | k+1,hk,hk' =>
   show byO (Ma.bt d (cl ((Tss.getD k []).getD (n - 1) []) p) x) s=byO (Ma.bt d (cl ((Tss'.getD k []).getD (n - 1) []) p) x) s
   rw [LvR.eq hd n1 nok nok' ok ok' e k (by omega) (by omega) (n - 1) (by omega) p p0 p1 x]
noncomputable def tellV (d:Int) (n:Nat) (Tss:List (List Tb)) (t:Int) (k:Nat):List (Option Int):=(List.range n).map fun (p:Nat)=>Ma.bt d (cl ((Tss.getD k []).getD (n - 1) []) (p:Int)) t
noncomputable def tellA (d:Int) (n:Nat) (Tss:List (List Tb)) (t:Int):List (Option Int):=tellV d n Tss t 1 ++ tellV d n Tss t 0
theorem tell_eq {d:Int} {n:Nat} {goal:Int} {N N':List RdT} {Tss Tss':List (List Tb)} (hd:0 < d) (n1:1<=n) (nok:NetOk d n N) (nok':NetOk d n N') (ok:LvR d n goal N Tss) (ok':LvR d n goal N' Tss') (e:N'.map strip=N.map strip) (l:Tss.length=2) (l':Tss'.length=2) (t:Int):tellA d n Tss t=tellA d n Tss' t:=by
 have one:∀ k,k < 2->tellV d n Tss t k=tellV d n Tss' t k:=fun k hk=>List.map_congr_left fun p hp=>by
  have:=List.mem_range.mp hp
  exact LvR.eq hd n1 nok nok' ok ok' e k (by omega) (by omega) (n - 1) (by omega) p (by omega) (by omega) t
 unfold tellA
 rw [one 1 (by decide),one 0 (by decide)]
noncomputable def qoa9 (C D:Addr):Sp:=fun vs H _ E=>∃ (x:Addr) (d:Int) (n:Nat) (M:List RdT) (Cs:List (List Tb)) (k:Nat),vs=[.ref x,.int k]/\GateAt C H x d n M Cs/\Cs.length<=k/\1<=Cs.length/\E (.ref D) none H
noncomputable def qnu9 (C D:Addr):Sp:=fun vs H _ E=>∃ (x:Addr) (d:Int) (n:Nat) (M:List RdT) (Cs:List (List Tb)) (p t:Int) (k:Nat),vs=[.ref x,.int p,.int t,.int k]/\GateAt C H x d n M Cs/\Cs.length<=k/\1<=Cs.length/\0<=p/\p < (n:Int)/\E (.ref D) none H
noncomputable def qio9 (C:Addr):Sp:=fun vs H Q _=>∃ (x:Addr) (d:Int) (n:Nat) (M:List RdT) (Cs:List (List Tb)) (t:Int),vs=[.ref x,.int t]/\GateAt C H x d n M Cs/\Cs.length=2/\1<=n/\Q (.bl true) H
theorem numV_far {c k:Nat} (h:c<=k):numV (c:Int) (.int (k:Int))=false:=by
 simp [numV,isWh]
 omega
section
variable {P:Program} {w:World} {K:W.Frag} {mg:Str->Option Value} {base:Heap} {f:Addr} {fd:FuncData} {n:Nat} {T:Hp->Prop} {C D:Addr} {bm:List Value}
theorem qij9 (X_NoTurn:ExC K D bm/\mg "NoTurn" = some (.ref D)) (G:GTxt K C) (F:Fun K "need_left" "Gate.need_left" qau9 f fd) (B:Bl mg) (Cc0:Callee P w K mg base n "is_number" ["count","thing"] qgj9):FnOk P w K mg base (CXE P w) (n+1) f fd ["self","left"] (qoa9 C D):=by
 refine F.okX qdz9 (fun vs H Q E h=>?_) (fun cdv A outer s H vs Q E hr h=>?_)
 ·obtain ⟨_,_,_,_,_,_,rfl,_⟩:=h
  rfl
 obtain ⟨x,d,N,M,Cs,k,rfl,hg,hk,h1,q⟩:=h
 refine ⟨_,(qae9 (qs_if (qfd9 (qcq9 (qe_fn Cc0 hr rfl (qa_c (qe_cb qat9 rfl B.len qcj9 (qa_c (qgf9 (qv 0)) qac9)) (qa_c (qv 1) qac9))))) (qae9 (qs_raise makeE X_NoTurn.1 rfl X_NoTurn.2 (qa_c qe_str qac9))) qba9)),?_⟩
 try dsimp only [cx_k,cx_kn,as_nil,as_name,Nat.reduceAdd]
 obtain ⟨dx,l,pr,x1,R1,hM⟩:=hg.ex
 obtain ⟨xs,lk,e1,e2,e3,e4⟩:=R1.at (List.getElem?_eq_getElem (show 0 < Cs.length by omega))
 refine ⟨_,rfl,x,C,dx,_,_,rfl,x1,G.cl,G.nl,rfl,l,_,rfl,.inl (SqL.of e1),_,rfl,_,_,rfl,.int _,_,rfl,?_⟩
 rw [e2,numV_far hk]
 exact iteT ⟨by decide,q⟩
theorem qlx9 (G:GTxt K C) (F:Fun K "soonest" "Gate.soonest" qbb9 f fd) (Cb0:Callee P w K mg base n "need_place" ["size","thing"] qds9) (MX_need_left:MCalX P w K mg base n C "need_left" ["self","left"] (qoa9 C D)) (Cd1:MCal P w K mg base n C "told" ["self","place","t","left"] (qjt9 T C)):FnOk P w K mg base (CXE P w) (n+1) f fd ["self","place","t","left"] (qnu9 C D):=by
 refine F.okX qew9 (fun vs H Q E h=>?_) (fun cdv A outer s H vs Q E hr h=>?_)
 ·obtain ⟨_,_,_,_,_,_,_,_,rfl,_⟩:=h
  rfl
 obtain ⟨x,d,N,M,Cs,p,t,k,rfl,hg,hk,h1,p0,p1,q⟩:=h
 refine ⟨_,(qab9 (qbc9 (qe_fn Cb0 hr rfl (qa_c (qgf9 (qv 0)) (qa_c (qv 1) qac9)))) (qab9 (qbc9 (qe_methX MX_need_left hr passE (qv 0) (qa_c (qv 3) qac9))) (qae9 (qas9 (qgr9 Cd1 hr (qv 0) (qa_c (qv 1) (qa_c (qv 2) (qa_c (qv 3) qac9)))))))),?_⟩
 try dsimp only [cx_k,cx_kn,as_nil,as_name,Nat.reduceAdd]
 obtain ⟨dx,l,pr,x1,R1,hM⟩:=hg.ex
 refine ⟨_,rfl,x,C,dx,_,_,rfl,x1,G.cl,G.ns,rfl,_,rfl,N,p,rfl,p0,p1,?_⟩
 exact ⟨_,rfl,x,dx,_,rfl,x1,rfl,_,rfl,x,d,N,M,Cs,k,rfl,hg,hk,h1,q⟩
theorem qoq9 (X_NoTurn:ExC K D bm/\mg "NoTurn" = some (.ref D)) (F:Fun K "_law_refused" "_law_refused" qbq9 f fd) (MX_soonest:MCalX P w K mg base n C "soonest" ["self","place","t","left"] (qnu9 C D)):FnOk P w K mg base CX0 (n+1) f fd ["gate","t"] (qio9 C):=by
 refine F.okQ sc__law_refused (fun vs H Q E h=>?_) (fun cdv A outer s H vs Q E hr h=>?_)
 ·obtain ⟨_,_,_,_,_,_,rfl,_⟩:=h
  rfl
 obtain ⟨x,d,N,M,Cs,t,rfl,hg,lC,n1,q⟩:=h
 refine ⟨_,(qab9 (qak9 (i:=2) sc__law_refused.nd rfl (Or.inl rfl) qe_bl) (qab9 (qs_try (qsx_expr (qex_meth MX_soonest hr (qv 0) (qa_c qad9 (qa_c (qv 1) (qa_c qad9 qac9))))) X_NoTurn.1 rfl X_NoTurn.2 own0 (fun _=>(qae9 (qak9 (i:=2) sc__law_refused.nd rfl (Or.inl rfl) qe_bl)))) (qae9 (qas9 (qv 2))))),?_⟩
 try dsimp only [cx_k,cx_kn,as_nil,as_name,Nat.reduceAdd]
 obtain ⟨dx,l,pr,x1,R1,hM⟩:=hg.ex
 refine ⟨fun cls _ H'=>cls=.ref D/\H'=H,?_,?_⟩
 ·exact ⟨_,rfl,x,dx,_,rfl,x1,rfl,_,rfl,x,d,N,M,Cs,0,t,2,rfl,hg,by omega,by omega,by omega,by omega,rfl,rfl⟩
 ·intro cls H' z9;obtain ⟨rfl,rfl⟩ := z9
  refine ⟨⟨D,bm,rfl,X_NoTurn.1,by simp⟩,?_⟩
  exact ⟨_,rfl,q⟩
end
noncomputable def qkz9 (T:Hp->Prop) (C:Addr):Sp:=fun vs H Q _=>∃ (x:Addr) (d:Int) (n:Nat) (M:List RdT) (Cs:List (List Tb)) (t goal:Int) (N:List RdT),vs=[.ref x,.int n,.int t]/\GateAt C H x d n M Cs/\T H/\LvR d n goal N Cs/\NetOk d n N/\M.map strip=N.map strip/\0 < d/\1<=n/\n<=4/\Cs.length=2 /\
 ∀ (l:Addr) (H':Hp),SameU H H'->T H'->H l=none->H' l=some (.lst ((tellA d n Cs t).map optV))->Q (.ref l) H'
noncomputable def accV (d:Int) (n:Nat) (Cs:List (List Tb)) (t:Int):Nat->List (Option Int)
 | 0=>[]
 | 1=>tellV d n Cs t 1
 | _=>tellA d n Cs t
theorem qjv9 (d:Int) (n:Nat) (Cs:List (List Tb)) (t:Int) (k:Nat):(tellV d n Cs t k).length=n:=by simp [tellV]
theorem tell_take {d:Int} {n:Nat} {Cs:List (List Tb)} {t:Int} {k j:Nat} (h:j < n):(tellV d n Cs t k).take (j+1)=(tellV d n Cs t k).take j ++ [Ma.bt d (cl ((Cs.getD k []).getD (n - 1) []) (j:Int)) t]:=by
 have e:(tellV d n Cs t k)[j]?=some (Ma.bt d (cl ((Cs.getD k []).getD (n - 1) []) (j:Int)) t):=by simp [tellV,h]
 rw [List.take_add_one,e]
 rfl
section
variable {P:Program} {w:World} {K:W.Frag} {mg:Str->Option Value} {base:Heap} {f:Addr} {fd:FuncData} {n:Nat} {T:Hp->Prop} {C:Addr}
theorem qmy9 (hTB:TB T) (F:Fun K "_law_all_told" "_law_all_told" qbm9 f fd) (B:Bl mg) (Co1:MCal P w K mg base n C "soonest" ["self","place","t","left"] (qjt9 T C)) (Cy1:MCal P w K mg base n C "plan" ["self","place","t","left"] (spPlan T C)):FnOk P w K mg base CX0 (n+1) f fd ["gate","size","t"] (qkz9 T C):=by
 refine F.okQ sc__law_all_told (fun vs H Q E h=>?_) (fun cdv A outer s H vs Q E hr h=>?_)
 ·obtain ⟨_,_,_,_,_,_,_,_,rfl,_⟩:=h
  rfl
 obtain ⟨x,d,N,M,Cs,t,goal,Ns,rfl,hg,hT,ok,nok,eM,hd,n1,n4,lC,q⟩:=h
 refine ⟨_,(qab9 (qak9 (i:=3) sc__law_all_told.nd rfl (Or.inl rfl) (qch9 qac9)) (qab9 (qea9 PassesOwn.never rfl (qck9 (qch9 (qa_c qad9 (qa_c qad9 qac9)))) (qam9 (i:=4) sc__law_all_told.nd rfl (Or.inl rfl)) (qae9 (qea9 PassesOwn.never rfl (qfu9 rfl B.range (qa_c (qv 1) qac9)) (qam9 (i:=5) sc__law_all_told.nd rfl (Or.inl rfl)) (qab9 (qbc9 (qbg9 (qv 3) (qa_c (qgr9 Co1 hr (qv 0) (qa_c (qv 5) (qa_c (qv 2) (qa_c (qv 4) qac9)))) qac9))) (qab9 (qak9 (i:=6) sc__law_all_told.nd rfl (Or.inl rfl) (qgr9 Cy1 hr (qv 0) (qa_c (qv 5) (qa_c (qv 2) (qa_c (qv 4) qac9))))) (qae9 (qs_if (qt_notN (qv 6)) (qae9 (qbc9 (qhs9 (qv 6)))) qba9))))))) (qae9 (qas9 (qv 3))))),?_⟩
 try dsimp only [cx_k,cx_kn,as_nil,as_name,Nat.reduceAdd]
 refine ⟨(by show 0<=sizeLine; decide),fun pf hpf=>?_⟩
 generalize hgH1:upd _ pf _=H1
 obtain ⟨s1,e1⟩:=qaq9 hpf hgH1
 clear hgH1
 refine ⟨(by show 2<=sizeLine; decide),fun pl hpl=>?_⟩
 have nlf:pl ≠ pf:=fun z=>by rw [z,e1] at hpl; cases hpl
 have hpl0:H pl=none:=s1.free hpl
 generalize hgH2:upd _ pl _=H2
 obtain ⟨s2,e2⟩:=qaq9 hpl hgH2
 clear hgH2
 have s02:=s1.trans s2
 have tss:=ok.tss n1
 refine ⟨pl,rfl,⟨_,SqL.of e2⟩,qdm9 (K:=K) (a:=pl) (xs:=[V.int 1,V.int 0])
  (fun i σ H'=>∃ (v1 v2 v3:Option V),σ=[some (.ref x),some (.int N),some (.int t),some (.ref pf),v1,v2,v3]/\SameU H H'/\T H'/\H' pf=some (.lst ((accV d N Cs t i).map optV))/\H' pl=some (.lst [V.int 1,V.int 0]))
  ⟨_,_,_,rfl,SameU.of s02,hTB.same _ _ hT s02,s2 _ _ e1,e2⟩ (fun i σ H' _ ⟨_,_,_,_,_,_,_,e⟩=>SqL.of e) ?_ ?_⟩
 ·intro i y σ H3 hi z9;obtain ⟨v1,v2,v3,rfl,u3,t3,e3,el3⟩ := z9
  obtain ⟨k,rfl,hk,ea⟩:∃ k:Nat,y=.int k/\k < 2/\accV d N Cs t (i+1)=accV d N Cs t i ++ tellV d N Cs t k:=by
   match i,hi with
   | 0,hi=>exact ⟨1,by simpa using hi.symm,by decide,rfl⟩
   | 1,hi=>exact ⟨0,by simpa using hi.symm,by decide,rfl⟩
   | i+2,hi=>simp at hi
  have hi3:=(List.getElem?_eq_some_iff.mp hi).1
  have al:(accV d N Cs t i).length<=8:=by
   match i,hi3 with
   | 0,_=>exact Nat.zero_le _
   | 1,_=>show (tellV d N Cs t 1).length<=8; rw [qjv9]; omega
   | i+2,h=>exact absurd h (by simp)
  generalize accV d N Cs t i=acc at *
  rw [ea]
  have hD:Cs[k]?=some (Cs.getD k []):=by
   rw [List.getD_eq_getElem?_getD,List.getElem?_eq_getElem (by omega)]
   rfl
  refine ⟨_,rfl,_,rfl,by omega,by omega,qhy9 (lo:=0) (n:=((N:Int)).toNat)
   (fun j σ H'=>∃ (v2 v3:Option V),σ=[some (.ref x),some (.int N),some (.int t),some (.ref pf),some (.int k),v2,v3]/\SameU H H'/\T H'/\H' pf=some (.lst ((acc ++ (tellV d N Cs t k).take j).map optV))/\H' pl=some (.lst [V.int 1,V.int 0]))
   ⟨_,_,rfl,u3,t3,by rw [List.take_zero,List.append_nil]; exact e3,el3⟩ ?_ ?_⟩
  ·intro j σ H4 hj z9;obtain ⟨v2,v3,rfl,u4,t4,e4,el4⟩ := z9
   have hj2:j < N:=by omega
   have hg4:=hg.u u4
   obtain ⟨dx,l,pr,x1,_,_⟩:=id hg4.ex
   refine ⟨_,rfl,.inl ⟨rfl,_,SqL.of e4⟩,_,rfl,x,dx,_,rfl,x1,rfl,_,rfl,_,rfl,_,rfl,x,d,N,M,Cs,(0:Int)+(j:Int),t,k,_,rfl,hg4,t4,hD,tss,by omega,by omega,fun H5 u5 t5=>?_⟩
   have U5:=u4.trans u5
   have e5:=u5.lst e4
   refine ⟨pf,_,_,rfl,rfl,e5,qbj9 (by rw [List.length_map,List.length_append,List.length_take,qjv9]; omega),?_⟩
   have U6:SameU H (upd H5 pf (.lst ((acc ++ (tellV d N Cs t k).take j).map optV ++ [optV (Ma.bt d (cl ((Cs.getD k []).getD (N - 1) []) ((0:Int)+(j:Int))) t)]))):=SameU.wr hpf U5
   have t6:=hTB.wr _ _ _ ((acc ++ (tellV d N Cs t k).take j).map optV ++ [optV (Ma.bt d (cl ((Cs.getD k []).getD (N - 1) []) ((0:Int)+(j:Int))) t)]) t5 e5
   have e6:upd H5 pf (.lst ((acc ++ (tellV d N Cs t k).take j).map optV ++ [optV (Ma.bt d (cl ((Cs.getD k []).getD (N - 1) []) ((0:Int)+(j:Int))) t)])) pf=some (.lst ((acc ++ (tellV d N Cs t k).take (j+1)).map optV)):=by
    rw [qaf9,tell_take hj2,<- List.append_assoc,List.map_append (l₂:=[_]),Int.zero_add]
    rfl
   have el6:upd H5 pf (.lst ((acc ++ (tellV d N Cs t k).take j).map optV ++ [optV (Ma.bt d (cl ((Cs.getD k []).getD (N - 1) []) ((0:Int)+(j:Int))) t)])) pl=some (.lst [V.int 1,V.int 0]):=by
    rw [qao9 nlf]
    exact u5.lst el4
   generalize upd H5 pf (.lst ((acc ++ (tellV d N Cs t k).take j).map optV ++ [optV (Ma.bt d (cl ((Cs.getD k []).getD (N - 1) []) ((0:Int)+(j:Int))) t)]))=H6 at *
   have hg6:=hg.u U6
   obtain ⟨dx6,l6,pr6,x6,_,_⟩:=id hg6.ex
   refine ⟨_,rfl,x,dx6,_,rfl,x6,rfl,_,rfl,_,rfl,_,rfl,x,d,N,M,Cs,(0:Int)+(j:Int),t,k,_,goal,Ns,rfl,hg6,t6,hD,ok,nok,eM,hd,n1,by omega,by omega,by omega,fun v H7 u7 t7 alt=>?_⟩
   have U7:=U6.trans u7
   rcases alt with ⟨rfl,_⟩ | ⟨la,rs,sx,yx,rfl,fl,la7,_⟩
   ·exact ⟨_,rfl,_,rfl,iteN (by simp) ⟨_,_,rfl,U7,t7,u7.lst e6,u7.lst el6⟩⟩
   ·obtain ⟨ws,w1,_,_⟩:=la7.lst
    have nfa:pf ≠ la:=fun z=>by rw [<- z,e6] at fl; cases fl
    have nla:pl ≠ la:=fun z=>by rw [<- z,el6] at fl; cases fl
    refine ⟨_,rfl,_,rfl,iteP (by simp) ?_⟩
    refine ⟨_,rfl,.inl ⟨rfl,_,SqL.of w1⟩,la,_,rfl,rfl,w1,?_⟩
    exact ⟨_,_,rfl,SameU.wr (U6.free fl) U7,hTB.wr _ _ _ _ t7 w1,by rw [qao9 nfa]; exact u7.lst e6,by rw [qao9 nla]; exact u7.lst el6⟩
  ·intro σ H4 z9;obtain ⟨v2,v3,rfl,u4,t4,e4,el4⟩ := z9
   rw [List.take_of_length_le (by rw [qjv9]; omega)] at e4
   exact ⟨_,_,_,rfl,u4,t4,e4,el4⟩
 ·intro σ H3 z9;obtain ⟨v1,v2,v3,rfl,u3,t3,e3,_⟩ := z9
  exact ⟨_,rfl,q pf H3 u3 t3 hpf e3⟩
end
noncomputable def Spo (W:Addr->Prop) (H H':Hp):Prop:=∀ b o,H b=some o->¬ W b->H' b=some o
noncomputable def spSpoil (T:Hp->Prop):Sp:=fun vs H Q _=>∃ (d:Int) (pr:Addr) (N:List RdT) (bit:Int),vs=[.int d,.ref pr,.int bit]/\NA H pr N/\T H/\∀ H',Spo (fun b=>b=pr\/∃ m∈N,b=m.2.2.1) H H'->T H'->Q .non H'
section
variable {P:Program} {w:World} {K:W.Frag} {mg:Str->Option Value} {base:Heap} {f:Addr} {fd:FuncData} {n:Nat} {T:Hp->Prop}
theorem ok_spoil (hTB:TB T) (F:Fun K "_law_spoil" "_law_spoil" qcd9 f fd):FnOk P w K mg base CX0 (n+1) f fd ["day","handed","bit"] (spSpoil T):=by
 refine F.okQ sc__law_spoil (fun vs H Q E h=>?_) (fun cdv A outer s H vs Q E hr h=>?_)
 ·obtain ⟨_,_,_,_,rfl,_⟩:=h
  rfl
 obtain ⟨d,pr,N,bit,rfl,hN,hT,q⟩:=h
 refine ⟨_,(qab9 (qea9 PassesOwn.never rfl (qck9 (qv 1)) (qfb9 rfl (qaj9 (qam9 (i:=3) sc__law_spoil.nd rfl (Or.inl rfl)) (qaj9 (qam9 (i:=4) sc__law_spoil.nd rfl (Or.inl rfl)) (qaj9 (qam9 (i:=5) sc__law_spoil.nd rfl (Or.inl rfl)) qct9)))) (qab9 (qbc9 (qhs9 (qv 5))) (qae9 (qs_if (qap9 qdn9 (qv 2) qad9 (qay9 _)) (qae9 (qbc9 (qbg9 (qv 5) (qa_c (qci9 (qa_c qad9 (qa_c (qe_op qdi9 (qv 0) qad9) (qa_c qad9 qac9)))) qac9)))) qba9)))) (qae9 (qbc9 (qhs9 (qv 1))))),?_⟩
 try dsimp only [cx_k,cx_kn,as_nil,as_name,Nat.reduceAdd]
 obtain ⟨ws,hw1,hw2,hw3⟩:=hN.la.lst
 rw [List.length_map] at hw2
 have isL:∀ m∈N,∃ xs,H m.2.2.1=some (.lst xs):=fun m hm=>by
  obtain ⟨xs,e,_⟩:=(hN.bd m hm).1.lst
  exact ⟨xs,e⟩
 have npr:¬ ∃ m∈N,pr=m.2.2.1:=fun ⟨m,hm,e⟩=>(hN.bd m hm).2 e.symm
 refine ⟨_,rfl,pr,rfl,⟨_,SqL.of hw1⟩,qdm9 (K:=K) (a:=pr) (xs:=ws)
  (fun i σ H'=>∃ (v1 v2 v3:Option V),σ=[some (.int d),some (.ref pr),some (.int bit),v1,v2,v3]/\Spo (fun b=>∃ m∈N,b=m.2.2.1) H H'/\T H'/\∀ m∈N,∃ xs,H' m.2.2.1=some (.lst xs))
  ⟨_,_,_,rfl,fun b o e _=>e,hT,isL⟩ (fun i σ H' _ ⟨_,_,_,_,s,_⟩=>SqL.of (s _ _ hw1 npr)) ?_ ?_⟩
 ·intro i y σ H1 hi z9;obtain ⟨v1,v2,v3,rfl,s1,t1,l1⟩ := z9
  obtain ⟨r,x,rfl,ex,er⟩:=hw3 i y hi
  have hi2:i < N.length:=by
   have:=(List.getElem?_eq_some_iff.mp hi).1
   omega
  have em:=List.getElem?_eq_getElem hi2
  rw [List.getElem?_map,em] at ex
  cases ex
  have hm:=List.getElem_mem hi2
  generalize N[i]=m at *
  have tup:∀ {b:Addr} {xs:List V},H b=some (.tup xs)->¬ ∃ m∈N,b=m.2.2.1:=fun e ⟨m',hm',z⟩=>by
   obtain ⟨xs,e2⟩:=isL m' hm'
   rw [<- z,e] at e2
   cases e2
  refine ⟨r,_,rfl,SqT.of (s1 _ _ er (tup er)),rfl,_,_,rfl,_,_,rfl,_,_,rfl,rfl,?_⟩
  obtain ⟨xs,e1⟩:=l1 m hm
  refine ⟨_,rfl,.inl ⟨rfl,_,SqL.of e1⟩,m.2.2.1,_,rfl,rfl,e1,?_⟩
  have keep:∀ {H2:Hp} {ys:List V},Spo (fun b=>∃ m∈N,b=m.2.2.1) H H2->Spo (fun b=>∃ m∈N,b=m.2.2.1) H (upd H2 m.2.2.1 (.lst ys)):=fun s b o e nw=>by
   rw [qao9 (fun z=>nw ⟨m,hm,z⟩)]
   exact s b o e nw
  have lists:∀ {H2:Hp} {ys:List V},(∀ m∈N,∃ xs,H2 m.2.2.1=some (.lst xs))->∀ m'∈N,∃ xs,upd H2 m.2.2.1 (.lst ys) m'.2.2.1=some (.lst xs):=fun l m' hm'=>by
   by_cases z:m'.2.2.1=m.2.2.1
   ·rw [z]
    exact ⟨_,qaf9⟩
   ·rw [qao9 z]
    exact l m' hm'
  have t2:=hTB.wr _ _ _ [] t1 e1
  have s2:=keep (ys:=[]) s1
  have l2:=lists (ys:=[]) l1
  have e2:upd H1 m.2.2.1 (.lst []) m.2.2.1=some (.lst []):=qaf9
  generalize upd H1 m.2.2.1 (.lst [])=H2 at *
  refine ⟨_,rfl,rfl,_,rfl,ite2 (fun c=>?_) (fun c=>⟨_,_,_,rfl,s2,t2,l2⟩)⟩
  refine ⟨_,rfl,.inl ⟨rfl,_,SqL.of e2⟩,_,rfl,_,_,rfl,rfl,(by show 3<=sizeLine; decide),fun p3 hp3=>?_⟩
  generalize hgH3:upd _ p3 _=H3
  obtain ⟨s3,e3⟩:=qaq9 hp3 hgH3
  clear hgH3
  refine ⟨m.2.2.1,_,_,rfl,rfl,s3 _ _ e2,(by show 0 < sizeLine; decide),?_⟩
  exact ⟨_,_,_,rfl,keep (fun b o e nw=>s3 _ _ (s2 b o e nw)),hTB.wr _ _ _ _ (hTB.same _ _ t2 s3) (s3 _ _ e2),lists fun m' hm'=>by obtain ⟨ys,e⟩:=l2 m' hm'; exact ⟨ys,s3 _ _ e⟩⟩
 ·intro σ H1 z9;obtain ⟨v1,v2,v3,rfl,s1,t1,l1⟩ := z9
  have e1:=s1 _ _ hw1 npr
  refine ⟨_,rfl,.inl ⟨rfl,_,SqL.of e1⟩,pr,_,rfl,rfl,e1,?_⟩
  refine q _ (fun b o e nw=>?_) (hTB.wr _ _ _ _ t1 e1)
  rw [qao9 (fun z=>nw (.inl z))]
  exact s1 b o e fun z=>nw (.inr z)
end
noncomputable def datQ:Option Int->PyData
 | none=>.none
 | some k=>.int k
theorem rdQ {K:W.Frag} {H:Hp}:∀ o:Option Int,RdV K H (optV o) (datQ o)
 | none=>.non
 | some k=>.int k
theorem rdQs {K:W.Frag} {H:Hp}:∀ os:List (Option Int),RdAll K H (os.map optV) (os.map datQ)
 | []=>.nil
 | o :: os=>.cons (rdQ o) (rdQs os)
theorem eqvQ:∀ x y:Option Int,PyData.eqv (datQ x) (datQ y)=decide (x=y)
 | none,none=>by simp [datQ,PyData.eqv]
 | none,some _=>by simp [datQ,PyData.eqv]
 | some _,none=>by simp [datQ,PyData.eqv]
 | some x,some y=>by by_cases e:x=y <;> simp [datQ,PyData.eqv,e]
theorem qfn9 (os:List (Option Int)):SeqAt.shaped (.list (os.map datQ))=true:=qil9 (n:=2) (fun x=>by cases x <;> simp [datQ,PyData.canLay0]) (fun x=>by cases x <;> simp [datQ,PyData.depth]) (by decide) os
theorem yo_less {H0 H H':Hp} (u:SameU H0 H):Same (yo H H') (yo H0 H'):=fun b o e=>by
 obtain ⟨a,c⟩:=qhe9 e
 exact yo_of a fun ys z=>c ys (u.lst z)
theorem yo_spo {H0 H H':Hp} {W:Addr->Prop} (s:Spo W H H') (hw:∀ b,W b->∃ xs,H0 b=some (.lst xs)):Same (yo H0 H) (yo H0 H'):=fun b o e=>by
 obtain ⟨a,c⟩:=qhe9 e
 refine yo_of (s b o a fun z=>?_) c
 obtain ⟨xs,h⟩:=hw b z
 exact c xs h
noncomputable def turnS (m:RdT):Int × Int × List T3:=(m.2.1,m.1,m.2.2.2)
theorem qhu9:∀ {M N:List RdT},(M.map fun m=>m.2.2.2)=(N.map fun m=>m.2.2.2)->(wsN M).length=(wsN N).length
 | [],[],_=>rfl
 | [],_ :: _,e=>by cases e
 | _ :: _,[],e=>by cases e
 | m :: M,x :: N,e=>by
  rw [List.map_cons,List.map_cons] at e
  injection e with e1 e2
  have ih:=qhu9 e2
  unfold wsN at ih ⊢
  rw [List.flatMap_cons,List.flatMap_cons,List.length_append,List.length_append,ih,List.length_map,List.length_map,e1]
theorem ws_turn {M N:List RdT} (e:M.map strip=N.map turnS):(wsN M).length=(wsN N).length:=qhu9 (by
 have:=congrArg (List.map fun z:Int × Int × List T3=>z.2.2) e
 rw [List.map_map,List.map_map] at this
 exact this)
theorem ws_same {M N:List RdT} (e:M.map strip=N.map strip):(wsN M).length=(wsN N).length:=qhu9 (by
 have:=congrArg (List.map fun z:Int × Int × List T3=>z.2.2) e
 rw [List.map_map,List.map_map] at this
 exact this)
theorem net_turn {d:Int} {n:Nat} {M N:List RdT} (h:NetOk d n N) (e:M.map strip=N.map turnS):NetOk d n M:=⟨fun m hm=>by
 have:strip m∈N.map turnS:=by rw [<- e]; exact List.mem_map.mpr ⟨m,hm,rfl⟩
 obtain ⟨x,hx,ex⟩:=List.mem_map.mp this
 have e1:x.2.1=m.1:=congrArg (fun z:Int × Int × List T3=>z.1) ex
 have e2:x.1=m.2.1:=congrArg (fun z:Int × Int × List T3=>z.2.1) ex
 have e3:x.2.2.2=m.2.2.2:=congrArg (fun z:Int × Int × List T3=>z.2.2) ex
 obtain ⟨a,b,c,w⟩:=h.all x hx
 rw [e2] at a
 rw [e1] at b
 rw [e3] at c w
 exact ⟨b,a,c,w⟩⟩
noncomputable def WN (p:Addr) (N:List RdT) (b:Addr):Prop:=b=p\/∃ m∈N,b=m.2.2.1
theorem NA.wn {H:Hp} {p:Addr} {N:List RdT} (h:NA H p N):∀ b,WN p N b->∃ xs,H b=some (.lst xs):=fun b hb=>by
 rcases hb with rfl | ⟨m,hm,rfl⟩
 ·obtain ⟨xs,e,_⟩:=h.la.lst
  exact ⟨xs,e⟩
 ·obtain ⟨xs,e,_⟩:=(h.bd m hm).1.lst
  exact ⟨xs,e⟩
theorem LA.spo {α:Type} {enc:α->List V} {H H':Hp} {W:Addr->Prop} {p:Addr} {R:List α} (h:LA enc H p R) (s:Spo W H H') (n:¬ W p) (hw:∀ b,W b->∃ xs,H b=some (.lst xs)):LA enc H' p R:=by
 obtain ⟨rs,h1,h2,h3⟩:=h.ex
 refine ⟨rs,s _ _ h1 n,h2,fun i r y e1 e2=>s _ _ (h3 i r y e1 e2) fun z=>?_⟩
 obtain ⟨xs,e⟩:=hw r z
 rw [h3 i r y e1 e2] at e
 cases e
theorem NA.spo {H H':Hp} {W:Addr->Prop} {p:Addr} {N:List RdT} (h:NA H p N) (s:Spo W H H') (n:∀ b,WN p N b->¬ W b) (hw:∀ b,W b->∃ xs,H b=some (.lst xs)):NA H' p N:=⟨h.la.spo s (n p (.inl rfl)) hw,fun m hm=>⟨(h.bd m hm).1.spo s (n _ (.inr ⟨m,hm,rfl⟩)) hw,(h.bd m hm).2⟩,h.nd⟩
theorem Spo.seq {K:W.Frag} {H0 H H':Hp} {W:Addr->Prop} {a:Addr} {xs:List V} (h:SqL K H0 a xs) (u:SameU H0 H) (s:Spo W H H') (hw:∀ b,W b->H0 b=none):SqL K H' a xs:=by
 rcases h with (h | ⟨o,h⟩) | h
 ·exact .inl (.inl (s _ _ (u.lst h) fun z=>by rw [hw a z] at h; cases h))
 ·exact .inl (.inr ⟨o,s _ _ (u.1 _ _ h (fun _ z=>nomatch z)) fun z=>by rw [hw a z] at h; cases h⟩)
 ·exact .inr h
theorem Spo.trans {H H1 H2:Hp} {W W':Addr->Prop} (s:Spo W H H1) (s':Spo W' H1 H2) (h:∀ b,W' b->W b):Spo W H H2:=fun b o e n=>s' b o (s b o e n) fun z=>n (h b z)
section
variable {P:Program} {w:World} {K:W.Frag} {mg:Str->Option Value} {base:Heap} {f:Addr} {fd:FuncData} {n:Nat} {T:Hp->Prop} {C:Addr}
theorem ok_law {tabs:List (Addr × Addr)} (hTB:TB T) (h0:∀ H:Hp,(∀ t∈tabs,H t.2=some (.tbl #[]))->T H) (F:Fun K "law" "law" qgn9 f fd) (B:Bl mg) (Cg0:Callee P w K mg base (n+1) "_law_cell_at" ["script","k"] (spCell K)) (Ch2:Callee P w K mg base (n+1) "_law_net" ["script","start"] (spNetG K)) (Cs1:Callee P w K mg base (n+1) "_law_copy" ["roads"] qke9)
  (K_Gate:KCal P w K mg base n "Gate" C ["self","day","size","roads","goal","most"] (qjc9 T C)) (KD_Gate:KCalD P w K mg base n "Gate" C ["self","day","size","roads","goal","most"] (qjc9 T C)) (KK_Gate:KCalK P w K mg base n "Gate" C "most" ["self","day","size","roads","goal","most"] (qjc9 T C)) (Ci0:Callee P w K mg base (n+1) "_law_all_told" ["gate","size","t"] (qkz9 T C)) (Cw1:Callee P w K mg base (n+1) "_law_refused" ["gate","t"] (qio9 C)) (Ca2:Callee P w K mg base (n+1) "_law_spoil" ["day","handed","bit"] (spSpoil T)):FnOk P w K mg base CX0 (n+2) f fd ["script"] (spLaw K tabs):=by
 refine F.okQ sc_law (fun vs H Q E h=>?_) (fun cdv A outer s H vs Q E hr h=>?_)
 ·obtain ⟨_,_,rfl,_⟩:=h
  rfl
 obtain ⟨a,ns,rfl,hS,h63,hT,q⟩:=h
 have t0:=h0 H hT
 refine ⟨_,(qab9 (qs_asg (qe_fn Ch2 hr rfl (qa_c (qv 0) (qa_c qad9 qac9))) (qfb9 rfl (qaj9 (qam9 (i:=1) sc_law.nd rfl (Or.inl rfl)) (qaj9 (qam9 (i:=2) sc_law.nd rfl (Or.inl rfl)) (qaj9 (qam9 (i:=3) sc_law.nd rfl (Or.inl rfl)) (qaj9 (qam9 (i:=4) sc_law.nd rfl (Or.inl rfl)) qct9)))))) (qab9 (qak9 (i:=5) sc_law.nd rfl (Or.inl rfl) (qe_op qdi9 (qe_op qbf9 (qe_fn Cg0 hr rfl (qa_c (qv 0) (qa_c qad9 qac9))) (qe_op qgu9 qad9 (qe_op qhz9 qad9 qad9))) (qe_op qhz9 qad9 qad9))) (qab9 (qak9 (i:=6) sc_law.nd rfl (Or.inl rfl) (qch9 (qa_c (qe_fn Cs1 hr rfl (qa_c (qv 3) qac9)) (qa_c (qe_fn Cs1 hr rfl (qa_c (qv 3) qac9)) (qa_c (qet9 ["start","other","board"] [none,none,none] (BlkOk.of rfl rfl (SubL.to subN) rfl) rfl (qck9 (qv 3)) (fun _ _ _ _=>(qkd9 (n:=3) K rfl rfl (qaj9 (qam9 (i:=0) (show (["start","other","board"]:List Str).Nodup by decide) rfl (Or.inl rfl)) (qaj9 (qam9 (i:=1) (show (["start","other","board"]:List Str).Nodup by decide) rfl (Or.inl rfl)) (qaj9 (qam9 (i:=2) (show (["start","other","board"]:List Str).Nodup by decide) rfl (Or.inl rfl)) qct9))))) (fun _ _ _ _=>(qci9 (qa_c (qv 1) (qa_c (qv 0) (qa_c (qe_ct (qek9 K rfl) rfl B.list_ qfm9 (qa_c (qv 2) qac9)) qac9)))))) qac9))))) (qab9 (qak9 (i:=7) sc_law.nd rfl (Or.inl rfl) (qe_makeD KD_Gate hr rfl (qa_c (qv 1) (qa_c (qv 2) (qa_c (qe_ix qai9 (qv 6) qad9 (fun _ _=>rfl)) (qa_c (qv 4) qac9)))))) (qab9 (qak9 (i:=8) sc_law.nd rfl (Or.inl rfl) (qe_makeK KK_Gate hr rfl (qa_c (qv 1) (qa_c (qv 2) (qa_c (qe_ix qai9 (qv 6) qad9 (fun _ _=>rfl)) (qa_c (qv 4) qac9)))) qad9)) (qab9 (qak9 (i:=9) sc_law.nd rfl (Or.inl rfl) (qe_make K_Gate hr rfl (qa_c (qv 1) (qa_c (qv 2) (qa_c (qe_ix qai9 (qv 6) qad9 (fun _ _=>rfl)) (qa_c (qv 4) (qa_c qad9 qac9))))))) (qab9 (qak9 (i:=10) sc_law.nd rfl (Or.inl rfl) (qe_fn Ci0 hr rfl (qa_c (qv 7) (qa_c (qv 2) (qa_c (qv 5) qac9))))) (qab9 (qak9 (i:=11) sc_law.nd rfl (Or.inl rfl) (qe_fn Ci0 hr rfl (qa_c (qv 9) (qa_c (qv 2) (qa_c (qv 5) qac9))))) (qab9 (qs_if (QW.pt (qw_or (qap9 (qml9 hr.units) (qe_fn Ci0 hr rfl (qa_c (qv 8) (qa_c (qv 2) (qa_c (qv 5) qac9)))) (qv 10) (qay9 _)) (qfr9 (qfd9 (qcq9 (qe_fn Cw1 hr rfl (qa_c (qv 7) (qa_c (qv 5) qac9)))))))) (qae9 (qas9 qe_bl)) qba9) (qab9 (qea9 PassesOwn.never rfl (qck9 (qv 6)) (qam9 (i:=12) sc_law.nd rfl (Or.inl rfl)) (qae9 (qbc9 (qe_fn Ca2 hr rfl (qa_c (qv 1) (qa_c (qv 12) (qa_c (qe_op qbf9 (qe_fn Cg0 hr rfl (qa_c (qv 0) (qa_c qad9 qac9))) qad9) qac9))))))) (qab9 (qs_if (QW.pt (qw_or (qap9 (qml9 hr.units) (qe_fn Ci0 hr rfl (qa_c (qv 7) (qa_c (qv 2) (qa_c (qv 5) qac9)))) (qv 10) (qay9 _)) (qfr9 (qap9 (qml9 hr.units) (qe_fn Ci0 hr rfl (qa_c (qv 8) (qa_c (qv 2) (qa_c (qv 5) qac9)))) (qv 10) (qay9 _))))) (qae9 (qas9 qe_bl)) qba9) (qae9 (qas9 (qkj9 (qnf9 hr.units) (qe_fn Ci0 hr rfl (qa_c (qv 9) (qa_c (qv 2) (qa_c (qv 5) qac9)))) (qv 11) (qay9 _))))))))))))))),?_⟩
 try dsimp only [cx_k,cx_kn,as_nil,as_name,Nat.reduceAdd]
 refine ⟨_,rfl,a,ns,3,rfl,hS,by decide,fun r pr d N goal Ns H1 s1 er hN d1 d2 n1 n4 g0' g1 gn hfr=>?_⟩
 have hd:0 < d:=by omega
 have nok:=gn.ok
 refine ⟨r,_,rfl,SqT.of er,rfl,_,_,rfl,_,_,rfl,_,_,rfl,_,_,rfl,rfl,?_⟩
 refine ⟨_,rfl,a,ns,1,rfl,s1.seq hS,by decide,fun c1=>⟨_,_,rfl,rfl,⟨by decide,by decide,by decide⟩,_,_,rfl,rfl,.inl ⟨by decide,by decide⟩,_,_,rfl,rfl,(by show (0:Int) < 2 * 10 ^ (35:Int).toNat; decide +kernel),_,_,rfl,rfl,⟨by decide,by decide,by decide⟩,_,_,rfl,rfl,?_⟩⟩
 dsimp only
 generalize c1 % (2 * 10 ^ (35:Int).toNat) - 10 ^ (35:Int).toNat=tt
 have lN5:=gn.len
 refine ⟨_,rfl,pr,Ns,rfl,hN,by omega,fun p1 M1 H2 s2 hM1 eM1 fr1 f1=>?_⟩
 have hN2:=hN.same s2
 refine ⟨_,rfl,pr,Ns,rfl,hN2,by omega,fun p2 M2 H3 s3 hM2 eM2 fr2 f2=>?_⟩
 have hN3:=hN2.same s3
 obtain ⟨ws,hw1,hw2,hw3⟩:=hN3.la.lst
 rw [List.length_map] at hw2
 refine ⟨_,rfl,pr,rfl,⟨_,SqL.of hw1⟩,?_⟩
 refine qcu9 (K:=K) (a:=pr) (xs:=ws) (fun D i H'=>Same H3 H'/\∃ M,NA H' D M/\M.map strip=(Ns.take i).map turnS/\NFr H3 M) (fun D hD=>⟨qal9 hD _,[],NA.nil qaf9,rfl,fun m hm=>by cases hm⟩) (fun D i H' _ _ h=>SqL.of (h.1 _ _ hw1)) ?_ ?_
 ·intro D i y H' hD hi z9;obtain ⟨sD,M,hM,eM,fM⟩ := z9
  obtain ⟨r2,x,rfl,ex,er2⟩:=hw3 i y hi
  have hi2:i < Ns.length:=by
   have:=(List.getElem?_eq_some_iff.mp hi).1
   omega
  have em:=List.getElem?_eq_getElem hi2
  rw [List.getElem?_map,em] at ex
  cases ex
  have hb:=(hN3.bd _ (List.getElem_mem hi2)).1
  generalize hm:Ns[i]=m at *
  refine ⟨r2,_,rfl,SqT.of (sD _ _ er2),rfl,_,_,rfl,_,_,rfl,_,_,rfl,rfl,fun k v e=>?_,?_⟩
  ·match k,e with
   | 0,e=>cases e
   | 1,e=>cases e
   | 2,e=>cases e
   | k+3,e=>cases e
  obtain ⟨bs,hb1,hb2,hb3⟩:=(hb.same sD).lst
  refine ⟨_,rfl,_,rfl,_,rfl,m.2.2.1,_,rfl,.inl (SqL.of hb1),fun q1 hq1=>?_⟩
  have fb:=hM.fresh hq1
  have f0:=sD.free hq1
  generalize hgG1:upd _ q1 _=G1
  obtain ⟨z1,e1⟩:=qaq9 hq1 hgG1
  clear hgG1
  have hc:=(hb.same sD).copy z1 hb1 e1
  refine ⟨(by show 3<=sizeLine; decide),fun rr hrr=>?_⟩
  generalize hgG2:upd _ rr _=G2
  obtain ⟨z2,e2⟩:=qaq9 hrr hgG2
  clear hgG2
  obtain ⟨vs,hv1,hv2,_⟩:=((hM.same z1).same z2).la.lst
  have ml:M.length=i:=by
   have:=congrArg List.length eM
   rw [List.length_map,List.length_map,List.length_take] at this
   omega
  rw [List.length_map] at hv2
  refine ⟨_,hv1,qbj9 (by omega),qcx9 hD ((sD.trans z1).trans z2),M ++ [(m.2.1,m.1,q1,m.2.2.2)],((hM.same z1).same z2).add fb hv1 (hc.same z2) e2,?_,fM.snoc f0⟩
  rw [List.map_append,eM,qdl9 turnS em]
  rfl
 intro p3 H4 f3 z9;obtain ⟨s4,M3,hM3,eM3,fr3⟩ := z9
 rw [hw2,List.take_length] at eM3
 have ex1:=hM1.wn
 have ex2:=hM2.wn
 have ex3:=hM3.wn
 have no1:∀ b,WN p1 M1 b->H1 b=none:=fun b hb=>by
  rcases hb with rfl | ⟨m,hm,rfl⟩
  ·exact f1
  ·exact fr1 m hm
 have no2:∀ b,WN p2 M2 b->H2 b=none:=fun b hb=>by
  rcases hb with rfl | ⟨m,hm,rfl⟩
  ·exact f2
  ·exact fr2 m hm
 have no3:∀ b,WN p3 M3 b->H3 b=none:=fun b hb=>by
  rcases hb with rfl | ⟨m,hm,rfl⟩
  ·exact f3
  ·exact fr3 m hm
 have dj12:∀ b,WN p2 M2 b->¬ WN p1 M1 b:=fun b h2 h1=>by
  obtain ⟨xs,e⟩:=ex1 b h1
  rw [no2 b h2] at e
  cases e
 have dj13:∀ b,WN p3 M3 b->¬ WN p1 M1 b:=fun b h3 h1=>by
  obtain ⟨xs,e⟩:=ex1 b h1
  have e:=s3 _ _ e
  rw [no3 b h3] at e
  cases e
 have dj23:∀ b,WN p3 M3 b->¬ WN p2 M2 b:=fun b h3 h2=>by
  obtain ⟨xs,e⟩:=ex2 b h2
  rw [no3 b h3] at e
  cases e
 refine ⟨(by show 3<=sizeLine; decide),fun ph hph=>?_⟩
 have wex:∀ b,(WN p1 M1 b\/WN p2 M2 b\/WN p3 M3 b)->∃ xs,H4 b=some (.lst xs):=fun b hb=>by
  rcases hb with hb | hb | hb
  ·obtain ⟨xs,e⟩:=ex1 b hb
   exact ⟨xs,s4 _ _ (s3 _ _ e)⟩
  ·obtain ⟨xs,e⟩:=ex2 b hb
   exact ⟨xs,s4 _ _ e⟩
  ·exact ex3 b hb
 have wno:∀ b,(WN p1 M1 b\/WN p2 M2 b\/WN p3 M3 b)->H b=none:=fun b hb=>by
  rcases hb with hb | hb | hb
  ·exact s1.free (no1 b hb)
  ·exact s1.free (s2.free (no2 b hb))
  ·exact s1.free (s2.free (s3.free (no3 b hb)))
 have wph:¬ (WN p1 M1 ph\/WN p2 M2 ph\/WN p3 M3 ph):=fun z=>by
  obtain ⟨xs,e⟩:=wex ph z
  rw [hph] at e
  cases e
 generalize hgH5:upd _ ph _=H5
 obtain ⟨s5,e5⟩:=qaq9 hph hgH5
 clear hgH5
 have wex:∀ b,(WN p1 M1 b\/WN p2 M2 b\/WN p3 M3 b)->∃ xs,H5 b=some (.lst xs):=fun b hb=>by
  obtain ⟨xs,e⟩:=wex b hb
  exact ⟨xs,s5 _ _ e⟩
 have S5:=(((s1.trans s2).trans s3).trans s4).trans s5
 have t5:=hTB.same _ _ t0 S5
 have hM1:=((hM1.same s3).same s4).same s5
 have hM2:=(hM2.same s4).same s5
 have hM3:=hM3.same s5
 have nok1:=nok.strip eM1
 have nok2:=nok.strip eM2
 have nok3:=net_turn nok eM3
 have l1:=qkc9 eM1
 have l2:=qkc9 eM2
 have l3:M3.length=Ns.length:=by
  have:=congrArg List.length eM3
  simpa using this
 have lvin:∀ {Hx:Hp} {p:Addr} {Mx:List RdT},NA Hx p Mx->T Hx->NetOk d N Mx->(wsN Mx).length=(wsN Ns).length->Mx.length=Ns.length->LvIn T d N p Mx goal 1 66 Hx:=fun {Hx p Mx} h1 h2 h3 h4 h5 =>
  ⟨h1,h2,hd,h3,n1,by omega,by omega,fun y hy=>by have:=qja9 hy; have:=gn.ws; omega,few16 (by omega) n4,.inl ⟨by rw [h4]; exact gn.ws,by omega⟩,n4,g0',g1⟩
 have made:∀ {Hx:Hp} {x dx:Addr},Hx x=none->Hx dx=none->Same Hx (upd (upd Hx dx (.own x)) x (.ins C dx [])):=fun {Hx x dx} fx fdx b o e=>by
  rw [qao9 (qax9 e fx),qao9 (qax9 e fdx)]
  exact e
 refine ⟨_,rfl,_,rfl,_,rfl,ph,_,_,_,rfl,rfl,SqL.of e5,rfl,_,rfl,fun x1 dx1 fx1 fd1 _=>?_⟩
 have m1:=made fx1 fd1
 refine ⟨x1,dx1,d,N,p1,M1,goal,1,H5,rfl,qaf9,fx1,SameU.of m1,hM1,lvin (hM1.same m1) (hTB.same _ _ t5 m1) nok1 (ws_same eM1) l1,by omega,fun H6 A1 C1 u6 t6 g1a lC1 ok1 eA1=>⟨rfl,?_⟩⟩
 have e6:=u6.lst e5
 refine ⟨_,rfl,_,rfl,_,rfl,ph,_,_,_,rfl,rfl,SqL.of e6,rfl,_,rfl,_,rfl,fun x2 dx2 fx2 fd2 _=>?_⟩
 have m2:=made fx2 fd2
 refine ⟨x2,dx2,d,N,p2,M2,goal,1,H6,rfl,qaf9,fx2,SameU.of m2,hM2.u u6,lvin ((hM2.u u6).same m2) (hTB.same _ _ t6 m2) nok2 (ws_same eM2) l2,by omega,fun H7 A2 C2 u7 t7 g2a lC2 ok2 eA2=>⟨rfl,?_⟩⟩
 have e7:=u7.lst e6
 have u57:=u6.trans u7
 refine ⟨_,rfl,_,rfl,_,rfl,ph,_,_,_,rfl,rfl,SqL.of e7,rfl,_,rfl,fun x3 dx3 fx3 fd3 _=>?_⟩
 have m3:=made fx3 fd3
 refine ⟨x3,dx3,d,N,p3,M3,goal,1,H7,rfl,qaf9,fx3,SameU.of m3,hM3.u u57,lvin ((hM3.u u57).same m3) (hTB.same _ _ t7 m3) nok3 (ws_turn eM3) l3,by omega,fun H8 A3 C3 u8 t8 g3a lC3 ok3 eA3=>⟨rfl,?_⟩⟩
 have u58:=u57.trans u8
 have G1:=g1a.u (yo_u (u7.trans u8))
 have G2:=(g2a.u (yo_u u8)).u (SameU.of (yo_less u6))
 have G3:=g3a.u (SameU.of (yo_less u57))
 clear g1a g2a g3a
 have at_:∀ {Hx:Hp} {x:Addr} {A:List RdT} {Cs:List (List Tb)},GateAt C (yo H5 Hx) x d N A Cs->GateAt C Hx x d N A Cs:=fun h=>h.u (SameU.of yo_to)
 have same12:tellA d N C2 tt=tellA d N C1 tt:=tell_eq hd n1 nok2 nok1 ok2 ok1 (eM1.trans eM2.symm) lC2 lC1 tt
 refine ⟨_,rfl,_,rfl,_,rfl,x1,d,N,A1,C1,tt,goal,M1,rfl,at_ G1,t8,ok1,nok1,eA1,hd,n1,n4,lC1,fun q1 H9 u9 t9 f9 e9=>?_⟩
 refine ⟨_,rfl,_,rfl,_,rfl,x3,d,N,A3,C3,tt,goal,M3,rfl,at_ (G3.u (yo_u u9)),t9,ok3,nok3,eA3,hd,n1,n4,lC3,fun q3 H10 u10 t10 f10 e10=>?_⟩
 have u810:=u9.trans u10
 have e9':=u10.lst e9
 refine ⟨_,rfl,_,rfl,_,rfl,x2,d,N,A2,C2,tt,goal,M2,rfl,at_ (G2.u (yo_u u810)),t10,ok2,nok2,eA2,hd,n1,n4,lC2,fun q2 H11 u11 t11 f11 e11=>?_⟩
 have u811:=u810.trans u11
 have e9':=u11.lst e9'
 have e10':=u11.lst e10
 rw [same12] at e11
 refine ⟨_,rfl,_,_,.lst (SqL.of e11) (rdQs _),.lst (SqL.of e9') (rdQs _),qfn9 _,qfn9 _,_,rfl,?_⟩
 rw [qfa9 eqvQ]
 refine iteN (by simp) ?_
 have G1':=G1.u (yo_u u811)
 have G2':=G2.u (yo_u u811)
 have G3':=G3.u (yo_u u811)
 refine ⟨_,rfl,_,rfl,x1,d,N,A1,C1,tt,rfl,at_ G1',lC1,n1,_,rfl,iteF ?_⟩
 have u511:=u58.trans u811
 have N1:=hM1.u u511
 have N2:=hM2.u u511
 have N3:=hM3.u u511
 have wnew:∀ {b:Addr},H8 b=none->¬ (WN p1 M1 b\/WN p2 M2 b\/WN p3 M3 b):=fun {b} f z=>by
  obtain ⟨xs,e⟩:=wex b z
  rw [u58.lst e] at f
  cases f
 have S11:=(SameU.of S5).trans u511
 have eh:=u511.lst e5
 refine ⟨_,rfl,ph,rfl,⟨_,SqL.of eh⟩,qdm9 (K:=K) (a:=ph) (xs:=[V.ref p1,V.ref p2,V.ref p3])
  (fun i σ H'=>∃ v:Option V,σ=[some (.ref a),some (.int d),some (.int N),some (.ref pr),some (.int goal),some (.int tt),some (.ref ph),some (.ref x1),some (.ref x2),some (.ref x3),some (.ref q1),some (.ref q3),v]/\Spo (fun b=>WN p1 M1 b\/WN p2 M2 b\/WN p3 M3 b) H11 H'/\T H'/\(i<=0->NA H' p1 M1)/\(i<=1->NA H' p2 M2)/\(i<=2->NA H' p3 M3))
  ⟨_,rfl,fun b o e _=>e,t11,fun _=>N1,fun _=>N2,fun _=>N3⟩ (fun i σ H' _ ⟨_,_,s,_⟩=>SqL.of (s _ _ eh wph)) ?_ ?_⟩
 ·intro i y σ HA hi z9;obtain ⟨v,rfl,sA,tA,k1,k2,k3⟩ := z9
  have SA:=Spo.seq hS S11 sA wno
  match i,hi with
  | 0,hi =>
   obtain rfl:y=.ref p1:=by simpa using hi.symm
   have kA:=k1 (Nat.le_refl _)
   refine ⟨_,rfl,_,rfl,_,rfl,a,ns,2,rfl,SA,by decide,fun c2=>⟨_,_,rfl,rfl,(by show (0:Int) < 2; decide),d,p1,M1,_,rfl,kA,tA,fun HB sB tB=>?_⟩⟩
   exact ⟨_,rfl,sA.trans sB fun b hb=>.inl hb,tB,fun h=>absurd h (by decide),fun _=>(k2 (by decide)).spo sB dj12 kA.wn,fun _=>(k3 (by decide)).spo sB dj13 kA.wn⟩
  | 1,hi =>
   obtain rfl:y=.ref p2:=by simpa using hi.symm
   have kA:=k2 (Nat.le_refl _)
   refine ⟨_,rfl,_,rfl,_,rfl,a,ns,2,rfl,SA,by decide,fun c2=>⟨_,_,rfl,rfl,(by show (0:Int) < 2; decide),d,p2,M2,_,rfl,kA,tA,fun HB sB tB=>?_⟩⟩
   exact ⟨_,rfl,sA.trans sB fun b hb=>.inr (.inl hb),tB,fun h=>absurd h (by decide),fun h=>absurd h (by decide),fun _=>(k3 (by decide)).spo sB dj23 kA.wn⟩
  | 2,hi =>
   obtain rfl:y=.ref p3:=by simpa using hi.symm
   have kA:=k3 (Nat.le_refl _)
   refine ⟨_,rfl,_,rfl,_,rfl,a,ns,2,rfl,SA,by decide,fun c2=>⟨_,_,rfl,rfl,(by show (0:Int) < 2; decide),d,p3,M3,_,rfl,kA,tA,fun HB sB tB=>?_⟩⟩
   exact ⟨_,rfl,sA.trans sB fun b hb=>.inr (.inr hb),tB,fun h=>absurd h (by decide),fun h=>absurd h (by decide),fun h=>absurd h (by decide)⟩
  | i+3,hi=>simp at hi
 intro σ HA z9;obtain ⟨v,rfl,sA,tA,_⟩ := z9
 have yA:=yo_spo (H0:=H5) sA wex
 have G1:=G1'.u (SameU.of yA)
 have G2:=G2'.u (SameU.of yA)
 have G3:=G3'.u (SameU.of yA)
 have i1:=sA _ _ e9' (wnew f9)
 have i3:=sA _ _ e10' (wnew (u9.free f10))
 refine ⟨_,rfl,_,rfl,_,rfl,x1,d,N,A1,C1,tt,goal,M1,rfl,at_ G1,tA,ok1,nok1,eA1,hd,n1,n4,lC1,fun q4 HB uB tB fB eB=>?_⟩
 refine ⟨_,rfl,_,_,.lst (SqL.of eB) (rdQs _),.lst (SqL.of (uB.lst i1)) (rdQs _),qfn9 _,qfn9 _,_,rfl,?_⟩
 rw [qfa9 eqvQ]
 refine iteN (by simp) ?_
 refine ⟨_,rfl,_,rfl,_,rfl,x2,d,N,A2,C2,tt,goal,M2,rfl,at_ (G2.u (yo_u uB)),tB,ok2,nok2,eA2,hd,n1,n4,lC2,fun q5 HC uC tC fC eC=>?_⟩
 rw [same12] at eC
 refine ⟨_,rfl,_,_,.lst (SqL.of eC) (rdQs _),.lst (SqL.of ((uB.trans uC).lst i1)) (rdQs _),qfn9 _,qfn9 _,_,rfl,?_⟩
 rw [qfa9 eqvQ]
 refine iteN (by simp) ?_
 have uBC:=uB.trans uC
 refine ⟨_,rfl,_,rfl,_,rfl,x3,d,N,A3,C3,tt,goal,M3,rfl,at_ (G3.u (yo_u uBC)),tC,ok3,nok3,eA3,hd,n1,n4,lC3,fun q6 HD uD tD fD eD=>?_⟩
 refine ⟨_,rfl,_,_,.lst (SqL.of eD) (rdQs _),.lst (SqL.of ((uBC.trans uD).lst i3)) (rdQs _),qfn9 _,qfn9 _,?_⟩
 rw [qfa9 eqvQ]
 have z:∀ b:Bool,b=true->Q (.bl b) HD:=fun b e=>by rw [e]; exact q HD
 exact z _ (by simp)
end
noncomputable def Rw (K:W.Frag) (x:Str) (st:Stmt):Prop:=∃ (f:Addr) (oc:Value) (od:Option Addr) (kV dc pm:Value) (an:Option Addr) (cd ct:Value) (sl:Array (Option Value)),W.nsIn K mainGlobals x=some (some (.ref f))/\K.lookup f=some ⟨oc,od,.func (W.fnOf x x (qah9 st) (qag9 st) (qaa9 st) .none kV dc pm an cd ct),sl⟩/\W.codeIn K cd x=true/\W.keepIn K (.ref f)=true
theorem Rw.mk {K:W.Frag} {x:Str} {st:Stmt} {f:Addr} {oc:Value} {od:Option Addr} {kV dc pm:Value} {an:Option Addr} {cd ct:Value} {sl:Array (Option Value)} (a:W.nsIn K mainGlobals x=some (some (.ref f))) (l:K.lookup f=some ⟨oc,od,.func (W.fnOf x x (qah9 st) (qag9 st) (qaa9 st) .none kV dc pm an cd ct),sl⟩) (c:W.codeIn K cd x=true) (k:W.keepIn K (.ref f)=true):Rw K x st:=⟨f,oc,od,kV,dc,pm,an,cd,ct,sl,a,l,c,k⟩
structure Has (K:W.Frag) (mg:Str->Option Value) (x:Str) (st:Stmt) (ps:List Str):Prop where
 ex:∃ (f:Addr) (fd:FuncData),Fun K x x st f fd/\Binds K fd ps []/\mg x=some (.ref f)
section
variable {P:Program} {w:World} {base h:Heap} {K:W.Frag} {mg:Str->Option Value} {n:Nat} {x:Str} {st:Stmt} {ps:List Str} {sp:Sp}
theorem Rw.has (r:Rw K x st) (X:K.In h/\h.Ns mainGlobals mg) (hb:∀ (kV dc pm:Value) (an:Option Addr) (cd ct:Value) (us:List Value),us.length=ps.length->bindArgs (W.fnOf x x (qah9 st) (qag9 st) (qaa9 st) .none kV dc pm an cd ct) ⟨us,[]⟩=pure (ps.zip us)):Has K mg x st ps:=by
 obtain ⟨f,oc,od,kV,dc,pm,an,cd,ct,sl,a,l,c,k⟩:=r
 have F:=qfl9 (st:=st) l c k
 exact ⟨⟨f,_,F,F.binds hb,W.mg_of X.1 X.2 a⟩⟩
theorem Has.cal (H:Has K mg x st ps) (ok:∀ {f:Addr} {fd:FuncData},Fun K x x st f fd->FnOk P w K mg base CX0 n f fd ps sp):Callee P w K mg base n x ps sp:=by
 obtain ⟨f,fd,F,b,m⟩:=H.ex
 exact Callee.mk' (ok F) b F.kp m
theorem Rw.h1 (r:Rw K x st) (p0:Str) (X:K.In h/\h.Ns mainGlobals mg) (hb:∀ (kV dc pm:Value) (an:Option Addr) (cd ct a0:Value),bindArgs (W.fnOf x x (qah9 st) (qag9 st) (qaa9 st) .none kV dc pm an cd ct) ⟨[a0],[]⟩=pure [(p0,a0)]):Has K mg x st [p0]:=r.has X fun _ _ _ _ _ _ us hl=>by
 obtain ⟨_,rfl⟩:=bl_1 hl
 exact hb _ _ _ _ _ _ _
theorem Rw.h2 (r:Rw K x st) (p0 p1:Str) (X:K.In h/\h.Ns mainGlobals mg) (hb:∀ (kV dc pm:Value) (an:Option Addr) (cd ct a0 a1:Value),bindArgs (W.fnOf x x (qah9 st) (qag9 st) (qaa9 st) .none kV dc pm an cd ct) ⟨[a0,a1],[]⟩=pure [(p0,a0),(p1,a1)]):Has K mg x st [p0,p1]:=r.has X fun _ _ _ _ _ _ us hl=>by
 obtain ⟨_,_,rfl⟩:=bl_2 hl
 exact hb _ _ _ _ _ _ _ _
theorem Rw.h3 (r:Rw K x st) (p0 p1 p2:Str) (X:K.In h/\h.Ns mainGlobals mg) (hb:∀ (kV dc pm:Value) (an:Option Addr) (cd ct a0 a1 a2:Value),bindArgs (W.fnOf x x (qah9 st) (qag9 st) (qaa9 st) .none kV dc pm an cd ct) ⟨[a0,a1,a2],[]⟩=pure [(p0,a0),(p1,a1),(p2,a2)]):Has K mg x st [p0,p1,p2]:=r.has X fun _ _ _ _ _ _ us hl=>by
 obtain ⟨_,_,_,rfl⟩:=bl_3 hl
 exact hb _ _ _ _ _ _ _ _ _
theorem Rw.h4 (r:Rw K x st) (p0 p1 p2 p3:Str) (X:K.In h/\h.Ns mainGlobals mg) (hb:∀ (kV dc pm:Value) (an:Option Addr) (cd ct a0 a1 a2 a3:Value),bindArgs (W.fnOf x x (qah9 st) (qag9 st) (qaa9 st) .none kV dc pm an cd ct) ⟨[a0,a1,a2,a3],[]⟩=pure [(p0,a0),(p1,a1),(p2,a2),(p3,a3)]):Has K mg x st [p0,p1,p2,p3]:=r.has X fun _ _ _ _ _ _ us hl=>by
 obtain ⟨_,_,_,_,rfl⟩:=bl_4 hl
 exact hb _ _ _ _ _ _ _ _ _ _
theorem Rw.h5 (r:Rw K x st) (p0 p1 p2 p3 p4:Str) (X:K.In h/\h.Ns mainGlobals mg) (hb:∀ (kV dc pm:Value) (an:Option Addr) (cd ct a0 a1 a2 a3 a4:Value),bindArgs (W.fnOf x x (qah9 st) (qag9 st) (qaa9 st) .none kV dc pm an cd ct) ⟨[a0,a1,a2,a3,a4],[]⟩=pure [(p0,a0),(p1,a1),(p2,a2),(p3,a3),(p4,a4)]):Has K mg x st [p0,p1,p2,p3,p4]:=r.has X fun _ _ _ _ _ _ us hl=>by
 obtain ⟨_,_,_,_,_,rfl⟩:=bl_5 hl
 exact hb _ _ _ _ _ _ _ _ _ _ _
theorem Rw.h6 (r:Rw K x st) (p0 p1 p2 p3 p4 p5:Str) (X:K.In h/\h.Ns mainGlobals mg) (hb:∀ (kV dc pm:Value) (an:Option Addr) (cd ct a0 a1 a2 a3 a4 a5:Value),bindArgs (W.fnOf x x (qah9 st) (qag9 st) (qaa9 st) .none kV dc pm an cd ct) ⟨[a0,a1,a2,a3,a4,a5],[]⟩=pure [(p0,a0),(p1,a1),(p2,a2),(p3,a3),(p4,a4),(p5,a5)]):Has K mg x st [p0,p1,p2,p3,p4,p5]:=r.has X fun _ _ _ _ _ _ us hl=>by
 obtain ⟨_,_,_,_,_,_,rfl⟩:=bl_6 hl
 exact hb _ _ _ _ _ _ _ _ _ _ _ _
theorem Rw.h7 (r:Rw K x st) (p0 p1 p2 p3 p4 p5 p6:Str) (X:K.In h/\h.Ns mainGlobals mg) (hb:∀ (kV dc pm:Value) (an:Option Addr) (cd ct a0 a1 a2 a3 a4 a5 a6:Value),bindArgs (W.fnOf x x (qah9 st) (qag9 st) (qaa9 st) .none kV dc pm an cd ct) ⟨[a0,a1,a2,a3,a4,a5,a6],[]⟩=pure [(p0,a0),(p1,a1),(p2,a2),(p3,a3),(p4,a4),(p5,a5),(p6,a6)]):Has K mg x st [p0,p1,p2,p3,p4,p5,p6]:=r.has X fun _ _ _ _ _ _ us hl=>by
 obtain ⟨_,_,_,_,_,_,_,rfl⟩:=bl_7 hl
 exact hb _ _ _ _ _ _ _ _ _ _ _ _ _
end
noncomputable abbrev NI (K:W.Frag) (x:Str) (f:Addr):Prop:=W.nsIn K mainGlobals x=some (some (.ref f))
noncomputable abbrev LK (K:W.Frag) (f:Addr) (x:Str) (st:Stmt) (oc:Value) (od:Option Addr) (kV dc pm:Value) (an:Option Addr) (cd ct:Value) (sl:Array (Option Value)):Prop:=K.lookup f=some ⟨oc,od,.func (W.fnOf x x (qah9 st) (qag9 st) (qaa9 st) .none kV dc pm an cd ct),sl⟩
noncomputable abbrev CI (K:W.Frag) (cd:Value) (x:Str):Prop:=W.codeIn K cd x=true
noncomputable abbrev KI (K:W.Frag) (f:Addr):Prop:=W.keepIn K (.ref f)=true
theorem all_mk {l:W.OpenLaw} {q:Program} {loose:List Str} {mean:ExcName->Option Value} {w:World} {K:W.Frag} {h:Heap} {mg mb:Str->Option Value} {fa:Addr} (X:K.In h) (G:PyProof.Rows.Top q (W.looseW q loose) mean mg mb h) (hfa:mg "law" = some (.ref fa))
  {f10 f11 f23 f25 f30 f32 f36 f50 f51 f52 f53 f54 f55 cGate td51 tc0 tp0 tc1 tp1 tc2 tp2 tc3 tp3:Addr} {dr0 dr1 dr2 dr3:DefRec} {od10 an10 od11 an11 od23 an23 od25 an25 od30 an30 od32 an32 od36 an36 od50 an50 od51 an51 od52 an52 od53 an53 od54 an54 od55 an55:Option Addr} {sl10 sl11 sl23 sl25 sl30 sl32 sl36 sl50 sl51 sl52 sl53 sl54 sl55:Array (Option Value)} {oc10 kV10 dc10 pm10 cd10 ct10 oc11 kV11 dc11 pm11 ct11 oc23 kV23 dc23 pm23 ct23 oc25 kV25 dc25 pm25 cd25 ct25 oc30 kV30 dc30 pm30 cd30 ct30 oc32 kV32 dc32 pm32 ct32 oc36 kV36 dc36 pm36 ct36 oc50 kV50 dc50 pm50 cd50 ct50 oc51 kV51 dc51 pm51 cd51 ct51 oc52 kV52 dc52 pm52 cd52 ct52 oc53 kV53 dc53 pm53 cd53 ct53 oc54 kV54 dc54 pm54 cd54 ct54 oc55 kV55 dc55 pm55 cd55 ct55:Value} {odd51:Option Addr} {sld51:Array (Option Value)} {ocd51:Value} {nd51:Nat} {tkd51:Tok} {cNoTurn nNoTurn:Addr} {nmNoTurn qNoTurn:Str} {bsNoTurn bmNoTurn suNoTurn:List Value} {hdNoTurn abNoTurn:Bool} {snNoTurn:List Str} {coNoTurn:Option Bool} {ddNoTurn:Option Addr} {k0NoTurn k1NoTurn k2NoTurn k3NoTurn k5NoTurn:Option Value}
  (r0_:Rw K "is_whole" qde9)
  (r1_:Rw K "is_window" qco9)
  (r2_:Rw K "is_board" qdd9)
  (r3_:Rw K "next_open" qcl9)
  (r4_:Rw K "is_number" qcm9)
  (r5_:Rw K "is_road" qdt9)
  (r6_:Rw K "is_net" qej9)
  (r7_:Rw K "need_net" qdc9)
  (r8_:Rw K "need_place" qce9)
  (r9_:Rw K "copied" qel9)
  (a10:NI K "first_where" f10) (l10:LK K f10 "first_where" qaz9 oc10 od10 kV10 dc10 pm10 an10 cd10 ct10 sl10) (c10:CI K cd10 "first_where") (k10:KI K f10)
  (a11:NI K "set_off" f11) (l11:LK K f11 "set_off" qbl9 oc11 od11 kV11 dc11 pm11 an11 (.ref tc0) ct11 sl11) (c11:CI K (.ref tc0) "set_off") (k11:KI K f11)
  (r12_:Rw K "come" qgy9)
  (r13_:Rw K "standing" qcz9)
  (r14_:Rw K "stretches" qcs9)
  (r15_:Rw K "first_told" qbz9)
  (r16_:Rw K "overlay" qdq9)
  (r17_:Rw K "put_window" qca9)
  (r18_:Rw K "clock_from" qcf9)
  (r19_:Rw K "picked" qeh9)
  (r20_:Rw K "joined" qeq9)
  (r21_:Rw K "sooner" qen9)
  (r22_:Rw K "later" qfi9)
  (a23:NI K "ridden" f23) (l23:LK K f23 "ridden" qbv9 oc23 od23 kV23 dc23 pm23 an23 (.ref tc1) ct23 sl23) (c23:CI K (.ref tc1) "ridden") (k23:KI K f23)
  (r24_:Rw K "behind" qeo9)
  (a25:NI K "clock_within" f25) (l25:LK K f25 "clock_within" qbk9 oc25 od25 kV25 dc25 pm25 an25 cd25 ct25 sl25) (c25:CI K cd25 "clock_within") (k25:KI K f25)
  (r26_:Rw K "clock_of" qdh9)
  (r27_:Rw K "fords_of" qdf9)
  (r28_:Rw K "staying" qdp9)
  (r29_:Rw K "copied_table" qbs9)
  (a30:NI K "grown" f30) (l30:LK K f30 "grown" qcv9 oc30 od30 kV30 dc30 pm30 an30 cd30 ct30 sl30) (c30:CI K cd30 "grown") (k30:KI K f30)
  (r31_:Rw K "ride_first" qcb9)
  (a32:NI K "rounds_to" f32) (l32:LK K f32 "rounds_to" qbd9 oc32 od32 kV32 dc32 pm32 an32 (.ref tc2) ct32 sl32) (c32:CI K (.ref tc2) "rounds_to") (k32:KI K f32)
  (r33_:Rw K "need_turn" qcp9)
  (r34_:Rw K "guarded" qdr9)
  (r35_:Rw K "ask_first" qcr9)
  (a36:NI K "guarded_rounds" f36) (l36:LK K f36 "guarded_rounds" qan9 oc36 od36 kV36 dc36 pm36 an36 (.ref tc3) ct36 sl36) (c36:CI K (.ref tc3) "guarded_rounds") (k36:KI K f36)
  (r37_:Rw K "level_rounds" qbr9)
  (r38_:Rw K "comes_by" qdb9)
  (r39_:Rw K "least_round" qbu9)
  (r40_:Rw K "ask_by" qer9)
  (r41_:Rw K "walk" qhd9)
  (r42_:Rw K "_law_cell_at" qbp9)
  (r43_:Rw K "_law_day" qcy9)
  (r44_:Rw K "_law_way" qda9)
  (r45_:Rw K "_law_net" qdg9)
  (r46_:Rw K "_law_copy" qcn9)
  (r47_:Rw K "_law_spoil" qcd9)
  (r48_:Rw K "_law_refused" qbq9)
  (r49_:Rw K "_law_all_told" qbm9)
  (a50:NI K "law" f50) (l50:LK K f50 "law" qgn9 oc50 od50 kV50 dc50 pm50 an50 cd50 ct50 sl50) (c50:CI K cd50 "law") (k50:KI K f50)
  (a51:W.findIn K (.ref cGate) "__init__" = some (some (.ref f51))) (i51:W.isFn K (.ref f51)=true) (l51:K.lookup f51=some ⟨oc51,od51,.func (W.fnOf "__init__" "Gate.__init__" (qah9 qar9) (qag9 qar9) (qaa9 qar9) (.ref td51) kV51 dc51 pm51 an51 cd51 ct51),sl51⟩) (c51:W.codeIn K cd51 "Gate.__init__" = true) (k51:W.keepIn K (.ref f51)=true) (d51:K.lookup td51=some ⟨ocd51,odd51,.seq #[.int 1 tkd51] nd51,sld51⟩)
  (a52:W.findIn K (.ref cGate) "told" = some (some (.ref f52))) (i52:W.isFn K (.ref f52)=true) (l52:K.lookup f52=some ⟨oc52,od52,.func (W.fnOf "told" "Gate.told" (qah9 qbo9) (qag9 qbo9) (qaa9 qbo9) .none kV52 dc52 pm52 an52 cd52 ct52),sl52⟩) (c52:W.codeIn K cd52 "Gate.told" = true) (k52:W.keepIn K (.ref f52)=true)
  (a53:W.findIn K (.ref cGate) "need_left" = some (some (.ref f53))) (i53:W.isFn K (.ref f53)=true) (l53:K.lookup f53=some ⟨oc53,od53,.func (W.fnOf "need_left" "Gate.need_left" (qah9 qau9) (qag9 qau9) (qaa9 qau9) .none kV53 dc53 pm53 an53 cd53 ct53),sl53⟩) (c53:W.codeIn K cd53 "Gate.need_left" = true) (k53:W.keepIn K (.ref f53)=true)
  (a54:W.findIn K (.ref cGate) "soonest" = some (some (.ref f54))) (i54:W.isFn K (.ref f54)=true) (l54:K.lookup f54=some ⟨oc54,od54,.func (W.fnOf "soonest" "Gate.soonest" (qah9 qbb9) (qag9 qbb9) (qaa9 qbb9) .none kV54 dc54 pm54 an54 cd54 ct54),sl54⟩) (c54:W.codeIn K cd54 "Gate.soonest" = true) (k54:W.keepIn K (.ref f54)=true)
  (a55:W.findIn K (.ref cGate) "plan" = some (some (.ref f55))) (i55:W.isFn K (.ref f55)=true) (l55:K.lookup f55=some ⟨oc55,od55,.func (W.fnOf "plan" "Gate.plan" (qah9 qbn9) (qag9 qbn9) (qaa9 qbn9) .none kV55 dc55 pm55 an55 cd55 ct55),sl55⟩) (c55:W.codeIn K cd55 "Gate.plan" = true) (k55:W.keepIn K (.ref f55)=true)
  (z0:W.nsIn K mainGlobals "len" = some none) (z1:W.nsIn K mainGlobals "max" = some none) (z2:W.nsIn K mainGlobals "min" = some none) (z3:W.nsIn K mainGlobals "all" = some none) (z4:W.nsIn K mainGlobals "range" = some none) (z5:W.nsIn K mainGlobals "enumerate" = some none) (z6:W.nsIn K mainGlobals "isinstance" = some none) (z7:W.nsIn K mainGlobals "bool" = some none) (z8:W.nsIn K mainGlobals "int" = some none) (z9:W.nsIn K mainGlobals "tuple" = some none) (z10:W.nsIn K mainGlobals "list" = some none) (aCGate:W.nsIn K mainGlobals "Gate" = some (some (.ref cGate))) (pgGate:W.plainGet K cGate Str.empty=true) (hdGate:W.hasDictIn K cGate=true) (poGate:W.plainOver K cGate=true) (saGate:W.findIn K (.ref cGate) "__setattr__" = some (some (.builtin "object.__setattr__"))) (mkGate:W.makesIn K cGate=true) (kcGate:W.keepIn K (.ref cGate)=true) (nfGate_levels:W.findIn K (.ref cGate) "levels" = some none) (nfGate_day:W.findIn K (.ref cGate) "day" = some none) (nfGate_size:W.findIn K (.ref cGate) "size" = some none) (nfGate_roads:W.findIn K (.ref cGate) "roads" = some none) (xa_NoTurn:W.nsIn K mainGlobals "NoTurn" = some (some (.ref cNoTurn))) (xl_NoTurn:K.lookup cNoTurn=some (excClassObj nmNoTurn qNoTurn cNoTurn nNoTurn bsNoTurn bmNoTurn hdNoTurn snNoTurn suNoTurn abNoTurn coNoTurn ddNoTurn k0NoTurn k1NoTurn k2NoTurn k3NoTurn k5NoTurn "ValueError.__new__")) (xq_NoTurn:W.excIn K cNoTurn [.type "ValueError",.type "Exception",.type "BaseException",.type "object"] "ValueError.__new__" = true) (xb_NoTurn:bmNoTurn.contains (.type "BaseException")=true)
  (r0:(PyProof.Rows.recsOf q).find? (fun e=>e.name == Str.ofString "set_off")=some dr0) (t0:W.tabIn K "set_off" = some (tc0,tp0)) (n0:K.lookup tp0=none) (r1:(PyProof.Rows.recsOf q).find? (fun e=>e.name == Str.ofString "ridden")=some dr1) (t1:W.tabIn K "ridden" = some (tc1,tp1)) (n1:K.lookup tp1=none) (r2:(PyProof.Rows.recsOf q).find? (fun e=>e.name == Str.ofString "rounds_to")=some dr2) (t2:W.tabIn K "rounds_to" = some (tc2,tp2)) (n2:K.lookup tp2=none) (r3:(PyProof.Rows.recsOf q).find? (fun e=>e.name == Str.ofString "guarded_rounds")=some dr3) (t3:W.tabIn K "guarded_rounds" = some (tc3,tp3)) (n3:K.lookup tp3=none) (ne01:tp0 ≠ tp1) (ne02:tp0 ≠ tp2) (ne03:tp0 ≠ tp3) (ne12:tp1 ≠ tp2) (ne13:tp1 ≠ tp3) (ne23:tp2 ≠ tp3) :
  ∃ (fd:FuncData) (tabs:List (Addr × Addr)),(∀ (s:Shared) (v:Value),BindsTo s fd ⟨[v],[]⟩ [("script",v)])/\(∀ t∈tabs,W.CodeHd h t.1 t.2/\h.get? t.2=some (W.tabObj #[])/\K.lookup t.2=none)/\∀ base:Heap,K.In base->base.Ns mainGlobals mg->BMain mg base->(∀ t∈tabs,W.CodeHd base t.1 t.2)->FnOk l.prog w K mg base CX0 25 fa fd ["script"] (spLaw K tabs):=by
 have e:=hfa.symm.trans (W.mg_of X G.g a50)
 cases e
 have XG:=And.intro X G.g
 have ClGate:Cls K cGate:=⟨pgGate,hdGate,poGate,saGate⟩
 have mCGate:=W.mg_of X G.g aCGate
 have H0:=r0_.h1 "thing" XG fun _ _ _ _ _ _ _=>rfl
 have H1:=r1_.h2 "day" "thing" XG fun _ _ _ _ _ _ _ _=>rfl
 have H2:=r2_.h2 "day" "thing" XG fun _ _ _ _ _ _ _ _=>rfl
 have H3:=r3_.h3 "day" "window" "t" XG fun _ _ _ _ _ _ _ _ _=>rfl
 have H4:=r4_.h2 "count" "thing" XG fun _ _ _ _ _ _ _ _=>rfl
 have H5:=r5_.h3 "day" "size" "thing" XG fun _ _ _ _ _ _ _ _ _=>rfl
 have H6:=r6_.h3 "day" "size" "roads" XG fun _ _ _ _ _ _ _ _ _=>rfl
 have H7:=r7_.h3 "day" "size" "roads" XG fun _ _ _ _ _ _ _ _ _=>rfl
 have H8:=r8_.h2 "size" "thing" XG fun _ _ _ _ _ _ _ _=>rfl
 have H9:=r9_.h1 "roads" XG fun _ _ _ _ _ _ _=>rfl
 have F10:=qfl9 (st:=qaz9) l10 c10 k10
 have b10:=F10.binds (ps:=["clock","holds"]) fun _ _ _ _ _ _ us hl=>by
  obtain ⟨_,_,rfl⟩:=bl_2 hl
  rfl
 have m10:=W.mg_of X G.g a10
 have F11:=qfl9 (st:=qbl9) l11 c11 k11
 have b11:=F11.binds (ps:=["day","clock","t"]) fun _ _ _ _ _ _ us hl=>by
  obtain ⟨_,_,_,rfl⟩:=bl_3 hl
  rfl
 have m11:=W.mg_of X G.g a11
 have H12:=r12_.h3 "day" "clock" "t" XG fun _ _ _ _ _ _ _ _ _=>rfl
 have H13:=r13_.h1 "day" XG fun _ _ _ _ _ _ _=>rfl
 have H14:=r14_.h2 "day" "clock" XG fun _ _ _ _ _ _ _ _=>rfl
 have H15:=r15_.h1 "row" XG fun _ _ _ _ _ _ _=>rfl
 have H16:=r16_.h3 "day" "one" "other" XG fun _ _ _ _ _ _ _ _ _=>rfl
 have H17:=r17_.h4 "clock" "a" "b" "c" XG fun _ _ _ _ _ _ _ _ _ _=>rfl
 have H18:=r18_.h2 "day" "rows" XG fun _ _ _ _ _ _ _ _=>rfl
 have H19:=r19_.h5 "p" "q" "waiting" "riding" "late" XG fun _ _ _ _ _ _ _ _ _ _ _=>rfl
 have H20:=r20_.h4 "day" "one" "other" "late" XG fun _ _ _ _ _ _ _ _ _ _=>rfl
 have H21:=r21_.h3 "day" "one" "other" XG fun _ _ _ _ _ _ _ _ _=>rfl
 have H22:=r22_.h3 "day" "one" "other" XG fun _ _ _ _ _ _ _ _ _=>rfl
 have F23:=qfl9 (st:=qbv9) l23 c23 k23
 have b23:=F23.binds (ps:=["day","p","q","ride","others"]) fun _ _ _ _ _ _ us hl=>by
  obtain ⟨_,_,_,_,_,rfl⟩:=bl_5 hl
  rfl
 have m23:=W.mg_of X G.g a23
 have H24:=r24_.h3 "day" "one" "other" XG fun _ _ _ _ _ _ _ _ _=>rfl
 have F25:=qfl9 (st:=qbk9) l25 c25 k25
 have b25:=F25.binds (ps:=["day","board"]) fun _ _ _ _ _ _ us hl=>by
  obtain ⟨_,_,rfl⟩:=bl_2 hl
  rfl
 have m25:=W.mg_of X G.g a25
 have H26:=r26_.h2 "day" "board" XG fun _ _ _ _ _ _ _ _=>rfl
 have H27:=r27_.h2 "day" "roads" XG fun _ _ _ _ _ _ _ _=>rfl
 have H28:=r28_.h3 "day" "size" "place" XG fun _ _ _ _ _ _ _ _ _=>rfl
 have H29:=r29_.h1 "told" XG fun _ _ _ _ _ _ _=>rfl
 have F30:=qfl9 (st:=qcv9) l30 c30 k30
 have b30:=F30.binds (ps:=["day","size","place","step"]) fun _ _ _ _ _ _ us hl=>by
  obtain ⟨_,_,_,_,rfl⟩:=bl_4 hl
  rfl
 have m30:=W.mg_of X G.g a30
 have H31:=r31_.h3 "day" "fords" "told" XG fun _ _ _ _ _ _ _ _ _=>rfl
 have F32:=qfl9 (st:=qbd9) l32 c32 k32
 have b32:=F32.binds (ps:=["day","size","roads","goal"]) fun _ _ _ _ _ _ us hl=>by
  obtain ⟨_,_,_,_,rfl⟩:=bl_4 hl
  rfl
 have m32:=W.mg_of X G.g a32
 have H33:=r33_.h1 "thing" XG fun _ _ _ _ _ _ _=>rfl
 have H34:=r34_.h3 "day" "roads" "guard" XG fun _ _ _ _ _ _ _ _ _=>rfl
 have H35:=r35_.h3 "day" "asks" "told" XG fun _ _ _ _ _ _ _ _ _=>rfl
 have F36:=qfl9 (st:=qan9) l36 c36 k36
 have b36:=F36.binds (ps:=["day","size","roads","goal","guard"]) fun _ _ _ _ _ _ us hl=>by
  obtain ⟨_,_,_,_,_,rfl⟩:=bl_5 hl
  rfl
 have m36:=W.mg_of X G.g a36
 have H37:=r37_.h5 "day" "size" "roads" "goal" "most" XG fun _ _ _ _ _ _ _ _ _ _ _=>rfl
 have H38:=r38_.h4 "day" "clock" "t" "s" XG fun _ _ _ _ _ _ _ _ _ _=>rfl
 have H39:=r39_.h5 "day" "tables" "place" "t" "s" XG fun _ _ _ _ _ _ _ _ _ _ _=>rfl
 have H40:=r40_.h7 "day" "roads" "told" "guard" "place" "t" "s" XG fun _ _ _ _ _ _ _ _ _ _ _ _ _=>rfl
 have H41:=r41_.h6 "day" "roads" "tables" "guard" "place" "t" XG fun _ _ _ _ _ _ _ _ _ _ _ _=>rfl
 have H42:=r42_.h2 "script" "k" XG fun _ _ _ _ _ _ _ _=>rfl
 have H43:=r43_.h1 "cell" XG fun _ _ _ _ _ _ _=>rfl
 have H44:=r44_.h2 "day" "cell" XG fun _ _ _ _ _ _ _ _=>rfl
 have H45:=r45_.h2 "script" "start" XG fun _ _ _ _ _ _ _ _=>rfl
 have H46:=r46_.h1 "roads" XG fun _ _ _ _ _ _ _=>rfl
 have H47:=r47_.h3 "day" "handed" "bit" XG fun _ _ _ _ _ _ _ _ _=>rfl
 have H48:=r48_.h2 "gate" "t" XG fun _ _ _ _ _ _ _ _=>rfl
 have H49:=r49_.h3 "gate" "size" "t" XG fun _ _ _ _ _ _ _ _ _=>rfl
 have F50:=qfl9 (st:=qgn9) l50 c50 k50
 have b50:=F50.binds (ps:=["script"]) fun _ _ _ _ _ _ us hl=>by
  obtain ⟨_,rfl⟩:=bl_1 hl
  rfl
 have m50:=W.mg_of X G.g a50
 have F51:FunD K "__init__" "Gate.__init__" qar9 f51 _:=⟨⟨oc51,od51,.ref td51,kV51,dc51,pm51,an51,cd51,ct51,sl51,rfl,l51,c51⟩⟩
 have b51:Binds K (W.fnOf "__init__" "Gate.__init__" (qah9 qar9) (qag9 qar9) (qaa9 qar9) (.ref td51) kV51 dc51 pm51 an51 cd51 ct51) ["self","day","size","roads","goal","most"] []:=fun s us KX hl=>by
  rw [List.append_nil] at hl ⊢
  obtain ⟨_,_,_,_,_,_,rfl⟩:=bl_6 hl
  exact W.binds_K KX rfl d51 rfl rfl rfl
 have F52:=qfl9 (st:=qbo9) l52 c52 k52
 have b52:=F52.binds (ps:=["self","place","t","left"]) fun _ _ _ _ _ _ us hl=>by
  obtain ⟨_,_,_,_,rfl⟩:=bl_4 hl
  rfl
 have me52:Meth K cGate "told" f52:=⟨a52,i52,k52⟩
 have F53:=qfl9 (st:=qau9) l53 c53 k53
 have b53:=F53.binds (ps:=["self","left"]) fun _ _ _ _ _ _ us hl=>by
  obtain ⟨_,_,rfl⟩:=bl_2 hl
  rfl
 have me53:Meth K cGate "need_left" f53:=⟨a53,i53,k53⟩
 have F54:=qfl9 (st:=qbb9) l54 c54 k54
 have b54:=F54.binds (ps:=["self","place","t","left"]) fun _ _ _ _ _ _ us hl=>by
  obtain ⟨_,_,_,_,rfl⟩:=bl_4 hl
  rfl
 have me54:Meth K cGate "soonest" f54:=⟨a54,i54,k54⟩
 have F55:=qfl9 (st:=qbn9) l55 c55 k55
 have b55:=F55.binds (ps:=["self","place","t","left"]) fun _ _ _ _ _ _ us hl=>by
  obtain ⟨_,_,_,_,rfl⟩:=bl_4 hl
  rfl
 have me55:Meth K cGate "plan" f55:=⟨a55,i55,k55⟩
 obtain ⟨hd0,ho0⟩:=W.tab_of G X r0 t0
 obtain ⟨hd1,ho1⟩:=W.tab_of G X r1 t1
 obtain ⟨hd2,ho2⟩:=W.tab_of G X r2 t2
 obtain ⟨hd3,ho3⟩:=W.tab_of G X r3 t3
 have B:Bl mg:=⟨W.mg_none_of X G.g z0,W.mg_none_of X G.g z1,W.mg_none_of X G.g z2,W.mg_none_of X G.g z3,W.mg_none_of X G.g z4,W.mg_none_of X G.g z5,W.mg_none_of X G.g z6,W.mg_none_of X G.g z7,W.mg_none_of X G.g z8,W.mg_none_of X G.g z9,W.mg_none_of X G.g z10⟩
 refine ⟨W.fnOf "law" "law" (qah9 qgn9) (qag9 qgn9) (qaa9 qgn9) .none kV50 dc50 pm50 an50 cd50 ct50,[(tc0,tp0),(tc1,tp1),(tc2,tp2),(tc3,tp3)],fun s v=>.of_eq rfl,fun t ht=>?_,fun base _ _ hB hT=>?_⟩
 ·simp only [List.mem_cons,List.not_mem_nil,or_false] at ht
  rcases ht with rfl | rfl | rfl | rfl
  ·exact ⟨hd0,ho0,n0⟩
  ·exact ⟨hd1,ho1,n1⟩
  ·exact ⟨hd2,ho2,n2⟩
  ·exact ⟨hd3,ho3,n3⟩
 have T0:=hT (tc0,tp0) (by simp)
 have T1:=hT (tc1,tp1) (by simp)
 have T2:=hT (tc2,tp2) (by simp)
 have T3:=hT (tc3,tp3) (by simp)
 have cal:=@Has.cal l.prog w base
 have Cf0:=cal H0 fun F=>qmf9 (n:=0) F B
 have Ca1:=cal H1 fun F=>qjn9 (n:=1) F B Cf0
 have Cr0:=cal H2 fun F=>qlr9 (n:=2) F B Ca1
 have Co0:=cal H3 fun F=>ok_next (n:=1) F B
 have Cl1:=Callee.mk' (P:=l.prog) (w:=w) (base:=base) (qoo9 l11 c11 B T0 hB F10 b10 m10 Co0) b11 k11 m11
 have Cw0:=cal H12 fun F=>ok_come (n:=3) F Cl1
 have Ch0:=cal H14 fun F=>qka9 (n:=3) F B
 have Cu0:=cal H15 fun F=>qid9 (n:=3) F
 have Ck1:=cal H16 fun F=>qou9 (n:=4) F B Ch0
 have Cv0:=cal H17 fun F=>ok_put (n:=3) F B
 have Ck0:=cal H18 fun F=>qip9 (n:=4) F B Cu0 Cv0
 have Cf1:=cal H19 fun F=>ok_picked (n:=4) F B
 have Cx0:=cal H20 fun F=>ok_joined (n:=5) F B Ck1 Cf1 Ck0
 have Cj0:=cal H21 fun F=>ok_sooner (n:=6) F B Cx0
 have Cd0:=Callee.mk' (P:=l.prog) (w:=w) (base:=base) (qlc9 F25 B b25 k25 m25 Cj0 10) b25 k25 m25
 have Cg1:=cal H26 fun F=>qma9 (n:=18) F (Cr0.up (by decide)) Cd0
 have Cc0:=cal H4 fun F=>qjl9 (n:=1) F Cf0
 have Cm1:=cal H5 fun F=>qmx9 (n:=3) F B (Cc0.up (by decide)) Cr0
 have Cq1:=cal H6 fun F=>ok_is_net (n:=4) F B (Cf0.up (by decide)) Cm1
 have Cp1:=Callee.mk' (P:=l.prog) (w:=w) (base:=base) (ok_ridden l23 c23 B T1 hB F10 b10 m10) b23 k23 m23
 have TBx:TB fun H=>TabOk H tp0 ⟨68,32,68,64⟩ (lamQ "set_off")/\TabOk H tp1 ⟨154,28,154,54⟩ (lamQ "ridden")/\TabOk H tp2 ⟨210,34,210,75⟩ (lamQ "rounds_to")/\TabOk H tp3 ⟨229,34,229,73⟩ (lamQ "guarded_rounds"):=(tb_one _ _ _).and ((tb_one _ _ _).and ((tb_one _ _ _).and (tb_one _ _ _)))
 have CT:=come_T (T:=fun H=>TabOk H tp0 ⟨68,32,68,64⟩ (lamQ "set_off")/\TabOk H tp1 ⟨154,28,154,54⟩ (lamQ "ridden")/\TabOk H tp2 ⟨210,34,210,75⟩ (lamQ "rounds_to")/\TabOk H tp3 ⟨229,34,229,73⟩ (lamQ "guarded_rounds")) Cw0 (fun _ t=>t.1) (fun _ _ t s t'=>⟨t',qbx9 t.2.1 t.1 s ne01.symm,qbx9 t.2.2.1 t.1 s ne02.symm,qbx9 t.2.2.2 t.1 s ne03.symm⟩)
 have CR:=ridden_T (T:=fun H=>TabOk H tp0 ⟨68,32,68,64⟩ (lamQ "set_off")/\TabOk H tp1 ⟨154,28,154,54⟩ (lamQ "ridden")/\TabOk H tp2 ⟨210,34,210,75⟩ (lamQ "rounds_to")/\TabOk H tp3 ⟨229,34,229,73⟩ (lamQ "guarded_rounds")) Cp1 (fun _ t=>t.2.1) (fun _ _ t s t'=>⟨qbx9 t.1 t.2.1 s ne01,t',qbx9 t.2.2.1 t.2.1 s ne12.symm,qbx9 t.2.2.2 t.2.1 s ne13.symm⟩)
 have Cm0:=cal H24 fun F=>ok_behind (n:=5) TBx F B (Ch0.up (by decide)) (CT.up (by decide)) (CR.up (by decide)) Ck0
 have Cj1:=cal H7 fun F=>qlz9 (n:=5) F Cq1
 have Cb0:=cal H8 fun F=>qie9 (n:=2) F Cc0
 have Ch1:=cal H13 fun F=>ok_stand (n:=0) F
 have Ci1:=cal H27 fun F=>qls9 (n:=19) F Cg1
 have Ce0:=cal H28 fun F=>qoz9 (n:=1) F B Ch1
 have Ca0:=cal H29 fun F=>ok_copied (n:=0) F B
 have Cq0:=cal H31 fun F=>qic9 (n:=7) TBx F (Ca0.up (by decide)) Cj0 (Cm0.up (by decide))
 have Cc1:=Callee.mk' (P:=l.prog) (w:=w) (base:=base) (qjr9 (n:=18) l32 c32 B T2 hB F30 b30 m30 TBx (fun _ t=>t.2.2.1) (fun _ _ t s t'=>⟨qbx9 t.1 t.2.2.1 s ne02,qbx9 t.2.1 t.2.2.1 s ne12,t',qbx9 t.2.2.2 t.2.2.1 s ne23.symm⟩) Ci1 (Ce0.up (by decide)) (Ca0.up (by decide)) (Cq0.up (by decide))) b32 k32 m32
 have Cu1:=cal H22 fun F=>ok_later (n:=6) F B Cx0
 have Cn1:=cal H34 fun F=>qom9 (n:=7) TBx F (Cm0.up (by decide))
 have Cs0:=cal H35 fun F=>qjq9 (n:=7) TBx F (Ca0.up (by decide)) Cj0 Cu1 (Cm0.up (by decide))
 have Ct0:=Callee.mk' (P:=l.prog) (w:=w) (base:=base) (qoh9 (n:=18) l36 c36 B T3 hB F30 b30 m30 TBx (fun _ t=>t.2.2.2) (fun _ _ t s t'=>⟨qbx9 t.1 t.2.2.2 s ne03,qbx9 t.2.1 t.2.2.2 s ne13,qbx9 t.2.2.1 t.2.2.2 s ne23,t'⟩) (Cn1.up (by decide)) (Ce0.up (by decide)) (Ca0.up (by decide)) (Cs0.up (by decide))) b36 k36 m36
 have Cb1:=cal H33 fun F=>qjs9 (n:=1) F Cf0
 have Cl0:=cal H37 fun F=>qmm9 (n:=21) TBx F B (Cj1.up (by decide)) (Cb0.up (by decide)) (Cb1.up (by decide)) Cc1 Ct0
 have Ce1:=cal H42 fun F=>ok_cell (n:=17) F B
 have Cc2:=cal H43 fun F=>ok_day (n:=18) F
 have Cd2:=cal H44 fun F=>ok_way (n:=17) F
 have Ce2:=cal H45 fun F=>ok_netG (n:=19) F B (Ce1.up (by decide)) Cc2 (Cd2.up (by decide))
 have Cb2:=cal H46 fun F=>ok_copyG (n:=5) F B
 have GX:GTxt K cGate:=⟨ClGate,nfGate_levels,nfGate_day,nfGate_size,nfGate_roads⟩
 have TIx:TBI (fun H=>TabOk H tp0 ⟨68,32,68,64⟩ (lamQ "set_off")/\TabOk H tp1 ⟨154,28,154,54⟩ (lamQ "ridden")/\TabOk H tp2 ⟨210,34,210,75⟩ (lamQ "rounds_to")/\TabOk H tp3 ⟨229,34,229,73⟩ (lamQ "guarded_rounds")):=(qko9 _ _ _).and ((qko9 _ _ _).and ((qko9 _ _ _).and (qko9 _ _ _)))
 have Cz0:=cal H9 fun F=>qly9 (n:=5) F B
 have Cd1:MCal l.prog w K mg base 6 cGate "told" ["self","place","t","left"] (qjt9 (fun H=>TabOk H tp0 ⟨68,32,68,64⟩ (lamQ "set_off")/\TabOk H tp1 ⟨154,28,154,54⟩ (lamQ "ridden")/\TabOk H tp2 ⟨210,34,210,75⟩ (lamQ "rounds_to")/\TabOk H tp3 ⟨229,34,229,73⟩ (lamQ "guarded_rounds")) cGate):=⟨⟨_,_,ok_told (n:=5) GX F52 (CT.up (by decide)),b52,me52⟩,ClGate⟩
 have Cp0:MCal l.prog w K mg base 4 cGate "need_left" ["self","left"] (spLeft cGate):=⟨⟨_,_,qiw9 (n:=3) GX F53 B (Cc0.up (by decide)),b53,me53⟩,ClGate⟩
 have Co1:MCal l.prog w K mg base 7 cGate "soonest" ["self","place","t","left"] (qjt9 (fun H=>TabOk H tp0 ⟨68,32,68,64⟩ (lamQ "set_off")/\TabOk H tp1 ⟨154,28,154,54⟩ (lamQ "ridden")/\TabOk H tp2 ⟨210,34,210,75⟩ (lamQ "rounds_to")/\TabOk H tp3 ⟨229,34,229,73⟩ (lamQ "guarded_rounds")) cGate):=⟨⟨_,_,qox9 (n:=6) GX F54 (Cb0.up (by decide)) (Cp0.up (by decide)) Cd1,b54,me54⟩,ClGate⟩
 have K_Gate:KCal l.prog w K mg base 23 "Gate" cGate ["self","day","size","roads","goal","most"] (qjc9 (fun H=>TabOk H tp0 ⟨68,32,68,64⟩ (lamQ "set_off")/\TabOk H tp1 ⟨154,28,154,54⟩ (lamQ "ridden")/\TabOk H tp2 ⟨210,34,210,75⟩ (lamQ "rounds_to")/\TabOk H tp3 ⟨229,34,229,73⟩ (lamQ "guarded_rounds")) cGate):=⟨⟨_,_,⟨mkGate,a51,i51,kcGate⟩,qnz9 (n:=22) GX TBx TIx F51 Cl0 (Cz0.up (by decide)),b51⟩,mCGate⟩
 have Cn0:=cal H38 fun F=>qlm9 (n:=7) F (CT.up (by decide))
 have Cy0:=cal H39 fun F=>ok_least (n:=8) TBx F B Cn0
 have Cr1:=cal H40 fun F=>ok_ask_by (n:=8) TBx F B (Co0.up (by decide)) Cn0
 have Cx1:=cal H41 fun F=>ok_walk (n:=9) TBx F B (CT.up (by decide)) Cy0 Cr1
 have Cy1:MCal l.prog w K mg base 11 cGate "plan" ["self","place","t","left"] (spPlan (fun H=>TabOk H tp0 ⟨68,32,68,64⟩ (lamQ "set_off")/\TabOk H tp1 ⟨154,28,154,54⟩ (lamQ "ridden")/\TabOk H tp2 ⟨210,34,210,75⟩ (lamQ "rounds_to")/\TabOk H tp3 ⟨229,34,229,73⟩ (lamQ "guarded_rounds")) cGate):=⟨⟨_,_,ok_plan (n:=10) GX F55 (Cb0.up (by decide)) (Cp0.up (by decide)) Cx1,b55,me55⟩,ClGate⟩
 have XT:ExC K cNoTurn bmNoTurn/\mg "NoTurn" = some (.ref cNoTurn):=⟨exc_of xl_NoTurn xq_NoTurn xb_NoTurn,W.mg_of X G.g xa_NoTurn⟩
 have MX_need_left:MCalX l.prog w K mg base 4 cGate "need_left" ["self","left"] (qoa9 cGate cNoTurn):=⟨⟨_,_,qij9 (n:=3) XT GX F53 B (Cc0.up (by decide)),b53,me53⟩,ClGate⟩
 have MX_soonest:MCalX l.prog w K mg base 7 cGate "soonest" ["self","place","t","left"] (qnu9 cGate cNoTurn):=⟨⟨_,_,qlx9 (n:=6) GX F54 (Cb0.up (by decide)) (MX_need_left.up (by decide)) Cd1,b54,me54⟩,ClGate⟩
 have KD_Gate:KCalD l.prog w K mg base 23 "Gate" cGate ["self","day","size","roads","goal","most"] (qjc9 (fun H=>TabOk H tp0 ⟨68,32,68,64⟩ (lamQ "set_off")/\TabOk H tp1 ⟨154,28,154,54⟩ (lamQ "ridden")/\TabOk H tp2 ⟨210,34,210,75⟩ (lamQ "rounds_to")/\TabOk H tp3 ⟨229,34,229,73⟩ (lamQ "guarded_rounds")) cGate):=⟨⟨_,_,_,⟨mkGate,a51,i51,kcGate⟩,qnz9 (n:=22) GX TBx TIx F51 Cl0 (Cz0.up (by decide)),fun s us KX hl=>by
  obtain ⟨_,_,_,_,_,rfl⟩:=bl_5 (show us.length=5 by simpa using hl)
  exact W.binds_K KX rfl d51 rfl rfl rfl⟩,mCGate⟩
 have KK_Gate:KCalK l.prog w K mg base 23 "Gate" cGate "most" ["self","day","size","roads","goal","most"] (qjc9 (fun H=>TabOk H tp0 ⟨68,32,68,64⟩ (lamQ "set_off")/\TabOk H tp1 ⟨154,28,154,54⟩ (lamQ "ridden")/\TabOk H tp2 ⟨210,34,210,75⟩ (lamQ "rounds_to")/\TabOk H tp3 ⟨229,34,229,73⟩ (lamQ "guarded_rounds")) cGate):=⟨⟨_,_,⟨mkGate,a51,i51,kcGate⟩,qnz9 (n:=22) GX TBx TIx F51 Cl0 (Cz0.up (by decide)),fun s us v KX hl=>by
  obtain ⟨_,_,_,_,_,rfl⟩:=bl_5 (show us.length=5 by simpa using hl)
  exact W.binds_K KX rfl d51 rfl rfl rfl⟩,mCGate⟩
 have Cv1:=cal H48 fun F=>qoq9 (n:=7) XT F MX_soonest
 have Ct1:=cal H49 fun F=>qmy9 (n:=11) TBx F B (Co1.up (by decide)) (Cy1.up (by decide))
 have Cz1:=cal H47 fun F=>ok_spoil (n:=5) TBx F
 exact ok_law (n:=23) TBx (fun H h=>⟨qkv9 (h (tc0,tp0) (by simp)),qkv9 (h (tc1,tp1) (by simp)),qkv9 (h (tc2,tp2) (by simp)),qkv9 (h (tc3,tp3) (by simp))⟩) F50 B (Ce1.up (by decide)) (Ce2.up (by decide)) (Cb2.up (by decide)) K_Gate KD_Gate KK_Gate (Ct1.up (by decide)) (Cv1.up (by decide)) (Cz1.up (by decide))
theorem walk {l:W.OpenLaw} {q:Program} {loose:List Str} {XP:(Str->Option Value)->Heap->Prop} {YP:World->Heap->Prop} {d:DefRec} {K:Params->W.Frag} (hn:l.most=some 63) (hdf:d.params.defaults=[])
  (hY:∀ (w:World) (h:Heap),YP w h->(K w.params).In h)
  (F:∀ (w:World) (mg mb:Str->Option Value) (mean:ExcName->Option Value) (fa:Addr) (h:Heap),(K w.params).In h->PyProof.Rows.Top q (W.looseW q loose) mean mg mb h->mg d.name=some (.ref fa) ->
   ∃ (fd:FuncData) (tabs:List (Addr × Addr)),(∀ (s:Shared) (u:Value),BindsTo s fd ⟨[u],[]⟩ [("script",u)])/\(∀ t∈tabs,W.CodeHd h t.1 t.2/\h.get? t.2=some (W.tabObj #[])/\(K w.params).lookup t.2=none) /\
    ∀ base:Heap,(K w.params).In base->base.Ns mainGlobals mg->BMain mg base->(∀ t∈tabs,W.CodeHd base t.1 t.2)->FnOk l.prog w (K w.params) mg base CX0 25 fa fd ["script"] (spLaw (K w.params) tabs)) :
  W.WalkO q loose XP YP l.row.toRowW d [] (fun f vs=>PySem.call f vs) :=
 L2.walk_ofT (n:=63) (k:=25) (x := "script") (sp:=spLaw) hn (by decide) hdf ⟨rfl,by decide,by decide⟩ hY F (fun K tabs H a ns hl hT hS=>⟨a,ns,rfl,hS,hl,hT,fun _=>rfl⟩)
end My
open PySem PySem.W PyProof.Rows
set_option maxRecDepth 100000 in
set_option maxHeartbeats 0 in
theorem PySem.Challenge.cw_fordbook_k69_gates_keep_copies_holds : PySem.Challenge.rw_fordbook_k69_gates_keep_copies.Holds := by
 w_on
 refine W.holds_law My.k_ws fun said=>?_
 refine W.holds_open (q:=My.view) (loose:=[]) (Xt:=(fun s=>W.xlAt My.view [] s && W.recOk (W.RowW.records (W.OpenRow.toRowW PySem.Challenge.rw_fordbook_k69_gates_keep_copies.row)) s)) (XP:=W.XL My.view []) (Yf:=W.Hook.obs (W.kmHook My.KK My.kAs My.k_as [318,233,151,290])) (Ya:=W.Hook.val (W.kmHook My.KK My.kAs My.k_as [318,233,151,290])) (YP:=W.Hook.says (W.kmHook My.KK My.kAs My.k_as [318,233,151,290])) (N:=6660) My.k_left (W.Hook.of (W.kmHook My.KK My.kAs My.k_as [318,233,151,290])) (W.Hook.keeps (W.kmHook My.KK My.kAs My.k_as [318,233,151,290]))
  (fun s e=>W.xl_of s (Bool.and_eq_true_iff.mp e).1) W.XL.keeps (by rfl) (by rfl) (by rfl) (fun s e=>W.recFacts_of (Bool.and_eq_true_iff.mp e).2) (by rfl) (by assumption) (by decide +kernel) ⟨rfl,rfl,rfl,rfl,rfl,by decide +kernel⟩ ?hw ?hc
 case hw=>w_witness2
 k_fill
 refine My.walk (l:=PySem.Challenge.rw_fordbook_k69_gates_keep_copies) rfl rfl (fun w h Y=>W.km_in_of Y) ?F
 case F =>
  intro w mg mb mean fa h KX G hmg
  refine' My.all_mk KX G hmg ?r0_ ?r1_ ?r2_ ?r3_ ?r4_ ?r5_ ?r6_ ?r7_ ?r8_ ?r9_ ?a10 ?l10 ?c10 ?k10 ?a11 ?l11 ?c11 ?k11 ?r12_ ?r13_ ?r14_ ?r15_ ?r16_ ?r17_ ?r18_ ?r19_ ?r20_ ?r21_ ?r22_ ?a23 ?l23 ?c23 ?k23 ?r24_ ?a25 ?l25 ?c25 ?k25 ?r26_ ?r27_ ?r28_ ?r29_ ?a30 ?l30 ?c30 ?k30 ?r31_ ?a32 ?l32 ?c32 ?k32 ?r33_ ?r34_ ?r35_ ?a36 ?l36 ?c36 ?k36 ?r37_ ?r38_ ?r39_ ?r40_ ?r41_ ?r42_ ?r43_ ?r44_ ?r45_ ?r46_ ?r47_ ?r48_ ?r49_ ?a50 ?l50 ?c50 ?k50 ?a51 ?i51 ?l51 ?c51 ?k51 ?d51 ?a52 ?i52 ?l52 ?c52 ?k52 ?a53 ?i53 ?l53 ?c53 ?k53 ?a54 ?i54 ?l54 ?c54 ?k54 ?a55 ?i55 ?l55 ?c55 ?k55 ?z0 ?z1 ?z2 ?z3 ?z4 ?z5 ?z6 ?z7 ?z8 ?z9 ?z10 ?aCGate ?pgGate ?hdGate ?poGate ?saGate ?mkGate ?kcGate ?nfGate_levels ?nfGate_day ?nfGate_size ?nfGate_roads ?xa_NoTurn ?xl_NoTurn ?xq_NoTurn ?xb_NoTurn ?r0 ?t0 ?n0 ?r1 ?t1 ?n1 ?r2 ?t2 ?n2 ?r3 ?t3 ?n3 ?ne01 ?ne02 ?ne03 ?ne12 ?ne13 ?ne23
  (case aCGate=>k_is)
  (case r0_ | r1_ | r2_ | r3_ | r4_ | r5_ | r6_ | r7_ | r8_ | r9_=>(refine' My.Rw.mk ?a ?b ?c ?d; (case a=>k_is); (case b=>k_is); (case c=>k_is); (case d=>k_is)))
  (case a10 | l10 | c10 | k10 | a11 | l11 | c11 | k11=>(try unfold My.NI); (try unfold My.LK); (try unfold My.CI); (try unfold My.KI); k_is)
  (case r12_ | r13_ | r14_ | r15_ | r16_ | r17_ | r18_ | r19_ | r20_ | r21_ | r22_=>(refine' My.Rw.mk ?a ?b ?c ?d; (case a=>k_is); (case b=>k_is); (case c=>k_is); (case d=>k_is)))
  (case a23 | l23 | c23 | k23=>(try unfold My.NI); (try unfold My.LK); (try unfold My.CI); (try unfold My.KI); k_is)
  (case r24_=>(refine' My.Rw.mk ?a ?b ?c ?d; (case a=>k_is); (case b=>k_is); (case c=>k_is); (case d=>k_is)))
  (case a25 | l25 | c25 | k25=>(try unfold My.NI); (try unfold My.LK); (try unfold My.CI); (try unfold My.KI); k_is)
  (case r26_ | r27_ | r28_ | r29_=>(refine' My.Rw.mk ?a ?b ?c ?d; (case a=>k_is); (case b=>k_is); (case c=>k_is); (case d=>k_is)))
  (case a30 | l30 | c30 | k30=>(try unfold My.NI); (try unfold My.LK); (try unfold My.CI); (try unfold My.KI); k_is)
  (case r31_=>(refine' My.Rw.mk ?a ?b ?c ?d; (case a=>k_is); (case b=>k_is); (case c=>k_is); (case d=>k_is)))
  (case a32 | l32 | c32 | k32=>(try unfold My.NI); (try unfold My.LK); (try unfold My.CI); (try unfold My.KI); k_is)
  (case r33_ | r34_ | r35_=>(refine' My.Rw.mk ?a ?b ?c ?d; (case a=>k_is); (case b=>k_is); (case c=>k_is); (case d=>k_is)))
  (case a36 | l36 | c36 | k36=>(try unfold My.NI); (try unfold My.LK); (try unfold My.CI); (try unfold My.KI); k_is)
  (case r37_ | r38_ | r39_ | r40_ | r41_ | r42_ | r43_ | r44_ | r45_ | r46_ | r47_ | r48_ | r49_=>(refine' My.Rw.mk ?a ?b ?c ?d; (case a=>k_is); (case b=>k_is); (case c=>k_is); (case d=>k_is)))
  (case a50 | l50 | c50 | k50 | a51=>(try unfold My.NI); (try unfold My.LK); (try unfold My.CI); (try unfold My.KI); k_is)
  (case i51=>k_is)
  (case l51 | c51 | k51=>(try unfold My.NI); (try unfold My.LK); (try unfold My.CI); (try unfold My.KI); k_is)
  (case d51=>k_is)
  (case a52=>(try unfold My.NI); (try unfold My.LK); (try unfold My.CI); (try unfold My.KI); k_is)
  (case i52=>k_is)
  (case l52 | c52 | k52 | a53=>(try unfold My.NI); (try unfold My.LK); (try unfold My.CI); (try unfold My.KI); k_is)
  (case i53=>k_is)
  (case l53 | c53 | k53 | a54=>(try unfold My.NI); (try unfold My.LK); (try unfold My.CI); (try unfold My.KI); k_is)
  (case i54=>k_is)
  (case l54 | c54 | k54 | a55=>(try unfold My.NI); (try unfold My.LK); (try unfold My.CI); (try unfold My.KI); k_is)
  (case i55=>k_is)
  (case l55 | c55 | k55=>(try unfold My.NI); (try unfold My.LK); (try unfold My.CI); (try unfold My.KI); k_is)
  (case z0 | z1 | z2 | z3 | z4 | z5 | z6 | z7 | z8 | z9 | z10 | pgGate | hdGate | poGate | saGate | mkGate | kcGate | nfGate_levels | nfGate_day | nfGate_size | nfGate_roads | xa_NoTurn | xl_NoTurn=>k_is)
  (case xq_NoTurn=>k_exc)
  (case xb_NoTurn | r0=>first | rfl | decide +kernel)
  (case t0=>first | k_is | rfl)
  (case n0 | r1=>first | rfl | decide +kernel)
  (case t1=>first | k_is | rfl)
  (case n1 | r2=>first | rfl | decide +kernel)
  (case t2=>first | k_is | rfl)
  (case n2 | r3=>first | rfl | decide +kernel)
  (case t3=>first | k_is | rfl)
  (case n3 | ne01 | ne02 | ne03 | ne12 | ne13 | ne23=>first | rfl | decide +kernel)
