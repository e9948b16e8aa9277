import PyProof.Rows.All
import Wide.All
import OpenK.AllK
import Wide.FinOn
import PyProof.EqAt
import PyProof.EqKinds
import PyProof.TupleCall
import PySem.Challenge.RW_fordbook_k82_texts_read_or_refused
set_option Elab.async false
set_option linter.all false
set_option maxRecDepth 100000
local macro_rules|`(tactic|obtain ⟨$p,$q,$r,*⟩ := $e)=>`(tactic|first|(refine Classical.byContradiction fun h=>?_;rcases $e:term with ⟨$p,$q,$r,*⟩<;>(refine h ?_;clear h))|rcases $e:term with ⟨$p,$q,$r,*⟩)
namespace L2
open PySem
noncomputable def defArgs (s : Stmt) : Arguments := match s with
 | .FunctionDef _ a _ _ _ _ _ _ _ _ => a
 | _ => { posonlyargs := [],args := [],vararg := none,kwonlyargs := [],kw_defaults := [],kwarg := none,defaults := [] }
noncomputable def defBody (s : Stmt) : List Stmt := match s with
 | .FunctionDef _ _ b _ _ _ _ _ _ _ => b
 | _ => []
noncomputable def defScope (s : Stmt) : Scope := match s with
 | .FunctionDef _ _ _ _ _ _ sc _ _ _ => sc
 | _ => { kind := .function,names := [],isGenerator := false,isCoroutine := false }
end L2
namespace My
open PySem L2
noncomputable def top (i : Nat) : Stmt := PySem.Challenge.pw_fordbook_k82_texts_read_or_refused.main.body.getD i (.Pass ⟨0,0,0,0⟩)
noncomputable abbrev st_is_whole : Stmt := top 12
noncomputable abbrev st_is_window : Stmt := top 13
noncomputable abbrev st_read_number : Stmt := top 19
noncomputable abbrev st_is_name : Stmt := top 20
noncomputable abbrev st_read_ends : Stmt := top 21
noncomputable abbrev st_read_span : Stmt := top 22
noncomputable abbrev st_read_window : Stmt := top 23
noncomputable abbrev st_read_day : Stmt := top 24
noncomputable abbrev st_read_board : Stmt := top 25
noncomputable abbrev st_number_of : Stmt := top 26
noncomputable abbrev st_read_net : Stmt := top 27
noncomputable abbrev st_show_window : Stmt := top 28
noncomputable abbrev st_show_board : Stmt := top 29
noncomputable abbrev st_show_road : Stmt := top 30
noncomputable abbrev st_show_net : Stmt := top 31
noncomputable abbrev st__law_cell : Stmt := top 33
noncomputable abbrev st__law_day : Stmt := top 34
noncomputable abbrev st__law_size : Stmt := top 35
noncomputable abbrev st__law_road_window : Stmt := top 36
noncomputable abbrev st__law_net : Stmt := top 37
noncomputable abbrev st__law_roads : Stmt := top 39
noncomputable abbrev st__law_names : Stmt := top 40
noncomputable abbrev st__law_as_they_come : Stmt := top 41
noncomputable abbrev st__law_many : Stmt := top 42
noncomputable abbrev st__law_text : Stmt := top 43
noncomputable abbrev st__law_net_by : Stmt := top 44
noncomputable abbrev st__law_run : Stmt := top 45
noncomputable abbrev st__law_number : Stmt := top 46
noncomputable abbrev st__law_window_at : Stmt := top 47
noncomputable abbrev st__law_road_at : Stmt := top 48
noncomputable abbrev st__law_read : Stmt := top 49
noncomputable abbrev st__law_figures : Stmt := top 50
noncomputable abbrev st__law_bent : Stmt := top 51
noncomputable abbrev st__law_odd : Stmt := top 52
noncomputable abbrev st__law_under : Stmt := top 53
noncomputable abbrev st_law : Stmt := top 54
noncomputable def o_2 (P : Params) : Obj := (Obj.mk .none none (.dict #[] 0) #[])
noncomputable def o_3 (P : Params) : Obj := (Obj.mk (.type "dict") none (.dict #[(DictEntry.mk (PyData.keyHash P "__name__") (.str "__name__" 165) (.str "law_fordbook_k82_texts_read_or_refused" 488)), (DictEntry.mk (PyData.keyHash P "__doc__") (.str "__doc__" 166) .none), (DictEntry.mk (PyData.keyHash P "__package__") (.str "__package__" 167) .none), (DictEntry.mk (PyData.keyHash P "__loader__") (.str "__loader__" 168) (.builtin "__main__.__loader__#opaque")), (DictEntry.mk (PyData.keyHash P "__spec__") (.str "__spec__" 169) .none), (DictEntry.mk (PyData.keyHash P "__annotations__") (.str "__annotations__" 170) (.ref 6)), (DictEntry.mk (PyData.keyHash P "__builtins__") (.str "__builtins__" 171) (.ref 4)), (DictEntry.mk (PyData.keyHash P "__file__") (.str "__file__" 173) (.str "/claim/cut.py" 172)), (DictEntry.mk (PyData.keyHash P "__cached__") (.str "__cached__" 174) .none), (DictEntry.mk (PyData.keyHash P "FordError") (.str "FordError" 206) (.ref 24)), (DictEntry.mk (PyData.keyHash P "NoBoard") (.str "NoBoard" 222) (.ref 37)), (DictEntry.mk (PyData.keyHash P "NoNet") (.str "NoNet" 238) (.ref 49)), (DictEntry.mk (PyData.keyHash P "NoPlace") (.str "NoPlace" 254) (.ref 61)), (DictEntry.mk (PyData.keyHash P "NoRoad") (.str "NoRoad" 270) (.ref 73)), (DictEntry.mk (PyData.keyHash P "NoTurn") (.str "NoTurn" 286) (.ref 85)), (DictEntry.mk (PyData.keyHash P "NoText") (.str "NoText" 302) (.ref 97)), (DictEntry.mk (PyData.keyHash P "NoRow") (.str "NoRow" 318) (.ref 109)), (DictEntry.mk (PyData.keyHash P "NoName") (.str "NoName" 334) (.ref 121)), (DictEntry.mk (PyData.keyHash P "NoWindow") (.str "NoWindow" 350) (.ref 133)), (DictEntry.mk (PyData.keyHash P "is_whole") (.str "is_whole" 359) (.ref 142)), (DictEntry.mk (PyData.keyHash P "is_window") (.str "is_window" 365) (.ref 147)), (DictEntry.mk (PyData.keyHash P "FIGURES") (.str "FIGURES" 369) (.str "0123456789" 368)), (DictEntry.mk (PyData.keyHash P "LETTERS") (.str "LETTERS" 371) (.str "abcdefghijklmnopqrstuvwxyz" 370)), (DictEntry.mk (PyData.keyHash P "MOST_FIGURES") (.str "MOST_FIGURES" 373) (.int 16 372)), (DictEntry.mk (PyData.keyHash P "MOST") (.str "MOST" 375) (.int 1000000000000000 374)), (DictEntry.mk (PyData.keyHash P "read_number") (.str "read_number" 381) (.ref 152)), (DictEntry.mk (PyData.keyHash P "is_name") (.str "is_name" 387) (.ref 157)), (DictEntry.mk (PyData.keyHash P "read_ends") (.str "read_ends" 395) (.ref 164)), (DictEntry.mk (PyData.keyHash P "read_span") (.str "read_span" 405) (.ref 171)), (DictEntry.mk (PyData.keyHash P "read_window") (.str "read_window" 417) (.ref 178)), (DictEntry.mk (PyData.keyHash P "read_day") (.str "read_day" 426) (.ref 185)), (DictEntry.mk (PyData.keyHash P "read_board") (.str "read_board" 432) (.ref 190)), (DictEntry.mk (PyData.keyHash P "number_of") (.str "number_of" 440) (.ref 197)), (DictEntry.mk (PyData.keyHash P "read_net") (.str "read_net" 456) (.ref 204)), (DictEntry.mk (PyData.keyHash P "show_window") (.str "show_window" 465) (.ref 211)), (DictEntry.mk (PyData.keyHash P "show_board") (.str "show_board" 471) (.ref 216)), (DictEntry.mk (PyData.keyHash P "show_road") (.str "show_road" 481) (.ref 223)), (DictEntry.mk (PyData.keyHash P "show_net") (.str "show_net" 487) (.ref 228)), (DictEntry.mk (PyData.keyHash P "_law_cell") (.str "_law_cell" 497) (.ref 235)), (DictEntry.mk (PyData.keyHash P "_law_day") (.str "_law_day" 505) (.ref 242)), (DictEntry.mk (PyData.keyHash P "_law_size") (.str "_law_size" 512) (.ref 249)), (DictEntry.mk (PyData.keyHash P "_law_road_window") (.str "_law_road_window" 526) (.ref 256)), (DictEntry.mk (PyData.keyHash P "_law_net") (.str "_law_net" 540) (.ref 263)), (DictEntry.mk (PyData.keyHash P "_law_copy") (.str "_law_copy" 546) (.ref 268)), (DictEntry.mk (PyData.keyHash P "_law_roads") (.str "_law_roads" 558) (.ref 275)), (DictEntry.mk (PyData.keyHash P "_law_names") (.str "_law_names" 575) (.ref 282)), (DictEntry.mk (PyData.keyHash P "_law_as_they_come") (.str "_law_as_they_come" 581) (.ref 287)), (DictEntry.mk (PyData.keyHash P "_law_many") (.str "_law_many" 592) (.ref 294)), (DictEntry.mk (PyData.keyHash P "_law_text") (.str "_law_text" 608) (.ref 301)), (DictEntry.mk (PyData.keyHash P "_law_net_by") (.str "_law_net_by" 618) (.ref 308)), (DictEntry.mk (PyData.keyHash P "_law_run") (.str "_law_run" 627) (.ref 315)), (DictEntry.mk (PyData.keyHash P "_law_number") (.str "_law_number" 636) (.ref 322)), (DictEntry.mk (PyData.keyHash P "_law_window_at") (.str "_law_window_at" 650) (.ref 329)), (DictEntry.mk (PyData.keyHash P "_law_road_at") (.str "_law_road_at" 666) (.ref 336)), (DictEntry.mk (PyData.keyHash P "_law_read") (.str "_law_read" 678) (.ref 343)), (DictEntry.mk (PyData.keyHash P "_law_figures") (.str "_law_figures" 690) (.ref 350)), (DictEntry.mk (PyData.keyHash P "_law_bent") (.str "_law_bent" 703) (.ref 357)), (DictEntry.mk (PyData.keyHash P "_law_odd") (.str "_law_odd" 711) (.ref 364)), (DictEntry.mk (PyData.keyHash P "_law_under") (.str "_law_under" 720) (.ref 371)), (DictEntry.mk (PyData.keyHash P "law") (.str "law" 733) (.ref 378))] 60) #[])
noncomputable def o_15 (P : Params) : Obj := (Obj.mk (.type "tuple") none (.seq #[(.type "ValueError")] 0) #[])
noncomputable def o_22 (P : Params) : Obj := (Obj.mk (.type "tuple") none (.seq #[] 0) #[])
noncomputable def o_23 (P : Params) : Obj := (Obj.mk (.type "dict") none (.dict #[(DictEntry.mk (PyData.keyHash P "__module__") (.str "__module__" 196) (.str "fordbook.errors" 187)), (DictEntry.mk (PyData.keyHash P "__firstlineno__") (.str "__firstlineno__" 200) (.int 2 199)), (DictEntry.mk (PyData.keyHash P "__static_attributes__") (.str "__static_attributes__" 201) (.ref 22)), (DictEntry.mk (PyData.keyHash P "__weakref__") (.str "__weakref__" 203) (.ref 25)), (DictEntry.mk (PyData.keyHash P "__doc__") (.str "__doc__" 204) .none)] 3) #[])
noncomputable def o_24 (P : Params) : Obj := (Obj.mk (.type "type") none (@PySem.Data.cls (@PySem.ClassData.mk (.ofString "FordError") [(.type "ValueError")] [(.ref 24), (.type "ValueError"), (.type "Exception"), (.type "BaseException"), (.type "object")] 23 (.ofString "FordError") @Bool.true [] [(.ref 37), (.ref 49), (.ref 61), (.ref 73), (.ref 85), (.ref 97), (.ref 109), (.ref 121), (.ref 133)] @Bool.false none @Bool.false)) #[(@Option.some @PySem.Value (.ref 15)), none, (@Option.some @PySem.Value (.str "FordError" 189)), (@Option.some @PySem.Value (.str "FordError" 197)), (@Option.some @PySem.Value (.builtin "ValueError.__new__")), (@Option.some @PySem.Value (.bool @Bool.true))])
noncomputable def o_25 (P : Params) : Obj := (Obj.mk (.type "getset_descriptor") none (.fields #[(.str "__weakref__" 202), (.ref 24), (.builtin "ExceptionGroup.__weakref__"), .none]) #[])
noncomputable def o_28 (P : Params) : Obj := (Obj.mk (.type "tuple") none (.seq #[(.ref 24)] 0) #[])
noncomputable def o_35 (P : Params) : Obj := (Obj.mk (.type "tuple") none (.seq #[] 0) #[])
noncomputable def o_36 (P : Params) : Obj := (Obj.mk (.type "dict") none (.dict #[(DictEntry.mk (PyData.keyHash P "__module__") (.str "__module__" 214) (.str "fordbook.errors" 187)), (DictEntry.mk (PyData.keyHash P "__firstlineno__") (.str "__firstlineno__" 218) (.int 4 217)), (DictEntry.mk (PyData.keyHash P "__static_attributes__") (.str "__static_attributes__" 219) (.ref 35)), (DictEntry.mk (PyData.keyHash P "__doc__") (.str "__doc__" 220) .none)] 2) #[])
noncomputable def o_37 (P : Params) : Obj := (Obj.mk (.type "type") none (@PySem.Data.cls (@PySem.ClassData.mk (.ofString "NoBoard") [(.ref 24)] [(.ref 37), (.ref 24), (.type "ValueError"), (.type "Exception"), (.type "BaseException"), (.type "object")] 36 (.ofString "NoBoard") @Bool.true [] [] @Bool.false none @Bool.false)) #[(@Option.some @PySem.Value (.ref 28)), none, (@Option.some @PySem.Value (.str "NoBoard" 207)), (@Option.some @PySem.Value (.str "NoBoard" 215)), (@Option.some @PySem.Value (.builtin "ValueError.__new__")), (@Option.some @PySem.Value (.bool @Bool.true))])
noncomputable def o_40 (P : Params) : Obj := (Obj.mk (.type "tuple") none (.seq #[(.ref 24)] 0) #[])
noncomputable def o_47 (P : Params) : Obj := (Obj.mk (.type "tuple") none (.seq #[] 0) #[])
noncomputable def o_48 (P : Params) : Obj := (Obj.mk (.type "dict") none (.dict #[(DictEntry.mk (PyData.keyHash P "__module__") (.str "__module__" 230) (.str "fordbook.errors" 187)), (DictEntry.mk (PyData.keyHash P "__firstlineno__") (.str "__firstlineno__" 234) (.int 6 233)), (DictEntry.mk (PyData.keyHash P "__static_attributes__") (.str "__static_attributes__" 235) (.ref 47)), (DictEntry.mk (PyData.keyHash P "__doc__") (.str "__doc__" 236) .none)] 2) #[])
noncomputable def o_49 (P : Params) : Obj := (Obj.mk (.type "type") none (@PySem.Data.cls (@PySem.ClassData.mk (.ofString "NoNet") [(.ref 24)] [(.ref 49), (.ref 24), (.type "ValueError"), (.type "Exception"), (.type "BaseException"), (.type "object")] 48 (.ofString "NoNet") @Bool.true [] [] @Bool.false none @Bool.false)) #[(@Option.some @PySem.Value (.ref 40)), none, (@Option.some @PySem.Value (.str "NoNet" 223)), (@Option.some @PySem.Value (.str "NoNet" 231)), (@Option.some @PySem.Value (.builtin "ValueError.__new__")), (@Option.some @PySem.Value (.bool @Bool.true))])
noncomputable def o_52 (P : Params) : Obj := (Obj.mk (.type "tuple") none (.seq #[(.ref 24)] 0) #[])
noncomputable def o_59 (P : Params) : Obj := (Obj.mk (.type "tuple") none (.seq #[] 0) #[])
noncomputable def o_60 (P : Params) : Obj := (Obj.mk (.type "dict") none (.dict #[(DictEntry.mk (PyData.keyHash P "__module__") (.str "__module__" 246) (.str "fordbook.errors" 187)), (DictEntry.mk (PyData.keyHash P "__firstlineno__") (.str "__firstlineno__" 250) (.int 8 249)), (DictEntry.mk (PyData.keyHash P "__static_attributes__") (.str "__static_attributes__" 251) (.ref 59)), (DictEntry.mk (PyData.keyHash P "__doc__") (.str "__doc__" 252) .none)] 2) #[])
noncomputable def o_61 (P : Params) : Obj := (Obj.mk (.type "type") none (@PySem.Data.cls (@PySem.ClassData.mk (.ofString "NoPlace") [(.ref 24)] [(.ref 61), (.ref 24), (.type "ValueError"), (.type "Exception"), (.type "BaseException"), (.type "object")] 60 (.ofString "NoPlace") @Bool.true [] [] @Bool.false none @Bool.false)) #[(@Option.some @PySem.Value (.ref 52)), none, (@Option.some @PySem.Value (.str "NoPlace" 239)), (@Option.some @PySem.Value (.str "NoPlace" 247)), (@Option.some @PySem.Value (.builtin "ValueError.__new__")), (@Option.some @PySem.Value (.bool @Bool.true))])
noncomputable def o_64 (P : Params) : Obj := (Obj.mk (.type "tuple") none (.seq #[(.ref 24)] 0) #[])
noncomputable def o_71 (P : Params) : Obj := (Obj.mk (.type "tuple") none (.seq #[] 0) #[])
noncomputable def o_72 (P : Params) : Obj := (Obj.mk (.type "dict") none (.dict #[(DictEntry.mk (PyData.keyHash P "__module__") (.str "__module__" 262) (.str "fordbook.errors" 187)), (DictEntry.mk (PyData.keyHash P "__firstlineno__") (.str "__firstlineno__" 266) (.int 10 265)), (DictEntry.mk (PyData.keyHash P "__static_attributes__") (.str "__static_attributes__" 267) (.ref 71)), (DictEntry.mk (PyData.keyHash P "__doc__") (.str "__doc__" 268) .none)] 2) #[])
noncomputable def o_73 (P : Params) : Obj := (Obj.mk (.type "type") none (@PySem.Data.cls (@PySem.ClassData.mk (.ofString "NoRoad") [(.ref 24)] [(.ref 73), (.ref 24), (.type "ValueError"), (.type "Exception"), (.type "BaseException"), (.type "object")] 72 (.ofString "NoRoad") @Bool.true [] [] @Bool.false none @Bool.false)) #[(@Option.some @PySem.Value (.ref 64)), none, (@Option.some @PySem.Value (.str "NoRoad" 255)), (@Option.some @PySem.Value (.str "NoRoad" 263)), (@Option.some @PySem.Value (.builtin "ValueError.__new__")), (@Option.some @PySem.Value (.bool @Bool.true))])
noncomputable def o_76 (P : Params) : Obj := (Obj.mk (.type "tuple") none (.seq #[(.ref 24)] 0) #[])
noncomputable def o_83 (P : Params) : Obj := (Obj.mk (.type "tuple") none (.seq #[] 0) #[])
noncomputable def o_84 (P : Params) : Obj := (Obj.mk (.type "dict") none (.dict #[(DictEntry.mk (PyData.keyHash P "__module__") (.str "__module__" 278) (.str "fordbook.errors" 187)), (DictEntry.mk (PyData.keyHash P "__firstlineno__") (.str "__firstlineno__" 282) (.int 12 281)), (DictEntry.mk (PyData.keyHash P "__static_attributes__") (.str "__static_attributes__" 283) (.ref 83)), (DictEntry.mk (PyData.keyHash P "__doc__") (.str "__doc__" 284) .none)] 2) #[])
noncomputable def o_85 (P : Params) : Obj := (Obj.mk (.type "type") none (@PySem.Data.cls (@PySem.ClassData.mk (.ofString "NoTurn") [(.ref 24)] [(.ref 85), (.ref 24), (.type "ValueError"), (.type "Exception"), (.type "BaseException"), (.type "object")] 84 (.ofString "NoTurn") @Bool.true [] [] @Bool.false none @Bool.false)) #[(@Option.some @PySem.Value (.ref 76)), none, (@Option.some @PySem.Value (.str "NoTurn" 271)), (@Option.some @PySem.Value (.str "NoTurn" 279)), (@Option.some @PySem.Value (.builtin "ValueError.__new__")), (@Option.some @PySem.Value (.bool @Bool.true))])
noncomputable def o_88 (P : Params) : Obj := (Obj.mk (.type "tuple") none (.seq #[(.ref 24)] 0) #[])
noncomputable def o_95 (P : Params) : Obj := (Obj.mk (.type "tuple") none (.seq #[] 0) #[])
noncomputable def o_96 (P : Params) : Obj := (Obj.mk (.type "dict") none (.dict #[(DictEntry.mk (PyData.keyHash P "__module__") (.str "__module__" 294) (.str "fordbook.errors" 187)), (DictEntry.mk (PyData.keyHash P "__firstlineno__") (.str "__firstlineno__" 298) (.int 14 297)), (DictEntry.mk (PyData.keyHash P "__static_attributes__") (.str "__static_attributes__" 299) (.ref 95)), (DictEntry.mk (PyData.keyHash P "__doc__") (.str "__doc__" 300) .none)] 2) #[])
noncomputable def o_97 (P : Params) : Obj := (Obj.mk (.type "type") none (@PySem.Data.cls (@PySem.ClassData.mk (.ofString "NoText") [(.ref 24)] [(.ref 97), (.ref 24), (.type "ValueError"), (.type "Exception"), (.type "BaseException"), (.type "object")] 96 (.ofString "NoText") @Bool.true [] [] @Bool.false none @Bool.false)) #[(@Option.some @PySem.Value (.ref 88)), none, (@Option.some @PySem.Value (.str "NoText" 287)), (@Option.some @PySem.Value (.str "NoText" 295)), (@Option.some @PySem.Value (.builtin "ValueError.__new__")), (@Option.some @PySem.Value (.bool @Bool.true))])
noncomputable def o_100 (P : Params) : Obj := (Obj.mk (.type "tuple") none (.seq #[(.ref 24)] 0) #[])
noncomputable def o_107 (P : Params) : Obj := (Obj.mk (.type "tuple") none (.seq #[] 0) #[])
noncomputable def o_108 (P : Params) : Obj := (Obj.mk (.type "dict") none (.dict #[(DictEntry.mk (PyData.keyHash P "__module__") (.str "__module__" 310) (.str "fordbook.errors" 187)), (DictEntry.mk (PyData.keyHash P "__firstlineno__") (.str "__firstlineno__" 314) (.int 16 313)), (DictEntry.mk (PyData.keyHash P "__static_attributes__") (.str "__static_attributes__" 315) (.ref 107)), (DictEntry.mk (PyData.keyHash P "__doc__") (.str "__doc__" 316) .none)] 2) #[])
noncomputable def o_109 (P : Params) : Obj := (Obj.mk (.type "type") none (@PySem.Data.cls (@PySem.ClassData.mk (.ofString "NoRow") [(.ref 24)] [(.ref 109), (.ref 24), (.type "ValueError"), (.type "Exception"), (.type "BaseException"), (.type "object")] 108 (.ofString "NoRow") @Bool.true [] [] @Bool.false none @Bool.false)) #[(@Option.some @PySem.Value (.ref 100)), none, (@Option.some @PySem.Value (.str "NoRow" 303)), (@Option.some @PySem.Value (.str "NoRow" 311)), (@Option.some @PySem.Value (.builtin "ValueError.__new__")), (@Option.some @PySem.Value (.bool @Bool.true))])
noncomputable def o_112 (P : Params) : Obj := (Obj.mk (.type "tuple") none (.seq #[(.ref 24)] 0) #[])
noncomputable def o_119 (P : Params) : Obj := (Obj.mk (.type "tuple") none (.seq #[] 0) #[])
noncomputable def o_120 (P : Params) : Obj := (Obj.mk (.type "dict") none (.dict #[(DictEntry.mk (PyData.keyHash P "__module__") (.str "__module__" 326) (.str "fordbook.errors" 187)), (DictEntry.mk (PyData.keyHash P "__firstlineno__") (.str "__firstlineno__" 330) (.int 18 329)), (DictEntry.mk (PyData.keyHash P "__static_attributes__") (.str "__static_attributes__" 331) (.ref 119)), (DictEntry.mk (PyData.keyHash P "__doc__") (.str "__doc__" 332) .none)] 2) #[])
noncomputable def o_121 (P : Params) : Obj := (Obj.mk (.type "type") none (@PySem.Data.cls (@PySem.ClassData.mk (.ofString "NoName") [(.ref 24)] [(.ref 121), (.ref 24), (.type "ValueError"), (.type "Exception"), (.type "BaseException"), (.type "object")] 120 (.ofString "NoName") @Bool.true [] [] @Bool.false none @Bool.false)) #[(@Option.some @PySem.Value (.ref 112)), none, (@Option.some @PySem.Value (.str "NoName" 319)), (@Option.some @PySem.Value (.str "NoName" 327)), (@Option.some @PySem.Value (.builtin "ValueError.__new__")), (@Option.some @PySem.Value (.bool @Bool.true))])
noncomputable def o_124 (P : Params) : Obj := (Obj.mk (.type "tuple") none (.seq #[(.ref 24)] 0) #[])
noncomputable def o_131 (P : Params) : Obj := (Obj.mk (.type "tuple") none (.seq #[] 0) #[])
noncomputable def o_132 (P : Params) : Obj := (Obj.mk (.type "dict") none (.dict #[(DictEntry.mk (PyData.keyHash P "__module__") (.str "__module__" 342) (.str "fordbook.errors" 187)), (DictEntry.mk (PyData.keyHash P "__firstlineno__") (.str "__firstlineno__" 346) (.int 20 345)), (DictEntry.mk (PyData.keyHash P "__static_attributes__") (.str "__static_attributes__" 347) (.ref 131)), (DictEntry.mk (PyData.keyHash P "__doc__") (.str "__doc__" 348) .none)] 2) #[])
noncomputable def o_133 (P : Params) : Obj := (Obj.mk (.type "type") none (@PySem.Data.cls (@PySem.ClassData.mk (.ofString "NoWindow") [(.ref 24)] [(.ref 133), (.ref 24), (.type "ValueError"), (.type "Exception"), (.type "BaseException"), (.type "object")] 132 (.ofString "NoWindow") @Bool.true [] [] @Bool.false none @Bool.false)) #[(@Option.some @PySem.Value (.ref 124)), none, (@Option.some @PySem.Value (.str "NoWindow" 335)), (@Option.some @PySem.Value (.str "NoWindow" 343)), (@Option.some @PySem.Value (.builtin "ValueError.__new__")), (@Option.some @PySem.Value (.bool @Bool.true))])
noncomputable def o_136 (P : Params) : Obj := (Obj.mk (.type "tuple") none (.seq #[] 0) #[])
noncomputable def o_138 (P : Params) : Obj := (Obj.mk (.type "tuple") none (.seq #[(.str "thing" 356)] 0) #[])
noncomputable def o_139 (P : Params) : Obj := (Obj.mk (.type "tuple") none (.seq #[] 0) #[])
noncomputable def o_141 (P : Params) : Obj := (Obj.mk (.type "code") none (.fields #[(.str "is_whole" 353), (.str "is_whole" 354), (.str "/claim/cut.py" 355), (.int 23 0), (.int 1 0), (.int 0 0), (.int 0 0), (.int 3 0), (.ref 136), (.bool @Bool.true), (.int 181 0), (.ref 137), .none, (.ref 138), (.ref 139), (.ref 140), (.int 357 0), (.int 23 0), (.str "/claim/cut.py" 358)]) #[])
noncomputable def o_142 (P : Params) : Obj := (Obj.mk (.type "function") none (.func (@PySem.FuncData.mk (.ofString "is_whole") (.ofString "is_whole") (defArgs st_is_whole) (@PySem.FuncBody.stmts (defBody st_is_whole)) (defScope st_is_whole) 3 [] .none .none .none (.str "fordbook.windows" 351) none (.ref 141) .none 0)) #[])
noncomputable def o_143 (P : Params) : Obj := (Obj.mk (.type "tuple") none (.seq #[] 0) #[])
noncomputable def o_146 (P : Params) : Obj := (Obj.mk (.type "code") none (.fields #[(.str "is_window" 360), (.str "is_window" 361), (.str "/claim/cut.py" 362), (.int 25 0), (.int 2 0), (.int 0 0), (.int 0 0), (.int 3 0), (.ref 143), (.bool @Bool.true), (.int 181 0), (.ref 144), .none, .none, .none, (.ref 145), (.int 363 0), (.int 25 0), (.str "/claim/cut.py" 364)]) #[])
noncomputable def o_147 (P : Params) : Obj := (Obj.mk (.type "function") none (.func (@PySem.FuncData.mk (.ofString "is_window") (.ofString "is_window") (defArgs st_is_window) (@PySem.FuncBody.stmts (defBody st_is_window)) (defScope st_is_window) 3 [] .none .none .none (.str "fordbook.windows" 351) none (.ref 146) .none 0)) #[])
noncomputable def o_148 (P : Params) : Obj := (Obj.mk (.type "tuple") none (.seq #[] 0) #[])
noncomputable def o_151 (P : Params) : Obj := (Obj.mk (.type "code") none (.fields #[(.str "read_number" 376), (.str "read_number" 377), (.str "/claim/cut.py" 378), (.int 36 0), (.int 2 0), (.int 0 0), (.int 0 0), (.int 3 0), (.ref 148), (.bool @Bool.true), (.int 181 0), (.ref 149), .none, .none, .none, (.ref 150), (.int 379 0), (.int 36 0), (.str "/claim/cut.py" 380)]) #[])
noncomputable def o_152 (P : Params) : Obj := (Obj.mk (.type "function") none (.func (@PySem.FuncData.mk (.ofString "read_number") (.ofString "read_number") (defArgs st_read_number) (@PySem.FuncBody.stmts (defBody st_read_number)) (defScope st_read_number) 3 [] .none .none .none (.str "fordbook.texts" 366) none (.ref 151) .none 0)) #[])
noncomputable def o_153 (P : Params) : Obj := (Obj.mk (.type "tuple") none (.seq #[] 0) #[])
noncomputable def o_156 (P : Params) : Obj := (Obj.mk (.type "code") none (.fields #[(.str "is_name" 382), (.str "is_name" 383), (.str "/claim/cut.py" 384), (.int 42 0), (.int 1 0), (.int 0 0), (.int 0 0), (.int 3 0), (.ref 153), (.bool @Bool.true), (.int 181 0), (.ref 154), .none, .none, .none, (.ref 155), (.int 385 0), (.int 42 0), (.str "/claim/cut.py" 386)]) #[])
noncomputable def o_157 (P : Params) : Obj := (Obj.mk (.type "function") none (.func (@PySem.FuncData.mk (.ofString "is_name") (.ofString "is_name") (defArgs st_is_name) (@PySem.FuncBody.stmts (defBody st_is_name)) (defScope st_is_name) 3 [] .none .none .none (.str "fordbook.texts" 366) none (.ref 156) .none 0)) #[])
noncomputable def o_158 (P : Params) : Obj := (Obj.mk (.type "tuple") none (.seq #[] 0) #[])
noncomputable def o_160 (P : Params) : Obj := (Obj.mk (.type "tuple") none (.seq #[(.str "text" 391), (.str "parts" 392)] 0) #[])
noncomputable def o_161 (P : Params) : Obj := (Obj.mk (.type "tuple") none (.seq #[] 0) #[])
noncomputable def o_163 (P : Params) : Obj := (Obj.mk (.type "code") none (.fields #[(.str "read_ends" 388), (.str "read_ends" 389), (.str "/claim/cut.py" 390), (.int 44 0), (.int 1 0), (.int 0 0), (.int 0 0), (.int 3 0), (.ref 158), (.bool @Bool.true), (.int 181 0), (.ref 159), .none, (.ref 160), (.ref 161), (.ref 162), (.int 393 0), (.int 44 0), (.str "/claim/cut.py" 394)]) #[])
noncomputable def o_164 (P : Params) : Obj := (Obj.mk (.type "function") none (.func (@PySem.FuncData.mk (.ofString "read_ends") (.ofString "read_ends") (defArgs st_read_ends) (@PySem.FuncBody.stmts (defBody st_read_ends)) (defScope st_read_ends) 3 [] .none .none .none (.str "fordbook.texts" 366) none (.ref 163) .none 0)) #[])
noncomputable def o_165 (P : Params) : Obj := (Obj.mk (.type "tuple") none (.seq #[] 0) #[])
noncomputable def o_167 (P : Params) : Obj := (Obj.mk (.type "tuple") none (.seq #[(.str "text" 399), (.str "parts" 400), (.str "a" 401), (.str "b" 402)] 0) #[])
noncomputable def o_168 (P : Params) : Obj := (Obj.mk (.type "tuple") none (.seq #[] 0) #[])
noncomputable def o_170 (P : Params) : Obj := (Obj.mk (.type "code") none (.fields #[(.str "read_span" 396), (.str "read_span" 397), (.str "/claim/cut.py" 398), (.int 49 0), (.int 1 0), (.int 0 0), (.int 0 0), (.int 3 0), (.ref 165), (.bool @Bool.true), (.int 181 0), (.ref 166), .none, (.ref 167), (.ref 168), (.ref 169), (.int 403 0), (.int 49 0), (.str "/claim/cut.py" 404)]) #[])
noncomputable def o_171 (P : Params) : Obj := (Obj.mk (.type "function") none (.func (@PySem.FuncData.mk (.ofString "read_span") (.ofString "read_span") (defArgs st_read_span) (@PySem.FuncBody.stmts (defBody st_read_span)) (defScope st_read_span) 3 [] .none .none .none (.str "fordbook.texts" 366) none (.ref 170) .none 0)) #[])
noncomputable def o_172 (P : Params) : Obj := (Obj.mk (.type "tuple") none (.seq #[] 0) #[])
noncomputable def o_174 (P : Params) : Obj := (Obj.mk (.type "tuple") none (.seq #[(.str "day" 409), (.str "text" 410), (.str "parts" 411), (.str "span" 412), (.str "ride" 413), (.str "window" 414)] 0) #[])
noncomputable def o_175 (P : Params) : Obj := (Obj.mk (.type "tuple") none (.seq #[] 0) #[])
noncomputable def o_177 (P : Params) : Obj := (Obj.mk (.type "code") none (.fields #[(.str "read_window" 406), (.str "read_window" 407), (.str "/claim/cut.py" 408), (.int 58 0), (.int 2 0), (.int 0 0), (.int 0 0), (.int 3 0), (.ref 172), (.bool @Bool.true), (.int 181 0), (.ref 173), .none, (.ref 174), (.ref 175), (.ref 176), (.int 415 0), (.int 58 0), (.str "/claim/cut.py" 416)]) #[])
noncomputable def o_178 (P : Params) : Obj := (Obj.mk (.type "function") none (.func (@PySem.FuncData.mk (.ofString "read_window") (.ofString "read_window") (defArgs st_read_window) (@PySem.FuncBody.stmts (defBody st_read_window)) (defScope st_read_window) 3 [] .none .none .none (.str "fordbook.texts" 366) none (.ref 177) .none 0)) #[])
noncomputable def o_179 (P : Params) : Obj := (Obj.mk (.type "tuple") none (.seq #[] 0) #[])
noncomputable def o_181 (P : Params) : Obj := (Obj.mk (.type "tuple") none (.seq #[(.str "text" 421), (.str "parts" 422), (.str "day" 423)] 0) #[])
noncomputable def o_182 (P : Params) : Obj := (Obj.mk (.type "tuple") none (.seq #[] 0) #[])
noncomputable def o_184 (P : Params) : Obj := (Obj.mk (.type "code") none (.fields #[(.str "read_day" 418), (.str "read_day" 419), (.str "/claim/cut.py" 420), (.int 66 0), (.int 1 0), (.int 0 0), (.int 0 0), (.int 3 0), (.ref 179), (.bool @Bool.true), (.int 181 0), (.ref 180), .none, (.ref 181), (.ref 182), (.ref 183), (.int 424 0), (.int 66 0), (.str "/claim/cut.py" 425)]) #[])
noncomputable def o_185 (P : Params) : Obj := (Obj.mk (.type "function") none (.func (@PySem.FuncData.mk (.ofString "read_day") (.ofString "read_day") (defArgs st_read_day) (@PySem.FuncBody.stmts (defBody st_read_day)) (defScope st_read_day) 3 [] .none .none .none (.str "fordbook.texts" 366) none (.ref 184) .none 0)) #[])
noncomputable def o_186 (P : Params) : Obj := (Obj.mk (.type "tuple") none (.seq #[] 0) #[])
noncomputable def o_189 (P : Params) : Obj := (Obj.mk (.type "code") none (.fields #[(.str "read_board" 427), (.str "read_board" 428), (.str "/claim/cut.py" 429), (.int 72 0), (.int 2 0), (.int 0 0), (.int 0 0), (.int 3 0), (.ref 186), (.bool @Bool.true), (.int 181 0), (.ref 187), .none, .none, .none, (.ref 188), (.int 430 0), (.int 72 0), (.str "/claim/cut.py" 431)]) #[])
noncomputable def o_190 (P : Params) : Obj := (Obj.mk (.type "function") none (.func (@PySem.FuncData.mk (.ofString "read_board") (.ofString "read_board") (defArgs st_read_board) (@PySem.FuncBody.stmts (defBody st_read_board)) (defScope st_read_board) 3 [] .none .none .none (.str "fordbook.texts" 366) none (.ref 189) .none 0)) #[])
noncomputable def o_191 (P : Params) : Obj := (Obj.mk (.type "tuple") none (.seq #[] 0) #[])
noncomputable def o_193 (P : Params) : Obj := (Obj.mk (.type "tuple") none (.seq #[(.str "names" 436), (.str "name" 437)] 0) #[])
noncomputable def o_194 (P : Params) : Obj := (Obj.mk (.type "tuple") none (.seq #[] 0) #[])
noncomputable def o_196 (P : Params) : Obj := (Obj.mk (.type "code") none (.fields #[(.str "number_of" 433), (.str "number_of" 434), (.str "/claim/cut.py" 435), (.int 75 0), (.int 2 0), (.int 0 0), (.int 0 0), (.int 3 0), (.ref 191), (.bool @Bool.true), (.int 181 0), (.ref 192), .none, (.ref 193), (.ref 194), (.ref 195), (.int 438 0), (.int 75 0), (.str "/claim/cut.py" 439)]) #[])
noncomputable def o_197 (P : Params) : Obj := (Obj.mk (.type "function") none (.func (@PySem.FuncData.mk (.ofString "number_of") (.ofString "number_of") (defArgs st_number_of) (@PySem.FuncBody.stmts (defBody st_number_of)) (defScope st_number_of) 3 [] .none .none .none (.str "fordbook.texts" 366) none (.ref 196) .none 0)) #[])
noncomputable def o_198 (P : Params) : Obj := (Obj.mk (.type "tuple") none (.seq #[] 0) #[])
noncomputable def o_200 (P : Params) : Obj := (Obj.mk (.type "tuple") none (.seq #[(.str "text" 444), (.str "parts" 445), (.str "day" 446), (.str "names" 447), (.str "roads" 448), (.str "part" 449), (.str "words" 450), (.str "ends" 451), (.str "board" 452), (.str "start" 453)] 0) #[])
noncomputable def o_201 (P : Params) : Obj := (Obj.mk (.type "tuple") none (.seq #[] 0) #[])
noncomputable def o_203 (P : Params) : Obj := (Obj.mk (.type "code") none (.fields #[(.str "read_net" 441), (.str "read_net" 442), (.str "/claim/cut.py" 443), (.int 79 0), (.int 1 0), (.int 0 0), (.int 0 0), (.int 3 0), (.ref 198), (.bool @Bool.true), (.int 181 0), (.ref 199), .none, (.ref 200), (.ref 201), (.ref 202), (.int 454 0), (.int 79 0), (.str "/claim/cut.py" 455)]) #[])
noncomputable def o_204 (P : Params) : Obj := (Obj.mk (.type "function") none (.func (@PySem.FuncData.mk (.ofString "read_net") (.ofString "read_net") (defArgs st_read_net) (@PySem.FuncBody.stmts (defBody st_read_net)) (defScope st_read_net) 3 [] .none .none .none (.str "fordbook.texts" 366) none (.ref 203) .none 0)) #[])
noncomputable def o_205 (P : Params) : Obj := (Obj.mk (.type "tuple") none (.seq #[] 0) #[])
noncomputable def o_207 (P : Params) : Obj := (Obj.mk (.type "tuple") none (.seq #[(.str "a" 460), (.str "b" 461), (.str "c" 462)] 0) #[])
noncomputable def o_208 (P : Params) : Obj := (Obj.mk (.type "tuple") none (.seq #[] 0) #[])
noncomputable def o_210 (P : Params) : Obj := (Obj.mk (.type "code") none (.fields #[(.str "show_window" 457), (.str "show_window" 458), (.str "/claim/cut.py" 459), (.int 97 0), (.int 3 0), (.int 0 0), (.int 0 0), (.int 3 0), (.ref 205), (.bool @Bool.true), (.int 181 0), (.ref 206), .none, (.ref 207), (.ref 208), (.ref 209), (.int 463 0), (.int 97 0), (.str "/claim/cut.py" 464)]) #[])
noncomputable def o_211 (P : Params) : Obj := (Obj.mk (.type "function") none (.func (@PySem.FuncData.mk (.ofString "show_window") (.ofString "show_window") (defArgs st_show_window) (@PySem.FuncBody.stmts (defBody st_show_window)) (defScope st_show_window) 3 [] .none .none .none (.str "fordbook.texts" 366) none (.ref 210) .none 0)) #[])
noncomputable def o_212 (P : Params) : Obj := (Obj.mk (.type "tuple") none (.seq #[] 0) #[])
noncomputable def o_215 (P : Params) : Obj := (Obj.mk (.type "code") none (.fields #[(.str "show_board" 466), (.str "show_board" 467), (.str "/claim/cut.py" 468), (.int 99 0), (.int 1 0), (.int 0 0), (.int 0 0), (.int 3 0), (.ref 212), (.bool @Bool.true), (.int 181 0), (.ref 213), .none, .none, .none, (.ref 214), (.int 469 0), (.int 99 0), (.str "/claim/cut.py" 470)]) #[])
noncomputable def o_216 (P : Params) : Obj := (Obj.mk (.type "function") none (.func (@PySem.FuncData.mk (.ofString "show_board") (.ofString "show_board") (defArgs st_show_board) (@PySem.FuncBody.stmts (defBody st_show_board)) (defScope st_show_board) 3 [] .none .none .none (.str "fordbook.texts" 366) none (.ref 215) .none 0)) #[])
noncomputable def o_217 (P : Params) : Obj := (Obj.mk (.type "tuple") none (.seq #[] 0) #[])
noncomputable def o_219 (P : Params) : Obj := (Obj.mk (.type "tuple") none (.seq #[(.str "start" 475), (.str "end" 476), (.str "board" 477), (.str "windows" 478)] 0) #[])
noncomputable def o_220 (P : Params) : Obj := (Obj.mk (.type "tuple") none (.seq #[] 0) #[])
noncomputable def o_222 (P : Params) : Obj := (Obj.mk (.type "code") none (.fields #[(.str "show_road" 472), (.str "show_road" 473), (.str "/claim/cut.py" 474), (.int 101 0), (.int 3 0), (.int 0 0), (.int 0 0), (.int 3 0), (.ref 217), (.bool @Bool.true), (.int 181 0), (.ref 218), .none, (.ref 219), (.ref 220), (.ref 221), (.int 479 0), (.int 101 0), (.str "/claim/cut.py" 480)]) #[])
noncomputable def o_223 (P : Params) : Obj := (Obj.mk (.type "function") none (.func (@PySem.FuncData.mk (.ofString "show_road") (.ofString "show_road") (defArgs st_show_road) (@PySem.FuncBody.stmts (defBody st_show_road)) (defScope st_show_road) 3 [] .none .none .none (.str "fordbook.texts" 366) none (.ref 222) .none 0)) #[])
noncomputable def o_224 (P : Params) : Obj := (Obj.mk (.type "tuple") none (.seq #[] 0) #[])
noncomputable def o_227 (P : Params) : Obj := (Obj.mk (.type "code") none (.fields #[(.str "show_net" 482), (.str "show_net" 483), (.str "/claim/cut.py" 484), (.int 104 0), (.int 3 0), (.int 0 0), (.int 0 0), (.int 3 0), (.ref 224), (.bool @Bool.true), (.int 181 0), (.ref 225), .none, .none, .none, (.ref 226), (.int 485 0), (.int 104 0), (.str "/claim/cut.py" 486)]) #[])
noncomputable def o_228 (P : Params) : Obj := (Obj.mk (.type "function") none (.func (@PySem.FuncData.mk (.ofString "show_net") (.ofString "show_net") (defArgs st_show_net) (@PySem.FuncBody.stmts (defBody st_show_net)) (defScope st_show_net) 3 [] .none .none .none (.str "fordbook.texts" 366) none (.ref 227) .none 0)) #[])
noncomputable def o_229 (P : Params) : Obj := (Obj.mk (.type "tuple") none (.seq #[] 0) #[])
noncomputable def o_231 (P : Params) : Obj := (Obj.mk (.type "tuple") none (.seq #[(.str "script" 493), (.str "k" 494)] 0) #[])
noncomputable def o_232 (P : Params) : Obj := (Obj.mk (.type "tuple") none (.seq #[] 0) #[])
noncomputable def o_234 (P : Params) : Obj := (Obj.mk (.type "code") none (.fields #[(.str "_law_cell" 490), (.str "_law_cell" 491), (.str "/claim/cut.py" 492), (.int 107 0), (.int 2 0), (.int 0 0), (.int 0 0), (.int 3 0), (.ref 229), (.bool @Bool.true), (.int 181 0), (.ref 230), .none, (.ref 231), (.ref 232), (.ref 233), (.int 495 0), (.int 107 0), (.str "/claim/cut.py" 496)]) #[])
noncomputable def o_235 (P : Params) : Obj := (Obj.mk (.type "function") none (.func (@PySem.FuncData.mk (.ofString "_law_cell") (.ofString "_law_cell") (defArgs st__law_cell) (@PySem.FuncBody.stmts (defBody st__law_cell)) (defScope st__law_cell) 3 [] .none .none .none (.str "law_fordbook_k82_texts_read_or_refused" 488) none (.ref 234) .none 0)) #[])
noncomputable def o_236 (P : Params) : Obj := (Obj.mk (.type "tuple") none (.seq #[] 0) #[])
noncomputable def o_238 (P : Params) : Obj := (Obj.mk (.type "tuple") none (.seq #[(.str "cell" 501), (.str "rest" 502)] 0) #[])
noncomputable def o_239 (P : Params) : Obj := (Obj.mk (.type "tuple") none (.seq #[] 0) #[])
noncomputable def o_241 (P : Params) : Obj := (Obj.mk (.type "code") none (.fields #[(.str "_law_day" 498), (.str "_law_day" 499), (.str "/claim/cut.py" 500), (.int 111 0), (.int 1 0), (.int 0 0), (.int 0 0), (.int 3 0), (.ref 236), (.bool @Bool.true), (.int 181 0), (.ref 237), .none, (.ref 238), (.ref 239), (.ref 240), (.int 503 0), (.int 111 0), (.str "/claim/cut.py" 504)]) #[])
noncomputable def o_242 (P : Params) : Obj := (Obj.mk (.type "function") none (.func (@PySem.FuncData.mk (.ofString "_law_day") (.ofString "_law_day") (defArgs st__law_day) (@PySem.FuncBody.stmts (defBody st__law_day)) (defScope st__law_day) 3 [] .none .none .none (.str "law_fordbook_k82_texts_read_or_refused" 488) none (.ref 241) .none 0)) #[])
noncomputable def o_243 (P : Params) : Obj := (Obj.mk (.type "tuple") none (.seq #[] 0) #[])
noncomputable def o_245 (P : Params) : Obj := (Obj.mk (.type "tuple") none (.seq #[(.str "cell" 509)] 0) #[])
noncomputable def o_246 (P : Params) : Obj := (Obj.mk (.type "tuple") none (.seq #[] 0) #[])
noncomputable def o_248 (P : Params) : Obj := (Obj.mk (.type "code") none (.fields #[(.str "_law_size" 506), (.str "_law_size" 507), (.str "/claim/cut.py" 508), (.int 120 0), (.int 1 0), (.int 0 0), (.int 0 0), (.int 3 0), (.ref 243), (.bool @Bool.true), (.int 181 0), (.ref 244), .none, (.ref 245), (.ref 246), (.ref 247), (.int 510 0), (.int 120 0), (.str "/claim/cut.py" 511)]) #[])
noncomputable def o_249 (P : Params) : Obj := (Obj.mk (.type "function") none (.func (@PySem.FuncData.mk (.ofString "_law_size") (.ofString "_law_size") (defArgs st__law_size) (@PySem.FuncBody.stmts (defBody st__law_size)) (defScope st__law_size) 3 [] .none .none .none (.str "law_fordbook_k82_texts_read_or_refused" 488) none (.ref 248) .none 0)) #[])
noncomputable def o_250 (P : Params) : Obj := (Obj.mk (.type "tuple") none (.seq #[] 0) #[])
noncomputable def o_252 (P : Params) : Obj := (Obj.mk (.type "tuple") none (.seq #[(.str "day" 516), (.str "one" 517), (.str "two" 518), (.str "three" 519), (.str "a" 520), (.str "rest" 521), (.str "b" 522), (.str "c" 523)] 0) #[])
noncomputable def o_253 (P : Params) : Obj := (Obj.mk (.type "tuple") none (.seq #[] 0) #[])
noncomputable def o_255 (P : Params) : Obj := (Obj.mk (.type "code") none (.fields #[(.str "_law_road_window" 513), (.str "_law_road_window" 514), (.str "/claim/cut.py" 515), (.int 122 0), (.int 4 0), (.int 0 0), (.int 0 0), (.int 3 0), (.ref 250), (.bool @Bool.true), (.int 181 0), (.ref 251), .none, (.ref 252), (.ref 253), (.ref 254), (.int 524 0), (.int 122 0), (.str "/claim/cut.py" 525)]) #[])
noncomputable def o_256 (P : Params) : Obj := (Obj.mk (.type "function") none (.func (@PySem.FuncData.mk (.ofString "_law_road_window") (.ofString "_law_road_window") (defArgs st__law_road_window) (@PySem.FuncBody.stmts (defBody st__law_road_window)) (defScope st__law_road_window) 3 [] .none .none .none (.str "law_fordbook_k82_texts_read_or_refused" 488) none (.ref 255) .none 0)) #[])
noncomputable def o_257 (P : Params) : Obj := (Obj.mk (.type "tuple") none (.seq #[] 0) #[])
noncomputable def o_259 (P : Params) : Obj := (Obj.mk (.type "tuple") none (.seq #[(.str "day" 530), (.str "size" 531), (.str "goal" 532), (.str "cells" 533), (.str "roads" 534), (.str "k" 535), (.str "head" 536), (.str "start" 537)] 0) #[])
noncomputable def o_260 (P : Params) : Obj := (Obj.mk (.type "tuple") none (.seq #[] 0) #[])
noncomputable def o_262 (P : Params) : Obj := (Obj.mk (.type "code") none (.fields #[(.str "_law_net" 527), (.str "_law_net" 528), (.str "/claim/cut.py" 529), (.int 131 0), (.int 4 0), (.int 0 0), (.int 0 0), (.int 3 0), (.ref 257), (.bool @Bool.true), (.int 181 0), (.ref 258), .none, (.ref 259), (.ref 260), (.ref 261), (.int 538 0), (.int 131 0), (.str "/claim/cut.py" 539)]) #[])
noncomputable def o_263 (P : Params) : Obj := (Obj.mk (.type "function") none (.func (@PySem.FuncData.mk (.ofString "_law_net") (.ofString "_law_net") (defArgs st__law_net) (@PySem.FuncBody.stmts (defBody st__law_net)) (defScope st__law_net) 3 [] .none .none .none (.str "law_fordbook_k82_texts_read_or_refused" 488) none (.ref 262) .none 0)) #[])
noncomputable def o_269 (P : Params) : Obj := (Obj.mk (.type "tuple") none (.seq #[] 0) #[])
noncomputable def o_271 (P : Params) : Obj := (Obj.mk (.type "tuple") none (.seq #[(.str "day" 550), (.str "size" 551), (.str "goal" 552), (.str "script" 553), (.str "cell" 554), (.str "many" 555)] 0) #[])
noncomputable def o_272 (P : Params) : Obj := (Obj.mk (.type "tuple") none (.seq #[] 0) #[])
noncomputable def o_274 (P : Params) : Obj := (Obj.mk (.type "code") none (.fields #[(.str "_law_roads" 547), (.str "_law_roads" 548), (.str "/claim/cut.py" 549), (.int 145 0), (.int 4 0), (.int 0 0), (.int 0 0), (.int 3 0), (.ref 269), (.bool @Bool.true), (.int 181 0), (.ref 270), .none, (.ref 271), (.ref 272), (.ref 273), (.int 556 0), (.int 145 0), (.str "/claim/cut.py" 557)]) #[])
noncomputable def o_275 (P : Params) : Obj := (Obj.mk (.type "function") none (.func (@PySem.FuncData.mk (.ofString "_law_roads") (.ofString "_law_roads") (defArgs st__law_roads) (@PySem.FuncBody.stmts (defBody st__law_roads)) (defScope st__law_roads) 3 [] .none .none .none (.str "law_fordbook_k82_texts_read_or_refused" 488) none (.ref 274) .none 0)) #[])
noncomputable def o_276 (P : Params) : Obj := (Obj.mk (.type "tuple") none (.seq #[] 0) #[])
noncomputable def o_278 (P : Params) : Obj := (Obj.mk (.type "tuple") none (.seq #[(.str "cell" 562), (.str "many" 563), (.str "letters" 564), (.str "size" 565), (.str "at" 566), (.str "names" 567), (.str "k" 568), (.str "rest" 569), (.str "name" 570), (.str "j" 571), (.str "place" 572)] 0) #[])
noncomputable def o_279 (P : Params) : Obj := (Obj.mk (.type "tuple") none (.seq #[] 0) #[])
noncomputable def o_281 (P : Params) : Obj := (Obj.mk (.type "code") none (.fields #[(.str "_law_names" 559), (.str "_law_names" 560), (.str "/claim/cut.py" 561), (.int 149 0), (.int 2 0), (.int 0 0), (.int 0 0), (.int 3 0), (.ref 276), (.bool @Bool.true), (.int 181 0), (.ref 277), .none, (.ref 278), (.ref 279), (.ref 280), (.int 573 0), (.int 149 0), (.str "/claim/cut.py" 574)]) #[])
noncomputable def o_282 (P : Params) : Obj := (Obj.mk (.type "function") none (.func (@PySem.FuncData.mk (.ofString "_law_names") (.ofString "_law_names") (defArgs st__law_names) (@PySem.FuncBody.stmts (defBody st__law_names)) (defScope st__law_names) 3 [] .none .none .none (.str "law_fordbook_k82_texts_read_or_refused" 488) none (.ref 281) .none 0)) #[])
noncomputable def o_283 (P : Params) : Obj := (Obj.mk (.type "tuple") none (.seq #[] 0) #[])
noncomputable def o_286 (P : Params) : Obj := (Obj.mk (.type "code") none (.fields #[(.str "_law_as_they_come" 576), (.str "_law_as_they_come" 577), (.str "/claim/cut.py" 578), (.int 169 0), (.int 1 0), (.int 0 0), (.int 0 0), (.int 3 0), (.ref 283), (.bool @Bool.true), (.int 181 0), (.ref 284), .none, .none, .none, (.ref 285), (.int 579 0), (.int 169 0), (.str "/claim/cut.py" 580)]) #[])
noncomputable def o_287 (P : Params) : Obj := (Obj.mk (.type "function") none (.func (@PySem.FuncData.mk (.ofString "_law_as_they_come") (.ofString "_law_as_they_come") (defArgs st__law_as_they_come) (@PySem.FuncBody.stmts (defBody st__law_as_they_come)) (defScope st__law_as_they_come) 3 [] .none .none .none (.str "law_fordbook_k82_texts_read_or_refused" 488) none (.ref 286) .none 0)) #[])
noncomputable def o_288 (P : Params) : Obj := (Obj.mk (.type "tuple") none (.seq #[] 0) #[])
noncomputable def o_290 (P : Params) : Obj := (Obj.mk (.type "tuple") none (.seq #[(.str "roads" 585), (.str "most" 586), (.str "start" 587), (.str "end" 588), (.str "board" 589)] 0) #[])
noncomputable def o_291 (P : Params) : Obj := (Obj.mk (.type "tuple") none (.seq #[] 0) #[])
noncomputable def o_293 (P : Params) : Obj := (Obj.mk (.type "code") none (.fields #[(.str "_law_many" 582), (.str "_law_many" 583), (.str "/claim/cut.py" 584), (.int 176 0), (.int 1 0), (.int 0 0), (.int 0 0), (.int 3 0), (.ref 288), (.bool @Bool.true), (.int 181 0), (.ref 289), .none, (.ref 290), (.ref 291), (.ref 292), (.int 590 0), (.int 176 0), (.str "/claim/cut.py" 591)]) #[])
noncomputable def o_294 (P : Params) : Obj := (Obj.mk (.type "function") none (.func (@PySem.FuncData.mk (.ofString "_law_many") (.ofString "_law_many") (defArgs st__law_many) (@PySem.FuncBody.stmts (defBody st__law_many)) (defScope st__law_many) 3 [] .none .none .none (.str "law_fordbook_k82_texts_read_or_refused" 488) none (.ref 293) .none 0)) #[])
noncomputable def o_295 (P : Params) : Obj := (Obj.mk (.type "tuple") none (.seq #[] 0) #[])
noncomputable def o_297 (P : Params) : Obj := (Obj.mk (.type "tuple") none (.seq #[(.str "day" 596), (.str "names" 597), (.str "roads" 598), (.str "text" 599), (.str "start" 600), (.str "end" 601), (.str "board" 602), (.str "a" 603), (.str "b" 604), (.str "c" 605)] 0) #[])
noncomputable def o_298 (P : Params) : Obj := (Obj.mk (.type "tuple") none (.seq #[] 0) #[])
noncomputable def o_300 (P : Params) : Obj := (Obj.mk (.type "code") none (.fields #[(.str "_law_text" 593), (.str "_law_text" 594), (.str "/claim/cut.py" 595), (.int 181 0), (.int 3 0), (.int 0 0), (.int 0 0), (.int 3 0), (.ref 295), (.bool @Bool.true), (.int 181 0), (.ref 296), .none, (.ref 297), (.ref 298), (.ref 299), (.int 606 0), (.int 181 0), (.str "/claim/cut.py" 607)]) #[])
noncomputable def o_301 (P : Params) : Obj := (Obj.mk (.type "function") none (.func (@PySem.FuncData.mk (.ofString "_law_text") (.ofString "_law_text") (defArgs st__law_text) (@PySem.FuncBody.stmts (defBody st__law_text)) (defScope st__law_text) 3 [] .none .none .none (.str "law_fordbook_k82_texts_read_or_refused" 488) none (.ref 300) .none 0)) #[])
noncomputable def o_302 (P : Params) : Obj := (Obj.mk (.type "tuple") none (.seq #[] 0) #[])
noncomputable def o_304 (P : Params) : Obj := (Obj.mk (.type "tuple") none (.seq #[(.str "day" 612), (.str "script" 613), (.str "size" 614), (.str "roads" 615)] 0) #[])
noncomputable def o_305 (P : Params) : Obj := (Obj.mk (.type "tuple") none (.seq #[] 0) #[])
noncomputable def o_307 (P : Params) : Obj := (Obj.mk (.type "code") none (.fields #[(.str "_law_net_by" 609), (.str "_law_net_by" 610), (.str "/claim/cut.py" 611), (.int 191 0), (.int 2 0), (.int 0 0), (.int 0 0), (.int 3 0), (.ref 302), (.bool @Bool.true), (.int 181 0), (.ref 303), .none, (.ref 304), (.ref 305), (.ref 306), (.int 616 0), (.int 191 0), (.str "/claim/cut.py" 617)]) #[])
noncomputable def o_308 (P : Params) : Obj := (Obj.mk (.type "function") none (.func (@PySem.FuncData.mk (.ofString "_law_net_by") (.ofString "_law_net_by") (defArgs st__law_net_by) (@PySem.FuncBody.stmts (defBody st__law_net_by)) (defScope st__law_net_by) 3 [] .none .none .none (.str "law_fordbook_k82_texts_read_or_refused" 488) none (.ref 307) .none 0)) #[])
noncomputable def o_309 (P : Params) : Obj := (Obj.mk (.type "tuple") none (.seq #[] 0) #[])
noncomputable def o_311 (P : Params) : Obj := (Obj.mk (.type "tuple") none (.seq #[(.str "text" 622), (.str "at" 623), (.str "signs" 624)] 0) #[])
noncomputable def o_312 (P : Params) : Obj := (Obj.mk (.type "tuple") none (.seq #[] 0) #[])
noncomputable def o_314 (P : Params) : Obj := (Obj.mk (.type "code") none (.fields #[(.str "_law_run" 619), (.str "_law_run" 620), (.str "/claim/cut.py" 621), (.int 195 0), (.int 3 0), (.int 0 0), (.int 0 0), (.int 3 0), (.ref 309), (.bool @Bool.true), (.int 181 0), (.ref 310), .none, (.ref 311), (.ref 312), (.ref 313), (.int 625 0), (.int 195 0), (.str "/claim/cut.py" 626)]) #[])
noncomputable def o_315 (P : Params) : Obj := (Obj.mk (.type "function") none (.func (@PySem.FuncData.mk (.ofString "_law_run") (.ofString "_law_run") (defArgs st__law_run) (@PySem.FuncBody.stmts (defBody st__law_run)) (defScope st__law_run) 3 [] .none .none .none (.str "law_fordbook_k82_texts_read_or_refused" 488) none (.ref 314) .none 0)) #[])
noncomputable def o_316 (P : Params) : Obj := (Obj.mk (.type "tuple") none (.seq #[] 0) #[])
noncomputable def o_318 (P : Params) : Obj := (Obj.mk (.type "tuple") none (.seq #[(.str "text" 631), (.str "at" 632), (.str "end" 633)] 0) #[])
noncomputable def o_319 (P : Params) : Obj := (Obj.mk (.type "tuple") none (.seq #[] 0) #[])
noncomputable def o_321 (P : Params) : Obj := (Obj.mk (.type "code") none (.fields #[(.str "_law_number" 628), (.str "_law_number" 629), (.str "/claim/cut.py" 630), (.int 199 0), (.int 2 0), (.int 0 0), (.int 0 0), (.int 3 0), (.ref 316), (.bool @Bool.true), (.int 181 0), (.ref 317), .none, (.ref 318), (.ref 319), (.ref 320), (.int 634 0), (.int 199 0), (.str "/claim/cut.py" 635)]) #[])
noncomputable def o_322 (P : Params) : Obj := (Obj.mk (.type "function") none (.func (@PySem.FuncData.mk (.ofString "_law_number") (.ofString "_law_number") (defArgs st__law_number) (@PySem.FuncBody.stmts (defBody st__law_number)) (defScope st__law_number) 3 [] .none .none .none (.str "law_fordbook_k82_texts_read_or_refused" 488) none (.ref 321) .none 0)) #[])
noncomputable def o_323 (P : Params) : Obj := (Obj.mk (.type "tuple") none (.seq #[] 0) #[])
noncomputable def o_325 (P : Params) : Obj := (Obj.mk (.type "tuple") none (.seq #[(.str "day" 640), (.str "text" 641), (.str "at" 642), (.str "first" 643), (.str "a" 644), (.str "b" 645), (.str "last" 646), (.str "ride" 647)] 0) #[])
noncomputable def o_326 (P : Params) : Obj := (Obj.mk (.type "tuple") none (.seq #[] 0) #[])
noncomputable def o_328 (P : Params) : Obj := (Obj.mk (.type "code") none (.fields #[(.str "_law_window_at" 637), (.str "_law_window_at" 638), (.str "/claim/cut.py" 639), (.int 204 0), (.int 3 0), (.int 0 0), (.int 0 0), (.int 3 0), (.ref 323), (.bool @Bool.true), (.int 181 0), (.ref 324), .none, (.ref 325), (.ref 326), (.ref 327), (.int 648 0), (.int 204 0), (.str "/claim/cut.py" 649)]) #[])
noncomputable def o_329 (P : Params) : Obj := (Obj.mk (.type "function") none (.func (@PySem.FuncData.mk (.ofString "_law_window_at") (.ofString "_law_window_at") (defArgs st__law_window_at) (@PySem.FuncBody.stmts (defBody st__law_window_at)) (defScope st__law_window_at) 3 [] .none .none .none (.str "law_fordbook_k82_texts_read_or_refused" 488) none (.ref 328) .none 0)) #[])
noncomputable def o_330 (P : Params) : Obj := (Obj.mk (.type "tuple") none (.seq #[] 0) #[])
noncomputable def o_332 (P : Params) : Obj := (Obj.mk (.type "tuple") none (.seq #[(.str "day" 654), (.str "names" 655), (.str "text" 656), (.str "at" 657), (.str "middle" 658), (.str "end" 659), (.str "places" 660), (.str "name" 661), (.str "board" 662), (.str "row" 663)] 0) #[])
noncomputable def o_333 (P : Params) : Obj := (Obj.mk (.type "tuple") none (.seq #[] 0) #[])
noncomputable def o_335 (P : Params) : Obj := (Obj.mk (.type "code") none (.fields #[(.str "_law_road_at" 651), (.str "_law_road_at" 652), (.str "/claim/cut.py" 653), (.int 219 0), (.int 4 0), (.int 0 0), (.int 0 0), (.int 3 0), (.ref 330), (.bool @Bool.true), (.int 181 0), (.ref 331), .none, (.ref 332), (.ref 333), (.ref 334), (.int 664 0), (.int 219 0), (.str "/claim/cut.py" 665)]) #[])
noncomputable def o_336 (P : Params) : Obj := (Obj.mk (.type "function") none (.func (@PySem.FuncData.mk (.ofString "_law_road_at") (.ofString "_law_road_at") (defArgs st__law_road_at) (@PySem.FuncBody.stmts (defBody st__law_road_at)) (defScope st__law_road_at) 3 [] .none .none .none (.str "law_fordbook_k82_texts_read_or_refused" 488) none (.ref 335) .none 0)) #[])
noncomputable def o_337 (P : Params) : Obj := (Obj.mk (.type "tuple") none (.seq #[] 0) #[])
noncomputable def o_339 (P : Params) : Obj := (Obj.mk (.type "tuple") none (.seq #[(.str "text" 670), (.str "head" 671), (.str "names" 672), (.str "roads" 673), (.str "at" 674), (.str "row" 675)] 0) #[])
noncomputable def o_340 (P : Params) : Obj := (Obj.mk (.type "tuple") none (.seq #[] 0) #[])
noncomputable def o_342 (P : Params) : Obj := (Obj.mk (.type "code") none (.fields #[(.str "_law_read" 667), (.str "_law_read" 668), (.str "/claim/cut.py" 669), (.int 237 0), (.int 1 0), (.int 0 0), (.int 0 0), (.int 3 0), (.ref 337), (.bool @Bool.true), (.int 181 0), (.ref 338), .none, (.ref 339), (.ref 340), (.ref 341), (.int 676 0), (.int 237 0), (.str "/claim/cut.py" 677)]) #[])
noncomputable def o_343 (P : Params) : Obj := (Obj.mk (.type "function") none (.func (@PySem.FuncData.mk (.ofString "_law_read") (.ofString "_law_read") (defArgs st__law_read) (@PySem.FuncBody.stmts (defBody st__law_read)) (defScope st__law_read) 3 [] .none .none .none (.str "law_fordbook_k82_texts_read_or_refused" 488) none (.ref 342) .none 0)) #[])
noncomputable def o_344 (P : Params) : Obj := (Obj.mk (.type "tuple") none (.seq #[] 0) #[])
noncomputable def o_346 (P : Params) : Obj := (Obj.mk (.type "tuple") none (.seq #[(.str "day" 682), (.str "text" 683), (.str "at" 684), (.str "cell" 685), (.str "end" 686), (.str "some" 687)] 0) #[])
noncomputable def o_347 (P : Params) : Obj := (Obj.mk (.type "tuple") none (.seq #[] 0) #[])
noncomputable def o_349 (P : Params) : Obj := (Obj.mk (.type "code") none (.fields #[(.str "_law_figures" 679), (.str "_law_figures" 680), (.str "/claim/cut.py" 681), (.int 253 0), (.int 4 0), (.int 0 0), (.int 0 0), (.int 3 0), (.ref 344), (.bool @Bool.true), (.int 181 0), (.ref 345), .none, (.ref 346), (.ref 347), (.ref 348), (.int 688 0), (.int 253 0), (.str "/claim/cut.py" 689)]) #[])
noncomputable def o_350 (P : Params) : Obj := (Obj.mk (.type "function") none (.func (@PySem.FuncData.mk (.ofString "_law_figures") (.ofString "_law_figures") (defArgs st__law_figures) (@PySem.FuncBody.stmts (defBody st__law_figures)) (defScope st__law_figures) 3 [] .none .none .none (.str "law_fordbook_k82_texts_read_or_refused" 488) none (.ref 349) .none 0)) #[])
noncomputable def o_351 (P : Params) : Obj := (Obj.mk (.type "tuple") none (.seq #[] 0) #[])
noncomputable def o_353 (P : Params) : Obj := (Obj.mk (.type "tuple") none (.seq #[(.str "day" 694), (.str "text" 695), (.str "cell" 696), (.str "at" 697), (.str "rest" 698), (.str "sign" 699), (.str "far" 700)] 0) #[])
noncomputable def o_354 (P : Params) : Obj := (Obj.mk (.type "tuple") none (.seq #[] 0) #[])
noncomputable def o_356 (P : Params) : Obj := (Obj.mk (.type "code") none (.fields #[(.str "_law_bent" 691), (.str "_law_bent" 692), (.str "/claim/cut.py" 693), (.int 260 0), (.int 3 0), (.int 0 0), (.int 0 0), (.int 3 0), (.ref 351), (.bool @Bool.true), (.int 181 0), (.ref 352), .none, (.ref 353), (.ref 354), (.ref 355), (.int 701 0), (.int 260 0), (.str "/claim/cut.py" 702)]) #[])
noncomputable def o_357 (P : Params) : Obj := (Obj.mk (.type "function") none (.func (@PySem.FuncData.mk (.ofString "_law_bent") (.ofString "_law_bent") (defArgs st__law_bent) (@PySem.FuncBody.stmts (defBody st__law_bent)) (defScope st__law_bent) 3 [] .none .none .none (.str "law_fordbook_k82_texts_read_or_refused" 488) none (.ref 356) .none 0)) #[])
noncomputable def o_358 (P : Params) : Obj := (Obj.mk (.type "tuple") none (.seq #[] 0) #[])
noncomputable def o_360 (P : Params) : Obj := (Obj.mk (.type "tuple") none (.seq #[(.str "cell" 707), (.str "some" 708)] 0) #[])
noncomputable def o_361 (P : Params) : Obj := (Obj.mk (.type "tuple") none (.seq #[] 0) #[])
noncomputable def o_363 (P : Params) : Obj := (Obj.mk (.type "code") none (.fields #[(.str "_law_odd" 704), (.str "_law_odd" 705), (.str "/claim/cut.py" 706), (.int 280 0), (.int 1 0), (.int 0 0), (.int 0 0), (.int 3 0), (.ref 358), (.bool @Bool.true), (.int 181 0), (.ref 359), .none, (.ref 360), (.ref 361), (.ref 362), (.int 709 0), (.int 280 0), (.str "/claim/cut.py" 710)]) #[])
noncomputable def o_364 (P : Params) : Obj := (Obj.mk (.type "function") none (.func (@PySem.FuncData.mk (.ofString "_law_odd") (.ofString "_law_odd") (defArgs st__law_odd) (@PySem.FuncBody.stmts (defBody st__law_odd)) (defScope st__law_odd) 3 [] .none .none .none (.str "law_fordbook_k82_texts_read_or_refused" 488) none (.ref 363) .none 0)) #[])
noncomputable def o_365 (P : Params) : Obj := (Obj.mk (.type "tuple") none (.seq #[] 0) #[])
noncomputable def o_367 (P : Params) : Obj := (Obj.mk (.type "tuple") none (.seq #[(.str "text" 715), (.str "named" 716), (.str "e" 717)] 0) #[])
noncomputable def o_368 (P : Params) : Obj := (Obj.mk (.type "tuple") none (.seq #[] 0) #[])
noncomputable def o_370 (P : Params) : Obj := (Obj.mk (.type "code") none (.fields #[(.str "_law_under" 712), (.str "_law_under" 713), (.str "/claim/cut.py" 714), (.int 286 0), (.int 1 0), (.int 0 0), (.int 0 0), (.int 3 0), (.ref 365), (.bool @Bool.true), (.int 181 0), (.ref 366), .none, (.ref 367), (.ref 368), (.ref 369), (.int 718 0), (.int 286 0), (.str "/claim/cut.py" 719)]) #[])
noncomputable def o_371 (P : Params) : Obj := (Obj.mk (.type "function") none (.func (@PySem.FuncData.mk (.ofString "_law_under") (.ofString "_law_under") (defArgs st__law_under) (@PySem.FuncBody.stmts (defBody st__law_under)) (defScope st__law_under) 3 [] .none .none .none (.str "law_fordbook_k82_texts_read_or_refused" 488) none (.ref 370) .none 0)) #[])
noncomputable def o_372 (P : Params) : Obj := (Obj.mk (.type "tuple") none (.seq #[] 0) #[])
noncomputable def o_374 (P : Params) : Obj := (Obj.mk (.type "tuple") none (.seq #[(.str "script" 724), (.str "day" 725), (.str "roads" 726), (.str "names" 727), (.str "text" 728), (.str "due" 729), (.str "found" 730)] 0) #[])
noncomputable def o_375 (P : Params) : Obj := (Obj.mk (.type "tuple") none (.seq #[] 0) #[])
noncomputable def o_377 (P : Params) : Obj := (Obj.mk (.type "code") none (.fields #[(.str "law" 721), (.str "law" 722), (.str "/claim/cut.py" 723), (.int 293 0), (.int 1 0), (.int 0 0), (.int 0 0), (.int 3 0), (.ref 372), (.bool @Bool.true), (.int 181 0), (.ref 373), .none, (.ref 374), (.ref 375), (.ref 376), (.int 731 0), (.int 293 0), (.str "/claim/cut.py" 732)]) #[])
noncomputable def o_378 (P : Params) : Obj := (Obj.mk (.type "function") none (.func (@PySem.FuncData.mk (.ofString "law") (.ofString "law") (defArgs st_law) (@PySem.FuncBody.stmts (defBody st_law)) (defScope st_law) 3 [] .none .none .none (.str "law_fordbook_k82_texts_read_or_refused" 488) none (.ref 377) .none 0)) #[])
noncomputable def KK : Params → PySem.W.Frag := fun P =>
 ((nat_lit 2), (o_2 P)) ::
 ((nat_lit 3), (o_3 P)) ::
 ((nat_lit 15), (o_15 P)) ::
 ((nat_lit 22), (o_22 P)) ::
 ((nat_lit 23), (o_23 P)) ::
 ((nat_lit 24), (o_24 P)) ::
 ((nat_lit 25), (o_25 P)) ::
 ((nat_lit 28), (o_28 P)) ::
 ((nat_lit 35), (o_35 P)) ::
 ((nat_lit 36), (o_36 P)) ::
 ((nat_lit 37), (o_37 P)) ::
 ((nat_lit 40), (o_40 P)) ::
 ((nat_lit 47), (o_47 P)) ::
 ((nat_lit 48), (o_48 P)) ::
 ((nat_lit 49), (o_49 P)) ::
 ((nat_lit 52), (o_52 P)) ::
 ((nat_lit 59), (o_59 P)) ::
 ((nat_lit 60), (o_60 P)) ::
 ((nat_lit 61), (o_61 P)) ::
 ((nat_lit 64), (o_64 P)) ::
 ((nat_lit 71), (o_71 P)) ::
 ((nat_lit 72), (o_72 P)) ::
 ((nat_lit 73), (o_73 P)) ::
 ((nat_lit 76), (o_76 P)) ::
 ((nat_lit 83), (o_83 P)) ::
 ((nat_lit 84), (o_84 P)) ::
 ((nat_lit 85), (o_85 P)) ::
 ((nat_lit 88), (o_88 P)) ::
 ((nat_lit 95), (o_95 P)) ::
 ((nat_lit 96), (o_96 P)) ::
 ((nat_lit 97), (o_97 P)) ::
 ((nat_lit 100), (o_100 P)) ::
 ((nat_lit 107), (o_107 P)) ::
 ((nat_lit 108), (o_108 P)) ::
 ((nat_lit 109), (o_109 P)) ::
 ((nat_lit 112), (o_112 P)) ::
 ((nat_lit 119), (o_119 P)) ::
 ((nat_lit 120), (o_120 P)) ::
 ((nat_lit 121), (o_121 P)) ::
 ((nat_lit 124), (o_124 P)) ::
 ((nat_lit 131), (o_131 P)) ::
 ((nat_lit 132), (o_132 P)) ::
 ((nat_lit 133), (o_133 P)) ::
 ((nat_lit 136), (o_136 P)) ::
 ((nat_lit 138), (o_138 P)) ::
 ((nat_lit 139), (o_139 P)) ::
 ((nat_lit 141), (o_141 P)) ::
 ((nat_lit 142), (o_142 P)) ::
 ((nat_lit 143), (o_143 P)) ::
 ((nat_lit 146), (o_146 P)) ::
 ((nat_lit 147), (o_147 P)) ::
 ((nat_lit 148), (o_148 P)) ::
 ((nat_lit 151), (o_151 P)) ::
 ((nat_lit 152), (o_152 P)) ::
 ((nat_lit 153), (o_153 P)) ::
 ((nat_lit 156), (o_156 P)) ::
 ((nat_lit 157), (o_157 P)) ::
 ((nat_lit 158), (o_158 P)) ::
 ((nat_lit 160), (o_160 P)) ::
 ((nat_lit 161), (o_161 P)) ::
 ((nat_lit 163), (o_163 P)) ::
 ((nat_lit 164), (o_164 P)) ::
 ((nat_lit 165), (o_165 P)) ::
 ((nat_lit 167), (o_167 P)) ::
 ((nat_lit 168), (o_168 P)) ::
 ((nat_lit 170), (o_170 P)) ::
 ((nat_lit 171), (o_171 P)) ::
 ((nat_lit 172), (o_172 P)) ::
 ((nat_lit 174), (o_174 P)) ::
 ((nat_lit 175), (o_175 P)) ::
 ((nat_lit 177), (o_177 P)) ::
 ((nat_lit 178), (o_178 P)) ::
 ((nat_lit 179), (o_179 P)) ::
 ((nat_lit 181), (o_181 P)) ::
 ((nat_lit 182), (o_182 P)) ::
 ((nat_lit 184), (o_184 P)) ::
 ((nat_lit 185), (o_185 P)) ::
 ((nat_lit 186), (o_186 P)) ::
 ((nat_lit 189), (o_189 P)) ::
 ((nat_lit 190), (o_190 P)) ::
 ((nat_lit 191), (o_191 P)) ::
 ((nat_lit 193), (o_193 P)) ::
 ((nat_lit 194), (o_194 P)) ::
 ((nat_lit 196), (o_196 P)) ::
 ((nat_lit 197), (o_197 P)) ::
 ((nat_lit 198), (o_198 P)) ::
 ((nat_lit 200), (o_200 P)) ::
 ((nat_lit 201), (o_201 P)) ::
 ((nat_lit 203), (o_203 P)) ::
 ((nat_lit 204), (o_204 P)) ::
 ((nat_lit 205), (o_205 P)) ::
 ((nat_lit 207), (o_207 P)) ::
 ((nat_lit 208), (o_208 P)) ::
 ((nat_lit 210), (o_210 P)) ::
 ((nat_lit 211), (o_211 P)) ::
 ((nat_lit 212), (o_212 P)) ::
 ((nat_lit 215), (o_215 P)) ::
 ((nat_lit 216), (o_216 P)) ::
 ((nat_lit 217), (o_217 P)) ::
 ((nat_lit 219), (o_219 P)) ::
 ((nat_lit 220), (o_220 P)) ::
 ((nat_lit 222), (o_222 P)) ::
 ((nat_lit 223), (o_223 P)) ::
 ((nat_lit 224), (o_224 P)) ::
 ((nat_lit 227), (o_227 P)) ::
 ((nat_lit 228), (o_228 P)) ::
 ((nat_lit 229), (o_229 P)) ::
 ((nat_lit 231), (o_231 P)) ::
 ((nat_lit 232), (o_232 P)) ::
 ((nat_lit 234), (o_234 P)) ::
 ((nat_lit 235), (o_235 P)) ::
 ((nat_lit 236), (o_236 P)) ::
 ((nat_lit 238), (o_238 P)) ::
 ((nat_lit 239), (o_239 P)) ::
 ((nat_lit 241), (o_241 P)) ::
 ((nat_lit 242), (o_242 P)) ::
 ((nat_lit 243), (o_243 P)) ::
 ((nat_lit 245), (o_245 P)) ::
 ((nat_lit 246), (o_246 P)) ::
 ((nat_lit 248), (o_248 P)) ::
 ((nat_lit 249), (o_249 P)) ::
 ((nat_lit 250), (o_250 P)) ::
 ((nat_lit 252), (o_252 P)) ::
 ((nat_lit 253), (o_253 P)) ::
 ((nat_lit 255), (o_255 P)) ::
 ((nat_lit 256), (o_256 P)) ::
 ((nat_lit 257), (o_257 P)) ::
 ((nat_lit 259), (o_259 P)) ::
 ((nat_lit 260), (o_260 P)) ::
 ((nat_lit 262), (o_262 P)) ::
 ((nat_lit 263), (o_263 P)) ::
 ((nat_lit 269), (o_269 P)) ::
 ((nat_lit 271), (o_271 P)) ::
 ((nat_lit 272), (o_272 P)) ::
 ((nat_lit 274), (o_274 P)) ::
 ((nat_lit 275), (o_275 P)) ::
 ((nat_lit 276), (o_276 P)) ::
 ((nat_lit 278), (o_278 P)) ::
 ((nat_lit 279), (o_279 P)) ::
 ((nat_lit 281), (o_281 P)) ::
 ((nat_lit 282), (o_282 P)) ::
 ((nat_lit 283), (o_283 P)) ::
 ((nat_lit 286), (o_286 P)) ::
 ((nat_lit 287), (o_287 P)) ::
 ((nat_lit 288), (o_288 P)) ::
 ((nat_lit 290), (o_290 P)) ::
 ((nat_lit 291), (o_291 P)) ::
 ((nat_lit 293), (o_293 P)) ::
 ((nat_lit 294), (o_294 P)) ::
 ((nat_lit 295), (o_295 P)) ::
 ((nat_lit 297), (o_297 P)) ::
 ((nat_lit 298), (o_298 P)) ::
 ((nat_lit 300), (o_300 P)) ::
 ((nat_lit 301), (o_301 P)) ::
 ((nat_lit 302), (o_302 P)) ::
 ((nat_lit 304), (o_304 P)) ::
 ((nat_lit 305), (o_305 P)) ::
 ((nat_lit 307), (o_307 P)) ::
 ((nat_lit 308), (o_308 P)) ::
 ((nat_lit 309), (o_309 P)) ::
 ((nat_lit 311), (o_311 P)) ::
 ((nat_lit 312), (o_312 P)) ::
 ((nat_lit 314), (o_314 P)) ::
 ((nat_lit 315), (o_315 P)) ::
 ((nat_lit 316), (o_316 P)) ::
 ((nat_lit 318), (o_318 P)) ::
 ((nat_lit 319), (o_319 P)) ::
 ((nat_lit 321), (o_321 P)) ::
 ((nat_lit 322), (o_322 P)) ::
 ((nat_lit 323), (o_323 P)) ::
 ((nat_lit 325), (o_325 P)) ::
 ((nat_lit 326), (o_326 P)) ::
 ((nat_lit 328), (o_328 P)) ::
 ((nat_lit 329), (o_329 P)) ::
 ((nat_lit 330), (o_330 P)) ::
 ((nat_lit 332), (o_332 P)) ::
 ((nat_lit 333), (o_333 P)) ::
 ((nat_lit 335), (o_335 P)) ::
 ((nat_lit 336), (o_336 P)) ::
 ((nat_lit 337), (o_337 P)) ::
 ((nat_lit 339), (o_339 P)) ::
 ((nat_lit 340), (o_340 P)) ::
 ((nat_lit 342), (o_342 P)) ::
 ((nat_lit 343), (o_343 P)) ::
 ((nat_lit 344), (o_344 P)) ::
 ((nat_lit 346), (o_346 P)) ::
 ((nat_lit 347), (o_347 P)) ::
 ((nat_lit 349), (o_349 P)) ::
 ((nat_lit 350), (o_350 P)) ::
 ((nat_lit 351), (o_351 P)) ::
 ((nat_lit 353), (o_353 P)) ::
 ((nat_lit 354), (o_354 P)) ::
 ((nat_lit 356), (o_356 P)) ::
 ((nat_lit 357), (o_357 P)) ::
 ((nat_lit 358), (o_358 P)) ::
 ((nat_lit 360), (o_360 P)) ::
 ((nat_lit 361), (o_361 P)) ::
 ((nat_lit 363), (o_363 P)) ::
 ((nat_lit 364), (o_364 P)) ::
 ((nat_lit 365), (o_365 P)) ::
 ((nat_lit 367), (o_367 P)) ::
 ((nat_lit 368), (o_368 P)) ::
 ((nat_lit 370), (o_370 P)) ::
 ((nat_lit 371), (o_371 P)) ::
 ((nat_lit 372), (o_372 P)) ::
 ((nat_lit 374), (o_374 P)) ::
 ((nat_lit 375), (o_375 P)) ::
 ((nat_lit 377), (o_377 P)) ::
 ((nat_lit 378), (o_378 P)) ::
 []
noncomputable def kAs : List Addr := [2, 3, 15, 22, 23, 24, 25, 28, 35, 36, 37, 40, 47, 48, 49, 52, 59, 60, 61, 64, 71, 72, 73, 76, 83, 84, 85, 88, 95, 96, 97, 100, 107, 108, 109, 112, 119, 120, 121, 124, 131, 132, 133, 136, 138, 139, 141, 142, 143, 146, 147, 148, 151, 152, 153, 156, 157, 158, 160, 161, 163, 164, 165, 167, 168, 170, 171, 172, 174, 175, 177, 178, 179, 181, 182, 184, 185, 186, 189, 190, 191, 193, 194, 196, 197, 198, 200, 201, 203, 204, 205, 207, 208, 210, 211, 212, 215, 216, 217, 219, 220, 222, 223, 224, 227, 228, 229, 231, 232, 234, 235, 236, 238, 239, 241, 242, 243, 245, 246, 248, 249, 250, 252, 253, 255, 256, 257, 259, 260, 262, 263, 269, 271, 272, 274, 275, 276, 278, 279, 281, 282, 283, 286, 287, 288, 290, 291, 293, 294, 295, 297, 298, 300, 301, 302, 304, 305, 307, 308, 309, 311, 312, 314, 315, 316, 318, 319, 321, 322, 323, 325, 326, 328, 329, 330, 332, 333, 335, 336, 337, 339, 340, 342, 343, 344, 346, 347, 349, 350, 351, 353, 354, 356, 357, 358, 360, 361, 363, 364, 365, 367, 368, 370, 371, 372, 374, 375, 377, 378]
noncomputable def view : Program := { PySem.Challenge.pw_fordbook_k82_texts_read_or_refused with main := { PySem.Challenge.pw_fordbook_k82_texts_read_or_refused.main with body := [top 1, top 2, top 3, top 4, top 5, top 6, top 7, top 8, top 9, top 10, top 12, top 13, top 15, top 16, top 17, top 18, top 19, top 20, top 21, top 22, top 23, top 24, top 25, top 26, top 27, top 28, top 29, top 30, top 31, top 33, top 34, top 35, top 36, top 37, top 38, top 39, top 40, top 41, top 42, top 43, top 44, top 45, top 46, top 47, top 48, top 49, top 50, top 51, top 52, top 53, top 54] } }
theorem k_ws : PySem.Challenge.rw_fordbook_k82_texts_read_or_refused.wellSaid = true := by
 kernel_rfl
theorem k_as (P : Params) : kAs = (KK P).map (·.1) := by kernel_rfl
namespace Tt
open PySem PySem.W PySem.Calls PyProof.Rows
noncomputable def topRunT (tb : String → Option Builtin) (p : Program) (w : World) (n₀ : Nat) (ann : Option Value) : Nat → SharedT → Thread → Option SharedT
 | 0, _, _ => none
 | n + 1, s, t => match through t with
  | true => some s
  | false => match stepOk n₀ ann t with
   | false => none
   | true => match stepT (denote tb) p w s t with
    | some (s', t') => topRunT tb p w n₀ ann n s' t'
    | none => none
theorem topRun_of {tb : String → Option Builtin} {p : Program} {w : World} {n₀ : Nat} {ann : Option Value} : ∀ {n : Nat} {s s' : SharedT} {t : Thread}, topRunT tb p w n₀ ann n s t = some s' → topRun tb p w n₀ ann n s.abs t = some s'.abs
 | 0, _, _, _, h => by cases h
 | n + 1, s, s', t, h => by
  unfold topRunT at h
  unfold topRun
  cases he : through t with
  | true => rw [he] at h; cases h; rfl
  | false =>
   rw [he] at h
   cases hk : stepOk n₀ ann t with
   | false => rw [hk] at h; cases h
   | true =>
    rw [hk] at h
    cases hs : stepT (denote tb) p w s t with
    | none => rw [hs] at h; cases h
    | some r => obtain ⟨s₂, t₂⟩ := r; rw [hs] at h; rw [stepT_spec hs]; exact topRun_of h
noncomputable def grow : List Obj → Nat → BT → BT
 | [], _, t => t
 | o :: l, n, t => grow l (n + 1) (t.ins n o)
noncomputable def s0T (P : Params) (os : OsState) : SharedT := ⟨grow (boot_heap P).objs.toList 0 .nil, 11, {}, Array.mk [], boot_drawn, boot_toks, os⟩
theorem s0_abs (P : Params) (os : OsState) : (s0T P os).abs = ⟨boot_heap P, Array.mk [], boot_drawn, boot_toks, os⟩ := by kernel_rfl
noncomputable def chk (p : Program) (h₀ : Heap) (s : Shared) : Bool := staticsOk (importedModules p.main.body) h₀ s.heap && namesBound p s.heap && gensDone s && laidKept h₀ s.heap
theorem boot_facts (P : Params) : ((boot_heap P).isNs mainGlobals, (boot_heap P).objs.size, (boot_heap P).nsMap mainGlobals "__annotations__") = (true, 11, some (.ref 6)) := by kernel_rfl
noncomputable def qRun (p : Program) (w : World) (n₀ : Nat) (ann : Option Value) : Nat → SharedT → Thread → Option SharedT
 | 0, _, _ => none
 | n + 1, s, t => match through t with
  | true => some s
  | false => match Fast.tw6613529449190102663 n₀ ann t with
   | false => none
   | true => match Fast.tw10156331382660048174 (Fast.tw11892475500146522536 Fast.tw14364793385576792824) p w s t with
    | some (s', t') => qRun p w n₀ ann n s' t'
    | none => none
theorem qRun_eq {p : Program} {w : World} {n₀ : Nat} {ann : Option Value} : ∀ (n : Nat) (s : SharedT) (t : Thread), topRunT treeTable p w n₀ ann n s t = qRun p w n₀ ann n s t
 | 0, _, _ => rfl
 | n + 1, s, t => by
  unfold topRunT qRun
  rw [← Fast.te6613529449190102663, ← Fast.te10156331382660048174, ← Fast.te11892475500146522536, ← Fast.te14364793385576792824]
  simp only [qRun_eq n]
noncomputable def endsT (p : Program) (N : Nat) (w : World) (os : OsState) : Option SharedT := qRun p w 11 (some (.ref 6)) N (s0T w.params os) (topStub p)
theorem left_of {p : Program} {N : Nat} {β : Type} {obs : Shared → β} {good : World → β} (hb : opening p = plainProg p.main.scope.names) (hN : Nat.ble 600 N = true) (hf : ∀ s, fenceModules? p s = some s)
  (h1 : ∀ w os, (endsT p N w os).map (fun s => chk p (boot_heap w.params) s.abs) = some true)
  (h2 : ∀ w os, (endsT p N w os).map (fun s => obs s.abs) = some (good w)) : ∀ w, (openEnds treeTable p w N).map obs = some (good w) := by
 intro w
 obtain ⟨⟨hp, gs, dr, tk, os⟩, e, e2⟩ := Option.map_eq_some_iff.mp (boot_open (N := N) hb hN hf w)
 simp only [Prod.mk.injEq] at e2
 obtain ⟨rfl, rfl, rfl, rfl⟩ := e2
 obtain ⟨f1, f2, f3⟩ : _ ∧ _ ∧ _ := by simpa only [Prod.mk.injEq] using boot_facts w.params
 obtain ⟨s, hs, h2'⟩ := Option.map_eq_some_iff.mp (h2 w os)
 have h1' := h1 w os
 rw [hs] at h1'
 have h1' : chk p (boot_heap w.params) s.abs = true := Option.some.inj h1'
 have r := topRun_of ((qRun_eq _ _ _).trans hs)
 rw [s0_abs] at r
 unfold openEnds
 rw [e]
 show (topFrom treeTable p w N _).map obs = _
 have t : topFrom treeTable p w N ⟨boot_heap w.params, Array.mk [], boot_drawn, boot_toks, os⟩ = some s.abs := by
  unfold topFrom
  dsimp only
  rw [f1, f2, f3, r]
  show (match chk p (boot_heap w.params) s.abs with | true => _ | false => _) = _
  rw [h1']
 rw [t]
 exact congrArg some h2'
end Tt
theorem both {α β γ : Type} {o : Option α} {f : α → β} {g : α → γ} {b : β} {c : γ} (h1 : o.map f = some b) (h2 : o.map g = some c) : o.map (fun s => (f s, g s)) = some (b, c) := by
 cases o with
 | none => cases h1
 | some s =>
  cases h1
  cases h2
  rfl
open PySem PySem.W PySem.Spec PyProof.Rows in
theorem k_b : opening PySem.Challenge.rw_fordbook_k82_texts_read_or_refused.row.prog = plainProg PySem.Challenge.rw_fordbook_k82_texts_read_or_refused.row.prog.main.scope.names := by kernel_rfl
open PySem PySem.W PySem.Spec PyProof.Rows in
theorem k_f (s : Shared) : fenceModules? PySem.Challenge.rw_fordbook_k82_texts_read_or_refused.row.prog s = some s := by kernel_rfl
open PySem PySem.W PySem.Spec PyProof.Rows in
theorem k_c (w : World) (os : OsState) : (Tt.endsT PySem.Challenge.rw_fordbook_k82_texts_read_or_refused.row.prog 6810 w os).map (fun s => Tt.chk PySem.Challenge.rw_fordbook_k82_texts_read_or_refused.row.prog (boot_heap w.params) s.abs) = some true := by kernel_rfl
open PySem PySem.W PySem.Spec PyProof.Rows in
theorem k_l1a (w : World) (os : OsState) : (Tt.endsT PySem.Challenge.rw_fordbook_k82_texts_read_or_refused.row.prog 6810 w os).map (fun s => (Fast.tw4187177175401517315 My.view [] (importedModules PySem.Challenge.rw_fordbook_k82_texts_read_or_refused.row.prog.main.body) (fun s => PySem.W.xlAt My.view [] s && PySem.W.recOk (PySem.W.RowW.records (PySem.W.OpenRow.toRowW PySem.Challenge.rw_fordbook_k82_texts_read_or_refused.row)) s) true s.abs).1) = some (openGood My.view []).1 := by kernel_rfl
open PySem PySem.W PySem.Spec PyProof.Rows in
theorem k_l1b (w : World) (os : OsState) : (Tt.endsT PySem.Challenge.rw_fordbook_k82_texts_read_or_refused.row.prog 6810 w os).map (fun s => (Fast.tw4187177175401517315 My.view [] (importedModules PySem.Challenge.rw_fordbook_k82_texts_read_or_refused.row.prog.main.body) (fun s => PySem.W.xlAt My.view [] s && PySem.W.recOk (PySem.W.RowW.records (PySem.W.OpenRow.toRowW PySem.Challenge.rw_fordbook_k82_texts_read_or_refused.row)) s) true s.abs).2.1) = some (openGood My.view []).2.1 := by kernel_rfl
open PySem PySem.W PySem.Spec PyProof.Rows in
theorem k_l1c (w : World) (os : OsState) : (Tt.endsT PySem.Challenge.rw_fordbook_k82_texts_read_or_refused.row.prog 6810 w os).map (fun s => (Fast.tw4187177175401517315 My.view [] (importedModules PySem.Challenge.rw_fordbook_k82_texts_read_or_refused.row.prog.main.body) (fun s => PySem.W.xlAt My.view [] s && PySem.W.recOk (PySem.W.RowW.records (PySem.W.OpenRow.toRowW PySem.Challenge.rw_fordbook_k82_texts_read_or_refused.row)) s) true s.abs).2.2.1) = some (openGood My.view []).2.2.1 := by kernel_rfl
open PySem PySem.W PySem.Spec PyProof.Rows in
theorem k_l1d (w : World) (os : OsState) : (Tt.endsT PySem.Challenge.rw_fordbook_k82_texts_read_or_refused.row.prog 6810 w os).map (fun s => (Fast.tw4187177175401517315 My.view [] (importedModules PySem.Challenge.rw_fordbook_k82_texts_read_or_refused.row.prog.main.body) (fun s => PySem.W.xlAt My.view [] s && PySem.W.recOk (PySem.W.RowW.records (PySem.W.OpenRow.toRowW PySem.Challenge.rw_fordbook_k82_texts_read_or_refused.row)) s) true s.abs).2.2.2) = some (openGood My.view []).2.2.2 := by kernel_rfl
open PySem PySem.W PySem.Spec PyProof.Rows in
theorem k_l1 (w : World) (os : OsState) : (Tt.endsT PySem.Challenge.rw_fordbook_k82_texts_read_or_refused.row.prog 6810 w os).map (fun s => openSeen My.view [] (importedModules PySem.Challenge.rw_fordbook_k82_texts_read_or_refused.row.prog.main.body) (fun s => PySem.W.xlAt My.view [] s && PySem.W.recOk (PySem.W.RowW.records (PySem.W.OpenRow.toRowW PySem.Challenge.rw_fordbook_k82_texts_read_or_refused.row)) s) true s.abs) = some (openGood My.view []) := by
 rw [Fast.te4187177175401517315]
 exact both (k_l1a w os) (both (k_l1b w os) (both (k_l1c w os) (k_l1d w os)))
open PySem PySem.W PySem.Spec PyProof.Rows in
theorem k_l2 (w : World) (os : OsState) : (Tt.endsT PySem.Challenge.rw_fordbook_k82_texts_read_or_refused.row.prog 6810 w os).map (fun s => PySem.W.Hook.obs (PySem.W.kHook My.KK My.kAs My.k_as) s.abs) = some (PySem.W.Hook.val (PySem.W.kHook My.KK My.kAs My.k_as) w) := by kernel_rfl
theorem k_left : PySem.W.LeftO PySem.Challenge.rw_fordbook_k82_texts_read_or_refused.row.prog My.view [] (fun s => PySem.W.xlAt My.view [] s && PySem.W.recOk (PySem.W.RowW.records (PySem.W.OpenRow.toRowW PySem.Challenge.rw_fordbook_k82_texts_read_or_refused.row)) s) (PySem.W.Hook.obs (PySem.W.kHook My.KK My.kAs My.k_as)) (PySem.W.Hook.val (PySem.W.kHook My.KK My.kAs My.k_as)) 6810 := Tt.left_of k_b rfl k_f k_c fun w os => both (k_l1 w os) (k_l2 w os)
end My
namespace L2
open PySem PySem.Spec PyProof.Rows
noncomputable abbrev Key := Sum Int Str
noncomputable def keyIs : Key → Value → Bool
 | .inl k,v => Value.isInt k v
 | .inr x,v => Value.isStrOf x v
noncomputable def keyH (w : World) : Key → Int
 | .inl k => hashInt k
 | .inr x => hashStr w x
theorem keyIs_shape : ∀ {k : Key} {v : Value},keyIs k v = true → (∃ i t,k = Sum.inl i ∧ v = Value.int i t) ∨ (∃ x t,k = Sum.inr x ∧ v = Value.str x t)
 | .inl i,v,h => by
  obtain ⟨t,e⟩ := Value.isInt_shape (k := i) (v := v) h
  exact .inl ⟨i,t,rfl,e⟩
 | .inr x,v,h => by
  obtain ⟨t,e⟩ := Value.isStrOf_shape (x := x) (v := v) h
  exact .inr ⟨x,t,rfl,e⟩
theorem key_ll (a b : Int) : decide ((Sum.inl a : Key) = Sum.inl b) = (a == b) := by
 by_cases e : a = b
 ·subst e; simp
 ·have h : ¬ (Sum.inl a : Key) = Sum.inl b := fun q => e (Sum.inl.inj q)
  rw [decide_eq_false h]
  exact (beq_eq_false_iff_ne.mpr e).symm
theorem key_rr (a b : Str) : decide ((Sum.inr a : Key) = Sum.inr b) = decide (a = b) := by
 by_cases e : a = b
 ·subst e; simp
 ·have h : ¬ (Sum.inr a : Key) = Sum.inr b := fun q => e (Sum.inr.inj q)
  rw [decide_eq_false h,decide_eq_false e]
theorem key_lr (a : Int) (b : Str) : decide ((Sum.inl a : Key) = Sum.inr b) = false := decide_eq_false (fun q => nomatch q)
theorem key_rl (a : Str) (b : Int) : decide ((Sum.inr a : Key) = Sum.inl b) = false := decide_eq_false (fun q => nomatch q)
noncomputable def mixKind (prog : Program) (w : World) : PySem.KeyKind prog w Key where
 is := keyIs
 hash := keyH w
 inj := fun v a b ha hb => by
  rcases keyIs_shape ha with ⟨i,t,rfl,rfl⟩ | ⟨x,t,rfl,rfl⟩
  ·rcases keyIs_shape hb with ⟨j,u,rfl,e⟩ | ⟨y,u,rfl,e⟩
   ·injection e with e1 _; rw [e1]
   ·exact nomatch e
  ·rcases keyIs_shape hb with ⟨j,u,rfl,e⟩ | ⟨y,u,rfl,e⟩
   ·exact nomatch e
   ·injection e with e1 _; rw [e1]
 byValue := fun k v h => by
  rcases keyIs_shape h with ⟨i,t,rfl,rfl⟩ | ⟨x,t,rfl,rfl⟩ <;> rfl
 pyHash := fun hv h => by
  rcases keyIs_shape hv with ⟨i,t,rfl,rfl⟩ | ⟨x,t,rfl,rfl⟩
  ·exact wpAny_pyHash_int h
  ·exact wpAny_pyHash_str h
 eqBool := fun hu hv h => by
  rcases keyIs_shape hu with ⟨i,t,rfl,rfl⟩ | ⟨x,t,rfl,rfl⟩
  ·rcases keyIs_shape hv with ⟨j,u,rfl,rfl⟩ | ⟨y,u,rfl,rfl⟩
   ·rw [key_ll] at h; exact wpAny_eqBool_int h
   ·rw [key_lr] at h; exact SeqAt.EqAt.int_str i t y u _ _ _ _ h
  ·rcases keyIs_shape hv with ⟨j,u,rfl,rfl⟩ | ⟨y,u,rfl,rfl⟩
   ·rw [key_rl] at h; exact SeqAt.EqAt.str_int x t j u _ _ _ _ h
   ·rw [key_rr] at h; exact wpAny_eqBool_str h
 «strs» := fun k x t v h => by
  rcases keyIs_shape h with ⟨i,u,rfl,e⟩ | ⟨y,u,rfl,e⟩
  ·exact nomatch e
  ·injection e with e1 _
   subst e1
   cases v <;> rfl
end L2
namespace L2
open PySem PySem.Spec PyProof.Rows
inductive V where
 | non | bl (b : Bool) | int (i : Int) | str (x : Str) | byt (b : Array UInt8) | flt (b : UInt64) | ref (a : Addr) | ty (n : String)
 deriving DecidableEq
noncomputable def RelV : V → Value → Prop
 | .non,u => u = Value.none
 | .bl b,u => u = Value.bool b
 | .int i,u => ∃ t,u = Value.int i t
 | .str x,u => ∃ t,u = Value.str x t
 | .byt b,u => ∃ t,u = Value.bytes b t
 | .flt b,u => ∃ t,u = Value.float b t
 | .ref a,u => u = Value.ref a
 | .ty n,u => u = Value.type n
noncomputable abbrev Vals : List V → List Value → Prop := Paired RelV
theorem Vals.length {xs : List V} {us : List Value} (r : Vals xs us) : xs.length = us.length := Paired.length r
theorem Vals.get : ∀ {xs : List V} {us : List Value} {i : Nat} {x : V},Vals xs us → xs[i]? = some x → ∃ u,us[i]? = some u ∧ RelV x u
 | _,_,_,_,.nil,e => by simp at e
 | _,_,0,_,.cons r _,e => by simp at e; subst e; exact ⟨_,rfl,r⟩
 | _,_,i + 1,x,.cons _ t,e => by
  obtain ⟨u,h1,h2⟩ := Vals.get (i := i) (x := x) t (by simpa using e)
  exact ⟨u,by simpa using h1,h2⟩
theorem Vals.set {x : V} {u : Value} (r : RelV x u) : ∀ {xs : List V} {us : List Value} (i : Nat),Vals xs us → Vals (xs.set i x) (us.set i u)
 | _,_,_,.nil => .nil
 | _,_,0,.cons _ t => .cons r t
 | _,_,i + 1,.cons q t => .cons q (Vals.set r i t)
theorem Vals.append : ∀ {xs ys : List V} {us ws : List Value},Vals xs us → Vals ys ws → Vals (xs ++ ys) (us ++ ws)
 | _,_,_,_,.nil,s => s
 | _,_,_,_,.cons r t,s => .cons r (Vals.append t s)
theorem Vals.take : ∀ {xs : List V} {us : List Value} (n : Nat),Vals xs us → Vals (xs.take n) (us.take n)
 | _,_,0,_ => .nil
 | _,_,_ + 1,.nil => .nil
 | _,_,n + 1,.cons r t => .cons r (Vals.take n t)
theorem Vals.drop : ∀ {xs : List V} {us : List Value} (n : Nat),Vals xs us → Vals (xs.drop n) (us.drop n)
 | _,_,0,r => r
 | _,_,_ + 1,.nil => .nil
 | _,_,n + 1,.cons _ t => Vals.drop n t
noncomputable def RelO : Option V → Option Value → Prop
 | some v,some u => RelV v u
 | none,none => True
 | _,_ => False
noncomputable def KV {κ : Type} : List (κ × V) → List (κ × Value) → Prop := Paired fun (p : κ × V) (q : κ × Value) => p.1 = q.1 ∧ RelV p.2 q.2
noncomputable def kV : Key → V
 | .inl i => .int i
 | .inr x => .str x
inductive HO where
  | lst (xs : List V)
  | tup (xs : List V)
  | dK (kvs : List (Key × V)) | dT (kvs : List (List Key × V))
  | set (S : Int → Bool) (n : Nat)
  | ins (C dx : Addr) (fs : List (Str × V))
  | own (x : Addr)
  | xd (fs : List (Str × V))
  | met (f x : Addr)
  | rng (lo hi : Int)
  | frz (o : Obj) (u : HO)
  | tbl (ps : Array Value)
  | ext (φ : Heap → Prop)
noncomputable abbrev Hp := Addr → Option HO
noncomputable def upd (H : Hp) (a : Addr) (o : HO) : Hp := fun b => if b = a then some o else H b
theorem upd_same {H : Hp} {a : Addr} {o : HO} : upd H a o a = some o := by unfold upd; rw [if_pos rfl]
theorem upd_ne {H : Hp} {a b : Addr} {o : HO} (h : b ≠ a) : upd H a o b = H b := by unfold upd; rw [if_neg h]
theorem ne_of_none {H : Hp} {a b : Addr} {o : HO} (h : H a = some o) (h' : H b = none) : a ≠ b := by
 intro e; subst e; rw [h] at h'; cases h'
section
variable (P : Program) (w : World)
noncomputable def ObjOk (H : Hp) (h : Heap) (a : Addr) : HO → Prop
 | .lst xs => xs.length ≤ sizeLine ∧ ∃ (its : List Value) (n : Nat),Vals xs its ∧ h.get? a = some { cls := .type "list",data := .seq its.toArray n }
 | .tup xs => xs.length ≤ sizeLine ∧ ∃ its : List Value,Vals xs its ∧ IsTup h a its.toArray
 | .dK kvs => kvs.length ≤ sizeLine ∧ (a == sysModules) = false ∧ ∃ vs,KV kvs vs ∧ h.DictOf (mixKind P w) a vs
 | .dT kvs => kvs.length ≤ sizeLine ∧ (a == sysModules) = false ∧ ∃ xs : List (List Key × Addr × Value),
   Paired (fun (p : List Key × V) (q : List Key × Addr × Value) => p.1 = q.1 ∧ H q.2.1 = some (.tup (p.1.map kV)) ∧ RelV p.2 q.2.2) kvs xs ∧
   ∃ o es ep,h.get? a = some o ∧ o.ExactDict ∧ o.data = .dict es ep ∧ es.toList = xs.map (entryOfKey (tupleKind (mixKind P w))) ∧ (xs.map (·.1)).Nodup
 | .set S n => h.SetOf (intKind P w) a S n
 | .ins C dx fs => H dx = some (.own a) ∧ fs.length ≤ 1000 ∧ dx ≠ a ∧ h.get? a = some (PySem.W.instObj C dx) ∧
   ∃ mA,h.Ns1 dx mA ∧ (∀ f,RelO (fs.lookup f) (mA f)) ∧ PySem.Within mA (fs.map (·.1))
 | .own _ => ∃ o,h.get? a = some o
 | .xd fs => ∃ mA,h.Ns1 a mA ∧ ∀ f,RelO (fs.lookup f) (mA f)
 | .rng lo hi => ∃ t u v,h.get? a = some { cls := .type "range",data := .fields #[.int lo t,.int hi u,.int 1 v] }
 | .frz o u => h.get? a = some o ∧ ObjOk H h a u
 | .tbl ps => h.get? a = some { cls := .none,data := .fields ps }
 | .met f x => h.get? a = some (PySem.W.methodObj (.ref f) (.ref x))
 | .ext φ => φ h ∧ (∃ o,h.get? a = some o) ∧ ∀ h1 h2 : Heap,φ h1 → (∀ o,h1.get? a = some o → h2.get? a = some o) → φ h2
noncomputable def HOk (H : Hp) (h : Heap) : Prop := ∀ a o,H a = some o → ObjOk P w H h a o
end
section
variable {P : Program} {w : World} {H H' : Hp} {h h' : Heap} {a : Addr} {o : HO}
theorem ObjOk.lt (x : ObjOk P w H h a o) : a < h.objs.size := by
 cases o with
 | lst xs => obtain ⟨_,_,_,_,e⟩ := x; exact Heap.lt_size e
 | tup xs => obtain ⟨_,_,_,p⟩ := x; exact p.lt
 | dK kvs => obtain ⟨_,_,_,_,o,_,_,e,_⟩ := x; exact Heap.lt_size e
 | dT kvs => obtain ⟨_,_,_,_,o,_,_,e,_⟩ := x; exact Heap.lt_size e
 | set S n => obtain ⟨o,_,_,_,e,_⟩ := x; exact Heap.lt_size e
 | ins C dx fs => obtain ⟨_,_,_,e,_⟩ := x; exact Heap.lt_size e
 | own y => obtain ⟨_,e⟩ := x; exact Heap.lt_size e
 | xd fs => obtain ⟨_,⟨_,_,_,e,_⟩,_⟩ := x; exact Heap.lt_size e
 | rng lo hi => obtain ⟨_,_,_,e⟩ := x; exact Heap.lt_size e
 | frz ob u => obtain ⟨e,_⟩ := x; exact Heap.lt_size e
 | tbl ps => exact Heap.lt_size (show h.get? a = some _ from x)
 | met f y => exact Heap.lt_size (show h.get? a = some _ from x)
 | ext φ => obtain ⟨_,⟨_,e⟩,_⟩ := x; exact Heap.lt_size e
theorem Paired.mapP {α β : Type} {F G : α → β → Prop} : ∀ {l₁ : List α} {l₂ : List β},Paired F l₁ l₂ → (∀ a b,F a b → G a b) → Paired G l₁ l₂
 | _,_,.nil,_ => .nil
 | _,_,.cons r t,f => .cons (f _ _ r) (Paired.mapP t f)
theorem ObjOk.stay (x : ObjOk P w H h a o) (k : ∀ b u,(b = a ∨ H b = some (.own a)) → h.get? b = some u → h'.get? b = some u)
  (ho : ∀ b,H b = some (.own a) → H' b = some (.own a)) (ht : ∀ b xs,H b = some (.tup xs) → H' b = some (.tup xs)) : ObjOk P w H' h' a o := by
 induction o with
 | lst xs => obtain ⟨z,its,n,r,e⟩ := x; exact ⟨z,its,n,r,k _ _ (.inl rfl) e⟩
 | tup xs => obtain ⟨z,its,r,ob,e,c⟩ := x; exact ⟨z,its,r,ob,k _ _ (.inl rfl) e,c⟩
 | dK kvs => obtain ⟨z,y,vs,r,ob,es,ep,e,c⟩ := x; exact ⟨z,y,vs,r,ob,es,ep,k _ _ (.inl rfl) e,c⟩
 | dT kvs =>
  obtain ⟨z,y,xs,r,ob,es,ep,e,c⟩ := x
  exact ⟨z,y,xs,Paired.mapP r fun p q z => ⟨z.1,ht _ _ z.2.1,z.2.2⟩,ob,es,ep,k _ _ (.inl rfl) e,c⟩
 | set S n => obtain ⟨ob,es,ep,t,e,c⟩ := x; exact ⟨ob,es,ep,t,k _ _ (.inl rfl) e,c⟩
 | ins C dx fs =>
  obtain ⟨d,z,ne,e,mA,⟨od,es,ep,e2,c⟩,r⟩ := x
  exact ⟨ho _ d,z,ne,k _ _ (.inl rfl) e,mA,⟨od,es,ep,k _ _ (.inr d) e2,c⟩,r⟩
 | own y => obtain ⟨ob,e⟩ := x; exact ⟨ob,k _ _ (.inl rfl) e⟩
 | xd fs => obtain ⟨mA,⟨od,es,ep,e,c⟩,r⟩ := x; exact ⟨mA,⟨od,es,ep,k _ _ (.inl rfl) e,c⟩,r⟩
 | rng lo hi => obtain ⟨t,u,v,e⟩ := x; exact ⟨t,u,v,k _ _ (.inl rfl) e⟩
 | frz ob u ih => obtain ⟨e,q⟩ := x; exact ⟨k _ _ (.inl rfl) e,ih q⟩
 | tbl ps =>
  have e : h.get? a = some { cls := .none,data := .fields ps } := x
  show h'.get? a = some { cls := .none,data := .fields ps }
  exact k a _ (.inl rfl) e
 | met f y =>
  have e : h.get? a = some (PySem.W.methodObj (.ref f) (.ref y)) := x
  show h'.get? a = some (PySem.W.methodObj (.ref f) (.ref y))
  exact k a _ (.inl rfl) e
 | ext φ => obtain ⟨p,⟨o,e⟩,st⟩ := x; exact ⟨st _ _ p fun o q => k _ _ (.inl rfl) q,⟨o,k _ _ (.inl rfl) e⟩,st⟩
theorem HOk.lt (x : HOk P w H h) (e : H a = some o) : a < h.objs.size := (x a o e).lt
theorem HOk.fresh (x : HOk P w H h) (e : h.objs.size ≤ a) : H a = none := by
 cases q : H a with
 | none => rfl
 | some u => exact absurd (Nat.lt_of_lt_of_le (x.lt q) e) (Nat.lt_irrefl _)
theorem HOk.kept (x : HOk P w H h) (k : ∀ b u,h.get? b = some u → h'.get? b = some u) : HOk P w H h' := fun a o e =>
 (x a o e).stay (fun b u _ q => k b u q) (fun _ q => q) fun _ _ q => q
theorem HOk.laid (x : HOk P w H h) (k : ∀ b u,h.get? b = some u → h'.get? b = some u) (hp : h.objs.size ≤ a) (new : ObjOk P w (upd H a o) h' a o) : HOk P w (upd H a o) h' := fun b u e => by
 have hn := x.fresh hp
 by_cases hb : b = a
 ·subst hb; rw [upd_same] at e; cases e; exact new
 ·rw [upd_ne hb] at e
  exact (x b u e).stay (fun c v _ q => k c v q) (fun c q => by rw [upd_ne (ne_of_none q hn)]; exact q) fun c xs q => by rw [upd_ne (ne_of_none q hn)]; exact q
end
noncomputable def Rd (H : Hp) (a : Addr) (u : HO) : Prop := H a = some u ∨ ∃ o,H a = some (.frz o u)
theorem Rd.of {H : Hp} {a : Addr} {u : HO} (h : H a = some u) : Rd H a u := .inl h
theorem Rd.ok {P : Program} {w : World} {H : Hp} {h : Heap} {a : Addr} {u : HO} (r : Rd H a u) (x : HOk P w H h) : ObjOk P w H h a u := by
 rcases r with r | ⟨o,r⟩
 ·exact x a u r
 ·obtain ⟨_,q⟩ := x a _ r
  exact q
noncomputable def Mut : Option HO → Prop
 | some (.lst _) => True
 | some (.dK _) => True
 | some (.dT _) => True
 | some (.set _ _) => True
 | some (.ins _ _ _) => True
 | some (.ext _) => True
 | _ => False
section
variable {P : Program} {w : World} {H : Hp} {h h' : Heap} {x e : Addr} {o' : HO}
theorem HOk.write (ok : HOk P w H h) (mu : Mut (H x)) (he : e = x ∨ H e = some (.own x)) (k : ∀ b u,b ≠ e → h.get? b = some u → h'.get? b = some u) (heo : ∃ u,h'.get? e = some u)
  (new : ObjOk P w (upd H x o') h' x o') : HOk P w (upd H x o') h' := fun b u q => by
 have nown : ∀ c y,H c = some (.own y) → c ≠ x := fun c y r z => by subst z; rw [r] at mu; exact mu
 have ntup : ∀ c xs,H c = some (.tup xs) → c ≠ x := fun c xs r z => by subst z; rw [r] at mu; exact mu
 by_cases hb : b = x
 ·subst hb; rw [upd_same] at q; cases q; exact new
 ·rw [upd_ne hb] at q
  by_cases hbe : b = e
  ·have q' : H b = some (.own x) := by
    rcases he with z | z
    ·exact absurd (hbe.trans z) hb
    ·rw [hbe]; exact z
   rw [q] at q'; cases q'
   obtain ⟨v,hv⟩ := heo
   exact ⟨v,by rw [hbe]; exact hv⟩
  ·refine (ok b u q).stay (fun c v hc r => k c v ?_ r) (fun c r => by rw [upd_ne (nown c b r)]; exact r) fun c xs r => by rw [upd_ne (ntup c xs r)]; exact r
   rcases hc with rfl | hc
   ·exact hbe
   ·rintro rfl
    rcases he with z | z
    ·exact nown c b hc z
    ·rw [hc] at z; cases z; exact hb rfl
end
structure Un (fs ex : List Addr) (H H' : Hp) (h h' : Heap) : Prop where
 keep : ∀ b o,h.get? b = some o → H b = none → b ∉ fs → b ∉ ex → h'.get? b = some o
 slot : ∀ b o,h.get? b = some o → H b = none → b ∈ fs → b ∉ ex → ∃ sl,h'.get? b = some { o with slots := sl }
 free : ∀ b o,h.get? b = some o → H b = none → b ∉ ex → H' b = none
 there : ∀ b o,h.get? b = some o → b ∉ ex → ∃ o',h'.get? b = some o'
 tups : ∀ b xs,H b = some (.tup xs) → H' b = some (.tup xs)
 frzs : ∀ b o u,H b = some (.frz o u) → H' b = some (.frz o u)
 tbls : ∀ b ps,H b = some (.tbl ps) → ∃ more,H' b = some (.tbl (ps ++ more))
section
variable {fs fs' ex ex' : List Addr} {H H1 H2 : Hp} {h h1 h2 h' : Heap} {a x e : Addr} {o : HO}
theorem Un.any (u : Un fs ex H H1 h h1) {b : Addr} {ob : Obj} (q : h.get? b = some ob) (n : H b = none) (hx : b ∉ ex) : ∃ sl,h1.get? b = some { ob with slots := sl } := by
 by_cases hb : b ∈ fs
 ·exact u.slot b ob q n hb hx
 ·exact ⟨ob.slots,u.keep b ob q n hb hx⟩
theorem Un.trans (a : Un fs ex H H1 h h1) (b : Un fs ex H1 H2 h1 h2) : Un fs ex H H2 h h2 where
 keep := fun c ob q n hc hx => b.keep c ob (a.keep c ob q n hc hx) (a.free c ob q n hx) hc hx
 slot := fun c ob q n hc hx => by
  obtain ⟨sl,e1⟩ := a.slot c ob q n hc hx
  obtain ⟨sl',e2⟩ := b.slot c _ e1 (a.free c ob q n hx) hc hx
  exact ⟨sl',e2⟩
 free := fun c ob q n hx => by
  obtain ⟨o',e1⟩ := a.there c ob q hx
  exact b.free c o' e1 (a.free c ob q n hx) hx
 there := fun c ob q hx => by
  obtain ⟨o',e1⟩ := a.there c ob q hx
  exact b.there c o' e1 hx
 tups := fun c xs q => b.tups c xs (a.tups c xs q)
 frzs := fun c ob xs q => b.frzs c ob xs (a.frzs c ob xs q)
 tbls := fun c ps q => by
  obtain ⟨m1,e1⟩ := a.tbls c ps q
  obtain ⟨m2,e2⟩ := b.tbls c _ e1
  exact ⟨m1 ++ m2,by rw [e2,Array.append_assoc]⟩
theorem Un.kept (k : ∀ b u,h.get? b = some u → h'.get? b = some u) : Un fs ex H H h h' :=
 ⟨fun b ob q _ _ _ => k b ob q,fun b ob q _ _ _ => ⟨ob.slots,k b ob q⟩,fun _ _ _ n _ => n,fun b ob q _ => ⟨ob,k b ob q⟩,fun _ _ q => q,fun _ _ _ q => q,fun _ ps q => ⟨#[],by rw [q]; simp⟩⟩
theorem Un.refl : Un fs ex H H h h := Un.kept fun _ _ q => q
theorem Un.laid (k : ∀ b u,h.get? b = some u → h'.get? b = some u) (hp : h.objs.size ≤ a) (hn : H a = none) : Un fs ex H (upd H a o) h h' where
 keep := fun b u q _ _ _ => k b u q
 slot := fun b u q _ _ _ => ⟨u.slots,k b u q⟩
 free := fun b u q n _ => by rw [upd_ne (Nat.ne_of_lt (Nat.lt_of_lt_of_le (Heap.lt_size q) hp))]; exact n
 there := fun b u q _ => ⟨u,k b u q⟩
 tups := fun b xs q => by rw [upd_ne (ne_of_none q hn)]; exact q
 frzs := fun b u xs q => by rw [upd_ne (ne_of_none q hn)]; exact q
 tbls := fun b ps q => ⟨#[],by rw [upd_ne (ne_of_none q hn),q]; simp⟩
theorem Un.write (mu : Mut (H x)) (he : e = x ∨ H e = some (.own x)) (k : ∀ b u,b ≠ e → h.get? b = some u → h'.get? b = some u) (heo : ∃ u,h'.get? e = some u) : Un fs ex H (upd H x o) h h' := by
 have hx : ∀ b,H b = none → b ≠ x := fun b n z => by subst z; rw [n] at mu; exact mu
 have hb : ∀ b,H b = none → b ≠ e := fun b n z => by
  subst z
  rcases he with r | r
  ·exact hx b n r
  ·rw [n] at r; cases r
 have hm : ∀ b u,H b = some u → ¬ Mut (some u) → b ≠ x := fun b u q nm z => by subst z; rw [q] at mu; exact nm mu
 refine ⟨fun b u q n _ _ => k b u (hb b n) q,fun b u q n _ _ => ⟨u.slots,k b u (hb b n) q⟩,fun b u q n _ => by rw [upd_ne (hx b n)]; exact n,fun b u q _ => ?_,
  fun b xs q => by rw [upd_ne (hm b _ q fun z => z)]; exact q,fun b u xs q => by rw [upd_ne (hm b _ q fun z => z)]; exact q,fun b ps q => ⟨#[],by rw [upd_ne (hm b _ q fun z => z),q]; simp⟩⟩
 by_cases hbe : b = e
 ·subst hbe; exact heo
 ·exact ⟨u,k b u hbe q⟩
theorem Un.mono (u : Un fs ex H H1 h h1) (hs : ∀ b ∈ fs,b ∈ fs') (hx : ∀ b ∈ ex,b ∈ ex') : Un fs' ex' H H1 h h1 :=
 ⟨fun b ob q n hb he => u.keep b ob q n (fun z => hb (hs b z)) fun z => he (hx b z),fun _ _ q n _ he => u.any q n fun z => he (hx _ z),fun b ob q n he => u.free b ob q n fun z => he (hx b z),fun b ob q he => u.there b ob q fun z => he (hx b z),u.tups,u.frzs,u.tbls⟩
end
noncomputable def trk (h : Heap) (H : Hp) : List Addr := (List.range h.objs.size).filter fun a => (H a).isSome
noncomputable def hidT (h : Heap) (H : Hp) : Heap := PySem.W.hideAll h (trk h H)
theorem hidT_size (h : Heap) (H : Hp) : (hidT h H).objs.size = h.objs.size := PySem.W.hideAll_size _ _
theorem hidT_get {h : Heap} {H : Hp} {b : Addr} {o : Obj} (e : h.get? b = some o) (n : H b = none) : (hidT h H).get? b = some o :=
 PySem.W.hideAll_get _ e fun hm => by
  have q : (H b).isSome = true := (List.mem_filter.mp hm).2
  rw [n] at q; simp at q
theorem of_hidT {h : Heap} {H : Hp} {b : Addr} {o : Obj} (e : (hidT h H).get? b = some o) : h.get? b = some o ∧ H b = none := by
 have e' : h.get? b = some o := PySem.W.of_hideAll (trk h H) e
 refine ⟨e',?_⟩
 cases q : H b with
 | none => rfl
 | some x =>
  have hm : b ∈ trk h H := List.mem_filter.mpr ⟨List.mem_range.mpr (Heap.lt_size e'),by simp [q]⟩
  have z : (hidT h H).get? b = none := PySem.W.hideAll_none (trk h H) hm
  rw [z] at e; cases e
noncomputable def allNews (g h : Heap) (L : Addr) : List (Addr × Obj) := (List.range h.objs.size).filterMap fun a => if a = L ∨ (g.get? a).isSome = true then none else (h.get? a).map fun o => (a,o)
noncomputable def rest (g h : Heap) (L d : Addr) : List (Addr × Obj) := (allNews g h L).filter fun p => decide (p.1 ≠ d)
end L2
namespace L2
open PySem PySem.Spec PyProof.Rows
structure Mod (K : PySem.W.Frag) (mg : Str → Option Value) (base : Heap) : Prop where
 kin : K.In base
 glob : base.Ns mainGlobals mg
 blt : ∃ mb,base.Ns builtinsNs mb ∧ ∀ x : Str,x ≠ "__name__" → mb x = bootBuiltins x
 nolimit : base.NoLimit
structure Cx where
 prog : Program
 w : World
 K : PySem.W.Frag
 mg : Str → Option Value
 base : Heap
 A : Around
 N : List Str
 s₀ : Shared
 H₀ : Hp
 env : Env
 outer : List Env
 stack : List Env
 ex : List Addr
 fn : Str → Bool
 calm : Bool
 pn : List (Addr × Obj)
 xe : Value → Shared → Prop
noncomputable def frs (l : List Env) : List Addr := l.filterMap (·.frame)
noncomputable abbrev Cx.fs (X : Cx) : List Addr := frs X.outer
noncomputable def Vis (sc : Scope) (x : Str) : Prop := sc.names.lookup x = some .local ∨ sc.names.lookup x = some .cell ∨ sc.names.lookup x = some .free
noncomputable def Loc (sc : Scope) (x : Str) : Prop := sc.names.lookup x = some .local ∨ sc.names.lookup x = some .cell
noncomputable def Look (env : Env) (h : Heap) (m : Str → Option Value) (x : Str) (u : Value) : Prop :=
 (env.kindOf x = some .local ∧ m x = some u) ∨ ((env.kindOf x = some .cell ∨ env.kindOf x = some .free) ∧ ∃ c,env.cells.lookup x = some c ∧ h.IsCell c (some u))
structure Cx.Ok (X : Cx) : Prop where
 mod : Mod X.K X.mg X.base
 kind : X.env.scope.kind = .function
 glob : X.env.globals = mainGlobals
 blt : X.env.builtins = builtinsNs
 above : X.s₀.heap.objs.size ≤ X.env.locals
 inj : ∀ x y c,X.env.cells.lookup x = some c → X.env.cells.lookup y = some c → x = y
 has : ∀ x,(X.env.kindOf x = some .cell ∨ X.env.kindOf x = some .free) → ∃ c,X.env.cells.lookup x = some c
 cab : ∀ x c,X.fn x = true → X.env.cells.lookup x = some c → X.s₀.heap.objs.size ≤ c
 hd : X.calm = true → X.A.handled = none
 frames : X.A.frames = some X.stack
 stk : X.stack = X.outer ∨ (X.stack = X.env :: X.outer ∧ X.env.frame = some X.env.locals)
 exf : ∀ b ∈ X.ex,b ≠ X.env.locals ∧ ∀ x c,X.env.cells.lookup x = some c → c ≠ b
 bs : ∀ b o,X.base.get? b = some o → X.s₀.heap.get? b = some o ∧ X.H₀ b = none
 bsz : X.base.objs.size ≤ X.s₀.heap.objs.size
 noex : ∀ b o,X.base.get? b = some o → b ∉ X.ex
 exfs : ∀ b ∈ X.ex,b ∉ X.fs
 funs : X.s₀.heap.FunFrames X.base X.outer
 frf : ∀ b ∈ X.fs,X.H₀ b = none
structure Inv (X : Cx) (pins : List (Addr × Obj)) (σ : List (Option V)) (H : Hp) (s : Shared) : Prop where
 ok : X.Ok
 os : s.os = X.s₀.os
 bare : AllBare s.gens
 base : Un X.fs X.ex X.H₀ H X.s₀.heap s.heap
 loc : ∃ m,s.heap.Ns X.env.locals m ∧ ∀ (i : Nat) (x : Str) (v : V),X.N[i]? = some x → σ[i]? = some (some v) → Vis X.env.scope x → ∃ u,RelV v u ∧ Look X.env s.heap m x u
 cell : ∀ x c,X.env.cells.lookup x = some c → ∃ v,s.heap.IsCell c v
 free : H X.env.locals = none
 freeC : ∀ x c,X.env.cells.lookup x = some c → H c = none
 pin : ∀ p ∈ X.pn ++ pins,s.heap.get? p.1 = some p.2 ∧ H p.1 = none ∧ p.1 ≠ X.env.locals ∧ p.1 ∉ X.fs ∧ ∀ v,p.2.data ≠ .cell v
 hok : HOk X.prog X.w H s.heap
 len : σ.length = X.N.length
section
variable {X : Cx} {pins : List (Addr × Obj)} {σ : List (Option V)} {H H' : Hp} {s : Shared} {h' : Heap}
theorem Cx.Ok.nofr (ok : X.Ok) {b : Addr} {o : Obj} (e : X.base.get? b = some o) : b ∉ X.fs := fun hb => by
 have := (ok.funs.mem hb).1
 rw [e] at this; cases this
theorem Inv.bs (I : Inv X pins σ H s) : ∀ b o,X.base.get? b = some o → s.heap.get? b = some o ∧ H b = none := fun b o e =>
 ⟨I.base.keep b o (I.ok.bs b o e).1 (I.ok.bs b o e).2 (I.ok.nofr e) (I.ok.noex b o e),I.base.free b o (I.ok.bs b o e).1 (I.ok.bs b o e).2 (I.ok.noex b o e)⟩
theorem Inv.bk (I : Inv X pins σ H s) : ∀ b o,X.base.get? b = some o → s.heap.get? b = some o := fun b o e => (I.bs b o e).1
theorem Inv.mod (I : Inv X pins σ H s) : Mod X.K X.mg X.base := I.ok.mod
theorem Inv.kIn (I : Inv X pins σ H s) : X.K.In s.heap := I.ok.mod.kin.keeps I.bk
theorem Inv.nolimit (I : Inv X pins σ H s) : s.heap.NoLimit := I.ok.mod.nolimit.keeps I.bk
theorem Inv.fr (I : Inv X pins σ H s) : ∃ m,Fr X.base X.env.locals s.heap m :=
 let ⟨m,hn,_⟩ := I.loc
 ⟨m,hn,I.bk,Nat.le_trans I.ok.bsz I.ok.above⟩
theorem Inv.lt (I : Inv X pins σ H s) : X.env.locals < s.heap.objs.size := let ⟨_,hn,_⟩ := I.loc; hn.lt
theorem Inv.sz (I : Inv X pins σ H s) : X.s₀.heap.objs.size ≤ s.heap.objs.size := Nat.le_trans I.ok.above (Nat.le_of_lt I.lt)
theorem Inv.nofs (I : Inv X pins σ H s) {a : Addr} (h : s.heap.objs.size ≤ a) : a ∉ X.fs := fun hb => by
 obtain ⟨_,o,ho,_⟩ := I.ok.funs.mem hb
 exact absurd (Nat.lt_of_lt_of_le (Heap.lt_size ho) (Nat.le_trans I.sz h)) (Nat.lt_irrefl _)
theorem Inv.cne (I : Inv X pins σ H s) : ∀ x c,X.env.cells.lookup x = some c → c ≠ X.env.locals := fun x c e z => by
 obtain ⟨v,o,ho,hd⟩ := I.cell x c e
 obtain ⟨m,⟨o',es,ep,ho',hd',_⟩,_⟩ := I.loc
 rw [z,ho'] at ho; cases ho; rw [hd'] at hd; cases hd
theorem Inv.funs (I : Inv X pins σ H s) : s.heap.FunFrames X.base X.outer := by
 have all : ∀ (l : List Env),(∀ b ∈ frs l,b ∈ X.fs) → X.s₀.heap.FunFrames X.base l → s.heap.FunFrames X.base l := by
  intro l
  induction l with
  | nil => intro _ _; trivial
  | cons env r ih =>
   intro hs hl
   obtain ⟨hk,⟨L,o,hf,hn,ho,hd⟩,hr⟩ := hl
   have hL : L ∈ X.fs := hs L (by unfold frs; rw [List.filterMap_cons,hf]; exact List.mem_cons_self)
   obtain ⟨sl,e⟩ := I.base.slot L o ho (I.ok.frf L hL) hL fun z => I.ok.exfs L z hL
   exact ⟨hk,⟨L,_,hf,hn,e,hd⟩,ih (fun b hb => hs b (by unfold frs; rw [List.filterMap_cons,hf]; exact List.mem_cons_of_mem _ hb)) hr⟩
 exact all X.outer (fun _ hb => hb) I.ok.funs
theorem Inv.stack (I : Inv X pins σ H s) : s.heap.FunFrames X.base X.stack := by
 rcases I.ok.stk with e | ⟨e,hf⟩
 ·rw [e]; exact I.funs
 ·rw [e]
  obtain ⟨m,hn,_⟩ := I.loc
  refine .cons (by rw [I.ok.kind]; decide) hf hn ?_ I.funs
  exact Heap.get?_none_of_le (Nat.le_trans I.ok.bsz I.ok.above)
theorem Inv.stkSub (I : Inv X pins σ H s) : ∀ b ∈ frs X.stack,b ∈ X.env.locals :: X.fs := fun b hb => by
 rcases I.ok.stk with e | ⟨e,hf⟩
 ·rw [e] at hb; exact List.mem_cons_of_mem _ hb
 ·rw [e] at hb
  unfold frs at hb
  rw [List.filterMap_cons,hf] at hb
  exact hb
theorem Inv.stkFree (I : Inv X pins σ H s) : ∀ b ∈ frs X.stack,H b = none := fun b hb => by
 rcases List.mem_cons.mp (I.stkSub b hb) with e | hb
 ·rw [e]; exact I.free
 ·obtain ⟨_,o,ho,_⟩ := I.ok.funs.mem hb
  exact I.base.free b o ho (I.ok.frf b hb) fun z => I.ok.exfs b z hb
theorem Inv.step {g' : Array GenState} {t' : Nat} {d' : Drawn} {ch : List Addr} (I : Inv X pins σ H s)
  (hch : ∀ b ∈ ch,(b ∈ X.ex ∨ X.s₀.heap.objs.size ≤ b) ∧ b ≠ X.env.locals ∧ (∀ x c,X.env.cells.lookup x = some c → c ≠ b) ∧ ∀ p ∈ X.pn ++ pins,p.1 ≠ b)
  (keep : ∀ b o,b ≠ X.env.locals → b ∉ X.fs → b ∉ ch → s.heap.get? b = some o → H b = none → h'.get? b = some o)
  (slot : ∀ b o,b ≠ X.env.locals → b ∈ X.fs → b ∉ ch → s.heap.get? b = some o → H b = none → ∃ sl,h'.get? b = some { o with slots := sl }) (free : ∀ b o,b ∉ ch → s.heap.get? b = some o → H b = none → H' b = none)
  (there : ∀ b o,b ∉ ch → s.heap.get? b = some o → ∃ o',h'.get? b = some o')
  (tups : ∀ b xs,H b = some (.tup xs) → H' b = some (.tup xs)) (frzs : ∀ b o u,H b = some (.frz o u) → H' b = some (.frz o u)) (tbls : ∀ b ps,H b = some (.tbl ps) → ∃ more,H' b = some (.tbl (ps ++ more)))
  (ns : ∀ m,s.heap.Ns X.env.locals m → h'.Ns X.env.locals m) (hok : HOk X.prog X.w H' h') (hg : AllBare g') :
  Inv X pins σ H' { s with heap := h',gens := g',drawn := d',toks := t' } := by
 have neL : ∀ b o,X.s₀.heap.get? b = some o → b ≠ X.env.locals := fun b o e => Nat.ne_of_lt (Nat.lt_of_lt_of_le (Heap.lt_size e) I.ok.above)
 have neC : ∀ b o,X.s₀.heap.get? b = some o → b ∉ X.ex → b ∉ ch := fun b o e hx hb => by
  rcases (hch b hb).1 with z | z
  ·exact hx z
  ·exact absurd (Nat.lt_of_lt_of_le (Heap.lt_size e) z) (Nat.lt_irrefl _)
 have cellK : ∀ x c,X.env.cells.lookup x = some c → ∀ v,s.heap.IsCell c v → h'.IsCell c v := fun x c e v ⟨o,ho,hd⟩ => by
  have nch : c ∉ ch := fun z => (hch c z).2.2.1 x c e rfl
  by_cases hc : c ∈ X.fs
  ·obtain ⟨sl,q⟩ := slot c o (I.cne x c e) hc nch ho (I.freeC x c e)
   exact ⟨_,q,hd⟩
  ·exact ⟨o,keep c o (I.cne x c e) hc nch ho (I.freeC x c e),hd⟩
 refine ⟨I.ok,I.os,hg,⟨fun b o e n hb hx => ?_,fun b o e n hb hx => ?_,fun b o e n hx => ?_,fun b o e hx => ?_,fun b xs e => tups b xs (I.base.tups b xs e),fun b o xs e => frzs b o xs (I.base.frzs b o xs e),fun b ps e => ?_⟩,?_,fun x c e => ?_,?_,fun x c e => ?_,fun p hp => ?_,hok,I.len⟩
 ·exact keep b o (neL b o e) hb (neC b o e hx) (I.base.keep b o e n hb hx) (I.base.free b o e n hx)
 ·obtain ⟨sl,e1⟩ := I.base.slot b o e n hb hx
  obtain ⟨sl',e2⟩ := slot b _ (neL b o e) hb (neC b o e hx) e1 (I.base.free b o e n hx)
  exact ⟨sl',e2⟩
 ·obtain ⟨o',e1⟩ := I.base.there b o e hx
  exact free b o' (neC b o e hx) e1 (I.base.free b o e n hx)
 ·obtain ⟨o',e1⟩ := I.base.there b o e hx
  exact there b o' (neC b o e hx) e1
 ·obtain ⟨m1,e1⟩ := I.base.tbls b ps e
  obtain ⟨m2,e2⟩ := tbls b _ e1
  exact ⟨m1 ++ m2,by rw [e2,Array.append_assoc]⟩
 ·obtain ⟨m,hn,hl⟩ := I.loc
  refine ⟨m,ns m hn,fun i x v e1 e2 e3 => ?_⟩
  obtain ⟨u,r,l⟩ := hl i x v e1 e2 e3
  refine ⟨u,r,?_⟩
  rcases l with l | ⟨k,c,e,z⟩
  ·exact .inl l
  ·exact .inr ⟨k,c,e,cellK x c e _ z⟩
 ·obtain ⟨v,z⟩ := I.cell x c e
  exact ⟨v,cellK x c e v z⟩
 ·obtain ⟨m,⟨o,_,_,ho,_⟩,_⟩ := I.loc
  exact free _ o (fun z => (hch _ z).2.1 rfl) ho I.free
 ·obtain ⟨v,o,ho,hd⟩ := I.cell x c e
  exact free c o (fun z => (hch c z).2.2.1 x c e rfl) ho (I.freeC x c e)
 ·obtain ⟨e,n,ne,nf,d⟩ := I.pin p hp
  have nch : p.1 ∉ ch := fun z => (hch p.1 z).2.2.2 p hp rfl
  exact ⟨keep p.1 p.2 ne nf nch e n,free p.1 p.2 nch e n,ne,nf,d⟩
theorem Inv.un {t' : Nat} (I : Inv X pins σ H s) (u : Un X.fs [] H H' s.heap h') (hok : HOk X.prog X.w H' h') : Inv X pins σ H' { s with heap := h',toks := t' } := by
 obtain ⟨m,⟨o,es,ep,ho,r⟩,_⟩ := id I.loc
 obtain ⟨sl,hL⟩ := u.any ho I.free (by simp)
 exact I.step (g' := s.gens) (d' := s.drawn) (ch := []) (fun _ z => nomatch z) (fun b o _ hb _ e n => u.keep b o e n hb (by simp)) (fun b o _ hb _ e n => u.slot b o e n hb (by simp)) (fun b o _ e n => u.free b o e n (by simp)) (fun b o _ e => u.there b o e (by simp)) u.tups u.frzs u.tbls (fun m' hm => by
  obtain ⟨o',es',ep',ho',r'⟩ := hm
  rw [ho] at ho'; cases ho'
  exact ⟨_,es',ep',hL,r'⟩) hok I.bare
theorem Inv.call {g' : Array GenState} {t' : Nat} {d' : Drawn} {ch : List Addr} (I : Inv X pins σ H s) (u : Un (frs X.stack) ch H H' s.heap h') (hok : HOk X.prog X.w H' h') (hg : AllBare g')
  (hch : ∀ b ∈ ch,(b ∈ X.ex ∨ X.s₀.heap.objs.size ≤ b) ∧ b ≠ X.env.locals ∧ (∀ x c,X.env.cells.lookup x = some c → c ≠ b) ∧ ∀ p ∈ X.pn ++ pins,p.1 ≠ b) :
  Inv X pins σ H' { s with heap := h',gens := g',drawn := d',toks := t' } := by
 obtain ⟨m,⟨o,es,ep,ho,r⟩,_⟩ := id I.loc
 obtain ⟨sl,hL⟩ := u.any ho I.free fun z => (hch _ z).2.1 rfl
 exact I.step (ch := ch) hch (fun b o hL hb hc e n => u.keep b o e n (fun z => (List.mem_cons.mp (I.stkSub b z)).elim hL hb) hc) (fun b o _ _ hc e n => u.any e n hc) (fun b o hc e n => u.free b o e n hc) (fun b o hc e => u.there b o e hc) u.tups u.frzs u.tbls (fun m' hm => by
  obtain ⟨o',es',ep',ho',r'⟩ := hm
  rw [ho] at ho'; cases ho'
  exact ⟨_,es',ep',hL,r'⟩) hok hg
theorem Inv.turned {t' : Nat} {it : Addr} (I : Inv X pins σ H s) (k : ∀ b o,b ≠ it → s.heap.get? b = some o → h'.get? b = some o) (hn : H it = none) (hL : it ≠ X.env.locals)
  (h1 : it ∈ X.ex ∨ X.s₀.heap.objs.size ≤ it) (h2 : ∀ x c,X.env.cells.lookup x = some c → c ≠ it) (h3 : ∀ p ∈ X.pn ++ pins,p.1 ≠ it) : Inv X pins σ H { s with heap := h',toks := t' } := by
 have nit : ∀ b u,H b = some u → b ≠ it := fun b u e z => by rw [z,hn] at e; cases e
 refine I.step (g' := s.gens) (d' := s.drawn) (ch := [it]) (fun b hb => ?_) (fun b o _ _ hc e _ => k b o (fun z => hc (by simp [z])) e) (fun b o _ _ hc e _ => ⟨o.slots,k b o (fun z => hc (by simp [z])) e⟩) (fun _ _ _ _ n => n)
  (fun b o hc e => ⟨o,k b o (fun z => hc (by simp [z])) e⟩) (fun _ _ e => e) (fun _ _ _ e => e) (fun b ps e => ⟨#[],by rw [e]; simp⟩) (fun m hm => ?_) (fun b u e => ?_) I.bare
 ·have e : b = it := by simpa using hb
  subst e
  exact ⟨h1,hL,h2,h3⟩
 ·obtain ⟨o,es,ep,ho,r⟩ := hm
  exact ⟨o,es,ep,k _ o (Ne.symm hL) ho,r⟩
 ·refine (I.hok b u e).stay (fun c v hc q => k c v ?_ q) (fun _ q => q) fun _ _ q => q
  rcases hc with z | z
  ·rw [z]; exact nit b u e
  ·exact nit c _ z
theorem Inv.tok (I : Inv X pins σ H s) (t : Nat) : Inv X pins σ H { s with toks := t } := I.un (h' := s.heap) (t' := t) Un.refl I.hok
theorem Inv.kept {t' : Nat} (I : Inv X pins σ H s) (k : ∀ b u,s.heap.get? b = some u → h'.get? b = some u) : Inv X pins σ H { s with heap := h',toks := t' } := I.un (Un.kept k) (I.hok.kept k)
theorem Inv.laid {a : Addr} {o : HO} {t' : Nat} (I : Inv X pins σ H s) (k : ∀ b u,s.heap.get? b = some u → h'.get? b = some u) (hp : s.heap.objs.size ≤ a) (new : ObjOk X.prog X.w (upd H a o) h' a o) :
  Inv X pins σ (upd H a o) { s with heap := h',toks := t' } := I.un (Un.laid k hp (I.hok.fresh hp)) (I.hok.laid k hp new)
theorem Inv.write {x e : Addr} {o : HO} {t' : Nat} (I : Inv X pins σ H s) (mu : Mut (H x)) (he : e = x ∨ H e = some (.own x)) (k : ∀ b u,b ≠ e → s.heap.get? b = some u → h'.get? b = some u) (heo : ∃ u,h'.get? e = some u)
  (new : ObjOk X.prog X.w (upd H x o) h' x o) : Inv X pins σ (upd H x o) { s with heap := h',toks := t' } := I.un (Un.write mu he k heo) (I.hok.write mu he k heo new)
theorem Inv.weak {σ' : List (Option V)} (I : Inv X pins σ H s) (hl : σ'.length = σ.length) (w : ∀ (i : Nat) v,σ'[i]? = some (some v) → σ[i]? = some (some v)) : Inv X pins σ' H s :=
 ⟨I.ok,I.os,I.bare,I.base,let ⟨m,hn,hl'⟩ := I.loc; ⟨m,hn,fun i x v e1 e2 e3 => hl' i x v e1 (w i v e2) e3⟩,I.cell,I.free,I.freeC,I.pin,I.hok,hl.trans I.len⟩
theorem Inv.pins_of {pins' : List (Addr × Obj)} (I : Inv X pins σ H s) (h : ∀ p ∈ pins',s.heap.get? p.1 = some p.2 ∧ H p.1 = none ∧ p.1 ≠ X.env.locals ∧ p.1 ∉ X.fs ∧ ∀ v,p.2.data ≠ .cell v) : Inv X pins' σ H s :=
 ⟨I.ok,I.os,I.bare,I.base,I.loc,I.cell,I.free,I.freeC,fun p hp => (List.mem_append.mp hp).elim (fun z => I.pin p (List.mem_append_left _ z)) (h p),I.hok,I.len⟩
theorem nodup_ix {N : List Str} (hN : N.Nodup) {i j : Nat} {x : Str} (a : N[i]? = some x) (b : N[j]? = some x) : i = j := by
 obtain ⟨h1,e1⟩ := List.getElem?_eq_some_iff.mp a
 obtain ⟨h2,e2⟩ := List.getElem?_eq_some_iff.mp b
 exact (List.getElem_inj hN).mp (e1.trans e2.symm)
theorem store_ok2 {M : Model} {A : Around} {E : Value → Shared → Prop} {i : Nat} {x : Str} {v : V} {u : Value} {Q : Unit → Shared → Prop} (I : Inv X pins σ H s) (hN : X.N.Nodup) (hi : X.N[i]? = some x) (hx : Loc X.env.scope x) (r : RelV v u)
  (h : ∀ s',Inv X pins (σ.set i (some v)) H s' → (∃ a,Heap.SameBut a s.heap s'.heap ∧ (a = X.env.locals ∨ X.env.cells.lookup x = some a)) → Q () s') (hf : X.fn x = true ∨ X.env.scope.names.lookup x = some .local := by first | exact .inl rfl | exact .inr rfl | assumption) : wpAny M A (storeName X.env x u) Q E s := by
 obtain ⟨m,hn,hl⟩ := id I.loc
 have hcls : (X.env.scope.kind == .class || (X.env.scope.kind == .module && X.env.locals != X.env.globals)) = false := by rw [I.ok.kind]; rfl
 have hiσ : i < σ.length := by rw [I.len]; exact (List.getElem?_eq_some_iff.mp hi).1
 have cne := I.cne
 have tracked : ∀ {a : Addr} {h' : Heap},(∃ o,s.heap.get? a = some o ∧ H a = none) → Heap.SameBut a s.heap h' → HOk X.prog X.w H h' := fun {a h'} ha hs b ob e => by
  obtain ⟨_,_,hfree⟩ := ha
  refine (I.hok b ob e).stay (fun c w' hc q => (hs.2 c ?_).trans q) (fun _ q => q) fun _ _ q => q
  rintro rfl
  rcases hc with rfl | hc
  ·rw [hfree] at e; cases e
  ·rw [hfree] at hc; cases hc
 rcases hx with hk | hk
 ·refine wpAny_storeName_local hk hn (fun h' hn' hs => ?_) hcls
  obtain ⟨oL,_,_,hoL,_⟩ := id hn
  refine h _ ⟨I.ok,I.os,I.bare,⟨fun b o e n hb hx => ?_,fun b o e n hb hx => ?_,I.base.free,fun b o e hx => ?_,I.base.tups,I.base.frzs,I.base.tbls⟩,⟨_,hn',fun j y v' e1 e2 e3 => ?_⟩,fun y c e => ?_,I.free,I.freeC,fun p hp => ?_,tracked ⟨oL,hoL,I.free⟩ hs,by simpa using I.len⟩ ⟨_,hs,.inl rfl⟩
  ·exact (hs.2 b (Nat.ne_of_lt (Nat.lt_of_lt_of_le (Heap.lt_size e) I.ok.above))).trans (I.base.keep b o e n hb hx)
  ·obtain ⟨sl,e1⟩ := I.base.slot b o e n hb hx
   exact ⟨sl,(hs.2 b (Nat.ne_of_lt (Nat.lt_of_lt_of_le (Heap.lt_size e) I.ok.above))).trans e1⟩
  ·obtain ⟨o',e1⟩ := I.base.there b o e hx
   exact ⟨o',(hs.2 b (Nat.ne_of_lt (Nat.lt_of_lt_of_le (Heap.lt_size e) I.ok.above))).trans e1⟩
  ·by_cases hj : j = i
   ·subst hj
    rw [hi] at e1; cases e1
    rw [List.getElem?_set_self hiσ] at e2
    cases e2
    exact ⟨u,r,.inl ⟨hk,by simp⟩⟩
   ·rw [List.getElem?_set_ne (Ne.symm hj)] at e2
    obtain ⟨u',r',q⟩ := hl j y v' e1 e2 e3
    refine ⟨u',r',?_⟩
    rcases q with ⟨k,e⟩ | ⟨k,c,e,z⟩
    ·refine .inl ⟨k,?_⟩
     have : y ≠ x := fun e => hj (nodup_ix hN e1 (e ▸ hi))
     simp [this,e]
    ·exact .inr ⟨k,c,e,z.sameBut hs (cne y c e)⟩
  ·obtain ⟨w',z⟩ := I.cell y c e
   exact ⟨w',z.sameBut hs (cne y c e)⟩
  ·obtain ⟨e,n,ne,nf,d⟩ := I.pin p hp
   exact ⟨(hs.2 p.1 ne).trans e,n,ne,nf,d⟩
 ·have hfn : X.fn x = true := by
   rcases hf with z | z
   ·exact z
   ·rw [z] at hk; cases hk
  obtain ⟨c,hc⟩ := I.ok.has x (.inl hk)
  obtain ⟨w',z⟩ := I.cell x c hc
  refine wpAny_storeName_cell I.ok.kind hk hc z (fun h' hc' hs => ?_)
  obtain ⟨oc,hoc,hocd⟩ := id z
  refine h { s with heap := h' } ⟨I.ok,I.os,I.bare,⟨fun b o e n hb hx => ?_,fun b o e n hb hx => ?_,I.base.free,fun b o e hx => ?_,I.base.tups,I.base.frzs,I.base.tbls⟩,⟨m,hn.sameBut hs (Ne.symm (cne x c hc)),fun j y v' e1 e2 e3 => ?_⟩,fun y c' e => ?_,I.free,I.freeC,fun p hp => ?_,tracked ⟨oc,hoc,I.freeC x c hc⟩ hs,by simpa using I.len⟩ ⟨c,hs,.inr hc⟩
  ·exact (hs.2 b (Nat.ne_of_lt (Nat.lt_of_lt_of_le (Heap.lt_size e) (I.ok.cab x c hfn hc)))).trans (I.base.keep b o e n hb hx)
  ·obtain ⟨sl,e1⟩ := I.base.slot b o e n hb hx
   exact ⟨sl,(hs.2 b (Nat.ne_of_lt (Nat.lt_of_lt_of_le (Heap.lt_size e) (I.ok.cab x c hfn hc)))).trans e1⟩
  ·obtain ⟨o',e1⟩ := I.base.there b o e hx
   exact ⟨o',(hs.2 b (Nat.ne_of_lt (Nat.lt_of_lt_of_le (Heap.lt_size e) (I.ok.cab x c hfn hc)))).trans e1⟩
  ·by_cases hj : j = i
   ·subst hj
    rw [hi] at e1; cases e1
    rw [List.getElem?_set_self hiσ] at e2
    cases e2
    exact ⟨u,r,.inr ⟨.inl hk,c,hc,hc'⟩⟩
   ·rw [List.getElem?_set_ne (Ne.symm hj)] at e2
    obtain ⟨u',r',q⟩ := hl j y v' e1 e2 e3
    refine ⟨u',r',?_⟩
    rcases q with q | ⟨k,c',e,z'⟩
    ·exact .inl q
    ·refine .inr ⟨k,c',e,z'.sameBut hs ?_⟩
     rintro rfl
     exact hj (nodup_ix hN e1 (I.ok.inj _ _ _ e hc ▸ hi))
  ·by_cases hcc : c' = c
   ·subst hcc; exact ⟨_,hc'⟩
   ·obtain ⟨w2,z2⟩ := I.cell y c' e
    exact ⟨w2,z2.sameBut hs hcc⟩
  ·obtain ⟨e,n,ne,nf,d⟩ := I.pin p hp
   refine ⟨(hs.2 p.1 ?_).trans e,n,ne,nf,d⟩
   intro q
   rw [q,hoc] at e
   have q' : oc = p.2 := Option.some.inj e
   exact d w' (by rw [← q']; exact hocd)
theorem store_ok {M : Model} {A : Around} {E : Value → Shared → Prop} {i : Nat} {x : Str} {v : V} {u : Value} {Q : Unit → Shared → Prop} (I : Inv X pins σ H s) (hN : X.N.Nodup) (hi : X.N[i]? = some x) (hx : Loc X.env.scope x) (r : RelV v u)
  (h : ∀ s',Inv X pins (σ.set i (some v)) H s' → Q () s') (hf : X.fn x = true ∨ X.env.scope.names.lookup x = some .local := by first | exact .inl rfl | exact .inr rfl | assumption) : wpAny M A (storeName X.env x u) Q E s :=
 store_ok2 I hN hi hx r (fun s' I' _ => h s' I') hf
theorem Inv.call' {s' : Shared} {ch : List Addr} (I : Inv X pins σ H s) (ho : s'.os = s.os) (u : Un (frs X.stack) ch H H' s.heap s'.heap) (hok : HOk X.prog X.w H' s'.heap) (hg : AllBare s'.gens)
  (hch : ∀ b ∈ ch,(b ∈ X.ex ∨ X.s₀.heap.objs.size ≤ b) ∧ b ≠ X.env.locals ∧ (∀ x c,X.env.cells.lookup x = some c → c ≠ b) ∧ ∀ p ∈ X.pn ++ pins,p.1 ≠ b) : Inv X pins σ H' s' := by
 obtain ⟨h',g',d',t',o'⟩ := s'
 have e : o' = s.os := ho
 subst e
 exact I.call (g' := g') (t' := t') (d' := d') u hok hg hch
end
noncomputable abbrev XK := Value → Option Addr → Hp → Prop
noncomputable abbrev St := List (Option V)
noncomputable abbrev VK := V → Hp → Prop
noncomputable abbrev TE := St → Hp → VK → Prop
noncomputable abbrev TT := St → Hp → (Bool → Hp → Prop) → Prop
noncomputable abbrev TA := St → Hp → (List V → Hp → Prop) → Prop
structure Ends where
 nx : St → Hp → Prop
 rt : VK
 bk : St → Hp → Prop := fun _ _ => False
 ct : St → Hp → Prop := fun _ _ => False
noncomputable abbrev TS := Ends → St → Hp → Prop
noncomputable def EP (X : Cx) (pins : List (Addr × Obj)) (σ : St) (Q : VK) (u : Value) (s' : Shared) : Prop := ∃ v H',Inv X pins σ H' s' ∧ RelV v u ∧ Q v H'
noncomputable def TP (X : Cx) (pins : List (Addr × Obj)) (σ : St) (Q : Bool → Hp → Prop) (b : Bool) (s' : Shared) : Prop := ∃ H',Inv X pins σ H' s' ∧ Q b H'
noncomputable def AP (X : Cx) (pins : List (Addr × Obj)) (σ : St) (Q : List V → Hp → Prop) (us : List Value) (s' : Shared) : Prop := ∃ vs H',Inv X pins σ H' s' ∧ Vals vs us ∧ Q vs H'
noncomputable def SP (X : Cx) (pins : List (Addr × Obj)) (D : Ends) (f : Flow) (s' : Shared) : Prop :=
 match f with
 | .next => ∃ σ' H',Inv X pins σ' H' s' ∧ D.nx σ' H'
 | .brk => ∃ σ' H',Inv X pins σ' H' s' ∧ D.bk σ' H'
 | .cont => ∃ σ' H',Inv X pins σ' H' s' ∧ D.ct σ' H'
 | .ret u => ∃ v σ' H',Inv X pins σ' H' s' ∧ RelV v u ∧ D.rt v H'
noncomputable def PE (X : Cx) (e : Expr) (t : TE) : Prop :=
 ∀ (pins : List (Addr × Obj)) (s : Shared) (σ : St) (H : Hp) (Q : VK),Inv X pins σ H s → t σ H Q → wpAny (model X.prog X.w) X.A (eval e X.env) (EP X pins σ Q) X.xe s
noncomputable def PT (X : Cx) (e : Expr) (t : TT) : Prop :=
 ∀ (pins : List (Addr × Obj)) (s : Shared) (σ : St) (H : Hp) (Q : Bool → Hp → Prop),Inv X pins σ H s → t σ H Q → wpAny (model X.prog X.w) X.A (isTrue e X.env (eval e X.env)) (TP X pins σ Q) X.xe s
noncomputable def PW (X : Cx) (e : Expr) (t : TT) : Prop :=
 ∀ (whole : Sem Value) (pins : List (Addr × Obj)) (s : Shared) (σ : St) (H : Hp) (Q : Bool → Hp → Prop),Inv X pins σ H s → t σ H Q → wpAny (model X.prog X.w) X.A (isTrue e X.env whole) (TP X pins σ Q) X.xe s
theorem PW.pt {X : Cx} {e : Expr} {t : TT} (h : PW X e t) : PT X e t := h _
noncomputable def PA (X : Cx) (es : List Expr) (t : TA) : Prop :=
 ∀ (pos : Pos) (pins : List (Addr × Obj)) (s : Shared) (σ : St) (H : Hp) (Q : List V → Hp → Prop),Inv X pins σ H s → t σ H Q → wpAny (model X.prog X.w) X.A (spliced (backTo pos (starEach es X.env))) (AP X pins σ Q) X.xe s
noncomputable def PS (X : Cx) (st : Stmt) (t : TS) : Prop :=
 ∀ (pins : List (Addr × Obj)) (s : Shared) (σ : St) (H : Hp) (D : Ends),Inv X pins σ H s → t D σ H → wpAny (model X.prog X.w) X.A (exec st X.env) (SP X pins D) X.xe s
noncomputable def PSs (X : Cx) (st : List Stmt) (t : TS) : Prop :=
 ∀ (pins : List (Addr × Obj)) (s : Shared) (σ : St) (H : Hp) (D : Ends),Inv X pins σ H s → t D σ H → wpAny (model X.prog X.w) X.A (execs st X.env) (SP X pins D) X.xe s
theorem thn {α : Type} {t : Sem α} {Q Q' : α → Shared → Prop} {M : Model} {A : Around} {E : Value → Shared → Prop} {s : Shared} (h : wpAny M A t Q E s) (hQ : ∀ a s,Q a s → Q' a s) : wpAny M A t Q' E s := wpAny_mono h hQ fun _ _ x => x
end L2
namespace L2
open PySem PySem.Spec PyProof.Rows
section
variable {X : Cx}
noncomputable def tVar (i : Nat) : TE := fun σ H Q => ∃ v,σ[i]? = some (some v) ∧ Q v H
noncomputable def tC (v : V) : TE := fun _ H Q => Q v H
theorem pe_var {i : Nat} {x : Str} {pos : Pos} (hN : X.N[i]? = some x) (hv : Vis X.env.scope x) (hd : (x == ("__debug__" : Str)) = false := by decide) (hcd : (x == ("__classdict__" : Str)) = false := by decide) : PE X (.Name x pos) (tVar i) := by
 intro pins s σ H Q I h
 obtain ⟨v,e,h⟩ := h
 obtain ⟨m,hn,hl⟩ := I.loc
 obtain ⟨u,r,l⟩ := hl i x v hN e hv
 have fin : EP X pins σ Q u s := ⟨v,H,I,r,h⟩
 rcases l with ⟨hk,hm⟩ | ⟨hk,c,hc,hcell⟩
 ·exact wpAny_Name (wpAny_loadName_local I.ok.kind hk hn hm fin) hd
 ·rcases hk with hk | hk
  ·exact wpAny_Name (wpAny_loadName_cell I.ok.kind hk hc hcell fin) hd
  ·exact wpAny_Name (wpAny_loadName_free I.ok.kind hk hc hcell fin hcd) hd
theorem pe_int {i j pos} : PE X (.Constant (.int i) j pos) (tC (.int i)) := fun _ _ _ H _ I h => wpAny_Constant_int ⟨.int i,H,I.tok _,⟨_,rfl⟩,h⟩
theorem pe_bl {b j pos} : PE X (.Constant (.bool b) j pos) (tC (.bl b)) := fun _ _ _ H _ I h => Constant_bool ⟨.bl b,H,I,rfl,h⟩
theorem pe_non {j pos} : PE X (.Constant .none j pos) (tC .non) := fun _ _ _ H _ I h => Constant_none ⟨.non,H,I,rfl,h⟩
theorem pe_str {x j pos} : PE X (.Constant (.str x) j pos) (tC (.str x)) := fun _ _ _ H _ I h => Calls.Constant_str ⟨.str x,H,I.tok _,⟨_,rfl⟩,h⟩
noncomputable def Gl (X : Cx) (x : Str) : Prop := X.env.kindOf x = some .globalImplicit
theorem ld_glob {E : Value → Shared → Prop} {pins : List (Addr × Obj)} {s : Shared} {σ : St} {H : Hp} {x : Str} {u : Value} {pos : Pos} {Q : Value → Shared → Prop} (I : Inv X pins σ H s) (hg : Gl X x) (hm : X.mg x = some u) (h : Q u s)
  (hd : (x == ("__debug__" : Str)) = false := by decide) : wpAny (model X.prog X.w) X.A (eval (.Name x pos) X.env) Q E s :=
 Calls.Name_function_global I.ok.kind hg (Calls.loadGlobal_global (by rw [I.ok.glob]; exact I.mod.glob.keeps I.bk) hm h) hd
theorem ld_blt {E : Value → Shared → Prop} {pins : List (Addr × Obj)} {s : Shared} {σ : St} {H : Hp} {x : Str} {u : Value} {pos : Pos} {Q : Value → Shared → Prop} (I : Inv X pins σ H s) (hg : Gl X x) (hm : X.mg x = none) (hv : bootBuiltins x = some u) (h : Q u s)
  (hn : x ≠ "__name__" := by decide) (hd : (x == ("__debug__" : Str)) = false := by decide) : wpAny (model X.prog X.w) X.A (eval (.Name x pos) X.env) Q E s := by
 obtain ⟨mb,h1,h2⟩ := I.mod.blt
 exact Calls.Name_function_global I.ok.kind hg (Calls.loadGlobal_builtin (by rw [I.ok.glob]; exact I.mod.glob.keeps I.bk) hm (by rw [I.ok.blt]; exact h1.keeps I.bk) ((h2 x hn).trans hv) h) hd
theorem pe_glob {x : Str} {v : V} {u : Value} {pos : Pos} (hg : Gl X x) (hm : X.mg x = some u) (r : RelV v u) (hd : (x == ("__debug__" : Str)) = false := by decide) : PE X (.Name x pos) (tC v) :=
 fun _ _ _ H _ I h => ld_glob I hg hm ⟨v,H,I,r,h⟩ hd
theorem pe_bltn {x : Str} {v : V} {u : Value} {pos : Pos} (hg : Gl X x) (hm : X.mg x = none) (hv : bootBuiltins x = some u) (r : RelV v u) (hn : x ≠ "__name__" := by decide) (hd : (x == ("__debug__" : Str)) = false := by decide) : PE X (.Name x pos) (tC v) :=
 fun _ _ _ H _ I h => ld_blt I hg hm hv ⟨v,H,I,r,h⟩ hn hd
variable {a b : Expr} {ta tb : TE} {pos : Pos}
noncomputable def PC (X : Cx) (op : CmpOp) (a b : Expr) (t : TE) : Prop :=
 ∀ (pins : List (Addr × Obj)) (s : Shared) (σ : St) (H : Hp) (Q : VK),Inv X pins σ H s → t σ H Q →
  wpAny (model X.prog X.w) X.A (eval a X.env) (fun v s₁ => wpAny (model X.prog X.w) X.A (eval b X.env) (fun u s₂ => wpAny (model X.prog X.w) X.A (compareOp op v u) (EP X pins σ Q) X.xe s₂) X.xe s₁) X.xe s
theorem nobehind (b : Expr) {op : CmpOp} (h : op ≠ .In) (h2 : op ≠ .NotIn) : behindInMarks op b = false := by
 have e1 : (op == CmpOp.In) = false := by cases op <;> first | rfl | exact absurd rfl h
 have e2 : (op == CmpOp.NotIn) = false := by cases op <;> first | rfl | exact absurd rfl h2
 cases b <;> simp [behindInMarks,e1,e2]
noncomputable def tIsN (ta : TE) : TE := fun σ H Q => ta σ H fun x H1 => Q (.bl (decide (x = .non))) H1
theorem RelV.none_iff {x : V} {v : Value} (r : RelV x v) : (v == Value.none) = decide (x = .non) := by
 cases x with
 | non => cases r; rfl
 | bl _ => cases r; rfl
 | int _ => obtain ⟨t,rfl⟩ := r; rfl
 | str _ => obtain ⟨t,rfl⟩ := r; rfl
 | byt _ => obtain ⟨t,rfl⟩ := r; rfl
 | flt _ => obtain ⟨t,rfl⟩ := r; rfl
 | ref _ => cases r; rfl
 | ty _ => cases r; rfl
theorem pc_isN {j pos'} (ha : PE X a ta) : PC X .Is a (.Constant .none j pos') (tIsN ta) := by
 intro pins s σ H Q I h
 refine thn (ha pins s σ H _ I h) fun v s1 ⟨x,H1,I1,r1,q1⟩ => ?_
 exact Constant_none (is_none_gen ⟨.bl _,H1,I1,by rw [r1.none_iff]; rfl,q1⟩)
noncomputable def tB (t : TE) : TT := fun σ H Q => t σ H fun x H1 => ∃ c,x = .bl c ∧ Q c H1
theorem pe_cmp {op : CmpOp} {t : TE} (h : PC X op a b t) (h1 : behindInMarks op b = false := by first | exact nobehind _ (by decide) (by decide) | rfl) : PE X (.Compare a [op] [b] pos) t := fun pins s σ H Q I hw => wpAny_Compare1 (h pins s σ H Q I hw) h1
theorem pt_cmp {op : CmpOp} {t : TE} (h : PC X op a b t) (h1 : behindInMarks op b = false := by first | exact nobehind _ (by decide) (by decide) | rfl) : PT X (.Compare a [op] [b] pos) (tB t) := by
 intro pins s σ H Q I hw
 refine wpAny_isTrue_Compare1 (thn (h pins s σ H _ I hw) fun v s1 h1 => thn h1 fun u s2 h2 => thn h2 fun c s3 ⟨x,H1,I1,r1,q1⟩ => ?_) h1
 obtain ⟨d,rfl,q⟩ := q1
 cases r1
 exact wpAny_truthy_bool ⟨H1,I1,q⟩
theorem pt_val {e : Expr} {t : TE} (h : PE X e t) (he : ∀ whole,isTrue e X.env whole = (do let v ← whole; standAt e.pos; holding [v] (truthy v)) := by intro _; rfl) : PT X e (tB t) := by
 intro pins s σ H Q I hw
 refine isTrue_plain (thn (h pins s σ H _ I hw) fun v s1 ⟨x,H1,I1,r1,q1⟩ => ?_) (he _)
 obtain ⟨d,rfl,q⟩ := q1
 cases r1
 exact wpAny_truthy_bool ⟨H1,I1,q⟩
variable {tA tB' : TT} {rest : List Expr}
noncomputable def tAnd (t u : TT) : TT := fun σ H Q => t σ H fun c H1 => if c = true then u σ H1 Q else Q false H1
noncomputable def tOr (t u : TT) : TT := fun σ H Q => t σ H fun c H1 => if c = true then Q true H1 else u σ H1 Q
noncomputable def tNot (t : TT) : TT := fun σ H Q => t σ H fun c H1 => Q (!c) H1
theorem pw_and1 (ha : PT X a tA) : PW X (.BoolOp .And [a] pos) tA := by
 intro wh pins s σ H Q I h
 refine isTrue_and (thn (ha pins s σ H Q I h) fun c s1 e => ?_)
 cases c with
 | true => exact isTrue_and_nil e
 | false => exact e
theorem pw_or1 (ha : PT X a tA) : PW X (.BoolOp .Or [a] pos) tA := by
 intro wh pins s σ H Q I h
 refine isTrue_or (thn (ha pins s σ H Q I h) fun c s1 e => ?_)
 cases c with
 | false => exact isTrue_or_nil e
 | true => exact e
theorem pw_and (ha : PT X a tA) (hb : PW X (.BoolOp .And (b :: rest) pos) tB') : PW X (.BoolOp .And (a :: b :: rest) pos) (tAnd tA tB') := by
 intro wh pins s σ H Q I h
 refine isTrue_and (thn (ha pins s σ H _ I h) fun c s1 ⟨H1,I1,q1⟩ => ?_)
 cases c with
 | true => exact hb wh pins s1 σ H1 Q I1 q1
 | false => exact ⟨H1,I1,q1⟩
theorem pw_or (ha : PT X a tA) (hb : PW X (.BoolOp .Or (b :: rest) pos) tB') : PW X (.BoolOp .Or (a :: b :: rest) pos) (tOr tA tB') := by
 intro wh pins s σ H Q I h
 refine isTrue_or (thn (ha pins s σ H _ I h) fun c s1 ⟨H1,I1,q1⟩ => ?_)
 cases c with
 | true => exact ⟨H1,I1,q1⟩
 | false => exact hb wh pins s1 σ H1 Q I1 q1
theorem pt_not (ha : PT X a tA) : PT X (.UnaryOp .Not a pos) (tNot tA) := by
 intro pins s σ H Q I h
 exact isTrue_not (ha pins s σ H (fun c H1 => Q (!c) H1) I h)
noncomputable def tAndV (ta tb : TE) : TE := fun σ H Q => ta σ H fun x H1 => ∃ c,x = .bl c ∧ if c = true then tb σ H1 Q else Q (.bl false) H1
noncomputable def tNotV (ta : TE) : TE := fun σ H Q => ta σ H fun x H1 => ∃ c,x = .bl c ∧ Q (.bl (!c)) H1
theorem pe_one {op} {t : TE} (h : PE X a t) : PE X (.BoolOp op [a] pos) t := fun pins s σ H Q I hw => BoolOp_one (h pins s σ H Q I hw)
theorem pe_and (ha : PE X a ta) (hb : PE X (.BoolOp .And (b :: rest) pos) tb) : PE X (.BoolOp .And (a :: b :: rest) pos) (tAndV ta tb) := by
 intro pins s σ H Q I h
 refine BoolOp_and (thn (ha pins s σ H _ I h) fun v s1 ⟨x,H1,I1,r1,q1⟩ => ?_)
 obtain ⟨c,rfl,q1⟩ := q1
 cases r1
 refine wpAny_truthy_bool ?_
 cases c with
 | true => exact hb pins s1 σ H1 Q I1 q1
 | false => exact ⟨.bl false,H1,I1,rfl,q1⟩
theorem pe_not (ha : PE X a ta) : PE X (.UnaryOp .Not a pos) (tNotV ta) := by
 intro pins s σ H Q I h
 refine UnaryOp_ (thn (ha pins s σ H _ I h) fun v s1 ⟨x,H1,I1,r1,q1⟩ => ?_)
 obtain ⟨c,rfl,q1⟩ := q1
 cases r1
 exact not_of (wpAny_truthy_bool ⟨.bl (!c),H1,I1,rfl,q1⟩)
noncomputable def tIf (t : TT) (ta tb : TE) : TE := fun σ H Q => t σ H fun c H1 => if c = true then ta σ H1 Q else tb σ H1 Q
theorem pe_ifExp {c : Expr} (hc : PT X c tA) (ha : PE X a ta) (hb : PE X b tb) : PE X (.IfExp c a b pos) (tIf tA ta tb) := by
 intro pins s σ H Q I h
 refine wpAny_IfExp (thn (hc pins s σ H _ I h) fun d s1 ⟨H1,I1,q1⟩ => ?_)
 cases d with
 | true => exact ha pins s1 σ H1 Q I1 q1
 | false => exact hb pins s1 σ H1 Q I1 q1
end
end L2
namespace L2
open PySem PySem.Spec PyProof.Rows
noncomputable def SqL (K : PySem.W.Frag) (H : Hp) (a : Addr) (xs : List V) : Prop :=
 Rd H a (.lst xs) ∨
  ∃ (o : Obj) (its : Array Value) (n : Nat),K.lookup a = some o ∧ o.cls = .type "list" ∧ o.dict = none ∧ o.data = .seq its n ∧ its.size ≤ sizeLine ∧ Vals xs its.toList
noncomputable def SqT (K : PySem.W.Frag) (H : Hp) (a : Addr) (xs : List V) : Prop :=
 Rd H a (.tup xs) ∨
  ∃ (o : Obj) (its : Array Value) (n : Nat),K.lookup a = some o ∧ o.cls = .type "tuple" ∧ o.data = .seq its n ∧ its.size ≤ sizeLine ∧ Vals xs its.toList
noncomputable def absV : Value → Option V
 | .none => some .non
 | .bool b => some (.bl b)
 | .int i _ => some (.int i)
 | .str x _ => some (.str x)
 | .bytes b _ => some (.byt b)
 | .float b _ => some (.flt b)
 | .ref a => some (.ref a)
 | .type n => some (.ty n)
 | _ => none
theorem RelV.abs {x : V} {u : Value} (r : RelV x u) : absV u = some x := by
 cases x with
 | non => cases r; rfl
 | bl _ => cases r; rfl
 | int _ => obtain ⟨t,rfl⟩ := r; rfl
 | str _ => obtain ⟨t,rfl⟩ := r; rfl
 | byt _ => obtain ⟨t,rfl⟩ := r; rfl
 | flt _ => obtain ⟨t,rfl⟩ := r; rfl
 | ref _ => cases r; rfl
 | ty _ => cases r; rfl
theorem RelV.inj {x y : V} {u : Value} (r : RelV x u) (q : RelV y u) : x = y := Option.some.inj (r.abs.symm.trans q.abs)
theorem Vals.inj : ∀ {xs ys : List V} {us : List Value},Vals xs us → Vals ys us → xs = ys
 | _,_,_,.nil,.nil => rfl
 | _,_,_,.cons r t,.cons r' t' => by rw [r.inj r',Vals.inj t t']
section
variable {X : Cx} {pins : List (Addr × Obj)} {σ : St} {H : Hp} {s : Shared} {a : Addr} {xs ys : List V}
theorem SqL.of {K : PySem.W.Frag} (h : H a = some (.lst xs)) : SqL K H a xs := .inl (.inl h)
theorem SqT.of {K : PySem.W.Frag} (h : H a = some (.tup xs)) : SqT K H a xs := .inl (.inl h)
theorem Inv.list (I : Inv X pins σ H s) (h : SqL X.K H a xs) : ∃ its : List Value,Vals xs its ∧ PlainL s.heap a its.toArray ∧ xs.length ≤ sizeLine := by
 rcases h with h | ⟨o,its,n,hk,hc,hd,hs,hz,r⟩
 ·obtain ⟨z,its,n,r,e⟩ := h.ok I.hok
  exact ⟨its,r,⟨_,n,e,rfl,rfl,rfl⟩,z⟩
 ·refine ⟨its.toList,r,⟨o,n,I.kIn a o hk,hc,hd,by simpa using hs⟩,?_⟩
  have e := r.length
  simp only [Array.length_toList] at e
  omega
theorem Inv.tuple (I : Inv X pins σ H s) (h : SqT X.K H a xs) : ∃ its : List Value,Vals xs its ∧ IsTup s.heap a its.toArray ∧ xs.length ≤ sizeLine := by
 rcases h with h | ⟨o,its,n,hk,hc,hs,hz,r⟩
 ·obtain ⟨z,its,r,p⟩ := h.ok I.hok
  exact ⟨its,r,p,z⟩
 ·refine ⟨its.toList,r,⟨o,I.kIn a o hk,hc,n,by simpa using hs⟩,?_⟩
  have e := r.length
  simp only [Array.length_toList] at e
  omega
theorem Inv.list_inj (I : Inv X pins σ H s) (h : SqL X.K H a xs) (h' : SqL X.K H a ys) : xs = ys := by
 obtain ⟨its,r,⟨o,n,e,_,_,d⟩,_⟩ := I.list h
 obtain ⟨its',r',⟨o',n',e',_,_,d'⟩,_⟩ := I.list h'
 rw [e] at e'; cases e'
 rw [d] at d'
 injection d' with d1 _
 have : its = its' := by simpa using congrArg Array.toList d1
 subst this
 exact r.inj r'
theorem Inv.tuple_inj (I : Inv X pins σ H s) (h : SqT X.K H a xs) (h' : SqT X.K H a ys) : xs = ys := by
 obtain ⟨its,r,⟨o,e,_,n,d⟩,_⟩ := I.tuple h
 obtain ⟨its',r',⟨o',e',_,n',d'⟩,_⟩ := I.tuple h'
 rw [e] at e'; cases e'
 rw [d] at d'
 injection d' with d1 _
 have : its = its' := by simpa using congrArg Array.toList d1
 subst this
 exact r.inj r'
end
noncomputable abbrev Cx.wish (X : Cx) (E : Value → Shared → Prop) : Cx := { X with xe := E }
noncomputable abbrev Cx.nox (X : Cx) : Cx := X.wish fun _ _ => False
theorem Cx.Ok.wish {X : Cx} (ok : X.Ok) (E : Value → Shared → Prop) : (X.wish E).Ok :=
 ⟨ok.mod,ok.kind,ok.glob,ok.blt,ok.above,ok.inj,ok.has,ok.cab,ok.hd,ok.frames,ok.stk,ok.exf,ok.bs,ok.bsz,ok.noex,ok.exfs,ok.funs,ok.frf⟩
theorem Cx.Ok.unwish {X : Cx} {E : Value → Shared → Prop} (ok : (X.wish E).Ok) : X.Ok :=
 ⟨ok.mod,ok.kind,ok.glob,ok.blt,ok.above,ok.inj,ok.has,ok.cab,ok.hd,ok.frames,ok.stk,ok.exf,ok.bs,ok.bsz,ok.noex,ok.exfs,ok.funs,ok.frf⟩
section
variable {X : Cx} {pins : List (Addr × Obj)} {σ : St} {H : Hp} {s : Shared} {E : Value → Shared → Prop}
theorem Inv.wish (I : Inv X pins σ H s) (E : Value → Shared → Prop) : Inv (X.wish E) pins σ H s := ⟨I.ok.wish E,I.os,I.bare,I.base,I.loc,I.cell,I.free,I.freeC,I.pin,I.hok,I.len⟩
theorem Inv.unwish (I : Inv (X.wish E) pins σ H s) : Inv X pins σ H s := ⟨I.ok.unwish,I.os,I.bare,I.base,I.loc,I.cell,I.free,I.freeC,I.pin,I.hok,I.len⟩
theorem SP.unwish {D : Ends} {f : Flow} {s' : Shared} (h : SP (X.wish E) pins D f s') : SP X pins D f s' := by
 cases f with
 | next => obtain ⟨σ',H',I,q⟩ := h; exact ⟨σ',H',I.unwish,q⟩
 | brk => obtain ⟨σ',H',I,q⟩ := h; exact ⟨σ',H',I.unwish,q⟩
 | cont => obtain ⟨σ',H',I,q⟩ := h; exact ⟨σ',H',I.unwish,q⟩
 | ret u => obtain ⟨v,σ',H',I,r,q⟩ := h; exact ⟨v,σ',H',I.unwish,r,q⟩
theorem PE.nox {e : Expr} {t : TE} (h : PE X.nox e t) : PE X e t := fun pins s σ H Q I hw =>
 wpAny_mono (h pins s σ H Q (I.wish _) hw) (fun _ _ ⟨v,H',I',r,q⟩ => ⟨v,H',I'.unwish,r,q⟩) fun _ _ z => False.elim z
theorem PT.nox {e : Expr} {t : TT} (h : PT X.nox e t) : PT X e t := fun pins s σ H Q I hw =>
 wpAny_mono (h pins s σ H Q (I.wish _) hw) (fun _ _ ⟨H',I',q⟩ => ⟨H',I'.unwish,q⟩) fun _ _ z => False.elim z
theorem PSs.nox {st : List Stmt} {t : TS} (h : PSs X.nox st t) : PSs X st t := fun pins s σ H D I hw =>
 wpAny_mono (h pins s σ H D (I.wish _) hw) (fun _ _ q => q.unwish) fun _ _ z => False.elim z
end
section
variable {X : Cx} {st : Stmt} {rest : List Stmt} {t u : TS} {e : Expr} {te : TE} {pos : Pos}
noncomputable def tNext : TS := fun D σ H => D.nx σ H
noncomputable def tSeq (t u : TS) : TS := fun D σ H => t { D with nx := u D } σ H
theorem pss_nil : PSs X [] tNext := fun _ _ σ H _ I h => wpAny_execs_nil ⟨σ,H,I,h⟩
theorem pss_cons (h1 : PS X st t) (h2 : PSs X rest u) : PSs X (st :: rest) (tSeq t u) := by
 intro pins s σ H D I h
 refine wpAny_execs_cons (thn (h1 pins s σ H { D with nx := u D } I h) fun f s1 q => ?_)
 cases f with
 | next =>
  obtain ⟨σ',H',I',q⟩ := q
  exact h2 pins s1 σ' H' D I' q
 | ret v => exact q
 | brk => exact q
 | cont => exact q
theorem pss_one (h1 : PS X st t) : PSs X [st] t := by
 intro pins s σ H D I h
 refine wpAny_execs_cons (thn (h1 pins s σ H D I h) fun f s1 q => ?_)
 cases f with
 | next => exact wpAny_execs_nil q
 | ret v => exact q
 | brk => exact q
 | cont => exact q
theorem Inv.quiet {pins : List (Addr × Obj)} {σ : St} {H : Hp} {s : Shared} (I : Inv X pins σ H s) : interactive X.env = false := by simp [interactive,I.ok.kind]
noncomputable def tDrop (te : TE) : TS := fun D σ H => te σ H fun _ H1 => D.nx σ H1
theorem ps_expr (he : PE X e te) (hs : swapsWith e none pos.line X.env = pure false := by rfl) : PS X (.Expr e pos) (tDrop te) := by
 intro pins s σ H D I h
 exact wpAny_Expr_any (thn (he pins s σ H _ I h) fun v s1 ⟨x,H1,I1,r1,q1⟩ => ⟨σ,H1,I1,q1⟩) I.quiet hs
noncomputable def tRet (te : TE) : TS := fun D σ H => te σ H D.rt
theorem ps_ret (he : PE X e te) : PS X (.Return (some e) pos) (tRet te) := by
 intro pins s σ H D I h
 exact wpAny_Return_some (thn (he pins s σ H _ I h) fun v s1 ⟨x,H1,I1,r1,q1⟩ => ⟨x,σ,H1,I1,r1,q1⟩)
noncomputable def tIfS (c : TT) (t u : TS) : TS := fun D σ H => c σ H fun b H1 => if b = true then t D σ H1 else u D σ H1
theorem ps_if {c : Expr} {a b : List Stmt} {tc : TT} (hc : PT X c tc) (ha : PSs X a t) (hb : PSs X b u) : PS X (.If c a b pos) (tIfS tc t u) := by
 intro pins s σ H D I h
 refine wpAny_If (thn (hc pins s σ H _ I h) fun d s1 ⟨H1,I1,q1⟩ => ?_)
 cases d with
 | true => exact ha pins s1 σ H1 D I1 q1
 | false => exact hb pins s1 σ H1 D I1 q1
end
noncomputable abbrev TG := V → St → Hp → (St → Hp → Prop) → Prop
noncomputable abbrev TGs := List V → St → Hp → (St → Hp → Prop) → Prop
noncomputable def PG (X : Cx) (target : Expr) (t : TG) : Prop :=
 ∀ (pins : List (Addr × Obj)) (s : Shared) (σ : St) (H : Hp) (v : V) (u : Value) (Q : St → Hp → Prop),Inv X pins σ H s → RelV v u → t v σ H Q →
  wpAny (model X.prog X.w) X.A (assign target X.env u) (fun _ s' => ∃ σ' H',Inv X pins σ' H' s' ∧ Q σ' H') X.xe s
noncomputable def PGs (X : Cx) (ts : List Expr) (t : TGs) : Prop :=
 ∀ (pins : List (Addr × Obj)) (s : Shared) (σ : St) (H : Hp) (vs : List V) (us : List Value) (Q : St → Hp → Prop),Inv X pins σ H s → Vals vs us → t vs σ H Q →
  wpAny (model X.prog X.w) X.A (assignInOrder ((assignEach ts X.env).map (·.2)) us) (fun _ s' => ∃ σ' H',Inv X pins σ' H' s' ∧ Q σ' H') X.xe s
section
variable {X : Cx} {pos : Pos}
noncomputable def gName (i : Nat) : TG := fun v σ H Q => Q (σ.set i (some v)) H
theorem pg_name {i : Nat} {x : Str} (hN : X.N.Nodup) (hi : X.N[i]? = some x) (hx : Loc X.env.scope x) (hf : X.fn x = true ∨ X.env.scope.names.lookup x = some .local := by first | exact .inl rfl | exact .inr rfl | assumption) : PG X (.Name x pos) (gName i) := by
 intro pins s σ H v u Q I r h
 exact wpAny_assign_Name (store_ok I hN hi hx r (fun s' I' => ⟨_,H,I',h⟩) hf)
noncomputable def gNil : TGs := fun vs σ H Q => vs = [] ∧ Q σ H
noncomputable def gCons (t : TG) (u : TGs) : TGs := fun vs σ H Q => ∃ v r,vs = v :: r ∧ t v σ H fun σ' H' => u r σ' H' Q
theorem pgs_nil : PGs X [] gNil := by
 intro pins s σ H vs us Q I r h
 obtain ⟨e,h⟩ := h
 subst e
 cases r
 exact assignInOrder_nil ⟨σ,H,I,h⟩
theorem pgs_cons {e : Expr} {es : List Expr} {t : TG} {u : TGs} (h1 : PG X e t) (h2 : PGs X es u)
  (hs : (assignEach (e :: es) X.env).map (·.2) = assign e X.env :: (assignEach es X.env).map (·.2) := by rfl) : PGs X (e :: es) (gCons t u) := by
 intro pins s σ H vs us Q I r h
 obtain ⟨v,vr,e1,h⟩ := h
 subst e1
 cases r with
 | cons r rr =>
  rw [hs]
  refine assignInOrder_cons (thn (h1 pins s σ H _ _ _ I r h) fun _ s1 ⟨σ1,H1,I1,q1⟩ => ?_)
  exact h2 pins s1 σ1 H1 _ _ Q I1 rr q1
noncomputable def gTup (K : PySem.W.Frag) (n : Nat) (t : TGs) : TG := fun v σ H Q => ∃ a xs,v = .ref a ∧ SqT K H a xs ∧ xs.length = n ∧ t xs σ H Q
theorem pg_tup {es : List Expr} {k : Nat} {t : TGs} {n : Nat} (hc : X.calm = true) (h : PGs X es t)
  (hn : (assignEach es X.env).length = n := by rfl) (hst : (assignEach es X.env).findIdx? (·.1) = none := by rfl) : PG X (.Tuple es k pos) (gTup X.K n t) := by
 intro pins s σ H v u Q I r hw
 obtain ⟨a,xs,e1,hq,hl,hw⟩ := hw
 subst e1
 cases r
 obtain ⟨its,rv,ht,hz⟩ := I.tuple hq
 refine assign_Tuple_tuple (I.ok.hd hc) ht (by simp [hn,← hl,rv.length]) hst fun h' hx => ?_
 have I1 : Inv X pins σ H { s with heap := h' } := I.kept (t' := s.toks) fun b o e => hx b o (Nat.ne_of_lt (Heap.lt_size e)) e
 exact h pins _ σ H xs _ Q I1 (by simpa using rv) hw
noncomputable def tAsg (te : TE) (g : TG) : TS := fun D σ H => te σ H fun x H1 => g x σ H1 D.nx
theorem ps_asg {tg e : Expr} {te : TE} {g : TG} (he : PE X e te) (hg : PG X tg g) (hs : swapsWithSole [tg] e pos.line X.env = pure false := by rfl) (hw : swappedStores [tg] e X.env = pure none := by rfl)
  (h1 : (assignEach [tg] X.env).map (·.2) = [assign tg X.env] := by rfl) : PS X (.Assign [tg] e pos) (tAsg te g) := by
 intro pins s σ H D I h
 refine wpAny_Assign_stores (thn (he pins s σ H _ I h) fun v s1 ⟨x,H1,I1,r1,q1⟩ => ?_) hs hw
 rw [h1]
 exact thn (hg pins s1 σ H1 x v _ I1 r1 q1) fun _ s2 q => q
theorem ps_set {i : Nat} {x : Str} {e : Expr} {te : TE} {pos' : Pos} (hN : X.N.Nodup) (hi : X.N[i]? = some x) (hx : Loc X.env.scope x) (he : PE X e te) (hs : swapsWith e (some (.Name x pos')) pos.line X.env = pure false := by rfl) (hf : X.fn x = true ∨ X.env.scope.names.lookup x = some .local := by first | exact .inl rfl | exact .inr rfl | assumption) :
  PS X (.Assign [.Name x pos'] e pos) (tAsg te (gName i)) := by
 intro pins s σ H D I h
 refine wpAny_Assign_Name (thn (he pins s σ H _ I h) fun v s1 ⟨y,H1,I1,r1,q1⟩ => ?_) hs
 exact store_ok I1 hN hi hx r1 (fun s2 I2 => ⟨_,H1,I2,q1⟩) hf
end
section
variable {X : Cx} {pos : Pos}
noncomputable def tWhile (c : TT) (tb : TS) : TS := fun D σ H => ∃ W : Nat → St → Hp → Prop,(∃ m,W m σ H) ∧ ∀ m σ H,W m σ H →
 c σ H fun b H1 => if b = true then ∃ N : St → Hp → Prop,(∀ σ' H',N σ' H' → ∃ m',m' < m ∧ W m' σ' H') ∧ tb { D with nx := N,ct := N,bk := D.nx } σ H1 else D.nx σ H1
theorem ps_while {c : Expr} {body : List Stmt} {tc : TT} {tb : TS} (hp : PassesOwn (model X.prog X.w) X.A X.env X.xe) (hc : PT X c tc) (hb : PSs X body tb) : PS X (.While c body [] pos) (tWhile tc tb) := by
 intro pins s σ H D I h
 obtain ⟨W,⟨m0,w0⟩,turn⟩ := h
 refine wpAny_While (codeAny_whileLoop (fun n s' => ∃ σ' H',Inv X pins σ' H' s' ∧ W n σ' H') ?_ m0 ⟨σ,H,I,w0⟩)
 intro n s1 z9;obtain ⟨σ1,H1,I1,w1⟩ := z9
 refine wpAny_passesOwn hp (thn (hc pins s1 σ1 H1 _ I1 (turn n σ1 H1 w1)) fun b s2 ⟨H2,I2,q2⟩ => ?_)
 cases b with
 | true =>
  obtain ⟨N,hN,q2⟩ := q2
  rw [if_pos rfl]
  refine wpAny_passesOwn hp (thn (hb pins s2 σ1 H2 _ I2 q2) fun f s3 q3 => ?_)
  cases f with
  | next =>
   obtain ⟨σ3,H3,I3,n3⟩ := q3
   obtain ⟨m',hm,w3⟩ := hN σ3 H3 n3
   exact ⟨m',hm,σ3,H3,I3,w3⟩
  | cont =>
   obtain ⟨σ3,H3,I3,n3⟩ := q3
   obtain ⟨m',hm,w3⟩ := hN σ3 H3 n3
   exact ⟨m',hm,σ3,H3,I3,w3⟩
  | brk => exact q3
  | ret v => exact q3
 | false =>
  rw [if_neg Bool.false_ne_true]
  exact wpAny_execs_nil ⟨σ1,H2,I2,q2⟩
end
structure It where
 go : Nat → Hp → Prop
 yld : Nat → Hp → V → Hp → Prop
 stop : Nat → Hp → Prop
noncomputable def FpOk (X : Cx) (pins : List (Addr × Obj)) (H : Hp) (b : Addr) : Prop :=
 H b = none ∧ b ≠ X.env.locals ∧ b ∉ X.fs ∧ (b ∈ X.ex ∨ X.s₀.heap.objs.size ≤ b) ∧ (∀ x c,X.env.cells.lookup x = some c → c ≠ b) ∧ ∀ p ∈ X.pn ++ pins,p.1 ≠ b
theorem Inv.fpOk {X : Cx} {pins : List (Addr × Obj)} {σ : St} {H H' : Hp} {s : Shared} {b : Addr} (I : Inv X pins σ H s) (hb : s.heap.objs.size ≤ b) (hn : H' b = none) : FpOk X pins H' b := by
 refine ⟨hn,Nat.ne_of_gt (Nat.lt_of_lt_of_le I.lt hb),I.nofs hb,.inr (Nat.le_trans I.sz hb),fun x c e z => ?_,fun p hp z => ?_⟩
 ·obtain ⟨v,q⟩ := I.cell x c e
  exact absurd (Nat.lt_of_lt_of_le q.lt (by rw [z]; exact hb)) (Nat.lt_irrefl _)
 ·exact absurd (Nat.lt_of_lt_of_le (Heap.lt_size (I.pin p hp).1) (by rw [z]; exact hb)) (Nat.lt_irrefl _)
structure Turn (P : Program) (w : World) (K : PySem.W.Frag) (tg : Expr) (J : It) (fp : List Addr) (it : Addr) (tn : Nat → Heap → Prop) : Prop where
 mem : it ∈ fp
 obj : ∀ i h,tn i h → ∀ b ∈ fp,∃ o,h.get? b = some o ∧ ∀ v,o.data ≠ .cell v
 keep : ∀ i h h',tn i h → (∀ b ∈ fp,∀ o,h.get? b = some o → h'.get? b = some o) → tn i h'
 item : ∀ (X : Cx),X.prog = P → X.w = w → X.K = K → X.calm = true → ∀ (i : Nat) (pins : List (Addr × Obj)) (s : Shared) (σ : St) (H : Hp) (E : Value → Shared → Prop),Inv X pins σ H s → (∀ b ∈ fp,FpOk X pins H b) → tn i s.heap → J.go i H →
  wpAny (model P w) X.A (pyNext (.ref it)) (fun r s1 => ∃ u,r = some u ∧
   wpAny (model P w) X.A (letOwnedTupleGo tg (.ref it) u) (fun _ s2 => ∃ x H',Inv X pins σ H' s2 ∧ RelV x u ∧ J.yld i H x H' ∧ tn (i + 1) s2.heap ∧ ∀ b ∈ fp,H' b = none) E s1) E s
 done : ∀ (X : Cx),X.prog = P → X.w = w → X.K = K → X.calm = true → ∀ (i : Nat) (pins : List (Addr × Obj)) (s : Shared) (σ : St) (H : Hp) (E : Value → Shared → Prop),Inv X pins σ H s → (∀ b ∈ fp,FpOk X pins H b) → tn i s.heap → J.stop i H →
  wpAny (model P w) X.A (pyNext (.ref it)) (fun r s1 => r = none ∧ Inv X pins σ H s1) E s
 self : ∀ (A : Around) (i : Nat) (s : Shared) (Q : Value → Shared → Prop) (E : Value → Shared → Prop),tn i s.heap → Q (.ref it) s → wpAny (model P w) A (pyIter (.ref it)) Q E s
noncomputable abbrev TI := St → Hp → (It → Hp → Prop) → Prop
noncomputable def PIE (X : Cx) (pins : List (Addr × Obj)) (σ : St) (tg : Expr) (R : It → Hp → Prop) (itv : Value) (s2 : Shared) : Prop :=
 ∃ (it : Addr) (fp : List Addr) (tn : Nat → Heap → Prop) (J : It) (H' : Hp),itv = .ref it ∧ Inv X pins σ H' s2 ∧ Turn X.prog X.w X.K tg J fp it tn ∧ tn 0 s2.heap ∧ (∀ b ∈ fp,FpOk X pins H' b) ∧ R J H'
noncomputable def PI (X : Cx) (tg iter : Expr) (wi : TI) : Prop :=
 ∀ (pins : List (Addr × Obj)) (s : Shared) (σ : St) (H : Hp) (R : It → Hp → Prop),Inv X pins σ H s → wi σ H R →
  wpAny (model X.prog X.w) X.A (eval iter X.env) (fun v s1 => wpAny (model X.prog X.w) X.A (pyIter v) (PIE X pins σ tg R) X.xe s1) X.xe s
theorem go_of {M : Model} {A : Around} {E : Value → Shared → Prop} {s : Shared} {tg : Expr} {it : Addr} {u : Value} {o : Obj} {n : String} {vs : Array Value} {Q : Unit → Shared → Prop} (ho : s.heap.get? it = some o) (hc : o.cls = .type n) (hd : o.data = .fields vs)
  (hn : ["enumerate","zip","dict_itemiterator","dict_reverseitemiterator","odict_iterator","itertools.zip_longest","itertools.pairwise"].contains n = false) (hQ : Q () s) : wpAny M A (letOwnedTupleGo tg (.ref it) u) Q E s := by
 unfold letOwnedTupleGo
 cases tg <;> first
  | exact wpAny_pure hQ
  | (cases u <;> first
    | exact wpAny_pure hQ
    | (refine wpAny_bind (wpAny_load ho ?_)
       rw [hc,hd]
       show wpAny M A (if (["enumerate","zip","dict_itemiterator","dict_reverseitemiterator","odict_iterator","itertools.zip_longest","itertools.pairwise"].contains n && vs[0]? == some (rawInt _)) = true then _ else _) Q E s
       rw [if_neg (by intro h; rw [hn,Bool.false_and] at h; cases h)]
       exact wpAny_pure hQ))
noncomputable def Itl (K : PySem.W.Frag) (a : Addr) : It :=
 ⟨fun i H => ∃ xs x,SqL K H a xs ∧ xs[i]? = some x,fun i H x H' => H' = H ∧ ∀ xs,SqL K H a xs → xs[i]? = some x,fun i H => ∃ xs,SqL K H a xs ∧ xs.length ≤ i⟩
noncomputable def Itt (K : PySem.W.Frag) (a : Addr) : It :=
 ⟨fun i H => ∃ xs x,SqT K H a xs ∧ xs[i]? = some x,fun i H x H' => H' = H ∧ ∀ xs,SqT K H a xs → xs[i]? = some x,fun i H => ∃ xs,SqT K H a xs ∧ xs.length ≤ i⟩
noncomputable def Itr (lo : Int) (n : Nat) : It := ⟨fun i _ => i < n,fun i H x H' => H' = H ∧ x = .int (lo + i),fun i _ => n ≤ i⟩
theorem turn_list {P : Program} {w : World} {K : PySem.W.Frag} {tg : Expr} (a it : Addr) : Turn P w K tg (Itl K a) [it] it (fun i h => h.IsListIter it a i) where
 mem := by simp
 obj := fun i h st b hb => by
  have e : b = it := by simpa using hb
  subst e
  obtain ⟨o,e,c,d⟩ := st
  exact ⟨o,e,fun v z => by rw [d] at z; cases z⟩
 keep := fun i h h' st k => st.at fun o e => k it (by simp) o e
 item := by
  intro X hP hw hK hc i pins s σ H E I hf st hg
  subst hP hw hK
  obtain ⟨xs,x,hq,hx⟩ := hg
  obtain ⟨its,rv,p,hz⟩ := I.list hq
  obtain ⟨u,hu,ru⟩ := rv.get hx
  obtain ⟨f0,f1,f2,f3,f4,f5⟩ := hf it (by simp)
  refine wpAny_pyNext_list_item st p.isList (x := u) (by simpa using hu) fun h' st' sb => ?_
  have I1 : Inv X pins σ H { s with heap := h' } := I.turned (t' := s.toks) (fun b o hb e => (sb.2 b hb).trans e) f0 f1 f3 f4 f5
  obtain ⟨o,e,c,d⟩ := id st'
  exact ⟨u,rfl,go_of (s := { s with heap := h' }) e c d (by decide) ⟨x,H,I1,ru,⟨rfl,fun ys hy => by rw [I.list_inj hy hq]; exact hx⟩,st',fun b hb => (hf b hb).1⟩⟩
 done := by
  intro X hP hw hK hc i pins s σ H E I hf st hg
  subst hP hw hK
  obtain ⟨xs,hq,hx⟩ := hg
  obtain ⟨its,rv,p,hz⟩ := I.list hq
  obtain ⟨f0,f1,f2,f3,f4,f5⟩ := hf it (by simp)
  have hl := rv.length
  exact wpAny_pyNext_list_end (I.ok.hd hc) st p.isList (by simp; omega) fun h' eb => ⟨rfl,I.turned (t' := s.toks) (fun b o hb e => eb b o hb e) f0 f1 f3 f4 f5⟩
 self := fun _ _ _ _ _ st h => wpAny_pyIter_listiter st h
theorem turn_tuple {P : Program} {w : World} {K : PySem.W.Frag} {tg : Expr} (a it : Addr) : Turn P w K tg (Itt K a) [it] it (fun i h => h.IsTupleIter it a i) where
 mem := by simp
 obj := fun i h st b hb => by
  have e : b = it := by simpa using hb
  subst e
  obtain ⟨o,e,c,d⟩ := st
  exact ⟨o,e,fun v z => by rw [d] at z; cases z⟩
 keep := fun i h h' st k => st.at fun o e => k it (by simp) o e
 item := by
  intro X hP hw hK hc i pins s σ H E I hf st hg
  subst hP hw hK
  obtain ⟨xs,x,hq,hx⟩ := hg
  obtain ⟨its,rv,p,hz⟩ := I.tuple hq
  obtain ⟨u,hu,ru⟩ := rv.get hx
  obtain ⟨f0,f1,f2,f3,f4,f5⟩ := hf it (by simp)
  refine wpAny_pyNext_tuple_item st (show s.heap.IsTuple a its.toArray from p) (x := u) (by simpa using hu) fun h' st' sb => ?_
  have I1 : Inv X pins σ H { s with heap := h' } := I.turned (t' := s.toks) (fun b o hb e => (sb.2 b hb).trans e) f0 f1 f3 f4 f5
  obtain ⟨o,e,c,d⟩ := id st'
  exact ⟨u,rfl,go_of (s := { s with heap := h' }) e c d (by decide) ⟨x,H,I1,ru,⟨rfl,fun ys hy => by rw [I.tuple_inj hy hq]; exact hx⟩,st',fun b hb => (hf b hb).1⟩⟩
 done := by
  intro X hP hw hK hc i pins s σ H E I hf st hg
  subst hP hw hK
  obtain ⟨xs,hq,hx⟩ := hg
  obtain ⟨its,rv,p,hz⟩ := I.tuple hq
  obtain ⟨f0,f1,f2,f3,f4,f5⟩ := hf it (by simp)
  have hl := rv.length
  exact wpAny_pyNext_tuple_end (I.ok.hd hc) st (show s.heap.IsTuple a its.toArray from p) (by simp; omega) fun h' eb => ⟨rfl,I.turned (t' := s.toks) (fun b o hb e => eb b o hb e) f0 f1 f3 f4 f5⟩
 self := fun _ _ _ _ _ st h => wpAny_pyIter_tupleiter st h
theorem turn_range {P : Program} {w : World} {K : PySem.W.Frag} {tg : Expr} (it : Addr) (lo : Int) (n : Nat) : Turn P w K tg (Itr lo n) [it] it (fun i h => IsRangeIter h it (lo + (i : Nat) * 1) ((n : Int) - (i : Nat)) 1) where
 mem := by simp
 obj := fun i h st b hb => by
  have e : b = it := by simpa using hb
  subst e
  exact ⟨_,st,fun v z => by
   have z' : Data.fields _ = Data.cell v := z
   cases z'⟩
 keep := fun i h h' st k => k it (by simp) _ st
 item := by
  intro X hP hw hK hc i pins s σ H E I hf st hg
  subst hP hw hK
  obtain ⟨f0,f1,f2,f3,f4,f5⟩ := hf it (by simp)
  have W := Walks.range (prog := X.prog) (w := X.w) (I.ok.hd hc) it lo 1 n
  refine W.item i s _ _ hg st fun v h' tk hv st' kk => ?_
  obtain ⟨t,rfl⟩ := hv
  have I1 : Inv X pins σ H { s with heap := h',toks := tk } := I.turned (fun b o hb e => kk b o (by simpa using hb) e) f0 f1 f3 f4 f5
  refine ⟨_,rfl,go_of (s := { s with heap := h',toks := tk }) (n := "range_iterator") st' rfl rfl (by decide) ⟨.int (lo + i),H,I1,⟨t,?_⟩,⟨rfl,rfl⟩,st',fun b hb => (hf b hb).1⟩⟩
  rw [Int.mul_one]
 done := by
  intro X hP hw hK hc i pins s σ H E I hf st hg
  subst hP hw hK
  obtain ⟨f0,f1,f2,f3,f4,f5⟩ := hf it (by simp)
  exact wpAny_pyNext_range_end (I.ok.hd hc) st (by have : n ≤ i := hg; omega) fun h' eb => ⟨rfl,I.turned (t' := s.toks) (fun b o hb e => eb b o hb e) f0 f1 f3 f4 f5⟩
 self := fun _ _ _ _ _ st h => wpAny_pyIter_rangeiter st h
end L2
namespace L2
open PySem PySem.Spec PyProof.Rows
section
variable {X : Cx} {tg : Expr}
noncomputable def iList (K : PySem.W.Frag) (tl : TE) : TI := fun σ H R => tl σ H fun x H1 => ∃ a,x = .ref a ∧ (∃ xs,SqL K H1 a xs) ∧ R (Itl K a) H1
noncomputable def iTup (K : PySem.W.Frag) (tl : TE) : TI := fun σ H R => tl σ H fun x H1 => ∃ a,x = .ref a ∧ (∃ xs,SqT K H1 a xs) ∧ R (Itt K a) H1
theorem pi_list {l : Expr} {tl : TE} (hl : PE X l tl) : PI X tg l (iList X.K tl) := by
 intro pins s σ H R I h
 refine thn (hl pins s σ H _ I h) fun v s1 ⟨x,H1,I1,r1,q1⟩ => ?_
 obtain ⟨a,e,⟨xs,hq⟩,q⟩ := q1
 subst e
 cases r1
 obtain ⟨its,rv,p,hz⟩ := I1.list hq
 refine wpAny_pyIter_list p.isList ?_
 refine ⟨s1.heap.objs.size,[s1.heap.objs.size],_,_,H1,rfl,I1.kept (t' := s1.toks) fun b o e => Heap.get?_push_of_some _ e,turn_list a _,⟨_,Heap.get?_push_size _ rfl,rfl,rfl⟩,fun b hb => ?_,q⟩
 have e : b = s1.heap.objs.size := by simpa using hb
 subst e
 exact I1.fpOk (Nat.le_refl _) (I1.hok.fresh (Nat.le_refl _))
theorem pi_tup {l : Expr} {tl : TE} (hl : PE X l tl) : PI X tg l (iTup X.K tl) := by
 intro pins s σ H R I h
 refine thn (hl pins s σ H _ I h) fun v s1 ⟨x,H1,I1,r1,q1⟩ => ?_
 obtain ⟨a,e,⟨xs,hq⟩,q⟩ := q1
 subst e
 cases r1
 obtain ⟨its,rv,p,hz⟩ := I1.tuple hq
 refine wpAny_pyIter_tuple (show s1.heap.IsTuple a its.toArray from p) ?_
 refine ⟨s1.heap.objs.size,[s1.heap.objs.size],_,_,H1,rfl,I1.kept (t' := s1.toks) fun b o e => Heap.get?_push_of_some _ e,turn_tuple a _,⟨_,Heap.get?_push_size _ rfl,rfl,rfl⟩,fun b hb => ?_,q⟩
 have e : b = s1.heap.objs.size := by simpa using hb
 subst e
 exact I1.fpOk (Nat.le_refl _) (I1.hok.fresh (Nat.le_refl _))
theorem range_it {pins : List (Addr × Obj)} {σ : St} {H : Hp} {s : Shared} {R : It → Hp → Prop} {E : Value → Shared → Prop} {lo hi : Int} {t u v : Tok} {tk : Nat} (I : Inv X pins σ H s) (h1 : -(2 ^ 62) ≤ lo) (h2 : lo < 2 ^ 62) (h3 : -(2 ^ 62) ≤ hi) (h4 : hi < 2 ^ 62)
  (q : R (Itr lo (hi - lo).toNat) H) : wpAny (model X.prog X.w) X.A (pyIter (.ref s.heap.objs.size)) (PIE X pins σ tg R) E { s with heap := s.heap.push { cls := .type "range",data := .fields #[.int lo t,.int hi u,.int 1 v] },toks := tk } := by
 refine wpAny_pyIter_range (IsRange.new ..) (small_one h1 h2 h3 h4) ?_
 have I1 : Inv X pins σ H { s with heap := s.heap.push { cls := .type "range",data := .fields #[.int lo t,.int hi u,.int 1 v] },toks := tk } := I.kept fun b o e => Heap.get?_push_of_some _ e
 refine ⟨(s.heap.push { cls := .type "range",data := .fields #[.int lo t,.int hi u,.int 1 v] }).objs.size,[(s.heap.push { cls := .type "range",data := .fields #[.int lo t,.int hi u,.int 1 v] }).objs.size],_,_,H,rfl,
  I1.kept (t' := tk) fun b o e => Heap.get?_push_of_some _ e,turn_range _ lo (hi - lo).toNat,?_,fun b hb => ?_,q⟩
 ·have e1 : lo + ((0 : Nat) : Int) * 1 = lo := by simp
  have e2 : (((hi - lo).toNat : Nat) : Int) - ((0 : Nat) : Int) = Builtin.Range.rangeSize lo hi 1 := by rw [rangeSize_one]; split <;> omega
  show IsRangeIter _ _ (lo + ((0 : Nat) : Int) * 1) ((((hi - lo).toNat : Nat) : Int) - ((0 : Nat) : Int)) 1
  rw [e1,e2]
  exact Heap.get?_push_size _ rfl
 ·have e : b = (s.heap.push { cls := .type "range",data := .fields #[.int lo t,.int hi u,.int 1 v] }).objs.size := by simpa using hb
  subst e
  exact I1.fpOk (Nat.le_refl _) (I1.hok.fresh (Nat.le_refl _))
noncomputable def iRng1 (ta : TA) : TI := fun σ H R => ta σ H fun vs H1 => ∃ j : Int,vs = [.int j] ∧ -(2 ^ 62) ≤ j ∧ j < 2 ^ 62 ∧ R (Itr 0 j.toNat) H1
theorem pi_range1 {a : Expr} {ta : TA} {p pos : Pos} (hg : Gl X "range") (hm : X.mg "range" = none) (ha : PA X [a] ta) (hs : starEach [a] X.env = [(false,eval a X.env)] := by rfl) : PI X tg (.Call (.Name "range" p) [a] [] pos) (iRng1 ta) := by
 intro pins s σ H R I h
 refine Call_ (ld_blt I hg hm boot_range (PyProof.Rows.callWith_type1 (thn (ha pos pins s σ H _ I h) fun us s1 ⟨vs,H1,I1,r1,q1⟩ => ?_) hs rfl))
 obtain ⟨j,e,q1,q2,q⟩ := q1
 subst e
 cases r1 with
 | cons r rr =>
  cases rr
  obtain ⟨t,rfl⟩ := r
  exact call_range_1 (range_it I1 (by omega) (by omega) q1 q2 (by simpa using q))
noncomputable def tFor (wi : TI) (g : TG) (tb : TS) : TS := fun D σ H => wi σ H fun J H1 => ∃ W : Nat → Nat → St → Hp → Prop,(∃ m,W 0 m σ H1) ∧ ∀ i m σ H,W i m σ H →
 (J.stop i H ∧ D.nx σ H) ∨ (J.go i H ∧ ∃ N : St → Hp → Prop,(∀ σ' H',N σ' H' → ∃ m',m' < m ∧ W (i + 1) m' σ' H') ∧ ∀ x H',J.yld i H x H' → g x σ H' fun σ2 H2 => tb { D with nx := N,ct := N,bk := D.nx } σ2 H2)
noncomputable def pinsAt (fp : List Addr) (h : Heap) : List (Addr × Obj) := fp.filterMap fun b => (h.get? b).map fun o => (b,o)
theorem mem_pinsAt {fp : List Addr} {h : Heap} {b : Addr} {o : Obj} (hb : b ∈ fp) (e : h.get? b = some o) : (b,o) ∈ pinsAt fp h := List.mem_filterMap.mpr ⟨b,hb,by rw [e]; rfl⟩
theorem of_pinsAt {fp : List Addr} {h : Heap} {p : Addr × Obj} (hp : p ∈ pinsAt fp h) : p.1 ∈ fp ∧ h.get? p.1 = some p.2 := by
 obtain ⟨b,hb,e⟩ := List.mem_filterMap.mp hp
 cases q : h.get? b with
 | none => rw [q] at e; cases e
 | some o =>
  rw [q] at e
  have e' : (b,o) = p := Option.some.inj e
  subst e'
  exact ⟨hb,q⟩
theorem Inv.pinned {pins : List (Addr × Obj)} {σ : St} {H : Hp} {s : Shared} {fp : List Addr} (I : Inv X pins σ H s) (hf : ∀ b ∈ fp,FpOk X pins H b) (ho : ∀ b ∈ fp,∃ o,s.heap.get? b = some o ∧ ∀ v,o.data ≠ .cell v) : Inv X (pins ++ pinsAt fp s.heap) σ H s :=
 I.pins_of fun p hp => (List.mem_append.mp hp).elim (fun z => I.pin p (List.mem_append_right _ z)) fun z => by
  obtain ⟨hb,e⟩ := of_pinsAt z
  obtain ⟨f0,f1,f2,_⟩ := hf p.1 hb
  obtain ⟨o,e',d⟩ := ho p.1 hb
  rw [e] at e'; cases e'
  exact ⟨e,f0,f1,f2,d⟩
theorem Inv.unpinned {pins pl : List (Addr × Obj)} {σ : St} {H : Hp} {s : Shared} (I : Inv X (pins ++ pl) σ H s) : Inv X pins σ H s := I.pins_of fun p hp => I.pin p (List.mem_append_right _ (List.mem_append_left _ hp))
theorem ps_for {iter : Expr} {body : List Stmt} {wi : TI} {g : TG} {tb : TS} {pos : Pos} (hp : PassesOwn (model X.prog X.w) X.A X.env X.xe) (hc : X.calm = true) (hi : PI X tg iter wi) (hg : PG X tg g) (hb : PSs X body tb)
  (hs : ∀ x,foldedSetIterable iter X.env x = pure x := by intro _; rfl) : PS X (.For tg iter body [] pos) (tFor wi g tb) := by
 intro pins s σ H D I h
 refine wpAny_For (thn (hi pins s σ H _ I h) fun v s1 h1 => thn h1 fun itv s2 h2 => ?_) hs
 obtain ⟨it,fp,tn,J,H2,e,I2,T,st2,f2,W,⟨m0,w0⟩,turn⟩ := h2
 subst e
 have stat : ∀ {H' : Hp},(∀ b ∈ fp,H' b = none) → ∀ b ∈ fp,FpOk X pins H' b := fun hn b hb => ⟨hn b hb,(f2 b hb).2⟩
 refine codeAny_forLoop_any (fun n s' => ∃ i σ' H',Inv X pins σ' H' s' ∧ tn i s'.heap ∧ (∀ b ∈ fp,H' b = none) ∧ W i n σ' H') ?_ m0 ⟨0,σ,H2,I2,st2,fun b hb => (f2 b hb).1,w0⟩
 intro n s3 z9;obtain ⟨i,σ3,H3,I3,st3,fr3,w3⟩ := z9
 rcases turn i n σ3 H3 w3 with ⟨stop,qn⟩ | ⟨go,N,hN,step⟩
 ·refine wpAny_passesOwn hp (thn (T.done X rfl rfl rfl hc i pins s3 σ3 H3 X.xe I3 (stat fr3) st3 stop) fun r s4 ⟨hr,I4⟩ => ?_)
  subst hr
  exact wpAny_execs_nil ⟨σ3,H3,I4,qn⟩
 ·refine wpAny_passesOwn hp (thn (T.item X rfl rfl rfl hc i pins s3 σ3 H3 X.xe I3 (stat fr3) st3 go) fun r s4 ⟨u,hr,h4⟩ => ?_)
  subst hr
  refine wpAny_passesOwn hp (thn h4 fun _ s5 ⟨x,H5,I5,r5,y5,st5,fr5⟩ => ?_)
  have I5' := I5.pinned (stat fr5) (T.obj _ _ st5)
  refine wpAny_passesOwn hp (thn (hg _ s5 σ3 H5 x u _ I5' r5 (step x H5 y5)) fun _ s6 ⟨σ6,H6,I6,q6⟩ => ?_)
  refine wpAny_passesOwn hp (thn (hb _ s6 σ6 H6 _ I6 q6) fun f s7 q7 => ?_)
  have again : ∀ {σ7 : St} {H7 : Hp},Inv X (pins ++ pinsAt fp s5.heap) σ7 H7 s7 → N σ7 H7 → ∃ m,m < n ∧ ∃ i σ' H',Inv X pins σ' H' s7 ∧ tn i s7.heap ∧ (∀ b ∈ fp,H' b = none) ∧ W i m σ' H' := fun {σ7 H7} I7 n7 => by
   obtain ⟨m',hm,w7⟩ := hN σ7 H7 n7
   refine ⟨m',hm,i + 1,σ7,H7,I7.unpinned,T.keep _ _ _ st5 fun b hb o e => (I7.pin (b,o) (List.mem_append_right _ (List.mem_append_right _ (mem_pinsAt hb e)))).1,fun b hb => ?_,w7⟩
   obtain ⟨o,e,d⟩ := T.obj _ _ st5 b hb
   exact (I7.pin (b,o) (List.mem_append_right _ (List.mem_append_right _ (mem_pinsAt hb e)))).2.1
  cases f with
  | next => obtain ⟨σ7,H7,I7,n7⟩ := q7; exact again I7 n7
  | cont => obtain ⟨σ7,H7,I7,n7⟩ := q7; exact again I7 n7
  | brk => obtain ⟨σ7,H7,I7,q7⟩ := q7; exact ⟨σ7,H7,I7.unpinned,q7⟩
  | ret v => obtain ⟨x7,σ7,H7,I7,r7,q7⟩ := q7; exact ⟨x7,σ7,H7,I7.unpinned,r7,q7⟩
end
theorem for_list {K : PySem.W.Frag} {a : Addr} {xs : List V} {g : TG} {tb : TS} {D : Ends} {σ : St} {H : Hp} (Pv : Nat → St → Hp → Prop) (h0 : Pv 0 σ H) (hl : ∀ i σ H,i ≤ xs.length → Pv i σ H → SqL K H a xs)
  (hs : ∀ i x σ H,xs[i]? = some x → Pv i σ H → g x σ H fun σ2 H2 => tb { D with nx := Pv (i + 1),ct := Pv (i + 1),bk := D.nx } σ2 H2) (hd : ∀ σ H,Pv xs.length σ H → D.nx σ H) :
  ∃ W : Nat → Nat → St → Hp → Prop,(∃ m,W 0 m σ H) ∧ ∀ i m σ H,W i m σ H →
   ((Itl K a).stop i H ∧ D.nx σ H) ∨ ((Itl K a).go i H ∧ ∃ N : St → Hp → Prop,(∀ σ' H',N σ' H' → ∃ m',m' < m ∧ W (i + 1) m' σ' H') ∧ ∀ x H',(Itl K a).yld i H x H' → g x σ H' fun σ2 H2 => tb { D with nx := N,ct := N,bk := D.nx } σ2 H2) := by
 refine ⟨fun i m σ H => m = xs.length - i ∧ i ≤ xs.length ∧ Pv i σ H,⟨xs.length,by simp,Nat.zero_le _,h0⟩,?_⟩
 intro i m σ H z9;obtain ⟨rfl,hi,p⟩ := z9
 have q := hl i σ H hi p
 by_cases hlt : i < xs.length
 ·refine .inr ⟨⟨xs,xs[i],q,by simp [hlt]⟩,Pv (i + 1),fun σ' H' p' => ⟨xs.length - (i + 1),by omega,rfl,hlt,p'⟩,fun x H' y => ?_⟩
  obtain ⟨e,y⟩ := y
  subst e
  exact hs i x σ _ (y xs q) p
 ·have e : i = xs.length := by omega
  subst e
  exact .inl ⟨⟨xs,q,Nat.le_refl _⟩,hd σ H p⟩
theorem for_range {lo : Int} {n : Nat} {g : TG} {tb : TS} {D : Ends} {σ : St} {H : Hp} (Pv : Nat → St → Hp → Prop) (h0 : Pv 0 σ H)
  (hs : ∀ i σ H,i < n → Pv i σ H → g (.int (lo + i)) σ H fun σ2 H2 => tb { D with nx := Pv (i + 1),ct := Pv (i + 1),bk := D.nx } σ2 H2) (hd : ∀ σ H,Pv n σ H → D.nx σ H) :
  ∃ W : Nat → Nat → St → Hp → Prop,(∃ m,W 0 m σ H) ∧ ∀ i m σ H,W i m σ H →
   ((Itr lo n).stop i H ∧ D.nx σ H) ∨ ((Itr lo n).go i H ∧ ∃ N : St → Hp → Prop,(∀ σ' H',N σ' H' → ∃ m',m' < m ∧ W (i + 1) m' σ' H') ∧ ∀ x H',(Itr lo n).yld i H x H' → g x σ H' fun σ2 H2 => tb { D with nx := N,ct := N,bk := D.nx } σ2 H2) := by
 refine ⟨fun i m σ H => m = n - i ∧ i ≤ n ∧ Pv i σ H,⟨n,by simp,Nat.zero_le _,h0⟩,?_⟩
 intro i m σ H z9;obtain ⟨rfl,hi,p⟩ := z9
 by_cases hlt : i < n
 ·refine .inr ⟨hlt,Pv (i + 1),fun σ' H' p' => ⟨n - (i + 1),by omega,rfl,hlt,p'⟩,fun x H' y => ?_⟩
  obtain ⟨e,y⟩ := y
  subst e y
  exact hs i σ _ hlt p
 ·have e : i = n := by omega
  subst e
  exact .inl ⟨Nat.le_refl _,hd σ H p⟩
theorem while_by {c : TT} {tb : TS} {D : Ends} {σ : St} {H : Hp} (Pv : St → Hp → Prop) (μ : St → Hp → Nat) (h0 : Pv σ H)
  (hs : ∀ σ H,Pv σ H → c σ H fun b H1 => if b = true then tb { D with nx := fun σ' H' => Pv σ' H' ∧ μ σ' H' < μ σ H,ct := fun σ' H' => Pv σ' H' ∧ μ σ' H' < μ σ H,bk := D.nx } σ H1 else D.nx σ H1)
  (mono : ∀ σ H Q Q',(∀ b H1,Q b H1 → Q' b H1) → c σ H Q → c σ H Q') : tWhile c tb D σ H := by
 refine ⟨fun m σ H => m = μ σ H ∧ Pv σ H,⟨_,rfl,h0⟩,?_⟩
 intro m σ H z9;obtain ⟨rfl,p⟩ := z9
 refine mono σ H _ _ (fun b H1 q => ?_) (hs σ H p)
 cases b with
 | true => exact ⟨_,fun σ' H' ⟨p',l⟩ => ⟨_,l,rfl,p'⟩,q⟩
 | false => exact q
end L2
namespace L2
open PySem PySem.Spec PyProof.Rows
noncomputable abbrev R2 := V → V → Hp → VK → Prop
noncomputable def OpR (X : Cx) (f : Value → Value → Sem Value) (r : R2) : Prop :=
 ∀ (pins : List (Addr × Obj)) (s : Shared) (σ : St) (H : Hp) (x y : V) (v u : Value) (Q : VK),Inv X pins σ H s → RelV x v → RelV y u → r x y H Q →
  wpAny (model X.prog X.w) X.A (f v u) (EP X pins σ Q) X.xe s
noncomputable def UnR (X : Cx) (f : Value → Sem Value) (r : V → Hp → VK → Prop) : Prop :=
 ∀ (pins : List (Addr × Obj)) (s : Shared) (σ : St) (H : Hp) (x : V) (v : Value) (Q : VK),Inv X pins σ H s → RelV x v → r x H Q →
  wpAny (model X.prog X.w) X.A (f v) (EP X pins σ Q) X.xe s
noncomputable def CallR (X : Cx) (f : Value) (r : List V → Hp → VK → Prop) : Prop :=
 ∀ (pins : List (Addr × Obj)) (s : Shared) (σ : St) (H : Hp) (xs : List V) (us : List Value) (Q : VK),Inv X pins σ H s → Vals xs us → r xs H Q →
  wpAny (model X.prog X.w) X.A (call f us) (EP X pins σ Q) X.xe s
noncomputable def tOp (r : R2) (ta tb : TE) : TE := fun σ H Q => ta σ H fun x H1 => tb σ H1 fun y H2 => r x y H2 Q
noncomputable def tUn (r : V → Hp → VK → Prop) (ta : TE) : TE := fun σ H Q => ta σ H fun x H1 => r x H1 Q
noncomputable def rI (C : Int → Int → Prop) (g : Int → Int → V) : R2 := fun x y H Q => ∃ i j,x = .int i ∧ y = .int j ∧ C i j ∧ Q (g i j) H
noncomputable def rI0 (g : Int → Int → V) : R2 := fun x y H Q => ∃ i j,x = .int i ∧ y = .int j ∧ Q (g i j) H
noncomputable def rU (g : Int → V) : V → Hp → VK → Prop := fun x H Q => ∃ i,x = .int i ∧ Q (g i) H
section
variable {X : Cx} {a b c : Expr} {ta tb tc : TE} {pos : Pos}
theorem binT (ha : PE X a ta) (hb : PE X b tb) {pins : List (Addr × Obj)} {s : Shared} {σ : St} {H : Hp} {R : V → V → Hp → Prop} (I : Inv X pins σ H s)
  (h : ta σ H fun x H1 => tb σ H1 fun y H2 => R x y H2) {Q : Value → Shared → Prop} {f : Value → Value → Sem Value}
  (hf : ∀ v u s2 x y H2,Inv X pins σ H2 s2 → RelV x v → RelV y u → R x y H2 → wpAny (model X.prog X.w) X.A (f v u) Q X.xe s2) :
  wpAny (model X.prog X.w) X.A (eval a X.env) (fun v s₁ => wpAny (model X.prog X.w) X.A (eval b X.env) (fun u s₂ => wpAny (model X.prog X.w) X.A (f v u) Q X.xe s₂) X.xe s₁) X.xe s := by
 refine thn (ha pins s σ H _ I h) fun v s1 ⟨x,H1,I1,r1,q1⟩ => ?_
 refine thn (hb pins s1 σ H1 _ I1 q1) fun u s2 ⟨y,H2,I2,r2,q2⟩ => ?_
 exact hf v u s2 x y H2 I2 r1 r2 q2
theorem pe_op {op : Operator} {r : R2} (ho : OpR X (binaryOp op) r) (ha : PE X a ta) (hb : PE X b tb) : PE X (.BinOp a op b pos) (tOp r ta tb) := by
 intro pins s σ H Q I h
 exact wpAny_BinOp (binT ha hb I h fun v u s2 x y H2 I2 rx ry q => ho pins s2 σ H2 x y v u Q I2 rx ry q)
theorem pe_un {op : UnaryOp} {r : V → Hp → VK → Prop} (ho : UnR X (unaryOp op) r) (ha : PE X a ta) : PE X (.UnaryOp op a pos) (tUn r ta) := by
 intro pins s σ H Q I h
 exact UnaryOp_ (thn (ha pins s σ H _ I h) fun v s1 ⟨x,H1,I1,r1,q1⟩ => ho pins s1 σ H1 x v Q I1 r1 q1)
theorem opI {f : Value → Value → Sem Value} {C : Int → Int → Prop} {g : Int → Int → Int}
  (rule : ∀ (i j : Int) (t u : Tok) (s : Shared) (Q : Value → Shared → Prop) (E : Value → Shared → Prop),C i j → Q (.int (g i j) s.toks) { s with toks := s.toks + 1 } → wpAny (model X.prog X.w) X.A (f (.int i t) (.int j u)) Q E s) :
  OpR X f (rI C fun i j => .int (g i j)) := by
 intro pins s σ H x y v u Q I rx ry h
 obtain ⟨i,j,rfl,rfl,hc,q⟩ := h
 obtain ⟨t,rfl⟩ := rx
 obtain ⟨t',rfl⟩ := ry
 exact rule i j t t' s _ _ hc ⟨.int (g i j),H,I.tok _,⟨_,rfl⟩,q⟩
theorem opI0 {f : Value → Value → Sem Value} {g : Int → Int → Int}
  (rule : ∀ (i j : Int) (t u : Tok) (s : Shared) (Q : Value → Shared → Prop) (E : Value → Shared → Prop),Q (.int (g i j) s.toks) { s with toks := s.toks + 1 } → wpAny (model X.prog X.w) X.A (f (.int i t) (.int j u)) Q E s) :
  OpR X f (rI0 fun i j => .int (g i j)) := by
 intro pins s σ H x y v u Q I rx ry h
 obtain ⟨i,j,rfl,rfl,q⟩ := h
 obtain ⟨t,rfl⟩ := rx
 obtain ⟨t',rfl⟩ := ry
 exact rule i j t t' s _ _ ⟨.int (g i j),H,I.tok _,⟨_,rfl⟩,q⟩
theorem opB0 {f : Value → Value → Sem Value} {g : Int → Int → Bool}
  (rule : ∀ (i j : Int) (t u : Tok) (s : Shared) (Q : Value → Shared → Prop) (E : Value → Shared → Prop),Q (.bool (g i j)) s → wpAny (model X.prog X.w) X.A (f (.int i t) (.int j u)) Q E s) :
  OpR X f (rI0 fun i j => .bl (g i j)) := by
 intro pins s σ H x y v u Q I rx ry h
 obtain ⟨i,j,rfl,rfl,q⟩ := h
 obtain ⟨t,rfl⟩ := rx
 obtain ⟨t',rfl⟩ := ry
 exact rule i j t t' s _ _ ⟨.bl (g i j),H,I,rfl,q⟩
noncomputable def CPow (i j : Int) : Prop := 0 ≤ j ∧ j ≤ 1000000 ∧ i.natAbs < 2 ^ 64
noncomputable def CMul (i j : Int) : Prop := (-(2 ^ 64) < i ∧ i < 2 ^ 64) ∨ (-(2 ^ 64) < j ∧ j < 2 ^ 64)
theorem CMul.ok {i j : Int} (h : CMul i j) : IntMulOk i j := by
 rcases h with ⟨h1,h2⟩ | ⟨h1,h2⟩
 ·exact .of_left (intBits_le_64 h1 h2)
 ·exact .of_right (intBits_le_64 h1 h2)
theorem op_add : OpR X (binaryOp .Add) (rI0 fun i j => .int (i + j)) := opI0 fun _ _ _ _ _ _ _ q => add_int q
theorem op_sub : OpR X (binaryOp .Sub) (rI0 fun i j => .int (i - j)) := opI0 fun _ _ _ _ _ _ _ q => sub_int q
theorem op_mul : OpR X (binaryOp .Mult) (rI CMul fun i j => .int (i * j)) := opI fun _ _ _ _ _ _ _ hc q => mul_int q hc.ok
theorem op_mod : OpR X (binaryOp .Mod) (rI (fun _ j => 0 < j) fun i j => .int (i % j)) := opI fun i j _ _ _ _ _ hc q => by
 have h1 : (0 : Int) < j := hc
 exact mod_int' (by omega) (by rw [Int.fmod_eq_emod_of_nonneg i (by omega)]; exact q)
theorem op_pow : OpR X (binaryOp .Pow) (rI CPow fun i j => .int (i ^ j.toNat)) := opI fun _ _ _ _ _ _ _ hc q => pow_int_small hc.1 hc.2.1 hc.2.2 q
theorem unI {f : Value → Sem Value} {g : Int → Int}
  (rule : ∀ (i : Int) (t : Tok) (s : Shared) (Q : Value → Shared → Prop) (E : Value → Shared → Prop),Q (.int (g i) s.toks) { s with toks := s.toks + 1 } → wpAny (model X.prog X.w) X.A (f (.int i t)) Q E s) :
  UnR X f (rU fun i => .int (g i)) := by
 intro pins s σ H x v Q I rx h
 obtain ⟨i,rfl,q⟩ := h
 obtain ⟨t,rfl⟩ := rx
 exact rule i t s _ _ ⟨.int (g i),H,I.tok _,⟨_,rfl⟩,q⟩
theorem un_neg : UnR X (unaryOp .USub) (rU fun i => .int (-i)) := unI fun _ _ _ _ _ q => neg_int q
end
noncomputable def scal : V → V → Bool
 | .non,.non => true | .non,.int _ => true | .int _,.non => true | .non,.bl _ => true | .bl _,.non => true | .non,.str _ => true | .str _,.non => true
 | .int _,.int _ => true | .bl _,.bl _ => true | .str _,.str _ => true | .byt _,.byt _ => true
 | .int _,.str _ => true | .str _,.int _ => true | .bl _,.str _ => true | .str _,.bl _ => true
 | _,_ => false
noncomputable def rEq : R2 := fun x y H Q => scal x y = true ∧ Q (.bl (decide (x = y))) H
noncomputable def rNe : R2 := fun x y H Q => scal x y = true ∧ Q (.bl (!decide (x = y))) H
theorem dec_int {i j : Int} : decide (V.int i = V.int j) = (i == j) := by
 rw [Bool.eq_iff_iff]
 simp
theorem dec_bl {i j : Bool} : decide (V.bl i = V.bl j) = (i == j) := by
 rw [Bool.eq_iff_iff]
 simp
theorem dec_str {i j : Str} : decide (V.str i = V.str j) = (i == j) := by
 rw [Bool.eq_iff_iff]
 simp
theorem dec_byt {i j : Array UInt8} : decide (V.byt i = V.byt j) = (i.toList == j.toList) := by
 rw [Bool.eq_iff_iff]
 cases i
 cases j
 simp
section
variable {X : Cx} {a b c : Expr} {ta tb tc : TE} {pos : Pos}
theorem fin_bl {pins : List (Addr × Obj)} {σ : St} {H : Hp} {s : Shared} {Q : VK} {k k' : Bool} (I : Inv X pins σ H s) (q : Q (.bl k) H) (e : k = k') : EP X pins σ Q (.bool k') s := by
 subst e
 exact ⟨.bl k,H,I,rfl,q⟩
theorem op_eq : OpR X (compareOp .Eq) rEq := by
 intro pins s σ H x y v u Q I rx ry h
 obtain ⟨hs,q⟩ := h
 cases x with
 | non =>
  cases rx
  cases y with
  | non => cases ry; exact PySem.EqNone.eq_none_none (fin_bl I q (by simp))
  | bl j => cases ry; exact PySem.EqNone.eq_none_bool (fin_bl I q (by simp))
  | int j => obtain ⟨t',rfl⟩ := ry; exact PySem.EqNone.eq_none_int (fin_bl I q (by simp))
  | str j => obtain ⟨t',rfl⟩ := ry; exact PySem.EqNone.eq_none_str (fin_bl I q (by simp))
  | _ => exact absurd (show false = true from hs) Bool.false_ne_true
 | bl i =>
  cases rx
  cases y with
  | non => cases ry; exact PySem.EqNone.eq_bool_none (fin_bl I q (by simp))
  | bl j => cases ry; exact eq_bool (fin_bl I q dec_bl)
  | str j => obtain ⟨t',rfl⟩ := ry; exact PySem.EqMixed.eq_bool_str (fin_bl I q (by simp))
  | _ => exact absurd (show false = true from hs) Bool.false_ne_true
 | int i =>
  obtain ⟨t,rfl⟩ := rx
  cases y with
  | non => cases ry; exact PySem.EqNone.eq_int_none (fin_bl I q (by simp))
  | int j => obtain ⟨t',rfl⟩ := ry; exact eq_int (fin_bl I q dec_int)
  | str j => obtain ⟨t',rfl⟩ := ry; exact PySem.EqMixed.eq_int_str (fin_bl I q (by simp))
  | _ => exact absurd (show false = true from hs) Bool.false_ne_true
 | str i =>
  obtain ⟨t,rfl⟩ := rx
  cases y with
  | non => cases ry; exact PySem.EqNone.eq_str_none (fin_bl I q (by simp))
  | bl j => cases ry; exact PySem.EqMixed.eq_str_bool (fin_bl I q (by simp))
  | int j => obtain ⟨t',rfl⟩ := ry; exact PySem.EqMixed.eq_str_int (fin_bl I q (by simp))
  | str j => obtain ⟨t',rfl⟩ := ry; exact eq_str (fin_bl I q dec_str)
  | _ => exact absurd (show false = true from hs) Bool.false_ne_true
 | byt i =>
  obtain ⟨t,rfl⟩ := rx
  cases y with
  | byt j => obtain ⟨t',rfl⟩ := ry; exact PySem.W.eq_bytes (fin_bl I q dec_byt)
  | _ => exact absurd (show false = true from hs) Bool.false_ne_true
 | _ => cases y <;> exact absurd (show false = true from hs) Bool.false_ne_true
theorem op_ne : OpR X (compareOp .NotEq) rNe := by
 intro pins s σ H x y v u Q I rx ry h
 obtain ⟨hs,q⟩ := h
 cases x with
 | non =>
  cases rx
  cases y with
  | non => cases ry; exact PySem.EqNone.ne_none_none (fin_bl I q (by simp))
  | bl j => cases ry; exact PySem.EqNone.ne_none_bool (fin_bl I q (by simp))
  | int j => obtain ⟨t',rfl⟩ := ry; exact PySem.EqNone.ne_none_int (fin_bl I q (by simp))
  | str j => obtain ⟨t',rfl⟩ := ry; exact PySem.EqNone.ne_none_str (fin_bl I q (by simp))
  | _ => exact absurd (show false = true from hs) Bool.false_ne_true
 | bl i =>
  cases rx
  cases y with
  | non => cases ry; exact PySem.EqNone.ne_bool_none (fin_bl I q (by simp))
  | bl j => cases ry; exact ne_bool (fin_bl I q (congrArg not dec_bl))
  | str j => obtain ⟨t',rfl⟩ := ry; exact PySem.EqMixed.ne_bool_str (fin_bl I q (by simp))
  | _ => exact absurd (show false = true from hs) Bool.false_ne_true
 | int i =>
  obtain ⟨t,rfl⟩ := rx
  cases y with
  | non => cases ry; exact PySem.EqNone.ne_int_none (fin_bl I q (by simp))
  | int j => obtain ⟨t',rfl⟩ := ry; exact ne_int (fin_bl I q (congrArg not dec_int))
  | str j => obtain ⟨t',rfl⟩ := ry; exact PySem.EqMixed.ne_int_str (fin_bl I q (by simp))
  | _ => exact absurd (show false = true from hs) Bool.false_ne_true
 | str i =>
  obtain ⟨t,rfl⟩ := rx
  cases y with
  | non => cases ry; exact PySem.EqNone.ne_str_none (fin_bl I q (by simp))
  | bl j => cases ry; exact PySem.EqMixed.ne_str_bool (fin_bl I q (by simp))
  | int j => obtain ⟨t',rfl⟩ := ry; exact PySem.EqMixed.ne_str_int (fin_bl I q (by simp))
  | str j => obtain ⟨t',rfl⟩ := ry; exact ne_str (fin_bl I q (congrArg not dec_str))
  | _ => exact absurd (show false = true from hs) Bool.false_ne_true
 | byt i =>
  obtain ⟨t,rfl⟩ := rx
  cases y with
  | byt j => obtain ⟨t',rfl⟩ := ry; exact PySem.W.ne_bytes (fin_bl I q (congrArg not dec_byt))
  | _ => exact absurd (show false = true from hs) Bool.false_ne_true
 | _ => cases y <;> exact absurd (show false = true from hs) Bool.false_ne_true
theorem op_lt : OpR X (compareOp .Lt) (rI0 fun i j => .bl (decide (i < j))) := opB0 fun _ _ _ _ _ _ _ q => lt_int q
theorem op_le : OpR X (compareOp .LtE) (rI0 fun i j => .bl (decide (i ≤ j))) := opB0 fun _ _ _ _ _ _ _ q => le_int q
theorem op_gt : OpR X (compareOp .Gt) (rI0 fun i j => .bl (decide (j < i))) := opB0 fun _ _ _ _ _ _ _ q => gt_int q
theorem op_ge : OpR X (compareOp .GtE) (rI0 fun i j => .bl (decide (j ≤ i))) := opB0 fun _ _ _ _ _ _ _ q => ge_int q
theorem OpR.or {f : Value → Value → Sem Value} {r r' : R2} (h : OpR X f r) (h' : OpR X f r') : OpR X f (fun x y H Q => r x y H Q ∨ r' x y H Q) := by
 intro pins s σ H x y v u Q I rx ry q
 rcases q with q | q
 ·exact h pins s σ H x y v u Q I rx ry q
 ·exact h' pins s σ H x y v u Q I rx ry q
theorem nomark (b : Expr) {op : CmpOp} (h : op ≠ .In := by decide) (h2 : op ≠ .NotIn := by decide) : behindInMarks op b = false := by
 have e1 : (op == CmpOp.In) = false := by cases op <;> first | rfl | exact absurd rfl h
 have e2 : (op == CmpOp.NotIn) = false := by cases op <;> first | rfl | exact absurd rfl h2
 cases b <;> simp [behindInMarks,e1,e2]
theorem pe_cmpR {op : CmpOp} {r : R2} (ho : OpR X (compareOp op) r) (ha : PE X a ta) (hb : PE X b tb) (hm : behindInMarks op b = false) : PE X (.Compare a [op] [b] pos) (tOp r ta tb) := by
 intro pins s σ H Q I h
 exact wpAny_Compare1 (binT ha hb I h fun v u s2 x y H2 I2 rx ry q => ho pins s2 σ H2 x y v u Q I2 rx ry q) hm
noncomputable def tTest (t : TE) : TT := fun σ H Q => t σ H fun x H' => ∃ k,x = .bl k ∧ Q k H'
theorem pt_cmpR {op : CmpOp} {r : R2} (ho : OpR X (compareOp op) r) (ha : PE X a ta) (hb : PE X b tb) (hm : behindInMarks op b = false) : PT X (.Compare a [op] [b] pos) (tTest (tOp r ta tb)) := by
 intro pins s σ H Q I h
 refine wpAny_isTrue_Compare1 (thn (ha pins s σ H _ I h) fun v s1 ⟨x,H1,I1,r1,q1⟩ => thn (hb pins s1 σ H1 _ I1 q1) fun u s2 ⟨y,H2,I2,r2,q2⟩ =>
  thn (ho pins s2 σ H2 x y v u _ I2 r1 r2 q2) fun c s3 ⟨z,H3,I3,r3,k,e,q3⟩ => ?_) hm
 subst e
 cases r3
 exact wpAny_truthy_bool ⟨H3,I3,q3⟩
noncomputable def tChain (r r' : R2) (ta tb tc : TE) : TE := fun σ H Q => ta σ H fun x H1 => tb σ H1 fun y H2 => r x y H2 fun z H3 => ∃ k,z = .bl k ∧
 (if k = true then tc σ H3 fun w' H4 => r' y w' H4 Q else Q (.bl false) H3)
theorem pe_chain {op op' : CmpOp} {r r' : R2} (ho : OpR X (compareOp op) r) (ho' : OpR X (compareOp op') r') (ha : PE X a ta) (hb : PE X b tb) (hc : PE X c tc)
  (hm : lastMarks [op,op'] [b,c] = false := by with_unfolding_all rfl) : PE X (.Compare a [op,op'] [b,c] pos) (tChain r r' ta tb tc) := by
 intro pins s σ H Q I h
 refine Compare_chain (thn (ha pins s σ H _ I h) fun v s1 ⟨x,H1,I1,r1,q1⟩ => chain_link (thn (hb pins s1 σ H1 _ I1 q1) fun u s2 ⟨y,H2,I2,r2,q2⟩ =>
  thn (ho pins s2 σ H2 x y v u _ I2 r1 r2 q2) fun d s3 ⟨z,H3,I3,r3,k,e,q3⟩ => ?_)) hm
 subst e
 cases r3
 refine wpAny_truthy_bool ?_
 cases k with
 | false => exact ite_ff ⟨.bl false,H3,I3,rfl,q3⟩
 | true => exact ite_tt (chain_last (thn (hc pins s3 σ H3 _ I3 q3) fun w' s4 ⟨z',H4,I4,r4,q4⟩ => ho' pins s4 σ H4 y z' u w' Q I4 r2 r4 q4))
theorem pt_chain {op op' : CmpOp} {r r' : R2} (ho : OpR X (compareOp op) r) (ho' : OpR X (compareOp op') r') (ha : PE X a ta) (hb : PE X b tb) (hc : PE X c tc)
  (hm : lastMarks [op,op'] [b,c] = false := by with_unfolding_all rfl) : PT X (.Compare a [op,op'] [b,c] pos) (tTest (tChain r r' ta tb tc)) := by
 intro pins s σ H Q I h
 refine isTrue_chain (thn (ha pins s σ H _ I h) fun v s1 ⟨x,H1,I1,r1,q1⟩ => test_link (thn (hb pins s1 σ H1 _ I1 q1) fun u s2 ⟨y,H2,I2,r2,q2⟩ =>
  thn (ho pins s2 σ H2 x y v u _ I2 r1 r2 q2) fun d s3 ⟨z,H3,I3,r3,k,e,q3⟩ => ?_)) hm
 subst e
 cases r3
 refine wpAny_truthy_bool ?_
 cases k with
 | false =>
  obtain ⟨k',e',q'⟩ := q3
  cases e'
  exact ite_ff ⟨H3,I3,q'⟩
 | true =>
  refine ite_tt (test_last (thn (hc pins s3 σ H3 _ I3 q3) fun w' s4 ⟨z',H4,I4,r4,q4⟩ => thn (ho' pins s4 σ H4 y z' u w' _ I4 r2 r4 q4) fun d' s5 ⟨z2,H5,I5,r5,k2,e2,q5⟩ => ?_))
  subst e2
  cases r5
  exact wpAny_truthy_bool ⟨H5,I5,q5⟩
theorem line63 : (sizeLine : Nat) < 2 ^ 63 := by rw [sizeLine_eq]; decide
theorem op_add_str : OpR X (binaryOp .Add) (fun x y H Q => ∃ i j,x = .str i ∧ y = .str j ∧ i.length + j.length ≤ sizeLine ∧ Q (.str (i ++ j)) H) := by
 intro pins s σ H x y v u Q I rx ry h
 obtain ⟨i,j,rfl,rfl,hz,q⟩ := h
 obtain ⟨t,rfl⟩ := rx
 obtain ⟨t',rfl⟩ := ry
 exact add_str (fun t' tk => ⟨.str (i ++ j),H,I.tok _,⟨_,rfl⟩,q⟩) hz
theorem vals1 {x : V} {us : List Value} (r : Vals [x] us) : ∃ u,us = [u] ∧ RelV x u := by
 cases r with
 | cons r1 r2 => cases r2; exact ⟨_,rfl,r1⟩
theorem vals2 {x y : V} {us : List Value} (r : Vals [x,y] us) : ∃ u w',us = [u,w'] ∧ RelV x u ∧ RelV y w' := by
 cases r with
 | cons r1 r2 =>
  cases r2 with
  | cons r3 r4 => cases r4; exact ⟨_,_,rfl,r1,r3⟩
theorem call_min2 (hc : X.calm = true) : CallR X (.builtin "min") (fun xs H Q => ∃ i j,xs = [.int i,.int j] ∧ Q (.int (if j < i then j else i)) H) := by
 intro pins s σ H xs us Q I r h
 obtain ⟨i,j,rfl,q⟩ := h
 obtain ⟨u,w',rfl,⟨t,rfl⟩,⟨t',rfl⟩⟩ := vals2 r
 refine min_two_ints (I.ok.hd hc) fun h' tk k => ⟨_,H,I.kept k,?_,q⟩
 by_cases hj : j < i
 ·rw [if_pos hj,if_pos hj]; exact ⟨_,rfl⟩
 ·rw [if_neg hj,if_neg hj]; exact ⟨_,rfl⟩
theorem call_str_int : CallR X (.type "str") (fun xs H Q => ∃ i,xs = [.int i] ∧ i.natAbs.log2 < 1920 ∧ Q (.str (toString i)) H) := by
 intro pins s σ H xs us Q I r h
 obtain ⟨i,rfl,hz,q⟩ := h
 obtain ⟨u,rfl,t,rfl⟩ := vals1 r
 exact PySem.P.str_of_int hz ⟨.str _,H,I.tok _,⟨_,rfl⟩,q⟩
end
end L2
namespace L2
open PySem PySem.Spec PyProof.Rows
structure ObjM (h : Heap) (x dx C : Addr) (mA : Str → Option Value) : Prop where
 obj : h.get? x = some (PySem.W.instObj C dx)
 ns : h.Ns1 dx mA
 ne : dx ≠ x
theorem lookIn_ns {h : Heap} {dx : Addr} {mA : Str → Option Value} (n : h.Ns1 dx mA) : ∃ od,h.get? dx = some od ∧ ∀ name,PySem.W.lookIn name od = some (mA name) := by
 obtain ⟨o,es,ep,ho,hd,hk,_,hm⟩ := n
 refine ⟨o,ho,fun name => ?_⟩
 have e := hm name
 unfold nsFind findBy at e
 rw [← Array.find?_toList] at e
 unfold PySem.W.lookIn
 rw [hd]
 dsimp only
 split
 ·rename_i y q
  rw [q] at e
  exact congrArg some e
 ·rename_i q
  rw [q] at e
  have a : es.toList.any (·.refKey) = false := by
   rw [List.any_eq_false]
   intro y hy
   obtain ⟨z,t,hkey⟩ := hk y (Array.mem_toList_iff.mp hy)
   simp [DictEntry.refKey,hkey]
  have a' : ¬ es.toList.any (·.refKey) = true := by rw [a]; exact Bool.false_ne_true
  rw [if_neg a']
  exact congrArg some e
theorem ObjM.look {h : Heap} {x dx C : Addr} {mA : Str → Option Value} (I : ObjM h x dx C mA) : ∃ od,PySem.W.InstAt h x (PySem.W.instObj C dx) C (some od) ∧ ∀ name,PySem.W.lookIn name od = some (mA name) :=
 let ⟨od,ho,hl⟩ := lookIn_ns I.ns
 ⟨od,⟨I.obj,rfl,rfl,ho⟩,hl⟩
section
variable {prog : Program} {w : World} {A : Around} {E : Value → Shared → Prop} {s : Shared} {K : PySem.W.Frag} {x dx C f : Addr} {mA : Str → Option Value} {name : Str} {v : Value}
end
section
variable {P : Program} {w : World} {H H' : Hp} {h h' : Heap} {a C dx : Addr} {fs fs' : List (Str × V)}
theorem ins_get (hok : HOk P w H h) (e : H a = some (.ins C dx fs)) : ∃ mA,ObjM h a dx C mA ∧ (∀ f,RelO (fs.lookup f) (mA f)) ∧ PySem.Within mA (fs.map (·.1)) ∧ fs.length ≤ 1000 ∧ H dx = some (.own a) := by
 obtain ⟨d,z,ne,ob,mA,n,r,q⟩ := (show ObjOk P w H h a (.ins C dx fs) from hok a _ e)
 exact ⟨mA,⟨ob,n,ne⟩,r,q,z,d⟩
end
structure Cls (K : PySem.W.Frag) (C : Addr) : Prop where
 pg : PySem.W.plainGet K C Str.empty = true
 hd : PySem.W.hasDictIn K C = true
 po : PySem.W.plainOver K C = true
 sa : PySem.W.findIn K (.ref C) "__setattr__" = some (some (.builtin "object.__setattr__"))
theorem Cls.get {K : PySem.W.Frag} {C : Addr} (c : Cls K C) (f : Str) : PySem.W.plainGet K C f = true := c.pg
structure Con (K : PySem.W.Frag) (C : Addr) (f : Str) (v : V) (u : Value) : Prop where
 at_ : PySem.W.findIn K (.ref C) f = some (some u)
 rel : RelV v u
 get : PySem.W.specialIn K u "__get__" = some none
 cp : PySem.W.copiedNames.contains f = false
structure Meth (K : PySem.W.Frag) (C : Addr) (m : Str) (f : Addr) : Prop where
 at_ : PySem.W.findIn K (.ref C) m = some (some (.ref f))
 fn : PySem.W.isFn K (.ref f) = true
 kp : PySem.W.keepIn K (.ref f) = true
section
variable {X : Cx} {pins : List (Addr × Obj)} {σ : St} {H : Hp} {s : Shared} {a C dx : Addr} {fs : List (Str × V)} {f : Str} {v : V} {A : Around} {E : Value → Shared → Prop}
theorem Inv.made (I : Inv X pins σ H s) : Inv X pins σ (upd (upd H s.heap.objs.size (.own (s.heap.objs.size + 1))) (s.heap.objs.size + 1) (.ins C s.heap.objs.size []))
  { s with heap := (s.heap.push PySem.W.emptyDict).push (PySem.W.instObj C s.heap.objs.size) } := by
 have e1 : (s.heap.push PySem.W.emptyDict).get? s.heap.objs.size = some PySem.W.emptyDict := Heap.get?_push_size s.heap rfl
 have e2 : ((s.heap.push PySem.W.emptyDict).push (PySem.W.instObj C s.heap.objs.size)).get? (s.heap.objs.size + 1) = some (PySem.W.instObj C s.heap.objs.size) := by
  have := Heap.get?_push_size (s.heap.push PySem.W.emptyDict) (o := PySem.W.instObj C s.heap.objs.size) rfl
  rwa [Heap.size_push] at this
 have e3 : (s.heap.push PySem.W.emptyDict).Ns s.heap.objs.size (fun _ => none) := ⟨PySem.W.emptyDict,#[],_,e1,rfl,(fun e he => absurd he (by simp)),fun _ => rfl⟩
 have I1 := I.laid (a := s.heap.objs.size) (o := .own (s.heap.objs.size + 1)) (h' := s.heap.push PySem.W.emptyDict) (t' := s.toks) (fun b u q => Heap.get?_push_of_some _ q) (Nat.le_refl _) ⟨_,e1⟩
 refine I1.laid (a := s.heap.objs.size + 1) (o := .ins C s.heap.objs.size []) (t' := s.toks) (fun b u q => Heap.get?_push_of_some _ q) (Nat.le_of_eq (Heap.size_push _ _)) ?_
 have ne : s.heap.objs.size ≠ s.heap.objs.size + 1 := Nat.ne_of_lt (Nat.lt_succ_self _)
 refine ⟨by rw [upd_ne ne,upd_same],Nat.zero_le _,ne,e2,fun _ => none,(Heap.Ns1.of_empty e3).at fun o q => Heap.get?_push_of_some _ q,fun _ => True.intro,fun y hy => absurd rfl hy⟩
end
section
variable {X : Cx} {o e value : Expr} {f : Str} {pos pos' tpos : Pos} {ta tv : TE}
end
section
variable {X : Cx} {pins : List (Addr × Obj)} {σ : St} {H : Hp} {s : Shared} {A : Around} {E : Value → Shared → Prop} {Q : Value → Shared → Prop} {c : Value} {b : Bool}
inductive TyOf (K : PySem.W.Frag) (H : Hp) : V → Value → Prop where
 | non : TyOf K H .non (.type "NoneType")
 | bl (x : Bool) : TyOf K H (.bl x) (.type "bool")
 | int (i : Int) : TyOf K H (.int i) (.type "int")
 | str (x : Str) : TyOf K H (.str x) (.type "str")
 | flt (x : UInt64) : TyOf K H (.flt x) (.type "float")
 | lst {a : Addr} {xs : List V} (e : H a = some (.lst xs)) : TyOf K H (.ref a) (.type "list")
 | frz {a : Addr} {o : Obj} {xs : List V} (e : H a = some (.frz o (.lst xs))) : TyOf K H (.ref a) (.type "list")
 | tup {a : Addr} {xs : List V} (e : H a = some (.tup xs)) : TyOf K H (.ref a) (.type "tuple")
 | dK {a : Addr} {kvs : List (Key × V)} (e : H a = some (.dK kvs)) : TyOf K H (.ref a) (.type "dict")
 | dT {a : Addr} {kvs : List (List Key × V)} (e : H a = some (.dT kvs)) : TyOf K H (.ref a) (.type "dict")
 | ins {a C dx : Addr} {fs : List (Str × V)} (e : H a = some (.ins C dx fs)) (cl : Cls K C) (ha : PySem.W.findIn K (.ref C) "__class__" = some (some (.builtin "object.__class__")))
   (hn : PySem.W.specialIn K (.builtin "object.__class__") "__get__" = some (some (.builtin "getset_descriptor.__get__"))) (htk : PySem.W.takesIn K (.builtin "object.__class__") = some true)
   (hm : PySem.W.mroIn K C (.type "object") = some true) : TyOf K H (.ref a) (.ref C)
theorem isinst_ok {x : V} {u t : Value} (I : Inv X pins σ H s) (rx : RelV x u) (ty : TyOf X.K H x t) (e : PySem.W.kitOne X.K t c = some b) (h : ∀ tk,Q (.bool b) { s with toks := tk }) :
  wpAny (model X.prog X.w) A (call (.builtin "isinstance") [u,c]) Q E s := by
 cases ty with
 | non => cases (show u = Value.none from rx); exact PySem.W.kia_one PySem.W.kitx_none I.kIn True.intro e (fun z => nomatch z) h
 | bl y => cases (show u = Value.bool y from rx); exact PySem.W.kia_one PySem.W.kitx_bool I.kIn True.intro e (fun z => nomatch z) h
 | int i => obtain ⟨t,q⟩ := (show ∃ t,u = Value.int i t from rx); cases q; exact PySem.W.kia_one PySem.W.kitx_int I.kIn True.intro e (fun z => nomatch z) h
 | str y => obtain ⟨t,q⟩ := (show ∃ t,u = Value.str y t from rx); cases q; exact PySem.W.kia_one PySem.W.kitx_str I.kIn True.intro e (fun z => nomatch z) h
 | flt y => obtain ⟨t,q⟩ := (show ∃ t,u = Value.float y t from rx); cases q; exact PySem.W.kia_one PySem.W.kitx_float I.kIn True.intro e (fun z => nomatch z) h
 | @lst a xs ea =>
  cases (show u = Value.ref a from rx)
  obtain ⟨_,_,n,_,h1⟩ := (show ObjOk X.prog X.w H s.heap a (.lst xs) from I.hok a _ ea)
  exact PySem.W.kia_one PySem.W.kitx_list I.kIn ⟨_,h1,rfl⟩ e (fun z => nomatch z) h
 | @frz a ob xs ea =>
  cases (show u = Value.ref a from rx)
  obtain ⟨_,_,_,n,_,h1⟩ := (show ObjOk X.prog X.w H s.heap a (.frz ob (.lst xs)) from I.hok a _ ea)
  exact PySem.W.kia_one PySem.W.kitx_list I.kIn ⟨_,h1,rfl⟩ e (fun z => nomatch z) h
 | @tup a xs ea =>
  cases (show u = Value.ref a from rx)
  obtain ⟨_,_,_,p⟩ := (show ObjOk X.prog X.w H s.heap a (.tup xs) from I.hok a _ ea)
  obtain ⟨o,h1,h2,_⟩ := p
  exact PySem.W.kia_one PySem.W.kitx_tuple I.kIn ⟨o,h1,h2⟩ e (fun z => nomatch z) h
 | @dK a kvs ea =>
  cases (show u = Value.ref a from rx)
  obtain ⟨_,_,vs,_,p⟩ := (show ObjOk X.prog X.w H s.heap a (.dK kvs) from I.hok a _ ea)
  obtain ⟨o,es,ep,h1,h2,_⟩ := p
  exact PySem.W.kia_one PySem.W.kitx_dict I.kIn ⟨o,h1,h2.1⟩ e (fun z => nomatch z) h
 | @dT a kvs ea =>
  cases (show u = Value.ref a from rx)
  obtain ⟨_,_,xs,_,o,es,ep,h1,h2,_⟩ := (show ObjOk X.prog X.w H s.heap a (.dT kvs) from I.hok a _ ea)
  exact PySem.W.kia_one PySem.W.kitx_dict I.kIn ⟨o,h1,h2.1⟩ e (fun z => nomatch z) h
 | @ins a C dx fs ea cl ha hn htk hm =>
  cases (show u = Value.ref a from rx)
  obtain ⟨mA,O,_⟩ := ins_get I.hok ea
  obtain ⟨od,J,_⟩ := O.look
  exact PySem.W.kia_one (PySem.W.kitx_own (cl.get _) cl.hd ha hn htk hm) I.kIn J e (fun z => nomatch z) h
end
end L2
namespace L2
open PySem PySem.Spec PyProof.Rows
structure Room (k : Nat) (A : Around) : Prop where
 hd : A.handled = none
 dp : A.depth + 3 * k + 5 < recursionLimit
 un : A.units + 16 * k + 200 < cLine
theorem Room.mono {j k : Nat} {A : Around} (r : Room k A) (h : j ≤ k) : Room j A := ⟨r.hd,by have := r.dp; omega,by have := r.un; omega⟩
theorem Room.deeper {k : Nat} {A : Around} (r : Room (k + 1) A) (env : Env) : Room k (A.deeper env) :=
 ⟨r.hd,by have := r.dp; show A.depth + 1 + 3 * k + 5 < _; omega,by have := r.un; show A.units + 3 + 16 * k + 200 < _; omega⟩
theorem Room.in1 {k : Nat} {A : Around} (r : Room (k + 1) A) : Room k A.in1 :=
 ⟨r.hd,by have := r.dp; show A.depth + 3 * k + 5 < _; omega,by have := r.un; show A.units + 1 + 16 * k + 200 < _; omega⟩
theorem Room.depth {k : Nat} {A : Around} (r : Room k A) : A.depth < recursionLimit := by have := r.dp; omega
theorem Room.units {k : Nat} {A : Around} (r : Room k A) : A.units + 64 < cLine := by have := r.un; omega
noncomputable def tNil : TA := fun _ H Q => Q [] H
noncomputable def tCons (ta : TE) (tr : TA) : TA := fun σ H Q => ta σ H fun x H1 => tr σ H1 fun xs H2 => Q (x :: xs) H2
section
variable {X : Cx} {e : Expr} {es : List Expr} {te : TE} {t : TA} {pos : Pos}
theorem pa_nil : PA X [] tNil := fun _ _ _ _ H Q I h => Calls.spliced_nil ⟨[],H,I,.nil,h⟩
theorem pa_cons (ha : PE X e te) (hr : PA X es t) (hs : starEach (e :: es) X.env = (false,eval e X.env) :: starEach es X.env := by rfl) : PA X (e :: es) (tCons te t) := by
 intro pos pins s σ H Q I h
 rw [hs]
 show wpAny _ _ (spliced ((false,eval e X.env) :: backTo pos (starEach es X.env))) _ _ s
 refine Calls.spliced_cons (thn (ha pins s σ H _ I h) fun u s1 ⟨x,H1,I1,r1,q1⟩ => ?_)
 exact thn (hr pos pins s1 σ H1 _ I1 q1) fun us s2 ⟨xs,H2,I2,r2,q2⟩ => ⟨x :: xs,H2,I2,.cons r1 r2,q2⟩
noncomputable def tTup (t : TA) : TE := fun σ H Q => t σ H fun xs H1 => xs.length ≤ sizeLine ∧ ∀ p,H1 p = none → Q (.ref p) (upd H1 p (.tup xs))
noncomputable def tLst (t : TA) : TE := fun σ H Q => t σ H fun xs H1 => xs.length ≤ sizeLine ∧ ∀ p,H1 p = none → Q (.ref p) (upd H1 p (.lst xs))
theorem pe_tup {x1} (h : PA X es t) : PE X (.Tuple es x1 pos) (tTup t) := by
 intro pins s σ H Q I hq
 refine wpAny_Tuple_spliced (thn (h pos pins s σ H _ I hq) fun us s1 ⟨xs,H1,I1,r,z,q⟩ => ⟨by rw [← r.length]; exact z,?_⟩)
 have hf : H1 s1.heap.objs.size = none := I1.hok.fresh (Nat.le_refl _)
 refine ⟨.ref s1.heap.objs.size,upd H1 s1.heap.objs.size (.tup xs),I1.laid (t' := s1.toks) (fun b u e => Heap.get?_push_of_some _ e) (Nat.le_refl _) ?_,rfl,q _ hf⟩
 exact ⟨z,us,r,⟨_,Heap.get?_push_size _ rfl,rfl,_,rfl⟩⟩
theorem pe_lst (h : PA X es t) : PE X (.List es pos) (tLst t) := by
 intro pins s σ H Q I hq
 refine wpAny_List_spliced (thn (h pos pins s σ H _ I hq) fun us s1 ⟨xs,H1,I1,r,z,q⟩ => ⟨by rw [← r.length]; exact z,?_⟩)
 have hf : H1 s1.heap.objs.size = none := I1.hok.fresh (Nat.le_refl _)
 refine ⟨.ref s1.heap.objs.size,upd H1 s1.heap.objs.size (.lst xs),I1.laid (t' := s1.toks) (fun b u e => Heap.get?_push_of_some _ e) (Nat.le_refl _) ?_,rfl,q _ hf⟩
 exact ⟨z,us,0,r,Heap.get?_push_size _ rfl⟩
end
noncomputable abbrev Sp := List V → Hp → VK → XK → Prop
noncomputable abbrev CXT := List Env → Hp → Shared → XK → Value → Shared → Prop
structure Env0 (P : Program) (w : World) (K : PySem.W.Frag) (mg : Str → Option Value) (base : Heap) (A : Around) (outer : List Env) (s : Shared) (H : Hp) : Prop where
 frames : A.frames = some outer
 mod : Mod K mg base
 bs : ∀ b o,base.get? b = some o → s.heap.get? b = some o ∧ H b = none
 bsz : base.objs.size ≤ s.heap.objs.size
 funs : s.heap.FunFrames base outer
 frf : ∀ b ∈ frs outer,H b = none
 hok : HOk P w H s.heap
 bare : AllBare s.gens
noncomputable def CE (outer : List Env) (P : Program) (w : World) (H : Hp) (s : Shared) (Q : VK) (u : Value) (s' : Shared) : Prop :=
 ∃ v H',s'.os = s.os ∧ AllBare s'.gens ∧ Un (frs outer) [] H H' s.heap s'.heap ∧ HOk P w H' s'.heap ∧ RelV v u ∧ Q v H'
noncomputable def CR (CX : CXT) (outer : List Env) (P : Program) (w : World) (H : Hp) (s : Shared) (Q : VK) (E : XK) (r : Result) (s' : Shared) : Prop :=
 match r with
 | .ok (.ret u) => CE outer P w H s Q u s'
 | .ok _ => False
 | .error e => CX outer H s E e s'
structure FnOk (P : Program) (w : World) (K : PySem.W.Frag) (mg : Str → Option Value) (base : Heap) (CX : CXT) (k : Nat) (f : Addr) (fd : FuncData) (ps : List Str) (sp : Sp) : Prop where
 len : ∀ vs H Q E,sp vs H Q E → vs.length = ps.length
 run : ∀ (A : Around) (outer : List Env) (s : Shared) (H : Hp) (args : Args) (us : List Value) (vs : List V) (Q : VK) (E : XK),Room k A → Env0 P w K mg base A outer s H → BindsTo s fd args (ps.zip us) → Vals vs us → sp vs H Q E →
  codeAny (model P w) A (.call (.ref f) args) (CR CX outer P w H s Q E) s
theorem FnOk.mono {P : Program} {w : World} {K : PySem.W.Frag} {mg : Str → Option Value} {base : Heap} {CX : CXT} {j k : Nat} {f : Addr} {fd : FuncData} {ps : List Str} {sp : Sp} (F : FnOk P w K mg base CX j f fd ps sp) (h : j ≤ k) :
  FnOk P w K mg base CX k f fd ps sp := ⟨F.len,fun A outer s H args us vs Q E hr => F.run A outer s H args us vs Q E (hr.mono h)⟩
theorem FnOk.imp {P : Program} {w : World} {K : PySem.W.Frag} {mg : Str → Option Value} {base : Heap} {CX : CXT} {k : Nat} {f : Addr} {fd : FuncData} {ps : List Str} {sp sp' : Sp} (F : FnOk P w K mg base CX k f fd ps sp)
  (h : ∀ vs H Q E,sp' vs H Q E → sp vs H Q E) : FnOk P w K mg base CX k f fd ps sp' :=
 ⟨fun vs H Q E q => F.len vs H Q E (h _ _ _ _ q),fun A outer s H args us vs Q E hr he hb hv hs => F.run A outer s H args us vs Q E hr he hb hv (h _ _ _ _ hs)⟩
theorem Env0.in1 {P : Program} {w : World} {K : PySem.W.Frag} {mg : Str → Option Value} {base : Heap} {A : Around} {outer : List Env} {s : Shared} {H : Hp} (e : Env0 P w K mg base A outer s H) :
  Env0 P w K mg base A.in1 outer s H := ⟨e.frames,e.mod,e.bs,e.bsz,e.funs,e.frf,e.hok,e.bare⟩
section
variable {X : Cx} {pins : List (Addr × Obj)} {σ : St} {H : Hp} {s s' : Shared}
theorem Inv.env0 (I : Inv X pins σ H s) : Env0 X.prog X.w X.K X.mg X.base X.A X.stack s H :=
 ⟨I.ok.frames,I.ok.mod,I.bs,Nat.le_trans I.ok.bsz I.sz,I.stack,I.stkFree,I.hok,I.bare⟩
theorem Inv.after {Q : VK} {u : Value} (I : Inv X pins σ H s) (h : CE X.stack X.prog X.w H s Q u s') : EP X pins σ Q u s' := by
 obtain ⟨v,H',os,bare,un,hok,r,q⟩ := h
 obtain ⟨hh,g,d,t,os'⟩ := s'
 obtain rfl : os' = s.os := os
 exact ⟨v,H',I.call (h' := hh) (g' := g) (d' := d) (t' := t) (ch := []) un hok bare (fun b z => absurd z (by simp)),r,q⟩
end
noncomputable def tCall (sp : Sp) (dvs : List V) (E : XK) (t : TA) : TE := fun σ H Q => t σ H fun vs H1 => sp (vs ++ dvs) H1 Q E
noncomputable def Binds (K : PySem.W.Frag) (fd : FuncData) (ps : List Str) (ds : List Value) : Prop :=
 ∀ (s : Shared) (us : List Value),K.In s.heap → (us ++ ds).length = ps.length → BindsTo s fd ⟨us,[]⟩ (ps.zip (us ++ ds))
theorem Binds.all {K : PySem.W.Frag} {fd : FuncData} {ps : List Str} (h : ∀ us : List Value,us.length = ps.length → bindArgs fd ⟨us,[]⟩ = pure (ps.zip us)) : Binds K fd ps [] := fun s us _ hl => by
 rw [List.append_nil] at hl ⊢
 exact .of_eq (h us hl)
noncomputable def Passes (CX : CXT) (X : Cx) (E : XK) : Prop := ∀ (pins : List (Addr × Obj)) (σ : St) (H : Hp) (s : Shared) (e : Value) (s' : Shared),Inv X pins σ H s → CX X.stack H s E e s' → X.xe e s'
section
variable {X : Cx} {CX : CXT} {k : Nat} {f C : Addr} {fd : FuncData} {ps : List Str} {sp : Sp} {dvs : List V} {ds : List Value} {E : XK} {x m : Str} {p pos apos : Pos} {e o : Expr} {es : List Expr} {ta : TE} {t : TA}
theorem run_fn {pins : List (Addr × Obj)} {σ : St} {H : Hp} {s : Shared} {Q : VK} {us : List Value} {vs : List V} (F : FnOk X.prog X.w X.K X.mg X.base CX k f fd ps sp) (hr : Room k X.A) (hb : Binds X.K fd ps ds) (hd : Vals dvs ds) (hx : Passes CX X E)
  (I : Inv X pins σ H s) (r : Vals vs us) (h : sp (vs ++ dvs) H Q E) : wpAny (model X.prog X.w) X.A (call (.ref f) us) (EP X pins σ Q) X.xe s := by
 have r2 : Vals (vs ++ dvs) (us ++ ds) := r.append hd
 have hl : (us ++ ds).length = ps.length := by rw [← r2.length]; exact F.len _ _ _ _ h
 refine wpAny_call (codeAny_mono (F.run X.A X.stack s H ⟨us,[]⟩ (us ++ ds) (vs ++ dvs) Q E hr I.env0 (hb s us I.kIn hl) r2 h) fun r s' hq => ?_)
 cases r with
 | error e => exact hx pins σ H s e s' I hq
 | ok fl =>
  cases fl with
  | ret u => exact I.after hq
  | next => exact False.elim hq
  | brk => exact False.elim hq
  | cont => exact False.elim hq
theorem pe_call (F : FnOk X.prog X.w X.K X.mg X.base CX k f fd ps sp) (hr : Room k X.A) (hg : Gl X x) (hm : X.mg x = some (.ref f)) (hk : PySem.W.keepIn X.K (.ref f) = true) (hb : Binds X.K fd ps ds) (hd : Vals dvs ds) (hx : Passes CX X E)
  (ha : PA X (e :: es) t) (hdb : (x == ("__debug__" : Str)) = false := by decide) (he : starEach (e :: es) X.env = (false,eval e X.env) :: starEach es X.env := by rfl) (hpl : (backTo pos (starEach es X.env)).any (·.1) = false := by rfl) :
  PE X (.Call (.Name x p) (e :: es) [] pos) (tCall sp dvs E t) := by
 intro pins s σ H Q I h
 refine wpAny_Call_Name_kw (ld_glob I hg hm ?_ hdb)
 refine PySem.W.callWith_K (h₀ := X.base) I.ok.mod.kin hk (thn (ha pos pins s σ H _ I h) fun us s1 ⟨vs,H1,I1,r,q⟩ => ⟨I1.kIn,?_⟩) he hpl
 exact run_fn F hr hb hd hx I1 r q
structure Mk (K : PySem.W.Frag) (C f : Addr) : Prop where
 makes : PySem.W.makesIn K C = true
 init : PySem.W.findIn K (.ref C) "__init__" = some (some (.ref f))
 fn : PySem.W.isFn K (.ref f) = true
 kp : PySem.W.keepIn K (.ref C) = true
end
section
variable {X : Cx} {CX : CXT} {k : Nat} {f C : Addr} {fd : FuncData} {ps ks : List Str} {sp : Sp} {E : XK} {x m : Str} {p pos apos kpos : Pos} {e o : Expr} {es : List Expr} {kws : List Keyword} {te ta : TE} {t tk : TA} {nm : Option Str}
structure KBinds (K : PySem.W.Frag) (fd : FuncData) (ps ks : List Str) (g : List Value → List Value → List Value) (gV : List V → List V → List V) : Prop where
 to : ∀ (s : Shared) (us ws : List Value),K.In s.heap → (g us ws).length = ps.length → BindsTo s fd ⟨us,ks.zip ws⟩ (ps.zip (g us ws))
 rel : ∀ {vs : List V} {us : List Value} {zs : List V} {ws : List Value},Vals vs us → Vals zs ws → Vals (gV vs zs) (g us ws)
variable {g : List Value → List Value → List Value} {gV : List V → List V → List V}
end
structure FnScope (N P : List Str) (sc : Scope) : Prop where
 kind : sc.kind = .function
 co : sc.isCoroutine = false
 gen : sc.isGenerator = false
 nd : N.Nodup
 pre : N.take P.length = P
 par : ∀ x ∈ P,sc.names.lookup x = some .local ∨ sc.names.lookup x = some .cell
 nofree : ∀ y ∈ sc.names,y.2 ≠ .free
theorem bindL_out {kindOf : Str → Option NameKind} {x : Str} : ∀ {binds : List (Str × Value)} {m : Str → Option Value},(∀ v,(x,v) ∉ binds) → bindL kindOf binds m x = m x
 | [],_,_ => rfl
 | (n,v) :: r,m,h => by
  unfold bindL
  rw [bindL_out fun w hw => h w (List.mem_cons_of_mem _ hw)]
  split
  ·have : x ≠ n := by rintro rfl; exact h v List.mem_cons_self
   simp [this]
  ·rfl
theorem bindC_out {kindOf : Str → Option NameKind} {x : Str} : ∀ {binds : List (Str × Value)} {m : Str → Option Value},(∀ v,(x,v) ∉ binds) → bindC kindOf binds m x = m x
 | [],_,_ => rfl
 | (n,v) :: r,m,h => by
  unfold bindC
  rw [bindC_out fun w hw => h w (List.mem_cons_of_mem _ hw)]
  split
  ·rfl
  ·have : x ≠ n := by rintro rfl; exact h v List.mem_cons_self
   simp [this]
theorem bindL_get {kindOf : Str → Option NameKind} {x : Str} {v : Value} : ∀ {P : List Str} {vs : List Value} {i : Nat} {m : Str → Option Value},P.Nodup → P[i]? = some x → vs[i]? = some v → kindOf x = some .local →
  bindL kindOf (P.zip vs) m x = some v
 | [],_,_,_,_,h,_,_ => by simp at h
 | _ :: _,[],_,_,_,_,h,_ => by simp at h
 | p :: P,w :: vs,0,m,nd,h1,h2,hk => by
  simp at h1 h2; subst h1; subst h2
  show bindL kindOf ((p,w) :: P.zip vs) m p = _
  unfold bindL
  rw [bindL_out fun v hv => (List.nodup_cons.mp nd).1 (List.of_mem_zip hv).1,if_pos hk]
  simp
 | p :: P,w :: vs,i + 1,m,nd,h1,h2,hk => by
  show bindL kindOf ((p,w) :: P.zip vs) m x = _
  unfold bindL
  exact bindL_get (i := i) (List.nodup_cons.mp nd).2 (by simpa using h1) (by simpa using h2) hk
theorem bindC_get {kindOf : Str → Option NameKind} {x : Str} {v : Value} : ∀ {P : List Str} {vs : List Value} {i : Nat} {m : Str → Option Value},P.Nodup → P[i]? = some x → vs[i]? = some v → kindOf x ≠ some .local →
  bindC kindOf (P.zip vs) m x = some v
 | [],_,_,_,_,h,_,_ => by simp at h
 | _ :: _,[],_,_,_,_,h,_ => by simp at h
 | p :: P,w :: vs,0,m,nd,h1,h2,hk => by
  simp at h1 h2; subst h1; subst h2
  show bindC kindOf ((p,w) :: P.zip vs) m p = _
  unfold bindC
  rw [bindC_out fun v hv => (List.nodup_cons.mp nd).1 (List.of_mem_zip hv).1,if_neg hk]
  simp
 | p :: P,w :: vs,i + 1,m,nd,h1,h2,hk => by
  show bindC kindOf ((p,w) :: P.zip vs) m x = _
  unfold bindC
  exact bindC_get (i := i) (List.nodup_cons.mp nd).2 (by simpa using h1) (by simpa using h2) hk
noncomputable def start (N : List Str) (vs : List V) : St := vs.map some ++ List.replicate (N.length - vs.length) none
noncomputable def cxOf (CX : CXT) (P : Program) (w : World) (K : PySem.W.Frag) (mg : Str → Option Value) (base : Heap) (N : List Str) (qual : Str) (scope : Scope) (f : Addr) (cd : Value) (A : Around) (outer : List Env) (s : Shared) (H : Hp) (E : XK) : Cx where
 prog := P
 w := w
 K := K
 mg := mg
 base := base
 A := A.deeper (envOfC qual scope s.heap.objs.size f cd)
 N := N
 s₀ := s
 H₀ := H
 env := envOfC qual scope s.heap.objs.size f cd
 outer := outer
 stack := envOfC qual scope s.heap.objs.size f cd :: outer
 ex := []
 calm := true
 fn := fun _ => true
 pn := []
 xe := fun e s' => wpAny (model P w) (A.deeper (envOfC qual scope s.heap.objs.size f cd)) (leaving (envOfC qual scope s.heap.objs.size f cd) e) (fun _ s'' => CX outer H s E e s'') (fun e' s'' => CX outer H s E e' s'') s'
theorem cell_has {sc : Scope} {n : Nat} {x : Str} (h : sc.names.lookup x = some .cell) : ∃ c,(cellsFrom n sc.names []).lookup x = some c := by
 have q := PySem.W.cellsFrom_some sc.names n [] (.inl h)
 exact Option.isSome_iff_exists.mp q
theorem inv_start {CX : CXT} {P : Program} {w : World} {K : PySem.W.Frag} {mg : Str → Option Value} {base : Heap} {N ps : List Str} {qual : Str} {scope : Scope} {f : Addr} {cd : Value} {A : Around} {outer : List Env} {s s1 : Shared} {H : Hp} {E : XK} {us : List Value} {vs : List V}
  (S : FnScope N ps scope) (hd : A.handled = none) (e0 : Env0 P w K mg base A outer s H) (hl : vs.length = ps.length) (r : Vals vs us)
  (x : InCallC s s.heap.objs.size (bindL (envOfC qual scope s.heap.objs.size f cd).kindOf (ps.zip us) fun _ => none) (cellsFrom (s.heap.objs.size + 1) scope.names []) (bindC (envOfC qual scope s.heap.objs.size f cd).kindOf (ps.zip us) fun _ => none) s1) :
  Inv (cxOf CX P w K mg base N qual scope f cd A outer s H E) [] (start N vs) H s1 := by
 have hpl : ps.length ≤ N.length := by have := congrArg List.length S.pre; rw [List.length_take] at this; omega
 obtain ⟨h1,tk,rfl,hk⟩ := x.done
 have noA : ∀ b : Addr,b ∉ (cxOf CX P w K mg base N qual scope f cd A outer s H E).ex := fun b z => absurd (show b ∈ ([] : List Addr) from z) (by simp)
 refine ⟨⟨e0.mod,S.kind,rfl,rfl,Nat.le_refl _,fun y z c h1 h2 => ?_,fun y hy => ?_,fun y c _ h => ?_,fun _ => hd,Around.frames_deeper e0.frames,.inr ⟨rfl,rfl⟩,fun b z => absurd z (noA b),e0.bs,e0.bsz,fun b _ _ => noA b,fun b z => absurd z (noA b),e0.funs,e0.frf⟩,
  rfl,e0.bare,Un.kept hk,⟨_,x.toInCall.ns,fun i y v h1 h2 h3 => ?_⟩,fun y c h => ⟨_,x.cell y c h⟩,e0.hok.fresh (Nat.le_refl _),fun y c h => ?_,fun p hp => absurd (show p ∈ ([] : List (Addr × Obj)) from hp) (by simp),e0.hok.kept hk,?_⟩
 ·exact name_of_addr x.apart (PySem.mem_of_lookup h1) (PySem.mem_of_lookup h2)
 ·have hy : scope.names.lookup y = some .cell ∨ scope.names.lookup y = some .free := hy
  rcases hy with hy | hy
  ·exact cell_has hy
  ·exact absurd rfl (S.nofree _ (PySem.mem_of_lookup hy))
 ·exact Nat.le_of_lt (x.above y c (PySem.mem_of_lookup h))
 ·have hi : i < vs.length := by
   unfold start at h2
   by_cases hi : i < vs.length
   ·exact hi
   ·rw [List.getElem?_append_right (by simpa using hi)] at h2
    rw [List.getElem?_replicate] at h2
    split at h2 <;> cases h2
  have ha : vs[i]? = some v := by
   unfold start at h2
   rw [List.getElem?_append_left (by simpa using hi),List.getElem?_map] at h2
   cases e : vs[i]? with
   | none => rw [e] at h2; cases h2
   | some a => rw [e] at h2; cases h2; rfl
  obtain ⟨u,hu,rv⟩ := r.get ha
  have hp : ps[i]? = some y := by
   rw [← S.pre,List.getElem?_take_of_lt (by omega)]; exact h1
  have ndP : ps.Nodup := by rw [← S.pre]; exact S.nd.sublist (List.take_sublist _ _)
  refine ⟨u,rv,?_⟩
  rcases S.par y (List.mem_of_getElem? hp) with k | k
  ·exact .inl ⟨k,bindL_get ndP hp hu k⟩
  ·obtain ⟨c,e⟩ := cell_has (n := s.heap.objs.size + 1) k
   refine .inr ⟨.inl k,c,e,?_⟩
   have q := x.cell y c e
   rw [bindC_get ndP hp hu (by show scope.names.lookup y ≠ _; rw [k]; decide)] at q
   exact q
 ·exact e0.hok.fresh (Nat.le_of_lt (x.above y c (PySem.mem_of_lookup h)))
 ·unfold start
  show _ = N.length
  rw [List.length_append,List.length_map,List.length_replicate]
  omega
theorem fn_of {CX : CXT} {P : Program} {w : World} {K : PySem.W.Frag} {mg : Str → Option Value} {base : Heap} {k : Nat} {f : Addr} {name qual : Str} {params : Arguments} {body : List Stmt} {scope : Scope} {dV kV doc pm cdv ct oc : Value} {an od : Option Addr}
  {osl : Array (Option Value)} {N ps : List Str} {sp : Sp} (lk : K.lookup f = some ⟨oc,od,.func (PySem.W.fnOf name qual params body scope dV kV doc pm an cdv ct),osl⟩) (hcd : PySem.W.codeIn K cdv qual = true) (S : FnScope N ps scope)
  (len : ∀ vs H Q E,sp vs H Q E → vs.length = ps.length)
  (hbody : ∀ (A : Around) (outer : List Env) (s : Shared) (H : Hp) (vs : List V) (Q : VK) (E : XK),Room k (A.deeper (envOfC qual scope s.heap.objs.size f cdv)) → sp vs H Q E →
   ∃ t,PSs (cxOf CX P w K mg base N qual scope f cdv A outer s H E) body t ∧ t { nx := fun _ H' => Q .non H',rt := Q } (start N vs) H) :
  FnOk P w K mg base CX (k + 1) f (PySem.W.fnOf name qual params body scope dV kV doc pm an cdv ct) ps sp := by
 refine ⟨len,fun A outer s H args us vs Q E hr e0 hb r hsp => ?_⟩
 have hl := len _ _ _ _ hsp
 have KX : K.In s.heap := e0.mod.kin.keeps fun b o e => (e0.bs b o e).1
 have lim : s.heap.NoLimit := e0.mod.nolimit.keeps fun b o e => (e0.bs b o e).1
 have hkind : ∀ y ∈ ps.zip us,scope.names.lookup y.1 = some .local ∨ (scope.names.lookup y.1 = some .cell ∧ ((cellsFrom (s.heap.objs.size + 1) scope.names []).lookup y.1).isSome = true) := fun ⟨n,v⟩ hy => by
  rcases S.par n (List.of_mem_zip hy).1 with q | q
  ·exact .inl q
  ·exact .inr ⟨q,PySem.W.cellsFrom_some _ _ _ (.inl q)⟩
 refine codeAny_call_function hr.depth (KX _ _ lk) rfl S.co S.gen rfl (PySem.W.codeRec_of KX hcd) (hb _ _ _ _ ?_)
 refine wpAny_newFunctionEnv_cells S.kind hkind fun env he s1 x => ?_
 subst he
 refine ⟨lim.keeps x.toInCall.keep,codeAny_func ?_⟩
 obtain ⟨t,ht,hq⟩ := hbody A outer s H vs Q E (hr.deeper _) hsp
 have I : Inv (cxOf CX P w K mg base N qual scope f cdv A outer s H E) [] (start N vs) H s1 := inv_start S hr.hd e0 hl r x
 refine wpAny_mono (ht [] s1 (start N vs) H _ I hq) (fun fl s' hs => ?_) fun e s' hs => hs
 have fin : ∀ {σ' : St} {H' : Hp} {v : V} {u : Value},Inv (cxOf CX P w K mg base N qual scope f cdv A outer s H E) [] σ' H' s' → RelV v u → Q v H' → CE outer P w H s Q u s' :=
  fun {σ' H' v u} J rv q => ⟨v,H',J.os,J.bare,J.base,J.hok,rv,q⟩
 cases fl with
 | ret u =>
  obtain ⟨v,σ',H',J,rv,q⟩ := hs
  exact fin J rv q
 | next =>
  obtain ⟨σ',H',J,q⟩ := hs
  exact fin (v := V.non) (u := Value.none) J rfl q
 | brk =>
  obtain ⟨_,_,_,q⟩ := hs
  exact False.elim q
 | cont =>
  obtain ⟨_,_,_,q⟩ := hs
  exact False.elim q
end L2
namespace L2
open PySem PySem.Spec PyProof.Rows
section
variable {X : Cx} {x : Str} {p pos : Pos} {e : Expr} {es : List Expr} {t : TA} {id T : String} {r : List V → Hp → VK → Prop}
noncomputable def tCB (r : List V → Hp → VK → Prop) (t : TA) : TE := fun σ H Q => t σ H fun vs H1 => r vs H1 Q
theorem pe_callB (hc : CallR X (.builtin id) r) (hg : Gl X x) (hm : X.mg x = none) (hv : bootBuiltins x = some (.builtin id)) (ha : PA X (e :: es) t) (hn : x ≠ "__name__" := by decide) (hdb : (x == ("__debug__" : Str)) = false := by decide)
  (he : starEach (e :: es) X.env = (false,eval e X.env) :: starEach es X.env := by rfl) (hpl : (backTo pos (starEach es X.env)).any (·.1) = false := by rfl) : PE X (.Call (.Name x p) (e :: es) [] pos) (tCB r t) := by
 intro pins s σ H Q I h
 refine wpAny_Call_Name_kw (ld_blt I hg hm hv ?_ hn hdb)
 exact PyProof.Rows.callWith_builtin1 (thn (ha pos pins s σ H _ I h) fun us s1 ⟨vs,H1,I1,r1,q1⟩ => hc pins s1 σ H1 vs us Q I1 r1 q1) he hpl
theorem pe_callTy (hc : CallR X (.type T) r) (hg : Gl X x) (hm : X.mg x = none) (hv : bootBuiltins x = some (.type T)) (ha : PA X (e :: es) t) (hn : x ≠ "__name__" := by decide) (hdb : (x == ("__debug__" : Str)) = false := by decide)
  (he : starEach (e :: es) X.env = (false,eval e X.env) :: starEach es X.env := by rfl) (hpl : (backTo pos (starEach es X.env)).any (·.1) = false := by rfl) : PE X (.Call (.Name x p) (e :: es) [] pos) (tCB r t) := by
 intro pins s σ H Q I h
 refine wpAny_Call_Name_kw (ld_blt I hg hm hv ?_ hn hdb)
 exact PyProof.Rows.callWith_type1 (thn (ha pos pins s σ H _ I h) fun us s1 ⟨vs,H1,I1,r1,q1⟩ => hc pins s1 σ H1 vs us Q I1 r1 q1) he hpl
end
end L2
namespace HT
open PySem PyProof.Rows
section
open PySem.SeqAt
open PySem.AutoSeq1 (wpAny_loadPart')
open PySem.MeetsSeq PySem.MeetsSeq2 PySem.MeetsSeq3
end
section
variable {prog : Program} {w : World} {A : Around} {E : Value → Shared → Prop} {s : Shared}
noncomputable def sIx (n d : Nat) : Option Int → Nat
 | none => d
 | some v => if v < 0 then (v + (n : Int)).toNat else min v.toNat n
end
end HT
namespace L2
open PySem PySem.Spec PyProof.Rows
noncomputable abbrev TO := St → Hp → (Option Int → Hp → Prop) → Prop
noncomputable def PO (X : Cx) (e : Option Expr) (t : TO) : Prop :=
 ∀ (pins : List (Addr × Obj)) (s : Shared) (σ : St) (H : Hp) (Q : Option Int → Hp → Prop),Inv X pins σ H s → t σ H Q →
  wpAny (model X.prog X.w) X.A (evalPart e X.env) (fun u s' => ∃ o H',Inv X pins σ H' s' ∧ IsPart u o ∧ Q o H') X.xe s
noncomputable def tNoPart : TO := fun _ H Q => Q none H
noncomputable def tPart (t : TE) : TO := fun σ H Q => t σ H fun x H1 => ∃ i,x = .int i ∧ Q (some i) H1
theorem intsAre_of {ns : List Int} : ∀ {us : List Value},Vals (ns.map V.int) us → IntsAre us ns := by
 induction ns with
 | nil => intro us r; rw [List.map_nil] at r; cases r; exact .nil
 | cons n ns ih =>
  intro us r
  rw [List.map_cons] at r
  cases r with
  | cons r1 r2 =>
   obtain ⟨t,e⟩ := r1
   subst e
   exact .cons n t (ih r2)
section
variable {X : Cx} {e : Expr} {te : TE} {lo hi : Option Expr} {tl th : TO} {pos p2 : Pos}
theorem po_none : PO X none tNoPart := by
 intro pins s σ H Q I h
 rw [evalPart_none]
 exact wpAny_pure ⟨none,H,I,.none,h⟩
theorem po_some (h : PE X e te) : PO X (some e) (tPart te) := by
 intro pins s σ H Q I hw
 rw [evalPart_some]
 refine thn (h pins s σ H _ I hw) fun u s1 ⟨x,H1,I1,r1,q1⟩ => ?_
 obtain ⟨i,rfl,q⟩ := q1
 obtain ⟨t,rfl⟩ := r1
 exact ⟨some i,H1,I1,.int i t,q⟩
noncomputable def SlR (X : Cx) (r : V → Option Int → Option Int → Hp → VK → Prop) : Prop :=
 ∀ (pins : List (Addr × Obj)) (s : Shared) (σ : St) (H : Hp) (x : V) (v vl vu : Value) (lo hi : Option Int) (sl : Addr) (Q : VK),Inv X pins σ H s → RelV x v → s.heap.IsSliceOf sl vl vu .none → IsPart vl lo → IsPart vu hi → r x lo hi H Q →
  ∃ T id,typeLookup (.type T) "__getitem__" = pure (some (.builtin id)) ∧ s.TypeIs v T ∧ wpAny (model X.prog X.w) X.A (getItem v (.ref sl)) (EP X pins σ Q) X.xe s
theorem SlR.or {r r' : V → Option Int → Option Int → Hp → VK → Prop} (h : SlR X r) (h' : SlR X r') : SlR X (fun x lo hi H Q => r x lo hi H Q ∨ r' x lo hi H Q) := by
 intro pins s σ H x v vl vu lo hi sl Q I rx hs pl pu q
 rcases q with q | q
 ·exact h pins s σ H x v vl vu lo hi sl Q I rx hs pl pu q
 ·exact h' pins s σ H x v vl vu lo hi sl Q I rx hs pl pu q
noncomputable def tSl (r : V → Option Int → Option Int → Hp → VK → Prop) (te : TE) (tl th : TO) : TE := fun σ H Q => te σ H fun x H1 => tl σ H1 fun l H2 => th σ H2 fun u H3 => r x l u H3 Q
theorem pe_slice {r : V → Option Int → Option Int → Hp → VK → Prop} (hr : SlR X r) (he : PE X e te) (hl : PO X lo tl) (hu : PO X hi th) : PE X (.Subscript e (.Slice lo hi none p2) pos) (tSl r te tl th) := by
 intro pins s σ H Q I h
 refine Subscript_ (thn (he pins s σ H _ I h) fun v s1 ⟨x,H1,I1,r1,q1⟩ => ?_)
 refine wpAny_Slice (thn (hl pins s1 σ H1 _ I1 q1) fun vl s2 ⟨l,H2,I2,pl,q2⟩ => thn (hu pins s2 σ H2 _ I2 q2) fun vu s3 ⟨u,H3,I3,pu,q3⟩ => ?_)
 rw [evalPart_none]
 refine wpAny_pure ?_
 have I4 : Inv X pins σ H3 { s3 with heap := s3.heap.push { cls := .type "slice",data := .fields #[vl,vu,.none] } } := I3.kept (t' := s3.toks) fun b ob q => Heap.get?_push_of_some _ q
 obtain ⟨T,id,hT,ht,hg⟩ := hr pins { s3 with heap := s3.heap.push { cls := .type "slice",data := .fields #[vl,vu,.none] } } σ H3 x v vl vu l u s3.heap.objs.size Q I4 r1 (Heap.IsSliceOf.new ..) pl pu q3
 show wpAny (model X.prog X.w) X.A (subscriptTail e (.Slice lo hi none p2) v (.ref s3.heap.objs.size)) (EP X pins σ Q) X.xe { s3 with heap := s3.heap.push { cls := .type "slice",data := .fields #[vl,vu,.none] } }
 exact tail_any (ops := [.ref s3.heap.objs.size,v]) ht hT hg (by with_unfolding_all rfl)
noncomputable def cutV (xs : List V) (lo hi : Option Int) : List V := (xs.drop (HT.sIx xs.length 0 lo)).take (HT.sIx xs.length xs.length hi - HT.sIx xs.length 0 lo)
theorem cutV_length (xs : List V) (lo hi : Option Int) : (cutV xs lo hi).length ≤ xs.length := by
 unfold cutV
 rw [List.length_take,List.length_drop]
 omega
end
end L2
namespace L2
open PySem PySem.Spec PyProof.Rows
noncomputable def ixN (n : Nat) (i : Int) : Option Nat := if 0 ≤ i then (if i < n then some i.toNat else none) else if -(n : Int) ≤ i then some (i + n).toNat else none
noncomputable def atI {α : Type} (xs : List α) (i : Int) : Option α := (ixN xs.length i).bind fun j => xs[j]?
theorem ixN_seq {n : Nat} {i : Int} {j : Nat} (h : ixN n i = some j) : seqIndex? i n = some j ∧ j < n ∧ -(n : Int) ≤ i ∧ i < n := by
 unfold ixN at h
 by_cases h0 : 0 ≤ i
 ·rw [if_pos h0] at h
  by_cases h1 : i < n
  ·rw [if_pos h1] at h
   have e : i.toNat = j := Option.some.inj h
   exact ⟨by rw [seqIndex_of h0 h1,e],by omega,by omega,h1⟩
  ·rw [if_neg h1] at h; cases h
 ·rw [if_neg h0] at h
  by_cases h1 : -(n : Int) ≤ i
  ·rw [if_pos h1] at h
   have e : (i + n).toNat = j := Option.some.inj h
   exact ⟨by rw [seqIndex_neg (by omega) h1,e],by omega,h1,by omega⟩
  ·rw [if_neg h1] at h; cases h
theorem atI_get {α : Type} {xs : List α} {i : Int} {v : α} (h : atI xs i = some v) : ∃ j,seqIndex? i xs.length = some j ∧ xs[j]? = some v ∧ j < xs.length ∧ -(xs.length : Int) ≤ i ∧ i < xs.length := by
 unfold atI at h
 cases e : ixN xs.length i with
 | none => rw [e] at h; cases h
 | some j =>
  rw [e] at h
  obtain ⟨h1,h2,h3,h4⟩ := ixN_seq e
  exact ⟨j,h1,h,h2,h3,h4⟩
theorem atI_nat {α : Type} {xs : List α} {j : Nat} {v : α} (h : xs[j]? = some v) : atI xs (j : Int) = some v := by
 have hj : j < xs.length := (List.getElem?_eq_some_iff.mp h).1
 have e : ixN xs.length (j : Int) = some j := by
  unfold ixN
  rw [if_pos (by omega),if_pos (by omega)]; simp
 unfold atI; rw [e]; exact h
theorem atI_last {α : Type} (xs : List α) (v : α) : atI (xs ++ [v]) (-1) = some v := by
 have hl : (xs ++ [v]).length = xs.length + 1 := by simp
 have e : ixN (xs ++ [v]).length (-1) = some xs.length := by
  unfold ixN
  rw [hl,if_neg (by decide),if_pos (by omega)]
  congr 1
  omega
 unfold atI
 rw [e]
 show (xs ++ [v])[xs.length]? = some v
 simp
noncomputable def PlainIx (b : Expr) : Prop := ∀ o i,subscripted b false o i = operate [o,i] (getItem o i)
noncomputable def IxR (X : Cx) (r : R2) : Prop :=
 ∀ (value slice : Expr) (pins : List (Addr × Obj)) (s : Shared) (σ : St) (H : Hp) (x y : V) (v u : Value) (Q : VK),Inv X pins σ H s → RelV x v → RelV y u → r x y H Q →
  subscripted slice false v u = operate [v,u] (getItem v u) → wpAny (model X.prog X.w) X.A (subscriptTail value slice v u) (EP X pins σ Q) X.xe s
noncomputable def MtR (X : Cx) (id : String) (r : V → List V → Hp → VK → Prop) : Prop :=
 ∀ (pins : List (Addr × Obj)) (s : Shared) (σ : St) (H : Hp) (x : V) (xs : List V) (v : Value) (us : List Value) (Q : VK),Inv X pins σ H s → RelV x v → Vals xs us → r x xs H Q →
  wpAny (model X.prog X.w) X.A (call (.builtin id) (v :: us)) (EP X pins σ Q) X.xe s
section
variable {X : Cx} {a b : Expr} {ta tb : TE} {pos : Pos}
theorem IxR.or {r r' : R2} (h : IxR X r) (h' : IxR X r') : IxR X (fun x y H Q => r x y H Q ∨ r' x y H Q) := by
 intro value slice pins s σ H x y v u Q I rx ry q hs
 rcases q with q | q
 ·exact h value slice pins s σ H x y v u Q I rx ry q hs
 ·exact h' value slice pins s σ H x y v u Q I rx ry q hs
theorem MtR.or {id : String} {r r' : V → List V → Hp → VK → Prop} (h : MtR X id r) (h' : MtR X id r') : MtR X id (fun x xs H Q => r x xs H Q ∨ r' x xs H Q) := by
 intro pins s σ H x xs v us Q I rx rs q
 rcases q with q | q
 ·exact h pins s σ H x xs v us Q I rx rs q
 ·exact h' pins s σ H x xs v us Q I rx rs q
theorem pe_ix {r : R2} (hr : IxR X r) (ha : PE X a ta) (hb : PE X b tb) (hs : PlainIx b) : PE X (.Subscript a b pos) (tOp r ta tb) := by
 intro pins s σ H Q I h
 exact Subscript_ (binT ha hb I h fun v u s2 x y H2 I2 rx ry q => hr a b pins s2 σ H2 x y v u Q I2 rx ry q (hs _ _))
noncomputable def rIxL (K : PySem.W.Frag) : R2 := fun x y H Q => ∃ p xs i v,x = .ref p ∧ y = .int i ∧ SqL K H p xs ∧ atI xs i = some v ∧ Q v H
noncomputable def rIxT (K : PySem.W.Frag) : R2 := fun x y H Q => ∃ p xs i v,x = .ref p ∧ y = .int i ∧ SqT K H p xs ∧ atI xs i = some v ∧ Q v H
noncomputable def rIxS : R2 := fun x y H Q => ∃ z i c,x = .str z ∧ y = .int i ∧ z.length ≤ sizeLine ∧ atI z.cps.toList i = some c ∧ Q (.str ⟨#[c]⟩) H
theorem ix_list : IxR X (rIxL X.K) := by
 intro value slice pins s σ H x y v u Q I rx ry h hs
 obtain ⟨p,xs,i,z,rfl,rfl,hq,he,q⟩ := h
 cases rx
 obtain ⟨t,rfl⟩ := ry
 obtain ⟨its,r,pl,hz⟩ := I.list hq
 obtain ⟨j,h1,h2,h3,h4,h5⟩ := atI_get he
 obtain ⟨w,ew,rw'⟩ := r.get h2
 have hl := r.length
 have hn := line63
 have fin : EP X pins σ Q w s := ⟨z,H,I,rw',q⟩
 by_cases h0 : 0 ≤ i
 ·have hj : i.toNat = j := by
   rw [seqIndex_of h0 h5] at h1
   exact Option.some.inj h1
  exact item_listR pl.isList h0 (by omega) (by rw [hj]; simpa using ew) fin hs
 ·have hj : (i + (its.toArray.size : Int)).toNat = j := by
   rw [seqIndex_neg (by omega) h4] at h1
   rw [List.size_toArray,← hl]
   exact Option.some.inj h1
  exact subscriptTail_builtinR (x := w) pl.isList.typeIs slot_list_getitem.lookup
   (wpAny_getItem_list_neg (Q := fun r s' => r = w ∧ EP X pins σ Q r s') pl.isList (by omega) (by rw [List.size_toArray] <;> omega) (by omega) (by rw [hj]; simpa using ew) ⟨rfl,fin⟩) hs
theorem ix_tup : IxR X (rIxT X.K) := by
 intro value slice pins s σ H x y v u Q I rx ry h hs
 obtain ⟨p,xs,i,z,rfl,rfl,hq,he,q⟩ := h
 cases rx
 obtain ⟨t,rfl⟩ := ry
 obtain ⟨its,r,pl,hz⟩ := I.tuple hq
 obtain ⟨j,h1,h2,h3,h4,h5⟩ := atI_get he
 obtain ⟨w,ew,rw'⟩ := r.get h2
 have hl := r.length
 have hn := line63
 have fin : EP X pins σ Q w s := ⟨z,H,I,rw',q⟩
 exact subscriptTail_builtinR (x := w) pl.typeIs slot_tuple_getitem.lookup
  (getItem_tuple (j := j) (Q := fun r s' => r = w ∧ EP X pins σ Q r s') pl (by omega) (by omega) (by rw [List.size_toArray,← hl]; exact h1) (by simpa using ew) ⟨rfl,fin⟩) hs
theorem ix_str : IxR X rIxS := by
 intro value slice pins s σ H x y v u Q I rx ry h hs
 obtain ⟨z,i,c,rfl,rfl,hz,he,q⟩ := h
 obtain ⟨t,rfl⟩ := rx
 obtain ⟨t',rfl⟩ := ry
 obtain ⟨j,h1,h2,h3,h4,h5⟩ := atI_get he
 have hl : z.cps.toList.length = z.length := by simp [Str.length]
 rw [hl] at h1 h4 h5
 have hn := line63
 exact tail_any (typeIs_str s z t) slot_str_getitem.lookup (getItem_str (c := c) (by
  have e1 : decide (i < -(2 ^ 63 : Int)) = false := decide_eq_false (by omega)
  have e2 : decide (i ≥ 2 ^ 63) = false := decide_eq_false (by omega)
  rw [e1,e2,Bool.or_false]) (by rw [h1]; simpa using h2) ⟨.str ⟨#[c]⟩,H,I.tok _,⟨_,rfl⟩,q⟩) hs
theorem Inv.lst {pins : List (Addr × Obj)} {σ : St} {H : Hp} {s : Shared} {p : Addr} {xs : List V} (I : Inv X pins σ H s) (h : H p = some (.lst xs)) :
  ∃ (its : List Value) (n : Nat),Vals xs its ∧ s.heap.get? p = some { cls := .type "list",data := .seq its.toArray n } ∧ xs.length ≤ sizeLine := by
 obtain ⟨z,its,n,r,e⟩ := I.hok p _ h
 exact ⟨its,n,r,e,z⟩
theorem slice_bounds (lo hi : Option Int) (n : Nat) : (sliceBounds lo hi none n).1 = ((HT.sIx n 0 lo : Nat) : Int) ∧ (sliceBounds lo hi none n).2.1 = ((HT.sIx n n hi : Nat) : Int) ∧ (sliceBounds lo hi none n).2.2 = 1 := by
 refine ⟨?_,?_,rfl⟩
 ·cases lo with
  | none => simp [sliceBounds,HT.sIx]
  | some i =>
   simp only [sliceBounds,HT.sIx,Option.getD_none,show (1 : Int) > 0 by decide,if_true]
   by_cases h : i < 0
   ·simp only [h,if_true] <;> omega
   ·simp only [h,if_false] <;> omega
 ·cases hi with
  | none => simp [sliceBounds,HT.sIx]
  | some i =>
   simp only [sliceBounds,HT.sIx,Option.getD_none,show (1 : Int) > 0 by decide,if_true]
   by_cases h : i < 0
   ·simp only [h,if_true] <;> omega
   ·simp only [h,if_false] <;> omega
theorem slicePick_cut (its : List Value) (lo hi : Option Int) : slicePick its.toArray lo hi none = ((its.drop (HT.sIx its.length 0 lo)).take (HT.sIx its.length its.length hi - HT.sIx its.length 0 lo)).toArray := by
 obtain ⟨h1,h2,h3⟩ := slice_bounds lo hi its.toArray.size
 unfold slicePick
 rw [h1,h2,h3]
 simp only [sliceRange_one,pick_run,List.size_toArray] <;> rfl
noncomputable def rSlL (K : PySem.W.Frag) : V → Option Int → Option Int → Hp → VK → Prop := fun x lo hi H Q => ∃ a xs,x = .ref a ∧ SqL K H a xs ∧ ∀ p,H p = none → Q (.ref p) (upd H p (.lst (cutV xs lo hi)))
theorem sl_list : SlR X (rSlL X.K) := by
 intro pins s σ H x v vl vu lo hi sl Q I rx hs pl pu h
 obtain ⟨a,xs,rfl,hx,q⟩ := h
 cases rx
 obtain ⟨its,r,ht,hz⟩ := I.list hx
 have hlen := r.length
 refine ⟨"list",_,slot_list_getitem.lookup,ht.isList.typeIs,?_⟩
 refine wpAny_getItem_list_slice ht.isList hs pl pu .none (by simp) ?_ (by rw [List.size_toArray] <;> omega)
 rw [slicePick_cut,← hlen]
 refine ⟨.ref s.heap.objs.size,_,I.laid (t' := s.toks) (o := .lst (cutV xs lo hi)) (fun b ob q => Heap.get?_push_of_some _ q) (Nat.le_refl _) ?_,rfl,q _ (I.hok.fresh (Nat.le_refl _))⟩
 exact ⟨Nat.le_trans (cutV_length xs lo hi) hz,_,0,(r.drop (HT.sIx xs.length 0 lo)).take (HT.sIx xs.length xs.length hi - HT.sIx xs.length 0 lo),Heap.get?_push_size _ rfl⟩
noncomputable def flatV : V → Bool
 | .non => true
 | .bl _ => true
 | .int _ => true
 | .str _ => true
 | _ => false
noncomputable def eqV : V → V → Bool
 | .non,.non => true
 | .bl a,.bl b => a == b
 | .bl a,.int b => (if a then 1 else 0) == b
 | .int a,.bl b => a == (if b then 1 else 0)
 | .int a,.int b => a == b
 | .str a,.str b => a == b
 | _,_ => false
theorem eqAt_V {A : Around} {s : Shared} {y x : V} {u v : Value} (ry : RelV y u) (rx : RelV x v) (fy : flatV y = true) (fx : flatV x = true) : SeqAt.EqAt A s u v (eqV y x) := by
 cases y with
 | non =>
  cases ry
  cases x with
  | non => cases rx; exact SeqAt.EqAt.same _
  | bl b => cases rx; exact SeqAt.EqAt.none_bool b
  | int b => obtain ⟨t,rfl⟩ := rx; exact SeqAt.EqAt.none_int b t
  | str b => obtain ⟨t,rfl⟩ := rx; exact SeqAt.EqAt.none_str b t
  | _ => exact absurd (show false = true from fx) Bool.false_ne_true
 | bl a =>
  cases ry
  cases x with
  | non => cases rx; exact SeqAt.EqAt.bool_none a
  | bl b => cases rx; exact SeqAt.EqAt.bool_bool a b
  | int b => obtain ⟨t,rfl⟩ := rx; exact SeqAt.EqAt.bool_int a b t
  | str b => obtain ⟨t,rfl⟩ := rx; exact SeqAt.EqAt.bool_str a b t
  | _ => exact absurd (show false = true from fx) Bool.false_ne_true
 | int a =>
  obtain ⟨t',rfl⟩ := ry
  cases x with
  | non => cases rx; exact SeqAt.EqAt.int_none a t'
  | bl b => cases rx; exact SeqAt.EqAt.int_bool a t' b
  | int b => obtain ⟨t,rfl⟩ := rx; exact SeqAt.EqAt.int_int a t' b t
  | str b => obtain ⟨t,rfl⟩ := rx; exact SeqAt.EqAt.int_str a t' b t
  | _ => exact absurd (show false = true from fx) Bool.false_ne_true
 | str a =>
  obtain ⟨t',rfl⟩ := ry
  cases x with
  | non => cases rx; exact SeqAt.EqAt.str_none a t'
  | bl b => cases rx; exact SeqAt.EqAt.str_bool a t' b
  | int b => obtain ⟨t,rfl⟩ := rx; exact SeqAt.EqAt.str_int a t' b t
  | str b => obtain ⟨t,rfl⟩ := rx; exact SeqAt.EqAt.str_str a t' b t
  | _ => exact absurd (show false = true from fx) Bool.false_ne_true
 | _ => exact absurd (show false = true from fy) Bool.false_ne_true
noncomputable def eqU (x : V) (u : Value) : Bool := match u with
 | .none => eqV .non x
 | .bool b => eqV (.bl b) x
 | .int i _ => eqV (.int i) x
 | .str z _ => eqV (.str z) x
 | _ => false
theorem eqU_of {x y : V} {u : Value} (r : RelV y u) (f : flatV y = true) : eqU x u = eqV y x := by
 cases y with
 | non => cases r; rfl
 | bl b => cases r; rfl
 | int i => obtain ⟨t,rfl⟩ := r; rfl
 | str z => obtain ⟨t,rfl⟩ := r; rfl
 | _ => exact absurd (show false = true from f) Bool.false_ne_true
theorem any_eqU {x : V} : ∀ {xs : List V} {us : List Value},Vals xs us → xs.all flatV = true → us.any (eqU x) = xs.any fun y => eqV y x
 | _,_,.nil,_ => rfl
 | y :: xs,u :: us,.cons r t,f => by
  rw [List.all_cons,Bool.and_eq_true] at f
  rw [List.any_cons,List.any_cons,eqU_of r f.1,any_eqU t f.2]
theorem mem_eqAt {A : Around} {s : Shared} {x : V} {v : Value} (rx : RelV x v) (fx : flatV x = true) : ∀ {xs : List V} {us : List Value},Vals xs us → xs.all flatV = true → ∀ u ∈ us,SeqAt.EqAt A s u v (eqU x u)
 | _,_,.nil,_ => fun u hu => by cases hu
 | y :: xs,u :: us,.cons r t,f => fun u' hu => by
  rw [List.all_cons,Bool.and_eq_true] at f
  rcases List.mem_cons.mp hu with rfl | hu
  ·rw [eqU_of r f.1]; exact eqAt_V r rx f.1 fx
  ·exact mem_eqAt rx fx t f.2 u' hu
noncomputable def inV (x : V) (xs : List V) : Bool := xs.any fun y => eqV y x
noncomputable def rIn (K : PySem.W.Frag) (neg : Bool) : R2 := fun x y H Q => ∃ p xs,y = .ref p ∧ (SqL K H p xs ∨ SqT K H p xs) ∧ flatV x = true ∧ xs.all flatV = true ∧ Q (.bl (if neg then !inV x xs else inV x xs)) H
theorem op_notIn_seq : OpR X (compareOp .NotIn) (rIn X.K true) := by
 intro pins s σ H x y v u Q I rx ry h
 obtain ⟨p,xs,rfl,hq,fx,fs,q⟩ := h
 cases ry
 rcases hq with hq | hq
 ·obtain ⟨its,r,pl,hz⟩ := I.list hq
  refine SeqAt.notIn_listAt (eqU x) pl.isList (fun w hw => mem_eqAt rx fx r fs w (by simpa using hw)) ⟨.bl _,H,I,rfl,?_⟩
  rw [show its.toArray.any (eqU x) = its.any (eqU x) by simp,any_eqU r fs]
  exact q
 ·obtain ⟨its,r,pl,hz⟩ := I.tuple hq
  refine SeqAt.notIn_tupleAt (eqU x) pl (fun w hw => mem_eqAt rx fx r fs w (by simpa using hw)) ⟨.bl _,H,I,rfl,?_⟩
  rw [show its.toArray.any (eqU x) = its.any (eqU x) by simp,any_eqU r fs]
  exact q
theorem call_len_seq : CallR X (.builtin "len") (fun xs H Q => ∃ p ys,xs = [.ref p] ∧ (SqL X.K H p ys ∨ SqT X.K H p ys) ∧ Q (.int ys.length) H) := by
 intro pins s σ H xs us Q I r h
 obtain ⟨p,ys,rfl,hq,q⟩ := h
 obtain ⟨u,rfl,rx⟩ := vals1 r
 cases rx
 have hn := line63
 rcases hq with hq | hq
 ·obtain ⟨its,r',pl,hz⟩ := I.list hq
  have hlen := r'.length
  exact Calls.call_len_list pl.isList (by simp only [List.size_toArray] <;> omega) ⟨.int ys.length,H,I.tok _,⟨s.toks + 1,by rw [List.size_toArray,hlen]⟩,q⟩
 ·obtain ⟨its,r',pl,hz⟩ := I.tuple hq
  have hlen := r'.length
  exact len_tuple pl (by simp only [List.size_toArray] <;> omega) ⟨.int ys.length,H,I.tok _,⟨s.toks + 1,by rw [List.size_toArray,hlen]⟩,q⟩
theorem CallR.or {f : Value} {r r' : List V → Hp → VK → Prop} (h : CallR X f r) (h' : CallR X f r') : CallR X f (fun xs H Q => r xs H Q ∨ r' xs H Q) := by
 intro pins s σ H xs us Q I rs q
 rcases q with q | q
 ·exact h pins s σ H xs us Q I rs q
 ·exact h' pins s σ H xs us Q I rs q
theorem call_list_of : CallR X (.type "list") (fun xs H Q => ∃ p ys,xs = [.ref p] ∧ (SqL X.K H p ys ∨ SqT X.K H p ys) ∧ ∀ l,H l = none → Q (.ref l) (upd H l (.lst ys))) := by
 intro pins s σ H xs us Q I r h
 obtain ⟨p,ys,rfl,hq,q⟩ := h
 obtain ⟨u,rfl,rx⟩ := vals1 r
 cases rx
 have fin : ∀ (its : List Value),Vals ys its → ys.length ≤ sizeLine → ∀ (h' : Heap) (c' : Nat),(∀ b o',s.heap.get? b = some o' → h'.get? b = some o') →
   h'.get? s.heap.objs.size = some { cls := .type "list",dict := none,data := .seq its.toArray c',slots := #[] } → EP X pins σ Q (.ref s.heap.objs.size) { s with heap := h' } := fun its r' hz h' c' kp e =>
  ⟨.ref s.heap.objs.size,_,I.laid (t' := s.toks) kp (Nat.le_refl _) (show ObjOk X.prog X.w _ h' _ (.lst ys) from ⟨hz,its,c',r',e⟩),rfl,q _ (I.hok.fresh (Nat.le_refl _))⟩
 rcases hq with hq | hq
 ·obtain ⟨its,r',pl,hz⟩ := I.list hq
  have hlen := r'.length
  obtain ⟨o,ho,hc,n,hd⟩ := pl.isList
  exact call_list_seq p (.inl rfl) ho hc hd (fun h' c' kp e => fin its r' hz h' c' kp e) (by simp only [List.size_toArray] <;> omega)
 ·obtain ⟨its,r',pl,hz⟩ := I.tuple hq
  have hlen := r'.length
  obtain ⟨o,ho,hc,n,hd⟩ := pl
  exact call_list_seq p (.inr rfl) ho hc hd (fun h' c' kp e => fin its r' hz h' c' kp e) (by simp only [List.size_toArray] <;> omega)
noncomputable def tyV (K : PySem.W.Frag) (T : String) (x : V) (H : Hp) : Prop := match x with
 | .str _ => T = "str"
 | .int _ => T = "int"
 | .ref p => (T = "list" ∧ ∃ xs,SqL K H p xs) ∨ (T = "tuple" ∧ ∃ o,K.lookup p = some o ∧ o.cls = .type "tuple" ∧ o.dict = none) ∨
   (T = "dict" ∧ ((∃ kvs,H p = some (.dK kvs)) ∨ ∃ kvs,H p = some (.dT kvs))) ∨ (T = "set" ∧ ∃ S n,H p = some (.set S n))
 | _ => False
theorem tyV_is {pins : List (Addr × Obj)} {σ : St} {H : Hp} {s : Shared} {T : String} {x : V} {v : Value} (I : Inv X pins σ H s) (r : RelV x v) (ty : tyV X.K T x H) :
  s.TypeIs v T ∧ ∀ a,v = .ref a → ∃ ob,s.heap.get? a = some ob ∧ ob.dict = none := by
 cases x with
 | str z =>
  obtain ⟨t,rfl⟩ := r
  cases (show T = "str" from ty)
  exact ⟨typeIs_str s z t,fun _ e => nomatch e⟩
 | int i =>
  obtain ⟨t,rfl⟩ := r
  cases (show T = "int" from ty)
  exact ⟨typeIs_int s i t,fun _ e => nomatch e⟩
 | ref p =>
  cases r
  rcases ty with ⟨rfl,xs,hq⟩ | ⟨rfl,o,hk,hc,hd⟩ | ⟨rfl,hk⟩ | ⟨rfl,S,n,hk⟩
  ·obtain ⟨its,_,pl,_⟩ := I.list hq
   refine ⟨pl.isList.typeIs,fun a e => ?_⟩
   cases e
   obtain ⟨o,n,e,c,hd,_⟩ := pl
   exact ⟨o,e,hd⟩
  ·refine ⟨⟨o,I.kIn p o hk,hc⟩,fun a e => ?_⟩
   cases e
   exact ⟨o,I.kIn _ o hk,hd⟩
  ·have z : ∃ o,s.heap.get? p = some o ∧ o.ExactDict := by
    rcases hk with ⟨kvs,hk⟩ | ⟨kvs,hk⟩
    ·obtain ⟨_,_,_,_,o,_,_,e,ex,_⟩ := I.hok p _ hk
     exact ⟨o,e,ex⟩
    ·obtain ⟨_,_,_,_,o,_,_,e,ex,_⟩ := I.hok p _ hk
     exact ⟨o,e,ex⟩
   obtain ⟨o,e,ex⟩ := z
   refine ⟨⟨o,e,ex.1⟩,fun a e2 => ?_⟩
   cases e2
   exact ⟨o,e,ex.2.1⟩
  ·obtain ⟨o,_,_,_,e,ex,_⟩ := I.hok p _ hk
   refine ⟨⟨o,e,ex.1⟩,fun a e2 => ?_⟩
   cases e2
   exact ⟨o,e,ex.2.1⟩
 | _ => exact False.elim ty
noncomputable def tBM (K : PySem.W.Frag) (T : String) (r : V → List V → Hp → VK → Prop) (to : TE) (t : TA) : TE := fun σ H Q => to σ H fun x H1 => tyV K T x H1 ∧ t σ H1 fun xs H2 => r x xs H2 Q
variable {o e : Expr} {es : List Expr} {to : TE} {t : TA} {name : Str} {apos cpos : Pos} {T id : String} {r : V → List V → Hp → VK → Prop}
theorem pe_bm (pa : PlainAttrs T) (slot : Slot T name id) (hty : typeOf (.builtin id) = pure (.type "method_descriptor")) (hm : MtR X id r) (ho : PE X o to) (ha : PA X (e :: es) t)
  (hbase : attributeBase o name X.env (eval o X.env) = eval o X.env := by rfl)
  (hfew : ((backTo cpos (starEach (e :: es) X.env)).all (fun x => !x.1) && (backToKw cpos (keywordEach [] X.env)).all (fun x => x.1.isSome)
   && decide ((e :: es).length + ([] : List Keyword).length + (if ([] : List Keyword).isEmpty then 0 else 1) < 30)) = true := by rfl)
  (hline : (apos.endLine == cpos.line) = true := by rfl) (hs : starEach (e :: es) X.env = (false,eval e X.env) :: starEach es X.env := by rfl) (hplain : (backTo cpos (starEach es X.env)).any (·.1) = false := by rfl) :
  PE X (.Call (.Attribute o name apos) (e :: es) [] cpos) (tBM X.K T r to t) := by
 intro pins s σ H Q I h
 refine wpAny_Call_method_late hbase hfew hline rfl (thn (ho pins s σ H _ I h) fun v s1 ⟨x,H1,I1,r1,ty,q1⟩ => ?_)
 obtain ⟨h1,h2⟩ := tyV_is I1 r1 ty
 refine ⟨T,id,pa,slot,hty,h1,h2,?_⟩
 have hA := ha cpos pins s1 σ H1 _ I1 q1
 rw [hs] at hA ⊢
 refine Calls.callWith_builtin (by show (false || (backTo cpos (starEach es X.env)).any (·.1)) = false; rw [hplain] <;> rfl) (Calls.evalArgs_plain ?_)
 exact thn hA fun us s2 ⟨vs,H2,I2,r2,q2⟩ => hm pins s2 σ H2 x vs v us Q I2 r1 r2 q2
end
end L2
namespace L2
open PySem PySem.Spec PyProof.Rows
noncomputable def MtM (X : Cx) (id : String) (r : V → List V → Hp → VK → Prop) : Prop :=
 ∀ (pins : List (Addr × Obj)) (s : Shared) (σ : St) (H : Hp) (x : V) (xs : List V) (v : Value) (us : List Value) (Q : VK),Inv X pins σ H s → RelV x v → Vals xs us → r x xs H Q →
  wpAny (model X.prog X.w) X.A (call (.builtin id) (v :: us)) (EP X pins σ Q) X.xe s
theorem Vals.one : ∀ {x : V} {us : List Value},Vals [x] us → ∃ u,us = [u] ∧ RelV x u
 | _,_,.cons r .nil => ⟨_,rfl,r⟩
theorem Vals.two : ∀ {x y : V} {us : List Value},Vals [x,y] us → ∃ u v,us = [u,v] ∧ RelV x u ∧ RelV y v
 | _,_,_,.cons r (.cons q .nil) => ⟨_,_,rfl,r,q⟩
theorem Vals.zero : ∀ {us : List Value},Vals [] us → us = []
 | _,.nil => rfl
theorem Vals.dropLast {xs : List V} {us : List Value} (h : Vals xs us) : Vals xs.dropLast us.dropLast := by
 induction h with
 | nil => exact .nil
 | cons r t ih =>
  cases t with
  | nil => exact .nil
  | cons q t' => exact .cons r ih
section
variable {X : Cx} {pins : List (Addr × Obj)} {σ : St} {H : Hp} {s : Shared} {l b : Addr} {xs ys zs : List V}
theorem Inv.lset {its its' : List Value} {n : Nat} {f : Array Value → Array Value} {t' : Nat} (I : Inv X pins σ H s) (hH : H l = some (.lst xs))
  (e : s.heap.get? l = some { cls := .type "list",data := .seq its.toArray n }) (hf : f its.toArray = its'.toArray) (hv : Vals ys its') (hz : ys.length ≤ sizeLine) :
  Inv X pins σ (upd H l (.lst ys)) { s with heap := s.heap.update l (Obj.mapSeq f),toks := t' } := by
 have q := PySem.IsL.update e f
 rw [hf] at q
 refine I.write (x := l) (e := l) (by rw [hH]; exact trivial) (.inl rfl) (fun b' u hb hu => (Heap.get?_update_other s.heap (Obj.mapSeq f) (Ne.symm hb)).trans hu) ⟨_,q⟩ ?_
 exact ⟨hz,its',_,hv,q⟩
theorem Inv.lnew {its : List Value} {t' : Nat} (I : Inv X pins σ H s) (hv : Vals ys its) (hz : ys.length ≤ sizeLine) :
  Inv X pins σ (upd H s.heap.objs.size (.lst ys)) { s with heap := s.heap.push { cls := .type "list",data := .seq its.toArray },toks := t' } :=
 I.laid (fun _ _ q => Heap.get?_push_of_some _ q) (Nat.le_refl _) ⟨hz,its,0,hv,Heap.get?_push_size _ rfl⟩
theorem Inv.fresh (I : Inv X pins σ H s) : H s.heap.objs.size = none := I.hok.fresh (Nat.le_refl _)
theorem Inv.lstM (I : Inv X pins σ H s) (hH : H l = some (.lst xs)) : xs.length ≤ sizeLine ∧ ∃ (its : List Value) (n : Nat),Vals xs its ∧ xs.length = its.length ∧ s.heap.get? l = some { cls := .type "list",data := .seq its.toArray n } := by
 obtain ⟨z,its,n,r,e⟩ := I.hok l _ hH
 exact ⟨z,its,n,r,r.length,e⟩
end
section
variable {X : Cx}
noncomputable def rAppend : V → List V → Hp → VK → Prop := fun x vs H Q => ∃ l xs y,x = .ref l ∧ vs = [y] ∧ H l = some (.lst xs) ∧ xs.length < sizeLine ∧ Q .non (upd H l (.lst (xs ++ [y])))
theorem mt_append : MtM X "list.append" rAppend := by
 intro pins s σ H x vs v us Q I rx rv h
 obtain ⟨l,xs,y,rfl,rfl,hH,hz,q⟩ := h
 cases rx
 obtain ⟨u,rfl,ru⟩ := rv.one
 obtain ⟨z,its,n,r,hl,e⟩ := I.lstM hH
 refine call_meets F.slot_list_append ⟨_,e,rfl⟩ F.entry_list_append (F.args_list_append_2 _ _) (PySem.list_append l its.toArray n u (by rw [List.size_toArray]; omega)) ⟨e,?_⟩
 refine ⟨.non,_,I.lset (its' := its ++ [u]) hH e (by simp) (r.append (.cons ru .nil)) ?_,rfl,q⟩
 rw [List.length_append,List.length_singleton]
 omega
noncomputable def rCat : R2 := fun x y H Q => ∃ l b xs zs,x = .ref l ∧ y = .ref b ∧ H l = some (.lst xs) ∧ H b = some (.lst zs) ∧ xs.length + zs.length ≤ sizeLine ∧ ∀ p,H p = none → Q (.ref p) (upd H p (.lst (xs ++ zs)))
theorem op_cat : OpR X (binaryOp .Add) rCat := by
 intro pins s σ H x y v u Q I rx ry h
 obtain ⟨l,b,xs,zs,rfl,rfl,hH,hB,hz,q⟩ := h
 cases rx
 cases ry
 obtain ⟨z,its,n,r,hl,e⟩ := I.lstM hH
 obtain ⟨z2,its2,n2,r2,hl2,e2⟩ := I.lstM hB
 refine PySem.P.add_list e e2 ?_ (by rw [List.size_toArray,List.size_toArray]; omega)
 have ea : its.toArray ++ its2.toArray = (its ++ its2).toArray := by simp
 rw [ea]
 exact ⟨.ref _,_,I.lnew (t' := s.toks) (r.append r2) (by rw [List.length_append]; omega),rfl,q _ I.fresh⟩
end
section
variable {prog : Program} {w : World} {A : Around} {E : Value → Shared → Prop} {s : Shared}
end
section
variable {X : Cx}
end
end L2
namespace Att
open PySem PySem.W PySem.Calls PyProof.Rows
theorem ints_of_wellAll {P : Params} {h : Heap} : ∀ (ns : List Int) (vs : List Value),WellAll P h vs (ns.map WData.int) → IntsAre vs ns := by
 intro ns
 induction ns with
 | nil =>
  intro vs w
  rw [List.map_nil] at w
  cases w
  exact .nil
 | cons n ns ih =>
  intro vs w
  rw [List.map_cons] at w
  cases w with
  | cons a b =>
   cases a
   exact .cons _ _ (ih _ b)
theorem script_of {l : OpenLaw} {n : Nat} (hn : l.most = some n) {P : Params} {h : Heap} {args : List WData} {vals : List Value}
  (hpre : l.row.toRowW.claim.pre args = true) (hwl : WellAll P h vals args) :
  ∃ a vs ns,vals = [Value.ref a] ∧ args = [WData.list (ns.map WData.int)] ∧ h.get? a = some { cls := .type "list",data := .seq vs.toArray } ∧ IntsAre vs ns ∧ ns.length ≤ n := by
 have hsh : WShape.hasAll [] args [.list .int] = true := (pre_splitW hpre).1
 have hc : l.pre.holds [] { args := args } = true := (pre_splitW hpre).2
 obtain ⟨d,r,rfl,h1,h2⟩ := hasAllW_cons hsh
 obtain rfl := hasAllW_nil h2
 obtain ⟨xs,rfl,h3⟩ := hasW_list h1
 obtain ⟨ns,rfl⟩ := items_int h3
 have hlen : ns.length ≤ n := by
  unfold OpenLaw.pre at hc
  have h4 : (WTm.not (.lt (.lit (.int (n : Int))) (.len (.arg 0)))).holds [] { args := [.list (ns.map .int)] } = true := by
   have h4 := (holds_andW hc).1
   rw [hn] at h4
   exact h4
  have h5 := condW_of h4 (w_not (w_lt w_lit (w_len_list (w_arg rfl))))
  rw [List.length_map] at h5
  refine Nat.le_of_not_lt fun q => ?_
  have q' : (n : Int) < ((ns.length : Nat) : Int) := by omega
  first
   | (rw [decide_eq_true q'] at h5; exact absurd h5 (by decide))
   | (simp at h5; omega)
 cases hwl with
 | cons w1 w2 =>
  cases w2
  cases w1 with
  | list ho hall => exact ⟨_,_,ns,rfl,rfl,ho,ints_of_wellAll ns _ hall,hlen⟩
theorem post_true (l : OpenLaw) (args : List WData) : l.row.toRowW.claim.post args (.bool true) args = true :=
 postW_of (r := l.row.toRowW) (X := (true == true))
  (show WShape.has [] (.bool true) .bool = true by first | rfl | decide | simp [WShape.has,WShape.arms,WShape.armsAll])
  (show (WTm.eq .res (.lit (.bool true))).value [] { args := args,res := some (.bool true),after := args } = some (.bool (true == true)) from w_eq_bool (w_res rfl) w_lit) rfl
theorem attach_call {l : OpenLaw} {n : Nat} {q : Program} {loose : List Str} {XP : (Str → Option Value) → Heap → Prop} {YP : World → Heap → Prop} {d : DefRec}
  (hn : l.most = some n) (hdf : d.params.defaults = [])
  (call : ∀ (w : World) (s₀ s₁ : Shared) (mg mb : Str → Option Value) (fa : Addr) (o : Obj) (pm cd doc : Value) (a : Addr) (vs : List Value) (ns : List Int),
   Ground q loose [] XP w s₀ mg mb s₁.heap → YP w s₁.heap →
   s₁.heap.get? fa = some o → o.data = .func (docDef d.name d.params d.body d.scope pm cd doc) → s₁.heap.CodeRec cd d.name → mg d.name = some (.ref fa) →
   s₁.heap.get? a = some { cls := .type "list",data := .seq vs.toArray } → IntsAre vs ns → ns.length ≤ n → s₁.gens = #[] →
   codeAny (model l.prog w) callerA (.call (.ref fa) ⟨[.ref a],[]⟩) (fun r s' => r = .ok (.ret (.bool true)) ∧ OldK s₁.heap s'.heap ∧ s'.os = s₁.os ∧ AllBare s'.gens) s₁) :
  WalkO q loose XP YP l.row.toRowW d [] (fun f vs => PySem.call f vs) := by
 intro w s₀ s₁ mg mb G Y fa o pm cd doc dV kV ho hd hcd hD hmg hg args vals as hpre hlay hrd hwl hlo
 obtain rfl : dV = .none := Dflts.none hD hdf
 obtain rfl : kV = .none := Dflts.noKw hD
 obtain ⟨a,vs,ns,rfl,rfl,hobj,hints,hlen⟩ := script_of hn hpre hwl
 refine enter_call (codeAny_mono (call w s₀ s₁ mg mb fa o pm cd doc a vs ns G Y ho (fd_plain hd) hcd hmg hobj hints hlen hg) fun r s' hq => ?_)
 obtain ⟨rfl,h2,h3,h4⟩ := hq
 exact ⟨.inl ⟨.bool true,.bool true,[],rfl,fun _ => rfl,.bool true,post_true l _,fun _ => ⟨List.Pairwise.nil,fun _ hm => (nomatch hm)⟩⟩,h2,h3,h4⟩
section
variable {prog : Program} {w : World} {A : Around} {E : Value → Shared → Prop} {s : Shared} {K : Frag}
noncomputable def ledger (h : Heap) (L d : Addr) : List (Addr × Obj) := (List.range h.objs.size).filterMap fun a => if a = L ∨ a = d then none else (h.get? a).map fun o => (a,o)
end
end Att
namespace L2
open PySem PySem.Spec PyProof.Rows
theorem vals_ints : ∀ {vs : List Value} {ns : List Int},IntsAre vs ns → Vals (ns.map V.int) vs
 | _,_,.nil => .nil
 | _,_,.cons n t h => .cons ⟨t,rfl⟩ (vals_ints h)
noncomputable def Only (H : Hp) : Prop := ∀ b,H b = none ∨ ∃ o xs,H b = some (.frz o (.lst xs))
theorem law_call {P : Program} {w : World} {K : PySem.W.Frag} {mg mb : Str → Option Value} {CX : CXT} {k : Nat} {fa a : Addr} {fd : FuncData} {x : Str} {sp : Sp} {s₁ : Shared} {vs : List Value} {ns : List Int}
  (KX : K.In s₁.heap) (hns : s₁.heap.Ns mainGlobals mg) (hb : s₁.heap.Ns builtinsNs mb) (hbb : ∀ x : Str,x ≠ "__name__" → mb x = bootBuiltins x) (hlim : s₁.heap.NoLimit) (hg : s₁.gens = #[])
  (ha : s₁.heap.get? a = some { cls := .type "list",data := .seq vs.toArray }) (hi : IntsAre vs ns) (hl : ns.length ≤ sizeLine) (hr : Room k callerA)
  (F : ∀ base : Heap,K.In base → base.Ns mainGlobals mg → FnOk P w K mg base CX k fa fd [x] sp) (hbind : ∀ (s : Shared) (u : Value),BindsTo s fd ⟨[u],[]⟩ [(x,u)])
  (hsp : ∀ H : Hp,Only H → SqL K H a (ns.map V.int) → sp [.ref a] H (fun v _ => v = .bl true) fun _ _ _ => False)
  (hCX : ∀ H e s',CX [] H s₁ (fun _ _ _ => False) e s' → False) :
  codeAny (model P w) callerA (.call (.ref fa) ⟨[.ref a],[]⟩) (fun r s' => r = .ok (.ret (.bool true)) ∧ OldK s₁.heap s'.heap ∧ s'.os = s₁.os ∧ AllBare s'.gens) s₁ := by
 have rv := vals_ints hi
 have lenV := hi.length
 have core : ∀ H : Hp,Only H → SqL K H a (ns.map V.int) → HOk P w H s₁.heap → (∀ b,H b ≠ none → b = a) → (H a ≠ none → K.lookup a = none) →
   codeAny (model P w) callerA (.call (.ref fa) ⟨[.ref a],[]⟩) (fun r s' => r = .ok (.ret (.bool true)) ∧ OldK s₁.heap s'.heap ∧ s'.os = s₁.os ∧ AllBare s'.gens) s₁ := by
  intro H hO hS hok hA hK
  have base_of : ∀ {b : Addr} {o : Obj},s₁.heap.get? b = some o → H b = none → (hidT s₁.heap H).get? b = some o := fun e n => hidT_get e n
  have noA : ∀ {b : Addr} {o : Obj} {es : Array DictEntry} {ep : Nat},s₁.heap.get? b = some o → o.data = .dict es ep → H b = none := fun {b o es ep} e d => by
   cases q : H b with
   | none => rfl
   | some u =>
    have e' : b = a := hA b (by rw [q]; simp)
    subst e'
    rw [ha] at e; cases e
    have d' : Data.seq vs.toArray _ = Data.dict es ep := d
    cases d'
  have nsK : ∀ {b : Addr} {m : Str → Option Value},s₁.heap.Ns b m → (hidT s₁.heap H).Ns b m := fun {b m} ⟨o,es,ep,e,d,r⟩ => ⟨o,es,ep,base_of e (noA e d),d,r⟩
  have hKb : K.In (hidT s₁.heap H) := fun b o e => base_of (KX b o e) (by
   cases q : H b with
   | none => rfl
   | some u =>
    have e' : b = a := hA b (by rw [q]; simp)
    subst e'
    rw [hK (by rw [q]; simp)] at e; cases e)
  have hM : Mod K mg (hidT s₁.heap H) := ⟨hKb,nsK hns,⟨mb,nsK hb,hbb⟩,let ⟨mc,h1,h2⟩ := hlim; ⟨mc,nsK h1,h2⟩⟩
  have e0 : Env0 P w K mg (hidT s₁.heap H) callerA [] s₁ H := ⟨rfl,hM,fun b o e => of_hidT e,Nat.le_of_eq (hidT_size _ _),trivial,fun b hb => absurd (show b ∈ ([] : List Addr) from hb) (by simp),hok,.of_eq hg⟩
  refine codeAny_mono ((F _ hKb (nsK hns)).run callerA [] s₁ H ⟨[.ref a],[]⟩ [.ref a] [.ref a] _ _ hr e0 (hbind s₁ (.ref a)) (.cons rfl .nil) (hsp H hO hS)) fun r s' h => ?_
  cases r with
  | error e => exact (hCX H e s' h).elim
  | ok fl =>
   cases fl with
   | next => exact False.elim h
   | brk => exact False.elim h
   | cont => exact False.elim h
   | ret u =>
    obtain ⟨v,H',os,bare,un,hok',r',q⟩ := h
    have q' : v = .bl true := q
    subst q'
    obtain rfl : u = Value.bool true := r'
    refine ⟨rfl,OldK.of_keep fun b o e => ?_,os,bare⟩
    cases q : H b with
    | none => exact un.keep b o e q (by intro z; exact absurd (show b ∈ ([] : List Addr) from z) (by simp)) (by simp)
    | some u =>
     rcases hO b with z | ⟨ob,xs,z⟩
     ·rw [q] at z; cases z
     ·have z2 := un.frzs b ob _ z
      obtain ⟨e1,_⟩ := hok b _ z
      obtain ⟨e2,_⟩ := hok' b _ z2
      rw [e] at e1; cases e1
      exact e2
 cases hk : K.lookup a with
 | some o =>
  have e := KX a o hk
  rw [ha] at e
  cases e
  refine core (fun _ => none) (fun _ => .inl rfl) (.inr ⟨_,vs.toArray,_,hk,rfl,rfl,rfl,by rw [List.size_toArray,lenV]; exact hl,by simpa using rv⟩) (fun b u z => by have z' : (none : Option HO) = some u := z; cases z') (fun b z => absurd rfl z) fun z => absurd rfl z
 | none =>
  refine core (fun b => if b = a then some (.frz { cls := .type "list",data := .seq vs.toArray } (.lst (ns.map V.int))) else none) (fun b => ?_) (.inl (.inr ⟨{ cls := .type "list",data := .seq vs.toArray },if_pos rfl⟩)) (fun b u z => ?_) (fun b z => ?_) fun _ => hk
  ·by_cases hb : b = a
   ·exact .inr ⟨_,_,if_pos hb⟩
   ·exact .inl (if_neg hb)
  ·by_cases hb : b = a
   ·have z' := (if_pos hb).symm.trans z
    cases z'
    subst hb
    exact ⟨ha,by rw [List.length_map]; exact hl,vs,_,rv,ha⟩
   ·have z' := (if_neg hb).symm.trans z
    cases z'
  ·by_cases hb : b = a
   ·exact hb
   ·exact absurd (if_neg hb) z
end L2
namespace L2
open PySem PySem.Spec PyProof.Rows
noncomputable abbrev KOf {K : PySem.W.Frag} {h : Heap} (_ : K.In h) : PySem.W.Frag := K
theorem walk_of {l : PySem.W.OpenLaw} {n k : Nat} {q : Program} {loose : List Str} {XP : (Str → Option Value) → Heap → Prop} {YP : World → Heap → Prop} {d : DefRec} {K : Params → PySem.W.Frag} {CX : World → CXT} {sp : World → Sp} {x : Str}
  (hn : l.most = some n) (hn2 : n ≤ sizeLine) (hdf : d.params.defaults = []) (hr : Room k callerA)
  (hY : ∀ (w : World) (h : Heap),YP w h → (K w.params).In h)
  (F : ∀ (w : World) (mg : Str → Option Value) (fa : Addr) (h : Heap),(K w.params).In h → h.Ns mainGlobals mg → mg d.name = some (.ref fa) →
   ∃ fd : FuncData,(∀ (s : Shared) (u : Value),BindsTo s fd ⟨[u],[]⟩ [(x,u)]) ∧
    ∀ base : Heap,(K w.params).In base → base.Ns mainGlobals mg → FnOk l.prog w (K w.params) mg base (CX w) k fa fd [x] (sp w))
  (hsp : ∀ (w : World) (H : Hp) (a : Addr) (ns : List Int),ns.length ≤ n → Only H → SqL (K w.params) H a (ns.map V.int) → sp w [.ref a] H (fun v _ => v = .bl true) fun _ _ _ => False)
  (hCX : ∀ (w : World) (H : Hp) (s : Shared) (e : Value) (s' : Shared),CX w [] H s (fun _ _ _ => False) e s' → False) :
  PySem.W.WalkO q loose XP YP l.row.toRowW d [] (fun f vs => PySem.call f vs) := by
 refine Att.attach_call hn hdf fun w s₀ s₁ mg mb fa o pm cd doc a vs ns G Y ho hd hcd hmg hobj hints hlen hg => ?_
 have KX := hY w _ Y
 obtain ⟨fd,hb,hF⟩ := F w mg fa _ KX G.T.g hmg
 exact law_call KX G.T.g G.T.b G.T.builtins G.T.nolimit hg hobj hints (Nat.le_trans hlen hn2) hr hF hb (fun H hO hS => hsp w H a ns hlen hO hS) fun H e s' => hCX w H s₁ e s'
end L2
namespace L2
open PySem PySem.Spec PyProof.Rows
noncomputable abbrev CX0 : CXT := fun _ _ _ _ _ _ => False
noncomputable abbrev E0 : XK := fun _ _ _ => False
theorem pass0 {X : Cx} : Passes CX0 X E0 := fun _ _ _ _ _ _ _ h => h.elim
structure Fun (K : PySem.W.Frag) (x qual : Str) (st : Stmt) (f : Addr) (fd : FuncData) : Prop where
 ex : ∃ (oc : Value) (od : Option Addr) (kV doc pm : Value) (an : Option Addr) (cdv ct : Value) (osl : Array (Option Value)),
  fd = PySem.W.fnOf x qual (defArgs st) (defBody st) (defScope st) .none kV doc pm an cdv ct ∧ K.lookup f = some ⟨oc,od,.func fd,osl⟩ ∧ PySem.W.codeIn K cdv qual = true
 kp : PySem.W.keepIn K (.ref f) = true
section
variable {P : Program} {w : World} {K : PySem.W.Frag} {mg : Str → Option Value} {base : Heap}
theorem Fun.ok {x qual : Str} {st : Stmt} {f : Addr} {fd : FuncData} {N ps : List Str} {k : Nat} {sp : Sp} (F : Fun K x qual st f fd) (S : FnScope N ps (defScope st)) (len : ∀ vs H Q E,sp vs H Q E → vs.length = ps.length)
  (hbody : ∀ (cdv : Value) (A : Around) (outer : List Env) (s : Shared) (H : Hp) (vs : List V) (Q : VK) (E : XK),Room k (A.deeper (envOfC qual (defScope st) s.heap.objs.size f cdv)) → sp vs H Q E →
   ∃ t,PSs (cxOf CX0 P w K mg base N qual (defScope st) f cdv A outer s H E).nox (defBody st) t ∧ t { nx := fun _ H' => Q .non H',rt := Q } (start N vs) H) : FnOk P w K mg base CX0 (k + 1) f fd ps sp := by
 obtain ⟨oc,od,kV,doc,pm,an,cdv,ct,osl,rfl,lk,hcd⟩ := F.ex
 refine fn_of lk hcd S len fun A outer s H vs Q E hr hsp => ?_
 obtain ⟨t,h,q⟩ := hbody cdv A outer s H vs Q E hr hsp
 exact ⟨t,h.nox,q⟩
theorem Fun.binds {x qual : Str} {st : Stmt} {f : Addr} {fd : FuncData} {ps : List Str} (F : Fun K x qual st f fd)
  (h : ∀ (kV doc pm : Value) (an : Option Addr) (cdv ct : Value) (us : List Value),us.length = ps.length → bindArgs (PySem.W.fnOf x qual (defArgs st) (defBody st) (defScope st) .none kV doc pm an cdv ct) ⟨us,[]⟩ = pure (ps.zip us)) : Binds K fd ps [] := by
 obtain ⟨oc,od,kV,doc,pm,an,cdv,ct,osl,rfl,lk,hcd⟩ := F.ex
 exact .all (h kV doc pm an cdv ct)
theorem fun_mk {x qual : Str} {st : Stmt} {f : Addr} {oc : Value} {od an : Option Addr} {osl : Array (Option Value)} {kV doc pm cdv ct : Value} (l : K.lookup f = some ⟨oc,od,.func (PySem.W.fnOf x qual (defArgs st) (defBody st) (defScope st) .none kV doc pm an cdv ct),osl⟩)
  (c : PySem.W.codeIn K cdv qual = true) (k : PySem.W.keepIn K (.ref f) = true) : Fun K x qual st f (PySem.W.fnOf x qual (defArgs st) (defBody st) (defScope st) .none kV doc pm an cdv ct) := ⟨⟨oc,od,kV,doc,pm,an,cdv,ct,osl,rfl,l,c⟩,k⟩
end
theorem small1000 {n : Nat} (h : n ≤ 1000) : n < sizeLine := Nat.lt_of_le_of_lt h (by decide)
section
variable {X : Cx}
end
theorem iteF {A B : Prop} (h : B) : if false = true then A else B := by
 rw [if_neg Bool.false_ne_true]
 exact h
theorem iteT {A B : Prop} (h : A) : if true = true then A else B := by
 rw [if_pos rfl]
 exact h
theorem ite2 {c A B : Prop} [Decidable c] (h1 : c → A) (h2 : ¬ c → B) : if c then A else B := by
 by_cases h : c
 ·rw [if_pos h]
  exact h1 h
 ·rw [if_neg h]
  exact h2 h
noncomputable def Same (H H' : Hp) : Prop := ∀ b o,H b = some o → H' b = some o
theorem Same.refl (H : Hp) : Same H H := fun _ _ h => h
theorem Same.trans {H H1 H2 : Hp} (a : Same H H1) (b : Same H1 H2) : Same H H2 := fun c o h => b c o (a c o h)
theorem Same.free {H H' : Hp} (e : Same H H') {l : Addr} (h : H' l = Option.none) : H l = Option.none := by
 cases q : H l with
 | none => rfl
 | some o =>
  rw [e l o q] at h
  cases h
theorem Same.seq {K : PySem.W.Frag} {H H' : Hp} {a : Addr} {xs : List V} (e : Same H H') (h : SqL K H a xs) : SqL K H' a xs := by
 rcases h with (h | ⟨o,h⟩) | h
 ·exact .inl (.inl (e _ _ h))
 ·exact .inl (.inr ⟨o,e _ _ h⟩)
 ·exact .inr h
end L2
set_option maxHeartbeats 4000000
namespace Ma
theorem split (d x : Int) (hd : 0 < d) : ∃ q,x = d * q + x % d ∧ 0 ≤ x % d ∧ x % d < d :=
 ⟨x / d,by have := Int.mul_ediv_add_emod x d; omega,Int.emod_nonneg x (by omega),Int.emod_lt_of_pos x hd⟩
theorem mul_lt_step {d k m : Int} (hd : 0 < d) (h : k < m) : d * k + d ≤ d * m := by
 have := Int.mul_le_mul_of_nonneg_left (show k + 1 ≤ m by omega) (Int.le_of_lt hd)
 rw [Int.mul_add,Int.mul_one] at this
 exact this
noncomputable def nextO (d a b t : Int) : Int := if b < t % d then t - t % d + d + a else t - t % d + (if a > t % d then a else t % d)
noncomputable def lastO (d a b t : Int) : Int := if t % d < a then t - t % d - d + b else t - t % d + (if b < t % d then b else t % d)
section
variable {d a b t : Int}
theorem next_spec (hd : 0 < d) (h0 : 0 ≤ a) (h1 : a ≤ b) (h2 : b < d) :
  ∃ k,d * k + a ≤ nextO d a b t ∧ nextO d a b t ≤ d * k + b ∧ t ≤ nextO d a b t ∧ nextO d a b t < t + d ∧
   ∀ k' x,d * k' + a ≤ x → x ≤ d * k' + b → t ≤ x → nextO d a b t ≤ x := by
 obtain ⟨q,hq,r0,r1⟩ := split d t hd
 unfold nextO
 generalize t % d = r at *
 split
 ·refine ⟨q + 1,?_⟩
  have e : d * (q + 1) = d * q + d := by rw [Int.mul_add,Int.mul_one]
  refine ⟨by omega,by omega,by omega,by omega,fun k' x x1 x2 x3 => ?_⟩
  rcases Int.lt_or_le q k' with hk | hk
  ·have := mul_lt_step hd hk
   omega
  ·have := Int.mul_le_mul_of_nonneg_left hk (Int.le_of_lt hd)
   omega
 ·refine ⟨q,?_⟩
  refine ⟨by split <;> omega,by split <;> omega,by split <;> omega,by split <;> omega,fun k' x x1 x2 x3 => ?_⟩
  rcases (by omega : q < k' ∨ q = k' ∨ k' < q) with hk | hk | hk
  ·have := mul_lt_step hd hk
   split <;> omega
  ·subst hk
   split <;> omega
  ·have := mul_lt_step hd hk
   omega
end
structure Clk (d : Int) (n : Nat) (A B C : Nat → Int) : Prop where
 d0 : 0 < d
 a0 : ∀ i,i < n → 0 ≤ A i
 ab : ∀ i,i < n → A i ≤ B i
 bd : ∀ i,i < n → B i < d
 c0 : ∀ i,i < n → 0 ≤ C i
 lt : ∀ i j,i < j → j < n → B i < A j
 yl : ∀ i j,i < j → j < n → B i + C i < A j + C j
 wr : ∀ i j,i < n → j < n → B i + C i < d + (A j + C j)
noncomputable def Dep (d : Int) (n : Nat) (A B C : Nat → Int) (x y : Int) : Prop := ∃ i k,i < n ∧ d * k + A i ≤ x ∧ x ≤ d * k + B i ∧ y = x + C i
section
variable {d : Int} {n : Nat} {A B C : Nat → Int}
theorem dep_mono (K : Clk d n A B C) {x y x' y' : Int} (h : Dep d n A B C x y) (h' : Dep d n A B C x' y') (l : x < x') : y < y' := by
 obtain ⟨i,k,hi,x1,x2,rfl⟩ := h
 obtain ⟨j,m,hj,z1,z2,rfl⟩ := h'
 have d0 := K.d0
 have wr := K.wr i j hi hj
 have a1 := K.a0 i hi
 have a2 := K.a0 j hj
 have b1 := K.bd i hi
 have b2 := K.bd j hj
 rcases (by omega : k < m ∨ k = m ∨ m < k) with hk | hk | hk
 ·have := mul_lt_step d0 hk
  omega
 ·subst hk
  rcases (by omega : i < j ∨ i = j ∨ j < i) with e | e | e
  ·have := K.yl i j e hj
   omega
  ·subst e
   omega
  ·have := K.lt j i e hi
   omega
 ·have := mul_lt_step d0 hk
  omega
theorem dep_fun (K : Clk d n A B C) {x y y' : Int} (h : Dep d n A B C x y) (h' : Dep d n A B C x y') : y = y' := by
 obtain ⟨i,k,hi,x1,x2,rfl⟩ := h
 obtain ⟨j,m,hj,z1,z2,rfl⟩ := h'
 have d0 := K.d0
 have a1 := K.a0 i hi
 have a2 := K.a0 j hj
 have b1 := K.bd i hi
 have b2 := K.bd j hj
 rcases (by omega : k < m ∨ k = m ∨ m < k) with hk | hk | hk
 ·have := mul_lt_step d0 hk
  omega
 ·subst hk
  rcases (by omega : i < j ∨ i = j ∨ j < i) with e | e | e
  ·have := K.lt i j e hj
   omega
  ·rw [e]
  ·have := K.lt j i e hi
   omega
 ·have := mul_lt_step d0 hk
  omega
structure First (d : Int) (n : Nat) (A B C : Nat → Int) (t x y : Int) : Prop where
 dep : Dep d n A B C x y
 le : t ≤ x
 least : ∀ x' y',Dep d n A B C x' y' → t ≤ x' → x ≤ x'
structure Last (d : Int) (n : Nat) (A B C : Nat → Int) (s x : Int) : Prop where
 dep : ∃ y,Dep d n A B C x y ∧ y ≤ s
 most : ∀ x' y',Dep d n A B C x' y' → y' ≤ s → x' ≤ x
theorem First.uniq (K : Clk d n A B C) {t x y x' y' : Int} (h : First d n A B C t x y) (h' : First d n A B C t x' y') : x = x' ∧ y = y' := by
 have a := h.least _ _ h'.dep h'.le
 have b := h'.least _ _ h.dep h.le
 have e : x = x' := by omega
 subst e
 exact ⟨rfl,dep_fun K h.dep h'.dep⟩
theorem First.ge (K : Clk d n A B C) {t x y : Int} (h : First d n A B C t x y) : t ≤ y := by
 obtain ⟨i,k,hi,x1,x2,rfl⟩ := h.dep
 have := h.le
 have := K.c0 i hi
 omega
theorem First.mono (K : Clk d n A B C) {t u x y x' y' : Int} (h : First d n A B C t x y) (h' : First d n A B C u x' y') (l : t ≤ u) : y ≤ y' := by
 have a := h.least _ _ h'.dep (by have := h'.le; omega)
 rcases (by omega : x < x' ∨ x = x') with e | e
 ·have := dep_mono K h.dep h'.dep e
  omega
 ·subst e
  have := dep_fun K h.dep h'.dep
  omega
theorem Last.uniq {s x x' : Int} (h : Last d n A B C s x) (h' : Last d n A B C s x') : x = x' := by
 obtain ⟨y,h1,h2⟩ := h.dep
 obtain ⟨y',h1',h2'⟩ := h'.dep
 have := h.most _ _ h1' h2'
 have := h'.most _ _ h1 h2
 omega
theorem Last.le (K : Clk d n A B C) {s x : Int} (h : Last d n A B C s x) : x ≤ s := by
 obtain ⟨y,⟨i,k,hi,x1,x2,rfl⟩,h2⟩ := h.dep
 have := K.c0 i hi
 omega
theorem Last.mono {s u x x' : Int} (h : Last d n A B C s x) (h' : Last d n A B C u x') (l : s ≤ u) : x ≤ x' := by
 obtain ⟨y,h1,h2⟩ := h.dep
 exact h'.most _ _ h1 (by omega)
end
end Ma
namespace Ma
noncomputable abbrev T3 := Int × Int × Int
structure Rw (R : List T3) (at_ ride : Int) : Prop where
 at0 : 0 ≤ at_
 r0 : 0 ≤ ride
 atb : at_ ≤ 3000000000000 * (R.length : Int)
 rb : ride ≤ 2000000000000 * (R.length : Int)
 row : ∀ (i : Nat) (a b c : Int),R[i]? = some (a,b,c) → 0 ≤ a ∧ a ≤ b ∧ b < at_ ∧ 0 ≤ c ∧ c ≤ 2000000000000 * (R.length : Int)
 adj : ∀ (i : Nat) (a b c a' b' c' : Int),R[i]? = some (a,b,c) → R[i + 1]? = some (a',b',c') → b < a' ∧ b + c < a' + c'
 last : ∀ (a b c : Int),R[R.length - 1]? = some (a,b,c) → b = at_ - 1 ∧ c = ride
 tch : ∀ (i : Nat) (a b c a' b' c' : Int),R[i]? = some (a,b,c) → R[i + 1]? = some (a',b',c') → b + 1 = a' → c ≠ c'
noncomputable def rA (R : List T3) (i : Nat) : Int := (R.getD i (0,0,0)).1
noncomputable def rB (R : List T3) (i : Nat) : Int := (R.getD i (0,0,0)).2.1
noncomputable def rC (R : List T3) (i : Nat) : Int := (R.getD i (0,0,0)).2.2
theorem r_at {R : List T3} {i : Nat} (h : i < R.length) : R[i]? = some (rA R i,rB R i,rC R i) := by
 unfold rA rB rC
 rw [List.getD_eq_getElem?_getD,List.getElem?_eq_getElem h]
 rfl
theorem r_of {R : List T3} {i : Nat} {a b c : Int} (h : R[i]? = some (a,b,c)) : rA R i = a ∧ rB R i = b ∧ rC R i = c := by
 unfold rA rB rC
 rw [List.getD_eq_getElem?_getD,h]
 exact ⟨rfl,rfl,rfl⟩
noncomputable def lifted (R : List T3) (lift : Int) : List T3 := R.map fun t => (t.1,t.2.1,t.2.2 + lift)
section
variable {d : Int} {n : Nat} {A B C : Nat → Int}
theorem first_min (K : Clk d n A B C) {t : Int} {j : Nat} (hj : j < n) (hm : ∀ i,i < n → nextO d (A j) (B j) t ≤ nextO d (A i) (B i) t) : First d n A B C t (nextO d (A j) (B j) t) (nextO d (A j) (B j) t + C j) := by
 obtain ⟨k,k1,k2,k3,k4,k5⟩ := next_spec (t := t) K.d0 (K.a0 j hj) (K.ab j hj) (K.bd j hj)
 refine ⟨⟨j,k,hj,k1,k2,rfl⟩,k3,?_⟩
 intro x' y' z9 hx;obtain ⟨i,k',hi,x1,x2,rfl⟩ := z9
 obtain ⟨k',a1,a2,a3,a4,a5⟩ := next_spec (t := t) K.d0 (K.a0 i hi) (K.ab i hi) (K.bd i hi)
 have := a5 _ x' x1 x2 hx
 have := hm i hi
 omega
end
end Ma
namespace L2
open PySem PySem.Spec PyProof.Rows
theorem bt_max : bootBuiltins "max" = some (.builtin "max") := by decide +kernel
theorem bt_min : bootBuiltins "min" = some (.builtin "min") := by decide +kernel
theorem bt_len : bootBuiltins "len" = some (.builtin "len") := by decide +kernel
theorem bt_all : bootBuiltins "all" = some (.builtin "all") := by decide +kernel
theorem bt_isinstance : bootBuiltins "isinstance" = some (.builtin "isinstance") := by decide +kernel
theorem bt_int : bootBuiltins "int" = some (.type "int") := by decide +kernel
theorem bt_bool : bootBuiltins "bool" = some (.type "bool") := by decide +kernel
theorem bt_tuple : bootBuiltins "tuple" = some (.type "tuple") := by decide +kernel
theorem bt_list : bootBuiltins "list" = some (.type "list") := by decide +kernel
noncomputable def notStar : Expr → Bool
 | .Starred .. => false
 | _ => true
theorem se_of {e : Expr} {es : List Expr} {env : Env} (h : notStar e = true) : starEach (e :: es) env = (false,eval e env) :: starEach es env := by
 cases e <;> first | rfl | cases h
theorem any_of {pos : Pos} {env : Env} : ∀ {es : List Expr},es.all notStar = true → (backTo pos (starEach es env)).any (·.1) = false
 | [],_ => rfl
 | e :: es,h => by
  rw [List.all_cons,Bool.and_eq_true] at h
  rw [se_of h.1]
  show (false || (backTo pos (starEach es env)).any (·.1)) = false
  rw [any_of h.2]
  rfl
section
variable {X : Cx} {e : Expr} {es : List Expr} {te : TE} {t : TA}
theorem pa_c (ha : PE X e te) (hr : PA X es t) (h : notStar e = true := by rfl) : PA X (e :: es) (tCons te t) := pa_cons ha hr (se_of h)
end
section
variable {X : Cx} {x : Str} {p pos : Pos} {e : Expr} {es : List Expr} {t : TA} {id T : String} {r : List V → Hp → VK → Prop}
theorem pe_cb (hc : CallR X (.builtin id) r) (hg : Gl X x) (hm : X.mg x = none) (hv : bootBuiltins x = some (.builtin id)) (ha : PA X (e :: es) t) (hn : x ≠ "__name__" := by decide) (hdb : (x == ("__debug__" : Str)) = false := by decide)
  (he : notStar e = true := by rfl) (hpl : es.all notStar = true := by rfl) : PE X (.Call (.Name x p) (e :: es) [] pos) (tCB r t) := pe_callB hc hg hm hv ha hn hdb (se_of he) (any_of hpl)
theorem pe_ct (hc : CallR X (.type T) r) (hg : Gl X x) (hm : X.mg x = none) (hv : bootBuiltins x = some (.type T)) (ha : PA X (e :: es) t) (hn : x ≠ "__name__" := by decide) (hdb : (x == ("__debug__" : Str)) = false := by decide)
  (he : notStar e = true := by rfl) (hpl : es.all notStar = true := by rfl) : PE X (.Call (.Name x p) (e :: es) [] pos) (tCB r t) := pe_callTy hc hg hm hv ha hn hdb (se_of he) (any_of hpl)
end
structure Callee (P : Program) (w : World) (K : PySem.W.Frag) (mg : Str → Option Value) (base : Heap) (k : Nat) (x : Str) (ps : List Str) (sp : Sp) : Prop where
 ex : ∃ (f : Addr) (fd : FuncData),FnOk P w K mg base CX0 k f fd ps sp ∧ Binds K fd ps [] ∧ PySem.W.keepIn K (.ref f) = true ∧ mg x = some (.ref f)
theorem Callee.up {P : Program} {w : World} {K : PySem.W.Frag} {mg : Str → Option Value} {base : Heap} {j k : Nat} {x : Str} {ps : List Str} {sp : Sp} (C : Callee P w K mg base j x ps sp) (h : j ≤ k) : Callee P w K mg base k x ps sp := by
 obtain ⟨f,fd,G,b,kp,m⟩ := C.ex
 exact ⟨f,fd,G.mono h,b,kp,m⟩
theorem Callee.mk' {P : Program} {w : World} {K : PySem.W.Frag} {mg : Str → Option Value} {base : Heap} {k : Nat} {x : Str} {ps : List Str} {sp : Sp} {f : Addr} {fd : FuncData} (G : FnOk P w K mg base CX0 k f fd ps sp) (b : Binds K fd ps []) (kp : PySem.W.keepIn K (.ref f) = true) (m : mg x = some (.ref f)) : Callee P w K mg base k x ps sp := ⟨f,fd,G,b,kp,m⟩
section
variable {X : Cx} {k : Nat} {x : Str} {ps : List Str} {sp : Sp} {e : Expr} {es : List Expr} {t : TA} {p pos : Pos}
theorem pe_fn (C : Callee X.prog X.w X.K X.mg X.base k x ps sp) (hr : Room k X.A) (hg : Gl X x) (ha : PA X (e :: es) t) (hdb : (x == ("__debug__" : Str)) = false := by decide)
  (he : notStar e = true := by rfl) (hpl : es.all notStar = true := by rfl) :
  PE X (.Call (.Name x p) (e :: es) [] pos) (tCall sp [] E0 t) := by
 obtain ⟨f,fd,G,b,kp,m⟩ := C.ex
 exact pe_call G hr hg m kp b .nil pass0 ha hdb (se_of he) (any_of hpl)
end
noncomputable def CDivB (_ j : Int) : Prop := 0 < j ∧ j < 1606938044258990275541962092341162602522202993782792835301376
section
variable {X : Cx}
theorem op_fdivB : OpR X (binaryOp .FloorDiv) (rI CDivB fun i j => .int (i / j)) := opI fun i j _ _ _ _ _ hc q => by
 have h1 : (0 : Int) < j := hc.1
 have h2 := hc.2
 refine floordiv_int (by omega) (by rw [Int.fdiv_eq_ediv_of_nonneg i (by omega)]; exact q) (.inl (PyProof.noPylong_of_log2 ?_))
 have h0 : j.natAbs ≠ 0 := by omega
 have h3 : j.natAbs < 2 ^ 200 := by
  have e : (2 : Nat) ^ 200 = 1606938044258990275541962092341162602522202993782792835301376 := by decide +kernel
  rw [e]
  omega
 have := (Nat.log2_lt h0).mpr h3
 omega
theorem call_isi : CallR X (.builtin "isinstance") (fun xs H Q => ∃ x T t b,xs = [x,.ty T] ∧ TyOf X.K H x t ∧ PySem.W.kitOne X.K t (.type T) = some b ∧ Q (.bl b) H) := by
 intro pins s σ H xs us Q I r h
 obtain ⟨x,T,t,b,rfl,ty,hk,q⟩ := h
 obtain ⟨u,v,rfl,r1,r2⟩ := Vals.two r
 cases (show v = Value.type T from r2)
 exact isinst_ok I r1 ty hk fun tk => ⟨.bl b,H,I.tok tk,rfl,q⟩
end
noncomputable def blk (X : Cx) (N' : List Str) (scope : Scope) (cl : List (Str × Addr)) (C : Addr) (s0 : Shared) (H0 : Hp) (fp : List Addr) : Cx :=
 { X with N := N',s₀ := s0,H₀ := H0,env := compEnvC scope cl C X.env,outer := X.stack,ex := fp,fn := fun _ => false,pn := [],xe := fun _ _ => False }
noncomputable def seen (caps : List (Option Nat)) (σ : St) : St := caps.map fun o => o.bind fun j => (σ[j]?).join
structure BlkOk (X : Cx) (N' : List Str) (scope : Scope) (cl : List (Str × Addr)) (caps : List (Option Nat)) : Prop where
 clos : closureFor scope X.env = pure cl
 nocell : ∀ y ∈ scope.names,y.2 ≠ .cell
 kind : scope.kind = .function
 names : ∀ y ∈ scope.names,y.2 = .local → scope.names.lookup y.1 = some .local
 sub : ∀ x c,cl.lookup x = some c → X.env.cells.lookup x = some c
 has : ∀ x,((relabel scope X.env).names.lookup x = some .cell ∨ (relabel scope X.env).names.lookup x = some .free) → ∃ c,cl.lookup x = some c
 len : caps.length = N'.length
 cap : ∀ (i j : Nat) (x : Str),caps[i]? = some (some j) → N'[i]? = some x → X.N[j]? = some x ∧ (X.env.kindOf x = some .cell ∨ X.env.kindOf x = some .free) ∧ ((relabel scope X.env).names.lookup x = some .cell ∨ (relabel scope X.env).names.lookup x = some .free)
theorem sameBut_ne {a : Addr} {h h' : Heap} (x : Heap.SameBut a h h') {b : Addr} {o : Obj} (n : b ≠ a) (e : h.get? b = some o) : h'.get? b = some o := x.extBut b o n e
section
variable {X : Cx} {N' : List Str} {scope : Scope} {cl : List (Str × Addr)} {caps : List (Option Nat)} {pins : List (Addr × Obj)} {σ : St} {H : Hp} {s : Shared} {fp : List Addr}
theorem blk_inv (B : BlkOk X N' scope cl caps) (I : Inv X pins σ H s) (hf : ∀ b ∈ fp,FpOk X pins H b) {h1 : Heap} {m : Str → Option Value} (hn : h1.Ns s.heap.objs.size m) (hk : ∀ b o,s.heap.get? b = some o → h1.get? b = some o) {tk : Nat}
  (hfp : ∀ b ∈ fp,b < s.heap.objs.size) : Inv (blk X N' scope cl s.heap.objs.size s H fp) [] (seen caps σ) H { s with heap := h1,toks := tk } := by
 have bsz : X.base.objs.size ≤ s.heap.objs.size := Nat.le_trans I.ok.bsz I.sz
 refine ⟨⟨I.ok.mod,B.kind,I.ok.glob,I.ok.blt,Nat.le_refl _,fun x y c e1 e2 => I.ok.inj x y c (B.sub x c e1) (B.sub y c e2),B.has,fun _ _ z => (nomatch z),I.ok.hd,I.ok.frames,.inl rfl,fun b hb => ⟨Nat.ne_of_lt (hfp b hb),fun x c e => (hf b hb).2.2.2.2.1 x c (B.sub x c e)⟩,
   I.bs,bsz,fun b o e hb => ?_,fun b hb z => ?_,I.stack,I.stkFree⟩,rfl,I.bare,Un.kept hk,⟨m,hn,fun i x v e1 e2 _ => ?_⟩,fun x c e => ?_,I.hok.fresh (Nat.le_refl _),fun x c e => I.freeC x c (B.sub x c e),fun p hp => absurd (show p ∈ ([] : List (Addr × Obj)) from hp) (by simp),I.hok.kept hk,?_⟩
 ·obtain ⟨_,_,_,z,_⟩ := hf b hb
  rcases z with z | z
  ·exact I.ok.noex b o e z
  ·exact absurd (Nat.lt_of_lt_of_le (Heap.lt_size e) (Nat.le_trans I.ok.bsz z)) (Nat.lt_irrefl _)
 ·obtain ⟨_,z1,z2,_⟩ := hf b hb
  rcases List.mem_cons.mp (I.stkSub b z) with e | e
  ·exact z1 e
  ·exact z2 e
 ·have e2' : (seen caps σ)[i]? = some (some v) := e2
  unfold seen at e2'
  rw [List.getElem?_map] at e2'
  cases ec : caps[i]? with
  | none => rw [ec] at e2'; cases e2'
  | some oj =>
   rw [ec] at e2'
   have e3 : (oj.bind fun j => (σ[j]?).join) = some v := Option.some.inj e2'
   cases oj with
   | none => cases e3
   | some j =>
    obtain ⟨c1,c2,c3⟩ := B.cap i j x ec e1
    have e4 : σ[j]? = some (some v) := by
     have e5 : (σ[j]?).join = some v := e3
     cases ej : σ[j]? with
     | none => rw [ej] at e5; cases e5
     | some ov =>
      rw [ej] at e5
      cases ov with
      | none => cases e5
      | some v' => exact congrArg some e5
    obtain ⟨m0,hn0,hl⟩ := I.loc
    obtain ⟨u,ru,lk⟩ := hl j x v c1 e4 (by
     rcases c2 with z | z
     ·exact .inr (.inl z)
     ·exact .inr (.inr z))
    refine ⟨u,ru,.inr ⟨c3,?_⟩⟩
    obtain ⟨c,ecl⟩ := B.has x c3
    refine ⟨c,ecl,?_⟩
    rcases lk with ⟨z,_⟩ | ⟨_,c',e',⟨oc,q1,q2⟩⟩
    ·rcases c2 with y | y
     ·rw [y] at z; cases z
     ·rw [y] at z; cases z
    ·have ee : c' = c := Option.some.inj (e'.symm.trans (B.sub x c ecl))
     subst ee
     exact ⟨oc,hk _ _ q1,q2⟩
 ·obtain ⟨v,o,q1,q2⟩ := I.cell x c (B.sub x c e)
  exact ⟨v,o,hk _ _ q1,q2⟩
 ·show (seen caps σ).length = N'.length
  unfold seen
  rw [List.length_map]
  exact B.len
theorem blk_end (I : Inv X pins σ H s) (hf : ∀ b ∈ fp,FpOk X pins H b) (hfp : ∀ b ∈ fp,b < s.heap.objs.size) {σ' : St} {H' : Hp} {s' : Shared} (J : Inv (blk X N' scope cl s.heap.objs.size s H fp) [] σ' H' s') {h' : Heap}
  (sb : Heap.SameBut s.heap.objs.size s'.heap h') : Inv X pins σ H' { s' with heap := h' } := by
 have hC : ∀ b o,s.heap.get? b = some o → b ≠ s.heap.objs.size := fun b o e => Nat.ne_of_lt (Heap.lt_size e)
 have u := J.base
 have u' : Un (frs X.stack) fp H H' s.heap h' := by
  refine ⟨fun b o e n hb hx => sameBut_ne sb (hC b o e) (u.keep b o e n hb hx),fun b o e n hb hx => ?_,u.free,fun b o e hx => ?_,u.tups,u.frzs,u.tbls⟩
  ·obtain ⟨sl,q⟩ := u.slot b o e n hb hx
   exact ⟨sl,sameBut_ne sb (hC b o e) q⟩
  ·obtain ⟨o',q⟩ := u.there b o e hx
   exact ⟨o',sameBut_ne sb (hC b o e) q⟩
 have nC : H' s.heap.objs.size = none := J.free
 have hok : HOk X.prog X.w H' h' := fun b o e => by
  refine (J.hok b o e).stay (fun c v hc q => sameBut_ne sb ?_ q) (fun _ q => q) fun _ _ q => q
  rcases hc with z | z
  ·intro z'
   rw [z] at z'
   rw [z',nC] at e
   cases e
  ·intro z'
   rw [z',nC] at z
   cases z
 obtain ⟨hh,g,d,t,os'⟩ := s'
 obtain rfl : os' = s.os := J.os
 show Inv X pins σ H' { s with heap := h',gens := g,drawn := d,toks := t }
 refine Inv.call (s := s) (h' := h') (g' := g) (d' := d) (t' := t) (ch := fp) I u' hok J.bare fun b hb => ?_
 obtain ⟨_,z1,_,z3,z4,z5⟩ := hf b hb
 exact ⟨z3,z1,z4,z5⟩
noncomputable def cBody (caps : List (Option Nat)) (g : TG) (tt : TT) (te : TE) (σ : St) (Q : VK) (J : It) (H1 : Hp) : Prop := ∀ D,H1 D = none → ∃ W : Nat → Nat → Hp → Prop,(∃ m,W 0 m (upd H1 D (.lst []))) ∧ ∀ i m H2,W i m H2 →
 (J.stop i H2 ∧ Q (.ref D) H2) ∨ (J.go i H2 ∧ ∃ N : Hp → Prop,(∀ H',N H' → ∃ m',m' < m ∧ W (i + 1) m' H') ∧ ∀ x H3,J.yld i H2 x H3 → g x (seen caps σ) H3 fun σ4 H4 => (∀ (k : Nat) v,(seen caps σ)[k]? = some (some v) → σ4[k]? = some (some v)) ∧ tt σ4 H4 fun b H5 =>
  if b = true then te σ4 H5 fun y H6 => ∃ ys,H6 D = some (.lst ys) ∧ ys.length < sizeLine ∧ N (upd H6 D (.lst (ys ++ [y]))) else N H5)
noncomputable def tComp (wi : TI) (caps : List (Option Nat)) (g : TG) (tt : TT) (te : TE) : TE := fun σ H Q => wi σ H (cBody caps g tt te σ Q)
noncomputable def tTrue : TT := fun _ H Q => Q true H
section
variable {tg iter elt : Expr} {wi : TI} {g : TG} {te : TE} {tt : TT} {pos : Pos} {Q : VK}
theorem comp_again {J : It} {it : Addr} {tn : Nat → Heap → Prop} {H0 : Hp} {C : Addr} (T : Turn X.prog X.w X.K tg J fp it tn) {s7 s9 : Shared} {i n : Nat} {W : Nat → Nat → Hp → Prop} {N : Hp → Prop} (hN : ∀ H',N H' → ∃ m',m' < n ∧ W (i + 1) m' H')
  (st7 : tn (i + 1) s7.heap) {σ8 : St} {H9 : Hp} (I9 : Inv (blk X N' scope cl C s H0 fp) ([] ++ pinsAt fp s7.heap) σ8 H9 s9) (kp : ∀ (k : Nat) v,(seen caps σ)[k]? = some (some v) → σ8[k]? = some (some v)) (hl : (seen caps σ).length = σ8.length) (n9 : N H9) :
  ∃ m,m < n ∧ ∃ j H',Inv (blk X N' scope cl C s H0 fp) [] (seen caps σ) H' s9 ∧ tn j s9.heap ∧ (∀ b ∈ fp,H' b = none) ∧ W j m H' := by
 obtain ⟨m',hm,w7⟩ := hN H9 n9
 refine ⟨m',hm,i + 1,H9,(I9.unpinned).weak hl kp,T.keep _ _ _ st7 fun b hb o e => (I9.pin (b,o) (List.mem_append_right _ (List.mem_append_right _ (mem_pinsAt hb e)))).1,fun b hb => ?_,w7⟩
 obtain ⟨o,e,d⟩ := T.obj _ _ st7 b hb
 exact (I9.pin (b,o) (List.mem_append_right _ (List.mem_append_right _ (mem_pinsAt hb e)))).2.1
theorem pe_comp (B : BlkOk X N' scope cl caps) (hc : X.calm = true) (hi : PI X tg iter wi) (hg : ∀ C s0 H0 fp,PG (blk X N' scope cl C s0 H0 fp) tg g) (he : ∀ C s0 H0 fp,PE (blk X N' scope cl C s0 H0 fp) elt te)
  (hs : ∀ x,foldedSetIterable iter X.env x = pure x := by intro _; rfl) : PE X (.ListComp elt [⟨tg,iter,[],0⟩] scope pos) (tComp wi caps g tTrue te) := by
 intro pins s σ H Q I h
 rw [eval_ListComp]
 refine wpAny_comprehension_free (use := none) rfl hs B.clos B.kind B.names ?_
 refine thn (hi pins s σ H _ I h) fun v s1 h1 => thn h1 fun itv s2 h2 => ?_
 obtain ⟨it,fp,tn,J,H2,rfl,I2,T,st2,f2,q2⟩ := h2
 have fpl : ∀ b ∈ fp,b < s2.heap.objs.size := fun b hb => by
  obtain ⟨o,e,_⟩ := T.obj _ _ st2 b hb
  exact Heap.lt_size e
 obtain ⟨W,⟨m0,w0⟩,turn⟩ := q2 s2.heap.objs.size (I2.hok.fresh (Nat.le_refl _))
 refine wpAny_newObj_type ?_
 have I3 : Inv X pins σ (upd H2 s2.heap.objs.size (.lst [])) { s2 with heap := s2.heap.push { cls := .type "list",data := .seq ([] : List Value).toArray } } :=
  I2.laid (t' := s2.toks) (fun b u e => Heap.get?_push_of_some _ e) (Nat.le_refl _) ⟨Nat.zero_le _,[],0,.nil,Heap.get?_push_size _ rfl⟩
 generalize hs3 : ({ s2 with heap := s2.heap.push { cls := .type "list",data := .seq ([] : List Value).toArray } } : Shared) = s3 at I3
 have k23 : ∀ b o,s2.heap.get? b = some o → s3.heap.get? b = some o := fun b o e => by rw [← hs3]; exact Heap.get?_push_of_some _ e
 have fpl3 : ∀ b ∈ fp,b < s3.heap.objs.size := fun b hb => by
  obtain ⟨o,e,_⟩ := T.obj _ _ st2 b hb
  exact Heap.lt_size (k23 b o e)
 have f3 : ∀ b ∈ fp,FpOk X pins (upd H2 s2.heap.objs.size (.lst [])) b := fun b hb => ⟨by rw [upd_ne (Nat.ne_of_lt (fpl b hb))]; exact (f2 b hb).1,(f2 b hb).2⟩
 refine wpAny_newFunctionEnv B.nocell (by intro y hy; simp at hy) (fun h1 hn1 sb1 => ?_) B.kind
 have k31 : ∀ b o,s3.heap.get? b = some o → h1.get? b = some o := fun b o e => sb1.extBut b o (Nat.ne_of_lt (Heap.lt_size e)) (Heap.get?_push_of_some _ e)
 have J0 := blk_inv (fp := fp) (tk := s3.toks + ([] : List (Str × Value)).length) B I3 f3 hn1 k31 fpl3
 have st1 : tn 0 h1 := T.keep _ _ _ st2 fun b _ o e => k31 b o (k23 b o e)
 have loop : codeAny (model X.prog X.w) X.A (.compLoop (.ListComp elt [⟨tg,iter,[],0⟩] scope pos) 0 (.ref it) (.ref s2.heap.objs.size) (blk X N' scope cl s3.heap.objs.size s3 (upd H2 s2.heap.objs.size (.lst [])) fp).env)
   (compPost (model X.prog X.w) X.A X.xe none (EP X pins σ Q) (.ref s2.heap.objs.size) s3.heap.objs.size) { s3 with heap := h1,toks := s3.toks + ([] : List (Str × Value)).length } := by
  refine codeAny_loop rfl (fun n s' => ∃ i H',Inv (blk X N' scope cl s3.heap.objs.size s3 (upd H2 s2.heap.objs.size (.lst [])) fp) [] (seen caps σ) H' s' ∧ tn i s'.heap ∧ (∀ b ∈ fp,H' b = none) ∧ W i n H') (fun n s5 hI => ?_) m0
   ⟨0,_,J0,st1,fun b hb => (f3 b hb).1,w0⟩
  obtain ⟨i,H5,I5,st5,fr5,w5⟩ := hI
  show wpAny _ _ ((compTurn (.ListComp elt [⟨tg,iter,[],0⟩] scope pos) 0 (.ref it) (.ref s2.heap.objs.size) (blk X N' scope cl s3.heap.objs.size s3 (upd H2 s2.heap.objs.size (.lst [])) fp).env).onRaise (fun x => do noteFrame x (blk X N' scope cl s3.heap.objs.size s3 (upd H2 s2.heap.objs.size (.lst [])) fp).env; theTreesLotGoes x)) _ _ s5
  refine wpAny_noted ?_
  rw [compTurn_list1]
  have ff : ∀ {H' : Hp},(∀ b ∈ fp,H' b = none) → ∀ b ∈ fp,FpOk (blk X N' scope cl s3.heap.objs.size s3 (upd H2 s2.heap.objs.size (.lst [])) fp) [] H' b := fun {H'} hn b hb =>
   ⟨hn b hb,(J0.ok.exf b hb).1,J0.ok.exfs b hb,.inl hb,fun x c e => (J0.ok.exf b hb).2 x c e,fun p hp => absurd (show p ∈ ([] : List (Addr × Obj)) from hp) (by simp)⟩
  rcases turn i n H5 w5 with ⟨stop,qn⟩ | ⟨go,N,hN,step⟩
  ·refine wpAny_bind (wpAny_standAt (wpAny_bind (thn (T.done (blk X N' scope cl s3.heap.objs.size s3 (upd H2 s2.heap.objs.size (.lst [])) fp) rfl rfl rfl hc i [] s5 _ H5 _ I5 (ff fr5) st5 stop) fun r s6 ⟨hr,I6⟩ => ?_)))
   subst hr
   refine wpAny_pure ?_
   obtain ⟨m,hn,_⟩ := id I6.loc
   exact ⟨m,hn,fun h' sb => ⟨.ref s2.heap.objs.size,H5,blk_end I3 f3 fpl3 I6 sb,rfl,qn⟩⟩
  ·refine wpAny_bind (wpAny_standAt (wpAny_bind (thn (T.item (blk X N' scope cl s3.heap.objs.size s3 (upd H2 s2.heap.objs.size (.lst [])) fp) rfl rfl rfl hc i [] s5 _ H5 _ I5 (ff fr5) st5 go) fun r s6 ⟨u,hr,h6⟩ => ?_)))
   subst hr
   refine wpAny_bind (thn h6 fun _ s7 ⟨x,H7,I7,r7,y7,st7,fr7⟩ => ?_)
   have I7' := I7.pinned (ff fr7) (T.obj _ _ st7)
   refine wpAny_bind (wpAny_mono (hg _ _ _ _ _ s7 _ H7 x u _ I7' r7 (step x H7 y7)) (fun _ s8 ⟨σ8,H8,I8,kp,q8⟩ => ?_) fun _ _ f => f.elim)
   have q8' : te σ8 H8 fun y H6 => ∃ ys,H6 s2.heap.objs.size = some (.lst ys) ∧ ys.length < sizeLine ∧ N (upd H6 s2.heap.objs.size (.lst (ys ++ [y]))) := by
    have z := q8
    unfold tTrue at z
    dsimp only at z
    rw [if_pos rfl] at z
    exact z
   refine wpAny_bind (wpAny_bind (wpAny_mono (he _ _ _ _ _ s8 σ8 H8 _ I8 q8') (fun y s9 ⟨y',H9,I9,r9,ys,hD,hl,n9⟩ => ?_) fun _ _ f => f.elim))
   refine wpAny_bind (wpAny_mono (mt_append (X := blk X N' scope cl s3.heap.objs.size s3 (upd H2 s2.heap.objs.size (.lst [])) fp) _ s9 σ8 H9 (.ref s2.heap.objs.size) [y'] (.ref s2.heap.objs.size) [y] (fun _ H' => N H') I9 rfl (.cons r9 .nil) ⟨_,ys,y',rfl,rfl,hD,hl,n9⟩) (fun _ s10 ⟨_,H10,I10,_,n10⟩ => ?_) fun _ _ f => f.elim)
   exact wpAny_pure (wpAny_pure ⟨rfl,comp_again T hN st7 I10 kp (I5.len.trans I10.len.symm) n10⟩)
 exact codeAny_compStart_list loop (T.self X.A 0 _ _ _ st1 loop)
end
end
end L2
namespace L2
open PySem PySem.Spec PyProof.Rows
section
variable {X : Cx} {a b c d : Expr} {ta tb tc td : TE} {pos : Pos}
noncomputable def tChain3 (r r' r'' : R2) (ta tb tc td : TE) : TE := fun σ H Q => ta σ H fun x H1 => tb σ H1 fun y H2 => r x y H2 fun z H3 => ∃ k,z = .bl k ∧
 (if k = true then tc σ H3 fun w' H4 => r' y w' H4 fun z' H5 => ∃ k',z' = .bl k' ∧ (if k' = true then td σ H5 fun w2 H6 => r'' w' w2 H6 Q else Q (.bl false) H5) else Q (.bl false) H3)
theorem pe_chain3 {op op' op'' : CmpOp} {r r' r'' : R2} (ho : OpR X (compareOp op) r) (ho' : OpR X (compareOp op') r') (ho'' : OpR X (compareOp op'') r'') (ha : PE X a ta) (hb : PE X b tb) (hc : PE X c tc) (hd : PE X d td)
  (hm : lastMarks [op,op',op''] [b,c,d] = false := by with_unfolding_all rfl) : PE X (.Compare a [op,op',op''] [b,c,d] pos) (tChain3 r r' r'' ta tb tc td) := by
 intro pins s σ H Q I h
 refine Compare_chain (thn (ha pins s σ H _ I h) fun v s1 ⟨x,H1,I1,r1,q1⟩ => chain_link (thn (hb pins s1 σ H1 _ I1 q1) fun u s2 ⟨y,H2,I2,r2,q2⟩ =>
  thn (ho pins s2 σ H2 x y v u _ I2 r1 r2 q2) fun d s3 ⟨z,H3,I3,r3,k,e,q3⟩ => ?_)) hm
 subst e
 cases r3
 refine wpAny_truthy_bool ?_
 cases k with
 | false => exact ite_ff ⟨.bl false,H3,I3,rfl,q3⟩
 | true =>
  refine ite_tt (chain_link (thn (hc pins s3 σ H3 _ I3 q3) fun w' s4 ⟨z',H4,I4,r4,q4⟩ => thn (ho' pins s4 σ H4 y z' u w' _ I4 r2 r4 q4) fun d' s5 ⟨z2,H5,I5,r5,k2,e2,q5⟩ => ?_))
  subst e2
  cases r5
  refine wpAny_truthy_bool ?_
  cases k2 with
  | false => exact ite_ff ⟨.bl false,H5,I5,rfl,q5⟩
  | true => exact ite_tt (chain_last (thn (hd pins s5 σ H5 _ I5 q5) fun w2 s6 ⟨z3,H6,I6,r6,q6⟩ => ho'' pins s6 σ H6 z' z3 w' w2 Q I6 r4 r6 q6))
theorem vals_bl {bs : List Bool} {its : List Value} (r : Vals (bs.map V.bl) its) {i : Nat} {v : Value} (h : its[i]? = some v) : ∃ k,bs[i]? = some k ∧ v = .bool k := by
 have hl := r.length
 rw [List.length_map] at hl
 have hi : i < bs.length := by
  have := (List.getElem?_eq_some_iff.mp h).1
  omega
 obtain ⟨u,hu,ru⟩ := r.get (i := i) (x := .bl bs[i]) (by rw [List.getElem?_map,List.getElem?_eq_getElem hi]; rfl)
 rw [h] at hu
 cases hu
 exact ⟨bs[i],List.getElem?_eq_getElem hi,ru⟩
theorem all_range (bs : List Bool) : ((List.range bs.length).all fun i => (bs[i]?).getD true) = bs.all id := by
 rw [Bool.eq_iff_iff,List.all_eq_true,List.all_eq_true]
 constructor
 ·intro h x hx
  obtain ⟨i,hi,e⟩ := List.mem_iff_getElem.mp hx
  have := h i (List.mem_range.mpr hi)
  rw [List.getElem?_eq_getElem hi,e] at this
  exact this
 ·intro h i hi
  have hi' := List.mem_range.mp hi
  rw [List.getElem?_eq_getElem hi']
  exact h _ (List.getElem_mem hi')
theorem call_all (hc : X.calm = true) : CallR X (.builtin "all") (fun xs H Q => ∃ (p : Addr) (bs : List Bool),xs = [.ref p] ∧ SqL X.K H p (bs.map V.bl) ∧ Q (.bl (bs.all id)) H) := by
 intro pins s σ H xs us Q I r h
 obtain ⟨p,bs,rfl,hS,q⟩ := h
 obtain ⟨u,rfl,ru⟩ := vals1 r
 cases ru
 obtain ⟨its,rv,pl,hz⟩ := I.list hS
 have hl := pl.isList
 have hlt : p < s.heap.objs.size := by obtain ⟨_,e,_⟩ := hl; exact Heap.lt_size e
 refine call_all_walk (wpAny_pyIter_list hl ?_)
 refine ⟨s.heap.objs.size,[s.heap.objs.size,p],[s.heap.objs.size],its.toArray.size,_,_,fun i => (bs[i]?).getD true,rfl,Walks.list (A := X.A.in1) (I.ok.hd hc) _ p (Nat.ne_of_lt hlt) its.toArray,
  ⟨⟨_,Heap.get?_push_size _ rfl,rfl,rfl⟩,hl.push _⟩,fun i v s' Q' E' hP hQ => ?_,fun h' tk hk => ?_⟩
 ·obtain ⟨k,e,rfl⟩ := vals_bl rv (i := i) (v := v) (by simpa using hP)
  simp only [e,Option.getD_some] at hQ
  exact wpAny_truthy_bool hQ
 ·have e : ((List.range its.toArray.size).all fun i => (bs[i]?).getD true) = bs.all id := by
   have hl2 := rv.length
   rw [List.length_map] at hl2
   rw [List.size_toArray,← hl2]
   exact all_range bs
  rw [e]
  have keep : ∀ b x,s.heap.get? b = some x → h'.get? b = some x := fun b x e => hk b x (fun hm => by rw [List.mem_singleton.mp hm] at e; exact Nat.lt_irrefl _ (Heap.lt_size e)) (Heap.get?_push_of_some _ e)
  exact ⟨.bl (bs.all id),H,I.kept (t' := tk) keep,rfl,q⟩
end
section
variable {X : Cx} {st : Stmt} {rest : List Stmt} {t u : TS} {e : Expr} {te : TE} {tt : TT}
noncomputable def tCut (t u : TS) : TS := fun D σ H => ∃ M : St → Hp → Prop,t { D with nx := M } σ H ∧ ∀ σ' H',M σ' H' → u D σ' H'
theorem pss_cut (h1 : PS X st t) (h2 : PSs X rest u) : PSs X (st :: rest) (tCut t u) := by
 intro pins s σ H D I h
 obtain ⟨M,h,hM⟩ := h
 refine wpAny_execs_cons (thn (h1 pins s σ H { D with nx := M } I h) fun f s1 q => ?_)
 cases f with
 | next =>
  obtain ⟨σ',H',I',q⟩ := q
  exact h2 pins s1 σ' H' D I' (hM σ' H' q)
 | ret v => exact q
 | brk => exact q
 | cont => exact q
noncomputable def tCutT (t : TT) : TT := fun σ H Q => ∃ M : Bool → Hp → Prop,t σ H M ∧ ∀ b H',M b H' → Q b H'
theorem pt_cut (h : PT X e tt) : PT X e (tCutT tt) := by
 intro pins s σ H Q I q
 obtain ⟨M,q,hM⟩ := q
 exact thn (h pins s σ H M I q) fun b s1 ⟨H1,I1,q1⟩ => ⟨H1,I1,hM b H1 q1⟩
end
noncomputable def blkCheck (X : Cx) (N' : List Str) (scope : Scope) (cl : List (Str × Addr)) (caps : List (Option Nat)) : Bool :=
 (scope.names.all fun y => y.2 != .cell) && (scope.names.all fun y => y.2 != .local || scope.names.lookup y.1 == some .local) &&
 ((relabel scope X.env).names.all fun y => !(y.2 == .cell || y.2 == .free) || (cl.lookup y.1).isSome) && (caps.length == N'.length) &&
 ((List.range caps.length).all fun i => match caps[i]?,N'[i]? with
  | some (some j),some x => (X.N[j]? == some x) && (X.env.kindOf x == some .cell || X.env.kindOf x == some .free) && ((relabel scope X.env).names.lookup x == some .cell || (relabel scope X.env).names.lookup x == some .free)
  | _,_ => true)
theorem BlkOk.of {X : Cx} {N' : List Str} {scope : Scope} {cl : List (Str × Addr)} {caps : List (Option Nat)} (clos : closureFor scope X.env = pure cl) (kind : scope.kind = .function) (sub : ∀ x c,cl.lookup x = some c → X.env.cells.lookup x = some c)
  (h : blkCheck X N' scope cl caps = true) : BlkOk X N' scope cl caps := by
 unfold blkCheck at h
 simp only [Bool.and_eq_true] at h
 obtain ⟨⟨⟨⟨h1,h2⟩,h3⟩,h4⟩,h5⟩ := h
 have ok3 : ∀ x k,(relabel scope X.env).names.lookup x = some k → (k = .cell ∨ k = .free) → ∃ c,cl.lookup x = some c := fun x k e hk => by
  have := List.all_eq_true.mp h3 _ (PySem.mem_of_lookup e)
  have hb : (k == NameKind.cell || k == NameKind.free) = true := by
   rcases hk with rfl | rfl <;> rfl
  simp only [hb,Bool.not_true,Bool.false_or] at this
  exact Option.isSome_iff_exists.mp this
 refine ⟨clos,fun y hy => ?_,kind,fun y hy e => ?_,sub,fun x hx => ?_,by simpa using h4,fun i j x e1 e2 => ?_⟩
 ·have := List.all_eq_true.mp h1 y hy
  simpa using this
 ·have := List.all_eq_true.mp h2 y hy
  rw [e] at this
  simpa using this
 ·rcases hx with hx | hx
  ·exact ok3 x _ hx (.inl rfl)
  ·exact ok3 x _ hx (.inr rfl)
 ·have hi : i < caps.length := (List.getElem?_eq_some_iff.mp e1).1
  have := List.all_eq_true.mp h5 i (List.mem_range.mpr hi)
  rw [e1,e2] at this
  simp only [Bool.and_eq_true,Bool.or_eq_true,beq_iff_eq] at this
  exact ⟨this.1.1,this.1.2,this.2⟩
section
variable {K : PySem.W.Frag} {a : Addr} {xs : List V} {caps : List (Option Nat)} {g : TG} {tt : TT} {te : TE} {σ : St} {H : Hp} {Q : VK}
theorem comp_list (Pv : Addr → Nat → Hp → Prop) (h0 : ∀ D,H D = none → Pv D 0 (upd H D (.lst []))) (hl : ∀ D i H',H D = none → i ≤ xs.length → Pv D i H' → SqL K H' a xs)
  (hs : ∀ D i x H',H D = none → xs[i]? = some x → Pv D i H' → g x (seen caps σ) H' fun σ4 H4 => (∀ (k : Nat) v,(seen caps σ)[k]? = some (some v) → σ4[k]? = some (some v)) ∧ tt σ4 H4 fun b H5 =>
   if b = true then te σ4 H5 fun y H6 => ∃ ys,H6 D = some (.lst ys) ∧ ys.length < sizeLine ∧ Pv D (i + 1) (upd H6 D (.lst (ys ++ [y]))) else Pv D (i + 1) H5)
  (hd : ∀ D H',H D = none → Pv D xs.length H' → Q (.ref D) H') : cBody caps g tt te σ Q (Itl K a) H := by
 intro D hD
 refine ⟨fun i m H' => m = xs.length - i ∧ i ≤ xs.length ∧ Pv D i H',⟨xs.length,by simp,Nat.zero_le _,h0 D hD⟩,?_⟩
 intro i m H2 z9;obtain ⟨rfl,hi,p⟩ := z9
 have q := hl D i H2 hD hi p
 by_cases hlt : i < xs.length
 ·refine .inr ⟨⟨xs,xs[i],q,by simp [hlt]⟩,Pv D (i + 1),fun H' p' => ⟨xs.length - (i + 1),by omega,rfl,hlt,p'⟩,fun x H3 y => ?_⟩
  obtain ⟨e,y⟩ := y
  subst e
  exact hs D i x _ hD (y xs q) p
 ·have e : i = xs.length := by omega
  subst e
  exact .inl ⟨⟨xs,q,Nat.le_refl _⟩,hd D H2 hD p⟩
theorem comp_list0 (Pv : Addr → Nat → Hp → Prop) (h0 : ∀ D,H D = none → Pv D 0 (upd H D (.lst []))) (hl : ∀ D i H',H D = none → i ≤ xs.length → Pv D i H' → SqL K H' a xs)
  (hs : ∀ D i x H',H D = none → xs[i]? = some x → Pv D i H' → g x (seen caps σ) H' fun σ4 H4 => (∀ (k : Nat) v,(seen caps σ)[k]? = some (some v) → σ4[k]? = some (some v)) ∧
   te σ4 H4 fun y H6 => ∃ ys,H6 D = some (.lst ys) ∧ ys.length < sizeLine ∧ Pv D (i + 1) (upd H6 D (.lst (ys ++ [y]))))
  (hd : ∀ D H',H D = none → Pv D xs.length H' → Q (.ref D) H') : cBody caps g tTrue te σ Q (Itl K a) H := comp_list Pv h0 hl hs hd
theorem comp_tup (Pv : Addr → Nat → Hp → Prop) (h0 : ∀ D,H D = none → Pv D 0 (upd H D (.lst []))) (hl : ∀ D i H',H D = none → i ≤ xs.length → Pv D i H' → SqT K H' a xs)
  (hs : ∀ D i x H',H D = none → xs[i]? = some x → Pv D i H' → g x (seen caps σ) H' fun σ4 H4 => (∀ (k : Nat) v,(seen caps σ)[k]? = some (some v) → σ4[k]? = some (some v)) ∧ tt σ4 H4 fun b H5 =>
   if b = true then te σ4 H5 fun y H6 => ∃ ys,H6 D = some (.lst ys) ∧ ys.length < sizeLine ∧ Pv D (i + 1) (upd H6 D (.lst (ys ++ [y]))) else Pv D (i + 1) H5)
  (hd : ∀ D H',H D = none → Pv D xs.length H' → Q (.ref D) H') : cBody caps g tt te σ Q (Itt K a) H := by
 intro D hD
 refine ⟨fun i m H' => m = xs.length - i ∧ i ≤ xs.length ∧ Pv D i H',⟨xs.length,by simp,Nat.zero_le _,h0 D hD⟩,?_⟩
 intro i m H2 z9;obtain ⟨rfl,hi,p⟩ := z9
 have q := hl D i H2 hD hi p
 by_cases hlt : i < xs.length
 ·refine .inr ⟨⟨xs,xs[i],q,by simp [hlt]⟩,Pv D (i + 1),fun H' p' => ⟨xs.length - (i + 1),by omega,rfl,hlt,p'⟩,fun x H3 y => ?_⟩
  obtain ⟨e,y⟩ := y
  subst e
  exact hs D i x _ hD (y xs q) p
 ·have e : i = xs.length := by omega
  subst e
  exact .inl ⟨⟨xs,q,Nat.le_refl _⟩,hd D H2 hD p⟩
theorem comp_tup0 (Pv : Addr → Nat → Hp → Prop) (h0 : ∀ D,H D = none → Pv D 0 (upd H D (.lst []))) (hl : ∀ D i H',H D = none → i ≤ xs.length → Pv D i H' → SqT K H' a xs)
  (hs : ∀ D i x H',H D = none → xs[i]? = some x → Pv D i H' → g x (seen caps σ) H' fun σ4 H4 => (∀ (k : Nat) v,(seen caps σ)[k]? = some (some v) → σ4[k]? = some (some v)) ∧
   te σ4 H4 fun y H6 => ∃ ys,H6 D = some (.lst ys) ∧ ys.length < sizeLine ∧ Pv D (i + 1) (upd H6 D (.lst (ys ++ [y]))))
  (hd : ∀ D H',H D = none → Pv D xs.length H' → Q (.ref D) H') : cBody caps g tTrue te σ Q (Itt K a) H := comp_tup Pv h0 hl hs hd
end
mutual
inductive RdV (K : PySem.W.Frag) (H : Hp) : V → PyData → Prop
 | non : RdV K H .non .none
 | bl (b : Bool) : RdV K H (.bl b) (.bool b)
 | int (i : Int) : RdV K H (.int i) (.int i)
 | str (x : Str) : RdV K H (.str x) (.str x)
 | lst {a : Addr} {xs : List V} {ds : List PyData} : SqL K H a xs → RdAll K H xs ds → RdV K H (.ref a) (.list ds)
 | tup {a : Addr} {xs : List V} {ds : List PyData} : SqT K H a xs → RdAll K H xs ds → RdV K H (.ref a) (.tuple ds)
inductive RdAll (K : PySem.W.Frag) (H : Hp) : List V → List PyData → Prop
 | nil : RdAll K H [] []
 | cons {x : V} {d : PyData} {xs : List V} {ds : List PyData} : RdV K H x d → RdAll K H xs ds → RdAll K H (x :: xs) (d :: ds)
end
section
variable {X : Cx} {pins : List (Addr × Obj)} {σ : St} {H : Hp} {s : Shared}
mutual
theorem Inv.rd (I : Inv X pins σ H s) : ∀ {x : V} {d : PyData},RdV X.K H x d → ∀ u,RelV x u → ∃ as,Reads s.heap u d as
 | _,_,.non,u,r => by cases (show u = Value.none from r); exact ⟨_,.none⟩
 | _,_,.bl b,u,r => by cases (show u = Value.bool b from r); exact ⟨_,.bool b⟩
 | _,_,.int i,u,r => by obtain ⟨t,q⟩ := (show ∃ t,u = Value.int i t from r); cases q; exact ⟨_,.int i t⟩
 | _,_,.str x,u,r => by obtain ⟨t,q⟩ := (show ∃ t,u = Value.str x t from r); cases q; exact ⟨_,.str x t⟩
 | _,_,.lst (a := a) hS hA,u,r => by
  cases (show u = Value.ref a from r)
  obtain ⟨its,rv,p,hz⟩ := I.list hS
  obtain ⟨as,q⟩ := Inv.rdAll I hA its rv
  obtain ⟨o,e,hc,n,hd⟩ := p.isList
  exact ⟨_,.list e hc hd (by simpa using q)⟩
 | _,_,.tup (a := a) hS hA,u,r => by
  cases (show u = Value.ref a from r)
  obtain ⟨its,rv,p,hz⟩ := I.tuple hS
  obtain ⟨as,q⟩ := Inv.rdAll I hA its rv
  obtain ⟨o,e,hc,n,hd⟩ := p
  exact ⟨_,.tuple e hc hd (by simpa using q)⟩
theorem Inv.rdAll (I : Inv X pins σ H s) : ∀ {xs : List V} {ds : List PyData},RdAll X.K H xs ds → ∀ us,Vals xs us → ∃ as,ReadsAll s.heap us ds as
 | _,_,.nil,us,r => by cases r; exact ⟨_,.nil⟩
 | _,_,.cons h1 h2,us,r => by
  cases r with
  | cons r1 r2 =>
   obtain ⟨as,q1⟩ := Inv.rd I h1 _ r1
   obtain ⟨bs,q2⟩ := Inv.rdAll I h2 _ r2
   exact ⟨_,.cons q1 q2⟩
end
end
section
variable {X : Cx}
noncomputable def rEqD (K : PySem.W.Frag) : R2 := fun x y H Q => ∃ d e,RdV K H x d ∧ RdV K H y e ∧ SeqAt.shaped d = true ∧ SeqAt.shaped e = true ∧ Q (.bl (PyData.eqv d e)) H
noncomputable def rNeD (K : PySem.W.Frag) : R2 := fun x y H Q => ∃ d e,RdV K H x d ∧ RdV K H y e ∧ SeqAt.shaped d = true ∧ SeqAt.shaped e = true ∧ Q (.bl (!PyData.eqv d e)) H
theorem op_eqD (hu : X.A.units + 64 < cLine) : OpR X (compareOp .Eq) (rEqD X.K) := by
 intro pins s σ H x y v u Q I rx ry h
 obtain ⟨d,e,hd,he,sd,se,q⟩ := h
 obtain ⟨as,ra⟩ := I.rd hd v rx
 obtain ⟨bs,rb⟩ := I.rd he u ry
 exact eq_dataH ra rb sd se hu ⟨.bl _,H,I,rfl,q⟩
theorem op_neD (hu : X.A.units + 64 < cLine) : OpR X (compareOp .NotEq) (rNeD X.K) := by
 intro pins s σ H x y v u Q I rx ry h
 obtain ⟨d,e,hd,he,sd,se,q⟩ := h
 obtain ⟨as,ra⟩ := I.rd hd v rx
 obtain ⟨bs,rb⟩ := I.rd he u ry
 exact ne_dataH ra rb sd se hu ⟨.bl _,H,I,rfl,q⟩
end
end L2
namespace L2
open PySem PySem.Spec PyProof.Rows
structure QE (X : Cx) (e : Expr) (t : TE) : Prop where
 run : PE X e t
structure QT (X : Cx) (e : Expr) (t : TT) : Prop where
 run : PT X e t
structure QW (X : Cx) (e : Expr) (t : TT) : Prop where
 run : PW X e t
structure QA (X : Cx) (es : List Expr) (t : TA) : Prop where
 run : PA X es t
structure QS (X : Cx) (st : Stmt) (t : TS) : Prop where
 run : PS X st t
structure QSs (X : Cx) (st : List Stmt) (t : TS) : Prop where
 run : PSs X st t
structure QG (X : Cx) (e : Expr) (t : TG) : Prop where
 run : PG X e t
structure QGs (X : Cx) (es : List Expr) (t : TGs) : Prop where
 run : PGs X es t
structure QI (X : Cx) (tg it : Expr) (w : TI) : Prop where
 run : PI X tg it w
structure QO (X : Cx) (e : Option Expr) (t : TO) : Prop where
 run : PO X e t
structure QC (X : Cx) (op : CmpOp) (a b : Expr) (t : TE) : Prop where
 run : PC X op a b t
structure QOp (X : Cx) (f : Value → Value → Sem Value) (r : R2) : Prop where
 run : OpR X f r
structure QCall (X : Cx) (f : Value) (r : List V → Hp → VK → Prop) : Prop where
 run : CallR X f r
structure QIx (X : Cx) (r : R2) : Prop where
 run : IxR X r
section
variable {X : Cx} {st : Stmt} {rest : List Stmt} {t u : TS} {a b c d e : Expr} {ta tb tc td te : TE} {tA tB' tt : TT} {pos p : Pos}
theorem qss_nil : QSs X [] tNext := ⟨pss_nil⟩
theorem qss_one (h1 : QS X st t) : QSs X [st] t := ⟨pss_one h1.run⟩
theorem qss_cons (h1 : QS X st t) (h2 : QSs X rest u) : QSs X (st :: rest) (tSeq t u) := ⟨pss_cons h1.run h2.run⟩
theorem qss_cut (h1 : QS X st t) (h2 : QSs X rest u) : QSs X (st :: rest) (tCut t u) := ⟨pss_cut h1.run h2.run⟩
theorem qs_set {i : Nat} {x : Str} {pos' : Pos} (hN : X.N.Nodup) (hi : X.N[i]? = some x) (hx : Loc X.env.scope x) (he : QE X e te) (hs : swapsWith e (some (.Name x pos')) pos.line X.env = pure false := by rfl) (hf : X.fn x = true ∨ X.env.scope.names.lookup x = some .local := by first | exact .inl rfl | exact .inr rfl | assumption) :
  QS X (.Assign [.Name x pos'] e pos) (tAsg te (gName i)) := ⟨ps_set hN hi hx he.run hs hf⟩
theorem qs_asg {tg : Expr} {g : TG} (he : QE X e te) (hg : QG X tg g) (hs : swapsWithSole [tg] e pos.line X.env = pure false := by rfl) (hw : swappedStores [tg] e X.env = pure none := by rfl)
  (h1 : (assignEach [tg] X.env).map (·.2) = [assign tg X.env] := by rfl) : QS X (.Assign [tg] e pos) (tAsg te g) := ⟨ps_asg he.run hg.run hs hw h1⟩
theorem qs_if {a b : List Stmt} {tc : TT} (hc : QT X c tc) (ha : QSs X a t) (hb : QSs X b u) : QS X (.If c a b pos) (tIfS tc t u) := ⟨ps_if hc.run ha.run hb.run⟩
theorem qs_ret (he : QE X e te) : QS X (.Return (some e) pos) (tRet te) := ⟨ps_ret he.run⟩
theorem qs_expr (he : QE X e te) (hs : swapsWith e none pos.line X.env = pure false := by rfl) : QS X (.Expr e pos) (tDrop te) := ⟨ps_expr he.run hs⟩
theorem qs_while {body : List Stmt} {tb : TS} (hp : PassesOwn (model X.prog X.w) X.A X.env X.xe) (hc : QT X c tt) (hb : QSs X body tb) : QS X (.While c body [] pos) (tWhile tt tb) := ⟨ps_while hp hc.run hb.run⟩
theorem qs_for {tg iter : Expr} {body : List Stmt} {wi : TI} {g : TG} {tb : TS} (hp : PassesOwn (model X.prog X.w) X.A X.env X.xe) (hc : X.calm = true) (hi : QI X tg iter wi) (hg : QG X tg g) (hb : QSs X body tb)
  (hs : ∀ x,foldedSetIterable iter X.env x = pure x := by intro _; rfl) : QS X (.For tg iter body [] pos) (tFor wi g tb) := ⟨ps_for hp hc hi.run hg.run hb.run hs⟩
theorem qg_name {i : Nat} {x : Str} (hN : X.N.Nodup) (hi : X.N[i]? = some x) (hx : Loc X.env.scope x) (hf : X.fn x = true ∨ X.env.scope.names.lookup x = some .local := by first | exact .inl rfl | exact .inr rfl | assumption) : QG X (.Name x pos) (gName i) := ⟨pg_name hN hi hx hf⟩
theorem qgs_nil : QGs X [] gNil := ⟨pgs_nil⟩
theorem qgs_cons {es : List Expr} {t : TG} {u : TGs} (h1 : QG X e t) (h2 : QGs X es u) (hs : (assignEach (e :: es) X.env).map (·.2) = assign e X.env :: (assignEach es X.env).map (·.2) := by rfl) : QGs X (e :: es) (gCons t u) := ⟨pgs_cons h1.run h2.run hs⟩
theorem qg_tup {es : List Expr} {k : Nat} {t : TGs} {n : Nat} (hc : X.calm = true) (h : QGs X es t)
  (hn : (assignEach es X.env).length = n := by rfl) (hst : (assignEach es X.env).findIdx? (·.1) = none := by rfl) : QG X (.Tuple es k pos) (gTup X.K n t) := ⟨pg_tup hc h.run hn hst⟩
theorem qi_list {tg l : Expr} {tl : TE} (hl : QE X l tl) : QI X tg l (iList X.K tl) := ⟨pi_list hl.run⟩
theorem qi_tup {tg l : Expr} {tl : TE} (hl : QE X l tl) : QI X tg l (iTup X.K tl) := ⟨pi_tup hl.run⟩
theorem qi_range1 {tg : Expr} {ta : TA} (hg : Gl X "range") (hm : X.mg "range" = none) (ha : QA X [a] ta) (h : notStar a = true := by rfl) : QI X tg (.Call (.Name "range" p) [a] [] pos) (iRng1 ta) := ⟨pi_range1 hg hm ha.run (se_of h)⟩
theorem qa_nil : QA X [] tNil := ⟨pa_nil⟩
theorem qa_c {es : List Expr} {t : TA} (ha : QE X e te) (hr : QA X es t) (h : notStar e = true := by rfl) : QA X (e :: es) (tCons te t) := ⟨pa_c ha.run hr.run h⟩
theorem qv (i : Nat) {x : Str} (hN : X.N[i]? = some x := by rfl) (hv : Vis X.env.scope x := by first | exact Or.inl rfl | exact Or.inr (Or.inl rfl) | exact Or.inr (Or.inr rfl)) (hd : (x == ("__debug__" : Str)) = false := by decide)
  (hcd : (x == ("__classdict__" : Str)) = false := by decide) : QE X (.Name x pos) (tVar i) := ⟨pe_var hN hv hd hcd⟩
theorem qe_bltn {x : Str} {v : V} {u : Value} (hg : Gl X x) (hm : X.mg x = none) (hv : bootBuiltins x = some u) (r : RelV v u) (hn : x ≠ "__name__" := by decide) (hd : (x == ("__debug__" : Str)) = false := by decide) : QE X (.Name x pos) (tC v) := ⟨pe_bltn hg hm hv r hn hd⟩
theorem qe_int {i : Int} {j : Nat} : QE X (.Constant (.int i) j pos) (tC (.int i)) := ⟨pe_int⟩
theorem qe_bl {b : Bool} {j : Nat} : QE X (.Constant (.bool b) j pos) (tC (.bl b)) := ⟨pe_bl⟩
theorem qe_non {j : Nat} : QE X (.Constant .none j pos) (tC .non) := ⟨pe_non⟩
theorem qe_str {x : Str} {j : Nat} : QE X (.Constant (.str x) j pos) (tC (.str x)) := ⟨pe_str⟩
theorem qe_op {op : Operator} {r : R2} (ho : QOp X (binaryOp op) r) (ha : QE X a ta) (hb : QE X b tb) : QE X (.BinOp a op b pos) (tOp r ta tb) := ⟨pe_op ho.run ha.run hb.run⟩
theorem qe_neg (ha : QE X a ta) : QE X (.UnaryOp .USub a pos) (tUn (rU fun i => .int (-i)) ta) := ⟨pe_un un_neg ha.run⟩
theorem qe_not (ha : QE X a ta) : QE X (.UnaryOp .Not a pos) (tNotV ta) := ⟨pe_not ha.run⟩
theorem qe_isN {j : Nat} {pos' : Pos} (ha : QE X a ta) : QE X (.Compare a [.Is] [.Constant .none j pos'] pos) (tIsN ta) := ⟨pe_cmp (pc_isN ha.run)⟩
theorem qt_isN {j : Nat} {pos' : Pos} (ha : QE X a ta) : QT X (.Compare a [.Is] [.Constant .none j pos'] pos) (tB (tIsN ta)) := ⟨pt_cmp (pc_isN ha.run)⟩
theorem qe_cmpR {op : CmpOp} {r : R2} (ho : QOp X (compareOp op) r) (ha : QE X a ta) (hb : QE X b tb) (hm : behindInMarks op b = false) : QE X (.Compare a [op] [b] pos) (tOp r ta tb) := ⟨pe_cmpR ho.run ha.run hb.run hm⟩
theorem qt_cmpR {op : CmpOp} {r : R2} (ho : QOp X (compareOp op) r) (ha : QE X a ta) (hb : QE X b tb) (hm : behindInMarks op b = false) : QT X (.Compare a [op] [b] pos) (tTest (tOp r ta tb)) := ⟨pt_cmpR ho.run ha.run hb.run hm⟩
theorem qe_chain {op op' : CmpOp} {r r' : R2} (ho : QOp X (compareOp op) r) (ho' : QOp X (compareOp op') r') (ha : QE X a ta) (hb : QE X b tb) (hc : QE X c tc) (hm : lastMarks [op,op'] [b,c] = false := by with_unfolding_all rfl) :
  QE X (.Compare a [op,op'] [b,c] pos) (tChain r r' ta tb tc) := ⟨pe_chain ho.run ho'.run ha.run hb.run hc.run hm⟩
theorem qt_chain {op op' : CmpOp} {r r' : R2} (ho : QOp X (compareOp op) r) (ho' : QOp X (compareOp op') r') (ha : QE X a ta) (hb : QE X b tb) (hc : QE X c tc) (hm : lastMarks [op,op'] [b,c] = false := by with_unfolding_all rfl) :
  QT X (.Compare a [op,op'] [b,c] pos) (tTest (tChain r r' ta tb tc)) := ⟨pt_chain ho.run ho'.run ha.run hb.run hc.run hm⟩
theorem qe_chain3 {op op' op'' : CmpOp} {r r' r'' : R2} (ho : QOp X (compareOp op) r) (ho' : QOp X (compareOp op') r') (ho'' : QOp X (compareOp op'') r'') (ha : QE X a ta) (hb : QE X b tb) (hc : QE X c tc) (hd : QE X d td) (hm : lastMarks [op,op',op''] [b,c,d] = false := by with_unfolding_all rfl) :
  QE X (.Compare a [op,op',op''] [b,c,d] pos) (tChain3 r r' r'' ta tb tc td) := ⟨pe_chain3 ho.run ho'.run ho''.run ha.run hb.run hc.run hd.run hm⟩
theorem qe_one {op : BoolOp} (h : QE X a ta) : QE X (.BoolOp op [a] pos) ta := ⟨pe_one h.run⟩
theorem qe_and {rest : List Expr} (ha : QE X a ta) (hb : QE X (.BoolOp .And (b :: rest) pos) tb) : QE X (.BoolOp .And (a :: b :: rest) pos) (tAndV ta tb) := ⟨pe_and ha.run hb.run⟩
theorem qw_and1 (ha : QT X a tA) : QW X (.BoolOp .And [a] pos) tA := ⟨pw_and1 ha.run⟩
theorem qw_or1 (ha : QT X a tA) : QW X (.BoolOp .Or [a] pos) tA := ⟨pw_or1 ha.run⟩
theorem qw_and {rest : List Expr} (ha : QT X a tA) (hb : QW X (.BoolOp .And (b :: rest) pos) tB') : QW X (.BoolOp .And (a :: b :: rest) pos) (tAnd tA tB') := ⟨pw_and ha.run hb.run⟩
theorem qw_or {rest : List Expr} (ha : QT X a tA) (hb : QW X (.BoolOp .Or (b :: rest) pos) tB') : QW X (.BoolOp .Or (a :: b :: rest) pos) (tOr tA tB') := ⟨pw_or ha.run hb.run⟩
theorem QW.pt (h : QW X e tt) : QT X e tt := ⟨h.run.pt⟩
theorem qt_not (ha : QT X a tA) : QT X (.UnaryOp .Not a pos) (tNot tA) := ⟨pt_not ha.run⟩
theorem qt_val (h : QE X e te) (he : ∀ whole,isTrue e X.env whole = (do let v ← whole; standAt e.pos; holding [v] (truthy v)) := by intro _; rfl) : QT X e (tB te) := ⟨pt_val h.run he⟩
theorem qt_cut (h : QT X e tt) : QT X e (tCutT tt) := ⟨pt_cut h.run⟩
theorem qe_ifExp (hc : QT X c tA) (ha : QE X a ta) (hb : QE X b tb) : QE X (.IfExp c a b pos) (tIf tA ta tb) := ⟨pe_ifExp hc.run ha.run hb.run⟩
theorem qe_tup {es : List Expr} {t : TA} {x1 : Nat} (h : QA X es t) : QE X (.Tuple es x1 pos) (tTup t) := ⟨pe_tup h.run⟩
theorem qe_lst {es : List Expr} {t : TA} (h : QA X es t) : QE X (.List es pos) (tLst t) := ⟨pe_lst h.run⟩
theorem qe_ix {r : R2} (hr : QIx X r) (ha : QE X a ta) (hb : QE X b tb) (hs : PlainIx b) : QE X (.Subscript a b pos) (tOp r ta tb) := ⟨pe_ix hr.run ha.run hb.run hs⟩
theorem qo_none : QO X none tNoPart := ⟨po_none⟩
theorem qo_some (h : QE X e te) : QO X (some e) (tPart te) := ⟨po_some h.run⟩
theorem qe_slL {lo hi : Option Expr} {tl th : TO} {p2 : Pos} (he : QE X e te) (hl : QO X lo tl) (hu : QO X hi th) : QE X (.Subscript e (.Slice lo hi none p2) pos) (tSl (rSlL X.K) te tl th) := ⟨pe_slice sl_list he.run hl.run hu.run⟩
theorem qe_cb {x : Str} {es : List Expr} {t : TA} {id : String} {r : List V → Hp → VK → Prop} (hc : QCall X (.builtin id) r) (hg : Gl X x) (hm : X.mg x = none) (hv : bootBuiltins x = some (.builtin id)) (ha : QA X (e :: es) t) (hn : x ≠ "__name__" := by decide) (hdb : (x == ("__debug__" : Str)) = false := by decide)
  (he : notStar e = true := by rfl) (hpl : es.all notStar = true := by rfl) : QE X (.Call (.Name x p) (e :: es) [] pos) (tCB r t) := ⟨pe_cb hc.run hg hm hv ha.run hn hdb he hpl⟩
theorem qe_ct {x : Str} {es : List Expr} {t : TA} {T : String} {r : List V → Hp → VK → Prop} (hc : QCall X (.type T) r) (hg : Gl X x) (hm : X.mg x = none) (hv : bootBuiltins x = some (.type T)) (ha : QA X (e :: es) t) (hn : x ≠ "__name__" := by decide) (hdb : (x == ("__debug__" : Str)) = false := by decide)
  (he : notStar e = true := by rfl) (hpl : es.all notStar = true := by rfl) : QE X (.Call (.Name x p) (e :: es) [] pos) (tCB r t) := ⟨pe_ct hc.run hg hm hv ha.run hn hdb he hpl⟩
theorem qe_fn {k : Nat} {x : Str} {ps : List Str} {sp : Sp} {es : List Expr} {t : TA} (C : Callee X.prog X.w X.K X.mg X.base k x ps sp) (hr : Room k X.A) (hg : Gl X x) (ha : QA X (e :: es) t) (hdb : (x == ("__debug__" : Str)) = false := by decide)
  (he : notStar e = true := by rfl) (hpl : es.all notStar = true := by rfl) : QE X (.Call (.Name x p) (e :: es) [] pos) (tCall sp [] E0 t) := ⟨pe_fn C hr hg ha.run hdb he hpl⟩
theorem qe_append {o : Expr} {to : TE} {t : TA} {apos : Pos} (ho : QE X o to) (ha : QA X [e] t) (h : notStar e = true := by rfl) (hbase : attributeBase o "append" X.env (eval o X.env) = eval o X.env := by rfl) (hline : (apos.endLine == pos.line) = true := by rfl) :
  QE X (.Call (.Attribute o "append" apos) [e] [] pos) (tBM X.K "list" rAppend to t) :=
 ⟨pe_bm PySem.F.plainAttrs_list PySem.F.slot_list_append PySem.F.type_list_append mt_append ho.run ha.run hbase (by rw [se_of h]; rfl) hline (se_of h) rfl⟩
end
section
variable {X : Cx}
theorem qop_add : QOp X (binaryOp .Add) (rI0 fun i j => .int (i + j)) := ⟨op_add⟩
theorem qop_sub : QOp X (binaryOp .Sub) (rI0 fun i j => .int (i - j)) := ⟨op_sub⟩
theorem qop_mul : QOp X (binaryOp .Mult) (rI CMul fun i j => .int (i * j)) := ⟨op_mul⟩
theorem qop_fdivB : QOp X (binaryOp .FloorDiv) (rI CDivB fun i j => .int (i / j)) := ⟨op_fdivB⟩
theorem qop_mod : QOp X (binaryOp .Mod) (rI (fun _ j => 0 < j) fun i j => .int (i % j)) := ⟨op_mod⟩
theorem qop_pow : QOp X (binaryOp .Pow) (rI CPow fun i j => .int (i ^ j.toNat)) := ⟨op_pow⟩
theorem qop_eq : QOp X (compareOp .Eq) rEq := ⟨op_eq⟩
theorem qop_ne : QOp X (compareOp .NotEq) rNe := ⟨op_ne⟩
theorem qop_lt : QOp X (compareOp .Lt) (rI0 fun i j => .bl (decide (i < j))) := ⟨op_lt⟩
theorem qop_le : QOp X (compareOp .LtE) (rI0 fun i j => .bl (decide (i ≤ j))) := ⟨op_le⟩
theorem qop_gt : QOp X (compareOp .Gt) (rI0 fun i j => .bl (decide (j < i))) := ⟨op_gt⟩
theorem qop_ge : QOp X (compareOp .GtE) (rI0 fun i j => .bl (decide (j ≤ i))) := ⟨op_ge⟩
theorem qop_eqD (hu : X.A.units + 64 < cLine) : QOp X (compareOp .Eq) (rEqD X.K) := ⟨op_eqD hu⟩
theorem qop_neD (hu : X.A.units + 64 < cLine) : QOp X (compareOp .NotEq) (rNeD X.K) := ⟨op_neD hu⟩
theorem qix_list : QIx X (rIxL X.K) := ⟨ix_list⟩
theorem qix_tup : QIx X (rIxT X.K) := ⟨ix_tup⟩
theorem qcall_len : QCall X (.builtin "len") (fun xs H Q => ∃ p ys,xs = [.ref p] ∧ (SqL X.K H p ys ∨ SqT X.K H p ys) ∧ Q (.int ys.length) H) := ⟨call_len_seq⟩
theorem qcall_min (hc : X.calm = true) : QCall X (.builtin "min") (fun xs H Q => ∃ i j,xs = [.int i,.int j] ∧ Q (.int (if j < i then j else i)) H) := ⟨call_min2 hc⟩
theorem qcall_isi : QCall X (.builtin "isinstance") (fun xs H Q => ∃ x T t b,xs = [x,.ty T] ∧ TyOf X.K H x t ∧ PySem.W.kitOne X.K t (.type T) = some b ∧ Q (.bl b) H) := ⟨call_isi⟩
theorem qcall_all (hc : X.calm = true) : QCall X (.builtin "all") (fun xs H Q => ∃ (p : Addr) (bs : List Bool),xs = [.ref p] ∧ SqL X.K H p (bs.map V.bl) ∧ Q (.bl (bs.all id)) H) := ⟨call_all hc⟩
theorem qcall_list : QCall X (.type "list") (fun xs H Q => ∃ p ys,xs = [.ref p] ∧ (SqL X.K H p ys ∨ SqT X.K H p ys) ∧ ∀ l,H l = none → Q (.ref l) (upd H l (.lst ys))) := ⟨call_list_of⟩
end
section
variable {P : Program} {w : World} {K : PySem.W.Frag} {mg : Str → Option Value} {base : Heap}
theorem Fun.okQ {x qual : Str} {st : Stmt} {f : Addr} {fd : FuncData} {N ps : List Str} {k : Nat} {sp : Sp} (F : Fun K x qual st f fd) (S : FnScope N ps (defScope st)) (len : ∀ vs H Q E,sp vs H Q E → vs.length = ps.length)
  (hbody : ∀ (cdv : Value) (A : Around) (outer : List Env) (s : Shared) (H : Hp) (vs : List V) (Q : VK) (E : XK),Room k (A.deeper (envOfC qual (defScope st) s.heap.objs.size f cdv)) → sp vs H Q E →
   ∃ t,QSs (cxOf CX0 P w K mg base N qual (defScope st) f cdv A outer s H E).nox (defBody st) t ∧ t { nx := fun _ H' => Q .non H',rt := Q } (start N vs) H) : FnOk P w K mg base CX0 (k + 1) f fd ps sp := by
 refine F.ok S len fun cdv A outer s H vs Q E hr h => ?_
 obtain ⟨t,h1,h2⟩ := hbody cdv A outer s H vs Q E hr h
 exact ⟨t,h1.run,h2⟩
end
structure SubL (cl cells : List (Str × Addr)) : Prop where
 to : ∀ x c,cl.lookup x = some c → cells.lookup x = some c
theorem subN {cells : List (Str × Addr)} : SubL [] cells := ⟨fun _ _ e => nomatch e⟩
theorem subC {x : Str} {c : Addr} {cl cells : List (Str × Addr)} (h : cells.lookup x = some c) (r : SubL cl cells) : SubL ((x,c) :: cl) cells := ⟨fun y d e => by
 rw [List.lookup_cons] at e
 cases q : y == x with
 | true => rw [q] at e; cases e; rw [eq_of_beq q]; exact h
 | false => rw [q] at e; exact r.to y d e⟩
section
variable {X : Cx} {scope : Scope} {cl : List (Str × Addr)} {tg iter elt : Expr} {wi : TI} {g : TG} {te : TE} {tt : TT} {pos : Pos}
theorem qe_comp (N' : List Str) (caps : List (Option Nat)) (B : BlkOk X N' scope cl caps) (hc : X.calm = true) (hi : QI X tg iter wi) (hg : ∀ C s0 H0 fp,QG (blk X N' scope cl C s0 H0 fp) tg g) (he : ∀ C s0 H0 fp,QE (blk X N' scope cl C s0 H0 fp) elt te)
  (hs : ∀ x,foldedSetIterable iter X.env x = pure x := by intro _; rfl) : QE X (.ListComp elt [⟨tg,iter,[],0⟩] scope pos) (tComp wi caps g tTrue te) := ⟨pe_comp B hc hi.run (fun C s0 H0 fp => (hg C s0 H0 fp).run) (fun C s0 H0 fp => (he C s0 H0 fp).run) hs⟩
end
section
variable {X : Cx} {pos : Pos}
theorem qg_tupK (K : PySem.W.Frag) (hK : X.K = K) {es : List Expr} {k : Nat} {t : TGs} {n : Nat} (hc : X.calm = true) (h : QGs X es t)
  (hn : (assignEach es X.env).length = n := by rfl) (hst : (assignEach es X.env).findIdx? (·.1) = none := by rfl) : QG X (.Tuple es k pos) (gTup K n t) := by
 subst hK
 exact qg_tup hc h hn hst
theorem qix_listK (K : PySem.W.Frag) (hK : X.K = K) : QIx X (rIxL K) := by subst hK; exact qix_list
end
end L2
namespace L2
open PySem PySem.Spec PyProof.Rows
section
variable {X : Cx} {k : Nat} {f : Addr} {fd : FuncData} {ps : List Str} {sp : Sp} {e : Expr} {es : List Expr} {t : TA} {p pos : Pos} {x : Str}
end
noncomputable def CodeQ (c : Addr) (qual : Str) : Heap → Prop := fun h => h.CodeRec (.ref c) qual
structure LamScope (N ps : List Str) (sc : Scope) (clos : List (Str × Addr)) : Prop where
 kind : sc.kind = .function
 co : sc.isCoroutine = false
 gen : sc.isGenerator = false
 nd : ps.Nodup
 pre : N.take ps.length = ps
 par : ∀ x ∈ ps,sc.names.lookup x = some .local
 nocell : ∀ y ∈ sc.names,y.2 ≠ .cell
 has : ∀ x,sc.names.lookup x = some .free → ∃ c,clos.lookup x = some c
 inj : ∀ x y c,clos.lookup x = some c → clos.lookup y = some c → x = y
noncomputable def TabOk (H : Hp) (P : Addr) (pos : Pos) (qual : Str) : Prop :=
 ∃ ps : Array Value,H P = some (.tbl ps) ∧ TriplesOk ps.toList ∧ (codeAmong pos ps.toList = none ∨ ∃ c,codeAmong pos ps.toList = some (.ref c) ∧ H c = some (.ext (CodeQ c qual)))
noncomputable def SameT (P : Addr) (H H' : Hp) : Prop := ∀ b o,H b = some o → b ≠ P → H' b = some o
noncomputable def fixed (X : Cx) (H : Hp) (h : Heap) : Heap := PySem.W.hideAll h (trk h H ++ frs X.stack)
section
variable {X : Cx} {pins : List (Addr × Obj)} {σ : St} {H : Hp} {s : Shared}
end
section
variable {X : Cx} {k : Nat} {x y : Str} {g c P cy : Addr} {gd : FuncData} {ps2 N ps : List Str} {spG : V → Addr → Addr → Sp} {e1 body : Expr} {te : TE} {params : Arguments} {sc : Scope} {lpos p pos : Pos} {clos : List (Str × Addr)}
end
end L2
namespace L2
open PySem PySem.Spec PyProof.Rows
end L2
namespace L2
open PySem PySem.Spec PyProof.Rows
section
variable {X : Cx}
end
section
variable {K : PySem.W.Frag} {a b : Addr} {xs ys : List V} {caps : List (Option Nat)} {g : TG} {tt : TT} {te : TE} {σ : St} {H : Hp} {Q : VK}
end
end L2
namespace L2
open PySem PySem.Spec PyProof.Rows
section
variable {X : Cx}
variable {e o a : Expr} {es : List Expr} {to : TE} {t : TA} {apos pos : Pos}
end
end L2
namespace Ma
noncomputable abbrev T4 := Int × Int × Bool × Int
noncomputable def btS (d t : Int) (best : Option Int) (w : T3) : Option Int :=
 match best with
 | none => some (nextO d w.1 w.2.1 t + w.2.2)
 | some b => if nextO d w.1 w.2.1 t + w.2.2 < b then some (nextO d w.1 w.2.1 t + w.2.2) else some b
noncomputable def bt (d : Int) (R : List T3) (t : Int) : Option Int := R.foldl (btS d t) none
theorem bt_nil (d t : Int) : bt d [] t = none := rfl
structure IsMin (d t : Int) (R : List T3) (y : Int) : Prop where
 at_ : ∃ w ∈ R,y = nextO d w.1 w.2.1 t + w.2.2
 le : ∀ w ∈ R,y ≤ nextO d w.1 w.2.1 t + w.2.2
theorem IsMin.uniq {d t : Int} {R : List T3} {y y' : Int} (h : IsMin d t R y) (h' : IsMin d t R y') : y = y' := by
 obtain ⟨w,hw,e⟩ := h.at_
 obtain ⟨w',hw',e'⟩ := h'.at_
 have := h.le w' hw'
 have := h'.le w hw
 omega
theorem fold_bt (d t : Int) : ∀ (R : List T3) (best : Option Int),(best = none ∧ R = [] ∧ R.foldl (btS d t) best = none) ∨
  ∃ y,R.foldl (btS d t) best = some y ∧ (best = some y ∨ ∃ w ∈ R,y = nextO d w.1 w.2.1 t + w.2.2) ∧ (∀ b,best = some b → y ≤ b) ∧ ∀ w ∈ R,y ≤ nextO d w.1 w.2.1 t + w.2.2
 | [],none => .inl ⟨rfl,rfl,rfl⟩
 | [],some b => .inr ⟨b,rfl,.inl rfl,fun b' e => by cases e; exact Int.le_refl _,fun w hw => by cases hw⟩
 | w :: R,best => by
  rw [List.foldl_cons]
  rcases fold_bt d t R (btS d t best w) with ⟨e,_⟩ | ⟨y,e1,e2,e3,e4⟩
  ·cases best with
   | none => cases e
   | some b =>
    simp only [btS] at e
    split at e <;> cases e
  ·refine .inr ⟨y,e1,?_,fun b hb => ?_,fun u hu => ?_⟩
   ·rcases e2 with e2 | ⟨u,hu,e2⟩
    ·cases best with
     | none =>
      cases e2
      exact .inr ⟨w,List.mem_cons_self ..,rfl⟩
     | some b =>
      simp only [btS] at e2
      split at e2
      ·cases e2
       exact .inr ⟨w,List.mem_cons_self ..,rfl⟩
      ·cases e2
       exact .inl rfl
    ·exact .inr ⟨u,List.mem_cons_of_mem _ hu,e2⟩
   ·subst hb
    by_cases c : nextO d w.1 w.2.1 t + w.2.2 < b
    ·have := e3 _ (by simp only [btS]; rw [if_pos c])
     omega
    ·exact e3 _ (by simp only [btS]; rw [if_neg c])
   ·rcases List.mem_cons.mp hu with rfl | hu
    ·cases best with
     | none => exact e3 _ rfl
     | some b =>
      by_cases c : nextO d u.1 u.2.1 t + u.2.2 < b
      ·exact e3 _ (by simp only [btS]; rw [if_pos c])
      ·have := e3 b (by simp only [btS]; rw [if_neg c])
       omega
    ·exact e4 u hu
theorem bt_spec (d t : Int) (R : List T3) : (R = [] ∧ bt d R t = none) ∨ ∃ y,bt d R t = some y ∧ IsMin d t R y := by
 rcases fold_bt d t R none with ⟨_,e,e2⟩ | ⟨y,e1,e2,_,e4⟩
 ·exact .inl ⟨e,e2⟩
 ·refine .inr ⟨y,e1,?_,e4⟩
  rcases e2 with e2 | e2
  ·cases e2
  ·exact e2
theorem IsMin.bt {d t : Int} {R : List T3} {y : Int} (h : IsMin d t R y) : bt d R t = some y := by
 rcases bt_spec d t R with ⟨rfl,_⟩ | ⟨y',e,h'⟩
 ·obtain ⟨w,hw,_⟩ := h.at_
  cases hw
 ·rw [e,h.uniq h']
theorem bt_min {d t : Int} {R : List T3} {y : Int} (h : bt d R t = some y) : IsMin d t R y := by
 rcases bt_spec d t R with ⟨rfl,e⟩ | ⟨y',e,h'⟩
 ·rw [e] at h; cases h
 ·rw [e] at h
  cases h
  exact h'
noncomputable def Tells (d : Int) (R : List T3) (f : Int → Int) : Prop := ∀ t,bt d R t = some (f t)
noncomputable def bf (d : Int) (R : List T3) (t : Int) : Int := (bt d R t).getD 0
theorem tells_bf {d : Int} {R : List T3} (h : R ≠ []) : Tells d R (bf d R) := fun t => by
 unfold bf
 rcases bt_spec d t R with ⟨e,_⟩ | ⟨y,e,_⟩
 ·exact absurd e h
 ·rw [e]; rfl
theorem Tells.eq {d : Int} {R : List T3} {f g : Int → Int} (h : Tells d R f) (h' : Tells d R g) (t : Int) : f t = g t := by
 have := h t
 rw [h' t] at this
 exact (Option.some.inj this).symm
theorem Tells.ne {d : Int} {R : List T3} {f : Int → Int} (h : Tells d R f) : R ≠ [] := fun e => by
 have := h 0
 rw [e,bt_nil] at this
 cases this
structure Rise (d : Int) (f : Int → Int) : Prop where
 ge : ∀ t,t ≤ f t
 mono : ∀ t u,t ≤ u → f t ≤ f u
 per : ∀ t,f (t + d) = f t + d
theorem Rise.mul {d : Int} {f : Int → Int} (r : Rise d f) (t : Int) : ∀ k : Int,f (t + d * k) = f t + d * k := by
 have up : ∀ (t : Int) (n : Nat),f (t + d * (n : Int)) = f t + d * (n : Int) := fun t n => by
  induction n with
  | zero => simp
  | succ n ih =>
   have e : d * ((n + 1 : Nat) : Int) = d * (n : Int) + d := by
    rw [Int.natCast_add,Int.mul_add]
    simp
   rw [e,← Int.add_assoc,r.per,ih]
   omega
 intro k
 rcases Int.le_total 0 k with h | h
 ·have e : k = ((k.toNat : Nat) : Int) := by omega
  rw [e]
  exact up t _
 ·obtain ⟨m,e⟩ : ∃ m : Nat,k = -(m : Int) := ⟨(-k).toNat,by omega⟩
  subst e
  have := up (t + d * -(m : Int)) m
  rw [Int.mul_neg] at this ⊢
  have e2 : t + -(d * (m : Int)) + d * (m : Int) = t := by omega
  rw [e2] at this
  omega
noncomputable def Wins (d : Int) (R : List T3) : Prop := ∀ w ∈ R,0 ≤ w.1 ∧ w.1 ≤ w.2.1 ∧ w.2.1 < d ∧ 0 ≤ w.2.2
structure CK (d : Int) (R : List T3) : Prop where
 d0 : 0 < d
 win : Wins d R
 srt : R.Pairwise fun u v => u.2.1 < v.1 ∧ u.2.1 + u.2.2 < v.1 + v.2.2 ∧ (u.2.1 + 1 = v.1 → u.2.2 ≠ v.2.2)
 wr : ∀ u ∈ R,∀ v ∈ R,u.2.1 + u.2.2 < d + (v.1 + v.2.2)
theorem get_mem {R : List T3} {i : Nat} (h : i < R.length) : (rA R i,rB R i,rC R i) ∈ R := List.mem_of_getElem? (r_at h)
theorem mem_get {R : List T3} {w : T3} (h : w ∈ R) : ∃ i,i < R.length ∧ rA R i = w.1 ∧ rB R i = w.2.1 ∧ rC R i = w.2.2 := by
 obtain ⟨i,hi,e⟩ := List.mem_iff_getElem.mp h
 have e2 : R[i]? = some (w.1,w.2.1,w.2.2) := by rw [List.getElem?_eq_getElem hi,e]
 exact ⟨i,hi,r_of e2⟩
theorem pw_get {R : List T3} {p : T3 → T3 → Prop} (h : R.Pairwise p) {i j : Nat} (hij : i < j) (hj : j < R.length) : p (rA R i,rB R i,rC R i) (rA R j,rB R j,rC R j) := by
 have e1 := r_at (R := R) (i := i) (by omega)
 have e2 := r_at (R := R) hj
 rw [List.getElem?_eq_getElem (by omega)] at e1
 rw [List.getElem?_eq_getElem hj] at e2
 have := List.pairwise_iff_getElem.mp h i j (by omega) hj hij
 rw [Option.some.inj e1,Option.some.inj e2] at this
 exact this
theorem CK.clk {d : Int} {R : List T3} (h : CK d R) : Clk d R.length (rA R) (rB R) (rC R) :=
 ⟨h.d0,fun i hi => (h.win _ (get_mem hi)).1,fun i hi => (h.win _ (get_mem hi)).2.1,fun i hi => (h.win _ (get_mem hi)).2.2.1,fun i hi => (h.win _ (get_mem hi)).2.2.2,
  fun i j hij hj => (pw_get h.srt hij hj).1,fun i j hij hj => (pw_get h.srt hij hj).2.1,fun i j hi hj => h.wr _ (get_mem hi) _ (get_mem hj)⟩
theorem ex_min (g : Nat → Int) : ∀ n : Nat,0 < n → ∃ j,j < n ∧ ∀ i,i < n → g j ≤ g i
 | 0,h => absurd h (Nat.lt_irrefl _)
 | 1,_ => ⟨0,by omega,fun i hi => by have : i = 0 := (by omega); rw [this]; exact Int.le_refl _⟩
 | n + 2,_ => by
  obtain ⟨j,hj,h⟩ := ex_min g (n + 1) (by omega)
  rcases Int.le_total (g j) (g (n + 1)) with c | c
  ·refine ⟨j,by omega,fun i hi => ?_⟩
   rcases (by omega : i < n + 1 ∨ i = n + 1) with z | z
   ·exact h i z
   ·rw [z]; exact c
  ·refine ⟨n + 1,by omega,fun i hi => ?_⟩
   rcases (by omega : i < n + 1 ∨ i = n + 1) with z | z
   ·have := h i z
    omega
   ·rw [z]; exact Int.le_refl _
theorem clk_first {d : Int} {R : List T3} (K : Clk d R.length (rA R) (rB R) (rC R)) (n0 : R.length ≠ 0) (t : Int) : ∃ x y,First d R.length (rA R) (rB R) (rC R) t x y ∧ bt d R t = some y := by
 obtain ⟨j,hj,hm⟩ := ex_min (fun i => nextO d (rA R i) (rB R i) t) R.length (by omega)
 have F := first_min K hj hm
 refine ⟨_,_,F,IsMin.bt ⟨⟨_,get_mem hj,rfl⟩,fun w hw => ?_⟩⟩
 obtain ⟨i,hi,e1,e2,e3⟩ := mem_get hw
 obtain ⟨k,k1,k2,k3,k4,k5⟩ := next_spec (t := t) K.d0 (K.a0 i hi) (K.ab i hi) (K.bd i hi)
 have D : Dep d R.length (rA R) (rB R) (rC R) (nextO d (rA R i) (rB R i) t) (nextO d (rA R i) (rB R i) t + rC R i) := ⟨i,k,hi,k1,k2,rfl⟩
 have le := F.least _ _ D k3
 rw [← e1,← e2,← e3]
 rcases (by omega : nextO d (rA R j) (rB R j) t < nextO d (rA R i) (rB R i) t ∨ nextO d (rA R j) (rB R j) t = nextO d (rA R i) (rB R i) t) with z | z
 ·have := dep_mono K F.dep D z
  omega
 ·rw [← z] at D
  have := dep_fun K F.dep D
  omega
structure Can (lo P : Int) (f : Int → Int) (R : List T3) : Prop where
 srt : R.Pairwise fun u v => u.2.1 < v.1 ∧ (u.2.1 + 1 = v.1 → u.2.2 ≠ v.2.2)
 mem : ∀ w ∈ R,lo ≤ w.1 ∧ w.1 ≤ w.2.1 ∧ w.2.1 < P ∧ ∀ x,w.1 ≤ x → x ≤ w.2.1 → f x = x + w.2.2 ∧ f x < f (x + 1)
 cov : ∀ x,lo ≤ x → x < P → f x < f (x + 1) → ∃ w ∈ R,w.1 ≤ x ∧ x ≤ w.2.1
theorem Can.tail {lo P : Int} {f : Int → Int} {w : T3} {R : List T3} (h : Can lo P f (w :: R)) : Can (w.2.1 + 1) P f R := by
 have s := List.pairwise_cons.mp h.srt
 have hw := h.mem w (List.mem_cons_self ..)
 refine ⟨s.2,fun u hu => ?_,fun x x0 x1 x2 => ?_⟩
 ·have a := h.mem u (List.mem_cons_of_mem _ hu)
  have b := (s.1 u hu).1
  exact ⟨by omega,a.2⟩
 ·obtain ⟨u,hu,u1,u2⟩ := h.cov x (by omega) x1 x2
  rcases List.mem_cons.mp hu with rfl | hu
  ·omega
  ·exact ⟨u,hu,u1,u2⟩
theorem Can.head_le {lo P : Int} {f : Int → Int} {w : T3} {R : List T3} (h : Can lo P f (w :: R)) {x : Int} (x0 : lo ≤ x) (x1 : x < P) (x2 : f x < f (x + 1)) : w.1 ≤ x := by
 have s := List.pairwise_cons.mp h.srt
 obtain ⟨u,hu,u1,u2⟩ := h.cov x x0 x1 x2
 rcases List.mem_cons.mp hu with rfl | hu
 ·exact u1
 ·have := (s.1 u hu).1
  have := (h.mem w (List.mem_cons_self ..)).2.1
  omega
theorem Can.end_le {lo P : Int} {f : Int → Int} {w w' : T3} {R R' : List T3} (h : Can lo P f (w :: R)) (h' : Can lo P f (w' :: R')) (ea : w.1 = w'.1) (ec : w.2.2 = w'.2.2) : w'.2.1 ≤ w.2.1 := by
 rcases Int.lt_or_le w.2.1 w'.2.1 with z | z
 ·exfalso
  have m := h.mem w (List.mem_cons_self ..)
  have m' := h'.mem w' (List.mem_cons_self ..)
  have q := m'.2.2.2 (w.2.1 + 1) (by omega) (by omega)
  obtain ⟨u,hu,u1,u2⟩ := h.cov (w.2.1 + 1) (by omega) (by omega) q.2
  rcases List.mem_cons.mp hu with rfl | hu
  ·omega
  ·have s := (List.pairwise_cons.mp h.srt).1 u hu
   have r := ((h.mem u (List.mem_cons_of_mem _ hu)).2.2.2 (w.2.1 + 1) u1 u2).1
   exact s.2 (by omega) (by omega)
 ·exact z
theorem Can.uniq {P : Int} {f : Int → Int} : ∀ {R R' : List T3} {lo : Int},Can lo P f R → Can lo P f R' → R = R'
 | [],[],_,_,_ => rfl
 | [],w :: R,lo,h,h' => by
  have m := h'.mem w (List.mem_cons_self ..)
  obtain ⟨u,hu,_⟩ := h.cov w.1 m.1 (by omega) (m.2.2.2 w.1 (Int.le_refl _) m.2.1).2
  cases hu
 | w :: R,[],lo,h,h' => by
  have m := h.mem w (List.mem_cons_self ..)
  obtain ⟨u,hu,_⟩ := h'.cov w.1 m.1 (by omega) (m.2.2.2 w.1 (Int.le_refl _) m.2.1).2
  cases hu
 | w :: R,w' :: R',lo,h,h' => by
  have m := h.mem w (List.mem_cons_self ..)
  have m' := h'.mem w' (List.mem_cons_self ..)
  have q := m.2.2.2 w.1 (Int.le_refl _) m.2.1
  have q' := m'.2.2.2 w'.1 (Int.le_refl _) m'.2.1
  have l1 := h.head_le (x := w'.1) m'.1 (by omega) q'.2
  have l2 := h'.head_le (x := w.1) m.1 (by omega) q.2
  have ea : w.1 = w'.1 := by omega
  have ec : w.2.2 = w'.2.2 := by
   have := q.1
   have := q'.1
   rw [ea] at *
   omega
  have b1 := h.end_le h' ea ec
  have b2 := h'.end_le h ea.symm ec.symm
  have eb : w.2.1 = w'.2.1 := by omega
  have ew : w = w' := by
   obtain ⟨x,y,z⟩ := w
   obtain ⟨x',y',z'⟩ := w'
   cases ea
   cases eb
   cases ec
   rfl
  subst ew
  rw [Can.uniq h.tail h'.tail]
theorem next_dep {d : Int} {f : Int → Int} (hd : 0 < d) (r : Rise d f) (t : Int) : ∃ x,t ≤ x ∧ x < t + d ∧ f x = f t ∧ f x < f (x + 1) := by
 have go : ∀ n : Nat,f t < f (t + n) → ∃ x,t ≤ x ∧ x < t + n ∧ f x = f t ∧ f x < f (x + 1) := by
  intro n
  induction n with
  | zero => intro h; simp at h
  | succ n ih =>
   intro h
   by_cases c : f t < f (t + n)
   ·obtain ⟨x,x1,x2,x3,x4⟩ := ih c
    exact ⟨x,x1,by omega,x3,x4⟩
   ·have b := r.mono t (t + n) (by omega)
    have e : t + ((n + 1 : Nat) : Int) = t + n + 1 := by omega
    rw [e] at h
    exact ⟨t + n,by omega,by omega,by omega,by omega⟩
 have e : d = ((d.toNat : Nat) : Int) := by omega
 have := go d.toNat (by rw [← e,r.per]; omega)
 rw [← e] at this
 exact this
theorem Can.tells {d : Int} {f : Int → Int} {R : List T3} (hd : 0 < d) (r : Rise d f) (h : Can 0 d f R) : Tells d R f := by
 intro t
 have lo : ∀ w ∈ R,f t ≤ nextO d w.1 w.2.1 t + w.2.2 := fun w hw => by
  obtain ⟨m0,m1,m2,m3⟩ := h.mem w hw
  obtain ⟨k,k1,k2,k3,k4,k5⟩ := next_spec (t := t) hd m0 m1 m2
  generalize nextO d w.1 w.2.1 t = x at *
  have q := (m3 (x - d * k) (by omega) (by omega)).1
  have q2 := r.mul (x - d * k) k
  have e : x - d * k + d * k = x := by omega
  rw [e] at q2
  have := r.mono t x k3
  omega
 refine IsMin.bt ⟨?_,lo⟩
 obtain ⟨x,x1,x2,x3,x4⟩ := next_dep hd r t
 obtain ⟨q,e,e0,e1⟩ := split d x hd
 have p0 := r.mul (x % d) q
 have p1 := r.mul (x % d + 1) q
 have e2 : x % d + d * q = x := by omega
 have e3 : x % d + 1 + d * q = x + 1 := by omega
 rw [e2] at p0
 rw [e3] at p1
 obtain ⟨w,hw,w1,w2⟩ := h.cov (x % d) e0 e1 (by omega)
 obtain ⟨m0,m1,m2,m3⟩ := h.mem w hw
 have c := (m3 (x % d) w1 w2).1
 obtain ⟨k,k1,k2,k3,k4,k5⟩ := next_spec (t := t) hd m0 m1 m2
 have u := k5 q x (by omega) (by omega) x1
 have v := lo w hw
 exact ⟨w,hw,by omega⟩
theorem Can.ck {d : Int} {f : Int → Int} {R : List T3} (hd : 0 < d) (r : Rise d f) (h : Can 0 d f R) : CK d R := by
 have at_ : ∀ w ∈ R,f w.1 = w.1 + w.2.2 ∧ f w.2.1 = w.2.1 + w.2.2 ∧ f w.2.1 < f (w.2.1 + 1) := fun w hw => by
  obtain ⟨m0,m1,m2,m3⟩ := h.mem w hw
  exact ⟨(m3 _ (Int.le_refl _) m1).1,m3 _ m1 (Int.le_refl _)⟩
 refine ⟨hd,fun w hw => ?_,?_,fun u hu v hv => ?_⟩
 ·obtain ⟨m0,m1,m2,m3⟩ := h.mem w hw
  have := at_ w hw
  have := r.ge w.1
  exact ⟨m0,m1,m2,by omega⟩
 ·refine List.Pairwise.imp_of_mem (fun {u v} hu hv p => ?_) h.srt
  refine ⟨p.1,?_,p.2⟩
  have a := at_ u hu
  have b := at_ v hv
  have := r.mono (u.2.1 + 1) v.1 (by omega)
  omega
 ·have a := at_ u hu
  have b := at_ v hv
  obtain ⟨m0,m1,m2,m3⟩ := h.mem u hu
  obtain ⟨n0,_⟩ := h.mem v hv
  have := r.mono (u.2.1 + 1) (v.1 + d) (by omega)
  have := r.per v.1
  omega
theorem CK.can {d : Int} {R : List T3} {f : Int → Int} (h : CK d R) (T : Tells d R f) : Can 0 d f R := by
 have K := h.clk
 have n0 : R.length ≠ 0 := fun e => T.ne (List.length_eq_zero_iff.mp e)
 have F : ∀ t,∃ x,First d R.length (rA R) (rB R) (rC R) t x (f t) := fun t => by
  obtain ⟨x,y,h1,h2⟩ := clk_first K n0 t
  rw [T t] at h2
  cases h2
  exact ⟨x,h1⟩
 refine ⟨h.srt.imp fun p => ⟨p.1,p.2.2⟩,fun w hw => ?_,fun x x0 x1 x2 => ?_⟩
 ·obtain ⟨w0,w1,w2,w3⟩ := h.win w hw
  refine ⟨w0,w1,w2,fun x a b => ?_⟩
  obtain ⟨i,hi,e1,e2,e3⟩ := mem_get hw
  have D : Dep d R.length (rA R) (rB R) (rC R) x (x + w.2.2) := ⟨i,0,hi,by omega,by omega,by omega⟩
  obtain ⟨x',F1⟩ := F x
  have l := F1.least _ _ D (Int.le_refl _)
  have l2 := F1.le
  have e : x' = x := by omega
  subst e
  have ey := dep_fun K F1.dep D
  obtain ⟨x2,F2⟩ := F (x' + 1)
  have := dep_mono K F1.dep F2.dep (by have := F2.le; omega)
  exact ⟨ey,this⟩
 ·obtain ⟨x',F1⟩ := F x
  rcases (by have := F1.le; omega : x' = x ∨ x + 1 ≤ x') with e | e
  ·subst e
   obtain ⟨i,k,hi,k1,k2,_⟩ := F1.dep
   have a0 := K.a0 i hi
   have bd := K.bd i hi
   have d0 := K.d0
   have : k = 0 := by
    rcases (by omega : k < 0 ∨ k = 0 ∨ 0 < k) with z | z | z
    ·have := mul_lt_step d0 z
     omega
    ·exact z
    ·have := mul_lt_step d0 z
     omega
   subst this
   exact ⟨_,get_mem hi,by simpa using k1,by simpa using k2⟩
  ·obtain ⟨x2',F2⟩ := F (x + 1)
   have F3 : First d R.length (rA R) (rB R) (rC R) (x + 1) x' (f x) := ⟨F1.dep,e,fun u v h1 h2 => F1.least u v h1 (by omega)⟩
   have := (F2.uniq K F3).2
   omega
theorem CK.uniq {d : Int} {R R' : List T3} (h : CK d R) (h' : CK d R') (e : ∀ t,bt d R t = bt d R' t) : R = R' := by
 by_cases n : R = []
 ·subst n
  by_cases n' : R' = []
  ·exact n'.symm
  ·have := e 0
   rw [bt_nil,tells_bf n' 0] at this
   cases this
 ·have T := tells_bf (d := d) n
  have T' : Tells d R' (bf d R) := fun t => by rw [← e t]; exact T t
  exact Can.uniq (h.can T) (h'.can T')
end Ma
namespace Ma
noncomputable def putW (R : List T3) (a b c : Int) : List T3 :=
 if b < a then R else match R.getLast? with
  | some l => if l.2.1 + 1 = a ∧ l.2.2 = c then R.dropLast ++ [(l.1,b,c)] else R ++ [(a,b,c)]
  | none => R ++ [(a,b,c)]
section
variable {lo P P' : Int} {f : Int → Int} {R : List T3} {a b c : Int}
theorem Can.app (h : Can lo P f R) (l0 : lo ≤ P) (pa : P ≤ a) (ab : a ≤ b) (bp : b < P') (dep : ∀ x,P ≤ x → x < P' → (f x < f (x + 1) ↔ a ≤ x ∧ x ≤ b)) (ride : ∀ x,a ≤ x → x ≤ b → f x = x + c)
  (un : ∀ u ∈ R,u.2.1 + 1 = a → u.2.2 ≠ c) : Can lo P' f (R ++ [(a,b,c)]) := by
 refine ⟨List.pairwise_append.mpr ⟨h.srt,List.pairwise_singleton _ _,fun u hu v hv => ?_⟩,fun w hw => ?_,fun x x0 x1 x2 => ?_⟩
 ·rw [List.mem_singleton] at hv
  subst hv
  have m := h.mem u hu
  exact ⟨by show u.2.1 < a; omega,un u hu⟩
 ·rcases List.mem_append.mp hw with hw | hw
  ·obtain ⟨m0,m1,m2,m3⟩ := h.mem w hw
   exact ⟨m0,m1,by omega,m3⟩
  ·rw [List.mem_singleton] at hw
   subst hw
   exact ⟨by show lo ≤ a; omega,ab,bp,fun x x1 x2 => by
    have x1' : a ≤ x := x1
    have x2' : x ≤ b := x2
    exact ⟨ride x x1 x2,(dep x (by omega) (by omega)).mpr ⟨x1,x2⟩⟩⟩
 ·rcases Int.lt_or_le x P with z | z
  ·obtain ⟨w,hw,w1⟩ := h.cov x x0 z x2
   exact ⟨w,List.mem_append_left _ hw,w1⟩
  ·exact ⟨(a,b,c),List.mem_append_right _ (List.mem_singleton.mpr rfl),(dep x z x1).mp x2⟩
theorem Can.step (h : Can lo P f R) (l0 : lo ≤ P) (pa : P ≤ a) (bp : b < P') (hp : P ≤ P') (dep : ∀ x,P ≤ x → x < P' → (f x < f (x + 1) ↔ a ≤ x ∧ x ≤ b)) (ride : ∀ x,a ≤ x → x ≤ b → f x = x + c) : Can lo P' f (putW R a b c) := by
 unfold putW
 split
 ·rename_i ba
  refine ⟨h.srt,fun w hw => ?_,fun x x0 x1 x2 => ?_⟩
  ·obtain ⟨m0,m1,m2,m3⟩ := h.mem w hw
   exact ⟨m0,m1,by omega,m3⟩
  ·rcases Int.lt_or_le x P with z | z
   ·exact h.cov x x0 z x2
   ·have := (dep x z x1).mp x2
    omega
 ·rename_i ab
  split
  ·rename_i l hl
   obtain ⟨R0,rfl⟩ : ∃ R0,R = R0 ++ [l] := by
    obtain ⟨R0,e⟩ := List.getLast?_eq_some_iff.mp hl
    exact ⟨R0,e⟩
   have s := List.pairwise_append.mp h.srt
   split
   ·rename_i tc
    rw [List.dropLast_concat]
    have ml := h.mem l (List.mem_append_right _ (List.mem_singleton.mpr rfl))
    refine ⟨List.pairwise_append.mpr ⟨s.1,List.pairwise_singleton _ _,fun u hu v hv => ?_⟩,fun w hw => ?_,fun x x0 x1 x2 => ?_⟩
    ·rw [List.mem_singleton] at hv
     subst hv
     have q := s.2.2 u hu l (List.mem_singleton.mpr rfl)
     rw [← tc.2]
     exact q
    ·rcases List.mem_append.mp hw with hw | hw
     ·obtain ⟨m0,m1,m2,m3⟩ := h.mem w (List.mem_append_left _ hw)
      exact ⟨m0,m1,by omega,m3⟩
     ·rw [List.mem_singleton] at hw
      subst hw
      obtain ⟨m0,m1,m2,m3⟩ := ml
      refine ⟨m0,by show l.1 ≤ b; omega,bp,fun x x1 x2 => ?_⟩
      have x1' : l.1 ≤ x := x1
      have x2' : x ≤ b := x2
      show f x = x + c ∧ f x < f (x + 1)
      rcases Int.lt_or_le l.2.1 x with z | z
      ·exact ⟨ride x (by omega) x2',(dep x (by omega) (by omega)).mpr ⟨by omega,x2'⟩⟩
      ·rw [← tc.2]
       exact m3 x x1' z
    ·rcases Int.lt_or_le x P with z | z
     ·obtain ⟨w,hw,w1,w2⟩ := h.cov x x0 z x2
      rcases List.mem_append.mp hw with hw | hw
      ·exact ⟨w,List.mem_append_left _ hw,w1,w2⟩
      ·rw [List.mem_singleton] at hw
       subst hw
       exact ⟨_,List.mem_append_right _ (List.mem_singleton.mpr rfl),w1,by show x ≤ b; omega⟩
     ·have q := (dep x z x1).mp x2
      exact ⟨_,List.mem_append_right _ (List.mem_singleton.mpr rfl),by show l.1 ≤ x; have := ml.2.1; omega,q.2⟩
   ·rename_i tc
    refine h.app l0 pa (by omega) bp dep ride fun u hu e => ?_
    rcases List.mem_append.mp hu with hu | hu
    ·have q := s.2.2 u hu l (List.mem_singleton.mpr rfl)
     have ml := h.mem l (List.mem_append_right _ (List.mem_singleton.mpr rfl))
     omega
    ·rw [List.mem_singleton] at hu
     subst hu
     exact fun e2 => tc ⟨e,e2⟩
  ·rename_i hl
   have e := List.getLast?_eq_none_iff.mp hl
   subst e
   exact h.app l0 pa (by omega) bp dep ride fun u hu => by cases hu
end
noncomputable def tell (r : T4) (x : Int) : Int := if r.2.2.1 = true then r.2.2.2 else x + r.2.2.2
noncomputable def cfStep (fo : Int) (r : T4) (R : List T3) : List T3 :=
 if r.2.2.1 = true then putW R r.2.1 (if r.2.2.2 < fo then r.2.1 else r.2.1 - 1) (r.2.2.2 - r.2.1)
 else putW R r.1 (if r.2.1 + r.2.2.2 < fo then r.2.1 else r.2.1 - 1) r.2.2.2
theorem Can.row {lo P : Int} {f : Int → Int} {R : List T3} (h : Can lo P f R) (l0 : lo ≤ P) (r : T4) (e : r.1 = P) (le : r.1 ≤ r.2.1) (tl : ∀ x,r.1 ≤ x → x ≤ r.2.1 → f x = tell r x) :
  Can lo (r.2.1 + 1) f (cfStep (f (r.2.1 + 1)) r R) := by
 obtain ⟨p,q,s,v⟩ := r
 have e' : p = P := e
 subst e'
 have le' : p ≤ q := le
 have tl' : ∀ x,p ≤ x → x ≤ q → f x = if s = true then v else x + v := tl
 unfold cfStep
 show Can lo (q + 1) f (if s = true then putW R q (if v < f (q + 1) then q else q - 1) (v - q) else putW R p (if q + v < f (q + 1) then q else q - 1) v)
 cases s with
 | true =>
  rw [if_pos rfl]
  have t0 : ∀ x,p ≤ x → x ≤ q → f x = v := fun x h1 h2 => by have := tl' x h1 h2; rw [if_pos rfl] at this; exact this
  refine h.step l0 le' (by split <;> omega) (by omega) (fun x x0 x1 => ?_) fun x x0 x1 => ?_
  ·rcases (by omega : x < q ∨ x = q) with z | z
   ·have := t0 x x0 (by omega)
    have := t0 (x + 1) (by omega) (by omega)
    constructor
    ·intro; omega
    ·rintro ⟨h1,h2⟩; omega
   ·subst z
    rw [t0 x x0 (Int.le_refl _)]
    constructor
    ·intro z
     rw [if_pos z]
     exact ⟨Int.le_refl _,Int.le_refl _⟩
    ·intro z9;obtain ⟨_,z⟩ := z9
     split at z
     ·assumption
     ·omega
  ·have x1' : x ≤ q := by split at x1 <;> omega
   have := t0 x (by omega) x1'
   omega
 | false =>
  rw [if_neg (by decide)]
  have t0 : ∀ x,p ≤ x → x ≤ q → f x = x + v := fun x h1 h2 => by have := tl' x h1 h2; rw [if_neg (by decide)] at this; exact this
  refine h.step l0 (Int.le_refl _) (by split <;> omega) (by omega) (fun x x0 x1 => ?_) fun x x0 x1 => ?_
  ·rcases (by omega : x < q ∨ x = q) with z | z
   ·have := t0 x x0 (by omega)
    have := t0 (x + 1) (by omega) (by omega)
    constructor
    ·intro
     refine ⟨x0,?_⟩
     split <;> omega
    ·intro; omega
   ·subst z
    rw [t0 x x0 (Int.le_refl _)]
    constructor
    ·intro z
     rw [if_pos z]
     exact ⟨x0,Int.le_refl _⟩
    ·intro z9;obtain ⟨_,z⟩ := z9
     split at z
     ·assumption
     ·omega
  ·exact t0 x x0 (by split at x1 <;> omega)
noncomputable def Cov (f : Int → Int) : Int → List T4 → Int → Prop
 | lo,[],hi => lo = hi
 | lo,r :: S,hi => r.1 = lo ∧ r.1 ≤ r.2.1 ∧ (∀ x,r.1 ≤ x → x ≤ r.2.1 → f x = tell r x) ∧ Cov f (r.2.1 + 1) S hi
theorem Cov.le {f : Int → Int} : ∀ {S : List T4} {lo hi : Int},Cov f lo S hi → lo ≤ hi
 | [],lo,hi,h => by have : lo = hi := h; omega
 | r :: S,lo,hi,⟨h1,h2,_,h4⟩ => by have := Cov.le h4; omega
theorem Cov.append {f : Int → Int} : ∀ {S S' : List T4} {lo mid hi : Int},Cov f lo S mid → Cov f mid S' hi → Cov f lo (S ++ S') hi
 | [],S',lo,mid,hi,h,h' => by
  have : lo = mid := h
  subst this
  exact h'
 | r :: S,S',lo,mid,hi,⟨h1,h2,h3,h4⟩,h' => ⟨h1,h2,h3,Cov.append h4 h'⟩
theorem Cov.one {f : Int → Int} {r : T4} (h : r.1 ≤ r.2.1) (t : ∀ x,r.1 ≤ x → x ≤ r.2.1 → f x = tell r x) : Cov f r.1 [r] (r.2.1 + 1) := ⟨rfl,h,t,rfl⟩
theorem Cov.get {f : Int → Int} : ∀ {S : List T4} {lo hi : Int} {k : Nat} {r : T4},Cov f lo S hi → S[k]? = some r → lo ≤ r.1 ∧ r.1 ≤ r.2.1 ∧ r.2.1 < hi ∧ (∀ x,r.1 ≤ x → x ≤ r.2.1 → f x = tell r x) ∧
  (k = 0 → r.1 = lo) ∧ (∀ r',S[k + 1]? = some r' → r'.1 = r.2.1 + 1) ∧ (k + 1 = S.length → r.2.1 + 1 = hi)
 | [],_,_,_,_,_,e => by simp at e
 | r0 :: S,lo,hi,0,r,⟨h1,h2,h3,h4⟩,e => by
  have e' : r0 = r := by simpa using e
  subst e'
  have l := Cov.le h4
  refine ⟨by omega,h2,by omega,h3,fun _ => h1,fun r' e' => ?_,fun e' => ?_⟩
  ·have e2 : S[0]? = some r' := by simpa using e'
   exact (Cov.get h4 e2).2.2.2.2.1 rfl
  ·have : S = [] := by
    simp at e'
    exact e'
   subst this
   exact h4
 | r0 :: S,lo,hi,k + 1,r,⟨h1,h2,h3,h4⟩,e => by
  have e2 : S[k]? = some r := by simpa using e
  obtain ⟨g1,g2,g3,g4,g5,g6,g7⟩ := Cov.get h4 e2
  refine ⟨by omega,g2,g3,g4,fun z => by omega,fun r' e' => g6 r' (by simpa using e'),fun e' => g7 (by simp at e'; omega)⟩
theorem Cov.find {f : Int → Int} : ∀ {S : List T4} {lo hi x : Int},Cov f lo S hi → lo ≤ x → x < hi → ∃ (k : Nat) (r : T4),S[k]? = some r ∧ r.1 ≤ x ∧ x ≤ r.2.1
 | [],lo,hi,x,h,h1,h2 => by have : lo = hi := h; omega
 | r :: S,lo,hi,x,⟨h1,h2,h3,h4⟩,x0,x1 => by
  rcases Int.lt_or_le r.2.1 x with z | z
  ·obtain ⟨k,r',e,e1⟩ := Cov.find h4 (by omega) x1
   exact ⟨k + 1,r',by simpa using e,e1⟩
  ·exact ⟨0,r,rfl,by omega,z⟩
theorem Cov.ext {f g : Int → Int} (e : ∀ x,f x = g x) : ∀ {S : List T4} {lo hi : Int},Cov f lo S hi → Cov g lo S hi
 | [],_,_,h => h
 | _ :: _,_,_,⟨h1,h2,h3,h4⟩ => ⟨h1,h2,fun x a b => by rw [← e x]; exact h3 x a b,Cov.ext e h4⟩
section
variable {d : Int} {R : List T3} {f : Int → Int}
end
end Ma
namespace Ma
noncomputable abbrev T6 := Int × Int × Bool × Int × Bool × Int
noncomputable def tl (s : Bool) (v x : Int) : Int := if s = true then v else x + v
noncomputable def Cov2 (f g : Int → Int) : Int → List T6 → Int → Prop
 | lo,[],hi => lo = hi
 | lo,r :: S,hi => r.1 = lo ∧ r.1 ≤ r.2.1 ∧ (∀ x,r.1 ≤ x → x ≤ r.2.1 → f x = tl r.2.2.1 r.2.2.2.1 x ∧ g x = tl r.2.2.2.2.1 r.2.2.2.2.2 x) ∧ Cov2 f g (r.2.1 + 1) S hi
theorem Cov2.le {f g : Int → Int} : ∀ {S : List T6} {lo hi : Int},Cov2 f g lo S hi → lo ≤ hi
 | [],lo,hi,h => by have : lo = hi := h; omega
 | r :: S,lo,hi,⟨h1,h2,_,h4⟩ => by have := Cov2.le h4; omega
theorem Cov2.snoc {f g : Int → Int} {r : T6} (h2 : r.1 ≤ r.2.1) (h3 : ∀ x,r.1 ≤ x → x ≤ r.2.1 → f x = tl r.2.2.1 r.2.2.2.1 x ∧ g x = tl r.2.2.2.2.1 r.2.2.2.2.2 x) : ∀ {S : List T6} {lo : Int},Cov2 f g lo S r.1 → Cov2 f g lo (S ++ [r]) (r.2.1 + 1)
 | [],lo,h => by
  have : lo = r.1 := h
  subst this
  exact ⟨rfl,h2,h3,rfl⟩
 | r0 :: S,lo,⟨a1,a2,a3,a4⟩ => ⟨a1,a2,a3,Cov2.snoc h2 h3 a4⟩
theorem Cov2.get {f g : Int → Int} : ∀ {S : List T6} {lo hi : Int} {k : Nat} {r : T6},Cov2 f g lo S hi → S[k]? = some r → lo ≤ r.1 ∧ r.1 ≤ r.2.1 ∧ r.2.1 < hi ∧ (∀ x,r.1 ≤ x → x ≤ r.2.1 → f x = tl r.2.2.1 r.2.2.2.1 x ∧ g x = tl r.2.2.2.2.1 r.2.2.2.2.2 x) ∧
  (k = 0 → r.1 = lo) ∧ (∀ r',S[k + 1]? = some r' → r'.1 = r.2.1 + 1) ∧ (k + 1 = S.length → r.2.1 + 1 = hi)
 | [],_,_,_,_,_,e => by simp at e
 | r0 :: S,lo,hi,0,r,⟨h1,h2,h3,h4⟩,e => by
  have e' : r0 = r := by simpa using e
  subst e'
  have l := Cov2.le h4
  refine ⟨by omega,h2,by omega,h3,fun _ => h1,fun r' e' => ?_,fun e' => ?_⟩
  ·have e2 : S[0]? = some r' := by simpa using e'
   exact (Cov2.get h4 e2).2.2.2.2.1 rfl
  ·have : S = [] := by
    simp at e'
    exact e'
   subst this
   exact h4
 | r0 :: S,lo,hi,k + 1,r,⟨h1,h2,h3,h4⟩,e => by
  have e2 : S[k]? = some r := by simpa using e
  obtain ⟨g1,g2,g3,g4,g5,g6,g7⟩ := Cov2.get h4 e2
  refine ⟨by omega,g2,g3,g4,fun z => by omega,fun r' e' => g6 r' (by simpa using e'),fun e' => g7 (by simp at e'; omega)⟩
noncomputable def jn (late : Bool) (x y : Int) : Int := if late = true then (if y > x then y else x) else (if y < x then y else x)
noncomputable def omin : Option Int → Option Int → Option Int
 | none,b => b
 | a,none => a
 | some x,some y => some (jn false x y)
noncomputable def omax : Option Int → Option Int → Option Int
 | some x,some y => some (jn true x y)
 | _,_ => none
theorem Tells.min {d : Int} {R R' : List T3} {f g : Int → Int} (h : Tells d R f) (h' : Tells d R' g) (t : Int) : omin (bt d R t) (bt d R' t) = some (jn false (f t) (g t)) := by rw [h t,h' t]; rfl
theorem Tells.max {d : Int} {R R' : List T3} {f g : Int → Int} (h : Tells d R f) (h' : Tells d R' g) (t : Int) : omax (bt d R t) (bt d R' t) = some (jn true (f t) (g t)) := by rw [h t,h' t]; rfl
end Ma
namespace Ma
section
variable {d : Int} {R R' : List T3}
end
end Ma
namespace Ma
theorem Cov.lt {f : Int → Int} : ∀ {S : List T4} {lo hi : Int} {i j : Nat} {r r' : T4},Cov f lo S hi → S[i]? = some r → S[j]? = some r' → i < j → r.2.1 < r'.1
 | [],_,_,_,_,_,_,_,e,_,_ => by simp at e
 | r0 :: S,lo,hi,0,j + 1,r,r',⟨_,h2,h3,h4⟩,e,e',_ => by
  have e1 : r0 = r := by simpa using e
  subst e1
  have e2 : S[j]? = some r' := by simpa using e'
  have := (Cov.get h4 e2).1
  omega
 | r0 :: S,lo,hi,i + 1,j + 1,r,r',⟨_,h2,h3,h4⟩,e,e',l => Cov.lt h4 (by simpa using e) (by simpa using e') (by omega)
 | r0 :: S,lo,hi,i,0,r,r',_,_,_,l => by omega
theorem Cov.congr {f g : Int → Int} : ∀ {S : List T4} {lo hi : Int},(∀ x,lo ≤ x → x < hi → f x = g x) → Cov f lo S hi → Cov g lo S hi
 | [],_,_,_,h => h
 | r :: S,lo,hi,e,⟨h1,h2,h3,h4⟩ => ⟨h1,h2,fun x a b => by
  have := Cov.le h4
  rw [← e x (by omega) (by omega)]; exact h3 x a b,Cov.congr (fun x a b => e x (by omega) b) h4⟩
end Ma
namespace Ma
noncomputable def tot (g : Int → Int) (lo : Int) : Nat → Int
 | 0 => 0
 | n + 1 => tot g lo n + g (lo + n)
end Ma
namespace Ma
section
variable {d a b c : Int}
end
structure IsLv (d : Int) (R : List T3) (s y : Int) : Prop where
 at_ : ∃ w ∈ R,y = lastO d w.1 w.2.1 (s - w.2.2)
 le : ∀ w ∈ R,lastO d w.1 w.2.1 (s - w.2.2) ≤ y
section
variable {d : Int} {R : List T3} {f : Int → Int}
noncomputable def Gal (f g : Int → Int) : Prop := ∀ x s,f x ≤ s ↔ x ≤ g s
theorem Gal.turn {f g : Int → Int} (h : Gal f g) : Gal (fun t => -(g (-t))) fun s => -(f (-s)) := fun x s => by
 have := h (-s) (-x)
 constructor
 ·intro l
  have := this.mpr (by have l' : -(g (-x)) ≤ s := l; omega)
  show x ≤ -(f (-s))
  omega
 ·intro l
  have := this.mp (by have l' : x ≤ -(f (-s)) := l; omega)
  show -(g (-x)) ≤ s
  omega
theorem Gal.uniq {f g g' : Int → Int} (h : Gal f g) (h' : Gal f g') (s : Int) : g s = g' s := by
 have a := (h (g s) s).mpr (Int.le_refl _)
 have b := (h' (g s) s).mp a
 have a' := (h' (g' s) s).mpr (Int.le_refl _)
 have b' := (h (g' s) s).mp a'
 omega
end
end Ma
namespace Ma
section
variable {f g : Int → Int}
end
end Ma
namespace Ma
theorem IsLv.uniq {d s y y' : Int} {R : List T3} (h : IsLv d R s y) (h' : IsLv d R s y') : y = y' := by
 obtain ⟨w,hw,e⟩ := h.at_
 obtain ⟨w',hw',e'⟩ := h'.at_
 have := h.le w' hw'
 have := h'.le w hw
 omega
end Ma
namespace L2
open PySem PySem.Spec PyProof.Rows
section
variable {X : Cx}
end
section
variable {X : Cx} {e o a : Expr} {es : List Expr} {to te : TE} {t : TA} {apos pos : Pos}
theorem qop_cat : QOp X (binaryOp .Add) rCat := ⟨op_cat⟩
end
section
variable {lo : Int} {n : Nat} {caps : List (Option Nat)} {g : TG} {tt : TT} {te : TE} {σ : St} {H : Hp} {Q : VK}
end
noncomputable def It3 (lo st : Int) (n : Nat) : It := ⟨fun i _ => i < n,fun i H x H' => H' = H ∧ x = .int (lo + (i : Nat) * st),fun i _ => n ≤ i⟩
theorem turn_range3 {P : Program} {w : World} {K : PySem.W.Frag} {tg : Expr} (it : Addr) (lo stp : Int) (n : Nat) : Turn P w K tg (It3 lo stp n) [it] it (fun i h => IsRangeIter h it (lo + (i : Nat) * stp) ((n : Int) - (i : Nat)) stp) where
 mem := by simp
 obj := fun i h st b hb => by
  have e : b = it := by simpa using hb
  subst e
  exact ⟨_,st,fun v z => by
   have z' : Data.fields _ = Data.cell v := z
   cases z'⟩
 keep := fun i h h' st k => k it (by simp) _ st
 item := by
  intro X hP hw hK hc i pins s σ H E I hf st hg
  subst hP hw hK
  obtain ⟨f0,f1,f2,f3,f4,f5⟩ := hf it (by simp)
  have hg' : i < n := hg
  refine wpAny_pyNext_range_item st (by omega) fun h' st' sb => ?_
  have I1 : Inv X pins σ H { s with heap := h',toks := s.toks + 1 } := I.turned (fun b o hb e => sb.extBut b o hb e) f0 f1 f3 f4 f5
  refine ⟨_,rfl,go_of (s := { s with heap := h',toks := s.toks + 1 }) (n := "range_iterator") st' rfl rfl (by decide) ⟨.int _,H,I1,⟨_,rfl⟩,⟨rfl,rfl⟩,?_,fun b hb => (hf b hb).1⟩⟩
  show IsRangeIter h' it (lo + ((i + 1 : Nat) : Int) * stp) ((n : Int) - ((i + 1 : Nat) : Int)) stp
  have e1 : lo + ((i + 1 : Nat) : Int) * stp = lo + (i : Int) * stp + stp := by
   rw [Int.natCast_add,Int.add_mul]
   simp
   omega
  have e2 : (n : Int) - ((i + 1 : Nat) : Int) = (n : Int) - (i : Int) - 1 := by omega
  rw [e1,e2]
  exact st'
 done := by
  intro X hP hw hK hc i pins s σ H E I hf st hg
  subst hP hw hK
  obtain ⟨f0,f1,f2,f3,f4,f5⟩ := hf it (by simp)
  exact wpAny_pyNext_range_end (I.ok.hd hc) st (by have : n ≤ i := hg; omega) fun h' eb => ⟨rfl,I.turned (t' := s.toks) (fun b o hb e => eb b o hb e) f0 f1 f3 f4 f5⟩
 self := fun _ _ _ _ _ st h => wpAny_pyIter_rangeiter st h
noncomputable def cnt3 (a b c : Int) : Nat := if a < b then ((b - a - 1) / c + 1).toNat else 0
theorem size3 {a b c : Int} (hc : 0 < c) : Builtin.Range.rangeSize a b c = ((cnt3 a b c : Nat) : Int) := by
 unfold Builtin.Range.rangeSize cnt3
 rw [if_pos (by omega)]
 split
 ·have : 0 ≤ (b - a - 1) / c := Int.ediv_nonneg (by omega) (by omega)
  omega
 ·rfl
theorem cnt3_lt {a b c : Int} (hc : 0 < c) {i : Nat} (h : i < cnt3 a b c) : a + (i : Int) * c < b := by
 unfold cnt3 at h
 split at h
 ·have h1 : (i : Int) ≤ (b - a - 1) / c := by omega
  have h2 := Int.mul_le_mul_of_nonneg_right h1 (Int.le_of_lt hc)
  have h3 := Int.ediv_mul_le (b - a - 1) (b := c) (by omega)
  omega
 ·omega
theorem small3 {a b c : Int} (ha : -(2 ^ 60) ≤ a) (ha' : a < 2 ^ 60) (hb : -(2 ^ 60) ≤ b) (hb' : b < 2 ^ 60) (hc : 0 < c) (hc' : c < 1000) : Builtin.Range.small a b c = true := by
 have hn : 0 ≤ Builtin.Range.rangeSize a b c ∧ Builtin.Range.rangeSize a b c < 2 ^ 62 := by
  unfold Builtin.Range.rangeSize
  rw [if_pos (by omega)]
  split
  ·have h1 : 0 ≤ (b - a - 1) / c := Int.ediv_nonneg (by omega) (by omega)
   have h2 : (b - a - 1) / c ≤ b - a - 1 := Int.ediv_le_self _ (by omega)
   omega
  ·omega
 unfold Builtin.Range.small Builtin.Range.rangeFitsLong
 generalize Builtin.Range.rangeSize a b c = k at *
 simp only [Bool.and_eq_true,Bool.or_eq_true,decide_eq_true_eq,beq_iff_eq]
 refine ⟨⟨⟨⟨?_,?_⟩,?_⟩,?_⟩,.inr ?_⟩
 ·omega
 ·omega
 ·omega
 ·omega
 ·rw [if_pos (by omega)]
  simp only [Bool.and_eq_true,decide_eq_true_eq]
  omega
noncomputable def iRng3 (ta : TA) : TI := fun σ H R => ta σ H fun vs H1 => ∃ i j c : Int,vs = [.int i,.int j,.int c] ∧ (-(2 ^ 60) ≤ i ∧ i < 2 ^ 60 ∧ -(2 ^ 60) ≤ j ∧ j < 2 ^ 60 ∧ 0 < c ∧ c < 1000) ∧ R (It3 i c (cnt3 i j c)) H1
section
variable {X : Cx} {tg : Expr}
theorem pi_range3 {a b c : Expr} {ta : TA} {p pos : Pos} (hg : Gl X "range") (hm : X.mg "range" = none) (ha : PA X [a,b,c] ta) (hs : starEach [a,b,c] X.env = (false,eval a X.env) :: starEach [b,c] X.env) (hs2 : (backTo pos (starEach [b,c] X.env)).any (·.1) = false) :
  PI X tg (.Call (.Name "range" p) [a,b,c] [] pos) (iRng3 ta) := by
 intro pins s σ H R I h
 refine Call_ (ld_blt I hg hm boot_range (PyProof.Rows.callWith_type1 (thn (ha pos pins s σ H _ I h) fun us s1 ⟨vs,H1,I1,r1,q1⟩ => ?_) hs hs2))
 obtain ⟨i,j,k,e,⟨q1,q2,q3,q4,q5,q6⟩,q⟩ := q1
 subst e
 cases r1 with
 | cons r rr =>
  cases rr with
  | cons r' rr =>
   cases rr with
   | cons r'' rr =>
    cases rr
    obtain ⟨t,rfl⟩ := r
    obtain ⟨t',rfl⟩ := r'
    obtain ⟨t'',rfl⟩ := r''
    refine call_range_3 (by omega) ?_ (.inl (PyProof.noPylong_small (by omega)))
    refine wpAny_pyIter_range (IsRange.new ..) (small3 q1 q2 q3 q4 q5 q6) ?_
    have I2 : Inv X pins σ H1 { s1 with heap := s1.heap.push { cls := .type "range",data := .fields #[.int i t,.int j t',.int k t''] } } := I1.kept (t' := s1.toks) fun b o e => Heap.get?_push_of_some _ e
    refine ⟨(s1.heap.push { cls := .type "range",data := .fields #[.int i t,.int j t',.int k t''] }).objs.size,[(s1.heap.push { cls := .type "range",data := .fields #[.int i t,.int j t',.int k t''] }).objs.size],_,_,H1,rfl,
     I2.kept (t' := s1.toks) fun b o e => Heap.get?_push_of_some _ e,turn_range3 _ i k (cnt3 i j k),?_,fun b hb => ?_,q⟩
    ·show IsRangeIter _ _ (i + ((0 : Nat) : Int) * k) (((cnt3 i j k : Nat) : Int) - ((0 : Nat) : Int)) k
     have e1 : i + ((0 : Nat) : Int) * k = i := by simp
     have e2 : ((cnt3 i j k : Nat) : Int) - ((0 : Nat) : Int) = Builtin.Range.rangeSize i j k := by rw [size3 q5]; simp
     rw [e1,e2]
     exact Heap.get?_push_size _ rfl
    ·have e : b = (s1.heap.push { cls := .type "range",data := .fields #[.int i t,.int j t',.int k t''] }).objs.size := by simpa using hb
     subst e
     exact I2.fpOk (Nat.le_refl _) (I2.hok.fresh (Nat.le_refl _))
theorem qi_range3 {a b c : Expr} {ta : TA} {p pos : Pos} (hg : Gl X "range") (hm : X.mg "range" = none) (ha : QA X [a,b,c] ta) (h : notStar a = true := by rfl) (h2 : [b,c].all notStar = true := by rfl) : QI X tg (.Call (.Name "range" p) [a,b,c] [] pos) (iRng3 ta) :=
 ⟨pi_range3 hg hm ha.run (se_of h) (any_of h2)⟩
end
theorem for_range3 {lo st : Int} {n : Nat} {g : TG} {tb : TS} {D : Ends} {σ : St} {H : Hp} (Pv : Nat → St → Hp → Prop) (h0 : Pv 0 σ H)
  (hs : ∀ i σ H,i < n → Pv i σ H → g (.int (lo + (i : Nat) * st)) σ H fun σ2 H2 => tb { D with nx := Pv (i + 1),ct := Pv (i + 1),bk := D.nx } σ2 H2) (hd : ∀ σ H,Pv n σ H → D.nx σ H) :
  ∃ W : Nat → Nat → St → Hp → Prop,(∃ m,W 0 m σ H) ∧ ∀ i m σ H,W i m σ H →
   ((It3 lo st n).stop i H ∧ D.nx σ H) ∨ ((It3 lo st n).go i H ∧ ∃ N : St → Hp → Prop,(∀ σ' H',N σ' H' → ∃ m',m' < m ∧ W (i + 1) m' σ' H') ∧ ∀ x H',(It3 lo st n).yld i H x H' → g x σ H' fun σ2 H2 => tb { D with nx := N,ct := N,bk := D.nx } σ2 H2) := by
 refine ⟨fun i m σ H => m = n - i ∧ i ≤ n ∧ Pv i σ H,⟨n,by simp,Nat.zero_le _,h0⟩,?_⟩
 intro i m σ H z9;obtain ⟨rfl,hi,p⟩ := z9
 by_cases hlt : i < n
 ·refine .inr ⟨hlt,Pv (i + 1),fun σ' H' p' => ⟨n - (i + 1),by omega,rfl,hlt,p'⟩,fun x H' y => ?_⟩
  obtain ⟨e,y⟩ := y
  subst e y
  exact hs i σ _ hlt p
 ·have e : i = n := by omega
  subst e
  exact .inl ⟨Nat.le_refl _,hd σ H p⟩
end L2
namespace L2
open PySem PySem.Spec PyProof.Rows
section
variable {X : Cx} {N' : List Str} {scope : Scope} {cl : List (Str × Addr)} {caps : List (Option Nat)} {tg iter elt : Expr} {wi : TI} {g : TG} {te : TE} {tt : TT} {pos : Pos}
theorem comp_gen {use : Option (Value → Sem Unit)} {QQ : Value → Shared → Prop} {pins : List (Addr × Obj)} {s : Shared} {σ : St} {H : Hp} {Q : VK} {cpos : Pos} (B : BlkOk X N' scope cl caps) (hc : X.calm = true) (hi : PI X tg iter wi) (hg : ∀ C s0 H0 fp,PG (blk X N' scope cl C s0 H0 fp) tg g) (he : ∀ C s0 H0 fp,PE (blk X N' scope cl C s0 H0 fp) elt te)
  (hs : ∀ x,foldedSetIterable iter X.env x = pure x := by intro _; rfl) (I : Inv X pins σ H s) (h : (tComp wi caps g tTrue te) σ H Q)
  (fin : ∀ (D C : Addr) (s6 : Shared) (H5 : Hp),Inv X pins σ H5 s6 → FpOk X pins H5 C → (∃ m,s6.heap.Ns C m) → Q (.ref D) H5 → compPost (model X.prog X.w) X.A X.xe use QQ (.ref D) C (.ok .next) s6) :
  wpAny (model X.prog X.w) X.A (comprehension (.ListComp elt [⟨tg,iter,[],0⟩] scope pos) scope X.env cpos (newList []) false (eval iter X.env) use) QQ X.xe s := by
 refine wpAny_comprehension_free (use := use) rfl hs B.clos B.kind B.names ?_
 refine thn (hi pins s σ H _ I h) fun v s1 h1 => thn h1 fun itv s2 h2 => ?_
 obtain ⟨it,fp,tn,J,H2,rfl,I2,T,st2,f2,q2⟩ := h2
 have fpl : ∀ b ∈ fp,b < s2.heap.objs.size := fun b hb => by
  obtain ⟨o,e,_⟩ := T.obj _ _ st2 b hb
  exact Heap.lt_size e
 obtain ⟨W,⟨m0,w0⟩,turn⟩ := q2 s2.heap.objs.size (I2.hok.fresh (Nat.le_refl _))
 refine wpAny_newObj_type ?_
 have I3 : Inv X pins σ (upd H2 s2.heap.objs.size (.lst [])) { s2 with heap := s2.heap.push { cls := .type "list",data := .seq ([] : List Value).toArray } } :=
  I2.laid (t' := s2.toks) (fun b u e => Heap.get?_push_of_some _ e) (Nat.le_refl _) ⟨Nat.zero_le _,[],0,.nil,Heap.get?_push_size _ rfl⟩
 generalize hs3 : ({ s2 with heap := s2.heap.push { cls := .type "list",data := .seq ([] : List Value).toArray } } : Shared) = s3 at I3
 have k23 : ∀ b o,s2.heap.get? b = some o → s3.heap.get? b = some o := fun b o e => by rw [← hs3]; exact Heap.get?_push_of_some _ e
 have fpl3 : ∀ b ∈ fp,b < s3.heap.objs.size := fun b hb => by
  obtain ⟨o,e,_⟩ := T.obj _ _ st2 b hb
  exact Heap.lt_size (k23 b o e)
 have f3 : ∀ b ∈ fp,FpOk X pins (upd H2 s2.heap.objs.size (.lst [])) b := fun b hb => ⟨by rw [upd_ne (Nat.ne_of_lt (fpl b hb))]; exact (f2 b hb).1,(f2 b hb).2⟩
 refine wpAny_newFunctionEnv B.nocell (by intro y hy; simp at hy) (fun h1 hn1 sb1 => ?_) B.kind
 have k31 : ∀ b o,s3.heap.get? b = some o → h1.get? b = some o := fun b o e => sb1.extBut b o (Nat.ne_of_lt (Heap.lt_size e)) (Heap.get?_push_of_some _ e)
 have J0 := blk_inv (fp := fp) (tk := s3.toks + ([] : List (Str × Value)).length) B I3 f3 hn1 k31 fpl3
 have st1 : tn 0 h1 := T.keep _ _ _ st2 fun b _ o e => k31 b o (k23 b o e)
 have loop : codeAny (model X.prog X.w) X.A (.compLoop (.ListComp elt [⟨tg,iter,[],0⟩] scope pos) 0 (.ref it) (.ref s2.heap.objs.size) (blk X N' scope cl s3.heap.objs.size s3 (upd H2 s2.heap.objs.size (.lst [])) fp).env)
   (compPost (model X.prog X.w) X.A X.xe use QQ (.ref s2.heap.objs.size) s3.heap.objs.size) { s3 with heap := h1,toks := s3.toks + ([] : List (Str × Value)).length } := by
  refine codeAny_loop rfl (fun n s' => ∃ i H',Inv (blk X N' scope cl s3.heap.objs.size s3 (upd H2 s2.heap.objs.size (.lst [])) fp) [] (seen caps σ) H' s' ∧ tn i s'.heap ∧ (∀ b ∈ fp,H' b = none) ∧ W i n H') (fun n s5 hI => ?_) m0
   ⟨0,_,J0,st1,fun b hb => (f3 b hb).1,w0⟩
  obtain ⟨i,H5,I5,st5,fr5,w5⟩ := hI
  show wpAny _ _ ((compTurn (.ListComp elt [⟨tg,iter,[],0⟩] scope pos) 0 (.ref it) (.ref s2.heap.objs.size) (blk X N' scope cl s3.heap.objs.size s3 (upd H2 s2.heap.objs.size (.lst [])) fp).env).onRaise (fun x => do noteFrame x (blk X N' scope cl s3.heap.objs.size s3 (upd H2 s2.heap.objs.size (.lst [])) fp).env; theTreesLotGoes x)) _ _ s5
  refine wpAny_noted ?_
  rw [compTurn_list1]
  have ff : ∀ {H' : Hp},(∀ b ∈ fp,H' b = none) → ∀ b ∈ fp,FpOk (blk X N' scope cl s3.heap.objs.size s3 (upd H2 s2.heap.objs.size (.lst [])) fp) [] H' b := fun {H'} hn b hb =>
   ⟨hn b hb,(J0.ok.exf b hb).1,J0.ok.exfs b hb,.inl hb,fun x c e => (J0.ok.exf b hb).2 x c e,fun p hp => absurd (show p ∈ ([] : List (Addr × Obj)) from hp) (by simp)⟩
  rcases turn i n H5 w5 with ⟨stop,qn⟩ | ⟨go,N,hN,step⟩
  ·refine wpAny_bind (wpAny_standAt (wpAny_bind (thn (T.done (blk X N' scope cl s3.heap.objs.size s3 (upd H2 s2.heap.objs.size (.lst [])) fp) rfl rfl rfl hc i [] s5 _ H5 _ I5 (ff fr5) st5 stop) fun r s6 ⟨hr,I6⟩ => ?_)))
   subst hr
   refine wpAny_pure ?_
   obtain ⟨m,hn,_⟩ := id I6.loc
   exact fin _ _ _ _ (blk_end I3 f3 fpl3 I6 (Heap.SameBut.refl _ _)) (I3.fpOk (Nat.le_refl _) I6.free) ⟨m,hn⟩ qn
  ·refine wpAny_bind (wpAny_standAt (wpAny_bind (thn (T.item (blk X N' scope cl s3.heap.objs.size s3 (upd H2 s2.heap.objs.size (.lst [])) fp) rfl rfl rfl hc i [] s5 _ H5 _ I5 (ff fr5) st5 go) fun r s6 ⟨u,hr,h6⟩ => ?_)))
   subst hr
   refine wpAny_bind (thn h6 fun _ s7 ⟨x,H7,I7,r7,y7,st7,fr7⟩ => ?_)
   have I7' := I7.pinned (ff fr7) (T.obj _ _ st7)
   refine wpAny_bind (wpAny_mono (hg _ _ _ _ _ s7 _ H7 x u _ I7' r7 (step x H7 y7)) (fun _ s8 ⟨σ8,H8,I8,kp,q8⟩ => ?_) fun _ _ f => f.elim)
   have q8' : te σ8 H8 fun y H6 => ∃ ys,H6 s2.heap.objs.size = some (.lst ys) ∧ ys.length < sizeLine ∧ N (upd H6 s2.heap.objs.size (.lst (ys ++ [y]))) := by
    have z := q8
    unfold tTrue at z
    dsimp only at z
    rw [if_pos rfl] at z
    exact z
   refine wpAny_bind (wpAny_bind (wpAny_mono (he _ _ _ _ _ s8 σ8 H8 _ I8 q8') (fun y s9 ⟨y',H9,I9,r9,ys,hD,hl,n9⟩ => ?_) fun _ _ f => f.elim))
   refine wpAny_bind (wpAny_mono (mt_append (X := blk X N' scope cl s3.heap.objs.size s3 (upd H2 s2.heap.objs.size (.lst [])) fp) _ s9 σ8 H9 (.ref s2.heap.objs.size) [y'] (.ref s2.heap.objs.size) [y] (fun _ H' => N H') I9 rfl (.cons r9 .nil) ⟨_,ys,y',rfl,rfl,hD,hl,n9⟩) (fun _ s10 ⟨_,H10,I10,_,n10⟩ => ?_) fun _ _ f => f.elim)
   exact wpAny_pure (wpAny_pure ⟨rfl,comp_again T hN st7 I10 kp (I5.len.trans I10.len.symm) n10⟩)
 exact codeAny_compStart_list loop (T.self X.A 0 _ _ _ st1 loop)
theorem ps_setComp {i : Nat} {x : Str} {pos' cpos : Pos} {c : Expr} (hN : X.N.Nodup) (hix : X.N[i]? = some x) (hx : Loc X.env.scope x) (B : BlkOk X N' scope cl caps) (hc : X.calm = true) (hi : PI X tg iter wi) (hg : ∀ C s0 H0 fp,PG (blk X N' scope cl C s0 H0 fp) tg g) (he : ∀ C s0 H0 fp,PE (blk X N' scope cl C s0 H0 fp) elt te)
  (hs : ∀ x,foldedSetIterable iter X.env x = pure x := by intro _; rfl) (hsw : swapsWith (.ListComp elt [⟨tg,iter,[],0⟩] scope cpos) (some (.Name x pos')) pos.line X.env = pure true := by rfl) (hf : X.fn x = true ∨ X.env.scope.names.lookup x = some .local := by first | exact .inl rfl | exact .inr rfl | assumption) :
  PS X (.Assign [.Name x pos'] (.ListComp elt [⟨tg,iter,[],0⟩] scope cpos) pos) (tAsg (tComp wi caps g tTrue te) (gName i)) := by
 intro pins s σ H D I h
 rw [exec_Assign_Name_used _ _ _ _ hsw]
 refine wpAny_bind (wpAny_standAt (wpAny_bind ?_))
 refine wpAny_bind (thn (comp_gen (use := some (assign (.Name x pos') X.env)) (QQ := fun _ s' => SP X pins D .next s') B hc hi hg he hs I h ?_) fun _ s' q => wpAny_pure (wpAny_pure q))
 intro Da C s6 H5 I6 fC z9 q;obtain ⟨m,hn⟩ := z9
 show wpAny _ _ (assign (.Name x pos') X.env (.ref Da)) _ _ s6
 obtain ⟨o,es,ep,eo,ed,k1,k2⟩ := hn
 have I6' := I6.pinned (fp := [C]) (fun b hb => by rw [List.mem_singleton.mp hb]; exact fC) (fun b hb => ⟨o,by rw [List.mem_singleton.mp hb]; exact eo,fun v z => by rw [ed] at z; cases z⟩)
 refine thn (pg_name (pos := pos') hN hix hx hf _ s6 σ H5 (.ref Da) (.ref Da) D.nx I6' rfl q) fun _ s7 ⟨σ7,H7,I7,q7⟩ => ?_
 have e7 := I7.pin (C,o) (List.mem_append_right _ (List.mem_append_right _ (mem_pinsAt (by simp) eo)))
 exact ⟨m,⟨o,es,ep,e7.1,ed,k1,k2⟩,fun h' sb => ⟨σ7,H7,Inv.turned (t' := s7.toks) (it := C) I7.unpinned (fun b o hb e => sb.extBut b o hb e) e7.2.1 fC.2.1 fC.2.2.2.1 fC.2.2.2.2.1 fC.2.2.2.2.2,q7⟩⟩
theorem qs_setComp {i : Nat} {x : Str} {pos' cpos : Pos} (N' : List Str) (caps : List (Option Nat)) (hN : X.N.Nodup) (hix : X.N[i]? = some x) (hx : Loc X.env.scope x) (B : BlkOk X N' scope cl caps) (hc : X.calm = true) (hi : QI X tg iter wi) (hg : ∀ C s0 H0 fp,QG (blk X N' scope cl C s0 H0 fp) tg g) (he : ∀ C s0 H0 fp,QE (blk X N' scope cl C s0 H0 fp) elt te)
  (hs : ∀ x,foldedSetIterable iter X.env x = pure x := by intro _; rfl) (hsw : swapsWith (.ListComp elt [⟨tg,iter,[],0⟩] scope cpos) (some (.Name x pos')) pos.line X.env = pure true := by rfl) (hf : X.fn x = true ∨ X.env.scope.names.lookup x = some .local := by first | exact .inl rfl | exact .inr rfl | assumption) :
  QS X (.Assign [.Name x pos'] (.ListComp elt [⟨tg,iter,[],0⟩] scope cpos) pos) (tAsg (tComp wi caps g tTrue te) (gName i)) :=
 ⟨ps_setComp (c := elt) hN hix hx B hc hi.run (fun C s0 H0 fp => (hg C s0 H0 fp).run) (fun C s0 H0 fp => (he C s0 H0 fp).run) hs hsw hf⟩
end
end L2
namespace L2
open PySem PySem.Spec PyProof.Rows
section
variable {X : Cx}
end
end L2
namespace My
open PySem L2
theorem same_new {H : Hp} {p : Addr} (h : H p = none) (o : HO) : Same H (upd H p o) := fun b u q => by rw [upd_ne (ne_of_none q h)]; exact q
theorem fresh_of {H H' : Hp} {p : Addr} {o : HO} (hp : H p = none) (hg : upd H p o = H') : Same H H' ∧ H' p = some o := by
 subst hg
 exact ⟨same_new hp o,upd_same⟩
theorem at_int {ns : List Int} {k : Int} (h0 : 0 ≤ k) (h : k < (ns.length : Int)) : ∃ v : Int,atI (ns.map V.int) k = some (.int v) := by
 have hk : k.toNat < ns.length := by omega
 have ek : k = ((k.toNat : Nat) : Int) := by omega
 have q : atI (ns.map V.int) ((k.toNat : Nat) : Int) = some (.int ns[k.toNat]) := atI_nat (by rw [List.getElem?_map,List.getElem?_eq_getElem hk] <;> rfl)
 rw [← ek] at q
 exact ⟨_,q⟩
theorem iteP {c A B : Prop} [Decidable c] (h : c) (x : A) : if c then A else B := by
 rw [if_pos h]
 exact x
theorem iteN {c A B : Prop} [Decidable c] (h : ¬ c) (x : B) : if c then A else B := by
 rw [if_neg h]
 exact x
theorem pow15 : ((10 : Int) ^ (15 : Int).toNat) = 1000000000000000 := by decide +kernel
noncomputable def spCell (K : PySem.W.Frag) : Sp := fun vs H Q _ => ∃ (a : Addr) (ns : List Int) (k : Int),vs = [.ref a,.int k] ∧ SqL K H a (ns.map V.int) ∧ 0 ≤ k ∧ ∀ c : Int,Q (.int c) H
noncomputable def spDay : Sp := fun vs H Q _ => ∃ c : Int,vs = [.int c] ∧ ∀ (d : Int) (H' : Hp),1 ≤ d → d ≤ 1000000000000000 → Same H H' → Q (.int d) H'
open Ma (T3 rA rB rC)
noncomputable def tup3 (R : List T3) (i : Nat) : HO := .tup [.int (rA R i),.int (rB R i),.int (rC R i)]
structure RowsAt (H : Hp) (p : Addr) (R : List T3) : Prop where
 ex : ∃ rs : List Addr,H p = some (.lst (rs.map V.ref)) ∧ rs.length = R.length ∧ ∀ (i : Nat) r,rs[i]? = some r → H r = some (tup3 R i)
theorem RowsAt.mono {H H' : Hp} {p : Addr} {R : List T3} (h : RowsAt H p R) (s : ∀ b o,H b = some o → (∀ z,o ≠ .tbl z) → H' b = some o) : RowsAt H' p R := by
 obtain ⟨rs,h1,h2,h3⟩ := h.ex
 exact ⟨rs,s _ _ h1 (fun _ z => nomatch z),h2,fun i r e => s _ _ (h3 i r e) (fun _ z => nomatch z)⟩
theorem RowsAt.same {H H' : Hp} {p : Addr} {R : List T3} (h : RowsAt H p R) (s : Same H H') : RowsAt H' p R := h.mono fun b o e _ => s b o e
theorem RowsAt.at {K : PySem.W.Frag} {H : Hp} {p : Addr} {R : List T3} (h : RowsAt H p R) : ∃ xs : List V,SqL K H p xs ∧ xs.length = R.length ∧ ∀ k : Int,0 ≤ k → k < (R.length : Int) → ∃ r,atI xs k = some (.ref r) ∧ H r = some (tup3 R k.toNat) := by
 obtain ⟨rs,h1,h2,h3⟩ := h.ex
 refine ⟨rs.map V.ref,SqL.of h1,by rw [List.length_map,h2],fun k k0 k1 => ?_⟩
 have hk : k.toNat < rs.length := by omega
 have ek : k = ((k.toNat : Nat) : Int) := by omega
 have q : atI (rs.map V.ref) ((k.toNat : Nat) : Int) = some (.ref rs[k.toNat]) := atI_nat (by rw [List.getElem?_map]; simp [hk])
 rw [← ek] at q
 exact ⟨rs[k.toNat],q,h3 _ _ (List.getElem?_eq_getElem hk)⟩
theorem map_ref {rs : List Addr} {i : Nat} {y : V} (h : (rs.map V.ref)[i]? = some y) : ∃ r,y = V.ref r ∧ rs[i]? = some r := by
 rw [List.getElem?_map] at h
 cases e : rs[i]? with
 | none => rw [e] at h; cases h
 | some z => rw [e] at h; exact ⟨z,(Option.some.inj h).symm,rfl⟩
theorem cut_ints {ns : List Int} (lo hi : Option Int) : ∃ ms : List Int,cutV (ns.map V.int) lo hi = ms.map V.int ∧ ms.length ≤ ns.length := by
 unfold cutV
 rw [List.length_map,← List.map_drop,← List.map_take]
 exact ⟨_,rfl,by rw [List.length_take,List.length_drop]; omega⟩
noncomputable def rowsD (R : List T3) : List PyData := R.map fun t => .tuple [.int t.1,.int t.2.1,.int t.2.2]
theorem rd_rows {K : PySem.W.Frag} {H : Hp} : ∀ (rs : List Addr) (R : List T3),rs.length = R.length → (∀ (i : Nat) r,rs[i]? = some r → H r = some (tup3 R i)) → RdAll K H (rs.map V.ref) (rowsD R)
 | [],[],_,_ => .nil
 | [],_ :: _,h,_ => by cases h
 | _ :: _,[],h,_ => by cases h
 | r :: rs,t :: R,h,hr => by
  refine .cons (.tup (SqT.of (hr 0 r rfl)) (.cons (.int _) (.cons (.int _) (.cons (.int _) .nil)))) ?_
  refine rd_rows rs R (by simpa using h) fun i r' e => ?_
  have := hr (i + 1) r' (by simpa using e)
  exact this
theorem RowsAt.rd {K : PySem.W.Frag} {H : Hp} {p : Addr} {R : List T3} (h : RowsAt H p R) : RdV K H (.ref p) (.list (rowsD R)) := by
 obtain ⟨rs,h1,h2,h3⟩ := h.ex
 exact .lst (SqL.of h1) (rd_rows rs R h2 h3)
theorem RowsAt.append {H : Hp} {p r : Addr} {R : List T3} {a b c : Int} {xs : List V} (h : RowsAt H p R) (hx : H p = some (.lst xs)) (hr : H r = some (.tup [.int a,.int b,.int c])) : RowsAt (upd H p (.lst (xs ++ [.ref r]))) p (R ++ [(a,b,c)]) := by
 obtain ⟨rs,h1,h2,h3⟩ := h.ex
 rw [h1] at hx
 cases hx
 have ne : ∀ q (ys : List V),H q = some (.tup ys) → q ≠ p := fun q ys e z => by rw [z,h1] at e; cases e
 refine ⟨rs ++ [r],by rw [upd_same,List.map_append]; rfl,by rw [List.length_append,List.length_append,h2]; rfl,fun i q e => ?_⟩
 rcases (by omega : i < rs.length ∨ rs.length ≤ i) with hi | hi
 ·rw [List.getElem?_append_left hi] at e
  have e2 := h3 i q e
  have e3 : tup3 (R ++ [(a,b,c)]) i = tup3 R i := by
   have e4 : (R ++ [(a,b,c)])[i]? = R[i]? := List.getElem?_append_left (by omega)
   unfold tup3 rA rB rC
   rw [List.getD_eq_getElem?_getD,List.getD_eq_getElem?_getD,e4]
  rw [upd_ne (ne q _ e2),e3]
  exact e2
 ·rw [List.getElem?_append_right hi] at e
  have ei : i - rs.length = 0 := by
   have := (List.getElem?_eq_some_iff.mp e).1
   simp at this
   omega
  rw [ei] at e
  have eq : r = q := Option.some.inj e
  subst eq
  have e4 : (R ++ [(a,b,c)])[i]? = some (a,b,c) := by
   rw [show i = R.length by omega]
   simp
  have e5 := Ma.r_of e4
  rw [upd_ne (ne r _ hr),hr]
  unfold tup3
  rw [e5.1,e5.2.1,e5.2.2]
theorem RowsAt.nil {H : Hp} {p : Addr} (h : H p = some (.lst [])) : RowsAt H p [] := ⟨[],h,rfl,fun i r e => by cases i <;> cases e⟩
theorem SameT.keep {H H' : Hp} {P r : Addr} {pos : Pos} {qual : Str} {o : HO} (s : SameT P H H') (t : TabOk H P pos qual) (e : H r = some o) (n : ∀ z,o ≠ .tbl z) : H' r = some o := s r o e fun z => by
 obtain ⟨ps,hp,_⟩ := t
 rw [z,hp] at e
 exact n ps (Option.some.inj e).symm
theorem SameT.tup {H H' : Hp} {P r : Addr} {pos : Pos} {qual : Str} {xs : List V} (s : SameT P H H') (t : TabOk H P pos qual) (e : H r = some (.tup xs)) : H' r = some (.tup xs) := SameT.keep s t e fun _ z => nomatch z
theorem SameT.seq {K : PySem.W.Frag} {H H' : Hp} {P a : Addr} {pos : Pos} {qual : Str} {xs : List V} (s : SameT P H H') (t : TabOk H P pos qual) (h : SqL K H a xs) : SqL K H' a xs := by
 rcases h with (h | ⟨o,h⟩) | h
 ·exact .inl (.inl (SameT.keep s t h fun _ z => nomatch z))
 ·exact .inl (.inr ⟨o,SameT.keep s t h fun _ z => nomatch z⟩)
 ·exact .inr h
theorem RowsAt.copy {H H' : Hp} {p l : Addr} {R : List T3} {ys : List V} {K : PySem.W.Frag} (h : RowsAt H p R) (s : Same H H') (hy : H p = some (.lst ys)) (e : H' l = some (.lst ys)) : RowsAt H' l R := by
 obtain ⟨rs,h1,h2,h3⟩ := h.ex
 rw [h1] at hy
 cases hy
 exact ⟨rs,e,h2,fun i r er => s _ _ (h3 i r er)⟩
theorem RowsAt.lst {H : Hp} {p : Addr} {R : List T3} (h : RowsAt H p R) : ∃ ys,H p = some (.lst ys) ∧ ys.length = R.length := by
 obtain ⟨rs,h1,h2,h3⟩ := h.ex
 exact ⟨_,h1,by rw [List.length_map,h2]⟩
structure LA {α : Type} (enc : α → List V) (H : Hp) (p : Addr) (xs : List α) : Prop where
 ex : ∃ rs : List Addr,H p = some (.lst (rs.map V.ref)) ∧ rs.length = xs.length ∧ ∀ (i : Nat) r x,rs[i]? = some r → xs[i]? = some x → H r = some (.tup (enc x))
section
variable {α : Type} {enc : α → List V} {H H' : Hp} {p q r : Addr} {xs ys : List α} {vs ws : List V}
theorem LA.nil (h : H p = some (.lst [])) : LA enc H p [] := ⟨[],h,rfl,fun i r x e => by cases i <;> cases e⟩
theorem LA.mono (h : LA enc H p xs) (s : ∀ b o,H b = some o → (∀ z,o ≠ .tbl z) → H' b = some o) : LA enc H' p xs := by
 obtain ⟨rs,h1,h2,h3⟩ := h.ex
 exact ⟨rs,s _ _ h1 (fun _ z => nomatch z),h2,fun i r x e e' => s _ _ (h3 i r x e e') (fun _ z => nomatch z)⟩
theorem LA.same (h : LA enc H p xs) (s : Same H H') : LA enc H' p xs := h.mono fun b o e _ => s b o e
theorem LA.lst (h : LA enc H p xs) : ∃ vs,H p = some (.lst vs) ∧ vs.length = xs.length ∧ ∀ (i : Nat) y,vs[i]? = some y → ∃ r x,y = .ref r ∧ xs[i]? = some x ∧ H r = some (.tup (enc x)) := by
 obtain ⟨rs,h1,h2,h3⟩ := h.ex
 refine ⟨_,h1,by rw [List.length_map,h2],fun i y e => ?_⟩
 obtain ⟨r,rfl,er⟩ := map_ref e
 have hi : i < xs.length := by
  have := (List.getElem?_eq_some_iff.mp er).1
  omega
 exact ⟨r,xs[i],rfl,List.getElem?_eq_getElem hi,h3 i r _ er (List.getElem?_eq_getElem hi)⟩
theorem LA.of (h : H p = some (.lst vs)) (l : vs.length = xs.length) (g : ∀ (i : Nat) y,vs[i]? = some y → ∃ r,y = .ref r ∧ ∀ x,xs[i]? = some x → H r = some (.tup (enc x))) : LA enc H p xs := by
 have go : ∀ (vs : List V),(∀ (i : Nat) y,vs[i]? = some y → ∃ r,y = V.ref r) → ∃ rs : List Addr,vs = rs.map V.ref := by
  intro vs
  induction vs with
  | nil => intro _; exact ⟨[],rfl⟩
  | cons v vs ih =>
   intro g
   obtain ⟨r,e⟩ := g 0 v rfl
   obtain ⟨rs,e2⟩ := ih fun i y e => g (i + 1) y (by simpa using e)
   exact ⟨r :: rs,by rw [e,e2]; rfl⟩
 obtain ⟨rs,e⟩ := go vs fun i y e => by
  obtain ⟨r,e1,_⟩ := g i y e
  exact ⟨r,e1⟩
 subst e
 refine ⟨rs,h,by rw [List.length_map] at l; exact l,fun i r x e1 e2 => ?_⟩
 obtain ⟨r',e3,e4⟩ := g i (.ref r) (by rw [List.getElem?_map,e1]; rfl)
 cases e3
 exact e4 x e2
theorem LA.append {x : α} (h : LA enc H p xs) (hx : H p = some (.lst vs)) (hr : H r = some (.tup (enc x))) : LA enc (upd H p (.lst (vs ++ [.ref r]))) p (xs ++ [x]) := by
 obtain ⟨vs',h1,h2,h3⟩ := h.lst
 rw [h1] at hx
 cases hx
 have ne : ∀ q (ys : List V),H q = some (.tup ys) → q ≠ p := fun q ys e z => by rw [z,h1] at e; cases e
 refine LA.of upd_same (by simp [h2]) fun i y e => ?_
 rcases (by omega : i < vs.length ∨ vs.length ≤ i) with hi | hi
 ·rw [List.getElem?_append_left hi] at e
  obtain ⟨r',x',e1,e2,e3⟩ := h3 i y e
  refine ⟨r',e1,fun x2 e4 => ?_⟩
  rw [List.getElem?_append_left (by omega),e2] at e4
  cases e4
  rw [upd_ne (ne r' _ e3)]
  exact e3
 ·rw [List.getElem?_append_right hi] at e
  have ei : i - vs.length = 0 := by
   have := (List.getElem?_eq_some_iff.mp e).1
   simp at this
   omega
  rw [ei] at e
  have e' : V.ref r = y := by simpa using e
  refine ⟨r,e'.symm,fun x2 e4 => ?_⟩
  rw [List.getElem?_append_right (by omega),show i - xs.length = 0 by omega] at e4
  have e5 : x = x2 := by simpa using e4
  subst e5
  rw [upd_ne (ne r _ hr)]
  exact hr
theorem LA.extend (h : LA enc H p xs) (h' : LA enc H q ys) (hx : H p = some (.lst vs)) (hy : H q = some (.lst ws)) : LA enc (upd H p (.lst (vs ++ ws))) p (xs ++ ys) := by
 obtain ⟨vs',h1,h2,h3⟩ := h.lst
 obtain ⟨ws',k1,k2,k3⟩ := h'.lst
 rw [h1] at hx
 cases hx
 rw [k1] at hy
 cases hy
 have ne : ∀ q (ys : List V),H q = some (.tup ys) → q ≠ p := fun q ys e z => by rw [z,h1] at e; cases e
 refine LA.of upd_same (by simp [h2,k2]) fun i y e => ?_
 rcases (by omega : i < vs.length ∨ vs.length ≤ i) with hi | hi
 ·rw [List.getElem?_append_left hi] at e
  obtain ⟨r',x',e1,e2,e3⟩ := h3 i y e
  refine ⟨r',e1,fun x2 e4 => ?_⟩
  rw [List.getElem?_append_left (by omega),e2] at e4
  cases e4
  rw [upd_ne (ne r' _ e3)]
  exact e3
 ·rw [List.getElem?_append_right hi] at e
  obtain ⟨r',x',e1,e2,e3⟩ := k3 _ y e
  refine ⟨r',e1,fun x2 e4 => ?_⟩
  rw [List.getElem?_append_right (by omega),show i - xs.length = i - vs.length by omega,e2] at e4
  cases e4
  rw [upd_ne (ne r' _ e3)]
  exact e3
theorem LA.copy (h : LA enc H p xs) (s : Same H H') (hx : H p = some (.lst vs)) (e : H' q = some (.lst vs)) : LA enc H' q xs := by
 obtain ⟨rs,h1,h2,h3⟩ := h.ex
 rw [h1] at hx
 cases hx
 exact ⟨rs,e,h2,fun i r x e1 e2 => s _ _ (h3 i r x e1 e2)⟩
theorem LA.at {K : PySem.W.Frag} (h : LA enc H p xs) : ∃ vs : List V,H p = some (.lst vs) ∧ vs.length = xs.length ∧ ∀ (k : Nat) x,xs[k]? = some x → ∃ r,atI vs (k : Int) = some (.ref r) ∧ H r = some (.tup (enc x)) := by
 obtain ⟨vs,h1,h2,h3⟩ := h.lst
 refine ⟨vs,h1,h2,fun k x e => ?_⟩
 have hk : k < vs.length := by
  have := (List.getElem?_eq_some_iff.mp e).1
  omega
 obtain ⟨r,x',e1,e2,e3⟩ := h3 k _ (List.getElem?_eq_getElem hk)
 rw [e] at e2
 cases e2
 exact ⟨r,atI_nat (by rw [List.getElem?_eq_getElem hk,e1]),e3⟩
end
theorem atI_last {vs : List V} (h : vs ≠ []) : atI vs (-1) = vs[vs.length - 1]? := by
 have hl : 0 < vs.length := List.length_pos_iff.mpr h
 unfold atI ixN
 rw [if_neg (by omega),if_pos (by omega)]
 show vs[(-1 + (vs.length : Int)).toNat]? = _
 congr 1
 omega
section
variable {α : Type} {D : α → PyData}
theorem canLay_map (h : ∀ x,PyData.canLay0 (D x) = true) : ∀ xs : List α,PyData.canLayAll0 (xs.map D) = true
 | [] => by simp [PyData.canLayAll0]
 | x :: xs => by
  have := canLay_map h xs
  simp [PyData.canLayAll0,h,this]
theorem depth_map {n : Nat} (h : ∀ x,PyData.depth (D x) ≤ n) : ∀ xs : List α,PyData.depthAll (xs.map D) ≤ n
 | [] => by simp [PyData.depthAll]
 | x :: xs => by
  have := depth_map h xs
  have := h x
  simp only [List.map_cons,PyData.depthAll]
  omega
theorem shaped_map {n : Nat} (h : ∀ x,PyData.canLay0 (D x) = true) (h2 : ∀ x,PyData.depth (D x) ≤ n) (hn : n ≤ 60) (xs : List α) : SeqAt.shaped (.list (xs.map D)) = true := by
 have h3 := depth_map h2 xs
 show (PyData.canLay0 (.list (xs.map D)) && decide (PyData.depth (.list (xs.map D)) ≤ 64)) = true
 rw [Bool.and_eq_true]
 exact ⟨by simp only [PyData.canLay0]; exact canLay_map h xs,decide_eq_true (by simp only [PyData.depth]; omega)⟩
theorem LA.rd {K : PySem.W.Frag} {enc : α → List V} {ds : α → List PyData} {H : Hp} {p : Addr} {xs : List α} (h : LA enc H p xs) (hd : ∀ x,RdAll K H (enc x) (ds x)) : RdV K H (.ref p) (.list (xs.map fun x => .tuple (ds x))) := by
 obtain ⟨rs,h1,h2,h3⟩ := h.ex
 refine .lst (SqL.of h1) ?_
 have go : ∀ (rs : List Addr) (xs : List α),rs.length = xs.length → (∀ (i : Nat) r x,rs[i]? = some r → xs[i]? = some x → H r = some (.tup (enc x))) → RdAll K H (rs.map V.ref) (xs.map fun x => .tuple (ds x)) := by
  intro rs
  induction rs with
  | nil =>
   intro xs hl _
   cases xs with
   | nil => exact .nil
   | cons x xs => cases hl
  | cons r rs ih =>
   intro xs hl g
   cases xs with
   | nil => cases hl
   | cons x xs => exact .cons (.tup (SqT.of (g 0 r x rfl rfl)) (hd x)) (ih xs (by simpa using hl) fun i r' x' e1 e2 => g (i + 1) r' x' (by simpa using e1) (by simpa using e2))
 exact go rs xs h2 h3
end
open Ma (T4)
noncomputable def enc3 (t : T3) : List V := [.int t.1,.int t.2.1,.int t.2.2]
noncomputable def dat3 (t : T3) : PyData := .tuple [.int t.1,.int t.2.1,.int t.2.2]
section
variable {K : PySem.W.Frag} {H H' : Hp} {p : Addr} {R : List T3}
theorem rd3 (h : LA enc3 H p R) : RdV K H (.ref p) (.list (R.map dat3)) := h.rd fun x => .cons (.int _) (.cons (.int _) (.cons (.int _) .nil))
theorem RowsAt.la (h : RowsAt H p R) : LA enc3 H p R := by
 obtain ⟨rs,h1,h2,h3⟩ := h.ex
 refine ⟨rs,h1,h2,fun i r x e1 e2 => ?_⟩
 obtain ⟨a,b,c⟩ := x
 have := Ma.r_of e2
 rw [h3 i r e1]
 unfold tup3 enc3
 rw [this.1,this.2.1,this.2.2]
theorem LA.rows (h : LA enc3 H p R) : RowsAt H p R := by
 obtain ⟨rs,h1,h2,h3⟩ := h.ex
 refine ⟨rs,h1,h2,fun i r e1 => ?_⟩
 have hi : i < R.length := by
  have := (List.getElem?_eq_some_iff.mp e1).1
  omega
 exact h3 i r _ e1 (Ma.r_at hi)
end
inductive Dv (H : Hp) : V → Prop
 | non : Dv H .non
 | bl (b : Bool) : Dv H (.bl b)
 | int (i : Int) : Dv H (.int i)
 | str (x : Str) : Dv H (.str x)
 | lst {a : Addr} {xs : List V} : H a = some (.lst xs) → Dv H (.ref a)
 | tup {a : Addr} {xs : List V} : H a = some (.tup xs) → Dv H (.ref a)
noncomputable def isWh : V → Bool
 | .int _ => true
 | _ => false
noncomputable def tupV (H : Hp) : V → Option (List V)
 | .ref a => match H a with
  | some (.tup xs) => some xs
  | _ => none
 | _ => none
noncomputable def lstV (H : Hp) : V → Option (List V)
 | .ref a => match H a with
  | some (.lst xs) => some xs
  | _ => none
 | _ => none
theorem tupV_at {H : Hp} {x : V} {xs : List V} (h : tupV H x = some xs) : ∃ a,x = .ref a ∧ H a = some (.tup xs) := by
 unfold tupV at h
 split at h
 ·rename_i a
  split at h
  ·rename_i ys e
   cases h
   exact ⟨a,rfl,e⟩
  ·cases h
 ·cases h
theorem lstV_at {H : Hp} {x : V} {xs : List V} (h : lstV H x = some xs) : ∃ a,x = .ref a ∧ H a = some (.lst xs) := by
 unfold lstV at h
 split at h
 ·rename_i a
  split at h
  ·rename_i ys e
   cases h
   exact ⟨a,rfl,e⟩
  ·cases h
 ·cases h
section
variable {H H' : Hp} {x : V}
theorem Dv.same (h : Dv H x) (s : Same H H') : Dv H' x := by
 cases h with
 | non => exact .non
 | bl b => exact .bl b
 | int i => exact .int i
 | str x => exact .str x
 | lst e => exact .lst (s _ _ e)
 | tup e => exact .tup (s _ _ e)
theorem Dv.tupV_same (h : Dv H x) (s : Same H H') : tupV H' x = tupV H x := by
 cases h with
 | non => rfl
 | bl b => rfl
 | int i => rfl
 | str x => rfl
 | lst e => simp [tupV,e,s _ _ e]
 | tup e => simp [tupV,e,s _ _ e]
theorem Dv.isTup {K : PySem.W.Frag} (h : Dv H x) : ∃ t,TyOf K H x t ∧ PySem.W.kitOne K t (.type "tuple") = some (tupV H x).isSome := by
 cases h with
 | non => exact ⟨_,.non,rfl⟩
 | bl b => exact ⟨_,.bl b,rfl⟩
 | int i => exact ⟨_,.int i,rfl⟩
 | str x => exact ⟨_,.str x,rfl⟩
 | lst e => exact ⟨_,.lst e,by simp only [tupV,e]; rfl⟩
 | tup e => exact ⟨_,.tup e,by simp only [tupV,e]; rfl⟩
end
noncomputable def Dv2 (H : Hp) (x : V) : Prop := Dv H x ∧ ∀ zs,tupV H x = some zs → ∀ z ∈ zs,Dv H z
theorem Dv2.same {H H' : Hp} {x : V} (h : Dv2 H x) (s : Same H H') : Dv2 H' x := ⟨h.1.same s,fun zs e z hz => (h.2 zs (by rw [← h.1.tupV_same s]; exact e) z hz).same s⟩
noncomputable def winL (day : Int) : List V → Bool
 | [.int a,.int b,.int c] => decide (0 ≤ a) && (decide (a ≤ b) && (decide (b < day) && decide (0 ≤ c)))
 | _ => false
noncomputable def winV (H : Hp) (day : Int) (x : V) : Bool := match tupV H x with
 | some xs => winL day xs
 | none => false
noncomputable def spIsWhole : Sp := fun vs H Q _ => ∃ x : V,vs = [x] ∧ Dv H x ∧ Q (.bl (isWh x)) H
noncomputable def spWindow : Sp := fun vs H Q _ => ∃ (day : Int) (x : V),vs = [.int day,x] ∧ Dv2 H x ∧ ∀ H',Same H H' → Q (.bl (winV H day x)) H'
theorem take_snoc {α β : Type} {xs : List α} {i : Nat} {y : α} (f : α → β) (h : xs[i]? = some y) : (xs.take (i + 1)).map f = (xs.take i).map f ++ [f y] := by
 rw [List.take_add_one,h,List.map_append]
 rfl
theorem three {α : Type} : ∀ {xs : List α},xs.length = 3 → ∃ u v w,xs = [u,v,w]
 | [u,v,w],_ => ⟨u,v,w,rfl⟩
theorem isWh_int {x : V} (h : isWh x = true) : ∃ i,x = .int i := by
 cases x <;> first | exact ⟨_,rfl⟩ | cases h
inductive Ev (H : Hp) : Nat → V → Prop
 | non {n : Nat} : Ev H n .non
 | bl {n : Nat} (b : Bool) : Ev H n (.bl b)
 | int {n : Nat} (i : Int) : Ev H n (.int i)
 | str {n : Nat} {x : Str} : PyData.strOk x = true → Ev H n (.str x)
 | lst {n : Nat} {a : Addr} {xs : List V} : H a = some (.lst xs) → (∀ y ∈ xs,Ev H n y) → Ev H (n + 1) (.ref a)
 | tup {n : Nat} {a : Addr} {xs : List V} : H a = some (.tup xs) → (∀ y ∈ xs,Ev H n y) → Ev H (n + 1) (.ref a)
theorem Ev.same {H H' : Hp} (s : Same H H') : ∀ {n : Nat} {x : V},Ev H n x → Ev H' n x := by
 intro n x h
 induction h with
 | non => exact .non
 | bl b => exact .bl b
 | int i => exact .int i
 | str h => exact .str h
 | lst e _ ih => exact .lst (s _ _ e) ih
 | tup e _ ih => exact .tup (s _ _ e) ih
theorem Ev.dv {H : Hp} {n : Nat} {x : V} (h : Ev H n x) : Dv H x := by
 cases h with
 | non => exact .non
 | bl b => exact .bl b
 | int i => exact .int i
 | str h => exact .str _
 | lst e _ => exact .lst e
 | tup e _ => exact .tup e
theorem Ev.parts {H : Hp} {n : Nat} {x : V} {zs : List V} (h : Ev H (n + 1) x) (e : tupV H x = some zs) : ∀ z ∈ zs,Ev H n z := by
 obtain ⟨a,rfl,ea⟩ := tupV_at e
 cases h with
 | lst e2 _ => rw [ea] at e2; cases e2
 | tup e2 p => rw [ea] at e2; cases e2; exact p
theorem Ev.items {H : Hp} {n : Nat} {x : V} {zs : List V} (h : Ev H (n + 1) x) (e : lstV H x = some zs) : ∀ z ∈ zs,Ev H n z := by
 obtain ⟨a,rfl,ea⟩ := lstV_at e
 cases h with
 | tup e2 _ => rw [ea] at e2; cases e2
 | lst e2 p => rw [ea] at e2; cases e2; exact p
theorem Ev.d2 {H : Hp} {n : Nat} {x : V} (h : Ev H (n + 1) x) : Dv2 H x := ⟨h.dv,fun zs e z hz => (h.parts e z hz).dv⟩
theorem Ev.up {H : Hp} : ∀ {n : Nat} {x : V},Ev H n x → Ev H (n + 1) x := by
 intro n x h
 induction h with
 | non => exact .non
 | bl b => exact .bl b
 | int i => exact .int i
 | str h => exact .str h
 | lst e _ ih => exact .lst e ih
 | tup e _ ih => exact .tup e ih
noncomputable def RdOk (K : PySem.W.Frag) (H : Hp) (n : Nat) (x : V) : Prop := ∃ d,RdV K H x d ∧ PyData.canLay0 d = true ∧ PyData.depth d ≤ n + 1 ∧ PyData.eqv d d = true
noncomputable def RdAOk (K : PySem.W.Frag) (H : Hp) (n : Nat) (xs : List V) : Prop := ∃ ds,RdAll K H xs ds ∧ PyData.canLayAll0 ds = true ∧ PyData.depthAll ds ≤ n + 1 ∧ PyData.eqvAll ds ds = true ∧ ds.length = xs.length
theorem rd_all {K : PySem.W.Frag} {H : Hp} {n : Nat} : ∀ {xs : List V},(∀ y ∈ xs,RdOk K H n y) → RdAOk K H n xs
 | [],_ => ⟨[],.nil,by simp [PyData.canLayAll0],by simp [PyData.depthAll],by simp [PyData.eqvAll],rfl⟩
 | y :: ys,h => by
  obtain ⟨d,r,c,p,e⟩ := h y (List.mem_cons_self ..)
  obtain ⟨ds,rs,cs,ps,es,l⟩ := rd_all (xs := ys) fun z hz => h z (List.mem_cons_of_mem _ hz)
  exact ⟨d :: ds,.cons r rs,by simp [PyData.canLayAll0,c,cs],by simp only [PyData.depthAll]; omega,by simp [PyData.eqvAll,e,es],by simp [l]⟩
theorem Ev.rd {K : PySem.W.Frag} {H : Hp} : ∀ {n : Nat} {x : V},Ev H n x → RdOk K H n x := by
 intro n x h
 induction h with
 | non => exact ⟨_,.non,by simp [PyData.canLay0],by simp [PyData.depth],by simp [PyData.eqv]⟩
 | bl b => exact ⟨_,.bl b,by simp [PyData.canLay0],by simp [PyData.depth],by simp [PyData.eqv]⟩
 | int i => exact ⟨_,.int i,by simp [PyData.canLay0],by simp [PyData.depth],by simp [PyData.eqv]⟩
 | str h => exact ⟨_,.str _,by simp [PyData.canLay0,h],by simp [PyData.depth],by simp [PyData.eqv]⟩
 | lst e _ ih =>
  obtain ⟨ds,rs,cs,ps,es,l⟩ := rd_all ih
  exact ⟨.list ds,.lst (SqL.of e) rs,by simp [PyData.canLay0,cs],by simp only [PyData.depth]; omega,by simp [PyData.eqv,es]⟩
 | tup e _ ih =>
  obtain ⟨ds,rs,cs,ps,es,l⟩ := rd_all ih
  exact ⟨.tuple ds,.tup (SqT.of e) rs,by simp [PyData.canLay0,cs],by simp only [PyData.depth]; omega,by simp [PyData.eqv,es]⟩
theorem eqvAll_nil (ds : List PyData) : PyData.eqv (.list ds) (.list []) = decide (ds.length = 0) := by
 cases ds with
 | nil => simp [PyData.eqv,PyData.eqvAll]
 | cons t r => simp [PyData.eqv,PyData.eqvAll]
theorem shaped_nil0 : SeqAt.shaped (.list []) = true := by simp [SeqAt.shaped,PyData.canLay0,PyData.canLayAll0,PyData.depth,PyData.depthAll]
theorem Same.seqT {K : PySem.W.Frag} {H H' : Hp} {a : Addr} {xs : List V} (e : Same H H') (h : SqT K H a xs) : SqT K H' a xs := by
 rcases h with (h | ⟨o,h⟩) | h
 ·exact .inl (.inl (e _ _ h))
 ·exact .inl (.inr ⟨o,e _ _ h⟩)
 ·exact .inr h
mutual
theorem rdv_same {K : PySem.W.Frag} {H H' : Hp} (s : Same H H') : ∀ {x : V} {d : PyData},RdV K H x d → RdV K H' x d
 | _,_,.non => .non
 | _,_,.bl b => .bl b
 | _,_,.int i => .int i
 | _,_,.str x => .str x
 | _,_,.lst h a => .lst (s.seq h) (rda_same s a)
 | _,_,.tup h a => .tup (Same.seqT s h) (rda_same s a)
theorem rda_same {K : PySem.W.Frag} {H H' : Hp} (s : Same H H') : ∀ {xs : List V} {ds : List PyData},RdAll K H xs ds → RdAll K H' xs ds
 | _,_,.nil => .nil
 | _,_,.cons h1 h2 => .cons (rdv_same s h1) (rda_same s h2)
end
theorem cut1 (xs : List V) : cutV xs (some 1) none = xs.drop 1 := by
 unfold cutV
 cases xs with
 | nil => simp
 | cons x r =>
  have e1 : HT.sIx (x :: r).length 0 (some 1) = 1 := by
   simp [HT.sIx]
  have e2 : HT.sIx (x :: r).length (x :: r).length none = (x :: r).length := rfl
  rw [e1,e2]
  simp
theorem line_of {n : Nat} (h : n ≤ 16000000) : n < sizeLine := by
 have e : sizeLine = 16777216 := by decide +kernel
 omega
theorem same_wr {H H1 : Hp} {p : Addr} {o : HO} (hp : H p = none) (s : Same H H1) : Same H (upd H1 p o) := fun b u e => by
 rw [upd_ne (ne_of_none e hp)]
 exact s _ _ e
theorem SameT.refl (P : Addr) (H : Hp) : SameT P H H := fun _ _ e _ => e
theorem SameT.trans {P : Addr} {H H1 H2 : Hp} (a : SameT P H H1) (b : SameT P H1 H2) : SameT P H H2 := fun c o e n => b c o (a c o e n) n
theorem SameT.same {P : Addr} {H H1 : Hp} (a : Same H H1) : SameT P H H1 := fun c o e _ => a c o e
noncomputable def SameU (H H' : Hp) : Prop := (∀ b o,H b = some o → (∀ z,o ≠ .tbl z) → H' b = some o) ∧ ∀ b o,H b = some o → ∃ o',H' b = some o'
theorem SameU.refl (H : Hp) : SameU H H := ⟨fun _ _ e _ => e,fun _ o e => ⟨o,e⟩⟩
theorem SameU.trans {H H1 H2 : Hp} (a : SameU H H1) (b : SameU H1 H2) : SameU H H2 := ⟨fun c o e n => b.1 c o (a.1 c o e n) n,fun c o e => by
 obtain ⟨o1,e1⟩ := a.2 c o e
 exact b.2 c o1 e1⟩
theorem SameU.of {H H1 : Hp} (a : Same H H1) : SameU H H1 := ⟨fun c o e _ => a c o e,fun c o e => ⟨o,a c o e⟩⟩
theorem SameU.free {H H1 : Hp} {p : Addr} (a : SameU H H1) (h : H1 p = none) : H p = none := by
 cases e : H p with
 | none => rfl
 | some o =>
  obtain ⟨o',e'⟩ := a.2 p o e
  rw [h] at e'
  cases e'
theorem SameU.lst {H H1 : Hp} {p : Addr} {xs : List V} (a : SameU H H1) (e : H p = some (.lst xs)) : H1 p = some (.lst xs) := a.1 _ _ e fun _ z => nomatch z
theorem SameU.tup {H H1 : Hp} {p : Addr} {xs : List V} (a : SameU H H1) (e : H p = some (.tup xs)) : H1 p = some (.tup xs) := a.1 _ _ e fun _ z => nomatch z
theorem SameU.seq {K : PySem.W.Frag} {H H' : Hp} {a : Addr} {xs : List V} (s : SameU H H') (h : SqL K H a xs) : SqL K H' a xs := by
 rcases h with (h | ⟨o,h⟩) | h
 ·exact .inl (.inl (s.1 _ _ h fun _ z => nomatch z))
 ·exact .inl (.inr ⟨o,s.1 _ _ h fun _ z => nomatch z⟩)
 ·exact .inr h
theorem SameU.wr {H H1 : Hp} {p : Addr} {o : HO} (hp : H p = none) (s : SameU H H1) : SameU H (upd H1 p o) := ⟨fun b u e n => by
 rw [upd_ne (ne_of_none e hp)]
 exact s.1 _ _ e n,fun b u e => by
 rw [upd_ne (ne_of_none e hp)]
 exact s.2 _ _ e⟩
theorem LA.u {α : Type} {enc : α → List V} {H H' : Hp} {p : Addr} {xs : List α} (h : LA enc H p xs) (s : SameU H H') : LA enc H' p xs := h.mono s.1
theorem Callee.imp {P : Program} {w : World} {K : PySem.W.Frag} {mg : Str → Option Value} {base : Heap} {k : Nat} {x : Str} {ps : List Str} {sp sp' : Sp} (C : Callee P w K mg base k x ps sp) (h : ∀ vs H Q E,sp' vs H Q E → sp vs H Q E) : Callee P w K mg base k x ps sp' := by
 obtain ⟨f,fd,G,b,kp,m⟩ := C.ex
 exact ⟨f,fd,G.imp h,b,kp,m⟩
structure TB (T : Hp → Prop) : Prop where
 same : ∀ H H',T H → Same H H' → T H'
 wr : ∀ H p xs ys,T H → H p = some (.lst xs) → T (upd H p (.lst ys))
section
variable {H H' : Hp} {p : Addr} {R : List T3} {d : Int}
end
theorem LA.part {α : Type} {enc : α → List V} {H H' : Hp} {p l : Addr} {xs : List α} {vs : List V} (h : LA enc H p xs) (s : Same H H') (hv : H p = some (.lst vs)) (lo hi : Nat) (e : H' l = some (.lst ((vs.drop lo).take hi))) : LA enc H' l ((xs.drop lo).take hi) := by
 obtain ⟨rs,h1,h2,h3⟩ := h.ex
 rw [h1] at hv
 cases hv
 refine ⟨(rs.drop lo).take hi,by rw [e,← List.map_drop,← List.map_take],by simp [h2],fun i r x e1 e2 => ?_⟩
 rw [List.getElem?_take] at e1 e2
 split at e1
 ·rw [List.getElem?_drop] at e1
  rename_i c
  rw [if_pos c,List.getElem?_drop] at e2
  exact s _ _ (h3 _ r x e1 e2)
 ·cases e1
noncomputable def datB (R : List T3) : PyData := .list (R.map dat3)
theorem canB (R : List T3) : PyData.canLay0 (datB R) = true := by
 simp only [datB,PyData.canLay0]
 exact canLay_map (fun x => by simp [dat3,PyData.canLay0,PyData.canLayAll0]) R
theorem depB (R : List T3) : PyData.depth (datB R) ≤ 3 := by
 have := depth_map (D := dat3) (n := 2) (fun x => by simp [dat3,PyData.depth,PyData.depthAll]) R
 simp only [datB,PyData.depth]
 omega
theorem la_clear {α : Type} {enc : α → List V} {H : Hp} {q l : Addr} {xs : List α} {zs ys : List V} (h : LA enc H q xs) (hz : H l = some (.lst zs)) (nq : q ≠ l) : LA enc (upd H l (.lst ys)) q xs := by
 obtain ⟨rs,h1,h2,h3⟩ := h.ex
 refine ⟨rs,by rw [upd_ne nq]; exact h1,h2,fun i r x e e' => ?_⟩
 have h4 := h3 i r x e e'
 have nr : r ≠ l := fun z => by rw [z,hz] at h4; cases h4
 rw [upd_ne nr]
 exact h4
end My
namespace L2
open PySem PySem.Spec PyProof.Rows
section
variable {P : Program} {w : World} {H H' : Hp} {h h1 h2 : Heap} {a : Addr} {o : HO}
theorem ObjOk.there (x : ObjOk P w H h a o) : ∃ ob,h.get? a = some ob := by
 cases o with
 | lst xs => obtain ⟨_,_,_,_,e⟩ := x; exact ⟨_,e⟩
 | tup xs => obtain ⟨_,_,_,ob,e,_⟩ := x; exact ⟨_,e⟩
 | dK kvs => obtain ⟨_,_,_,_,o,_,_,e,_⟩ := x; exact ⟨_,e⟩
 | dT kvs => obtain ⟨_,_,_,_,o,_,_,e,_⟩ := x; exact ⟨_,e⟩
 | set S n => obtain ⟨o,_,_,_,e,_⟩ := x; exact ⟨_,e⟩
 | ins C dx fs => obtain ⟨_,_,_,e,_⟩ := x; exact ⟨_,e⟩
 | own y => exact x
 | xd fs => obtain ⟨_,⟨_,_,_,e,_⟩,_⟩ := x; exact ⟨_,e⟩
 | rng lo hi => obtain ⟨_,_,_,e⟩ := x; exact ⟨_,e⟩
 | frz ob u => obtain ⟨e,_⟩ := x; exact ⟨_,e⟩
 | tbl ps => exact ⟨_,show h.get? a = some _ from x⟩
 | met f y => exact ⟨_,show h.get? a = some _ from x⟩
 | ext φ => obtain ⟨_,e,_⟩ := x; exact e
theorem HOk.gone (x : HOk P w H h) (e : h.get? a = none) : H a = none := by
 cases q : H a with
 | none => rfl
 | some o =>
  obtain ⟨ob,z⟩ := (x a o q).there
  rw [e] at z
  cases z
end
noncomputable def hides : List Addr → Heap → Heap
 | [],h => h
 | a :: l,h => (hides l h).hide a
theorem hides_in {b : Addr} {h : Heap} : ∀ {l : List Addr},b ∈ l → (hides l h).get? b = none
 | a :: l,hb => by
  show ((hides l h).hide a).get? b = none
  by_cases e : b = a
  ·rw [e]; exact Heap.hide_self _ _
  ·rw [Heap.hide_ne _ e]
   exact hides_in ((List.mem_cons.mp hb).resolve_left e)
theorem hides_out {b : Addr} {h : Heap} : ∀ {l : List Addr},b ∉ l → (hides l h).get? b = h.get? b
 | [],_ => rfl
 | a :: l,hb => by
  show ((hides l h).hide a).get? b = _
  have ne : b ≠ a := fun e => hb (by rw [e]; exact List.mem_cons_self)
  rw [Heap.hide_ne _ ne]
  exact hides_out fun z => hb (List.mem_cons_of_mem _ z)
theorem hides_stays {h : Heap} {l : List Addr} : Heap.StaysIn (hides l h) h := fun b o e => by
 by_cases hb : b ∈ l
 ·rw [hides_in hb] at e; cases e
 ·rw [hides_out hb] at e; exact e
theorem frames_hid {h h1 base : Heap} {L : List Addr} : ∀ {l : List Env},h.FunFrames base l → (∀ b ∈ frs l,b ∈ L) → (∀ b o,b ∈ frs l → h.get? b = some o → ∃ sl,h1.get? b = some { o with slots := sl }) → h1.FunFrames (hides L h1) l
 | [],_,_,_ => trivial
 | env :: r,hl,hs,k => by
  obtain ⟨hk,⟨L',o,hf,hn,ho,hd⟩,hr⟩ := hl
  have hL : L' ∈ frs (env :: r) := by unfold frs; rw [List.filterMap_cons,hf]; exact List.mem_cons_self
  have sub : ∀ b ∈ frs r,b ∈ frs (env :: r) := fun b hb => by unfold frs; rw [List.filterMap_cons,hf]; exact List.mem_cons_of_mem _ hb
  obtain ⟨sl,e⟩ := k L' o hL ho
  exact ⟨hk,⟨L',_,hf,hides_in (hs L' hL),e,hd⟩,frames_hid hr (fun b hb => hs b (sub b hb)) fun b o hb => k b o (sub b hb)⟩
noncomputable def Fly (h : Heap) (H' : Hp) (h1 : Heap) (a : Addr) (cls : Value) : Prop := h.get? a = none ∧ H' a = none ∧ ∃ oe vs T oT ts a0,h1.get? a = some oe ∧ oe.cls = cls ∧ vs[0]? = some a0 ∧ oe.data = .fields vs ∧ vs[1]? = some (.ref T) ∧ T ≠ a ∧ h1.get? T = some oT ∧ oT.data = .fields ts ∧ ts[3]? = some .none ∧ H' T = none ∧ h.get? T = none
noncomputable def CXE (P : Program) (w : World) : CXT := fun stk H s E e s' => ∃ a cls H',e = .ref a ∧ s'.os = s.os ∧ AllBare s'.gens ∧ Un (frs stk) [] H H' s.heap s'.heap ∧ HOk P w H' s'.heap ∧ Fly s.heap H' s'.heap a cls ∧ E cls none H'
section
variable {P : Program} {w : World} {H H' : Hp} {h h1 h2 base : Heap} {a : Addr} {stk : List Env} {l : List Addr} {cls : Value}
theorem left_un (u : Un (frs stk) [] H H' h h1) (ok : HOk P w H' h1) (st : Heap.StaysIn (hides l h1) h2) (sl : ∀ b o,h1.get? b = some o → (∀ vs,o.data ≠ .fields vs) → ∃ sl,h2.get? b = some { o with slots := sl })
  (fr : h.FunFrames base stk) (ff : ∀ b ∈ frs stk,H b = none) (hl : ∀ b ∈ l,b ∈ frs stk ∨ (h.get? b = none ∧ H' b = none)) : Un (frs stk) [] H H' h h2 ∧ HOk P w H' h2 := by
 have fk : ∀ b ∈ frs stk,∃ o,h.get? b = some o ∧ ∀ vs,o.data ≠ .fields vs := fun b hb => (fr.mem hb).2
 have ff' : ∀ b ∈ frs stk,H' b = none := fun b hb => by
  obtain ⟨o,ho,_⟩ := fk b hb
  exact u.free b o ho (ff b hb) (by simp)
 have stay : ∀ b o,b ∉ l → h1.get? b = some o → h2.get? b = some o := fun b o hb e => st b o (by rw [hides_out hb]; exact e)
 refine ⟨⟨fun b o e n hb _ => ?_,fun b o e n hb _ => ?_,u.free,fun b o e hx => ?_,u.tups,u.frzs,u.tbls⟩,fun b o e => ?_⟩
 ·refine stay b o (fun z => ?_) (u.keep b o e n hb (by simp))
  rcases hl b z with z | z
  ·exact hb z
  ·rw [z.1] at e; cases e
 ·obtain ⟨s1,e1⟩ := u.slot b o e n hb (by simp)
  obtain ⟨o',e',d'⟩ := fk b hb
  rw [e] at e'
  cases e'
  obtain ⟨s2,e2⟩ := sl b _ e1 d'
  exact ⟨s2,e2⟩
 ·obtain ⟨o',e'⟩ := u.there b o e hx
  by_cases hb : b ∈ l
  ·rcases hl b hb with z | z
   ·obtain ⟨s1,e1⟩ := u.slot b o e (ff b z) z (by simp)
    obtain ⟨o2,e2,d2⟩ := fk b z
    rw [e] at e2
    cases e2
    obtain ⟨s2,e2⟩ := sl b _ e1 d2
    exact ⟨_,e2⟩
   ·rw [z.1] at e; cases e
  ·exact ⟨_,stay b o' hb e'⟩
 ·refine (ok b o e).stay (fun c v hc q => stay c v (fun z => ?_) q) (fun _ q => q) fun _ _ q => q
  have hn : H' c = none := by
   rcases hl c z with z | z
   ·exact ff' c z
   ·exact z.2
  rcases hc with rfl | hc
  ·rw [hn] at e; cases e
  ·rw [hn] at hc; cases hc
theorem left_fly {a0 : Value} (ok : HOk P w H' h1) (hn : h.get? a = none) (hn' : H' a = none) (sl : ∀ b o,h1.get? b = some o → (∀ vs,o.data ≠ .fields vs) → ∃ sl,h2.get? b = some { o with slots := sl })
  (hl : ∀ b ∈ l,(∃ o,h1.get? b = some o ∧ ∀ vs,o.data ≠ .fields vs) ∨ (h.get? b = none ∧ H' b = none)) (th : ∀ b o,h.get? b = some o → ∃ o',h1.get? b = some o')
  (tr : Heap.TracedW h2 (hides l h1) a cls a0) : Fly h H' h2 a cls := by
 obtain ⟨oe,vs,T,oT,ts,e1,⟨e2,e3⟩,e4,e5,e6,e7,e8,e9,e10⟩ := tr
 have key : h.get? T = none ∧ H' T = none := by
  by_cases hT : T ∈ l
  ·rcases hl T hT with ⟨o,z1,z2⟩ | z
   ·obtain ⟨s1,q⟩ := sl T o z1 z2
    rw [e8] at q
    cases q
    exact absurd e9 (z2 ts)
   ·exact z
  ·rw [hides_out hT] at e6
   refine ⟨?_,ok.gone e6⟩
   cases q : h.get? T with
   | none => rfl
   | some o =>
    obtain ⟨o',q'⟩ := th T o q
    rw [e6] at q'
    cases q'
 exact ⟨hn,hn',oe,vs,T,oT,ts,a0,e1,e2,e3,e4,e5,e7,e8,e9,e10,key.2,key.1⟩
end
section
variable {X : Cx} {pins : List (Addr × Obj)} {σ : St} {H : Hp} {s : Shared} {E : XK} {e : Value} {s' : Shared}
structure Own (X : Cx) : Prop where
 stk : X.stack = X.env :: X.outer
 fr : X.env.frame = some X.env.locals
 ex : X.ex = []
theorem leave_made {E' : Value → Shared → Prop} {C : Value} {us : List Value} {x : Addr} {h' : Heap} (I : Inv X pins σ H s) (m : Heap.MadeExcOf s.heap h' x C us) (O : Own X) (A : Around) (hA : A.frames = some X.stack) (q : E C none H) :
  wpAny (model X.prog X.w) A (leaving X.env (.ref x)) (fun _ s'' => CXE X.prog X.w X.stack H s E (.ref x) s'') E' { s with heap := h' } := by
 obtain ⟨t,e1,e2,e3⟩ := m.there
 have hn := m.new
 have fr := I.stack
 have hn' : H x = none := I.hok.gone hn
 have fk : ∀ b ∈ frs X.stack,∃ o,s.heap.get? b = some o ∧ ∀ vs,o.data ≠ .fields vs := fun b hb => (fr.mem hb).2
 have un : Un (frs X.stack) [] H H s.heap h' := Un.kept m.keeps
 have ok : HOk X.prog X.w H h' := I.hok.kept m.keeps
 have fs : ∀ b o,b ∈ frs X.stack → s.heap.get? b = some o → ∃ sl,h'.get? b = some { o with slots := sl } := fun b o hb e => ⟨o.slots,m.keeps b o e⟩
 have fr' : h'.FunFrames (hides (x :: frs X.stack) h') X.stack := frames_hid fr (fun b hb => by simp [hb]) fs
 refine wpAny_leaving_firstW (base := hides (x :: frs X.stack) h') (by rw [hA,O.stk]) (by rw [← O.stk]; exact fr') O.fr e1 hides_stays (hides_in (by simp)) rfl rfl rfl fun h2 L => ?_
 obtain ⟨st,_,tr,sl⟩ := L
 have hl : ∀ b ∈ x :: frs X.stack,b ∈ frs X.stack ∨ (s.heap.get? b = none ∧ H b = none) := fun b hb => by
  rcases List.mem_cons.mp hb with rfl | hb
  ·exact .inr ⟨hn,hn'⟩
  ·exact .inl hb
 obtain ⟨u2,ok2⟩ := left_un un ok st sl fr I.stkFree hl
 refine ⟨x,C,H,rfl,rfl,I.bare,u2,ok2,left_fly ok hn hn' sl (fun b hb => ?_) (fun b o e => ⟨o,m.keeps b o e⟩) tr,q⟩
 rcases hl b hb with z | z
 ·obtain ⟨o,z1,z2⟩ := fk b z
  exact .inl ⟨_,m.keeps _ _ z1,z2⟩
 ·exact .inr z
theorem cx_drop (I : Inv X pins σ H s) (c : CXE X.prog X.w X.stack H s E e s') (O : Own X) : CXE X.prog X.w X.outer X.H₀ X.s₀ E e s' := by
 obtain ⟨a,cls,H',rfl,os,bare,un,ok,⟨hn,hn',oe,vs,T,oT,ts,a0,e1,e2,e3,e4,e5,e6,e7,e8,e9,e10,e11⟩,q⟩ := c
 have J : Inv X pins σ H' s' := I.call' os un ok bare fun b z => absurd z (by simp)
 have b := J.base
 rw [O.ex] at b
 have old : ∀ b,s.heap.get? b = none → X.s₀.heap.get? b = none := fun b z => by
  cases q : X.s₀.heap.get? b with
  | none => rfl
  | some o =>
   obtain ⟨o',q'⟩ := I.base.there b o q (by rw [O.ex]; simp)
   rw [z] at q'
   cases q'
 exact ⟨a,cls,H',rfl,J.os,bare,b,ok,⟨old a hn,hn',oe,vs,T,oT,ts,a0,e1,e2,e3,e4,e5,e6,e7,e8,e9,e10,old T e11⟩,q⟩
end
noncomputable abbrev cxE (P : Program) (w : World) (K : PySem.W.Frag) (mg : Str → Option Value) (base : Heap) (N : List Str) (qual : Str) (scope : Scope) (f : Addr) (cd : Value) (A : Around) (outer : List Env) (s : Shared) (H : Hp) (E : XK) : Cx := cxOf (CXE P w) P w K mg base N qual scope f cd A outer s H E
section
variable {P : Program} {w : World} {K : PySem.W.Frag} {mg : Str → Option Value} {base : Heap} {N : List Str} {qual : Str} {scope : Scope} {f : Addr} {cd : Value} {A : Around} {outer : List Env} {s : Shared} {H : Hp} {E : XK}
theorem own_cxE : Own (cxE P w K mg base N qual scope f cd A outer s H E) := ⟨rfl,rfl,rfl⟩
noncomputable def Makes (X : Cx) (E : XK) : Prop := ∀ (pins : List (Addr × Obj)) (σ : St) (H : Hp) (s : Shared) (C : Value) (us : List Value) (x : Addr) (h' : Heap),Inv X pins σ H s → Heap.MadeExcOf s.heap h' x C us → E C none H → X.xe (.ref x) { s with heap := h' }
theorem makeE : Makes (cxE P w K mg base N qual scope f cd A outer s H E) E := fun pins σ H1 s1 C us x h' I m q =>
 wpAny_mono (leave_made (E' := fun _ _ => False) I m own_cxE _ I.ok.frames q) (fun _ _ c2 => cx_drop I c2 own_cxE) fun _ _ z => z.elim
end
section
variable {X : Cx} {pins : List (Addr × Obj)} {σ : St} {H : Hp} {s : Shared} {E : XK} {e : Value} {s' : Shared}
theorem flight_none {E' : Value → Shared → Prop} {Q : Unit → Shared → Prop} {A : Around} (I : Inv X pins σ H s) (c : CXE X.prog X.w X.stack H s E e s') (q : ∀ s'',CXE X.prog X.w X.stack H s E e s'' → Q () s'') :
  wpAny (model X.prog X.w) A (setFlight e none) Q E' s' := by
 obtain ⟨a,cls,H',rfl,os,bare,un,ok,⟨hn,hn',oe,vs,T,oT,ts,a0,e1,e2,e3,e4,e5,e6,e7,e8,e9,e10,e11⟩,z⟩ := c
 have fr := I.stack
 have fk : ∀ b ∈ frs X.stack,∃ o,s.heap.get? b = some o ∧ ∀ vs,o.data ≠ .fields vs := fun b hb => (fr.mem hb).2
 have fs : ∀ b o,b ∈ frs X.stack → s.heap.get? b = some o → ∃ sl,s'.heap.get? b = some { o with slots := sl } := fun b o hb e => un.slot b o e (I.stkFree b hb) hb (by simp)
 have fr' : s'.heap.FunFrames (hides (a :: T :: frs X.stack) s'.heap) X.stack := frames_hid fr (fun b hb => by simp [hb]) fs
 have hl : ∀ b ∈ a :: T :: frs X.stack,b ∈ frs X.stack ∨ (s.heap.get? b = none ∧ H' b = none) := fun b hb => by
  rcases List.mem_cons.mp hb with rfl | hb
  ·exact .inr ⟨hn,hn'⟩
  ·rcases List.mem_cons.mp hb with rfl | hb
   ·exact .inr ⟨e11,e10⟩
   ·exact .inl hb
 refine wpAny_setFlight_noneW (base := hides (a :: T :: frs X.stack) s'.heap) (cls := cls) (a0 := a0) (fl := .none) hides_stays fr' ⟨oe,vs,T,oT,ts,e1,⟨e2,e3⟩,e4,e5,hides_in (by simp),e6,e7,e8,e9⟩ fun h2 st _ tr k => q _ ?_
 have sl : ∀ b o,s'.heap.get? b = some o → (∀ vs,o.data ≠ .fields vs) → ∃ sl,h2.get? b = some { o with slots := sl } := fun b o z1 z2 => ⟨o.slots,k b o z1 z2⟩
 obtain ⟨u2,ok2⟩ := left_un un ok st sl fr I.stkFree hl
 refine ⟨a,cls,H',rfl,os,bare,u2,ok2,left_fly ok hn hn' sl (fun b hb => ?_) (fun b o e => un.there b o e (by simp)) tr,z⟩
 rcases hl b hb with z | z
 ·obtain ⟨o,z1,z2⟩ := fk b z
  obtain ⟨s1,z3⟩ := fs b o z z1
  exact .inl ⟨_,z3,z2⟩
 ·exact .inr z
theorem noted_here {E' E'' : Value → Shared → Prop} {Q : Shared → Prop} {A : Around} (I : Inv X pins σ H s) (c : CXE X.prog X.w X.stack H s E e s') (O : Own X) (hA : A.frames = some X.stack) (q : ∀ s'',CXE X.prog X.w X.stack H s E e s'' → Q s'') :
  wpAny (model X.prog X.w) A (noteFrame e X.env) (fun _ s2 => wpAny (model X.prog X.w) A (setFlight e none) (fun _ s3 => Q s3) E' s2) E'' s' := by
 obtain ⟨a,cls,H',rfl,os,bare,un,ok,⟨hn,hn',oe,vs,T,oT,ts,a0,e1,e2,e3,e4,e5,e6,e7,e8,e9,e10,e11⟩,z⟩ := c
 have fr := I.stack
 have fk : ∀ b ∈ frs X.stack,∃ o,s.heap.get? b = some o ∧ ∀ vs,o.data ≠ .fields vs := fun b hb => (fr.mem hb).2
 have fs : ∀ b o,b ∈ frs X.stack → s.heap.get? b = some o → ∃ sl,s'.heap.get? b = some { o with slots := sl } := fun b o hb e => un.slot b o e (I.stkFree b hb) hb (by simp)
 have fr' : s'.heap.FunFrames (hides (a :: T :: frs X.stack) s'.heap) X.stack := frames_hid fr (fun b hb => by simp [hb]) fs
 have hl : ∀ b ∈ a :: T :: frs X.stack,b ∈ frs X.stack ∨ (s.heap.get? b = none ∧ H' b = none) := fun b hb => by
  rcases List.mem_cons.mp hb with rfl | hb
  ·exact .inr ⟨hn,hn'⟩
  ·rcases List.mem_cons.mp hb with rfl | hb
   ·exact .inr ⟨e11,e10⟩
   ·exact .inl hb
 refine wpAny_noteFrame_onW (base := hides (a :: T :: frs X.stack) s'.heap) (cls := cls) (a0 := a0) (by rw [hA,O.stk]) (by rw [← O.stk]; exact fr') O.fr ⟨oe,vs,T,oT,ts,e1,⟨e2,e3⟩,e4,e5,hides_in (by simp),e6,e7,e8,e9⟩ hides_stays (hides_in (by simp)) fun h1 N => ?_
 obtain ⟨st1,fr1,tr1,sl1⟩ := N
 refine wpAny_setFlight_noneW (base := hides (a :: T :: frs X.stack) s'.heap) (cls := cls) (a0 := a0) (l := X.env :: X.outer) st1 fr1 tr1 fun h2 st _ tr k => q _ ?_
 have sl : ∀ b o,s'.heap.get? b = some o → (∀ vs,o.data ≠ .fields vs) → ∃ sl,h2.get? b = some { o with slots := sl } := fun b o z1 z2 => by
  obtain ⟨sl,z3⟩ := sl1 b o z1 z2
  exact ⟨sl,k b _ z3 z2⟩
 obtain ⟨u2,ok2⟩ := left_un un ok st sl fr I.stkFree hl
 refine ⟨a,cls,H',rfl,os,bare,u2,ok2,left_fly ok hn hn' sl (fun b hb => ?_) (fun b o e => un.there b o e (by simp)) tr,z⟩
 rcases hl b hb with z | z
 ·obtain ⟨o,z1,z2⟩ := fk b z
  obtain ⟨s1,z3⟩ := fs b o z z1
  exact .inl ⟨_,z3,z2⟩
 ·exact .inr z
end
noncomputable def bmV : List Value := [.type "ValueError",.type "Exception",.type "BaseException",.type "object"]
structure ExC (K : PySem.W.Frag) (C : Addr) (bm : List Value) : Prop where
 ex : ∃ nm q N bs hdct sn sub ab col dd k0 k1 k2 k3 k5,K.lookup C = some (excClassObj nm q C N bs bm hdct sn sub ab col dd k0 k1 k2 k3 k5 "ValueError.__new__") ∧ PySem.W.nsOkIn K N = true ∧ PySem.W.nsIn K N "__init__" = some none
 tl : PySem.W.tailIn K bmV bm = true
 bx : bm.contains (.type "BaseException") = true
section
variable {X : Cx} {C : Addr} {bm : List Value} {E : XK} {x : Str} {np cpos pos : Pos} {e : Expr} {es : List Expr} {t : TA}
noncomputable def tRaise (C : Addr) (E : XK) (t : TA) : TS := fun _ σ H => t σ H fun vs H1 => vs.length ≤ 1000 ∧ E (.ref C) none H1
theorem ps_raise (M : Makes X E) (c : ExC X.K C bm) (hg : Gl X x) (hm : X.mg x = some (.ref C)) (ha : PA X (e :: es) t) (hc : X.calm = true := by rfl) (hdb : (x == ("__debug__" : Str)) = false := by decide)
  (he : starEach (e :: es) X.env = (false,eval e X.env) :: starEach es X.env := by rfl) (hpl : (backTo cpos (starEach (e :: es) X.env)).any (·.1) = false := by rfl) :
  PS X (.Raise (some (.Call (.Name x np) (e :: es) [] cpos)) none pos) (tRaise C E t) := by
 intro pins s σ H D I h
 obtain ⟨nm,q,N,bs,hdct,sn,sub,ab,col,dd,k0,k1,k2,k3,k5,l1,l2,l3⟩ := c.ex
 refine wpAny_Raise_call_subU (nm := nm) (q := q) (C := C) (N := N) (bs := bs) (hdct := hdct) (sn := sn) (sub := sub) (ab := ab) (col := col) (dd := dd) (k0 := k0) (k1 := k1) (k2 := k2) (k3 := k3) (k5 := k5) (bm := bm) (bmB := bmV) (mN := Heap.nsMap X.base N) PySem.F.excBase_ValueError (by decide) PySem.F.excBase_ValueError c.bx (I.ok.hd hc) hpl (PySem.W.nsMap_none_of_in I.ok.mod.kin l2 l3) ?_
 refine ld_glob I hg hm ⟨rfl,?_⟩ hdb
 have key := thn (ha cpos pins s σ H _ I h) (Q' := fun us s1 => (us.length ≤ sizeLine) ∧ s1.heap.get? C = some (excClassObj nm q C N bs bm hdct sn sub ab col dd k0 k1 k2 k3 k5 "ValueError.__new__") ∧ s1.heap.Ns N (Heap.nsMap X.base N) ∧ OwnTail s1.heap bmV bm ∧ ∀ (h' : Heap) (e : Addr),Heap.MadeExcOf s1.heap h' e (.ref C) us → X.xe (.ref e) { s1 with heap := h' }) fun us s1 ⟨vs,H1,I1,r,z,q1⟩ => ?_
 ·rw [he] at key ⊢
  exact PySem.Calls.evalArgs_plain (wpAny_mono key (fun us s1 ⟨a1,a2,a3,a4,a5⟩ => ⟨rfl,a1,a2,a3,a4,a5⟩) fun _ _ z => z)
 ·refine ⟨?_,I1.kIn _ _ l1,(Heap.Ns.of_isNs (PySem.W.isNs_of_in I.ok.mod.kin l2)).keeps I1.bk,PySem.W.tail_of_in I1.kIn c.tl,fun h' e m => M pins σ H1 s1 _ us e h' I1 m q1⟩
  rw [← r.length]
  exact Nat.le_trans z (by decide)
end
structure CalleeX (P : Program) (w : World) (K : PySem.W.Frag) (mg : Str → Option Value) (base : Heap) (k : Nat) (x : Str) (ps : List Str) (sp : Sp) : Prop where
 ex : ∃ (f : Addr) (fd : FuncData),FnOk P w K mg base (CXE P w) k f fd ps sp ∧ Binds K fd ps [] ∧ PySem.W.keepIn K (.ref f) = true ∧ mg x = some (.ref f)
section
variable {X : Cx} {k : Nat} {ps : List Str} {sp : Sp} {E : XK} {x : Str} {p pos pos' : Pos} {e : Expr} {es : List Expr} {t : TA}
theorem CalleeX.up {P : Program} {w : World} {K : PySem.W.Frag} {mg : Str → Option Value} {base : Heap} {j : Nat} (c : CalleeX P w K mg base k x ps sp) (h : k ≤ j) : CalleeX P w K mg base j x ps sp := by
 obtain ⟨f,fd,F,b,kp,m⟩ := c.ex
 exact ⟨f,fd,F.mono h,b,kp,m⟩
theorem CalleeX.mk' {P : Program} {w : World} {K : PySem.W.Frag} {mg : Str → Option Value} {base : Heap} {f : Addr} {fd : FuncData} (G : FnOk P w K mg base (CXE P w) k f fd ps sp) (b : Binds K fd ps []) (kp : PySem.W.keepIn K (.ref f) = true) (m : mg x = some (.ref f)) : CalleeX P w K mg base k x ps sp := ⟨f,fd,G,b,kp,m⟩
noncomputable def CaughtX (X : Cx) (pins : List (Addr × Obj)) (σ : St) (E : XK) (e : Value) (s' : Shared) : Prop := ∃ H s,Inv X pins σ H s ∧ CXE X.prog X.w X.stack H s E e s'
noncomputable def PSx (X : Cx) (st : List Stmt) (t : XK → TS) : Prop := ∀ (E : XK) (pins : List (Addr × Obj)) (s : Shared) (σ : St) (H : Hp) (D : Ends),Inv X pins σ H s → t E D σ H → wpAny (model X.prog X.w) X.A (execs st X.env) (SP X pins D) (CaughtX X pins σ E) s
noncomputable def PEx (X : Cx) (e : Expr) (t : XK → TE) : Prop := ∀ (E : XK) (pins : List (Addr × Obj)) (s : Shared) (σ : St) (H : Hp) (Q : VK),Inv X pins σ H s → t E σ H Q → wpAny (model X.prog X.w) X.A (eval e X.env) (EP X pins σ Q) (CaughtX X pins σ E) s
theorem run_fnX {f : Addr} {fd : FuncData} {pins : List (Addr × Obj)} {σ : St} {H : Hp} {s : Shared} {Q : VK} {us : List Value} {vs : List V} (F : FnOk X.prog X.w X.K X.mg X.base (CXE X.prog X.w) k f fd ps sp) (hr : Room k X.A) (hb : Binds X.K fd ps [])
  (I : Inv X pins σ H s) (r : Vals vs us) (h : sp (vs ++ []) H Q E) : wpAny (model X.prog X.w) X.A (call (.ref f) us) (EP X pins σ Q) (CaughtX X pins σ E) s := by
 have r2 : Vals (vs ++ []) (us ++ []) := r.append .nil
 have hl : (us ++ []).length = ps.length := by rw [← r2.length]; exact F.len _ _ _ _ h
 refine wpAny_call (codeAny_mono (F.run X.A X.stack s H ⟨us,[]⟩ (us ++ []) (vs ++ []) Q E hr I.env0 (hb s us I.kIn hl) r2 h) fun r s' hq => ?_)
 cases r with
 | error e => exact ⟨H,s,I,hq⟩
 | ok fl =>
  cases fl with
  | ret u => exact I.after hq
  | next => exact False.elim hq
  | brk => exact False.elim hq
  | cont => exact False.elim hq
theorem pex_fn (c : CalleeX X.prog X.w X.K X.mg X.base k x ps sp) (hr : Room k X.A) (hg : Gl X x) (ha : PA X.nox (e :: es) t) (hdb : (x == ("__debug__" : Str)) = false := by decide)
  (he : starEach (e :: es) X.env = (false,eval e X.env) :: starEach es X.env := by rfl) (hpl : (backTo pos (starEach es X.env)).any (·.1) = false := by rfl) :
  PEx X (.Call (.Name x p) (e :: es) [] pos) (fun E => tCall sp [] E t) := by
 obtain ⟨f,fd,F,b,kp,m⟩ := c.ex
 intro E pins s σ H Q I h
 refine wpAny_Call_Name_kw (ld_glob I hg m ?_ hdb)
 refine PySem.W.callWith_K (h₀ := X.base) I.ok.mod.kin kp (wpAny_mono (ha pos pins s σ H _ (I.wish _) h) (fun us s1 ⟨vs,H1,I1,r,q⟩ => ⟨I1.kIn,?_⟩) fun _ _ z => z.elim) he hpl
 exact run_fnX F hr b I1.unwish r q
theorem psx_expr {te : XK → TE} (he : PEx X e te) (hs : swapsWith e none pos.line X.env = pure false := by rfl) : PSx X [.Expr e pos] (fun E => tDrop (te E)) := by
 intro E pins s σ H D I h
 have key : wpAny (model X.prog X.w) X.A (exec (.Expr e pos) X.env) (SP X pins D) (CaughtX X pins σ E) s := wpAny_Expr_any (thn (he E pins s σ H _ I h) fun v s1 ⟨x,H1,I1,r1,q1⟩ => ⟨σ,H1,I1,q1⟩) I.quiet hs
 refine wpAny_execs_cons (thn key fun f s1 q => ?_)
 cases f with
 | next => exact wpAny_execs_nil q
 | ret v => exact q
 | brk => exact q
 | cont => exact q
end
section
variable {M : Model} {A : Around} {E : Value → Shared → Prop} {h : Heap} {g : Array GenState} {d : Drawn} {t : Nat} {os : OsState} {a C C' : Addr} {oe : Obj} {Q : Bool → Shared → Prop}
theorem exc_matches {nm q N bs bm hdct sn sub ab col dd k0 k1 k2 k3 k5 nw nm' q' N' bs' bm' hdct' sn' sub' ab' col' dd' k0' k1' k2' k3' k5' nw'} (hC : h.get? C = some (excClassObj nm q C N bs bm hdct sn sub ab col dd k0 k1 k2 k3 k5 nw)) (hC' : h.get? C' = some (excClassObj nm' q' C' N' bs' bm' hdct' sn' sub' ab' col' dd' k0' k1' k2' k3' k5' nw'))
  (he : h.get? a = some oe) (hc : oe.cls = .ref C') (hb : bm.contains (.type "BaseException") = true) (z : Q ((Value.ref C' :: bm').contains (.ref C)) ⟨h,g,d,t,os⟩) : wpAny M A (excMatches (.ref a) (.ref C)) Q E ⟨h,g,d,t,os⟩ := by
 have isX : ∀ {Q' : Bool → Shared → Prop},Q' true ⟨h,g,d,t,os⟩ → wpAny M A (isExcClass (.ref C)) Q' E ⟨h,g,d,t,os⟩ := fun {Q'} q1 => by
  unfold isExcClass
  refine wpAny_bind ?_
  simp only [isType,loadHead]
  refine wpAny_bind (wpAny_loadPart_at hC (wpAny_pure (wpAny_ite_true rfl (wpAny_isSubtype_exc hC ?_))))
  rw [show (Value.ref C :: bm).contains (.type "BaseException") = true by rw [List.contains_cons,hb]; simp]
  exact q1
 unfold excMatches isInstance
 simp only [typeOf]
 refine wpAny_bind (wpAny_bind (wpAny_bind (wpAny_loadPart_at hC (wpAny_pure ?_))))
 refine wpAny_of_eq tc_notTuple (wpAny_ite_false rfl (wpAny_bind (wpAny_pure ?_)))
 refine wpAny_bind ?_
 simp only [List.forIn_cons,List.forIn_nil]
 refine wpAny_bind (wpAny_bind (isX (wpAny_ite_false rfl (wpAny_pure (wpAny_pure ?_)))))
 refine wpAny_bind (wpAny_bind (wpAny_loadPart_at he (wpAny_pure ?_)))
 rw [hc]
 refine wpAny_bind (wpAny_bind (wpAny_bind (wpAny_isSubtype_exc hC' ?_)))
 cases b : (Value.ref C' :: bm').contains (.ref C) with
 | true =>
  rw [b] at z
  exact wpAny_ite_true rfl (wpAny_pure (wpAny_pure (wpAny_pure z)))
 | false =>
  rw [b] at z
  exact wpAny_ite_false rfl (wpAny_pure (wpAny_pure (wpAny_pure z)))
end
noncomputable abbrev Cx.inH (X : Cx) (a : Addr) : Cx := { X with A := X.A.mark (some (.ref a)),calm := false,xe := fun _ _ => False }
section
variable {X : Cx} {pins : List (Addr × Obj)} {σ : St} {H : Hp} {s : Shared} {a : Addr}
theorem Inv.inH (I : Inv X pins σ H s) (a : Addr) : Inv (X.inH a) pins σ H s :=
 ⟨⟨I.ok.mod,I.ok.kind,I.ok.glob,I.ok.blt,I.ok.above,I.ok.inj,I.ok.has,I.ok.cab,(fun z => nomatch z),I.ok.frames,I.ok.stk,I.ok.exf,I.ok.bs,I.ok.bsz,I.ok.noex,I.ok.exfs,I.ok.funs,I.ok.frf⟩,I.os,I.bare,I.base,I.loc,I.cell,I.free,I.freeC,I.pin,I.hok,I.len⟩
theorem Inv.outH (ok : X.Ok) (I : Inv (X.inH a) pins σ H s) : Inv X pins σ H s := ⟨ok,I.os,I.bare,I.base,I.loc,I.cell,I.free,I.freeC,I.pin,I.hok,I.len⟩
theorem SP.outH (ok : X.Ok) {D : Ends} {f : Flow} {s' : Shared} (h : SP (X.inH a) pins D f s') : SP X pins D f s' := by
 cases f with
 | next => obtain ⟨σ',H',I,q⟩ := h; exact ⟨σ',H',I.outH ok,q⟩
 | brk => obtain ⟨σ',H',I,q⟩ := h; exact ⟨σ',H',I.outH ok,q⟩
 | cont => obtain ⟨σ',H',I,q⟩ := h; exact ⟨σ',H',I.outH ok,q⟩
 | ret u => obtain ⟨v,σ',H',I,r,q⟩ := h; exact ⟨v,σ',H',I.outH ok,r,q⟩
theorem CXE.inv {E : XK} {e : Value} {s' : Shared} (I : Inv X pins σ H s) (c : CXE X.prog X.w X.stack H s E e s') : ∃ a cls H',e = .ref a ∧ Inv X pins σ H' s' ∧ (∃ oe,s'.heap.get? a = some oe ∧ oe.cls = cls) ∧ E cls none H' := by
 obtain ⟨a,cls,H',rfl,os,bare,un,ok,⟨hn,hn',oe,vs,T,oT,ts,a0,e1,e2,_⟩,z⟩ := c
 exact ⟨a,cls,H',rfl,I.call' os un ok bare fun b z => absurd z (by simp),⟨oe,e1,e2⟩,z⟩
end
section
variable {X : Cx} {body suite : List Stmt} {b0 : Stmt} {tb : XK → TS} {th : TS} {C : Addr} {bm : List Value} {x : Str} {np hpos pos : Pos}
end
end L2
namespace L2
open PySem PySem.W PySem.Calls PyProof.Rows
noncomputable def ExQ (a D : Addr) : Heap → Prop := fun h => ∃ ox : Obj,h.get? a = some ox ∧ ox.cls = .ref D
structure ExK (K : Frag) (D : Addr) : Prop where
 cl : (clsIn K D).isSome = true
 ga : findIn K (.ref D) "__getattribute__" = some (some (.builtin "BaseException.__getattribute__"))
 gt : findIn K (.ref D) "__getattr__" = some none
 ca : findIn K (.ref D) "__class__" = some (some (.builtin "object.__class__"))
 gg : specialIn K (.builtin "object.__class__") "__get__" = some (some (.builtin "getset_descriptor.__get__"))
 tk : takesIn K (.builtin "object.__class__") = some true
 mo : mroIn K D (.type "object") = some true
 mb : mroIn K D (.type "BaseException") = some true
section
variable {prog : Program} {w : World} {A : Around} {E : Value → Shared → Prop} {s : Shared} {K : Frag} {a D : Addr}
theorem ExQ.type {M : Model} {h : Heap} (I : ExQ a D h) : Looks M h (typeOf (.ref a)) (.ref D) := by
 obtain ⟨ox,e1,e2⟩ := I
 exact e2 ▸ (Looks.ld e1).andThen .now
theorem looks_findD {M : Model} {h : Heap} (X : K.In h) (c : ExK K D) : Looks M h (Builtin.ObjectAttr.find (.ref a) (.ref D) "__class__") (.bind (.builtin "getset_descriptor.__get__") (.builtin "object.__class__")) := by
 have L1 := looks_findIn (M := M) X c.ca
 have L2 : Looks M h (Builtin.ObjectAttr.getOf (some (.builtin "object.__class__"))) (some (.builtin "getset_descriptor.__get__")) := looks_specialIn X c.gg
 have L3 := looks_takesIn (M := M) X c.tk
 exact L1.andThen (L2.andThen ((show Looks M h (Builtin.ObjectAttr.dataDescriptor? (some (.builtin "object.__class__")) (some (.builtin "getset_descriptor.__get__"))) (some (.builtin "getset_descriptor.__get__",.builtin "object.__class__")) from L3.andThen .now).andThen (Looks.tag .now)))
theorem class_getX {R : Result → Shared → Prop} {tp : Value} (X : K.In s.heap) (I : ExQ a D s.heap) (c : ExK K D) (h : R (.ok (.ret (.ref D))) s) : codeAny (model prog w) A (.call (.builtin "getset_descriptor.__get__") ⟨[.builtin "object.__class__",.ref a,tp],[]⟩) R s := by
 obtain ⟨hh,g,dr,t,os⟩ := s
 have L0 := I.type (M := model prog w)
 have L1 := looks_mroIn (M := model prog w) X c.mo
 refine codeAny_call_builtin KF.slot_gs.plain KF.entry_gs (KF.slot_gs.check _ _ _ _ _ _ _ _ KF.type_class (KF.args_gs _ _ _) ?_)
 unfold Builtin.«getset_descriptor.__get__» Builtin.Getset_descriptor.descrGet
 rw [dga_obj]
 refine wpAny_bind (wpAny_pure ?_)
 unfold Builtin.Getset_descriptor.descrGetter Builtin.Getset_descriptor.descrCheckInstance Builtin.Getset_descriptor.descrNameAndClass isInstance
 simp only [KF.owner_class]
 repeat lk
 refine ⟨Code.quiet_builtin _ (by decide +kernel),codeAny_builtin KF.entry_class ?_⟩
 unfold Builtin.«object.__class__» shownTypeOf
 repeat lk
 exact h
theorem check_ga {M : Model} {nameV : Value} {Q : Unit → Shared → Prop} (X : K.In s.heap) (I : ExQ a D s.heap) (c : ExK K D) (hq : Q () s) : wpAny M A (checkBuiltinCall "BaseException.__getattribute__" ⟨[.ref a,nameV],[]⟩) Q E s := by
 obtain ⟨hh,g,d,t,os⟩ := s
 have L0 := I.type (M := M)
 have L3 := looks_mroIn (M := M) X c.mb
 have hk : builtinKind "BaseException.__getattribute__" = some .slot := by decide +kernel
 have hsplit : splitId "BaseException.__getattribute__" = some ("BaseException","__getattribute__") := by decide +kernel
 have ha := PySem.F.args_bexc_ga (.ref a) nameV
 simp only [checkBuiltinCall,hk,hsplit]
 refine wpAny_bind ?_
 unfold isInstance
 repeat (first | lk | wp_step)
 exact hq
theorem exc_class {Q : Option Value → Shared → Prop} (X : K.In s.heap) (I : ExQ a D s.heap) (c : ExK K D) (h : Q (some (.ref D)) { s with toks := s.toks + 1 }) : wpAny (model prog w) A (getAttr? (.ref a) "__class__") Q E s := by
 obtain ⟨hh,g,d,t,os⟩ := s
 have L0 := I.type (M := model prog w)
 have L1 := looks_findIn (M := model prog w) X c.ga
 have L2 := looks_findIn (M := model prog w) X c.gt
 have L3 := looks_mroIn (M := model prog w) X c.mb
 have L4 := looks_findD (M := model prog w) (a := a) X c
 unfold getAttr? getAttrBy? getAttrBy
 refine wpAny_bind (wpAny_mkText (wpAny_bind (wpAny_attempt (wpAny_holding (wpAny_bind (L0.at (wpAny_bind (L1.at ?_))))))))
 have hx2 : (Value.builtin "BaseException.__getattribute__" == Value.builtin "object.__getattribute__") = false := by decide +kernel
 refine wpAny_ite_false (by rw [hx2]; rfl) ?_
 unfold getAttrByItsOwn hookBefore
 refine wpAny_bind (wpAny_ite_true rfl (L2.at ?_))
 refine wpAny_bind (wpAny_attempt (wpAny_holding ?_))
 unfold callGetattribute
 refine wpAny_ite_false rfl ?_
 unfold boundAndCalled
 refine wpAny_bind (wpAny_of_eq (PySem.F.attrBase_ValueError.ga.bind (.ref a)) ?_)
 refine wpAny_call (codeAny_call_builtin PySem.F.attrBase_ValueError.ga.plain PySem.F.entry_bexc_ga (check_ga X I c ?_))
 unfold Builtin.«object.__getattribute__»
 refine wpAny_bind (wpAny_pure ?_)
 refine wpAny_bind (wpAny_pure (wpAny_bind (L0.at (wpAny_bind (L4.at ?_)))))
 show wpAny _ _ (holding [Value.builtin "object.__class__"] (call (.builtin "getset_descriptor.__get__") [.builtin "object.__class__",.ref a,.ref D]) >>= ret) _ _ _
 refine wpAny_bind (wpAny_holding (wpAny_call (class_getX X I c ?_)))
 exact wpAny_pure (wpAny_pure (wpAny_pure h))
theorem kitx_exc (c : ExK K D) : KitX K (.ref a) (.ref D) (ExQ a D) where
 ty := fun _ _ _ I => I.type
 it := fun _ _ X _ => by
  obtain ⟨cdD,hcD⟩ := Option.isSome_iff_exists.mp c.cl
  unfold clsIn at hcD
  split at hcD
  ·rename_i c' d' cd' sl' ho
   intro A' Q' E' s' k q
   unfold isType loadHead
   exact wpAny_bind (wpAny_loadPart (k _ _ (X _ _ ho)) (wpAny_pure q))
  ·cases hcD
 ne := fun h tp dd its n sl X htp => by
  obtain ⟨cdD,hcD⟩ := Option.isSome_iff_exists.mp c.cl
  refine Bool.eq_false_iff.mpr fun q => ?_
  have e : D = tp := Value.ref.inj (beq_iff_eq.mp q)
  subst e
  unfold clsIn at hcD
  split at hcD
  ·rename_i c' d' cd' sl' ho
   have z := (X _ _ ho).symm.trans htp
   cases z
  ·cases hcD
 ca := fun X I k => exc_class X I c k
end
section
variable {X : Cx} {pins : List (Addr × Obj)} {σ : St} {H : Hp} {s : Shared}
theorem unbind_ok {M : Model} {A : Around} {E : Value → Shared → Prop} {i : Nat} {x : Str} {v : V} {Q : Unit → Shared → Prop} (I : Inv X pins σ H s) (hN : X.N.Nodup) (hi : X.N[i]? = some x) (hk : X.env.scope.names.lookup x = some .local) (hv : σ[i]? = some (some v))
  (h : ∀ s',Inv X pins (σ.set i none) H s' → Q () s') : wpAny M A (unbindName X.env x) Q E s := by
 obtain ⟨m,hn,hl⟩ := id I.loc
 have hcls : (X.env.scope.kind == .class || (X.env.scope.kind == .module && X.env.locals != X.env.globals)) = false := by rw [I.ok.kind]; rfl
 have hiσ : i < σ.length := by rw [I.len]; exact (List.getElem?_eq_some_iff.mp hi).1
 have cne := I.cne
 obtain ⟨u0,_,lk⟩ := hl i x v hi hv (.inl hk)
 have mx : m x = some u0 := by
  rcases lk with ⟨_,z⟩ | ⟨z,_⟩
  ·exact z
  ·have z : X.env.scope.names.lookup x = some .cell ∨ X.env.scope.names.lookup x = some .free := z
   rw [hk] at z
   rcases z with z | z <;> cases z
 refine wpAny_unbindName_local hk hn mx hcls fun h' u hn' hs => ?_
 obtain ⟨oL,_,_,hoL,_⟩ := id hn
 refine h _ ⟨I.ok,I.os,I.bare,⟨fun b o e n hb hx => ?_,fun b o e n hb hx => ?_,I.base.free,fun b o e hx => ?_,I.base.tups,I.base.frzs,I.base.tbls⟩,⟨_,hn',fun j y v' e1 e2 e3 => ?_⟩,fun y c e => ?_,I.free,I.freeC,fun p hp => ?_,fun b ob e => ?_,by simpa using I.len⟩
 ·exact (hs.2 b (Nat.ne_of_lt (Nat.lt_of_lt_of_le (Heap.lt_size e) I.ok.above))).trans (I.base.keep b o e n hb hx)
 ·obtain ⟨sl,e1⟩ := I.base.slot b o e n hb hx
  exact ⟨sl,(hs.2 b (Nat.ne_of_lt (Nat.lt_of_lt_of_le (Heap.lt_size e) I.ok.above))).trans e1⟩
 ·obtain ⟨o',e1⟩ := I.base.there b o e hx
  exact ⟨o',(hs.2 b (Nat.ne_of_lt (Nat.lt_of_lt_of_le (Heap.lt_size e) I.ok.above))).trans e1⟩
 ·by_cases hj : j = i
  ·subst hj
   rw [List.getElem?_set_self hiσ] at e2
   cases e2
  ·rw [List.getElem?_set_ne (Ne.symm hj)] at e2
   obtain ⟨u',r',q⟩ := hl j y v' e1 e2 e3
   refine ⟨u',r',?_⟩
   rcases q with ⟨k,e⟩ | ⟨k,c,e,z⟩
   ·refine .inl ⟨k,?_⟩
    have : y ≠ x := fun e => hj (nodup_ix hN e1 (e ▸ hi))
    simp [this,e]
   ·exact .inr ⟨k,c,e,z.sameBut hs (cne y c e)⟩
 ·obtain ⟨w',z⟩ := I.cell y c e
  exact ⟨w',z.sameBut hs (cne y c e)⟩
 ·obtain ⟨e,n,ne,nf,d⟩ := I.pin p hp
  exact ⟨(hs.2 p.1 ne).trans e,n,ne,nf,d⟩
 ·refine (I.hok b ob e).stay (fun c w' hc q => (hs.2 c ?_).trans q) (fun _ q => q) fun _ _ q => q
  rintro rfl
  rcases hc with rfl | hc
  ·rw [I.free] at e; cases e
  ·rw [I.free] at hc; cases hc
theorem CXE.track {E : XK} {e : Value} {s' : Shared} {D : Addr} (hD : ∀ cls H',E cls none H' → cls = .ref D) (I : Inv X pins σ H s) (c : CXE X.prog X.w X.stack H s E e s') :
  ∃ a H',e = .ref a ∧ H' a = none ∧ Inv X pins σ (upd H' a (.ext (ExQ a D))) s' ∧ E (.ref D) none H' := by
 obtain ⟨a,cls,H',rfl,os,bare,un,ok,⟨hn,hn',oe,vs,T,oT,ts,a0,e1,e2,_⟩,z⟩ := c
 have hc := hD cls H' z
 subst hc
 have ne : ∀ b o,H' b = some o → b ≠ a := fun b o q z => by rw [z,hn'] at q; cases q
 have ne0 : ∀ b o,s.heap.get? b = some o → b ≠ a := fun b o q z => by rw [z,hn] at q; cases q
 refine ⟨a,H',rfl,hn',I.call' os ⟨un.keep,un.slot,fun b o e n hx => ?_,un.there,fun b xs q => ?_,fun b o u q => ?_,fun b ps q => ?_⟩ (fun b o q => ?_) bare (fun b z => absurd z (by simp)),z⟩
 ·rw [upd_ne (ne0 b o e)]; exact un.free b o e n hx
 ·have := un.tups b xs q
  rw [upd_ne (ne b _ this)]; exact this
 ·have := un.frzs b o u q
  rw [upd_ne (ne b _ this)]; exact this
 ·obtain ⟨m,this⟩ := un.tbls b ps q
  exact ⟨m,by rw [upd_ne (ne b _ this)]; exact this⟩
 ·by_cases hb : b = a
  ·subst hb
   rw [upd_same] at q
   cases q
   exact ⟨⟨oe,e1,e2⟩,⟨oe,e1⟩,fun h1 h2 ⟨ox,q1,q2⟩ k => ⟨ox,k ox q1,q2⟩⟩
  ·rw [upd_ne hb] at q
   refine (ok b o q).stay (fun _ _ _ z => z) (fun c z => ?_) fun c xs z => ?_
   ·rw [upd_ne (ne c _ z)]; exact z
   ·rw [upd_ne (ne c _ z)]; exact z
noncomputable def clsV : V → Option Value
 | .ref C => some (.ref C)
 | .ty T => some (.type T)
 | _ => none
theorem clsV_rel {v : V} {u c : Value} (r : RelV v u) (h : clsV v = some c) : u = c := by
 cases v <;> cases h
 ·exact r
 ·exact r
theorem call_isiX : CallR X (.builtin "isinstance") (fun xs H Q => ∃ (a D : Addr) (c : V) (b : Bool),xs = [.ref a,c] ∧ H a = some (.ext (ExQ a D)) ∧ ExK X.K D ∧
  ((∃ v,clsV c = some v ∧ PySem.W.kitOne X.K (.ref D) v = some b) ∨ ∃ tp vs its,c = .ref tp ∧ SqT X.K H tp vs ∧ vs.map clsV = its.map some ∧ PySem.W.kitAny X.K (.ref D) its = some b) ∧ Q (.bl b) H) := by
 intro pins s σ H xs us Q I r h
 obtain ⟨a,D,c,b,rfl,ea,ck,alt,q⟩ := h
 obtain ⟨u,v,rfl,r1,r2⟩ := Vals.two r
 cases (show u = Value.ref a from r1)
 obtain ⟨ex,_⟩ := (show ObjOk X.prog X.w H s.heap a (.ext (ExQ a D)) from I.hok a _ ea)
 rcases alt with ⟨w',h1,h2⟩ | ⟨tp,vs,its,rfl,h1,h2,h3⟩
 ·cases clsV_rel r2 h1
  exact PySem.W.kia_one (kitx_exc ck) I.kIn ex h2 (fun z => nomatch z) fun tk => ⟨.bl b,H,I.tok tk,rfl,q⟩
 ·cases (show v = Value.ref tp from r2)
  obtain ⟨its',r3,⟨o,o1,o2,n,o3⟩,hz⟩ := I.tuple h1
  have e : its' = its := by
   clear h3 o3 h1 hz
   induction r3 generalizing its with
   | nil => cases its with | nil => rfl | cons _ _ => cases h2
   | cons ra _ ih =>
    cases its with
    | nil => cases h2
    | cons y ys =>
     rw [List.map_cons,List.map_cons,List.cons.injEq] at h2
     rw [clsV_rel ra h2.1,ih _ h2.2]
  subst e
  obtain ⟨oc,od,odt,osl⟩ := o
  cases o2
  cases o3
  exact PySem.W.kia_tup (kitx_exc ck) I.kIn ex o1 h3 (fun z => nomatch z) fun tk => ⟨.bl b,H,I.tok tk,rfl,q⟩
end
noncomputable def tTryAs (K : PySem.W.Frag) (C : Addr) (i : Nat) (tb : XK → TS) (th : TS) : TS := fun D σ H => ∃ (E : XK) (G : Addr) (bm' : List Value),tb E D σ H ∧ (∀ cls H',E cls none H' → cls = .ref G) ∧ ExC K G bm' ∧ (Value.ref G :: bm').contains (.ref C) = true ∧
 ∀ (a : Addr) (H' : Hp),E (.ref G) none H' → H' a = none → th { nx := fun σ' H2 => D.nx (σ'.set i none) H2,rt := D.rt,bk := fun σ' H2 => D.bk (σ'.set i none) H2,ct := fun σ' H2 => D.ct (σ'.set i none) H2 } (σ.set i (some (.ref a))) (upd H' a (.ext (ExQ a G)))
section
variable {X : Cx} {body suite : List Stmt} {b0 : Stmt} {tb : XK → TS} {th : TS} {C : Addr} {bm : List Value} {x n : Str} {i : Nat} {np hpos pos : Pos}
theorem ps_tryAs (hb : PSx X body tb) (c : ExC X.K C bm) (hg : Gl X x) (hm : X.mg x = some (.ref C)) (O : Own X) (hs : ∀ a,PSs (X.inH a) (b0 :: suite) th) (hN : X.N.Nodup) (hi : X.N[i]? = some n) (hk : X.env.scope.names.lookup n = some .local) (hdb : (x == ("__debug__" : Str)) = false := by decide) :
  PS X (.Try body [.ExceptHandler (some (.Name x np)) (some n) (b0 :: suite) hpos] [] [] pos) (tTryAs X.K C i tb th) := by
 intro pins s σ H D I ⟨E,G,bm',h1,hG,c',hc,h2⟩
 refine wpAny_Try_except (wpAny_mono (hb E pins s σ H D I h1) (fun f s1 q => ?_) (fun e s1 c1 => ?_))
 ·cases f with
  | next => exact wpAny_execs_nil q
  | ret v => exact q
  | brk => exact q
  | cont => exact q
 obtain ⟨H1,s0,I1,c1⟩ := c1
 refine noted_here I1 c1 O I.ok.frames fun s3 c3 => ?_
 obtain ⟨a,cls,H',rfl,J,⟨oe,e1,e2⟩,z⟩ := c3.inv I1
 have ec := hG cls H' z
 subst ec
 obtain ⟨nm,q,N,bs,hdct,sn,sub,ab,col,dd,k0,k1,k2,k3,k5,l1,_⟩ := c.ex
 obtain ⟨nm',q',N',bs',hdct',sn',sub',ab',col',dd',k0',k1',k2',k3',k5',l1',_⟩ := c'.ex
 refine wpAny_handleBy_cons (codeAny_handlers_test ?_) (fun z => nomatch z)
 refine Calls.Name_function_global I.ok.kind hg (Calls.loadGlobal_global (by rw [I.ok.glob]; exact I.mod.glob.keeps J.bk) hm ?_) hdb
 obtain ⟨h,g,d,t,os⟩ := s3
 refine exc_matches (J.kIn _ _ l1) (J.kIn _ _ l1') e1 e2 c.bx ?_
 rw [hc]
 refine codeAny_handlers_suite_as (flight_none I1 c3 fun s4 c4 => ?_)
 obtain ⟨a4,H4,e4,n4,J4,z4⟩ := c4.track hG I1
 cases e4
 refine store_ok J4 hN hi (.inl hk) (v := .ref a) rfl (fun s5 J5 => ?_) (.inr hk)
 refine wpAny_mono (hs a pins s5 _ _ _ (J5.inH a) (h2 a H4 z4 n4)) (fun f s6 q6 => ?_) fun _ _ z => z.elim
 have fin : ∀ {σ' : St} {H2 : Hp} {Q' : Shared → Prop},Inv (X.inH a) pins σ' H2 s6 → (∀ s7,Inv X pins (σ'.set i none) H2 s7 → Q' s7) → wpAny (model X.prog X.w) X.A (do bindName X.env n .none; unbindBehindTheSuite X.env n hpos) (fun _ s7 => Q' s7) X.xe s6 := fun {σ' H2 Q'} J6 qq => by
  have J6 := J6.outH I.ok
  refine wpAny_bind (wpAny_bindName (store_ok J6 hN hi (.inl hk) (v := .non) rfl (fun s7 J7 => ?_) (.inr hk)))
  unfold unbindBehindTheSuite
  have hl : i < σ'.length := by rw [J6.len]; exact (List.getElem?_eq_some_iff.mp hi).1
  refine wpAny_onRaise (unbind_ok J7 hN hi hk (List.getElem?_set_self hl) fun s8 J8 => qq s8 ?_)
  rw [List.set_set] at J8
  exact J8
 cases f with
 | next =>
  obtain ⟨σ',H2,J6,q7⟩ := q6
  exact fin J6 fun s7 J7 => ⟨_,H2,J7,q7⟩
 | brk =>
  obtain ⟨σ',H2,J6,q7⟩ := q6
  exact fin J6 fun s7 J7 => ⟨_,H2,J7,q7⟩
 | cont =>
  obtain ⟨σ',H2,J6,q7⟩ := q6
  exact fin J6 fun s7 J7 => ⟨_,H2,J7,q7⟩
 | ret u =>
  obtain ⟨v,σ',H2,J6,r,q7⟩ := q6
  exact fin J6 fun s7 J7 => ⟨v,_,H2,J7,r,q7⟩
end
structure QEx (X : Cx) (e : Expr) (t : XK → TE) : Prop where
 run : PEx X e t
structure QSx (X : Cx) (st : List Stmt) (t : XK → TS) : Prop where
 run : PSx X st t
section
variable {X : Cx} {E : XK} {x n : Str} {p np cpos hpos pos : Pos} {e : Expr} {es : List Expr} {t : TA} {k i : Nat} {ps : List Str} {sp : Sp} {body suite : List Stmt} {b0 : Stmt} {tb : XK → TS} {th : TS} {C : Addr} {bm : List Value}
theorem qs_raise (M : Makes X E) (c : ExC X.K C bm) (hg : Gl X x) (hm : X.mg x = some (.ref C)) (ha : QA X (e :: es) t) (hc : X.calm = true := by rfl) (hdb : (x == ("__debug__" : Str)) = false := by decide)
  (he : notStar e = true := by rfl) (hpl : (backTo cpos (starEach (e :: es) X.env)).any (·.1) = false := by rfl) : QS X (.Raise (some (.Call (.Name x np) (e :: es) [] cpos)) none pos) (tRaise C E t) := ⟨ps_raise M c hg hm ha.run hc hdb (se_of he) hpl⟩
theorem qex_fn (c : CalleeX X.prog X.w X.K X.mg X.base k x ps sp) (hr : Room k X.A) (hg : Gl X x) (ha : QA X.nox (e :: es) t) (hdb : (x == ("__debug__" : Str)) = false := by decide)
  (he : notStar e = true := by rfl) (hpl : (backTo pos (starEach es X.env)).any (·.1) = false := by rfl) : QEx X (.Call (.Name x p) (e :: es) [] pos) (fun E => tCall sp [] E t) := ⟨pex_fn c hr hg ha.run hdb (se_of he) hpl⟩
theorem qsx_expr {te : XK → TE} (he : QEx X e te) (hs : swapsWith e none pos.line X.env = pure false := by rfl) : QSx X [.Expr e pos] (fun E => tDrop (te E)) := ⟨psx_expr he.run hs⟩
theorem qs_tryAs (hb : QSx X body tb) (c : ExC X.K C bm) (hg : Gl X x) (hm : X.mg x = some (.ref C)) (O : Own X) (hs : ∀ a,QSs (X.inH a) (b0 :: suite) th) (hN : X.N.Nodup) (hi : X.N[i]? = some n) (hk : X.env.scope.names.lookup n = some .local) (hdb : (x == ("__debug__" : Str)) = false := by decide) :
  QS X (.Try body [.ExceptHandler (some (.Name x np)) (some n) (b0 :: suite) hpos] [] [] pos) (tTryAs X.K C i tb th) := ⟨ps_tryAs hb.run c hg hm O (fun a => (hs a).run) hN hi hk hdb⟩
theorem qe_cls (hg : Gl X x) (hm : X.mg x = some (.ref C)) (hd : (x == ("__debug__" : Str)) = false := by decide) : QE X (.Name x pos) (tC (.ref C)) := ⟨pe_glob hg hm rfl hd⟩
theorem qe_tyB {T : String} (hg : Gl X x) (hm : X.mg x = none) (hv : bootBuiltins x = some (.type T)) (hn : x ≠ "__name__" := by decide) (hd : (x == ("__debug__" : Str)) = false := by decide) : QE X (.Name x pos) (tC (.ty T)) := ⟨pe_bltn hg hm hv rfl hn hd⟩
theorem qcall_isiX : QCall X (.builtin "isinstance") (fun xs H Q => ∃ (a D : Addr) (c : V) (b : Bool),xs = [.ref a,c] ∧ H a = some (.ext (ExQ a D)) ∧ ExK X.K D ∧
  ((∃ v,clsV c = some v ∧ PySem.W.kitOne X.K (.ref D) v = some b) ∨ ∃ tp vs its,c = .ref tp ∧ SqT X.K H tp vs ∧ vs.map clsV = its.map some ∧ PySem.W.kitAny X.K (.ref D) its = some b) ∧ Q (.bl b) H) := ⟨call_isiX⟩
theorem qcall_isiXK (K : PySem.W.Frag) (hK : X.K = K) : QCall X (.builtin "isinstance") (fun xs H Q => ∃ (a D : Addr) (c : V) (b : Bool),xs = [.ref a,c] ∧ H a = some (.ext (ExQ a D)) ∧ ExK K D ∧
  ((∃ v,clsV c = some v ∧ PySem.W.kitOne K (.ref D) v = some b) ∨ ∃ tp vs its,c = .ref tp ∧ SqT K H tp vs ∧ vs.map clsV = its.map some ∧ PySem.W.kitAny K (.ref D) its = some b) ∧ Q (.bl b) H) := by subst hK; exact qcall_isiX
end
section
variable {P : Program} {w : World} {K : PySem.W.Frag} {mg : Str → Option Value} {base : Heap} {N : List Str} {qual : Str} {scope : Scope} {f : Addr} {cd : Value} {A : Around} {outer : List Env} {s : Shared} {H : Hp} {E : XK}
theorem own0 {CX : CXT} : Own (cxOf CX P w K mg base N qual scope f cd A outer s H E).nox := ⟨rfl,rfl,rfl⟩
theorem Fun.okX {x : Str} {st : Stmt} {fd : FuncData} {ps : List Str} {k : Nat} {sp : Sp} (F : Fun K x qual st f fd) (S : FnScope N ps (defScope st)) (len : ∀ vs H Q E,sp vs H Q E → vs.length = ps.length)
  (hbody : ∀ (cdv : Value) (A : Around) (outer : List Env) (s : Shared) (H : Hp) (vs : List V) (Q : VK) (E : XK),Room k (A.deeper (envOfC qual (defScope st) s.heap.objs.size f cdv)) → sp vs H Q E →
   ∃ t,QSs (cxE P w K mg base N qual (defScope st) f cdv A outer s H E) (defBody st) t ∧ t { nx := fun _ H' => Q .non H',rt := Q } (start N vs) H) : FnOk P w K mg base (CXE P w) (k + 1) f fd ps sp := by
 obtain ⟨oc,od,kV,doc,pm,an,cdv,ct,osl,rfl,lk,hcd⟩ := F.ex
 refine fn_of lk hcd S len fun A outer s H vs Q E hr hsp => ?_
 obtain ⟨t,h1,h2⟩ := hbody cdv A outer s H vs Q E hr hsp
 exact ⟨t,h1.run,h2⟩
end
section
variable {K : PySem.W.Frag} {C D : Addr}
theorem exc_of {nm q N bs bm hdct sn sub ab col dd k0 k1 k2 k3 k5} (l : K.lookup C = some (excClassObj nm q C N bs bm hdct sn sub ab col dd k0 k1 k2 k3 k5 "ValueError.__new__"))
  (e : PySem.W.excIn K C [.type "ValueError",.type "Exception",.type "BaseException",.type "object"] "ValueError.__new__" = true) (b : bm.contains (.type "BaseException") = true) : ExC K C bm := by
 unfold PySem.W.excIn at e
 rw [l] at e
 simp only [excClassObj,Bool.and_eq_true,beq_iff_eq] at e
 obtain ⟨⟨⟨_,ht⟩,hok⟩,hni⟩ := e
 exact ⟨⟨nm,q,N,bs,hdct,sn,sub,ab,col,dd,k0,k1,k2,k3,k5,l,hok,hni⟩,ht,b⟩
theorem kit_no {cd : ClassData} (c : PySem.W.clsIn K C = some cd) (t : PySem.W.typeIn K (.ref C) = some (.type "type")) (s : PySem.W.subIn K (.ref D) (.ref C) = some false) (ne : D ≠ C) : PySem.W.kitOne K (.ref D) (.ref C) = some false := by
 unfold PySem.W.kitOne
 rw [if_neg (by simp [ne])]
 unfold PySem.W.kitCls
 dsimp only
 rw [c,t]
 simp only [Option.isSome_some,Bool.true_and,beq_self_eq_true,if_true]
 exact s
theorem kit_yes {cd : ClassData} (c : PySem.W.clsIn K C = some cd) (t : PySem.W.typeIn K (.ref C) = some (.type "type")) (s : PySem.W.subIn K (.ref D) (.ref C) = some true) (ne : D ≠ C) : PySem.W.kitOne K (.ref D) (.ref C) = some true := by
 unfold PySem.W.kitOne
 rw [if_neg (by simp [ne])]
 unfold PySem.W.kitCls
 dsimp only
 rw [c,t]
 simp only [Option.isSome_some,Bool.true_and,beq_self_eq_true,if_true]
 exact s
theorem kit_ty {T : String} (m : PySem.W.kitMeta T = true) (s : PySem.W.subIn K (.ref D) (.type T) = some true) : PySem.W.kitOne K (.ref D) (.type T) = some true := by
 unfold PySem.W.kitOne
 rw [if_neg (by simp)]
 unfold PySem.W.kitCls
 dsimp only
 rw [if_pos m]
 exact s
theorem kit_none : ∀ {l : List Value},(∀ c ∈ l,PySem.W.kitOne K (.ref D) c = some false) → PySem.W.kitAny K (.ref D) l = some false
 | [],_ => rfl
 | c :: l,h => by
  show (match PySem.W.kitOne K (.ref D) c with | some true => some true | some false => PySem.W.kitAny K (.ref D) l | none => none) = _
  rw [h c List.mem_cons_self]
  exact kit_none fun x hx => h x (List.mem_cons_of_mem _ hx)
end
section
variable {X : Cx} {body suite1 suite2 : List Stmt} {b1 b2 : Stmt} {tb : XK → TS} {th1 th2 : TS} {C1 C2 : Addr} {bm1 bm2 : List Value} {x1 x2 n : Str} {i : Nat} {np1 hpos1 np2 hpos2 pos : Pos}
end
section
variable {P : Program} {w : World} {K : PySem.W.Frag} {mg : Str → Option Value} {base : Heap} {k : Nat} {f : Addr} {fd : FuncData} {ps : List Str} {sp sp1 sp2 : Sp} {x : Str}
theorem FnOk.or {CX : CXT} (F1 : FnOk P w K mg base CX k f fd ps sp1) (F2 : FnOk P w K mg base CX k f fd ps sp2) : FnOk P w K mg base CX k f fd ps (fun vs H Q E => sp1 vs H Q E ∨ sp2 vs H Q E) :=
 ⟨fun vs H Q E h => h.elim (F1.len vs H Q E) (F2.len vs H Q E),fun A outer s H args us vs Q E hr he hb hv hs => hs.elim (F1.run A outer s H args us vs Q E hr he hb hv) (F2.run A outer s H args us vs Q E hr he hb hv)⟩
end
end L2
namespace L2
open PySem PySem.Spec PyProof.Rows
section
variable {X : Cx} {e o : Expr} {es : List Expr} {te to : TE} {pos apos : Pos}
noncomputable abbrev TF := Str → St → Hp → (Str → Hp → Prop) → Prop
structure QF (X : Cx) (es : List Expr) (t : TF) : Prop where
 run : ∀ (pins : List (Addr × Obj)) (s : Shared) (σ : St) (H : Hp) (acc : Str) (Q : Str → Hp → Prop),Inv X pins σ H s → t acc σ H Q → Joins (model X.prog X.w) X.A X.xe (evalEach es X.env) acc (fun out s1 => ∃ H1,Inv X pins σ H1 s1 ∧ Q out H1) s
theorem joins_mono {M : Model} {A : Around} {E : Value → Shared → Prop} : ∀ (ps : List (Sem Value)) (acc : Str) (Q Q' : Str → Shared → Prop) (s : Shared),(∀ o s,Q o s → Q' o s) → Joins M A E ps acc Q s → Joins M A E ps acc Q' s
 | [],acc,Q,Q',s,h,q => h _ _ q
 | x :: r,acc,Q,Q',s,h,q => wpAny_mono q (fun v s1 ⟨y,t,e,z,q1⟩ => ⟨y,t,e,z,joins_mono r _ Q Q' s1 h q1⟩) fun _ _ e => e
theorem qf_nil : QF X [] (fun acc _ H Q => Q acc H) := ⟨fun pins s σ H acc Q I h => ⟨H,I,h⟩⟩
theorem qf_str {x : Str} {j pos} {t : TF} (h : QF X es t) (he : evalEach (.Constant (.str x) j pos :: es) X.env = eval (.Constant (.str x) j pos) X.env :: evalEach es X.env := by rfl) :
  QF X (.Constant (.str x) j pos :: es) (fun acc σ H Q => (acc ++ x).length ≤ sizeLine ∧ t (acc ++ x) σ H Q) := ⟨by
 intro pins s σ H acc Q I q
 rw [he]
 refine Calls.Constant_str ⟨x,_,rfl,q.1,h.run pins _ σ H _ Q (I.tok _) q.2⟩⟩
theorem qf_val {t : TF} (hv : QE X e te) (h : QF X es t) (he : evalEach (.FormattedValue e (-1) none pos :: es) X.env = eval (.FormattedValue e (-1) none pos) X.env :: evalEach es X.env := by rfl) :
  QF X (.FormattedValue e (-1) none pos :: es) (fun acc σ H Q => te σ H fun v H1 => (∃ i : Int,v = .int i ∧ i.natAbs.log2 < 1920 ∧ (acc ++ toString i).length ≤ sizeLine ∧ t (acc ++ toString i) σ H1 Q) ∨ (∃ y,v = .str y ∧ y.length ≤ sizeLine ∧ (acc ++ y).length ≤ sizeLine ∧ t (acc ++ y) σ H1 Q)) := ⟨by
 intro pins s σ H acc Q I q
 rw [he]
 refine wpAny_FormattedValue_plain (thn (hv.run pins s σ H _ I q) fun u s1 ⟨v,H1,I1,rv,q1⟩ => ?_)
 rcases q1 with ⟨i,rfl,hl,hz,q2⟩ | ⟨y,rfl,hl,hz,q2⟩
 ·obtain ⟨tk,rfl⟩ := rv
  exact wpAny_formatField_int hl ⟨_,_,rfl,hz,h.run pins _ σ H1 _ Q (I1.tok _) q2⟩
 ·obtain ⟨tk,rfl⟩ := rv
  exact wpAny_formatField_str ⟨_,_,rfl,hz,h.run pins _ σ H1 _ Q I1 q2⟩ ⟨_,_,rfl,hz,h.run pins _ σ H1 _ Q (I1.tok _) q2⟩ hl⟩
theorem qe_fstr {v1 v2 : Expr} {t : TF} (h : QF X (v1 :: v2 :: es) t) : QE X (.JoinedStr (v1 :: v2 :: es) pos) (fun σ H Q => t Str.empty σ H fun out H1 => out.length ≤ sizeLine ∧ Q (.str out) H1) := ⟨by
 intro pins s σ H Q I q
 refine wpAny_JoinedStr (joins_mono _ _ _ _ _ (fun out s1 hq => ?_) (h.run pins s σ H _ _ I q))
 obtain ⟨H1,I1,hz,q1⟩ := hq
 exact ⟨hz,.str out,H1,I1.tok _,⟨_,rfl⟩,q1⟩⟩
noncomputable def rJoin (K : PySem.W.Frag) : V → List V → Hp → VK → Prop := fun x vs H Q => ∃ sep p ys,x = .str sep ∧ vs = [.ref p] ∧ SqL K H p (ys.map V.str) ∧ JoinOk sep ys = true ∧ Q (.str (Txt.join sep ys)) H
theorem strs_of : ∀ {ys : List Str} {its : List Value},Vals (ys.map V.str) its → ∃ l : List (Str × Tok),strValues l = its ∧ l.map (·.1) = ys
 | [],_,r => by
  cases r
  exact ⟨[],rfl,rfl⟩
 | y :: ys,_,r => by
  cases r with
  | cons r1 r2 =>
   obtain ⟨t,rfl⟩ := r1
   obtain ⟨l,h1,h2⟩ := strs_of r2
   exact ⟨(y,t) :: l,by rw [← h1]; rfl,by rw [← h2]; rfl⟩
theorem mt_join : MtR X "str.join" (rJoin X.K) := by
 intro pins s σ H x vs v us Q I rx rv h
 obtain ⟨sep,p,ys,rfl,rfl,hS,hok,q⟩ := h
 obtain ⟨t,rfl⟩ := rx
 obtain ⟨u,rfl,ru⟩ := vals1 rv
 cases ru
 obtain ⟨its,r,pl,hz⟩ := I.list hS
 obtain ⟨l,h1,h2⟩ := strs_of r
 subst h1
 exact SC.join pl.isList h2 hok fun t' k => ⟨.str _,H,I.kept (h' := s.heap) (t' := k) (fun _ _ e => e),⟨_,rfl⟩,q⟩
theorem qe_join {t : TA} (ho : QE X o to) (ha : QA X [e] t) (h : notStar e = true := by rfl) (hbase : attributeBase o "join" X.env (eval o X.env) = eval o X.env := by rfl) (hline : (apos.endLine == pos.line) = true := by rfl) :
  QE X (.Call (.Attribute o "join" apos) [e] [] pos) (tBM X.K "str" (rJoin X.K) to t) := ⟨pe_bm PySem.F.plainAttrs_str PySem.F.slot_str_join PySem.F.type_str_join mt_join ho.run ha.run hbase (by rw [se_of h]; rfl) hline (se_of h) rfl⟩
noncomputable def rIndex (K : PySem.W.Frag) : V → List V → Hp → VK → Prop := fun x vs H Q => ∃ (l : Addr) (k : Int) (ns : List Int),x = .ref l ∧ vs = [.int k] ∧ SqL K H l (ns.map V.int) ∧ PyData.layable0 (.list (ns.map .int)) = true ∧ k ∈ ns ∧ Q (.int ((ns.idxOf k : Nat) : Int)) H
theorem mt_index : MtR X "list.index" (rIndex X.K) := by
 intro pins s σ H x vs v us Q I rx rv h
 obtain ⟨l,k,ns,rfl,rfl,hS,hl,hk,q⟩ := h
 cases rx
 obtain ⟨u,rfl,t,rfl⟩ := vals1 rv
 obtain ⟨its,r,pl,hz⟩ := I.list hS
 exact index_list_ints pl.isList (intsAre_of r) hl hk ⟨.int _,H,I.tok _,⟨_,rfl⟩,q⟩
theorem qe_index {t : TA} (ho : QE X o to) (ha : QA X [e] t) (h : notStar e = true := by rfl) (hbase : attributeBase o "index" X.env (eval o X.env) = eval o X.env := by rfl) (hline : (apos.endLine == pos.line) = true := by rfl) :
  QE X (.Call (.Attribute o "index" apos) [e] [] pos) (tBM X.K "list" (rIndex X.K) to t) := ⟨pe_bm PySem.F.plainAttrs_list PySem.F.slot_list_index PySem.F.type_list_index mt_index ho.run ha.run hbase (by rw [se_of h]; rfl) hline (se_of h) rfl⟩
theorem qe_indexK (K : PySem.W.Frag) (hK : X.K = K) {t : TA} (ho : QE X o to) (ha : QA X [e] t) (h : notStar e = true := by rfl) (hbase : attributeBase o "index" X.env (eval o X.env) = eval o X.env := by rfl) (hline : (apos.endLine == pos.line) = true := by rfl) :
  QE X (.Call (.Attribute o "index" apos) [e] [] pos) (tBM K "list" (rIndex K) to t) := by
 subst hK
 exact qe_index ho ha h hbase hline
theorem qcall_listK (K : PySem.W.Frag) (hK : X.K = K) : QCall X (.type "list") (fun xs H Q => ∃ p ys,xs = [.ref p] ∧ (SqL K H p ys ∨ SqT K H p ys) ∧ ∀ l,H l = none → Q (.ref l) (upd H l (.lst ys))) := by
 subst hK
 exact qcall_list
theorem qop_mulS : QOp X (binaryOp .Mult) (fun x y H Q => ∃ (z : Str) (n : Int),x = .str z ∧ y = .int n ∧ MulOk z n ∧ Q (.str (Txt.mul z n)) H) := ⟨by
 intro pins s σ H x y v u Q I rx ry h
 obtain ⟨z,n,rfl,rfl,hok,q⟩ := h
 obtain ⟨t,rfl⟩ := rx
 obtain ⟨t2,rfl⟩ := ry
 exact SB.mul hok fun t' k => ⟨.str _,H,I.kept (h' := s.heap) (t' := k) (fun _ _ e => e),⟨_,rfl⟩,q⟩⟩
theorem qop_addS : QOp X (binaryOp .Add) (fun x y H Q => ∃ i j,x = .str i ∧ y = .str j ∧ i.length + j.length ≤ sizeLine ∧ Q (.str (i ++ j)) H) := ⟨op_add_str⟩
theorem qcall_str : QCall X (.type "str") (fun xs H Q => ∃ i,xs = [.int i] ∧ i.natAbs.log2 < 1920 ∧ Q (.str (toString i)) H) := ⟨call_str_int⟩
theorem qix_str : QIx X rIxS := ⟨ix_str⟩
theorem bt_str : bootBuiltins "str" = some (.type "str") := by decide +kernel
noncomputable def rSlS : V → Option Int → Option Int → Hp → VK → Prop := fun x lo hi H Q => ∃ z,x = .str z ∧ lo = none ∧ (∃ j,hi = some j) ∧ z.length ≤ sizeLine ∧ Q (.str (Txt.slice z lo hi)) H
theorem sl_strn : SlR X rSlS := by
 intro pins s σ H x v vl vu lo hi sl Q I rx hs pl pu h
 obtain ⟨z,rfl,rfl,⟨j,rfl⟩,hz,q⟩ := h
 obtain ⟨t,rfl⟩ := rx
 cases pl
 cases pu with
 | int i uj =>
  refine ⟨"str",_,PySem.F.slot_str_getitem.lookup,typeIs_str _ _ _,?_⟩
  exact wpAny_getItem_str_slice (l := none) (u := some (j,uj)) (st := none) hs rfl (post_val_or_str ⟨Nat.le_trans (Txt.slice_le z _ _) hz,fun t' k => ⟨.str _,H,I.kept (h' := s.heap) (t' := k) (fun _ _ e => e),⟨_,rfl⟩,q⟩⟩)
theorem qe_slS {lo hi : Option Expr} {tl th : TO} {p2 : Pos} (he : QE X e te) (hl : QO X lo tl) (hu : QO X hi th) : QE X (.Subscript e (.Slice lo hi none p2) pos) (tSl rSlS te tl th) := ⟨pe_slice sl_strn he.run hl.run hu.run⟩
theorem qop_notInL : QOp X (compareOp .NotIn) (rIn X.K true) := ⟨op_notIn_seq⟩
end
end L2
namespace L2
open PySem PySem.Spec PyProof.Rows
noncomputable def Its (x : Str) : It := ⟨fun i _ => i < x.length,fun i H v H' => H' = H ∧ ∃ c,x.cps[i]? = some c ∧ v = .str ⟨#[c]⟩,fun i _ => i = x.length⟩
theorem turn_str {P : Program} {w : World} {K : PySem.W.Frag} {tg : Expr} (x : Str) (t : Tok) (it : Addr) : Turn P w K tg (Its x) [it] it (fun i h => h.IsStrIter it "str_ascii_iterator" x t i) where
 mem := by simp
 obj := fun i h st b hb => by
  have e : b = it := by simpa using hb
  subst e
  obtain ⟨o,e,c,d⟩ := st
  exact ⟨o,e,fun v z => by rw [d] at z; cases z⟩
 keep := fun i h h' st k => by
  obtain ⟨o,e,r⟩ := st
  exact ⟨o,k it (by simp) o e,r⟩
 item := by
  intro X hP hw hK hc i pins s σ H E I hf st hg
  subst hP hw hK
  have hi : i < x.cps.size := hg
  obtain ⟨f0,f1,f2,f3,f4,f5⟩ := hf it (by simp)
  refine wpAny_pyNext_ascii_item st (c := x.cps[i]) (by simp [hi]) fun h' st' hs => ?_
  have I1 : Inv X pins σ H { s with heap := h',toks := s.toks + 1 } := I.turned (t' := s.toks + 1) (fun b o hb e => hs.extBut b o hb e) f0 f1 f3 f4 f5
  obtain ⟨o,e,c,d⟩ := id st'
  exact ⟨_,rfl,go_of (s := { s with heap := h',toks := s.toks + 1 }) e c d (by decide) ⟨.str ⟨#[x.cps[i]]⟩,H,I1,⟨_,rfl⟩,⟨rfl,_,by simp [hi],rfl⟩,st',fun b hb => (hf b hb).1⟩⟩
 done := by
  intro X hP hw hK hc i pins s σ H E I hf st hg
  subst hP hw hK
  have hg' : i = x.length := hg
  subst hg'
  obtain ⟨f0,f1,f2,f3,f4,f5⟩ := hf it (by simp)
  exact wpAny_pyNext_ascii_end (I.ok.hd hc) st (by simp [Str.length]) fun h' eb => ⟨rfl,I.turned (t' := s.toks) (fun b o hb e => eb b o hb e) f0 f1 f3 f4 f5⟩
 self := fun _ _ _ _ _ st h => wpAny_pyIter_striter_ascii st h
noncomputable def iStr (tl : TE) : TI := fun σ H R => tl σ H fun v H1 => ∃ x,v = .str x ∧ x.cps.all (· < 128) = true ∧ R (Its x) H1
section
variable {X : Cx} {pos apos : Pos} {o e tg : Expr} {to te : TE}
theorem pi_str {l : Expr} {tl : TE} (hl : PE X l tl) : PI X tg l (iStr tl) := by
 intro pins s σ H R I h
 refine thn (hl pins s σ H _ I h) fun v s1 ⟨x,H1,I1,r1,q1⟩ => ?_
 obtain ⟨z,rfl,ha,q⟩ := q1
 obtain ⟨t,rfl⟩ := r1
 refine wpAny_pyIter_ascii ha ?_
 refine ⟨s1.heap.objs.size,[s1.heap.objs.size],_,_,H1,rfl,I1.kept (t' := s1.toks) fun b o e => Heap.get?_push_of_some _ e,turn_str z t _,⟨_,Heap.get?_push_size _ rfl,rfl,rfl⟩,fun b hb => ?_,q⟩
 have e : b = s1.heap.objs.size := by simpa using hb
 subst e
 exact I1.fpOk (Nat.le_refl _) (I1.hok.fresh (Nat.le_refl _))
theorem qi_str {l : Expr} {tl : TE} (hl : QE X l tl) : QI X tg l (iStr tl) := ⟨pi_str hl.run⟩
end
section
variable {x : Str} {caps : List (Option Nat)} {g : TG} {te : TE} {σ : St} {H : Hp} {Q : VK}
theorem comp_str (Pv : Addr → Nat → Hp → Prop) (h0 : ∀ D,H D = none → Pv D 0 (upd H D (.lst [])))
  (hs : ∀ D i c H',H D = none → x.cps[i]? = some c → Pv D i H' → g (.str ⟨#[c]⟩) (seen caps σ) H' fun σ4 H4 => (∀ (k : Nat) v,(seen caps σ)[k]? = some (some v) → σ4[k]? = some (some v)) ∧
   te σ4 H4 fun y H6 => ∃ ys,H6 D = some (.lst ys) ∧ ys.length < sizeLine ∧ Pv D (i + 1) (upd H6 D (.lst (ys ++ [y]))))
  (hd : ∀ D H',H D = none → Pv D x.length H' → Q (.ref D) H') : cBody caps g tTrue te σ Q (Its x) H := by
 intro D hD
 refine ⟨fun i m H' => m = x.length - i ∧ i ≤ x.length ∧ Pv D i H',⟨x.length,by simp,Nat.zero_le _,h0 D hD⟩,?_⟩
 intro i m H2 z9;obtain ⟨rfl,hi,p⟩ := z9
 by_cases hlt : i < x.length
 ·refine .inr ⟨hlt,Pv D (i + 1),fun H' p' => ⟨x.length - (i + 1),by omega,rfl,hlt,p'⟩,fun v H3 y => ?_⟩
  obtain ⟨rfl,c,hc,rfl⟩ := y
  have := hs D i c H3 hD hc p
  refine (?_ : g _ _ _ _)
  exact this
 ·have e : i = x.length := by omega
  subst e
  exact .inl ⟨rfl,hd D H2 hD p⟩
end
section
variable {X : Cx} {pos apos : Pos} {o e : Expr} {to : TE} {t : TA}
theorem vals_strs : ∀ l : List (Str × Tok),Vals ((l.map (·.1)).map V.str) (strValues l)
 | [] => .nil
 | (y,t) :: l => .cons ⟨t,rfl⟩ (vals_strs l)
noncomputable def rSplit : V → List V → Hp → VK → Prop := fun x vs H Q => ∃ z sep,x = .str z ∧ vs = [.str sep] ∧ (sep.length == 0) = false ∧ z.length ≤ sizeLine ∧ (Builtin.Str.partsBetween z (Builtin.Str.occurrences z sep 0 z.length (z.length + 1)) sep.length).length ≤ sizeLine ∧ (Txt.split z sep).length ≤ sizeLine ∧ ∀ l,H l = none → Q (.ref l) (upd H l (.lst ((Txt.split z sep).map V.str)))
theorem mt_split : MtR X "str.split" rSplit := by
 intro pins s σ H x vs v us Q I rx rv h
 obtain ⟨z,sep,rfl,rfl,hy,hz,hz2,hz3,q⟩ := h
 obtain ⟨t,rfl⟩ := rx
 obtain ⟨u',rfl,u,rfl⟩ := vals1 rv
 have fin : ∀ (l : List (Str × Tok)) (k : Nat),l.map (·.1) = Txt.split z sep → EP X pins σ Q (.ref s.heap.objs.size) { s with heap := s.heap.push { cls := .type "list",data := .seq (strValues l).toArray },toks := k } := fun l k e => by
  refine ⟨.ref s.heap.objs.size,_,I.laid (t' := k) (fun b o e => Heap.get?_push_of_some _ e) (Nat.le_refl _) (show ObjOk X.prog X.w _ _ _ (.lst ((Txt.split z sep).map V.str)) from ⟨by rw [List.length_map]; exact hz3,strValues l,0,?_,Heap.get?_push_size _ rfl⟩),rfl,q _ (I.hok.fresh (Nat.le_refl _))⟩
  rw [← e]
  exact vals_strs l
 cases h1 : (decide (z.length < sep.length) || decide (Builtin.Str.strKind z < Builtin.Str.strKind sep))
 ·cases hf : (Builtin.Str.occurrences z sep 0 z.length (z.length + 1)).isEmpty
  ·refine call_meets F.slot_str_split (typeIs_str _ _ _) F.entry_str_split (F.args_str_split_2 _ _) (meets_str_split_sep z sep t u h1 hy hf hz hz2) ?_
   show wants _ _ _ { s with toks := _,heap := s.heap.push { cls := .type "list",data := .seq (strsFrom s.toks (Builtin.Str.partsBetween z (Builtin.Str.occurrences z sep 0 z.length (z.length + 1)) sep.length)).toArray } }
   rw [strsFrom_eq]
   exact fin (numbered s.toks _) _ ((numbered_texts _ _).trans ((if_neg (ne_true_of_eq_false h1)).trans (if_neg (ne_true_of_eq_false hf))).symm)
  ·exact call_meets F.slot_str_split (typeIs_str _ _ _) F.entry_str_split (F.args_str_split_2 _ _) (meets_str_split_not_found z sep t u h1 hy hf) (fin [(z,t)] _ ((if_neg (ne_true_of_eq_false h1)).trans (if_pos hf)).symm)
 ·exact call_meets F.slot_str_split (typeIs_str _ _ _) F.entry_str_split (F.args_str_split_2 _ _) (meets_str_split_cannot_occur z sep t u h1) (fin [(z,t)] _ (if_pos h1).symm)
theorem qe_split (K : PySem.W.Frag) (hK : X.K = K) (ho : QE X o to) (ha : QA X [e] t) (h : notStar e = true := by rfl) (hbase : attributeBase o "split" X.env (eval o X.env) = eval o X.env := by rfl) (hline : (apos.endLine == pos.line) = true := by rfl) :
  QE X (.Call (.Attribute o "split" apos) [e] [] pos) (tBM K "str" rSplit to t) := by
 subst hK
 exact ⟨pe_bm PySem.F.plainAttrs_str PySem.F.slot_str_split PySem.F.type_str_split mt_split ho.run ha.run hbase (by rw [se_of h]; rfl) hline (se_of h) rfl⟩
noncomputable def rPart : V → List V → Hp → VK → Prop := fun x vs H Q => ∃ z sep,x = .str z ∧ vs = [.str sep] ∧ (sep.length == 0) = false ∧ z.length ≤ sizeLine ∧ ∀ l,H l = none → Q (.ref l) (upd H l (.tup [.str (Txt.partition z sep).1,.str (Txt.partition z sep).2.1,.str (Txt.partition z sep).2.2]))
theorem mt_part : MtR X "str.partition" rPart := by
 intro pins s σ H x vs v us Q I rx rv h
 obtain ⟨z,sep,rfl,rfl,hy,hz,q⟩ := h
 obtain ⟨t,rfl⟩ := rx
 obtain ⟨u',rfl,u,rfl⟩ := vals1 rv
 have fin : ∀ (ta tb tc : Tok) (k : Nat),EP X pins σ Q (.ref s.heap.objs.size) { s with heap := s.heap.push { cls := .type "tuple",data := .seq [.str (Txt.partition z sep).1 ta,.str (Txt.partition z sep).2.1 tb,.str (Txt.partition z sep).2.2 tc].toArray },toks := k } := fun ta tb tc k => by
  refine ⟨.ref s.heap.objs.size,_,I.laid (t' := k) (fun b o e => Heap.get?_push_of_some _ e) (Nat.le_refl _) (show ObjOk X.prog X.w _ _ _ (.tup [.str (Txt.partition z sep).1,.str (Txt.partition z sep).2.1,.str (Txt.partition z sep).2.2]) from ⟨(by show 3 ≤ sizeLine; decide),[.str (Txt.partition z sep).1 ta,.str (Txt.partition z sep).2.1 tb,.str (Txt.partition z sep).2.2 tc],.cons ⟨_,rfl⟩ (.cons ⟨_,rfl⟩ (.cons ⟨_,rfl⟩ .nil)),_,Heap.get?_push_size _ rfl,rfl,_,rfl⟩),rfl,q _ (I.hok.fresh (Nat.le_refl _))⟩
 refine call_meets F.slot_str_partition (typeIs_str _ _ _) F.entry_str_partition (F.args_str_partition_2 _ _) (meets_str_partition z sep t u hy hz) ?_
 have h' := fin
 unfold Txt.partition at h'
 revert h'
 cases Builtin.Str.occurrences z sep 0 z.length 1 with
 | nil => intro h'; exact h' _ _ _ _
 | cons i r => intro h'; exact h' _ _ _ _
theorem qe_part (K : PySem.W.Frag) (hK : X.K = K) (ho : QE X o to) (ha : QA X [e] t) (h : notStar e = true := by rfl) (hbase : attributeBase o "partition" X.env (eval o X.env) = eval o X.env := by rfl) (hline : (apos.endLine == pos.line) = true := by rfl) :
  QE X (.Call (.Attribute o "partition" apos) [e] [] pos) (tBM K "str" rPart to t) := by
 subst hK
 exact ⟨pe_bm PySem.F.plainAttrs_str PySem.F.slot_str_partition PySem.F.type_str_partition mt_part ho.run ha.run hbase (by rw [se_of h]; rfl) hline (se_of h) rfl⟩
theorem op_in_sign : OpR X (compareOp .In) (fun x y H Q => ∃ (c : Nat) (j : Str),x = .str ⟨#[c]⟩ ∧ y = .str j ∧ Q (.bl (decide (c ∈ j.cps.toList))) H) := by
 intro pins s σ H x y v u Q I rx ry h
 obtain ⟨c,j,rfl,rfl,q⟩ := h
 obtain ⟨t,rfl⟩ := rx
 obtain ⟨t',rfl⟩ := ry
 rw [← StrLaws.found_one] at q
 exact in_str ⟨.bl _,H,I,rfl,q⟩
theorem qop_inS : QOp X (compareOp .In) (fun x y H Q => ∃ (c : Nat) (j : Str),x = .str ⟨#[c]⟩ ∧ y = .str j ∧ Q (.bl (decide (c ∈ j.cps.toList))) H) := ⟨op_in_sign⟩
theorem call_lenS : CallR X (.builtin "len") (fun xs H Q => ∃ z : Str,xs = [.str z] ∧ z.length ≤ sizeLine ∧ Q (.int z.length) H) := by
 intro pins s σ H xs us Q I r h
 obtain ⟨z,rfl,hz,q⟩ := h
 obtain ⟨u,rfl,t,rfl⟩ := vals1 r
 have hn := line63
 exact len_str (by omega) ⟨.int z.length,H,I.tok _,⟨_,rfl⟩,q⟩
theorem qcall_lenS : QCall X (.builtin "len") (fun xs H Q => ∃ z : Str,xs = [.str z] ∧ z.length ≤ sizeLine ∧ Q (.int z.length) H) := ⟨call_lenS⟩
theorem call_intS : CallR X (.type "int") (fun xs H Q => ∃ (z : Str) (n : Int),xs = [.str z] ∧ PySem.intText? z = some n ∧ z.length ≤ 640 ∧ Q (.int n) H) := by
 intro pins s σ H xs us Q I r h
 obtain ⟨z,n,rfl,hn,hz,q⟩ := h
 obtain ⟨u,rfl,t,rfl⟩ := vals1 r
 exact PySem.W.KIN.call_text hn hz ⟨.int n,H,I.tok _,⟨_,rfl⟩,q⟩
theorem qcall_intS : QCall X (.type "int") (fun xs H Q => ∃ (z : Str) (n : Int),xs = [.str z] ∧ PySem.intText? z = some n ∧ z.length ≤ 640 ∧ Q (.int n) H) := ⟨call_intS⟩
noncomputable def rIndexS (K : PySem.W.Frag) : V → List V → Hp → VK → Prop := fun x vs H Q => ∃ (l : Addr) (z : Str) (ys : List Str),x = .ref l ∧ vs = [.str z] ∧ SqL K H l (ys.map V.str) ∧ z ∈ ys ∧ ys.length ≤ sizeLine ∧ Q (.int ((ys.idxOf z : Nat) : Int)) H
theorem flat_strs (ys : List Str) : (ys.map V.str).all flatV = true := by
 rw [List.all_eq_true]
 intro y hy
 obtain ⟨z,_,rfl⟩ := List.mem_map.mp hy
 rfl
theorem mt_indexS : MtR X "list.index" (rIndexS X.K) := by
 intro pins s σ H x vs v us Q I rx rv h
 obtain ⟨l,z,ys,rfl,rfl,hS,hk,hl,q⟩ := h
 cases rx
 obtain ⟨u',rfl,u,rfl⟩ := vals1 rv
 obtain ⟨its,r,pl,hz⟩ := I.list hS
 obtain ⟨⟨cls,dd,data,sl⟩,ho,hc,n,hd⟩ := pl.isList
 simp only at hc hd
 subst hc hd
 have hlen := r.length
 rw [List.length_map] at hlen
 have hj : ys.idxOf z < ys.length := List.idxOf_lt_length_iff.mpr hk
 have hn := line63
 have at_ : ∀ (i : Nat) (h1 : i < its.toArray.size) (h2 : i < ys.length),eqU (.str z) (its.toArray[i]) = decide (ys[i] = z) := fun i h1 h2 => by
  have e1 : (ys.map V.str)[i]? = some (.str ys[i]) := by rw [List.getElem?_map,List.getElem?_eq_getElem h2]; rfl
  obtain ⟨w,hw,rw'⟩ := r.get e1
  obtain ⟨tw,rfl⟩ := rw'
  have : its.toArray[i] = .str ys[i] tw := by
   have := (List.getElem?_eq_some_iff.mp hw).2
   simpa using this
  rw [this]
  show (ys[i] == z) = _
  rw [Bool.eq_iff_iff,beq_iff_eq,decide_eq_true_eq]
 refine call_meets PySem.F.slot_list_index ⟨_,ho,rfl⟩ PySem.F.entry_list_index (PySem.F.args_list_index_2 _ _)
  (SeqAt.list_indexAt l its.toArray n dd sl (.str z u) (eqU (.str z)) (ys.idxOf z) (by simp; omega) (by omega) ?_ ?_) ⟨ho,fun y hy => mem_eqAt (x := .str z) ⟨u,rfl⟩ rfl r (flat_strs ys) y (by simpa using hy),⟨.int _,H,I.tok _,⟨_,rfl⟩,q⟩⟩
 ·rw [at_ _ (by simp; omega) hj]
  simp [List.getElem_idxOf hj]
 ·intro j hjs hlt
  rw [at_ j hjs (by simp at hjs; omega)]
  refine decide_eq_false fun e => ?_
  have := List.not_of_lt_findIdx (xs := ys) (p := (· == z)) (i := j) hlt
  simp [e] at this
theorem qe_indexS (K : PySem.W.Frag) (hK : X.K = K) (ho : QE X o to) (ha : QA X [e] t) (h : notStar e = true := by rfl) (hbase : attributeBase o "index" X.env (eval o X.env) = eval o X.env := by rfl) (hline : (apos.endLine == pos.line) = true := by rfl) :
  QE X (.Call (.Attribute o "index" apos) [e] [] pos) (tBM K "list" (rIndexS K) to t) := by
 subst hK
 exact ⟨pe_bm PySem.F.plainAttrs_list PySem.F.slot_list_index PySem.F.type_list_index mt_indexS ho.run ha.run hbase (by rw [se_of h]; rfl) hline (se_of h) rfl⟩
theorem qe_gStr {x : Str} {z : Str} {tk : Tok} (hg : Gl X x) (hm : X.mg x = some (.str z tk)) (hd : (x == ("__debug__" : Str)) = false := by decide) : QE X (.Name x pos) (tC (.str z)) := ⟨pe_glob hg hm ⟨_,rfl⟩ hd⟩
theorem qe_gInt {x : Str} {z : Int} {tk : Tok} (hg : Gl X x) (hm : X.mg x = some (.int z tk)) (hd : (x == ("__debug__" : Str)) = false := by decide) : QE X (.Name x pos) (tC (.int z)) := ⟨pe_glob hg hm ⟨_,rfl⟩ hd⟩
end
end L2
namespace L2
open PySem PySem.Spec PyProof.Rows
section
variable {X : Cx} {pos : Pos} {e : Expr} {te : TE}
noncomputable def rSlA : V → Option Int → Option Int → Hp → VK → Prop := fun x lo hi H Q => ∃ z,x = .str z ∧ z.length ≤ sizeLine ∧ Q (.str (Txt.slice z lo hi)) H
theorem sl_strA : SlR X rSlA := by
 intro pins s σ H x v vl vu lo hi sl Q I rx hs pl pu h
 obtain ⟨z,rfl,hz,q⟩ := h
 obtain ⟨t,rfl⟩ := rx
 refine ⟨"str",_,PySem.F.slot_str_getitem.lookup,typeIs_str _ _ _,?_⟩
 cases pl with
 | none =>
  cases pu with
  | none => exact wpAny_getItem_str_slice (l := none) (u := none) (st := none) hs rfl (post_val_or_str ⟨Nat.le_trans (Txt.slice_le z _ _) hz,fun t' k => ⟨.str _,H,I.kept (h' := s.heap) (t' := k) (fun _ _ e => e),⟨_,rfl⟩,q⟩⟩)
  | int j uj => exact wpAny_getItem_str_slice (l := none) (u := some (_,uj)) (st := none) hs rfl (post_val_or_str ⟨Nat.le_trans (Txt.slice_le z _ _) hz,fun t' k => ⟨.str _,H,I.kept (h' := s.heap) (t' := k) (fun _ _ e => e),⟨_,rfl⟩,q⟩⟩)
 | int i ui =>
  cases pu with
  | none => exact wpAny_getItem_str_slice (l := some (_,ui)) (u := none) (st := none) hs rfl (post_val_or_str ⟨Nat.le_trans (Txt.slice_le z _ _) hz,fun t' k => ⟨.str _,H,I.kept (h' := s.heap) (t' := k) (fun _ _ e => e),⟨_,rfl⟩,q⟩⟩)
  | int j uj => exact wpAny_getItem_str_slice (l := some (_,ui)) (u := some (_,uj)) (st := none) hs rfl (post_val_or_str ⟨Nat.le_trans (Txt.slice_le z _ _) hz,fun t' k => ⟨.str _,H,I.kept (h' := s.heap) (t' := k) (fun _ _ e => e),⟨_,rfl⟩,q⟩⟩)
theorem qe_slA {lo hi : Option Expr} {tl th : TO} {p2 : Pos} (he : QE X e te) (hl : QO X lo tl) (hu : QO X hi th) : QE X (.Subscript e (.Slice lo hi none p2) pos) (tSl rSlA te tl th) := ⟨pe_slice sl_strA he.run hl.run hu.run⟩
end
theorem pick_run (x : Array Nat) (a : Nat) : ∀ m : Nat,a + m ≤ x.size → ((List.range m).map (a + ·)).filterMap (x[·]?) = (x.toList.drop a).take m
 | 0,_ => by simp
 | m + 1,h => by
  rw [List.range_succ,List.map_append,List.filterMap_append,pick_run x a m (by omega),List.take_add_one,List.getElem?_drop,Array.getElem?_toList]
  have hx : x[a + m]? = some x[a + m] := Array.getElem?_eq_getElem (by omega)
  simp [hx]
theorem slice_of {x : Str} {lo hi : Option Int} {a b : Nat} (hi' : Builtin.Str.strSliceIndices lo hi 1 x.length = (List.range (b - a)).map (a + ·)) (ab : b ≤ x.length) (aa : a ≤ x.length) : (Txt.slice x lo hi).cps.toList = (x.cps.toList.drop a).take (b - a) := by
 have sz : x.length = x.cps.size := rfl
 unfold Txt.slice
 rw [hi']
 split
 ·rename_i c
  have c' : b - a = x.length := by simpa using c
  have a0 : a = 0 := by
   by_cases z : x.length = 0
   ·omega
   ·omega
  subst a0
  rw [List.drop_zero,c',sz,List.take_of_length_le (by simp)]
 ·show (((List.range (b - a)).map (a + ·)).filterMap (x.cps[·]?)).toArray.toList = _
  by_cases z : a ≤ b
  ·rw [pick_run x.cps a (b - a) (by omega)]
  ·have : b - a = 0 := by omega
   rw [this]
   simp
theorem idx_of {a b : Int} (ha : 0 ≤ a) : sliceRange a b 1 = (List.range (b.toNat - a.toNat)).map (a.toNat + ·) := by
 unfold sliceRange
 simp only [show (1 : Int) > 0 by decide,if_true]
 have ec : (if a < b then (b - a + 1 - 1) / 1 else 0).toNat = b.toNat - a.toNat := by
  split
  ·rw [Int.ediv_one]
   omega
  ·omega
 rw [ec]
 refine List.map_congr_left fun k _ => ?_
 omega
theorem slice_ss {x : Str} {i j : Int} (h0 : 0 ≤ i) (h1 : 0 ≤ j) : (Txt.slice x (some i) (some j)).cps.toList = (x.cps.toList.drop i.toNat).take (j.toNat - i.toNat) := by
 have sz : x.cps.toList.length = x.length := by simp [Str.length]
 have := slice_of (x := x) (lo := some i) (hi := some j) (a := min i.toNat x.length) (b := min j.toNat x.length) (by
  unfold Builtin.Str.strSliceIndices
  simp only [show (1 : Int) > 0 by decide,if_true]
  rw [show (if i < 0 then i + (x.length : Int) else i) = i from if_neg (by omega),show (if j < 0 then j + (x.length : Int) else j) = j from if_neg (by omega),idx_of (by omega)]
  have e1 : (max 0 (min i (x.length : Int))).toNat = min i.toNat x.length := by omega
  have e2 : (max 0 (min j (x.length : Int))).toNat = min j.toNat x.length := by omega
  rw [e1,e2]) (by omega) (by omega)
 rw [this]
 by_cases c : i.toNat ≤ x.length
 ·rw [Nat.min_eq_left c]
  by_cases d : j.toNat ≤ x.length
  ·rw [Nat.min_eq_left d]
  ·have em : min j.toNat x.length = x.length := by omega
   rw [em,List.take_of_length_le (by rw [List.length_drop]; omega),List.take_of_length_le (by rw [List.length_drop]; omega)]
 ·have em : min i.toNat x.length = x.length := by omega
  rw [em,List.drop_eq_nil_of_le (by omega),List.drop_eq_nil_of_le (by omega)]
  simp
theorem slice_sn {x : Str} {i : Int} (h0 : 0 ≤ i) : (Txt.slice x (some i) none).cps.toList = x.cps.toList.drop i.toNat := by
 have sz : x.cps.toList.length = x.length := by simp [Str.length]
 have := slice_of (x := x) (lo := some i) (hi := none) (a := min i.toNat x.length) (b := x.length) (by
  unfold Builtin.Str.strSliceIndices
  simp only [show (1 : Int) > 0 by decide,if_true]
  rw [show (if i < 0 then i + (x.length : Int) else i) = i from if_neg (by omega),idx_of (by omega)]
  have e1 : (max 0 (min i (x.length : Int))).toNat = min i.toNat x.length := by omega
  have e2 : ((x.length : Nat) : Int).toNat = x.length := by omega
  rw [e1,e2]) (by omega) (by omega)
 rw [this]
 by_cases c : i.toNat ≤ x.length
 ·rw [Nat.min_eq_left c,List.take_of_length_le (by rw [List.length_drop]; omega)]
 ·have em : min i.toNat x.length = x.length := by omega
  rw [em,List.drop_eq_nil_of_le (by omega),List.drop_eq_nil_of_le (by omega)]
  simp
theorem slice_ns {x : Str} {j : Int} (h1 : 0 ≤ j) : (Txt.slice x none (some j)).cps.toList = x.cps.toList.take j.toNat := by
 have sz : x.cps.toList.length = x.length := by simp [Str.length]
 have := slice_of (x := x) (lo := none) (hi := some j) (a := 0) (b := min j.toNat x.length) (by
  unfold Builtin.Str.strSliceIndices
  simp only [show (1 : Int) > 0 by decide,if_true]
  rw [show (if j < 0 then j + (x.length : Int) else j) = j from if_neg (by omega),idx_of (by omega)]
  have e2 : (max 0 (min j (x.length : Int))).toNat = min j.toNat x.length := by omega
  rw [e2]
  rfl) (by omega) (by omega)
 rw [this,List.drop_zero,Nat.sub_zero]
 by_cases d : j.toNat ≤ x.length
 ·rw [Nat.min_eq_left d]
 ·rw [Nat.min_eq_right (by omega),List.take_of_length_le (by omega),List.take_of_length_le (by omega)]
end L2
namespace L2
open PySem PySem.Spec PyProof.Rows
section
variable {X : Cx} {pos p2 : Pos} {e st : Expr} {te : TE} {ts : TO}
theorem rev_in (z : Str) (u : Tok) : ∀ c ∈ (Txt.sliceBy z none none (-1,u)).cps.toList,c ∈ z.cps.toList := fun c hc => by
 unfold Txt.sliceBy at hc
 split at hc
 ·exact hc
 ·have hc : c ∈ (slicePicked z none none (some ((-1 : Int),u))).filterMap (z.cps[·]?) := by simpa using hc
  obtain ⟨i,_,e⟩ := List.mem_filterMap.mp hc
  exact Array.mem_toList_iff.mpr (Array.mem_of_getElem? e)
noncomputable def tRev (te : TE) (ts : TO) : TE := fun σ H Q => te σ H fun x H1 => ts σ H1 fun k H2 => ∃ z,x = .str z ∧ k = some (-1) ∧ z.length ≤ sizeLine ∧ ∀ y : Str,y.length ≤ z.length → (∀ c ∈ y.cps.toList,c ∈ z.cps.toList) → Q (.str y) H2
theorem pe_rev (he : PE X e te) (hs : PO X (some st) ts) : PE X (.Subscript e (.Slice none none (some st) p2) pos) (tRev te ts) := by
 intro pins s σ H Q I h
 refine Subscript_ (thn (he pins s σ H _ I h) fun v s1 ⟨x,H1,I1,r1,q1⟩ => ?_)
 refine wpAny_Slice ?_
 rw [evalPart_none]
 refine wpAny_pure (wpAny_pure ?_)
 refine thn (hs pins s1 σ H1 _ I1 q1) fun vk s3 ⟨k,H3,I3,pk,q3⟩ => ?_
 obtain ⟨z,rfl,rfl,hz,q⟩ := q3
 obtain ⟨t,rfl⟩ := r1
 cases pk with
 | int k uk =>
 have I4 : Inv X pins σ H3 { s3 with heap := s3.heap.push { cls := .type "slice",data := .fields #[.none,.none,.int (-1) uk] } } := I3.kept (t' := s3.toks) fun b ob q => Heap.get?_push_of_some _ q
 show wpAny (model X.prog X.w) X.A (subscriptTail e (.Slice none none (some st) p2) (.str z t) (.ref s3.heap.objs.size)) (EP X pins σ Q) X.xe { s3 with heap := s3.heap.push { cls := .type "slice",data := .fields #[.none,.none,.int (-1) uk] } }
 exact tail_any (ops := [.ref s3.heap.objs.size,.str z t]) (typeIs_str _ _ _) PySem.F.slot_str_getitem.lookup (wpAny_getItem_str_slice (l := none) (u := none) (st := some (-1,uk)) ⟨_,Heap.get?_push_size _ rfl,rfl,rfl⟩ rfl
  (post_val_or_str ⟨Nat.le_trans (Txt.sliceBy_le z _ _ (-1,uk) (by show (-1 : Int) ≠ 0; decide)) hz,fun t' c => ⟨.str _,H3,I4.kept (t' := c) (fun _ _ e => e),⟨_,rfl⟩,q _ (Txt.sliceBy_le z _ _ (-1,uk) (by show (-1 : Int) ≠ 0; decide)) (rev_in z uk)⟩⟩)) (by with_unfolding_all rfl)
theorem qe_rev (he : QE X e te) (hs : QO X (some st) ts) : QE X (.Subscript e (.Slice none none (some st) p2) pos) (tRev te ts) := ⟨pe_rev he.run hs.run⟩
theorem op_notin_sign : OpR X (compareOp .NotIn) (fun x y H Q => ∃ (c : Nat) (j : Str),x = .str ⟨#[c]⟩ ∧ y = .str j ∧ Q (.bl (!decide (c ∈ j.cps.toList))) H) := by
 intro pins s σ H x y v u Q I rx ry h
 obtain ⟨c,j,rfl,rfl,q⟩ := h
 obtain ⟨t,rfl⟩ := rx
 obtain ⟨t',rfl⟩ := ry
 rw [← StrLaws.found_one] at q
 exact PyProof.Rows.notIn_str ⟨.bl _,H,I,rfl,q⟩
theorem qop_notInS : QOp X (compareOp .NotIn) (fun x y H Q => ∃ (c : Nat) (j : Str),x = .str ⟨#[c]⟩ ∧ y = .str j ∧ Q (.bl (!decide (c ∈ j.cps.toList))) H) := ⟨op_notin_sign⟩
end
end L2
namespace L2
open PySem PySem.Spec PyProof.Rows
theorem any_range (bs : List Bool) : ((List.range bs.length).any fun i => (bs[i]?).getD true) = bs.any id := by
 rw [Bool.eq_iff_iff,List.any_eq_true,List.any_eq_true]
 constructor
 ·intro z9;obtain ⟨i,hi,h⟩ := z9
  have hi' := List.mem_range.mp hi
  rw [List.getElem?_eq_getElem hi'] at h
  exact ⟨_,List.getElem_mem hi',h⟩
 ·intro z9;obtain ⟨x,hx,h⟩ := z9
  obtain ⟨i,hi,e⟩ := List.mem_iff_getElem.mp hx
  refine ⟨i,List.mem_range.mpr hi,?_⟩
  rw [List.getElem?_eq_getElem hi,e]
  exact h
section
variable {X : Cx}
theorem call_any (hc : X.calm = true) : CallR X (.builtin "any") (fun xs H Q => ∃ (p : Addr) (bs : List Bool),xs = [.ref p] ∧ SqL X.K H p (bs.map V.bl) ∧ Q (.bl (bs.any id)) H) := by
 intro pins s σ H xs us Q I r h
 obtain ⟨p,bs,rfl,hS,q⟩ := h
 obtain ⟨u,rfl,ru⟩ := vals1 r
 cases ru
 obtain ⟨its,rv,pl,hz⟩ := I.list hS
 have hl := pl.isList
 have hlt : p < s.heap.objs.size := by obtain ⟨_,e,_⟩ := hl; exact Heap.lt_size e
 refine call_any_walk (wpAny_pyIter_list hl ?_)
 refine ⟨s.heap.objs.size,[s.heap.objs.size,p],[s.heap.objs.size],its.toArray.size,_,_,fun i => (bs[i]?).getD true,rfl,Walks.list (A := X.A.in1) (I.ok.hd hc) _ p (Nat.ne_of_lt hlt) its.toArray,
  ⟨⟨_,Heap.get?_push_size _ rfl,rfl,rfl⟩,hl.push _⟩,fun i v s' Q' E' hP hQ => ?_,fun h' tk hk => ?_⟩
 ·obtain ⟨k,e,rfl⟩ := vals_bl rv (i := i) (v := v) (by simpa using hP)
  simp only [e,Option.getD_some] at hQ
  exact wpAny_truthy_bool hQ
 ·have e : ((List.range its.toArray.size).any fun i => (bs[i]?).getD true) = bs.any id := by
   have hl2 := rv.length
   rw [List.length_map] at hl2
   rw [List.size_toArray,← hl2]
   exact any_range bs
  rw [e]
  have keep : ∀ b x,s.heap.get? b = some x → h'.get? b = some x := fun b x e => hk b x (fun hm => by rw [List.mem_singleton.mp hm] at e; exact Nat.lt_irrefl _ (Heap.lt_size e)) (Heap.get?_push_of_some _ e)
  exact ⟨.bl (bs.any id),H,I.kept (t' := tk) keep,rfl,q⟩
theorem bt_any : bootBuiltins "any" = some (.builtin "any") := by decide +kernel
theorem qcall_any (hc : X.calm = true) : QCall X (.builtin "any") (fun xs H Q => ∃ (p : Addr) (bs : List Bool),xs = [.ref p] ∧ SqL X.K H p (bs.map V.bl) ∧ Q (.bl (bs.any id)) H) := ⟨call_any hc⟩
end
end L2
namespace My
open PySem L2
open PyProof.Rows (toString_length_le)
open Ma (T3 T4 rA rB rC)
theorem sc_is_whole : FnScope ["thing"] ["thing"] (defScope st_is_whole) := ⟨rfl,rfl,rfl,by decide +kernel,rfl,by decide +kernel,by decide +kernel⟩
theorem sc_is_window : FnScope ["day","thing"] ["day","thing"] (defScope st_is_window) := ⟨rfl,rfl,rfl,by decide +kernel,rfl,by decide +kernel,by decide +kernel⟩
theorem sc_read_number : FnScope ["text","most_figures"] ["text","most_figures"] (defScope st_read_number) := ⟨rfl,rfl,rfl,by decide +kernel,rfl,by decide +kernel,by decide +kernel⟩
theorem sc_is_name : FnScope ["text"] ["text"] (defScope st_is_name) := ⟨rfl,rfl,rfl,by decide +kernel,rfl,by decide +kernel,by decide +kernel⟩
theorem sc_read_ends : FnScope ["text","parts"] ["text"] (defScope st_read_ends) := ⟨rfl,rfl,rfl,by decide +kernel,rfl,by decide +kernel,by decide +kernel⟩
theorem sc_read_span : FnScope ["text","parts","a","b"] ["text"] (defScope st_read_span) := ⟨rfl,rfl,rfl,by decide +kernel,rfl,by decide +kernel,by decide +kernel⟩
theorem sc_read_window : FnScope ["day","text","parts","span","ride","window"] ["day","text"] (defScope st_read_window) := ⟨rfl,rfl,rfl,by decide +kernel,rfl,by decide +kernel,by decide +kernel⟩
theorem sc_read_day : FnScope ["text","parts","day"] ["text"] (defScope st_read_day) := ⟨rfl,rfl,rfl,by decide +kernel,rfl,by decide +kernel,by decide +kernel⟩
theorem sc_read_board : FnScope ["day","words","board"] ["day","words"] (defScope st_read_board) := ⟨rfl,rfl,rfl,by decide +kernel,rfl,by decide +kernel,by decide +kernel⟩
theorem sc_number_of : FnScope ["names","name"] ["names","name"] (defScope st_number_of) := ⟨rfl,rfl,rfl,by decide +kernel,rfl,by decide +kernel,by decide +kernel⟩
theorem sc_read_net : FnScope ["text","parts","day","names","roads","part","words","ends","board","start"] ["text"] (defScope st_read_net) := ⟨rfl,rfl,rfl,by decide +kernel,rfl,by decide +kernel,by decide +kernel⟩
theorem sc_show_window : FnScope ["a","b","c"] ["a","b","c"] (defScope st_show_window) := ⟨rfl,rfl,rfl,by decide +kernel,rfl,by decide +kernel,by decide +kernel⟩
theorem sc_show_board : FnScope ["board"] ["board"] (defScope st_show_board) := ⟨rfl,rfl,rfl,by decide +kernel,rfl,by decide +kernel,by decide +kernel⟩
theorem sc_show_road : FnScope ["start","end","board","windows"] ["start","end","board"] (defScope st_show_road) := ⟨rfl,rfl,rfl,by decide +kernel,rfl,by decide +kernel,by decide +kernel⟩
theorem sc_show_net : FnScope ["day","names","roads"] ["day","names","roads"] (defScope st_show_net) := ⟨rfl,rfl,rfl,by decide +kernel,rfl,by decide +kernel,by decide +kernel⟩
theorem sc__law_cell : FnScope ["script","k"] ["script","k"] (defScope st__law_cell) := ⟨rfl,rfl,rfl,by decide +kernel,rfl,by decide +kernel,by decide +kernel⟩
theorem sc__law_day : FnScope ["cell","rest"] ["cell"] (defScope st__law_day) := ⟨rfl,rfl,rfl,by decide +kernel,rfl,by decide +kernel,by decide +kernel⟩
theorem sc__law_size : FnScope ["cell"] ["cell"] (defScope st__law_size) := ⟨rfl,rfl,rfl,by decide +kernel,rfl,by decide +kernel,by decide +kernel⟩
theorem sc__law_road_window : FnScope ["day","one","two","three","a","rest","b","c"] ["day","one","two","three"] (defScope st__law_road_window) := ⟨rfl,rfl,rfl,by decide +kernel,rfl,by decide +kernel,by decide +kernel⟩
theorem sc__law_net : FnScope ["day","size","goal","cells","roads","k","head","start"] ["day","size","goal","cells"] (defScope st__law_net) := ⟨rfl,rfl,rfl,by decide +kernel,rfl,by decide +kernel,by decide +kernel⟩
theorem sc__law_roads : FnScope ["day","size","goal","script","cell","many"] ["day","size","goal","script"] (defScope st__law_roads) := ⟨rfl,rfl,rfl,by decide +kernel,rfl,by decide +kernel,by decide +kernel⟩
theorem sc__law_names : FnScope ["cell","many","letters","size","at","names","k","rest","name","j","place"] ["cell","many"] (defScope st__law_names) := ⟨rfl,rfl,rfl,by decide +kernel,rfl,by decide +kernel,by decide +kernel⟩
theorem sc__law_as_they_come : FnScope ["roads","order","start","end","board","place"] ["roads"] (defScope st__law_as_they_come) := ⟨rfl,rfl,rfl,by decide +kernel,rfl,by decide +kernel,by decide +kernel⟩
theorem sc__law_many : FnScope ["roads","most","start","end","board"] ["roads"] (defScope st__law_many) := ⟨rfl,rfl,rfl,by decide +kernel,rfl,by decide +kernel,by decide +kernel⟩
theorem sc__law_text : FnScope ["day","names","roads","text","start","end","board","a","b","c"] ["day","names","roads"] (defScope st__law_text) := ⟨rfl,rfl,rfl,by decide +kernel,rfl,by decide +kernel,by decide +kernel⟩
theorem sc__law_net_by : FnScope ["day","script","size","roads"] ["day","script"] (defScope st__law_net_by) := ⟨rfl,rfl,rfl,by decide +kernel,rfl,by decide +kernel,by decide +kernel⟩
theorem sc__law_run : FnScope ["text","at","signs"] ["text","at","signs"] (defScope st__law_run) := ⟨rfl,rfl,rfl,by decide +kernel,rfl,by decide +kernel,by decide +kernel⟩
theorem sc__law_number : FnScope ["text","at","end"] ["text","at"] (defScope st__law_number) := ⟨rfl,rfl,rfl,by decide +kernel,rfl,by decide +kernel,by decide +kernel⟩
theorem sc__law_window_at : FnScope ["day","text","at","first","a","b","last","ride"] ["day","text","at"] (defScope st__law_window_at) := ⟨rfl,rfl,rfl,by decide +kernel,rfl,by decide +kernel,by decide +kernel⟩
theorem sc__law_road_at : FnScope ["day","names","text","at","middle","end","places","name","board","row"] ["day","names","text","at"] (defScope st__law_road_at) := ⟨rfl,rfl,rfl,by decide +kernel,rfl,by decide +kernel,by decide +kernel⟩
theorem sc__law_read : FnScope ["text","head","names","roads","at","row"] ["text"] (defScope st__law_read) := ⟨rfl,rfl,rfl,by decide +kernel,rfl,by decide +kernel,by decide +kernel⟩
theorem sc__law_figures : FnScope ["day","text","at","cell","end","some"] ["day","text","at","cell"] (defScope st__law_figures) := ⟨rfl,rfl,rfl,by decide +kernel,rfl,by decide +kernel,by decide +kernel⟩
theorem sc__law_bent : FnScope ["day","text","cell","at","rest","sign","far"] ["day","text","cell"] (defScope st__law_bent) := ⟨rfl,rfl,rfl,by decide +kernel,rfl,by decide +kernel,by decide +kernel⟩
theorem sc__law_odd : FnScope ["cell","some"] ["cell"] (defScope st__law_odd) := ⟨rfl,rfl,rfl,by decide +kernel,rfl,by decide +kernel,by decide +kernel⟩
theorem sc__law_under : FnScope ["text","named","e"] ["text"] (defScope st__law_under) := ⟨rfl,rfl,rfl,by decide +kernel,rfl,by decide +kernel,by decide +kernel⟩
theorem sc_law : FnScope ["script","day","roads","names","text","due","found"] ["script"] (defScope st_law) := ⟨rfl,rfl,rfl,by decide +kernel,rfl,by decide +kernel,by decide +kernel⟩
theorem cx_k {CX : CXT} {P : Program} {w : World} {K : PySem.W.Frag} {mg : Str → Option Value} {base : Heap} {N : List Str} {qual : Str} {scope : Scope} {f : Addr} {cd : Value} {A : Around} {outer : List Env} {s : Shared} {H : Hp} {E : XK} : (cxOf CX P w K mg base N qual scope f cd A outer s H E).K = K := rfl
theorem cx_kn {CX : CXT} {P : Program} {w : World} {K : PySem.W.Frag} {mg : Str → Option Value} {base : Heap} {N : List Str} {qual : Str} {scope : Scope} {f : Addr} {cd : Value} {A : Around} {outer : List Env} {s : Shared} {H : Hp} {E : XK} : (cxOf CX P w K mg base N qual scope f cd A outer s H E).nox.K = K := rfl
theorem bl_1 {us : List Value} (h : us.length = 1) : ∃ a0 : Value,us = [a0] := match us,h with | [_],_ => ⟨_,rfl⟩
theorem bl_2 {us : List Value} (h : us.length = 2) : ∃ a0 a1 : Value,us = [a0,a1] := match us,h with | [_,_],_ => ⟨_,_,rfl⟩
theorem bl_3 {us : List Value} (h : us.length = 3) : ∃ a0 a1 a2 : Value,us = [a0,a1,a2] := match us,h with | [_,_,_],_ => ⟨_,_,_,rfl⟩
theorem bl_4 {us : List Value} (h : us.length = 4) : ∃ a0 a1 a2 a3 : Value,us = [a0,a1,a2,a3] := match us,h with | [_,_,_,_],_ => ⟨_,_,_,_,rfl⟩
theorem as_nil (env : Env) : (assignEach [] env).length = 0 := rfl
theorem as_name (x : Str) (p : Pos) (l : List Expr) (env : Env) : (assignEach (.Name x p :: l) env).length = (assignEach l env).length + 1 := rfl
structure Bl (mg : Str → Option Value) : Prop where
 len : mg "len" = none
 max : mg "max" = none
 min : mg "min" = none
 all : mg "all" = none
 any : mg "any" = none
 range : mg "range" = none
 isinstance : mg "isinstance" = none
 bool_ : mg "bool" = none
 int_ : mg "int" = none
 tuple_ : mg "tuple" = none
 list_ : mg "list" = none
 str_ : mg "str" = none
noncomputable def spLaw (K : PySem.W.Frag) : Sp := fun vs H Q _ => ∃ (a : Addr) (ns : List Int),vs = [.ref a] ∧ SqL K H a (ns.map V.int) ∧ ns.length ≤ 63 ∧ ∀ H',Q (.bl true) H'
theorem emod_b (x : Int) {m : Int} (h : 0 < m) : 0 ≤ x % m ∧ x % m < m := ⟨Int.emod_nonneg x (by omega),Int.emod_lt_of_pos x h⟩
section
variable {P : Program} {w : World} {K : PySem.W.Frag} {mg : Str → Option Value} {base : Heap} {f : Addr} {fd : FuncData} {n : Nat}
theorem ok_is_whole (F : Fun K "is_whole" "is_whole" st_is_whole f fd) (B : Bl mg) : FnOk P w K mg base CX0 (n + 1) f fd ["thing"] spIsWhole := by
 refine F.okQ sc_is_whole (fun vs H Q E h => ?_) (fun cdv A outer s H vs Q E hr h => ?_)
 ·obtain ⟨_,rfl,_⟩ := h
  rfl
 obtain ⟨x,rfl,dv,q⟩ := h
 refine ⟨_,(qss_one (qs_ret (qe_and (qe_cb qcall_isi rfl B.isinstance bt_isinstance (qa_c (qv 0) (qa_c (qe_bltn (v := .ty "int") rfl B.int_ bt_int rfl) qa_nil))) (qe_one (qe_not (qe_cb qcall_isi rfl B.isinstance bt_isinstance (qa_c (qv 0) (qa_c (qe_bltn (v := .ty "bool") rfl B.bool_ bt_bool rfl) qa_nil)))))))),?_⟩
 try dsimp only [cx_k,cx_kn,as_nil,as_name,Nat.reduceAdd]
 cases dv with
 | non => exact ⟨_,rfl,_,"int",_,_,rfl,.non,rfl,_,rfl,iteF q⟩
 | bl b => exact ⟨_,rfl,_,"int",_,_,rfl,.bl _,rfl,_,rfl,iteT ⟨_,rfl,_,"bool",_,_,rfl,.bl _,rfl,_,rfl,q⟩⟩
 | int i => exact ⟨_,rfl,_,"int",_,_,rfl,.int _,rfl,_,rfl,iteT ⟨_,rfl,_,"bool",_,_,rfl,.int _,rfl,_,rfl,q⟩⟩
 | str z => exact ⟨_,rfl,_,"int",_,_,rfl,.str _,rfl,_,rfl,iteF q⟩
 | lst e => exact ⟨_,rfl,_,"int",_,_,rfl,.lst e,rfl,_,rfl,iteF q⟩
 | tup e => exact ⟨_,rfl,_,"int",_,_,rfl,.tup e,rfl,_,rfl,iteF q⟩
theorem ok_is_window (F : Fun K "is_window" "is_window" st_is_window f fd) (B : Bl mg) (C_is_whole : Callee P w K mg base n "is_whole" ["thing"] spIsWhole) : FnOk P w K mg base CX0 (n + 1) f fd ["day","thing"] spWindow := by
 refine F.okQ sc_is_window (fun vs H Q E h => ?_) (fun cdv A outer s H vs Q E hr h => ?_)
 ·obtain ⟨_,_,rfl,_⟩ := h
  rfl
 obtain ⟨day,x,rfl,dv,q⟩ := h
 refine ⟨_,(qss_cons (qs_if (QW.pt (qw_or (qt_not (qt_val (qe_cb qcall_isi rfl B.isinstance bt_isinstance (qa_c (qv 1) (qa_c (qe_bltn (v := .ty "tuple") rfl B.tuple_ bt_tuple rfl) qa_nil))))) (qw_or1 (qt_cmpR qop_ne (qe_cb qcall_len rfl B.len bt_len (qa_c (qv 1) qa_nil)) qe_int (nomark _))))) (qss_one (qs_ret qe_bl)) qss_nil) (qss_cons (qs_if (qt_not (qt_val (qe_cb (qcall_all rfl) rfl B.all bt_all (qa_c (qe_comp ["part"] [none] (BlkOk.of rfl rfl (SubL.to subN) rfl) rfl (qi_tup (qv 1)) (fun _ _ _ _ => (qg_name (i := 0) (show (["part"] : List Str).Nodup by decide) rfl (Or.inl rfl))) (fun _ _ _ _ => (qe_fn C_is_whole hr rfl (qa_c (qv 0) qa_nil)))) qa_nil)))) (qss_one (qs_ret qe_bl)) qss_nil) (qss_one (qs_ret (qe_and (qe_chain3 qop_le qop_le qop_lt qe_int (qe_ix qix_tup (qv 1) qe_int (fun _ _ => rfl)) (qe_ix qix_tup (qv 1) qe_int (fun _ _ => rfl)) (qv 0)) (qe_one (qe_cmpR qop_ge (qe_ix qix_tup (qv 1) qe_int (fun _ _ => rfl)) qe_int (nomark _)))))))),?_⟩
 try dsimp only [cx_k,cx_kn,as_nil,as_name,Nat.reduceAdd]
 obtain ⟨t,hty,hk⟩ := dv.1.isTup (K := K)
 have q0 : winV H day x = false → ∀ H',Same H H' → Q (.bl false) H' := fun e H' s => by
  have := q H' s
  rw [e] at this
  exact this
 cases ht : tupV H x with
 | none =>
  rw [ht] at hk
  have hw : winV H day x = false := by unfold winV; rw [ht]
  exact ⟨_,rfl,_,"tuple",t,_,rfl,hty,hk,_,rfl,iteT (iteT (q0 hw _ (Same.refl H)))⟩
 | some xs =>
  rw [ht] at hk
  have hwl : winV H day x = winL day xs := by unfold winV; rw [ht]
  have dz := dv.2 xs ht
  obtain ⟨r,rfl,er⟩ := tupV_at ht
  refine ⟨_,rfl,_,"tuple",t,_,rfl,hty,hk,_,rfl,iteF ?_⟩
  refine ⟨_,rfl,r,xs,rfl,.inr (SqT.of er),rfl,_,rfl,?_⟩
  by_cases hl : xs.length = 3
  ·obtain ⟨u,v,w',rfl⟩ := three hl
   refine iteN (by simp) ?_
   refine ⟨_,rfl,r,rfl,⟨_,SqT.of er⟩,?_⟩
   refine comp_tup0 (K := K) (a := r) (xs := [u,v,w']) (fun D i H' => Same H H' ∧ H' D = some (.lst ((([u,v,w'] : List V).take i).map fun y => V.bl (isWh y)))) (fun D hD => ⟨same_new hD _,upd_same⟩) (fun D i H' _ _ h => SqT.of (h.1 _ _ er)) ?_ ?_
   ·intro D i y H' hD hi z9;obtain ⟨s2,hD2⟩ := z9
    refine ⟨fun k v' e => ?_,_,rfl,y,rfl,(dz y (List.mem_of_getElem? hi)).same s2,_,hD2,(by rw [List.length_map,List.length_take]; exact small1000 (by simp; omega)),fun b o eb => ?_,?_⟩
    ·match k,e with
     | 0,e => cases e
     | k + 1,e => cases e
    ·rw [upd_ne (ne_of_none eb hD)]
     exact s2 _ _ eb
    ·rw [upd_same,take_snoc _ hi]
   ·intro D H' hD z9;obtain ⟨s2,hD2⟩ := z9
    have eD : H' D = some (.lst (([isWh u,isWh v,isWh w'] : List Bool).map V.bl)) := hD2
    refine ⟨D,_,rfl,SqL.of eD,_,rfl,?_⟩
    refine ite2 (fun c => ?_) (fun c => ?_)
    ·refine q0 ?_ H' s2
     rw [hwl]
     have c' : (isWh u && (isWh v && isWh w')) = false := by cases hu : isWh u <;> cases hv : isWh v <;> cases hw : isWh w' <;> simp [hu,hv,hw] at c ⊢
     unfold winL
     split
     ·rename_i a b c e
      cases e
      exact absurd c' (by simp [isWh])
     ·rfl
    ·have c' : isWh u = true ∧ isWh v = true ∧ isWh w' = true := by simpa using c
     obtain ⟨a,rfl⟩ := isWh_int c'.1
     obtain ⟨b,rfl⟩ := isWh_int c'.2.1
     obtain ⟨c3,rfl⟩ := isWh_int c'.2.2
     have q1 := q H' s2
     rw [hwl] at q1
     have er' := s2 _ _ er
     unfold winL at q1
     dsimp only at q1
     refine ⟨_,rfl,r,_,_,_,rfl,rfl,SqT.of er',rfl,_,_,rfl,rfl,_,rfl,?_⟩
     refine ite2 (fun c1 => ?_) (fun c1 => ?_)
     ·rw [c1,Bool.true_and] at q1
      refine ⟨_,rfl,r,_,_,_,rfl,rfl,SqT.of er',rfl,_,_,rfl,rfl,_,rfl,?_⟩
      refine ite2 (fun c2 => ?_) (fun c2 => ?_)
      ·rw [c2,Bool.true_and] at q1
       refine ⟨_,rfl,_,_,rfl,rfl,_,rfl,?_⟩
       refine ite2 (fun c3 => ?_) (fun c3 => ?_)
       ·rw [c3,Bool.true_and] at q1
        exact ⟨_,rfl,r,_,_,_,rfl,rfl,SqT.of er',rfl,_,_,rfl,rfl,q1⟩
       ·rw [Bool.eq_false_iff.mpr c3,Bool.false_and] at q1
        exact q1
      ·rw [Bool.eq_false_iff.mpr c2,Bool.false_and] at q1
       exact ⟨_,rfl,iteF q1⟩
     ·rw [Bool.eq_false_iff.mpr c1,Bool.false_and] at q1
      exact ⟨_,rfl,iteF q1⟩
  ·refine iteP (by simp; omega) (q0 ?_ _ (Same.refl H))
   rw [hwl]
   unfold winL
   split
   ·rename_i e
    exact absurd rfl hl
   ·rfl
end
theorem menu4b {a b c d j : Int} {ok : Int → Prop} (ha : ok a) (hb : ok b) (hc : ok c) (hd : ok d) (h0 : 0 ≤ j) (h1 : j < 4) : ∃ v : Int,atI [V.int a,V.int b,V.int c,V.int d] j = some (.int v) ∧ ok v := by
 rcases (by omega : j = 0 ∨ j = 1 ∨ j = 2 ∨ j = 3) with rfl | rfl | rfl | rfl
 ·exact ⟨a,rfl,ha⟩
 ·exact ⟨b,rfl,hb⟩
 ·exact ⟨c,rfl,hc⟩
 ·exact ⟨d,rfl,hd⟩
section
variable {P : Program} {w : World} {K : PySem.W.Frag} {mg : Str → Option Value} {base : Heap} {f : Addr} {fd : FuncData} {n : Nat}
theorem ok_cellA (F : Fun K "_law_cell" "_law_cell" st__law_cell f fd) (B : Bl mg) : FnOk P w K mg base CX0 (n + 1) f fd ["script","k"] (spCell K) := by
 refine F.okQ sc__law_cell (fun vs H Q E h => ?_) (fun cdv A outer s H vs Q E hr h => ?_)
 ·obtain ⟨_,_,_,rfl,_⟩ := h
  rfl
 obtain ⟨a,ns,k,rfl,hS,h0,q⟩ := h
 refine ⟨_,(qss_cons (qs_if (qt_cmpR qop_lt (qv 1) (qe_cb qcall_len rfl B.len bt_len (qa_c (qv 0) qa_nil)) (nomark _)) (qss_one (qs_ret (qe_ix qix_list (qv 0) (qv 1) (fun _ _ => rfl)))) qss_nil) (qss_one (qs_ret qe_int))),?_⟩
 try dsimp only [cx_k,cx_kn,as_nil,as_name,Nat.reduceAdd]
 have hl : (ns.map V.int).length = ns.length := List.length_map _
 refine ⟨_,rfl,_,rfl,a,_,rfl,.inl hS,_,_,rfl,rfl,_,rfl,?_⟩
 refine ite2 (fun c => ?_) (fun c => ?_)
 ·have c' : k < (((ns.map V.int).length : Nat) : Int) := of_decide_eq_true c
  rw [hl] at c'
  obtain ⟨v,hv⟩ := at_int (ns := ns) h0 (by omega)
  exact ⟨_,rfl,_,rfl,a,_,_,_,rfl,rfl,hS,hv,q v⟩
 ·exact q 0
theorem ok_dayA (F : Fun K "_law_day" "_law_day" st__law_day f fd) : FnOk P w K mg base CX0 (n + 1) f fd ["cell"] spDay := by
 refine F.okQ sc__law_day (fun vs H Q E h => ?_) (fun cdv A outer s H vs Q E hr h => ?_)
 ·obtain ⟨_,rfl,_⟩ := h
  rfl
 obtain ⟨c,rfl,q⟩ := h
 refine ⟨_,(qss_cons (qs_set (i := 1) sc__law_day.nd rfl (Or.inl rfl) (qe_op qop_fdivB (qv 0) qe_int)) (qss_cons (qs_if (qt_cmpR qop_eq (qe_op qop_mod (qv 0) qe_int) qe_int (nomark _)) (qss_one (qs_ret (qe_op qop_add qe_int (qe_op qop_mod (qv 1) (qe_op qop_pow qe_int qe_int))))) qss_nil) (qss_cons (qs_if (qt_cmpR qop_eq (qe_op qop_mod (qv 0) qe_int) qe_int (nomark _)) (qss_one (qs_ret (qe_op qop_add qe_int (qe_op qop_mod (qv 1) qe_int)))) qss_nil) (qss_cons (qs_if (qt_cmpR qop_eq (qe_op qop_mod (qv 0) qe_int) qe_int (nomark _)) (qss_one (qs_ret (qe_op qop_add qe_int (qe_op qop_mod (qv 1) qe_int)))) qss_nil) (qss_one (qs_ret (qe_ix qix_list (qe_lst (qa_c qe_int (qa_c qe_int (qa_c (qe_op qop_add (qe_op qop_pow qe_int qe_int) qe_int) (qa_c (qe_op qop_pow qe_int qe_int) qa_nil))))) (qe_op qop_mod (qv 1) qe_int) (fun _ _ => rfl)))))))),?_⟩
 try dsimp only [cx_k,cx_kn,as_nil,as_name,Nat.reduceAdd]
 refine ⟨_,rfl,_,_,rfl,rfl,⟨by decide,by decide⟩,?_⟩
 dsimp only
 generalize c / 4 = rest
 refine ⟨_,rfl,_,_,rfl,rfl,(by show (0 : Int) < 4; decide),rfl,_,rfl,?_⟩
 refine ite2 (fun z => ?_) (fun z => ?_)
 ·refine ⟨_,rfl,_,_,rfl,rfl,⟨by decide,by decide,by decide⟩,_,_,rfl,rfl,(by show (0 : Int) < 10 ^ (15 : Int).toNat; rw [pow15]; decide),_,_,rfl,rfl,?_⟩
  have e15 := emod_b rest (show (0 : Int) < 10 ^ (15 : Int).toNat by rw [pow15]; decide)
  have : rest % 10 ^ (15 : Int).toNat < 1000000000000000 := by
   have := e15.2
   generalize rest % 10 ^ (15 : Int).toNat = u at *
   rw [pow15] at this
   exact this
  exact q _ H (by omega) (by omega) (Same.refl H)
 refine ⟨_,rfl,_,_,rfl,rfl,(by show (0 : Int) < 4; decide),rfl,_,rfl,?_⟩
 refine ite2 (fun z => ?_) (fun z => ?_)
 ·have em := emod_b rest (show (0 : Int) < 7 by decide)
  exact ⟨_,rfl,_,_,rfl,rfl,(by show (0 : Int) < 7; decide),_,_,rfl,rfl,q _ H (by omega) (by omega) (Same.refl H)⟩
 refine ⟨_,rfl,_,_,rfl,rfl,(by show (0 : Int) < 4; decide),rfl,_,rfl,?_⟩
 refine ite2 (fun z => ?_) (fun z => ?_)
 ·have em := emod_b rest (show (0 : Int) < 100 by decide)
  exact ⟨_,rfl,_,_,rfl,rfl,(by show (0 : Int) < 100; decide),_,_,rfl,rfl,q _ H (by omega) (by omega) (Same.refl H)⟩
 ·refine ⟨_,_,rfl,rfl,⟨by decide,by decide,by decide⟩,_,_,rfl,rfl,_,_,rfl,rfl,⟨by decide,by decide,by decide⟩,(by show 4 ≤ sizeLine; decide),fun p hp => ?_⟩
  generalize hgH1 : upd _ p _ = H1
  obtain ⟨s1,e1⟩ := fresh_of hp hgH1
  clear hgH1
  obtain ⟨v,hv,v1,v2⟩ := menu4b (ok := fun v => 1 ≤ v ∧ v ≤ 1000000000000000) (a := 24) (b := 1440) (c := 10 ^ (9 : Int).toNat + 7) (d := 10 ^ (15 : Int).toNat) (j := rest % 4) (by decide) (by decide) (by decide +kernel) (by decide +kernel) (Int.emod_nonneg _ (by decide)) (Int.emod_lt_of_pos _ (by decide))
  exact ⟨_,rfl,_,_,rfl,rfl,(by show (0 : Int) < 4; decide),p,_,_,.int v,rfl,rfl,SqL.of e1,hv,q v H1 v1 v2 s1⟩
end
noncomputable abbrev RdT := Int × Int × Addr × List T3
noncomputable def keyN (m : RdT) : Int × Int × Addr := (m.1,m.2.1,m.2.2.1)
noncomputable def encK (k : Int × Int × Addr) : List V := [.int k.1,.int k.2.1,.ref k.2.2]
noncomputable def datN (m : RdT) : PyData := .tuple [.int m.1,.int m.2.1,datB m.2.2.2]
structure NA (H : Hp) (p : Addr) (N : List RdT) : Prop where
 la : LA encK H p (N.map keyN)
 bd : ∀ m ∈ N,LA enc3 H m.2.2.1 m.2.2.2 ∧ m.2.2.1 ≠ p
 nd : (N.map fun m => m.2.2.1).Nodup
section
variable {K : PySem.W.Frag} {H H' : Hp} {p r b : Addr} {N : List RdT} {s e : Int} {vs us : List V}
theorem NA.nil (h : H p = some (.lst [])) : NA H p [] := ⟨LA.nil h,(fun m hm => by cases hm),List.Pairwise.nil⟩
theorem NA.mono (h : NA H p N) (s : ∀ b o,H b = some o → (∀ z,o ≠ .tbl z) → H' b = some o) : NA H' p N := ⟨h.la.mono s,fun m hm => ⟨(h.bd m hm).1.mono s,(h.bd m hm).2⟩,h.nd⟩
theorem NA.same (h : NA H p N) (s : Same H H') : NA H' p N := h.mono fun b o e _ => s b o e
theorem NA.fresh (h : NA H p N) (fb : H b = none) : b ≠ p ∧ b ∉ N.map fun m => m.2.2.1 := by
 refine ⟨fun z => ?_,fun hm => ?_⟩
 ·obtain ⟨vs,h1,_⟩ := h.la.lst
  rw [← z,fb] at h1
  cases h1
 ·obtain ⟨m,hm',e⟩ := List.mem_map.mp hm
  obtain ⟨vs,h1,_⟩ := (h.bd m hm').1.lst
  rw [e,fb] at h1
  cases h1
theorem NA.snoc (h : NA H p N) (fb : b ≠ p ∧ b ∉ N.map fun m => m.2.2.1) (hx : H p = some (.lst vs)) (hb : H b = some (.lst [])) (hr : H r = some (.tup [.int s,.int e,.ref b])) : NA (upd H p (.lst (vs ++ [.ref r]))) p (N ++ [(s,e,b,[])]) := by
 refine ⟨?_,fun m hm => ?_,?_⟩
 ·rw [List.map_append]
  exact h.la.append (x := (s,e,b)) hx hr
 ·rcases List.mem_append.mp hm with hm | hm
  ·obtain ⟨h1,h2⟩ := h.bd m hm
   exact ⟨la_clear h1 hx h2,h2⟩
  ·rw [List.mem_singleton] at hm
   subst hm
   exact ⟨LA.nil (by rw [upd_ne fb.1]; exact hb),fb.1⟩
 ·rw [List.map_append]
  refine List.nodup_append.mpr ⟨h.nd,by simp,fun x hx y hy => ?_⟩
  simp only [List.map_cons,List.map_nil,List.mem_singleton] at hy
  subst hy
  exact fun z => fb.2 (z ▸ hx)
theorem NA.push {x : T3} {R : List T3} (h : NA H p (N ++ [(s,e,b,R)])) (hb : H b = some (.lst us)) (hr : H r = some (.tup (enc3 x))) : NA (upd H b (.lst (us ++ [.ref r]))) p (N ++ [(s,e,b,R ++ [x])]) := by
 have hl := h.bd (s,e,b,R) (by simp)
 have nd := h.nd
 rw [List.map_append] at nd
 obtain ⟨nd1,_,nd2⟩ := List.nodup_append.mp nd
 refine ⟨?_,fun m hm => ?_,?_⟩
 ·have := la_clear (ys := us ++ [.ref r]) h.la hb (Ne.symm hl.2)
  rw [List.map_append] at this ⊢
  exact this
 ·rcases List.mem_append.mp hm with hm | hm
  ·obtain ⟨h1,h2⟩ := h.bd m (List.mem_append_left _ hm)
   exact ⟨la_clear h1 hb (nd2 _ (List.mem_map.mpr ⟨m,hm,rfl⟩) _ (by simp)),h2⟩
  ·rw [List.mem_singleton] at hm
   subst hm
   exact ⟨hl.1.append (x := x) hb hr,hl.2⟩
 ·have := h.nd
  rw [List.map_append] at this ⊢
  exact this
theorem NA.rd (h : NA H p N) : RdV K H (.ref p) (.list (N.map datN)) := by
 obtain ⟨rs,h1,h2,h3⟩ := h.la.ex
 refine .lst (SqL.of h1) ?_
 have go : ∀ (rs : List Addr) (N : List RdT),rs.length = N.length → (∀ (i : Nat) r x,rs[i]? = some r → (N.map keyN)[i]? = some x → H r = some (.tup (encK x))) → (∀ m ∈ N,LA enc3 H m.2.2.1 m.2.2.2) → RdAll K H (rs.map V.ref) (N.map datN) := by
  intro rs
  induction rs with
  | nil =>
   intro N hl _ _
   cases N with
   | nil => exact .nil
   | cons x N => cases hl
  | cons r rs ih =>
   intro N hl g gb
   cases N with
   | nil => cases hl
   | cons m N => exact .cons (.tup (SqT.of (g 0 r (keyN m) rfl rfl)) (.cons (.int _) (.cons (.int _) (.cons (rd3 (gb m (by simp))) .nil)))) (ih N (by simpa using hl) (fun i r' x' e1 e2 => g (i + 1) r' x' (by simpa using e1) (by simpa using e2)) fun m' hm' => gb m' (List.mem_cons_of_mem _ hm'))
 exact go rs N (by rw [h2,List.length_map]) h3 fun m hm => (h.bd m hm).1
theorem shapedN (N : List RdT) : SeqAt.shaped (.list (N.map datN)) = true := shaped_map (n := 5) (fun x => by
  have := canB x.2.2.2
  simp [datN,PyData.canLay0,PyData.canLayAll0,this]) (fun x => by
  have := depB x.2.2.2
  simp only [datN,PyData.depth,PyData.depthAll]
  omega) (by decide) N
theorem NA.last {R : List T3} (h : NA H p (N ++ [(s,e,b,R)])) : ∃ (vs : List V) (r : Addr),H p = some (.lst vs) ∧ atI vs (-1) = some (.ref r) ∧ H r = some (.tup [.int s,.int e,.ref b]) := by
 obtain ⟨vs,hv1,hv2,hv3⟩ := h.la.lst
 have vl : vs.length = N.length + 1 := by rw [hv2]; simp
 have vne : vs ≠ [] := fun e => by rw [e] at vl; simp at vl
 obtain ⟨r,x,e1,e2,e3⟩ := hv3 N.length _ (List.getElem?_eq_getElem (by omega))
 have e2' : (s,e,b) = x := by simpa [keyN] using e2
 subst e2'
 exact ⟨vs,r,hv1,by rw [atI_last vne,show vs.length - 1 = N.length by omega,List.getElem?_eq_getElem (by omega),e1],e3⟩
end
noncomputable def spSize : Sp := fun vs H Q _ => ∃ c : Int,vs = [.int c] ∧ ∀ (v : Int) (H' : Hp),1 ≤ v → v ≤ 4 → Same H H' → Q (.int v) H'
noncomputable def spRoadWin : Sp := fun vs H Q _ => ∃ day one two three : Int,vs = [.int day,.int one,.int two,.int three] ∧ 1 ≤ day ∧ day ≤ 1000000000000000 ∧
 ∀ (r : Addr) (H' : Hp) (a b c : Int),Same H H' → H' r = some (.tup (enc3 (a,b,c))) → 0 ≤ a → a ≤ b → b < day → 1 ≤ c → c ≤ 1000000000000000 → Q (.ref r) H'
noncomputable def RoadsIn (day size : Int) (N : List RdT) : Prop := ∀ m ∈ N,(0 ≤ m.1 ∧ m.1 < size) ∧ (0 ≤ m.2.1 ∧ m.2.1 < size) ∧ m.2.2.2.length ≤ 16 ∧ ∀ w ∈ m.2.2.2,0 ≤ w.1 ∧ w.1 ≤ w.2.1 ∧ w.2.1 < day ∧ 1 ≤ w.2.2 ∧ w.2.2 ≤ 1000000000000000
noncomputable def NFr (H : Hp) (N : List RdT) : Prop := ∀ m ∈ N,H m.2.2.1 = none
theorem NFr.snoc {H : Hp} {N : List RdT} {m : RdT} (h : NFr H N) (e : H m.2.2.1 = none) : NFr H (N ++ [m]) := fun x hx => by
 rcases List.mem_append.mp hx with hx | hx
 ·exact h x hx
 ·rw [List.mem_singleton] at hx
  subst hx
  exact e
noncomputable def spNet (K : PySem.W.Frag) : Sp := fun vs H Q _ => ∃ (day size goal : Int) (pc : Addr) (ms : List Int),vs = [.int day,.int size,.int goal,.ref pc] ∧ SqL K H pc (ms.map V.int) ∧ ms.length ≤ 63 ∧ 1 ≤ day ∧ day ≤ 1000000000000000 ∧ 1 ≤ size ∧
 ∀ (l : Addr) (N : List RdT) (H' : Hp),Same H H' → H l = none → NA H' l N → NFr H N → RoadsIn day size N → N.length ≤ 16 → Q (.ref l) H'
theorem size4 {j : Int} (h0 : 0 ≤ j) (h1 : j < 4) : ∃ v : Int,atI [V.int 3,V.int 4,V.int 2,V.int 1] j = some (.int v) ∧ 1 ≤ v ∧ v ≤ 4 := by
 rcases (by omega : j = 0 ∨ j = 1 ∨ j = 2 ∨ j = 3) with rfl | rfl | rfl | rfl
 all_goals exact ⟨_,rfl,by decide,by decide⟩
theorem menu4 {a b c e j : Int} (h0 : 0 ≤ j) (h1 : j < 4) : ∃ v : Int,atI [V.int a,V.int b,V.int c,V.int e] j = some (.int v) ∧ (v = a ∨ v = b ∨ v = c ∨ v = e) := by
 rcases (by omega : j = 0 ∨ j = 1 ∨ j = 2 ∨ j = 3) with rfl | rfl | rfl | rfl
 ·exact ⟨_,rfl,.inl rfl⟩
 ·exact ⟨_,rfl,.inr (.inl rfl)⟩
 ·exact ⟨_,rfl,.inr (.inr (.inl rfl))⟩
 ·exact ⟨_,rfl,.inr (.inr (.inr rfl))⟩
section
variable {P : Program} {w : World} {K : PySem.W.Frag} {mg : Str → Option Value} {base : Heap} {f : Addr} {fd : FuncData} {n : Nat}
theorem ok_size (F : Fun K "_law_size" "_law_size" st__law_size f fd) : FnOk P w K mg base CX0 (n + 1) f fd ["cell"] spSize := by
 refine F.okQ sc__law_size (fun vs H Q E h => ?_) (fun cdv A outer s H vs Q E hr h => ?_)
 ·obtain ⟨_,rfl,_⟩ := h
  rfl
 obtain ⟨c,rfl,q⟩ := h
 refine ⟨_,(qss_one (qs_ret (qe_ix qix_list (qe_lst (qa_c qe_int (qa_c qe_int (qa_c qe_int (qa_c qe_int qa_nil))))) (qe_op qop_mod (qv 0) qe_int) (fun _ _ => rfl)))),?_⟩
 try dsimp only [cx_k,cx_kn,as_nil,as_name,Nat.reduceAdd]
 refine ⟨(by show 4 ≤ sizeLine; decide),fun p hp => ?_⟩
 obtain ⟨v,hv,v1,v2⟩ := size4 (j := c % 4) (Int.emod_nonneg _ (by decide)) (Int.emod_lt_of_pos _ (by decide))
 refine ⟨_,rfl,_,_,rfl,rfl,(by show (0 : Int) < 4; decide),p,_,_,.int v,rfl,rfl,SqL.of upd_same,hv,?_⟩
 exact q v _ v1 v2 (same_new hp _)
theorem ok_roadwin (F : Fun K "_law_road_window" "_law_road_window" st__law_road_window f fd) (B : Bl mg) : FnOk P w K mg base CX0 (n + 1) f fd ["day","one","two","three"] spRoadWin := by
 refine F.okQ sc__law_road_window (fun vs H Q E h => ?_) (fun cdv A outer s H vs Q E hr h => ?_)
 ·obtain ⟨_,_,_,_,rfl,_⟩ := h
  rfl
 obtain ⟨day,one,two,three,rfl,d1,d2,q⟩ := h
 refine ⟨_,(qss_cons (qs_set (i := 4) sc__law_road_window.nd rfl (Or.inl rfl) (qe_op qop_mod (qe_op qop_fdivB (qv 1) qe_int) (qv 0))) (qss_cut (qs_if (qt_cmpR qop_eq (qe_op qop_mod (qv 1) qe_int) qe_int (nomark _)) (qss_one (qs_set (i := 4) sc__law_road_window.nd rfl (Or.inl rfl) (qe_op qop_mod (qe_op qop_fdivB (qv 1) qe_int) (qe_cb (qcall_min rfl) rfl B.min bt_min (qa_c (qv 0) (qa_c qe_int qa_nil)))))) qss_nil) (qss_cons (qs_set (i := 5) sc__law_road_window.nd rfl (Or.inl rfl) (qe_op qop_fdivB (qv 2) qe_int)) (qss_cons (qs_set (i := 6) sc__law_road_window.nd rfl (Or.inl rfl) (qe_op qop_add (qv 4) (qe_ix qix_list (qe_lst (qa_c qe_int (qa_c (qe_cb (qcall_min rfl) rfl B.min bt_min (qa_c (qe_op qop_mod (qv 5) qe_int) (qa_c (qe_op qop_sub (qe_op qop_sub (qv 0) qe_int) (qv 4)) qa_nil))) (qa_c (qe_op qop_mod (qv 5) (qe_op qop_sub (qv 0) (qv 4))) (qa_c (qe_op qop_sub (qe_op qop_sub (qv 0) qe_int) (qv 4)) qa_nil))))) (qe_op qop_mod (qv 2) qe_int) (fun _ _ => rfl)))) (qss_cons (qs_set (i := 5) sc__law_road_window.nd rfl (Or.inl rfl) (qe_op qop_fdivB (qv 3) qe_int)) (qss_cons (qs_set (i := 7) sc__law_road_window.nd rfl (Or.inl rfl) (qe_ix qix_list (qe_lst (qa_c (qe_op qop_add qe_int (qe_op qop_mod (qv 5) qe_int)) (qa_c (qe_op qop_add qe_int (qe_op qop_mod (qv 5) (qv 0))) (qa_c (qe_op qop_add qe_int (qe_op qop_mod (qv 5) (qe_op qop_pow qe_int qe_int))) (qa_c (qe_cb (qcall_min rfl) rfl B.min bt_min (qa_c (qe_op qop_pow qe_int qe_int) (qa_c (qe_op qop_mul (qv 0) (qe_op qop_add qe_int (qe_op qop_mod (qv 5) qe_int))) qa_nil))) qa_nil))))) (qe_op qop_mod (qv 3) qe_int) (fun _ _ => rfl))) (qss_one (qs_ret (qe_tup (qa_c (qv 4) (qa_c (qv 6) (qa_c (qv 7) qa_nil)))))))))))),?_⟩
 try dsimp only [cx_k,cx_kn,as_nil,as_name,Nat.reduceAdd]
 have hd : 0 < day := by omega
 refine ⟨_,rfl,_,_,rfl,rfl,⟨by decide,by decide⟩,_,rfl,_,_,rfl,rfl,hd,?_⟩
 refine ⟨fun σ' H' => H' = H ∧ ∃ a : Int,0 ≤ a ∧ a < day ∧ σ' = [some (.int day),some (.int one),some (.int two),some (.int three),some (.int a),none,none,none],?_,?_⟩
 ·refine ⟨_,rfl,_,_,rfl,rfl,(by show (0 : Int) < 2; decide),rfl,_,rfl,ite2 (fun _ => ?_) (fun _ => ⟨rfl,_,(emod_b _ hd).1,(emod_b _ hd).2,rfl⟩)⟩
  have hm : 0 < (if (3 : Int) < day then (3 : Int) else day) ∧ (if (3 : Int) < day then (3 : Int) else day) ≤ day := by split <;> omega
  refine ⟨_,rfl,_,_,rfl,rfl,⟨by decide,by decide⟩,_,rfl,_,_,rfl,_,_,rfl,rfl,hm.1,rfl,_,(emod_b _ hm.1).1,?_,rfl⟩
  have := (emod_b (one / 2) hm.1).2
  omega
 intro σ' H z9;obtain ⟨rfl,a,a0,a1,rfl⟩ := z9
 refine ⟨_,rfl,_,_,rfl,rfl,⟨by decide,by decide⟩,?_⟩
 dsimp only
 generalize two / 4 = rest
 refine ⟨_,rfl,_,rfl,_,_,rfl,rfl,(by show (0 : Int) < 4; decide),_,rfl,_,_,rfl,rfl,_,rfl,_,_,rfl,rfl,_,_,rfl,_,rfl,_,rfl,_,rfl,_,_,rfl,rfl,_,_,rfl,rfl,(by show 0 < day - a; omega),_,rfl,_,_,rfl,rfl,_,rfl,_,_,rfl,rfl,(by show 4 ≤ sizeLine; decide),fun p hp => ?_⟩
 dsimp only
 have r4 := emod_b rest (show (0 : Int) < 4 by decide)
 have rd := emod_b rest (show (0 : Int) < day - a by omega)
 have hx : 0 ≤ (if day - 1 - a < rest % 4 then day - 1 - a else rest % 4) ∧ (if day - 1 - a < rest % 4 then day - 1 - a else rest % 4) ≤ day - 1 - a := by split <;> omega
 generalize (if day - 1 - a < rest % 4 then day - 1 - a else rest % 4) = x at *
 generalize rest % (day - a) = y at *
 generalize hgH1 : upd _ p _ = H1
 obtain ⟨s1,e1⟩ := fresh_of hp hgH1
 clear hgH1
 obtain ⟨v,hv,vv⟩ := menu4 (a := 0) (b := x) (c := y) (e := day - 1 - a) (j := two % 4) (Int.emod_nonneg _ (by decide)) (Int.emod_lt_of_pos _ (by decide))
 refine ⟨_,rfl,_,_,rfl,rfl,(by show (0 : Int) < 4; decide),p,_,_,.int v,rfl,rfl,SqL.of e1,hv,_,_,rfl,rfl,?_⟩
 dsimp only
 have hb : a ≤ a + v ∧ a + v < day := by omega
 generalize a + v = b at *
 refine ⟨_,rfl,_,_,rfl,rfl,⟨by decide,by decide⟩,?_⟩
 dsimp only
 generalize three / 4 = rest3
 refine ⟨_,rfl,_,_,rfl,rfl,(by show (0 : Int) < 3; decide),_,_,rfl,rfl,_,rfl,_,rfl,_,_,rfl,rfl,hd,_,_,rfl,rfl,_,rfl,_,_,rfl,rfl,⟨by decide,by decide,by decide⟩,_,_,rfl,rfl,(by show (0 : Int) < 10 ^ (15 : Int).toNat; decide),_,_,rfl,rfl,_,_,rfl,rfl,⟨by decide,by decide,by decide⟩,_,rfl,_,rfl,_,_,rfl,rfl,(by show (0 : Int) < 3; decide),_,_,rfl,rfl,_,_,rfl,rfl,.inl ⟨by omega,by omega⟩,_,_,rfl,(by show 4 ≤ sizeLine; decide),fun p2 hp2 => ?_⟩
 dsimp only
 have t3 := emod_b rest3 (show (0 : Int) < 3 by decide)
 have td := emod_b rest3 hd
 have tb := emod_b rest3 (show (0 : Int) < 10 ^ (15 : Int).toNat by decide)
 have hm : 1 ≤ day * (1 + rest3 % 3) := by
  have := Int.mul_le_mul d1 (show 1 ≤ 1 + rest3 % 3 by omega) (by decide) (by omega)
  omega
 have hw : 1 ≤ (if day * (1 + rest3 % 3) < (10 : Int) ^ (15 : Int).toNat then day * (1 + rest3 % 3) else (10 : Int) ^ (15 : Int).toNat) ∧ (if day * (1 + rest3 % 3) < (10 : Int) ^ (15 : Int).toNat then day * (1 + rest3 % 3) else (10 : Int) ^ (15 : Int).toNat) ≤ 1000000000000000 := by
  split
  ·rename_i z
   exact ⟨hm,Int.le_of_lt (by rw [pow15] at z; exact z)⟩
  ·rw [pow15]; decide
 generalize (if day * (1 + rest3 % 3) < (10 : Int) ^ (15 : Int).toNat then day * (1 + rest3 % 3) else (10 : Int) ^ (15 : Int).toNat) = x4 at *
 generalize rest3 % (10 : Int) ^ (15 : Int).toNat = x3 at *
 rw [pow15] at tb
 generalize rest3 % 3 = x1 at *
 generalize rest3 % day = x2 at *
 generalize hgH2 : upd _ p2 _ = H2
 obtain ⟨s2,e2⟩ := fresh_of hp2 hgH2
 clear hgH2
 obtain ⟨c,hc,cc⟩ := menu4 (a := 1 + x1) (b := 1 + x2) (c := 1 + x3) (e := x4) (j := three % 4) (Int.emod_nonneg _ (by decide)) (Int.emod_lt_of_pos _ (by decide))
 refine ⟨_,rfl,_,_,rfl,rfl,(by show (0 : Int) < 4; decide),p2,_,_,.int c,rfl,rfl,SqL.of e2,hc,?_⟩
 refine ⟨_,rfl,_,rfl,_,rfl,(by show 3 ≤ sizeLine; decide),fun rr hrr => ?_⟩
 generalize hgH3 : upd _ rr _ = H3
 obtain ⟨s3,e3⟩ := fresh_of hrr hgH3
 clear hgH3
 exact q rr H3 a b c ((s1.trans s2).trans s3) e3 a0 hb.1 hb.2 (by omega) (by omega)
theorem ok_net (F : Fun K "_law_net" "_law_net" st__law_net f fd) (B : Bl mg) (C_law_road_window : Callee P w K mg base n "_law_road_window" ["day","one","two","three"] spRoadWin) : FnOk P w K mg base CX0 (n + 1) f fd ["day","size","goal","cells"] (spNet K) := by
 refine F.okQ sc__law_net (fun vs H Q E h => ?_) (fun cdv A outer s H vs Q E hr h => ?_)
 ·obtain ⟨_,_,_,_,_,rfl,_⟩ := h
  rfl
 obtain ⟨day,size,goal,pc,ms,rfl,hS,h63,d1,d2,sz,q⟩ := h
 refine ⟨_,(qss_cons (qs_set (i := 4) sc__law_net.nd rfl (Or.inl rfl) (qe_lst qa_nil)) (qss_cons (qs_for PassesOwn.never rfl (qi_range3 rfl B.range (qa_c qe_int (qa_c (qe_op qop_sub (qe_cb qcall_len rfl B.len bt_len (qa_c (qv 3) qa_nil)) qe_int) (qa_c qe_int qa_nil)))) (qg_name (i := 5) sc__law_net.nd rfl (Or.inl rfl)) (qss_cons (qs_set (i := 6) sc__law_net.nd rfl (Or.inl rfl) (qe_ix qix_list (qv 3) (qv 5) (fun _ _ => rfl))) (qss_cut (qs_if (qt_cut (QW.pt (qw_and (qt_cmpR qop_lt (qe_op qop_fdivB (qv 5) qe_int) (qe_op qop_sub (qv 1) qe_int) (nomark _)) (qw_and1 (qt_cmpR qop_gt (qe_op qop_mod (qv 6) qe_int) qe_int (nomark _)))))) (qss_one (qs_expr (qe_append (qv 4) (qa_c (qe_tup (qa_c (qe_op qop_mod (qe_op qop_add (qe_op qop_add (qv 2) (qe_op qop_fdivB (qv 5) qe_int)) qe_int) (qv 1)) (qa_c (qe_op qop_mod (qe_op qop_add (qv 2) (qe_op qop_fdivB (qv 5) qe_int)) (qv 1)) (qa_c (qe_lst qa_nil) qa_nil)))) qa_nil)))) (qss_one (qs_if (qt_cut (QW.pt (qw_or (qt_cmpR (qop_eqD hr.units) (qv 4) (qe_lst qa_nil) (nomark _)) (qw_or1 (qt_cmpR qop_lt (qe_op qop_mod (qv 6) qe_int) qe_int (nomark _)))))) (qss_cons (qs_set (i := 7) sc__law_net.nd rfl (Or.inl rfl) (qe_op qop_mod (qe_op qop_fdivB (qv 6) qe_int) (qv 1))) (qss_one (qs_expr (qe_append (qv 4) (qa_c (qe_tup (qa_c (qv 7) (qa_c (qe_op qop_mod (qe_op qop_add (qe_op qop_add (qv 7) qe_int) (qe_op qop_fdivB (qv 6) qe_int)) (qv 1)) (qa_c (qe_lst qa_nil) qa_nil)))) qa_nil))))) qss_nil))) (qss_one (qs_if (qt_cmpR qop_ne (qe_op qop_mod (qe_op qop_fdivB (qv 6) qe_int) qe_int) qe_int (nomark _)) (qss_one (qs_expr (qe_append (qe_ix qix_tup (qe_ix qix_list (qv 4) (qe_neg qe_int) (fun _ _ => rfl)) qe_int (fun _ _ => rfl)) (qa_c (qe_fn C_law_road_window hr rfl (qa_c (qv 0) (qa_c (qe_ix qix_list (qv 3) (qe_op qop_add (qv 5) qe_int) (fun _ _ => rfl)) (qa_c (qe_ix qix_list (qv 3) (qe_op qop_add (qv 5) qe_int) (fun _ _ => rfl)) (qa_c (qe_ix qix_list (qv 3) (qe_op qop_add (qv 5) qe_int) (fun _ _ => rfl)) qa_nil))))) qa_nil)))) qss_nil))))) (qss_one (qs_ret (qv 4))))),?_⟩
 try dsimp only [cx_k,cx_kn,as_nil,as_name,Nat.reduceAdd]
 have hsz : 0 < size := by omega
 refine ⟨(by show 0 ≤ sizeLine; decide),fun pr hpr => ?_⟩
 generalize hgH1 : upd _ pr _ = H1
 obtain ⟨s1,e1⟩ := fresh_of hpr hgH1
 clear hgH1
 have hl : (ms.map V.int).length = ms.length := List.length_map _
 refine ⟨_,rfl,pc,_,rfl,.inl (s1.seq hS),_,_,rfl,rfl,?_⟩
 have hcn : ∀ i,i < cnt3 0 ((((ms.map V.int).length : Nat) : Int) - 3) 4 → 0 + (i : Int) * 4 < (((ms.map V.int).length : Nat) : Int) - 3 := fun i hi' => cnt3_lt (by decide) hi'
 have hcl : cnt3 0 ((((ms.map V.int).length : Nat) : Int) - 3) 4 ≤ 16 := by
  rcases Nat.eq_zero_or_pos (cnt3 0 ((((ms.map V.int).length : Nat) : Int) - 3) 4) with z | z
  ·omega
  ·have := hcn (cnt3 0 ((((ms.map V.int).length : Nat) : Int) - 3) 4 - 1) (by omega)
   omega
 refine ⟨0,(((ms.map V.int).length : Nat) : Int) - 3,4,rfl,⟨by decide,by decide,by omega,by omega,by decide,by decide⟩,for_range3 (lo := 0) (st := 4) (n := cnt3 0 ((((ms.map V.int).length : Nat) : Int) - 3) 4)
  (fun i σ H' => ∃ (N : List RdT) (v1 v2 v3 : Option V),σ = [some (.int day),some (.int size),some (.int goal),some (.ref pc),some (.ref pr),v1,v2,v3] ∧ Same H H' ∧ NA H' pr N ∧ NFr H N ∧ RoadsIn day size N ∧ N.length ≤ i ∧ ∀ m ∈ N,m.2.2.2.length ≤ i)
  ⟨[],_,_,_,rfl,s1,NA.nil e1,(fun m hm => by cases hm),(fun m hm => by cases hm),Nat.le_refl _,fun m hm => by cases hm⟩ ?_ ?_⟩
 ·intro i σ H2 hi z9;obtain ⟨N,v1,v2,v3,rfl,s2,hN,hfr,hIn,hl2,hl3⟩ := z9
  have hk := hcn i hi
  obtain ⟨k,hkk⟩ : ∃ k : Nat,0 + (i : Int) * 4 = (k : Int) := ⟨i * 4,by omega⟩
  rw [hkk] at hk ⊢
  obtain ⟨c0,hc0⟩ := at_int (ns := ms) (k := (k : Int)) (by omega) (by omega)
  refine ⟨_,rfl,_,rfl,pc,_,_,_,rfl,rfl,s2.seq hS,hc0,?_⟩
  refine ⟨fun σ' H' => ∃ (N : List RdT) (s e : Int) (b : Addr) (R : List T3) (v3 : Option V),σ' = [some (.int day),some (.int size),some (.int goal),some (.ref pc),some (.ref pr),some (.int (k : Int)),some (.int c0),v3] ∧ Same H H' ∧ NA H' pr (N ++ [(s,e,b,R)]) ∧ NFr H (N ++ [(s,e,b,R)]) ∧ RoadsIn day size (N ++ [(s,e,b,R)]) ∧ N.length ≤ i ∧ ∀ m ∈ N ++ [(s,e,b,R)],m.2.2.2.length ≤ i,?_,?_⟩
  ·have addR : ∀ (H3 : Hp) (vs : List V) (s e : Int) (b r : Addr),Same H H3 → NA H3 pr N → (b ≠ pr ∧ b ∉ N.map fun m => m.2.2.1) → H3 pr = some (.lst vs) → H3 b = some (.lst []) → H b = none → H3 r = some (.tup [.int s,.int e,.ref b]) → 0 ≤ s → s < size → 0 ≤ e → e < size → ∀ v3,∃ (N : List RdT) (s e : Int) (b' : Addr) (R : List T3) (v3' : Option V),
     [some (V.int day),some (.int size),some (.int goal),some (.ref pc),some (.ref pr),some (.int (k : Int)),some (.int c0),v3] = [some (.int day),some (.int size),some (.int goal),some (.ref pc),some (.ref pr),some (.int (k : Int)),some (.int c0),v3'] ∧ Same H (upd H3 pr (.lst (vs ++ [.ref r]))) ∧ NA (upd H3 pr (.lst (vs ++ [.ref r]))) pr (N ++ [(s,e,b',R)]) ∧ NFr H (N ++ [(s,e,b',R)]) ∧ RoadsIn day size (N ++ [(s,e,b',R)]) ∧ N.length ≤ i ∧ ∀ m ∈ N ++ [(s,e,b',R)],m.2.2.2.length ≤ i := by
    intro H3 vs s e b r s3 hN3 fb hx hb hb0 hr' s0 s1 e0 e1 v3
    refine ⟨N,s,e,b,[],v3,rfl,same_wr hpr s3,hN3.snoc fb hx hb hr',hfr.snoc hb0,fun m hm => ?_,hl2,fun m hm => ?_⟩
    ·rcases List.mem_append.mp hm with hm | hm
     ·exact hIn m hm
     ·rw [List.mem_singleton] at hm
      subst hm
      exact ⟨⟨s0,s1⟩,⟨e0,e1⟩,by simp,fun w hw => by cases hw⟩
    ·rcases List.mem_append.mp hm with hm | hm
     ·exact hl3 m hm
     ·rw [List.mem_singleton] at hm
      subst hm
      simp
   obtain ⟨vs,hv1,hv2,_⟩ := hN.la.lst
   rw [List.length_map] at hv2
   refine ⟨fun b H' => H' = H2,?_,?_⟩
   ·refine ⟨_,rfl,_,_,rfl,rfl,⟨by decide,by decide⟩,_,rfl,_,_,rfl,rfl,_,_,rfl,rfl,_,rfl,ite2 (fun _ => ?_) (fun _ => rfl)⟩
    exact ⟨_,rfl,_,_,rfl,rfl,(by show (0 : Int) < 5; decide),_,_,rfl,rfl,_,rfl,rfl⟩
   rintro b H2 rfl
   refine ite2 (fun _ => ?_) (fun _ => ?_)
   ·refine ⟨_,rfl,.inl ⟨rfl,_,SqL.of hv1⟩,_,rfl,_,rfl,_,_,rfl,rfl,⟨by decide,by decide⟩,_,_,rfl,rfl,_,_,rfl,rfl,_,rfl,_,_,rfl,rfl,hsz,_,rfl,_,rfl,_,_,rfl,rfl,⟨by decide,by decide⟩,_,_,rfl,rfl,_,rfl,_,_,rfl,rfl,hsz,(by show 0 ≤ sizeLine; decide),fun pb hpb => ?_⟩
    have fb := hN.fresh hpb
    generalize hgH3 : upd _ pb _ = H3
    obtain ⟨s3,e3⟩ := fresh_of hpb hgH3
    clear hgH3
    refine ⟨(by show 3 ≤ sizeLine; decide),fun rr hrr => ?_⟩
    generalize hgH4 : upd _ rr _ = H4
    obtain ⟨s4,e4⟩ := fresh_of hrr hgH4
    clear hgH4
    refine ⟨pr,_,.ref rr,rfl,rfl,s4 _ _ (s3 _ _ hv1),line_of (by omega),?_⟩
    exact addR H4 vs _ _ pb rr ((s2.trans s3).trans s4) ((hN.same s3).same s4) fb (s4 _ _ (s3 _ _ hv1)) (s4 _ _ e3) (s2.free hpb) e4 (emod_b _ hsz).1 (emod_b _ hsz).2 (emod_b _ hsz).1 (emod_b _ hsz).2 _
   refine ⟨fun b H' => Same H2 H' ∧ (b = false → N ≠ []),?_,?_⟩
   ·refine ⟨_,rfl,(by show 0 ≤ sizeLine; decide),fun p3 hp3 => ?_⟩
    generalize hgH3 : upd _ p3 _ = H3
    obtain ⟨s3,e3⟩ := fresh_of hp3 hgH3
    clear hgH3
    refine ⟨_,_,(hN.same s3).rd,.lst (SqL.of e3) .nil,shapedN _,shaped_nil0,_,rfl,?_⟩
    rw [eqvAll_nil,List.length_map]
    refine ite2 (fun _ => ⟨s3,fun e => by cases e⟩) (fun z => ?_)
    refine ⟨_,rfl,_,_,rfl,rfl,(by show (0 : Int) < 3; decide),_,_,rfl,rfl,_,rfl,s3,fun _ e => z (decide_eq_true (by rw [e]; rfl))⟩
   intro b H3 z9;obtain ⟨s3,hb⟩ := z9
   have hN3 := hN.same s3
   have hv3 := s3 _ _ hv1
   refine ite2 (fun _ => ?_) (fun z => ?_)
   ·refine ⟨_,rfl,_,_,rfl,rfl,⟨by decide,by decide⟩,_,rfl,_,_,rfl,rfl,hsz,?_⟩
    dsimp only
    have st := emod_b (c0 / 3) hsz
    generalize c0 / 3 % size = start at *
    refine ⟨_,rfl,.inl ⟨rfl,_,SqL.of hv3⟩,_,rfl,_,rfl,_,_,rfl,rfl,_,rfl,_,_,rfl,rfl,⟨by decide,by decide⟩,_,_,rfl,rfl,_,rfl,_,_,rfl,rfl,hsz,(by show 0 ≤ sizeLine; decide),fun pb hpb => ?_⟩
    have fb := hN3.fresh hpb
    generalize hgH4 : upd _ pb _ = H4
    obtain ⟨s4,e4⟩ := fresh_of hpb hgH4
    clear hgH4
    refine ⟨(by show 3 ≤ sizeLine; decide),fun rr hrr => ?_⟩
    generalize hgH5 : upd _ rr _ = H5
    obtain ⟨s5,e5⟩ := fresh_of hrr hgH5
    clear hgH5
    refine ⟨pr,_,.ref rr,rfl,rfl,s5 _ _ (s4 _ _ hv3),line_of (by omega),?_⟩
    exact addR H5 vs _ _ pb rr (((s2.trans s3).trans s4).trans s5) ((hN3.same s4).same s5) fb (s5 _ _ (s4 _ _ hv3)) (s5 _ _ e4) ((s2.trans s3).free hpb) e5 st.1 st.2 (emod_b _ hsz).1 (emod_b _ hsz).2 _
   ·have n0 := hb (by cases b with
     | false => rfl
     | true => exact absurd rfl z)
    rcases List.eq_nil_or_concat N with e | ⟨N0,⟨s,e,b',R⟩,rfl⟩
    ·exact absurd e n0
    ·rw [List.concat_eq_append] at hN3 hIn hl2 hl3 hfr
     exact ⟨N0,s,e,b',R,_,rfl,s2.trans s3,hN3,hfr,hIn,by simp at hl2; omega,hl3⟩
  clear hN hIn hl2 hl3 s2 v3 hfr
  intro σ' H2 z9;obtain ⟨N,s,e,b,R,v3,rfl,s2,hN,hfr,hIn,hl2,hl3⟩ := z9
  have done : ∀ H3,Same H H3 → NA H3 pr (N ++ [(s,e,b,R)]) → ∃ (N : List RdT) (v1 v2 v3' : Option V),[some (V.int day),some (.int size),some (.int goal),some (.ref pc),some (.ref pr),some (.int (k : Int)),some (.int c0),v3] = [some (.int day),some (.int size),some (.int goal),some (.ref pc),some (.ref pr),v1,v2,v3'] ∧ Same H H3 ∧ NA H3 pr N ∧ NFr H N ∧ RoadsIn day size N ∧ N.length ≤ i + 1 ∧ ∀ m ∈ N,m.2.2.2.length ≤ i + 1 := fun H3 s3 h3 =>
   ⟨_,_,_,_,rfl,s3,h3,hfr,hIn,by simp; omega,fun m hm => Nat.le_succ_of_le (hl3 m hm)⟩
  refine ⟨_,rfl,_,_,rfl,rfl,⟨by decide,by decide⟩,_,_,rfl,rfl,(by show (0 : Int) < 7; decide),rfl,_,rfl,ite2 (fun _ => ?_) (fun _ => done H2 s2 hN)⟩
  obtain ⟨vs,r,hv1,at1,er⟩ := hN.last
  have hb := hN.bd (s,e,b,R) (by simp)
  obtain ⟨us,hu1,hu2,_⟩ := hb.1.lst
  obtain ⟨c1,hc1⟩ := at_int (ns := ms) (k := (k : Int) + 1) (by omega) (by omega)
  obtain ⟨c2,hc2⟩ := at_int (ns := ms) (k := (k : Int) + 2) (by omega) (by omega)
  obtain ⟨c3,hc3⟩ := at_int (ns := ms) (k := (k : Int) + 3) (by omega) (by omega)
  have hS2 := s2.seq hS
  refine ⟨_,rfl,_,rfl,pr,_,_,_,rfl,rfl,SqL.of hv1,at1,r,_,_,_,rfl,rfl,SqT.of er,rfl,.inl ⟨rfl,_,SqL.of hu1⟩,_,rfl,_,rfl,_,rfl,_,_,rfl,rfl,pc,_,_,_,rfl,rfl,hS2,hc1,_,rfl,_,rfl,_,_,rfl,rfl,pc,_,_,_,rfl,rfl,hS2,hc2,_,rfl,_,rfl,_,_,rfl,rfl,pc,_,_,_,rfl,rfl,hS2,hc3,day,c1,c2,c3,rfl,d1,d2,fun r2 H3 wa wb wc s3 tw w0 w1 w2 w3 w4 => ?_⟩
  have hl4 := hl3 (s,e,b,R) (by simp)
  dsimp only at hl4 hu2
  refine ⟨b,us,.ref r2,rfl,rfl,s3 _ _ hu1,line_of (by omega),?_⟩
  have fb : H b = none := hfr (s,e,b,R) (by simp)
  refine ⟨N ++ [(s,e,b,R ++ [(wa,wb,wc)])],_,_,_,rfl,same_wr fb (s2.trans s3),(hN.same s3).push (s3 _ _ hu1) tw,fun m hm => ?_,fun m hm => ?_,by simp; omega,fun m hm => ?_⟩
  ·rcases List.mem_append.mp hm with hm | hm
   ·exact hfr m (List.mem_append_left _ hm)
   ·rw [List.mem_singleton] at hm
    subst hm
    exact fb
  ·rcases List.mem_append.mp hm with hm | hm
   ·exact hIn m (List.mem_append_left _ hm)
   ·rw [List.mem_singleton] at hm
    subst hm
    obtain ⟨i1,i2,i3,i4⟩ := hIn (s,e,b,R) (by simp)
    refine ⟨i1,i2,by simp; omega,fun w hw => ?_⟩
    rcases List.mem_append.mp hw with hw | hw
    ·exact i4 w hw
    ·rw [List.mem_singleton] at hw
     subst hw
     exact ⟨w0,w1,w2,w3,w4⟩
  ·rcases List.mem_append.mp hm with hm | hm
   ·exact Nat.le_succ_of_le (hl3 m (List.mem_append_left _ hm))
   ·rw [List.mem_singleton] at hm
    subst hm
    simp
    omega
 ·intro σ H2 z9;obtain ⟨N,v1,v2,v3,rfl,s2,hN,hfr,hIn,hl2,hl3⟩ := z9
  exact ⟨_,rfl,q pr N H2 s2 hpr hN hfr hIn (by omega)⟩
end
noncomputable def winT (w : T3) : Str := if w.1 < w.2.1 then Str.empty ++ (Str.ofString (toString w.1)) ++ "-" ++ (Str.ofString (toString w.2.1)) ++ "+" ++ (Str.ofString (toString w.2.2)) else Str.empty ++ (Str.ofString (toString w.1)) ++ "+" ++ (Str.ofString (toString w.2.2))
noncomputable def boardT (R : List T3) : Str := Txt.join " " (R.map winT)
noncomputable def roadT (s e : Str) (R : List T3) : Str := if R = [] then Str.empty ++ s ++ ">" ++ e else Str.empty ++ s ++ ">" ++ e ++ " " ++ boardT R
noncomputable def nmT (names : List Str) (i : Int) : Str := names.getD i.toNat Str.empty
noncomputable def roadN (names : List Str) (m : RdT) : Str := roadT (nmT names m.1) (nmT names m.2.1) m.2.2.2
noncomputable def netT (day : Int) (names : List Str) (N : List RdT) : Str := Txt.join "; " ((Str.empty ++ "day " ++ (Str.ofString (toString day))) :: N.map (roadN names))
noncomputable def Sm (x : Int) : Prop := 0 ≤ x ∧ x < 10000000000000000
noncomputable def SmW (R : List T3) : Prop := ∀ w ∈ R,Sm w.1 ∧ Sm w.2.1 ∧ Sm w.2.2
theorem Sm.len {x : Int} (h : Sm x) : (Str.ofString (toString x)).length ≤ 16 := toString_length_le h.1 (by decide) (by have := h.2; have e : (10 : Int) ^ 16 = 10000000000000000 := (by decide); rw [e]; exact this)
theorem Sm.log {x : Int} (h : Sm x) : x.natAbs.log2 < 1920 := by
 rcases Nat.eq_zero_or_pos x.natAbs with z | z
 ·rw [z]; decide
 ·rw [Nat.log2_lt (by omega)]
  have h1 : x.natAbs < 10000000000000000 := by have := h.1; have := h.2; omega
  exact Nat.lt_of_lt_of_le h1 (Nat.le_trans (by decide : 10000000000000000 ≤ 2 ^ 54) (Nat.pow_le_pow_right (by decide) (by decide)))
theorem L.le {n : Nat} (h : n ≤ 16000000) : n ≤ sizeLine := Nat.le_of_lt (line_of h)
theorem len_empty : Str.empty.length = 0 := rfl
theorem winT_len {w : T3} (h : Sm w.1 ∧ Sm w.2.1 ∧ Sm w.2.2) : (winT w).length ≤ 50 := by
 have h1 := h.1.len
 have h2 := h.2.1.len
 have h3 := h.2.2.len
 have e1 : ("-" : Str).length = 1 := by decide
 have e2 : ("+" : Str).length = 1 := by decide
 unfold winT
 split <;> simp only [Str.length_append,len_empty,e1,e2] <;> omega
theorem joinOk_of {sep : Str} {ts : List Str} {B : Nat} (hB : ∀ y ∈ ts,y.length ≤ B) (h : ts.length * B + ts.length * sep.length ≤ 16777216) : JoinOk sep ts = true := by
 unfold JoinOk
 rw [StrLaws.joinFits hB h]
 rfl
theorem join_len {sep : Str} {ts : List Str} {B : Nat} (hB : ∀ y ∈ ts,y.length ≤ B) : (Txt.join sep ts).length ≤ ts.length * B + ts.length * sep.length := by
 unfold Txt.join
 rw [StrLaws.glued_eq_join]
 have h1 := StrLaws.join_length_le sep ts
 have h2 := StrLaws.sumLen_le ts hB
 omega
theorem boardT_len2 {R : List T3} (h : SmW R) (hl : R.length ≤ 30000) : (boardT R).length ≤ 1530000 := by
 have e1 : (" " : Str).length = 1 := by decide
 have := join_len (sep := " ") (ts := R.map winT) (B := 50) fun y hy => by
  obtain ⟨w,hw,rfl⟩ := List.mem_map.mp hy
  exact winT_len (h w hw)
 rw [List.length_map,e1] at this
 unfold boardT
 omega
theorem fold_len (sep : Str) : ∀ (ts : List Str) (a : Nat),ts.foldl (fun n t => n + t.length + sep.length) a = a + (ts.map fun t => t.length + sep.length).sum
 | [],a => by simp
 | t :: ts,a => by
  rw [List.foldl_cons,fold_len sep ts,List.map_cons,List.sum_cons]
  omega
theorem joinOk_tot {sep : Str} {x : Str} {r : List Str} (h : (Txt.join sep (x :: r)).length + sep.length ≤ 16000000) : JoinOk sep (x :: r) = true := by
 have e : (Txt.join sep (x :: r)).length = x.length + (r.map fun t => t.length + sep.length).sum := by
  have e0 : Txt.join sep (x :: r) = Str.join sep (x :: r) := by
   unfold Txt.join
   rw [StrLaws.glued_eq_join]
  rw [e0]
  clear h e0
  induction r generalizing x with
  | nil => simp [Str.join]
  | cons y r ih =>
   show (x ++ sep ++ Str.join sep (y :: r)).length = _
   rw [Str.length_append,Str.length_append,ih,List.map_cons,List.sum_cons]
   omega
 unfold JoinOk
 have : (x :: r).toArray.foldl (fun n t => n + t.length + sep.length) 0 ≤ 16000000 := by
  rw [List.foldl_toArray,fold_len,List.map_cons,List.sum_cons]
  omega
 have t : Builtin.Str.tooLong ((x :: r).toArray.foldl (fun n t => n + t.length + sep.length) 0) = false := by
  unfold Builtin.Str.tooLong
  have := line_of this
  exact decide_eq_false (by omega)
 rw [t]
 rfl
noncomputable def spShowW : Sp := fun vs H Q _ => ∃ a b c : Int,vs = [.int a,.int b,.int c] ∧ Sm a ∧ Sm b ∧ Sm c ∧ Q (.str (winT (a,b,c))) H
noncomputable def spShowB : Sp := fun vs H Q _ => ∃ (p : Addr) (R : List T3),vs = [.ref p] ∧ LA enc3 H p R ∧ SmW R ∧ R.length ≤ 30000 ∧ ∀ H',Same H H' → Q (.str (boardT R)) H'
noncomputable def spShowR : Sp := fun vs H Q _ => ∃ (s e : Str) (p : Addr) (R : List T3),vs = [.str s,.str e,.ref p] ∧ s.length ≤ 100 ∧ e.length ≤ 100 ∧ LA enc3 H p R ∧ SmW R ∧ R.length ≤ 30000 ∧ ∀ H',Same H H' → Q (.str (roadT s e R)) H'
structure NetOk (names : List Str) (N : List RdT) : Prop where
 few : N.length ≤ 100
 nm : ∀ x ∈ names,x.length ≤ 100
 rd : ∀ m ∈ N,0 ≤ m.1 ∧ m.1 < names.length ∧ 0 ≤ m.2.1 ∧ m.2.1 < names.length ∧ SmW m.2.2.2 ∧ m.2.2.2.length ≤ 100
structure NetOkB (day : Int) (names : List Str) (N : List RdT) : Prop where
 few : N.length ≤ 30000
 nm : ∀ x ∈ names,x.length ≤ 100
 rd : ∀ m ∈ N,0 ≤ m.1 ∧ m.1 < names.length ∧ 0 ≤ m.2.1 ∧ m.2.1 < names.length ∧ SmW m.2.2.2 ∧ m.2.2.2.length ≤ 30000
 tot : (netT day names N).length ≤ 100000
noncomputable def spShowN : Sp := fun vs H Q _ => ∃ (day : Int) (pn pr : Addr) (names : List Str) (N : List RdT),vs = [.int day,.ref pn,.ref pr] ∧ Sm day ∧ H pn = some (.lst (names.map V.str)) ∧ NA H pr N ∧ NetOkB day names N ∧ ∀ H',Same H H' → Q (.str (netT day names N)) H'
theorem at_nm {names : List Str} {i : Int} (h0 : 0 ≤ i) (h1 : i < names.length) : atI (names.map V.str) i = some (.str (nmT names i)) := by
 obtain ⟨k,rfl⟩ := Int.eq_ofNat_of_zero_le h0
 refine atI_nat ?_
 have hk : k < names.length := by omega
 rw [List.getElem?_map,List.getElem?_eq_getElem hk]
 simp [nmT,List.getD,List.getElem?_eq_getElem hk]
theorem nm_len {names : List Str} {B : Nat} (h : ∀ x ∈ names,x.length ≤ B) (i : Int) : (nmT names i).length ≤ B := by
 unfold nmT
 rcases Nat.lt_or_ge i.toNat names.length with z | z
 ·have e : names.getD i.toNat Str.empty = names[i.toNat] := by simp [List.getD,List.getElem?_eq_getElem z]
  rw [e]
  exact h _ (List.getElem_mem z)
 ·have e : names.getD i.toNat Str.empty = Str.empty := by simp [List.getD,List.getElem?_eq_none z]
  rw [e]
  exact Nat.zero_le _
section
variable {P : Program} {w : World} {K : PySem.W.Frag} {mg : Str → Option Value} {base : Heap} {f : Addr} {fd : FuncData} {n : Nat}
theorem ok_showw (F : Fun K "show_window" "show_window" st_show_window f fd) : FnOk P w K mg base CX0 (n + 1) f fd ["a","b","c"] spShowW := by
 refine F.okQ sc_show_window (fun vs H Q E h => ?_) (fun cdv A outer s H vs Q E hr h => ?_)
 ·obtain ⟨_,_,_,rfl,_⟩ := h
  rfl
 obtain ⟨a,b,c,rfl,ha,hb,hc,q⟩ := h
 refine ⟨_,(qss_one (qs_ret (qe_ifExp (qt_cmpR qop_lt (qv 0) (qv 1) (nomark _)) (qe_fstr (qf_val (qv 0) (qf_str (qf_val (qv 1) (qf_str (qf_val (qv 2) qf_nil)))))) (qe_fstr (qf_val (qv 0) (qf_str (qf_val (qv 2) qf_nil))))))),?_⟩
 try dsimp only [cx_k,cx_kn,as_nil,as_name,Nat.reduceAdd]
 have h1 := ha.len
 have h2 := hb.len
 have h3 := hc.len
 have e1 : ("-" : Str).length = 1 := by decide
 have e2 : ("+" : Str).length = 1 := by decide
 unfold winT at q
 dsimp only at q
 refine ⟨_,rfl,_,rfl,_,_,rfl,rfl,_,rfl,ite2 (fun z => ?_) (fun z => ?_)⟩
 ·rw [if_pos (of_decide_eq_true z)] at q
  refine ⟨_,rfl,.inl ⟨_,rfl,ha.log,L.le (by simp only [Str.length_append,len_empty]; omega),L.le (by simp only [Str.length_append,len_empty,e1]; omega),_,rfl,.inl ⟨_,rfl,hb.log,L.le (by simp only [Str.length_append,len_empty,e1]; omega),L.le (by simp only [Str.length_append,len_empty,e1,e2]; omega),_,rfl,.inl ⟨_,rfl,hc.log,L.le (by simp only [Str.length_append,len_empty,e1,e2]; omega),L.le (by simp only [Str.length_append,len_empty,e1,e2]; omega),q⟩⟩⟩⟩
 ·rw [if_neg (fun y => z (decide_eq_true y))] at q
  refine ⟨_,rfl,.inl ⟨_,rfl,ha.log,L.le (by simp only [Str.length_append,len_empty]; omega),L.le (by simp only [Str.length_append,len_empty,e2]; omega),_,rfl,.inl ⟨_,rfl,hc.log,L.le (by simp only [Str.length_append,len_empty,e2]; omega),L.le (by simp only [Str.length_append,len_empty,e2]; omega),q⟩⟩⟩
theorem ok_showb (F : Fun K "show_board" "show_board" st_show_board f fd) (C_show_window : Callee P w K mg base n "show_window" ["a","b","c"] spShowW) : FnOk P w K mg base CX0 (n + 1) f fd ["board"] spShowB := by
 refine F.okQ sc_show_board (fun vs H Q E h => ?_) (fun cdv A outer s H vs Q E hr h => ?_)
 ·obtain ⟨_,_,rfl,_⟩ := h
  rfl
 obtain ⟨p,R,rfl,hR,hW,hl,q⟩ := h
 refine ⟨_,(qss_one (qs_ret (qe_join qe_str (qa_c (qe_comp ["a","b","c"] [none,none,none] (BlkOk.of rfl rfl (SubL.to subN) rfl) rfl (qi_list (qv 0)) (fun _ _ _ _ => (qg_tupK (n := 3) K rfl rfl (qgs_cons (qg_name (i := 0) (show (["a","b","c"] : List Str).Nodup by decide) rfl (Or.inl rfl)) (qgs_cons (qg_name (i := 1) (show (["a","b","c"] : List Str).Nodup by decide) rfl (Or.inl rfl)) (qgs_cons (qg_name (i := 2) (show (["a","b","c"] : List Str).Nodup by decide) rfl (Or.inl rfl)) qgs_nil))))) (fun _ _ _ _ => (qe_fn C_show_window hr rfl (qa_c (qv 0) (qa_c (qv 1) (qa_c (qv 2) qa_nil)))))) qa_nil)))),?_⟩
 try dsimp only [cx_k,cx_kn,as_nil,as_name,Nat.reduceAdd]
 obtain ⟨ws,hw1,hw2,hw3⟩ := hR.lst
 refine ⟨rfl,_,rfl,p,rfl,⟨_,SqL.of hw1⟩,?_⟩
 refine comp_list0 (K := K) (a := p) (xs := ws) (fun D i H' => Same H H' ∧ H' D = some (.lst (((R.take i).map winT).map V.str))) (fun D hD => ⟨same_new hD _,upd_same⟩) (fun D i H' _ _ h => SqL.of (h.1 _ _ hw1)) ?_ ?_
 ·intro D i y H' hD hi z9;obtain ⟨sD,eD⟩ := z9
  obtain ⟨r,x,rfl,ex,er⟩ := hw3 i y hi
  obtain ⟨a,b,c⟩ := x
  obtain ⟨s1,s2,s3⟩ := hW _ (List.mem_of_getElem? ex)
  have hi2 := (List.getElem?_eq_some_iff.mp hi).1
  refine ⟨r,_,rfl,SqT.of (sD _ _ er),rfl,_,_,rfl,_,_,rfl,_,_,rfl,rfl,fun k v e => ?_,?_⟩
  ·match k,e with
   | 0,e => cases e
   | 1,e => cases e
   | 2,e => cases e
   | k + 3,e => cases e
  refine ⟨_,rfl,_,rfl,_,rfl,a,b,c,rfl,s1,s2,s3,_,eD,line_of (by rw [List.length_map,List.length_map,List.length_take]; omega),same_wr hD sD,?_⟩
  rw [upd_same,take_snoc winT ex,List.map_append]
  rfl
 ·intro D H' hD z9;obtain ⟨sD,eD⟩ := z9
  rw [hw2,List.take_length] at eD
  have e1 : (" " : Str).length = 1 := by decide
  refine ⟨_,D,_,rfl,rfl,SqL.of eD,joinOk_of (B := 50) (fun y hy => ?_) (by rw [List.length_map,e1]; omega),q H' sD⟩
  obtain ⟨x,hx,rfl⟩ := List.mem_map.mp hy
  exact winT_len (hW x hx)
theorem ok_showr (F : Fun K "show_road" "show_road" st_show_road f fd) (B : Bl mg) (C_show_board : Callee P w K mg base n "show_board" ["board"] spShowB) : FnOk P w K mg base CX0 (n + 1) f fd ["start","end","board"] spShowR := by
 refine F.okQ sc_show_road (fun vs H Q E h => ?_) (fun cdv A outer s H vs Q E hr h => ?_)
 ·obtain ⟨_,_,_,_,rfl,_⟩ := h
  rfl
 obtain ⟨sv,ev,p,R,rfl,hs,he,hR,hW,hl,q⟩ := h
 refine ⟨_,(qss_cons (qs_set (i := 3) sc_show_road.nd rfl (Or.inl rfl) (qe_fn C_show_board hr rfl (qa_c (qv 2) qa_nil))) (qss_one (qs_ret (qe_ifExp (qt_cmpR qop_gt (qe_cb qcall_len rfl B.len bt_len (qa_c (qv 2) qa_nil)) qe_int (nomark _)) (qe_fstr (qf_val (qv 0) (qf_str (qf_val (qv 1) (qf_str (qf_val (qv 3) qf_nil)))))) (qe_fstr (qf_val (qv 0) (qf_str (qf_val (qv 1) qf_nil)))))))),?_⟩
 try dsimp only [cx_k,cx_kn,as_nil,as_name,Nat.reduceAdd]
 refine ⟨_,rfl,p,R,rfl,hR,hW,hl,fun H1 s1 => ?_⟩
 have hb := boardT_len2 hW hl
 have e1 : (" " : Str).length = 1 := by decide
 have e2 : (">" : Str).length = 1 := by decide
 obtain ⟨ws,hw1,hw2,hw3⟩ := hR.lst
 have q1 := q H1 s1
 unfold roadT at q1
 refine ⟨_,rfl,p,_,rfl,.inl (SqL.of (s1 _ _ hw1)),_,_,rfl,rfl,_,rfl,ite2 (fun z => ?_) (fun z => ?_)⟩
 ·have z' : (0 : Int) < ((ws.length : Nat) : Int) := of_decide_eq_true z
  rw [if_neg (fun e => by rw [e] at hw2; simp at hw2; rw [hw2] at z'; simp at z')] at q1
  refine ⟨_,rfl,.inr ⟨_,rfl,L.le (by omega),L.le (by simp only [Str.length_append,len_empty]; omega),L.le (by simp only [Str.length_append,len_empty,e2]; omega),_,rfl,.inr ⟨_,rfl,L.le (by omega),L.le (by simp only [Str.length_append,len_empty,e2]; omega),L.le (by simp only [Str.length_append,len_empty,e1,e2]; omega),_,rfl,.inr ⟨_,rfl,L.le (by omega),L.le (by simp only [Str.length_append,len_empty,e1,e2]; omega),L.le (by simp only [Str.length_append,len_empty,e1,e2]; omega),q1⟩⟩⟩⟩
 ·have z' : ¬ (0 : Int) < ((ws.length : Nat) : Int) := fun y => z (decide_eq_true y)
  rw [if_pos (List.length_eq_zero_iff.mp (by omega))] at q1
  refine ⟨_,rfl,.inr ⟨_,rfl,L.le (by omega),L.le (by simp only [Str.length_append,len_empty]; omega),L.le (by simp only [Str.length_append,len_empty,e2]; omega),_,rfl,.inr ⟨_,rfl,L.le (by omega),L.le (by simp only [Str.length_append,len_empty,e2]; omega),L.le (by simp only [Str.length_append,len_empty,e2]; omega),q1⟩⟩⟩
theorem ok_shown (F : Fun K "show_net" "show_net" st_show_net f fd) (C_show_road : Callee P w K mg base n "show_road" ["start","end","board"] spShowR) : FnOk P w K mg base CX0 (n + 1) f fd ["day","names","roads"] spShowN := by
 refine F.okQ sc_show_net (fun vs H Q E h => ?_) (fun cdv A outer s H vs Q E hr h => ?_)
 ·obtain ⟨_,_,_,_,_,rfl,_⟩ := h
  rfl
 obtain ⟨day,pn,pr,names,N,rfl,hd,hn,hN,hok,q⟩ := h
 refine ⟨_,(qss_one (qs_ret (qe_join qe_str (qa_c (qe_op qop_cat (qe_lst (qa_c (qe_fstr (qf_str (qf_val (qv 0) qf_nil))) qa_nil)) (qe_comp ["start","end","board","names"] [none,none,none,some 1] (BlkOk.of rfl rfl (SubL.to (subC rfl subN)) rfl) rfl (qi_list (qv 2)) (fun _ _ _ _ => (qg_tupK (n := 3) K rfl rfl (qgs_cons (qg_name (i := 0) (show (["start","end","board","names"] : List Str).Nodup by decide) rfl (Or.inl rfl)) (qgs_cons (qg_name (i := 1) (show (["start","end","board","names"] : List Str).Nodup by decide) rfl (Or.inl rfl)) (qgs_cons (qg_name (i := 2) (show (["start","end","board","names"] : List Str).Nodup by decide) rfl (Or.inl rfl)) qgs_nil))))) (fun _ _ _ _ => (qe_fn C_show_road hr rfl (qa_c (qe_ix (qix_listK K rfl) (qv 3) (qv 0) (fun _ _ => rfl)) (qa_c (qe_ix (qix_listK K rfl) (qv 3) (qv 1) (fun _ _ => rfl)) (qa_c (qv 2) qa_nil))))))) qa_nil)))),?_⟩
 try dsimp only [cx_k,cx_kn,as_nil,as_name,Nat.reduceAdd]
 have h1 := hd.len
 have e1 : ("day " : Str).length = 4 := by decide
 refine ⟨rfl,L.le (by simp only [Str.length_append,len_empty,e1]; omega),_,rfl,.inl ⟨_,rfl,hd.log,L.le (by simp only [Str.length_append,len_empty,e1]; omega),L.le (by simp only [Str.length_append,len_empty,e1]; omega),?_⟩⟩
 refine ⟨(by show 1 ≤ sizeLine; decide),fun p1 hp1 => ?_⟩
 generalize hgH1 : upd _ p1 _ = H1
 obtain ⟨s1,e2⟩ := fresh_of hp1 hgH1
 clear hgH1
 obtain ⟨ws,hw1,hw2,hw3⟩ := hN.la.lst
 rw [List.length_map] at hw2
 have hw11 := s1 _ _ hw1
 have nf := hok.few
 refine ⟨_,rfl,pr,rfl,⟨_,SqL.of hw11⟩,?_⟩
 refine comp_list0 (K := K) (a := pr) (xs := ws) (fun D i H' => Same H1 H' ∧ H' D = some (.lst (((N.take i).map (roadN names)).map V.str))) (fun D hD => ⟨same_new hD _,upd_same⟩) (fun D i H' _ _ h => SqL.of (h.1 _ _ hw11)) ?_ ?_
 ·intro D i y H' hD hi z9;obtain ⟨sD,eD⟩ := z9
  obtain ⟨r,x,rfl,ex,er⟩ := hw3 i y hi
  have hi2 : i < N.length := by
   have := (List.getElem?_eq_some_iff.mp hi).1
   omega
  have em := List.getElem?_eq_getElem hi2
  rw [List.getElem?_map,em] at ex
  cases ex
  obtain ⟨m1,m2,m3,m4,m5,m6⟩ := hok.rd _ (List.getElem_mem hi2)
  have hb := (hN.bd _ (List.getElem_mem hi2)).1
  generalize hm : N[i] = m at *
  refine ⟨r,_,rfl,SqT.of (sD _ _ (s1 _ _ er)),rfl,_,_,rfl,_,_,rfl,_,_,rfl,rfl,fun k v e => ?_,?_⟩
  ·match k,e with
   | 0,e => cases e
   | 1,e => cases e
   | 2,e => cases e
   | 3,e => exact e
   | k + 4,e => cases e
  have hn' := sD _ _ (s1 _ _ hn)
  refine ⟨_,rfl,_,rfl,pn,_,_,_,rfl,rfl,SqL.of hn',at_nm m1 m2,_,rfl,_,rfl,pn,_,_,_,rfl,rfl,SqL.of hn',at_nm m3 m4,_,rfl,_,_,m.2.2.1,m.2.2.2,rfl,nm_len hok.nm _,nm_len hok.nm _,(hb.same s1).same sD,m5,m6,fun H2 s2 => ?_⟩
  refine ⟨_,s2 _ _ eD,line_of (by rw [List.length_map,List.length_map,List.length_take]; omega),same_wr hD (sD.trans s2),?_⟩
  rw [upd_same,take_snoc (roadN names) em,List.map_append]
  rfl
 ·intro D H' hD z9;obtain ⟨sD,eD⟩ := z9
  rw [hw2,List.take_length] at eD
  refine ⟨p1,D,_,_,rfl,rfl,sD _ _ e2,eD,L.le (by simp; omega),fun p3 hp3 => ?_⟩
  generalize hgH3 : upd _ p3 _ = H3
  obtain ⟨s3,e3⟩ := fresh_of hp3 hgH3
  clear hgH3
  have e5 : ("; " : Str).length = 2 := by decide
  refine ⟨_,p3,(Str.empty ++ "day " ++ (Str.ofString (toString day))) :: N.map (roadN names),rfl,rfl,SqL.of e3,joinOk_tot (by have := hok.tot; unfold netT at this; rw [e5]; omega),q H3 ((s1.trans sD).trans s3)⟩
end
section
open PySem.Spec PyProof.Rows
theorem qcall_max3 {X : Cx} (hc : X.calm = true) : QCall X (.builtin "max") (fun xs H Q => ∃ i j k,xs = [.int i,.int j,.int k] ∧ ∀ m : Int,i ≤ m → j ≤ m → k ≤ m → (m = i ∨ m = j ∨ m = k) → Q (.int m) H) := ⟨by
 intro pins s σ H xs us Q I r h
 obtain ⟨i,j,k,rfl,q⟩ := h
 obtain ⟨t,u,x,rfl⟩ : ∃ t u x,us = [.int i t,.int j u,.int k x] := by
  cases r with
  | cons p q =>
   cases q with
   | cons p' q' =>
    cases q' with
    | cons p'' q'' =>
     cases q''
     obtain ⟨t,rfl⟩ := p
     obtain ⟨u,rfl⟩ := p'
     obtain ⟨x,rfl⟩ := p''
     exact ⟨_,_,_,rfl⟩
 refine max_three_ints (I.ok.hd hc) fun h' tk kp => ?_
 by_cases c1 : j > i
 ·rw [if_pos c1]
  by_cases c2 : k > j
  ·rw [if_pos c2]
   exact ⟨.int k,H,I.kept kp,⟨_,rfl⟩,q k (by omega) (by omega) (by omega) (by omega)⟩
  ·rw [if_neg c2]
   exact ⟨.int j,H,I.kept kp,⟨_,rfl⟩,q j (by omega) (by omega) (by omega) (by omega)⟩
 ·rw [if_neg c1]
  by_cases c2 : k > i
  ·rw [if_pos c2]
   exact ⟨.int k,H,I.kept kp,⟨_,rfl⟩,q k (by omega) (by omega) (by omega) (by omega)⟩
  ·rw [if_neg c2]
   exact ⟨.int i,H,I.kept kp,⟨_,rfl⟩,q i (by omega) (by omega) (by omega) (by omega)⟩⟩
end
theorem join_fold (sep : Str) : ∀ (rest : List Str) (x : Str),Txt.join sep (x :: rest) = rest.foldl (fun acc p => acc ++ sep ++ p) x := by
 have h : ∀ (rest : List Str) (x : Str),Str.join sep (x :: rest) = rest.foldl (fun acc p => acc ++ sep ++ p) x := by
  intro rest
  induction rest with
  | nil => intro x; rfl
  | cons y r ih =>
   intro x
   rw [List.foldl_cons,← ih (x ++ sep ++ y),StrLaws.join_shift]
   rfl
 intro rest x
 unfold Txt.join
 rw [StrLaws.glued_eq_join]
 exact h rest x
noncomputable def wStep (acc : Str) (w : T3) : Str := (if w.1 < w.2.1 then acc ++ " " ++ Str.ofString (toString w.1) ++ "-" ++ Str.ofString (toString w.2.1) else acc ++ " " ++ Str.ofString (toString w.1)) ++ "+" ++ Str.ofString (toString w.2.2)
theorem wStep_eq (acc : Str) (w : T3) : wStep acc w = acc ++ " " ++ winT w := by
 unfold wStep winT
 split <;> simp only [Str.append_assoc,Str.empty_append]
theorem foldl_pre {α : Type} (g : α → Str) (sep : Str) : ∀ (l : List α) (x y : Str),l.foldl (fun acc p => acc ++ sep ++ g p) (x ++ y) = x ++ l.foldl (fun acc p => acc ++ sep ++ g p) y
 | [],x,y => rfl
 | p :: l,x,y => by
  rw [List.foldl_cons,List.foldl_cons,← foldl_pre g sep l x (y ++ sep ++ g p)]
  simp only [Str.append_assoc]
theorem foldl_w (R : List T3) (acc : Str) : R.foldl wStep acc = if R = [] then acc else acc ++ " " ++ boardT R := by
 have e : wStep = fun acc w => acc ++ " " ++ winT w := by
  funext acc w
  exact wStep_eq acc w
 cases R with
 | nil => rfl
 | cons w R =>
  rw [if_neg (by simp),e,List.foldl_cons]
  unfold boardT
  rw [List.map_cons,join_fold,List.foldl_map,foldl_pre]
noncomputable def rStep (names : List Str) (acc : Str) (m : RdT) : Str := m.2.2.2.foldl wStep (acc ++ "; " ++ nmT names m.1 ++ ">" ++ nmT names m.2.1)
theorem rStep_eq (names : List Str) (acc : Str) (m : RdT) : rStep names acc m = acc ++ "; " ++ roadN names m := by
 unfold rStep roadN roadT
 rw [foldl_w]
 split <;> simp only [Str.append_assoc,Str.empty_append]
theorem net_eq (day : Int) (names : List Str) (N : List RdT) : N.foldl (rStep names) ("day " ++ Str.ofString (toString day)) = netT day names N := by
 have e : rStep names = fun acc m => acc ++ "; " ++ roadN names m := by
  funext acc m
  exact rStep_eq names acc m
 unfold netT
 rw [join_fold,List.foldl_map,e,Str.empty_append]
theorem wStep_len {acc : Str} {w : T3} (h : Sm w.1 ∧ Sm w.2.1 ∧ Sm w.2.2) : (wStep acc w).length ≤ acc.length + 51 := by
 have e1 : (" " : Str).length = 1 := by decide
 have := winT_len h
 rw [wStep_eq]
 simp only [Str.length_append,e1]
 omega
theorem foldw_len : ∀ (R : List T3) (acc : Str),SmW R → (R.foldl wStep acc).length ≤ acc.length + 51 * R.length
 | [],acc,_ => by simp
 | w :: R,acc,h => by
  have h1 := foldw_len R (wStep acc w) fun x hx => h x (List.mem_cons_of_mem _ hx)
  have h2 := wStep_len (acc := acc) (h w (List.mem_cons_self ..))
  rw [List.foldl_cons,List.length_cons]
  omega
noncomputable def spText : Sp := fun vs H Q _ => ∃ (day : Int) (pn pr : Addr) (names : List Str) (N : List RdT),vs = [.int day,.ref pn,.ref pr] ∧ Sm day ∧ H pn = some (.lst (names.map V.str)) ∧ NA H pr N ∧ NetOk names N ∧ Q (.str (netT day names N)) H
theorem NA.add {H : Hp} {p r b : Addr} {N : List RdT} {s e : Int} {vs : List V} {R : List T3} (h : NA H p N) (fb : b ≠ p ∧ b ∉ N.map fun m => m.2.2.1) (hx : H p = some (.lst vs)) (hb : LA enc3 H b R) (hr : H r = some (.tup [.int s,.int e,.ref b])) : NA (upd H p (.lst (vs ++ [.ref r]))) p (N ++ [(s,e,b,R)]) := by
 refine ⟨?_,fun m hm => ?_,?_⟩
 ·rw [List.map_append]
  exact h.la.append (x := (s,e,b)) hx hr
 ·rcases List.mem_append.mp hm with hm | hm
  ·obtain ⟨h1,h2⟩ := h.bd m hm
   exact ⟨la_clear h1 hx h2,h2⟩
  ·rw [List.mem_singleton] at hm
   subst hm
   exact ⟨la_clear hb hx fb.1,fb.1⟩
 ·rw [List.map_append]
  refine List.nodup_append.mpr ⟨h.nd,by simp,fun x hx y hy => ?_⟩
  simp only [List.map_cons,List.map_nil,List.mem_singleton] at hy
  subst hy
  exact fun z => fb.2 (z ▸ hx)
noncomputable def strip (m : RdT) : Int × Int × List T3 := (m.1,m.2.1,m.2.2.2)
noncomputable def datS (x : Int × Int × List T3) : PyData := .tuple [.int x.1,.int x.2.1,datB x.2.2]
theorem datN_strip (N : List RdT) : N.map datN = (N.map strip).map datS := by rw [List.map_map]; rfl
section
variable {P : Program} {w : World} {K : PySem.W.Frag} {mg : Str → Option Value} {base : Heap} {f : Addr} {fd : FuncData} {n : Nat}
theorem ok_text (F : Fun K "_law_text" "_law_text" st__law_text f fd) (B : Bl mg) : FnOk P w K mg base CX0 (n + 1) f fd ["day","names","roads"] spText := by
 refine F.okQ sc__law_text (fun vs H Q E h => ?_) (fun cdv A outer s H vs Q E hr h => ?_)
 ·obtain ⟨_,_,_,_,_,rfl,_⟩ := h
  rfl
 obtain ⟨day,pn,pr,names,N,rfl,hd,hn,hN,hok,q⟩ := h
 refine ⟨_,(qss_cons (qs_set (i := 3) sc__law_text.nd rfl (Or.inl rfl) (qe_op qop_addS qe_str (qe_ct qcall_str rfl B.str_ bt_str (qa_c (qv 0) qa_nil)))) (qss_cons (qs_for PassesOwn.never rfl (qi_list (qv 2)) (qg_tup rfl (qgs_cons (qg_name (i := 4) sc__law_text.nd rfl (Or.inl rfl)) (qgs_cons (qg_name (i := 5) sc__law_text.nd rfl (Or.inl rfl)) (qgs_cons (qg_name (i := 6) sc__law_text.nd rfl (Or.inl rfl)) qgs_nil)))) (qss_cons (qs_set (i := 3) sc__law_text.nd rfl (Or.inl rfl) (qe_op qop_addS (qe_op qop_addS (qe_op qop_addS (qe_op qop_addS (qv 3) qe_str) (qe_ix qix_list (qv 1) (qv 4) (fun _ _ => rfl))) qe_str) (qe_ix qix_list (qv 1) (qv 5) (fun _ _ => rfl)))) (qss_one (qs_for PassesOwn.never rfl (qi_list (qv 6)) (qg_tup rfl (qgs_cons (qg_name (i := 7) sc__law_text.nd rfl (Or.inl rfl)) (qgs_cons (qg_name (i := 8) sc__law_text.nd rfl (Or.inl rfl)) (qgs_cons (qg_name (i := 9) sc__law_text.nd rfl (Or.inl rfl)) qgs_nil)))) (qss_cons (qs_set (i := 3) sc__law_text.nd rfl (Or.inl rfl) (qe_op qop_addS (qe_op qop_addS (qv 3) qe_str) (qe_ct qcall_str rfl B.str_ bt_str (qa_c (qv 7) qa_nil)))) (qss_cut (qs_if (qt_cmpR qop_lt (qv 7) (qv 8) (nomark _)) (qss_one (qs_set (i := 3) sc__law_text.nd rfl (Or.inl rfl) (qe_op qop_addS (qe_op qop_addS (qv 3) qe_str) (qe_ct qcall_str rfl B.str_ bt_str (qa_c (qv 8) qa_nil))))) qss_nil) (qss_one (qs_set (i := 3) sc__law_text.nd rfl (Or.inl rfl) (qe_op qop_addS (qe_op qop_addS (qv 3) qe_str) (qe_ct qcall_str rfl B.str_ bt_str (qa_c (qv 9) qa_nil))))))))))) (qss_one (qs_ret (qv 3))))),?_⟩
 try dsimp only [cx_k,cx_kn,as_nil,as_name,Nat.reduceAdd]
 have h1 := hd.len
 have e1 : ("day " : Str).length = 4 := by decide
 have e2 : ("; " : Str).length = 2 := by decide
 have e3 : (">" : Str).length = 1 := by decide
 have e4 : (" " : Str).length = 1 := by decide
 have e5 : ("-" : Str).length = 1 := by decide
 have e6 : ("+" : Str).length = 1 := by decide
 have nf := hok.few
 refine ⟨_,rfl,_,rfl,hd.log,_,_,rfl,rfl,L.le (by rw [e1]; omega),?_⟩
 obtain ⟨ws,hw1,hw2,hw3⟩ := hN.la.lst
 rw [List.length_map] at hw2
 refine ⟨_,rfl,pr,rfl,⟨_,SqL.of hw1⟩,for_list (K := K) (a := pr) (xs := ws)
  (fun i σ H' => H' = H ∧ (∃ v1 v2 v3 v4 v5 v6 : Option V,σ = [some (.int day),some (.ref pn),some (.ref pr),some (.str ((N.take i).foldl (rStep names) ("day " ++ Str.ofString (toString day)))),v1,v2,v3,v4,v5,v6]) ∧ ((N.take i).foldl (rStep names) ("day " ++ Str.ofString (toString day))).length ≤ 20 + 5500 * i)
  ⟨rfl,⟨_,_,_,_,_,_,rfl⟩,by simp only [List.take_zero,List.foldl_nil,Str.length_append,e1]; omega⟩ (fun i σ H' _ h => by rw [h.1]; exact SqL.of hw1) ?_ ?_⟩
 ·intro i y σ H' hi z9;obtain ⟨rfl,⟨v1,v2,v3,v4,v5,v6,rfl⟩,hlen⟩ := z9
  obtain ⟨r,x,rfl,ex,er⟩ := hw3 i y hi
  have hi2 : i < N.length := by
   have := (List.getElem?_eq_some_iff.mp hi).1
   omega
  have em := List.getElem?_eq_getElem hi2
  rw [List.getElem?_map,em] at ex
  cases ex
  have et : N.take (i + 1) = N.take i ++ [N[i]] := by rw [List.take_add_one,em]; rfl
  obtain ⟨m1,m2,m3,m4,m5,m6⟩ := hok.rd _ (List.getElem_mem hi2)
  have hb := (hN.bd _ (List.getElem_mem hi2)).1
  rw [et,List.foldl_append,List.foldl_cons,List.foldl_nil]
  generalize hm : N[i] = m at *
  generalize (N.take i).foldl (rStep names) ("day " ++ Str.ofString (toString day)) = acc at *
  have l1 := nm_len hok.nm m.1
  have l2 := nm_len hok.nm m.2.1
  have er : H' r = some (.tup [.int m.1,.int m.2.1,.ref m.2.2.1]) := er
  refine ⟨r,_,rfl,SqT.of er,rfl,_,_,rfl,_,_,rfl,_,_,rfl,rfl,?_⟩
  refine ⟨_,rfl,_,_,rfl,rfl,L.le (by rw [e2]; omega),_,rfl,_,rfl,pn,_,_,_,rfl,rfl,SqL.of hn,at_nm m1 m2,_,_,rfl,rfl,L.le (by simp only [Str.length_append,e2]; omega),_,_,rfl,rfl,L.le (by simp only [Str.length_append,e2,e3]; omega),_,rfl,_,rfl,pn,_,_,_,rfl,rfl,SqL.of hn,at_nm m3 m4,_,_,rfl,rfl,L.le (by simp only [Str.length_append,e2,e3]; omega),?_⟩
  have al : (acc ++ "; " ++ nmT names m.1 ++ ">" ++ nmT names m.2.1).length ≤ 300 + 5500 * i := by simp only [Str.length_append,e2,e3]; omega
  unfold rStep
  have fl := foldw_len m.2.2.2 (acc ++ "; " ++ nmT names m.1 ++ ">" ++ nmT names m.2.1) m5
  generalize acc ++ "; " ++ nmT names m.1 ++ ">" ++ nmT names m.2.1 = ac at *
  obtain ⟨bs,hb1,hb2,hb3⟩ := hb.lst
  refine ⟨_,rfl,m.2.2.1,rfl,⟨_,SqL.of hb1⟩,for_list (K := K) (a := m.2.2.1) (xs := bs)
   (fun j σ H'' => H'' = H' ∧ (∃ v4 v5 v6 : Option V,σ = [some (.int day),some (.ref pn),some (.ref pr),some (.str ((m.2.2.2.take j).foldl wStep ac)),some (.int m.1),some (.int m.2.1),some (.ref m.2.2.1),v4,v5,v6]) ∧ ((m.2.2.2.take j).foldl wStep ac).length ≤ ac.length + 51 * j)
   ⟨rfl,⟨_,_,_,rfl⟩,by simp⟩ (fun i σ H'' _ h => by rw [h.1]; exact SqL.of hb1) ?_ ?_⟩
  ·intro j z σ H'' hj z9;obtain ⟨rfl,⟨v4,v5,v6,rfl⟩,hlj⟩ := z9
   obtain ⟨r2,x,rfl,ex,er2⟩ := hb3 j z hj
   have et2 : m.2.2.2.take (j + 1) = m.2.2.2.take j ++ [x] := by rw [List.take_add_one,ex]; rfl
   have jl := (List.getElem?_eq_some_iff.mp ex).1
   obtain ⟨a,b,c⟩ := x
   have sm := m5 _ (List.mem_of_getElem? ex)
   rw [et2,List.foldl_append,List.foldl_cons,List.foldl_nil]
   have wl := wStep_len (acc := (m.2.2.2.take j).foldl wStep ac) sm
   obtain ⟨s1,s2,s3⟩ := sm
   have k1 := s1.len
   have k2 := s2.len
   have k3 := s3.len
   generalize (m.2.2.2.take j).foldl wStep ac = tx at *
   dsimp only at *
   refine ⟨r2,_,rfl,SqT.of er2,rfl,_,_,rfl,_,_,rfl,_,_,rfl,rfl,?_⟩
   refine ⟨_,rfl,_,_,rfl,rfl,L.le (by rw [e4]; omega),_,rfl,_,rfl,s1.log,_,_,rfl,rfl,L.le (by simp only [Str.length_append,e4]; omega),?_⟩
   refine ⟨fun σ' H2 => H2 = H'' ∧ σ' = [some (.int day),some (.ref pn),some (.ref pr),some (.str (if a < b then tx ++ " " ++ Str.ofString (toString a) ++ "-" ++ Str.ofString (toString b) else tx ++ " " ++ Str.ofString (toString a))),some (.int m.1),some (.int m.2.1),some (.ref m.2.2.1),some (.int a),some (.int b),some (.int c)],?_,?_⟩
   ·refine ⟨_,rfl,_,rfl,_,_,rfl,rfl,_,rfl,ite2 (fun y => ?_) (fun y => ?_)⟩
    ·rw [if_pos (of_decide_eq_true y)]
     exact ⟨_,rfl,_,_,rfl,rfl,L.le (by simp only [Str.length_append,e4,e5]; omega),_,rfl,_,rfl,s2.log,_,_,rfl,rfl,L.le (by simp only [Str.length_append,e4,e5]; omega),rfl,rfl⟩
    ·rw [if_neg (fun z => y (decide_eq_true z))]
     exact ⟨rfl,rfl⟩
   intro σ' H2 z9;obtain ⟨rfl,rfl⟩ := z9
   have tl : (if a < b then tx ++ " " ++ Str.ofString (toString a) ++ "-" ++ Str.ofString (toString b) else tx ++ " " ++ Str.ofString (toString a)).length ≤ tx.length + 40 := by
    split <;> simp only [Str.length_append,e4,e5] <;> omega
   refine ⟨_,rfl,_,_,rfl,rfl,L.le (by rw [e6]; omega),_,rfl,_,rfl,s3.log,_,_,rfl,rfl,L.le (by simp only [Str.length_append,e6]; omega),?_⟩
   exact ⟨rfl,⟨_,_,_,rfl⟩,by show (wStep tx (a,b,c)).length ≤ _; omega⟩
  ·intro σ H'' z9;obtain ⟨rfl,⟨v4,v5,v6,rfl⟩,hlj⟩ := z9
   rw [hb2,List.take_length]
   exact ⟨rfl,⟨_,_,_,_,_,_,rfl⟩,by omega⟩
 ·intro σ H' z9;obtain ⟨rfl,⟨v1,v2,v3,v4,v5,v6,rfl⟩,hlen⟩ := z9
  rw [hw2,List.take_length,net_eq]
  exact ⟨_,rfl,q⟩
theorem lay_small : ∀ {ns : List Int},(∀ x ∈ ns,0 ≤ x ∧ x < 4) → PyData.weightAll (ns.map .int) ≤ 4 * ns.length
 | [],_ => by simp [PyData.weightAll]
 | x :: ns,h => by
  have h1 := lay_small (ns := ns) fun y hy => h y (List.mem_cons_of_mem _ hy)
  have h2 : PyData.weight (.int x) ≤ 3 := by
   obtain ⟨a,b⟩ := h x (List.mem_cons_self ..)
   rcases (by omega : x = 0 ∨ x = 1 ∨ x = 2 ∨ x = 3) with rfl | rfl | rfl | rfl <;> simp [PyData.weight] <;> decide
  simp only [List.map_cons,PyData.weightAll,List.length_cons]
  omega
theorem lay_ok {ns : List Int} (h : ∀ x ∈ ns,0 ≤ x ∧ x < 4) (hl : ns.length ≤ 1000) : PyData.layable0 (.list (ns.map .int)) = true := by
 unfold PyData.layable0
 have h1 := lay_small h
 have h2 := PyProof.Rows.canLayAll_ints ns
 have h3 := PyProof.Rows.depthAll_ints ns
 simp only [PyData.canLay0,PyData.depth,PyData.weight,h2,h3,Bool.and_eq_true,decide_eq_true_eq]
 exact ⟨⟨trivial,by decide⟩,decide_eq_true (Nat.le_trans h1 (Nat.le_trans (Nat.mul_le_mul_left 4 hl) (by decide : 4 * 1000 ≤ 2 ^ 20)))⟩
theorem in_ints {x : Int} {ns : List Int} : inV (.int x) (ns.map V.int) = decide (x ∈ ns) := by
 unfold inV
 rw [Bool.eq_iff_iff,List.any_eq_true,decide_eq_true_iff]
 constructor
 ·intro z9;obtain ⟨y,hy,e⟩ := z9
  obtain ⟨z,hz,rfl⟩ := List.mem_map.mp hy
  have : z = x := by simpa [eqV] using e
  exact this ▸ hz
 ·intro h
  exact ⟨.int x,List.mem_map.mpr ⟨x,h,rfl⟩,by simp [eqV]⟩
theorem flat_ints (ns : List Int) : (ns.map V.int).all flatV = true := by
 rw [List.all_eq_true]
 intro y hy
 obtain ⟨z,_,rfl⟩ := List.mem_map.mp hy
 rfl
end
noncomputable def okS (x : Str) : Prop := ∀ c ∈ x.cps.toList,c < 128
theorem okS.ok {x : Str} (h : okS x) : PyData.strOk x = true := by
 unfold PyData.strOk
 rw [Array.all_eq_true']
 intro c hc
 have := h c (Array.mem_toList_iff.mpr hc)
 exact decide_eq_true (by omega)
theorem okS.app {x y : Str} (h : okS x) (h' : okS y) : okS (x ++ y) := fun c hc => by
 have hc : c ∈ (x.cps ++ y.cps).toList := hc
 rw [Array.toList_append,List.mem_append] at hc
 rcases hc with hc | hc
 ·exact h c hc
 ·exact h' c hc
theorem okS.slice {x : Str} (h : okS x) (l u : Option Int) : okS (Txt.slice x l u) := fun c hc => by
 unfold Txt.slice at hc
 split at hc
 ·exact h c hc
 ·have hc : c ∈ (Builtin.Str.strSliceIndices l u 1 x.length).filterMap (x.cps[·]?) := by simpa using hc
  obtain ⟨i,_,e⟩ := List.mem_filterMap.mp hc
  exact h c (Array.mem_toList_iff.mpr (Array.mem_of_getElem? e))
theorem mulOk8 {x : Str} (h : x.length ≤ 8) : MulOk x 8 := by
 refine ⟨by decide,fun _ _ => ?_,fun _ _ => ?_⟩
 ·have : ((2 : Int) ^ 63 - 1) / 8 = 1152921504606846975 := by decide
  rw [this]
  omega
 ·unfold Builtin.Str.tooLong
  refine decide_eq_false ?_
  have : x.length * (8 : Int).toNat = x.length * 8 := rfl
  have := line_of (n := x.length * 8) (by omega)
  omega
noncomputable def lettersT : Str := "abcdefghijklmnopqrstuvwxyz"
noncomputable def spRoads (K : PySem.W.Frag) : Sp := fun vs H Q _ => ∃ (day size goal : Int) (a : Addr) (ns : List Int),vs = [.int day,.int size,.int goal,.ref a] ∧ SqL K H a (ns.map V.int) ∧ ns.length ≤ 63 ∧ 1 ≤ day ∧ day ≤ 1000000000000000 ∧ 1 ≤ size ∧
 ∀ (l : Addr) (N : List RdT) (H' : Hp),Same H H' → NA H' l N → RoadsIn day size N → N.length ≤ 16 → Q (.ref l) H'
theorem rd_strs {K : PySem.W.Frag} {H : Hp} : ∀ xs : List Str,RdAll K H (xs.map V.str) (xs.map PyData.str)
 | [] => .nil
 | x :: xs => .cons (.str _) (rd_strs xs)
section
open PySem.StrLaws PySem.Builtin.Str
theorem part_free2 {x sep : Str} {c a b : Nat} (hx : ∀ k,x.cps.toList[k]? = some c → At x sep x.length k) (hn : ∀ k,a ≤ k → k < b → ¬ At x sep x.length k) : c ∉ (strSub x a b).cps.toList := by
 intro hm
 rw [strSub_toList] at hm
 obtain ⟨j,hj⟩ := List.getElem?_of_mem hm
 have hlt : j < b - a := by
  have h1 : j < ((x.cps.toList.drop a).take (b - a)).length := (List.getElem?_eq_some_iff.mp hj).1
  simp at h1
  omega
 rw [List.getElem?_take_of_lt hlt,List.getElem?_drop] at hj
 exact hn (a + j) (by omega) (by omega) (hx _ hj)
theorem parts_free2 {x sep : Str} {c : Nat} (hx : ∀ k,x.cps.toList[k]? = some c → At x sep x.length k) : ∀ (cuts : List Nat) (a f : Nat),ChainG x sep x.length a cuts f → (∀ k,f ≤ k → ¬ At x sep x.length k) → ∀ p ∈ partsFrom x sep.length a cuts,c ∉ p.cps.toList
 | [],a,f,h,hn,p,hp => by
  have e : f = a := h
  subst e
  rw [List.mem_singleton.mp hp]
  exact part_free2 hx fun k h1 _ => hn k h1
 | d :: r,a,f,h,hn,p,hp => by
  rcases List.mem_cons.mp hp with rfl | hp'
  ·exact part_free2 hx h.2.2.1
  ·exact parts_free2 hx r _ f h.2.2.2 hn p hp'
theorem split_free2 {x sep : Str} {c : Nat} (hs : 1 ≤ sep.length) (hk : ¬ PySem.Builtin.Str.strKind x < PySem.Builtin.Str.strKind sep) (hx : ∀ k,x.cps.toList[k]? = some c → At x sep x.length k) : ∀ p ∈ Txt.split x sep,c ∉ p.cps.toList := by
 obtain ⟨f,hG,hn⟩ := occ_tight x sep hs
 unfold Txt.split
 split
 ·rename_i hc
  intro p hp
  rw [List.mem_singleton.mp hp]
  intro hm
  obtain ⟨j,hj⟩ := List.getElem?_of_mem hm
  have hA := hx j hj
  rw [Bool.or_eq_true,decide_eq_true_eq,decide_eq_true_eq] at hc
  rcases hc with h | h
  ·have := hA.1; omega
  ·exact hk h
 ·split
  ·rename_i he
   intro p hp
   rw [List.mem_singleton.mp hp]
   have e0 : occurrences x sep 0 x.length (x.length + 1) = [] := List.isEmpty_iff.mp he
   rw [e0] at hG
   have ef : f = 0 := hG
   subst ef
   rw [← sub_whole x]
   exact part_free2 hx fun k h1 _ => hn k h1
  ·rw [partsBetween_eq]
   exact parts_free2 hx _ 0 f hG hn
theorem join_cps (sep : Str) : ∀ (x : Str) (r : List Str),(Str.join sep (x :: r)).cps.toList = x.cps.toList ++ r.flatMap fun p => sep.cps.toList ++ p.cps.toList
 | x,[] => by simp [Str.join]
 | x,y :: r => by
  show (x ++ sep ++ Str.join sep (y :: r)).cps.toList = _
  have e : ∀ a b : Str,(a ++ b).cps.toList = a.cps.toList ++ b.cps.toList := fun a b => by
   show (a.cps ++ b.cps).toList = _
   simp
  rw [e,e,join_cps sep y r,List.flatMap_cons]
  simp
theorem cut_first {c : Nat} : ∀ {a b s t : List Nat},c ∉ a → c ∉ b → a ++ c :: s = b ++ c :: t → a = b ∧ s = t
 | [],[],s,t,_,_,e => ⟨rfl,by simpa using e⟩
 | [],y :: b,s,t,_,hb,e => by
  simp at e
  exact absurd (List.mem_cons.mpr (.inl e.1)) hb
 | x :: a,[],s,t,ha,_,e => by
  simp at e
  exact absurd (List.mem_cons.mpr (.inl e.1.symm)) ha
 | x :: a,y :: b,s,t,ha,hb,e => by
  rw [List.cons_append,List.cons_append] at e
  injection e with e1 e2
  obtain ⟨h1,h2⟩ := cut_first (fun h => ha (List.mem_cons_of_mem _ h)) (fun h => hb (List.mem_cons_of_mem _ h)) e2
  exact ⟨by rw [e1,h1],h2⟩
theorem cps_inj {x y : Str} (h : x.cps.toList = y.cps.toList) : x = y := by
 cases x
 cases y
 congr
 exact Array.toList_inj.mp h
theorem join_inj {sep : Str} {c : Nat} {cs : List Nat} (hs : sep.cps.toList = c :: cs) : ∀ {xs ys : List Str},xs ≠ [] → ys ≠ [] → (∀ p ∈ xs,c ∉ p.cps.toList) → (∀ p ∈ ys,c ∉ p.cps.toList) → Str.join sep xs = Str.join sep ys → xs = ys
 | [],_,h,_,_,_,_ => absurd rfl h
 | _,[],_,h,_,_,_ => absurd rfl h
 | x :: xs,y :: ys,_,_,hx,hy,e => by
  have e := congrArg (fun z : Str => z.cps.toList) e
  rw [join_cps,join_cps] at e
  have fx := hx x (List.mem_cons_self ..)
  have fy := hy y (List.mem_cons_self ..)
  cases xs with
  | nil =>
   cases ys with
   | nil =>
    rw [List.flatMap_nil,List.append_nil,List.append_nil] at e
    rw [cps_inj (x := x) (y := y) e]
   | cons y' ys =>
    rw [List.flatMap_nil,List.append_nil,List.flatMap_cons,hs] at e
    exact absurd (by rw [e]; simp) fx
  | cons x' xs =>
   cases ys with
   | nil =>
    rw [List.flatMap_nil,List.append_nil,List.flatMap_cons,hs] at e
    exact absurd (by rw [← e]; simp) fy
   | cons y' ys =>
    have e' : x.cps.toList ++ c :: (cs ++ x'.cps.toList ++ xs.flatMap fun p => sep.cps.toList ++ p.cps.toList) = y.cps.toList ++ c :: (cs ++ y'.cps.toList ++ ys.flatMap fun p => sep.cps.toList ++ p.cps.toList) := by
     rw [List.flatMap_cons,List.flatMap_cons,hs] at e
     simpa [hs] using e
    obtain ⟨e1,e2⟩ := cut_first fx fy e'
    rw [List.append_assoc,List.append_assoc] at e2
    have e3 := List.append_cancel_left e2
    rw [← join_cps,← join_cps] at e3
    have := join_inj hs (xs := x' :: xs) (ys := y' :: ys) (by simp) (by simp) (fun p hp => hx p (List.mem_cons_of_mem _ hp)) (fun p hp => hy p (List.mem_cons_of_mem _ hp)) (cps_inj e3)
    rw [cps_inj e1,this]
theorem split_ne (x sep : Str) : Txt.split x sep ≠ [] := by
 unfold Txt.split
 split
 ·simp
 ·split
  ·simp
  ·rw [partsBetween_eq]
   obtain ⟨p,r,e⟩ := partsFrom_ne x sep.length 0 (occurrences x sep 0 x.length (x.length + 1))
   rw [e]
   simp
theorem at_join {sep : Str} {c : Nat} {cs : List Nat} (hs : sep.cps.toList = c :: cs) (hc : c ∉ cs) : ∀ {ts : List Str},(∀ p ∈ ts,c ∉ p.cps.toList) → ∀ k,(Str.join sep ts).cps.toList[k]? = some c → (((Str.join sep ts).cps.toList.drop k).take sep.length = sep.cps.toList)
 | [],_,k,h => by simp [Str.join,Str.empty] at h
 | [x],hf,k,h => absurd (List.mem_of_getElem? h) (hf x (List.mem_cons_self ..))
 | x :: y :: r,hf,k,h => by
  have ls : sep.length = (c :: cs).length := by rw [← hs]; simp [Str.length]
  have e : (Str.join sep (x :: y :: r)).cps.toList = x.cps.toList ++ (sep.cps.toList ++ (Str.join sep (y :: r)).cps.toList) := by
   rw [join_cps,join_cps,List.flatMap_cons,List.append_assoc]
  rw [e] at h ⊢
  rcases Nat.lt_or_ge k x.cps.toList.length with z | z
  ·rw [List.getElem?_append_left z] at h
   exact absurd (List.mem_of_getElem? h) (hf x (List.mem_cons_self ..))
  rw [List.getElem?_append_right z] at h
  rw [List.drop_append,List.drop_eq_nil_of_le z,List.nil_append]
  generalize k - x.cps.toList.length = j at h
  have lsep : sep.cps.toList.length = sep.length := by simp [Str.length]
  rcases Nat.lt_or_ge j sep.cps.toList.length with y1 | y1
  ·rw [List.getElem?_append_left y1,hs] at h
   cases j with
   | zero =>
    rw [List.drop_zero,← lsep,List.take_left]
   | succ j => exact absurd (List.mem_of_getElem? (by simpa using h)) hc
  ·rw [List.getElem?_append_right y1] at h
   rw [List.drop_append,List.drop_eq_nil_of_le y1,List.nil_append]
   exact at_join hs hc (ts := y :: r) (fun p hp => hf p (List.mem_cons_of_mem _ hp)) _ h
theorem split_join {sep : Str} {c : Nat} {cs : List Nat} (hs : sep.cps.toList = c :: cs) (hc : c ∉ cs) (ha : PySem.Builtin.Str.strKind sep = 1) {ts : List Str} (h0 : ts ≠ []) (hf : ∀ p ∈ ts,c ∉ p.cps.toList) : Txt.split (Str.join sep ts) sep = ts := by
 have ls : sep.length = (c :: cs).length := by rw [← hs]; simp [Str.length]
 have hk : ¬ PySem.Builtin.Str.strKind (Str.join sep ts) < PySem.Builtin.Str.strKind sep := by
  rw [ha]
  unfold PySem.Builtin.Str.strKind
  split
  ·omega
  ·split <;> omega
 refine join_inj hs (split_ne _ _) h0 (split_free2 (by rw [ls]; simp) hk fun k hkk => ?_) hf (join_split _ _)
 have e := at_join hs hc hf k hkk
 have hl : k + sep.length ≤ (Str.join sep ts).length := by
  have := congrArg List.length e
  rw [List.length_take,List.length_drop] at this
  have l1 : sep.cps.toList.length = sep.length := by simp [Str.length]
  have l2 : (Str.join sep ts).cps.toList.length = (Str.join sep ts).length := by simp [Str.length]
  have : 1 ≤ sep.length := by rw [ls]; simp
  omega
 refine ⟨hl,?_⟩
 rw [subAt_eq,e]
 simp
theorem part_join {c : Nat} {x y : Str} (hx : c ∉ x.cps.toList) : Txt.partition (x ++ ⟨#[c]⟩ ++ y) ⟨#[c]⟩ = (x,⟨#[c]⟩,y) := by
 have ea : ∀ a b : Str,(a ++ b).cps.toList = a.cps.toList ++ b.cps.toList := fun a b => by
  show (a.cps ++ b.cps).toList = _
  simp
 have e : (x ++ (⟨#[c]⟩ : Str) ++ y).cps.toList = x.cps.toList ++ c :: y.cps.toList := by
  rw [ea,ea]
  simp
 have lx : x.cps.toList.length = x.length := by simp [Str.length]
 have at_ : (x ++ (⟨#[c]⟩ : Str) ++ y).cps.toList[x.length]? = some c := by
  rw [e,List.getElem?_append_right (by omega),lx,Nat.sub_self]
  rfl
 unfold Txt.partition
 rcases occ_head (x ++ (⟨#[c]⟩ : Str) ++ y) ⟨#[c]⟩ 1 (Nat.le_refl _) with ⟨_,h⟩ | ⟨i,r,h,hA,hn⟩
 ·exact absurd ((subAt_one _ c _).mpr at_) (h x.length)
 ·have hi := (subAt_one _ c i).mp hA
  have i1 : i = x.length := by
   rcases Nat.lt_trichotomy i x.length with z | z | z
   ·rw [e,List.getElem?_append_left (by omega)] at hi
    exact absurd (List.mem_of_getElem? hi) hx
   ·exact z
   ·exact absurd ((subAt_one _ c _).mpr at_) (hn _ z)
  subst i1
  rw [h]
  have l1 : (⟨#[c]⟩ : Str).length = 1 := rfl
  have s1 : strSub (x ++ (⟨#[c]⟩ : Str) ++ y) 0 x.length = x := cps_inj (by
   rw [strSub_toList,e,List.drop_zero,Nat.sub_zero,← lx,List.take_left])
  have s2 : strSub (x ++ (⟨#[c]⟩ : Str) ++ y) (x.length + 1) (x ++ (⟨#[c]⟩ : Str) ++ y).length = y := cps_inj (by
   have l2 : (x ++ (⟨#[c]⟩ : Str) ++ y).length = x.length + 1 + y.length := by
    rw [Str.length_append,Str.length_append,l1]
   have ly : y.cps.toList.length = y.length := by simp [Str.length]
   rw [strSub_toList,e,l2,List.drop_append,List.drop_eq_nil_of_le (by omega),List.nil_append,lx,show x.length + 1 - x.length = 1 by omega,show x.length + 1 + y.length - (x.length + 1) = y.length by omega,List.drop_succ_cons,List.drop_zero,← ly,List.take_length])
  show (strSub _ 0 x.length,_,strSub _ (x.length + 1) _) = _
  rw [s1,s2]
theorem part_none {c : Nat} {x : Str} (hx : c ∉ x.cps.toList) : Txt.partition x ⟨#[c]⟩ = (x,Str.empty,Str.empty) := by
 unfold Txt.partition
 rcases occ_head x ⟨#[c]⟩ 1 (Nat.le_refl _) with ⟨h,_⟩ | ⟨i,r,h,hA,hn⟩
 ·rw [h]
 ·exact absurd (List.mem_of_getElem? ((subAt_one _ c i).mp hA)) hx
end
noncomputable abbrev numT (n : Int) : Str := Str.ofString (toString n)
theorem len_ge10 (m : Nat) : 1 ≤ (Nat.toDigits 10 m).length := Nat.length_toDigits_pos
theorem dig_first : ∀ m : Nat,1 ≤ m → (Nat.toDigits 10 m).head? ≠ some '0' := by
 intro m
 induction m using Nat.strongRecOn with
 | _ m ih =>
  intro h1
  by_cases h : m < 10
  ·rw [Nat.toDigits_of_lt_base h]
   have : ∀ m : Fin 10,1 ≤ m.val → [Nat.digitChar m.val].head? ≠ some '0' := by decide
   exact this ⟨m,h⟩ h1
  ·have hm : m % 10 < 10 := Nat.mod_lt m (by decide)
   have t : Nat.toDigits 10 (m / 10) ++ Nat.toDigits 10 (m % 10) = Nat.toDigits 10 (10 * (m / 10) + m % 10) := Nat.toDigits_append_toDigits (by decide) (by omega) hm
   rw [Nat.div_add_mod] at t
   rw [← t]
   have := ih (m / 10) (by omega) (by omega)
   cases e : Nat.toDigits 10 (m / 10) with
   | nil =>
    have h := len_ge10 (m / 10)
    rw [e] at h
    exact absurd h (by decide)
   | cons a l =>
    rw [e] at this
    exact this
theorem num_cps {n : Int} (h : 0 ≤ n) : (numT n).cps.toList = (Nat.toDigits 10 n.toNat).map Char.toNat := by
 obtain ⟨m,rfl⟩ := Int.eq_ofNat_of_zero_le h
 exact PySem.W.KIN.signs_num m
theorem num_dig {n : Int} (h : 0 ≤ n) : ∀ c ∈ (numT n).cps.toList,48 ≤ c ∧ c ≤ 57 := fun c hc => by
 rw [num_cps h] at hc
 obtain ⟨ch,hch,e⟩ := List.mem_map.mp hc
 have r := PyProof.Rows.digit_range (Nat.isDigit_of_mem_toDigits (by decide) (by decide) hch)
 rw [← e]
 exact r
theorem num_ne {n : Int} (h : 0 ≤ n) : 1 ≤ (numT n).length := by
 have e : (numT n).length = (numT n).cps.toList.length := by simp [Str.length]
 rw [e,num_cps h,List.length_map]
 exact len_ge10 _
theorem num_int {n : Int} (h : Sm n) : PySem.intText? (numT n) = some n := by
 have hl := h.len
 have h0 := h.1
 have hd : PySem.NumText.AllDigits (numT n).cps.toList := fun c hc => num_dig h0 c hc
 have hne : (numT n).cps.toList ≠ [] := fun e => by
  have := num_ne h0
  have e' : (numT n).length = (numT n).cps.toList.length := by simp [Str.length]
  rw [e',e] at this
  exact absurd this (by decide)
 have e := intText_digits hd hne (Nat.le_trans hl (by decide))
 rw [num_cps h0,PySem.W.KIN.val_back] at e
 rw [e]
 congr 1
 omega
theorem num_first {n : Int} (h : 0 ≤ n) (hl : 1 < (numT n).length) : ∃ c,(numT n).cps[0]? = some c ∧ c ≠ 48 := by
 have e : (numT n).length = (numT n).cps.toList.length := by simp [Str.length]
 have ec := num_cps h
 have h1 : 1 ≤ n.toNat := by
  rcases Nat.eq_zero_or_pos n.toNat with z | z
  ·rw [e,ec,z] at hl
   exact absurd hl (by decide)
  ·exact z
 have hf := dig_first n.toNat h1
 cases hd : Nat.toDigits 10 n.toNat with
 | nil =>
  have := len_ge10 n.toNat
  rw [hd] at this
  exact absurd this (by decide)
 | cons a l =>
  rw [hd] at hf ec
  refine ⟨a.toNat,?_,fun z => hf ?_⟩
  ·rw [← Array.getElem?_toList,ec]
   rfl
  ·have : a = '0' := Char.toNat_inj.mp z
   rw [this]
   rfl
structure Low (x : Str) : Prop where
 all : ∀ c ∈ x.cps.toList,97 ≤ c ∧ c ≤ 122
 l1 : 1 ≤ x.length
 l8 : x.length ≤ 8
structure Gt (mg : Str → Option Value) (t1 t2 t3 t4 : Tok) : Prop where
 fig : mg "FIGURES" = some (.str "0123456789" t1)
 lets : mg "LETTERS" = some (.str "abcdefghijklmnopqrstuvwxyz" t2)
 mf : mg "MOST_FIGURES" = some (.int 16 t3)
 mo : mg "MOST" = some (.int 1000000000000000 t4)
theorem fig_in {c : Nat} (h : 48 ≤ c ∧ c ≤ 57) : c ∈ ("0123456789" : Str).cps.toList := by
 have : ∀ c : Fin 58,48 ≤ c.val → c.val ∈ ("0123456789" : Str).cps.toList := by decide +kernel
 exact this ⟨c,by omega⟩ h.1
theorem let_in {c : Nat} (h : 97 ≤ c ∧ c ≤ 122) : c ∈ ("abcdefghijklmnopqrstuvwxyz" : Str).cps.toList := by
 have : ∀ c : Fin 123,97 ≤ c.val → c.val ∈ ("abcdefghijklmnopqrstuvwxyz" : Str).cps.toList := by decide +kernel
 exact this ⟨c,by omega⟩ h.1
theorem ascii_of {x : Str} (h : ∀ c ∈ x.cps.toList,c < 128) : x.cps.all (· < 128) = true := by
 rw [← Array.all_toList,List.all_eq_true]
 exact fun c hc => decide_eq_true (h c hc)
section
variable {P : Program} {w : World} {K : PySem.W.Frag} {mg : Str → Option Value} {base : Heap} {f : Addr} {fd : FuncData} {n : Nat} {t1 t2 t3 t4 : Tok}
theorem low_free {x : Str} (h : Low x) {c : Nat} (hc : c < 97 ∨ 122 < c) : c ∉ x.cps.toList := fun z => by
 have := h.all c z
 omega
theorem num_free {n : Int} (h : 0 ≤ n) {c : Nat} (hc : c < 48 ∨ 57 < c) : c ∉ (numT n).cps.toList := fun z => by
 have := num_dig h c z
 omega
noncomputable def spanT (a b : Int) : Str := if a < b then numT a ++ "-" ++ numT b else numT a
theorem win_span {x : T3} : winT x = spanT x.1 x.2.1 ++ "+" ++ numT x.2.2 := by
 unfold winT spanT
 split <;> simp only [Str.empty_append]
theorem span_free {a b : Int} (ha : 0 ≤ a) (hb : 0 ≤ b) {c : Nat} (hc : (c < 48 ∨ 57 < c) ∧ c ≠ 45) : c ∉ (spanT a b).cps.toList := by
 unfold spanT
 split
 ·intro z
  have e : ∀ u v : Str,(u ++ v).cps.toList = u.cps.toList ++ v.cps.toList := fun u v => by
   show (u.cps ++ v.cps).toList = _
   simp
  rw [e,e,List.mem_append,List.mem_append] at z
  rcases z with (z | z) | z
  ·exact num_free ha hc.1 z
  ·have : (("-" : Str)).cps.toList = [45] := by decide +kernel
   rw [this] at z
   exact hc.2 (by simpa using z)
  ·exact num_free hb hc.1 z
 ·exact num_free ha hc.1
theorem dv2_three {H : Hp} {r : Addr} {a b c : Int} (e : H r = some (.tup [.int a,.int b,.int c])) : Dv2 H (.ref r) := ⟨.tup e,fun zs ez z hz => by
 have : tupV H (.ref r) = some [V.int a,V.int b,V.int c] := by simp [tupV,e]
 rw [this] at ez
 cases ez
 simp only [List.mem_cons,List.not_mem_nil,or_false] at hz
 rcases hz with rfl | rfl | rfl <;> exact .int _⟩
noncomputable def WinsR (day : Int) (R : List T3) : Prop := ∀ x ∈ R,0 ≤ x.1 ∧ x.1 ≤ x.2.1 ∧ x.2.1 < day ∧ 1 ≤ x.2.2 ∧ x.2.2 ≤ 1000000000000000
noncomputable def spNumOf (K : PySem.W.Frag) : Sp := fun vs H Q _ => ∃ (p : Addr) (z : Str) (ys : List Str),vs = [.ref p,.str z] ∧ H p = some (.lst (ys.map V.str)) ∧ ys.length ≤ 100000 ∧ ∀ (v : Int) (ys' : List Str),(z ∈ ys ∧ v = ((ys.idxOf z : Nat) : Int) ∧ ys' = ys) ∨ (z ∉ ys ∧ v = (ys.length : Int) ∧ ys' = ys ++ [z]) → Q (.int v) (upd H p (.lst (ys'.map V.str)))
theorem upd_id {H : Hp} {p : Addr} {o : HO} (h : H p = some o) : upd H p o = H := funext fun b => by
 by_cases e : b = p
 ·rw [e,upd_same,h]
 ·rw [upd_ne e]
theorem in_strs {x : Str} {ns : List Str} : inV (.str x) (ns.map V.str) = decide (x ∈ ns) := by
 unfold inV
 rw [Bool.eq_iff_iff,List.any_eq_true,decide_eq_true_iff]
 constructor
 ·intro z9;obtain ⟨y,hy,e⟩ := z9
  obtain ⟨z,hz,rfl⟩ := List.mem_map.mp hy
  have : z = x := by simpa [eqV] using e
  exact this ▸ hz
 ·intro h
  exact ⟨.str x,List.mem_map.mpr ⟨x,h,rfl⟩,by simp [eqV]⟩
theorem ok_numOf (F : Fun K "number_of" "number_of" st_number_of f fd) : FnOk P w K mg base CX0 (n + 1) f fd ["names","name"] (spNumOf K) := by
 refine F.okQ sc_number_of (fun vs H Q E h => ?_) (fun cdv A outer s H vs Q E hr h => ?_)
 ·obtain ⟨_,_,_,rfl,_⟩ := h
  rfl
 obtain ⟨p,z,ys,rfl,hp,hl,qq⟩ := h
 refine ⟨_,(qss_cut (qs_if (qt_cmpR qop_notInL (qv 1) (qv 0) rfl) (qss_one (qs_expr (qe_append (qv 0) (qa_c (qv 1) qa_nil)))) qss_nil) (qss_one (qs_ret (qe_indexS K rfl (qv 0) (qa_c (qv 1) qa_nil))))),?_⟩
 try dsimp only [cx_k,cx_kn,as_nil,as_name,Nat.reduceAdd]
 have q1 : z ∈ ys → Q (.int ((ys.idxOf z : Nat) : Int)) H := fun c => by
  have := qq _ ys (.inl ⟨c,rfl,rfl⟩)
  rw [upd_id hp] at this
  exact this
 have q2 : z ∉ ys → Q (.int (ys.length : Int)) (upd H p (.lst ((ys ++ [z]).map V.str))) := fun c => qq _ _ (.inr ⟨c,rfl,rfl⟩)
 have hz := L.le (n := ys.length) (by omega)
 have hz2 := L.le (n := ys.length + 1) (by omega)
 by_cases c : z ∈ ys
 ·refine ⟨fun σ' H' => σ' = [some (.ref p),some (.str z)] ∧ H' = H,?_,?_⟩
  ·refine ⟨_,rfl,_,rfl,p,_,rfl,.inl (SqL.of hp),rfl,flat_strs _,_,rfl,?_⟩
   rw [in_strs,decide_eq_true c]
   exact iteN (by decide) ⟨rfl,rfl⟩
  intro σ' H' z9;obtain ⟨rfl,rfl⟩ := z9
  exact ⟨_,rfl,.inl ⟨rfl,_,SqL.of hp⟩,_,rfl,p,z,ys,rfl,rfl,SqL.of hp,c,hz,q1 c⟩
 ·refine ⟨fun σ' H' => σ' = [some (.ref p),some (.str z)] ∧ H' = upd H p (.lst ((ys ++ [z]).map V.str)),?_,?_⟩
  ·refine ⟨_,rfl,_,rfl,p,_,rfl,.inl (SqL.of hp),rfl,flat_strs _,_,rfl,?_⟩
   rw [in_strs,decide_eq_false c]
   refine iteP (by decide) ⟨_,rfl,.inl ⟨rfl,_,SqL.of hp⟩,_,rfl,p,_,_,rfl,rfl,hp,line_of (by rw [List.length_map]; omega),rfl,?_⟩
   rw [List.map_append]
   rfl
  intro σ' H' z9;obtain ⟨rfl,rfl⟩ := z9
  have e : upd H p (.lst ((ys ++ [z]).map V.str)) p = some (.lst ((ys ++ [z]).map V.str)) := upd_same
  refine ⟨_,rfl,.inl ⟨rfl,_,SqL.of e⟩,_,rfl,p,z,ys ++ [z],rfl,rfl,SqL.of e,by simp,by rw [List.length_append,List.length_singleton]; exact hz2,?_⟩
  rw [List.idxOf_append,if_neg c]
  simpa using q2 c
end
theorem road_words {s e : Str} {R : List T3} : roadT s e R = Str.join " " ((s ++ ">" ++ e) :: R.map winT) := by
 have h : ∀ (x : Str) (r : List Str),Str.join " " (x :: r) = Txt.join " " (x :: r) := fun x r => by
  unfold Txt.join
  rw [StrLaws.glued_eq_join]
 unfold roadT boardT
 cases R with
 | nil => rw [if_pos rfl,Str.empty_append]; rfl
 | cons w R =>
  rw [if_neg (by simp),List.map_cons,← h,Str.empty_append]
  rfl
theorem app_mem {c : Nat} {u v : Str} : c ∈ (u ++ v).cps.toList ↔ c ∈ u.cps.toList ∨ c ∈ v.cps.toList := by
 have e : (u ++ v).cps.toList = u.cps.toList ++ v.cps.toList := by
  show (u.cps ++ v.cps).toList = _
  simp
 rw [e,List.mem_append]
theorem win_free {x : T3} (h0 : 0 ≤ x.1) (h1 : 0 ≤ x.2.1) (h2 : 0 ≤ x.2.2) {c : Nat} (hc : (c < 48 ∨ 57 < c) ∧ c ≠ 45 ∧ c ≠ 43) : c ∉ (winT x).cps.toList := fun z => by
 rw [win_span,app_mem,app_mem] at z
 rcases z with (z | z) | z
 ·exact span_free h0 h1 ⟨hc.1,hc.2.1⟩ z
 ·have : (("+" : Str)).cps.toList = [43] := by decide +kernel
  rw [this] at z
  exact hc.2.2 (by simpa using z)
 ·exact num_free h2 hc.1 z
theorem ends_free {s e : Str} (hs : Low s) (he : Low e) {c : Nat} (hc : (c < 97 ∨ 122 < c) ∧ c ≠ 62) : c ∉ (s ++ ">" ++ e).cps.toList := fun z => by
 rw [app_mem,app_mem] at z
 rcases z with (z | z) | z
 ·exact low_free hs hc.1 z
 ·have : ((">" : Str)).cps.toList = [62] := by decide +kernel
  rw [this] at z
  exact hc.2 (by simpa using z)
 ·exact low_free he hc.1 z
theorem split_road {s e : Str} {R : List T3} {day : Int} (hs : Low s) (he : Low e) (hR : WinsR day R) : Txt.split (roadT s e R) " " = (s ++ ">" ++ e) :: R.map winT := by
 rw [road_words]
 refine split_join (c := 32) (cs := []) (by decide +kernel) (by simp) (by decide +kernel) (by simp) fun p hp => ?_
 rcases List.mem_cons.mp hp with rfl | hp
 ·exact ends_free hs he ⟨by omega,by omega⟩
 ·obtain ⟨x,hx,rfl⟩ := List.mem_map.mp hp
  obtain ⟨a,b,c,d,_⟩ := hR x hx
  exact win_free a (by omega) (by omega) ⟨by omega,by omega,by omega⟩
theorem road_free {s e : Str} {R : List T3} {day : Int} (hs : Low s) (he : Low e) (hR : WinsR day R) : 59 ∉ (roadT s e R).cps.toList := by
 rw [road_words,join_cps]
 intro z
 rcases List.mem_append.mp z with z | z
 ·exact ends_free hs he ⟨by omega,by omega⟩ z
 ·obtain ⟨p,hp,z⟩ := List.mem_flatMap.mp z
  rcases List.mem_append.mp z with z | z
  ·exact absurd z (by decide +kernel)
  ·obtain ⟨x,hx,rfl⟩ := List.mem_map.mp hp
   obtain ⟨a,b,c,d,_⟩ := hR x hx
   exact win_free a (by omega) (by omega) ⟨by omega,by omega,by omega⟩ z
noncomputable def dig (c : Nat) : Bool := decide (48 ≤ c) && decide (c ≤ 57)
noncomputable def abcL (c : Nat) : Bool := decide (97 ≤ c) && decide (c ≤ 122)
noncomputable abbrev numL (n : Int) : List Nat := (numT n).cps.toList
noncomputable def Nx (p : Nat → Bool) (r : List Nat) : Prop := ∀ c,r.head? = some c → p c = false
theorem dig_iff {c : Nat} : dig c = true ↔ 48 ≤ c ∧ c ≤ 57 := by simp [dig]
theorem abc_iff {c : Nat} : abcL c = true ↔ 97 ≤ c ∧ c ≤ 122 := by simp [abcL]
theorem tw_app {p : Nat → Bool} : ∀ {a r : List Nat},(∀ c ∈ a,p c = true) → Nx p r → (a ++ r).takeWhile p = a
 | [],[],_,_ => rfl
 | [],c :: r,_,h => by
  rw [List.nil_append,List.takeWhile_cons,h c rfl]
  rfl
 | c :: a,r,ha,h => by
  rw [List.cons_append,List.takeWhile_cons,ha c (List.mem_cons_self ..),if_pos rfl,tw_app (fun d hd => ha d (List.mem_cons_of_mem _ hd)) h]
theorem tw_all {p : Nat → Bool} : ∀ (cs : List Nat),∀ c ∈ cs.takeWhile p,p c = true
 | [],c,h => by cases h
 | d :: cs,c,h => by
  rw [List.takeWhile_cons] at h
  split at h
  ·rename_i hd
   rcases List.mem_cons.mp h with rfl | h
   ·exact hd
   ·exact tw_all cs c h
  ·cases h
theorem tw_split {p : Nat → Bool} : ∀ (cs : List Nat),cs = cs.takeWhile p ++ cs.drop (cs.takeWhile p).length ∧ Nx p (cs.drop (cs.takeWhile p).length)
 | [] => ⟨rfl,fun c h => by cases h⟩
 | d :: cs => by
  rw [List.takeWhile_cons]
  by_cases hd : p d = true
  ·rw [if_pos hd]
   obtain ⟨h1,h2⟩ := tw_split (p := p) cs
   exact ⟨by rw [List.length_cons,List.drop_succ_cons,List.cons_append,← h1],by rw [List.length_cons,List.drop_succ_cons]; exact h2⟩
  ·rw [if_neg hd]
   refine ⟨rfl,fun c h => ?_⟩
   have : d = c := by simpa using h
   rw [← this]
   exact Bool.eq_false_iff.mpr hd
theorem dv_snoc (cs : List Nat) (c : Nat) : PySem.NumText.digitsVal (cs ++ [c]) = PySem.NumText.digitsVal cs * 10 + (c - 48) := PySem.NumText.digitsVal_snoc ..
theorem digits_num : ∀ (k : Nat) (cs : List Nat),cs.length = k → cs ≠ [] → (∀ c ∈ cs,dig c = true) → (1 < cs.length → cs.head? ≠ some 48) → (Nat.toDigits 10 (PySem.NumText.digitsVal cs)).map Char.toNat = cs ∧ (cs.head? ≠ some 48 → 1 ≤ PySem.NumText.digitsVal cs)
 | 0,cs,hk,h0,_,_ => absurd (List.length_eq_zero_iff.mp hk) h0
 | k + 1,cs,hk,h0,hd,hz => by
  obtain ⟨ds,c,rfl⟩ : ∃ ds c,cs = ds ++ [c] := ⟨cs.dropLast,cs.getLast h0,(List.dropLast_concat_getLast h0).symm⟩
  rw [List.length_append,List.length_singleton] at hk
  have hc := dig_iff.mp (hd c (by simp))
  have back : ∀ d : Fin 10,(Nat.digitChar d.val).toNat = 48 + d.val := by decide
  rw [dv_snoc]
  by_cases e : ds = []
  ·subst e
   have z : PySem.NumText.digitsVal [] = 0 := rfl
   rw [z]
   have lt : 0 * 10 + (c - 48) < 10 := by omega
   rw [Nat.toDigits_of_lt_base lt]
   refine ⟨?_,fun h => ?_⟩
   ·have := back ⟨0 * 10 + (c - 48),lt⟩
    simp only [List.map_cons,List.map_nil,List.nil_append]
    rw [this]
    simp only
    congr 1
    omega
   ·have : c ≠ 48 := fun z => h (by rw [z]; rfl)
    omega
  ·have hh : (ds ++ [c]).head? = ds.head? := by
    cases ds with
    | nil => exact absurd rfl e
    | cons a l => rfl
   rw [hh] at hz ⊢
   have lp : 1 ≤ ds.length := List.length_pos_iff.mpr e
   have hz' := hz (by rw [List.length_append,List.length_singleton]; omega)
   obtain ⟨i1,i2⟩ := digits_num k ds (by omega) e (fun d hd' => hd d (List.mem_append_left _ hd')) fun _ => hz'
   have v1 := i2 hz'
   refine ⟨?_,fun _ => by omega⟩
   have lt : c - 48 < 10 := by omega
   have t : Nat.toDigits 10 (PySem.NumText.digitsVal ds) ++ Nat.toDigits 10 (c - 48) = Nat.toDigits 10 (10 * PySem.NumText.digitsVal ds + (c - 48)) := Nat.toDigits_append_toDigits (by decide) (by omega) lt
   rw [show PySem.NumText.digitsVal ds * 10 + (c - 48) = 10 * PySem.NumText.digitsVal ds + (c - 48) by omega,← t,List.map_append,i1,Nat.toDigits_of_lt_base lt]
   have := back ⟨c - 48,lt⟩
   simp only [List.map_cons,List.map_nil]
   rw [this]
   simp only
   congr 2
   omega
noncomputable def canon (cs : List Nat) : Prop := cs ≠ [] ∧ cs.length ≤ 16 ∧ (∀ c ∈ cs,dig c = true) ∧ (1 < cs.length → cs.head? ≠ some 48)
theorem dv_lt : ∀ (k : Nat) (cs : List Nat),cs.length = k → (∀ c ∈ cs,dig c = true) → PySem.NumText.digitsVal cs < 10 ^ k
 | 0,cs,hk,_ => by
  rw [List.length_eq_zero_iff.mp hk]
  decide
 | k + 1,cs,hk,hd => by
  have h0 : cs ≠ [] := fun e => by rw [e] at hk; cases hk
  obtain ⟨ds,c,rfl⟩ : ∃ ds c,cs = ds ++ [c] := ⟨cs.dropLast,cs.getLast h0,(List.dropLast_concat_getLast h0).symm⟩
  rw [List.length_append,List.length_singleton] at hk
  have hc := dig_iff.mp (hd c (by simp))
  have := dv_lt k ds (by omega) fun d hd' => hd d (List.mem_append_left _ hd')
  rw [dv_snoc,Nat.pow_succ]
  omega
theorem canon_num {cs : List Nat} (h : canon cs) : Sm (PySem.NumText.digitsVal cs : Nat) ∧ numL (PySem.NumText.digitsVal cs : Nat) = cs := by
 obtain ⟨h0,h1,h2,h3⟩ := h
 refine ⟨⟨by omega,?_⟩,?_⟩
 ·have := dv_lt _ cs rfl h2
  have : PySem.NumText.digitsVal cs < 10 ^ 16 := Nat.lt_of_lt_of_le this (Nat.pow_le_pow_right (by decide) h1)
  have e : (10 : Nat) ^ 16 = 10000000000000000 := by decide
  omega
 ·rw [numL,num_cps (by omega)]
  exact (digits_num _ cs rfl h0 h2 h3).1
theorem num_canon {n : Int} (h : Sm n) : canon (numL n) ∧ ((PySem.NumText.digitsVal (numL n) : Nat) : Int) = n := by
 have l : (numL n).length = (numT n).length := by simp [Str.length]
 have l16 : (numT n).length ≤ 16 := h.len
 have l1 := num_ne h.1
 refine ⟨⟨fun e => ?_,by omega,fun c hc => dig_iff.mpr (num_dig h.1 c hc),fun hl => ?_⟩,?_⟩
 ·rw [e] at l
  simp at l
  omega
 ·obtain ⟨c,hc,n48⟩ := num_first h.1 (by omega)
  rw [← Array.getElem?_toList] at hc
  intro z
  have : (numL n).head? = some c := by
   rw [List.head?_eq_getElem?]
   exact hc
  rw [this] at z
  exact n48 (Option.some.inj z)
 ·rw [numL,num_cps h.1,PySem.W.KIN.val_back]
  have := h.1
  omega
noncomputable def pNum (cs : List Nat) : Option (Int × List Nat) :=
 if cs.takeWhile dig = [] ∨ 16 < (cs.takeWhile dig).length ∨ ((cs.takeWhile dig).head? = some 48 ∧ 1 < (cs.takeWhile dig).length) then none
 else some (((PySem.NumText.digitsVal (cs.takeWhile dig) : Nat) : Int),cs.drop (cs.takeWhile dig).length)
theorem pNum_sound {cs r : List Nat} {n : Int} (h : pNum cs = some (n,r)) : Sm n ∧ cs = numL n ++ r ∧ Nx dig r := by
 unfold pNum at h
 split at h
 ·cases h
 ·rename_i c
  rw [not_or,not_or] at c
  have ca : canon (cs.takeWhile dig) := ⟨c.1,by omega,tw_all cs,fun l z => c.2.2 ⟨z,l⟩⟩
  obtain ⟨e1,e2⟩ := canon_num ca
  obtain ⟨s1,s2⟩ := tw_split (p := dig) cs
  injection h with h
  injection h with h1 h2
  subst h1 h2
  exact ⟨e1,by rw [e2]; exact s1,s2⟩
theorem pNum_full {n : Int} {r : List Nat} (h : Sm n) (hr : Nx dig r) : pNum (numL n ++ r) = some (n,r) := by
 obtain ⟨ca,v⟩ := num_canon h
 have e : (numL n ++ r).takeWhile dig = numL n := tw_app ca.2.2.1 hr
 unfold pNum
 rw [e,if_neg,v,List.drop_left]
 rintro (z | z | z)
 ·exact ca.1 z
 ·have := ca.2.1
  omega
 ·exact ca.2.2.2 z.2 z.1
noncomputable def wcL (x : T3) : List Nat := (winT x).cps.toList
noncomputable def scL (a b : Int) : List Nat := (spanT a b).cps.toList
theorem cps_app (u v : Str) : (u ++ v).cps.toList = u.cps.toList ++ v.cps.toList := by
 show (u.cps ++ v.cps).toList = _
 simp
noncomputable def WinR (day : Int) (x : T3) : Prop := 0 ≤ x.1 ∧ x.1 ≤ x.2.1 ∧ x.2.1 < day ∧ 1 ≤ x.2.2 ∧ x.2.2 ≤ 1000000000000000
theorem wcL_eq (x : T3) : wcL x = scL x.1 x.2.1 ++ 43 :: numL x.2.2 := by
 unfold wcL scL
 rw [win_span,cps_app,cps_app]
 have : (("+" : Str)).cps.toList = [43] := by decide +kernel
 rw [this]
 simp
theorem scL_eq (a b : Int) : scL a b = if a < b then numL a ++ 45 :: numL b else numL a := by
 unfold scL spanT
 split
 ·rw [cps_app,cps_app]
  have : (("-" : Str)).cps.toList = [45] := by decide +kernel
  rw [this]
  simp
 ·rfl
noncomputable def pSpan (cs : List Nat) : Option ((Int × Int) × List Nat) := match pNum cs with
 | none => none
 | some (a,r) => if r.head? = some 45 then (match pNum (r.drop 1) with
  | none => none
  | some (b,r') => if b ≤ a then none else some ((a,b),r')) else some ((a,a),r)
theorem nx_cons {p : Nat → Bool} {c : Nat} {r : List Nat} (h : p c = false) : Nx p (c :: r) := fun d e => by
 have : c = d := by simpa using e
 rw [← this]
 exact h
theorem head_cons {cs : List Nat} {c : Nat} (h : cs.head? = some c) : cs = c :: cs.drop 1 := by
 cases cs with
 | nil => cases h
 | cons a l =>
  have : a = c := by simpa using h
  rw [this]
  rfl
theorem pSpan_sound {cs r : List Nat} {a b : Int} (h : pSpan cs = some ((a,b),r)) : Sm a ∧ Sm b ∧ a ≤ b ∧ cs = scL a b ++ r ∧ Nx dig r := by
 unfold pSpan at h
 cases h1 : pNum cs with
 | none => rw [h1] at h; cases h
 | some v =>
  obtain ⟨a',r1⟩ := v
  rw [h1] at h
  dsimp only at h
  obtain ⟨s1,e1,n1⟩ := pNum_sound h1
  split at h
  ·rename_i hh
   cases h2 : pNum (r1.drop 1) with
   | none => rw [h2] at h; cases h
   | some v =>
    obtain ⟨b',r2⟩ := v
    rw [h2] at h
    dsimp only at h
    split at h
    ·cases h
    ·rename_i hb
     injection h with h
     injection h with h3 h4
     injection h3 with h5 h6
     subst h4 h5 h6
     obtain ⟨s2,e2,n2⟩ := pNum_sound h2
     refine ⟨s1,s2,by omega,?_,n2⟩
     rw [scL_eq,if_pos (by omega),e1,head_cons hh,e2]
     simp
  ·injection h with h
   injection h with h3 h4
   injection h3 with h5 h6
   subst h4 h5 h6
   refine ⟨s1,s1,Int.le_refl _,?_,n1⟩
   rw [scL_eq,if_neg (by omega)]
   exact e1
theorem pSpan_full {a b : Int} {r : List Nat} (ha : Sm a) (hb : Sm b) (ab : a ≤ b) (hr : Nx dig r) (h45 : r.head? ≠ some 45) : pSpan (scL a b ++ r) = some ((a,b),r) := by
 unfold pSpan
 rw [scL_eq]
 by_cases c : a < b
 ·rw [if_pos c,List.append_assoc,List.cons_append,pNum_full ha (nx_cons (by decide))]
  dsimp only
  rw [List.head?_cons,if_pos rfl,List.drop_succ_cons,List.drop_zero,pNum_full hb hr]
  dsimp only
  rw [if_neg (by omega)]
 ·have e : a = b := by omega
  subst e
  rw [if_neg c,pNum_full ha hr]
  dsimp only
  rw [if_neg h45]
noncomputable def pWin (day : Int) (cs : List Nat) : Option (T3 × List Nat) := match pSpan cs with
 | none => none
 | some ((a,b),r) => match pNum (r.drop 1) with
  | none => none
  | some (c,r') => if r.head? = some 43 ∧ b < day ∧ 1 ≤ c ∧ c ≤ 1000000000000000 then some ((a,b,c),r') else none
theorem pWin_sound {day : Int} {cs r : List Nat} {x : T3} (h : pWin day cs = some (x,r)) : WinR day x ∧ cs = wcL x ++ r ∧ Nx dig r := by
 unfold pWin at h
 cases h1 : pSpan cs with
 | none => rw [h1] at h; cases h
 | some v =>
  obtain ⟨⟨a,b⟩,r1⟩ := v
  rw [h1] at h
  dsimp only at h
  obtain ⟨sa,sb,ab,e1,n1⟩ := pSpan_sound h1
  cases h2 : pNum (r1.drop 1) with
  | none => rw [h2] at h; cases h
  | some v =>
   obtain ⟨c,r2⟩ := v
   rw [h2] at h
   dsimp only at h
   split at h
   ·rename_i hc
    injection h with h
    injection h with h3 h4
    subst h3 h4
    obtain ⟨s2,e2,n2⟩ := pNum_sound h2
    refine ⟨⟨sa.1,ab,hc.2.1,hc.2.2.1,hc.2.2.2⟩,?_,n2⟩
    rw [wcL_eq,e1,head_cons hc.1,e2]
    simp
   ·cases h
theorem pWin_full {day : Int} {x : T3} {r : List Nat} (h : WinR day x) (hd : day ≤ 1000000000000000) (hr : Nx dig r) : pWin day (wcL x ++ r) = some (x,r) := by
 obtain ⟨h0,h1,h2,h3,h4⟩ := h
 obtain ⟨a,b,c⟩ := x
 dsimp only at h0 h1 h2 h3 h4
 unfold pWin
 rw [wcL_eq,List.append_assoc,List.cons_append,pSpan_full (a := a) (b := b) ⟨h0,by omega⟩ ⟨by omega,by omega⟩ h1 (nx_cons (by decide)) (by simp)]
 dsimp only
 rw [List.drop_succ_cons,List.drop_zero,pNum_full ⟨by omega,by omega⟩ hr]
 dsimp only
 rw [if_pos ⟨rfl,h2,h3,h4⟩]
noncomputable def wsL (R : List T3) : List Nat := R.flatMap fun x => 32 :: wcL x
noncomputable def pBoard (day : Int) : Nat → List Nat → Option (List T3 × List Nat)
 | 0,_ => none
 | f + 1,cs => if cs.head? = some 32 then (match pWin day (cs.drop 1) with
  | none => none
  | some (x,r) => match pBoard day f r with
   | none => none
   | some (R,r') => some (x :: R,r')) else some ([],cs)
theorem pBoard_sound {day : Int} : ∀ {f : Nat} {cs r : List Nat} {R : List T3},pBoard day f cs = some (R,r) → (∀ x ∈ R,WinR day x) ∧ cs = wsL R ++ r ∧ r.head? ≠ some 32 ∧ (R ≠ [] → Nx dig r)
 | 0,cs,r,R,h => by cases h
 | f + 1,cs,r,R,h => by
  unfold pBoard at h
  split at h
  ·rename_i hh
   cases h1 : pWin day (cs.drop 1) with
   | none => rw [h1] at h; cases h
   | some v =>
    obtain ⟨x,r1⟩ := v
    rw [h1] at h
    dsimp only at h
    obtain ⟨w1,e1,n1⟩ := pWin_sound h1
    cases h2 : pBoard day f r1 with
    | none => rw [h2] at h; cases h
    | some v =>
     obtain ⟨R',r2⟩ := v
     rw [h2] at h
     dsimp only at h
     injection h with h
     injection h with h3 h4
     subst h3 h4
     obtain ⟨w2,e2,g2,n2⟩ := pBoard_sound h2
     refine ⟨fun y hy => ?_,?_,g2,fun _ => ?_⟩
     ·rcases List.mem_cons.mp hy with rfl | hy
      ·exact w1
      ·exact w2 y hy
     ·rw [head_cons hh,e1,e2]
      simp [wsL]
     ·by_cases z : R' = []
      ·subst z
       have : r1 = r2 := by simpa [wsL] using e2
       rw [← this]
       exact n1
      ·exact n2 z
  ·rename_i hh
   injection h with h
   injection h with h3 h4
   subst h3 h4
   exact ⟨by simp,rfl,hh,fun z => absurd rfl z⟩
theorem pBoard_full {day : Int} (hd : day ≤ 1000000000000000) : ∀ {f : Nat} {R : List T3} {r : List Nat},R.length < f → (∀ x ∈ R,WinR day x) → r.head? ≠ some 32 → Nx dig r → pBoard day f (wsL R ++ r) = some (R,r)
 | 0,R,r,h,_,_,_ => by omega
 | f + 1,[],r,_,_,h32,_ => by
  unfold pBoard
  rw [if_neg]
  ·rfl
  ·simpa [wsL] using h32
 | f + 1,x :: R,r,h,hw,h32,hr => by
  have ih := pBoard_full hd (f := f) (R := R) (r := r) (by simpa using h) (fun y hy => hw y (List.mem_cons_of_mem _ hy)) h32 hr
  have e : wsL (x :: R) ++ r = 32 :: (wcL x ++ (wsL R ++ r)) := by simp [wsL]
  have nx : Nx dig (wsL R ++ r) := by
   cases R with
   | nil => simpa [wsL] using hr
   | cons y R =>
    have : wsL (y :: R) ++ r = 32 :: (wcL y ++ (wsL R ++ r)) := by simp [wsL]
    rw [this]
    exact nx_cons (by decide)
  unfold pBoard
  rw [e,List.head?_cons,if_pos rfl,List.drop_succ_cons,List.drop_zero,pWin_full (hw x (List.mem_cons_self ..)) hd nx]
  dsimp only
  rw [ih]
noncomputable abbrev RoadS := Str × Str × List T3
noncomputable def rdL (q : RoadS) : List Nat := q.1.cps.toList ++ 62 :: (q.2.1.cps.toList ++ wsL q.2.2)
theorem rdL_eq (q : RoadS) : (roadT q.1 q.2.1 q.2.2).cps.toList = rdL q := by
 rw [road_words,join_cps,cps_app,cps_app]
 have h1 : ((">" : Str)).cps.toList = [62] := by decide +kernel
 have h2 : ((" " : Str)).cps.toList = [32] := by decide +kernel
 rw [h1,h2]
 unfold rdL wsL wcL
 simp [List.flatMap_map]
noncomputable def RdR (day : Int) (q : RoadS) : Prop := Low q.1 ∧ Low q.2.1 ∧ ∀ x ∈ q.2.2,WinR day x
noncomputable def pRoad (day : Int) (f : Nat) (cs : List Nat) : Option (RoadS × List Nat) :=
 if (cs.drop (cs.takeWhile abcL).length).head? = some 62 ∧ 1 ≤ (cs.takeWhile abcL).length ∧ (cs.takeWhile abcL).length ≤ 8 ∧ 1 ≤ (((cs.drop (cs.takeWhile abcL).length).drop 1).takeWhile abcL).length ∧ (((cs.drop (cs.takeWhile abcL).length).drop 1).takeWhile abcL).length ≤ 8 then
  (match pBoard day f (((cs.drop (cs.takeWhile abcL).length).drop 1).drop (((cs.drop (cs.takeWhile abcL).length).drop 1).takeWhile abcL).length) with
  | none => none
  | some (R,r) => some ((⟨(cs.takeWhile abcL).toArray⟩,⟨(((cs.drop (cs.takeWhile abcL).length).drop 1).takeWhile abcL).toArray⟩,R),r)) else none
theorem low_of {cs : List Nat} (h : ∀ c ∈ cs,abcL c = true) (h1 : 1 ≤ cs.length) (h8 : cs.length ≤ 8) : Low ⟨cs.toArray⟩ := ⟨fun c hc => abc_iff.mp (h c hc),by simpa [Str.length] using h1,by simpa [Str.length] using h8⟩
theorem pRoad_sound {day : Int} {f : Nat} {cs r : List Nat} {q : RoadS} (h : pRoad day f cs = some (q,r)) : RdR day q ∧ cs = rdL q ++ r ∧ r.head? ≠ some 32 := by
 unfold pRoad at h
 split at h
 ·rename_i c
  obtain ⟨c1,c2,c3,c4,c5⟩ := c
  obtain ⟨a1,a2⟩ := tw_split (p := abcL) cs
  have al := tw_all (p := abcL) cs
  generalize cs.takeWhile abcL = s at *
  generalize hr1 : cs.drop s.length = r1 at *
  obtain ⟨b1,b2⟩ := tw_split (p := abcL) (r1.drop 1)
  have bl := tw_all (p := abcL) (r1.drop 1)
  generalize (r1.drop 1).takeWhile abcL = e at *
  generalize hr2 : (r1.drop 1).drop e.length = r2 at *
  cases h1 : pBoard day f r2 with
  | none => rw [h1] at h; cases h
  | some v =>
   obtain ⟨R,r3⟩ := v
   rw [h1] at h
   dsimp only at h
   injection h with h
   injection h with h3 h4
   subst h3 h4
   obtain ⟨w1,e1,g1,n1⟩ := pBoard_sound h1
   refine ⟨⟨low_of al c2 c3,low_of bl c4 c5,w1⟩,?_,g1⟩
   rw [a1,head_cons c1,b1,e1]
   simp [rdL]
 ·cases h
theorem pRoad_full {day : Int} {f : Nat} {q : RoadS} {r : List Nat} (hd : day ≤ 1000000000000000) (h : RdR day q) (hf : q.2.2.length < f) (hr : r = [] ∨ r.head? = some 59) : pRoad day f (rdL q ++ r) = some (q,r) := by
 obtain ⟨ls,le,hw⟩ := h
 obtain ⟨⟨s⟩,⟨e⟩,R⟩ := q
 have r32 : r.head? ≠ some 32 := by
  rcases hr with z | z <;> rw [z] <;> simp
 have rdig : Nx dig r := fun c hc => by
  rcases hr with z | z
  ·rw [z] at hc; cases hc
  ·rw [z] at hc; cases hc; decide
 have rabc : Nx abcL r := fun c hc => by
  rcases hr with z | z
  ·rw [z] at hc; cases hc
  ·rw [z] at hc; cases hc; decide
 have e0 : rdL (⟨s⟩,⟨e⟩,R) ++ r = s.toList ++ 62 :: (e.toList ++ (wsL R ++ r)) := by simp [rdL]
 have t1 : (s.toList ++ 62 :: (e.toList ++ (wsL R ++ r))).takeWhile abcL = s.toList := tw_app (fun c hc => abc_iff.mpr (ls.all c hc)) (nx_cons (by decide))
 have nx2 : Nx abcL (wsL R ++ r) := by
  cases R with
  | nil => simpa [wsL] using rabc
  | cons y R =>
   have : wsL (y :: R) ++ r = 32 :: (wcL y ++ (wsL R ++ r)) := by simp [wsL]
   rw [this]
   exact nx_cons (by decide)
 have t2 : (e.toList ++ (wsL R ++ r)).takeWhile abcL = e.toList := tw_app (fun c hc => abc_iff.mpr (le.all c hc)) nx2
 have l1 : 1 ≤ (⟨s⟩ : Str).length := ls.l1
 have l8 : (⟨s⟩ : Str).length ≤ 8 := ls.l8
 have m1 : 1 ≤ (⟨e⟩ : Str).length := le.l1
 have m8 : (⟨e⟩ : Str).length ≤ 8 := le.l8
 have x1 : s.toList.length = (⟨s⟩ : Str).length := by simp [Str.length]
 have x2 : e.toList.length = (⟨e⟩ : Str).length := by simp [Str.length]
 unfold pRoad
 rw [e0,t1,List.drop_left,List.drop_succ_cons,List.drop_zero,t2,List.drop_left,if_pos ⟨rfl,by omega,by omega,by omega,by omega⟩,pBoard_full hd hf hw r32 rdig]
noncomputable def rsL (L : List RoadS) : List Nat := L.flatMap fun q => 59 :: 32 :: rdL q
noncomputable def pRoads (day : Int) (F : Nat) : Nat → List Nat → Option (List RoadS × List Nat)
 | 0,_ => none
 | f + 1,cs => if cs.take 2 = [59,32] then (match pRoad day F (cs.drop 2) with
  | none => none
  | some (q,r) => match pRoads day F f r with
   | none => none
   | some (L,r') => some (q :: L,r')) else some ([],cs)
theorem take2 {cs : List Nat} {a b : Nat} (h : cs.take 2 = [a,b]) : cs = a :: b :: cs.drop 2 := by
 match cs,h with
 | [],h => simp at h
 | [x],h => simp at h
 | x :: y :: l,h =>
  simp at h
  rw [h.1,h.2]
  rfl
theorem pRoads_sound {day : Int} {F : Nat} : ∀ {f : Nat} {cs r : List Nat} {L : List RoadS},pRoads day F f cs = some (L,r) → (∀ q ∈ L,RdR day q) ∧ cs = rsL L ++ r
 | 0,cs,r,L,h => by cases h
 | f + 1,cs,r,L,h => by
  unfold pRoads at h
  split at h
  ·rename_i hh
   cases h1 : pRoad day F (cs.drop 2) with
   | none => rw [h1] at h; cases h
   | some v =>
    obtain ⟨q,r1⟩ := v
    rw [h1] at h
    dsimp only at h
    obtain ⟨w1,e1,_⟩ := pRoad_sound h1
    cases h2 : pRoads day F f r1 with
    | none => rw [h2] at h; cases h
    | some v =>
     obtain ⟨L',r2⟩ := v
     rw [h2] at h
     dsimp only at h
     injection h with h
     injection h with h3 h4
     subst h3 h4
     obtain ⟨w2,e2⟩ := pRoads_sound h2
     refine ⟨fun y hy => ?_,?_⟩
     ·rcases List.mem_cons.mp hy with rfl | hy
      ·exact w1
      ·exact w2 y hy
     ·rw [take2 hh,e1,e2]
      simp [rsL]
  ·injection h with h
   injection h with h3 h4
   subst h3 h4
   exact ⟨by simp,rfl⟩
theorem rs_head (L : List RoadS) : rsL L = [] ∨ (rsL L).head? = some 59 := by
 cases L with
 | nil => exact .inl rfl
 | cons q L => exact .inr (by simp [rsL])
theorem pRoads_full {day : Int} {F : Nat} (hd : day ≤ 1000000000000000) : ∀ {f : Nat} {L : List RoadS},L.length < f → (∀ q ∈ L,RdR day q ∧ q.2.2.length < F) → pRoads day F f (rsL L) = some (L,[])
 | 0,L,h,_ => by omega
 | f + 1,[],_,_ => by
  unfold pRoads
  rw [if_neg]
  ·rfl
  ·simp [rsL]
 | f + 1,q :: L,h,hw => by
  have ih := pRoads_full hd (F := F) (f := f) (L := L) (by simpa using h) fun y hy => hw y (List.mem_cons_of_mem _ hy)
  have e : rsL (q :: L) = 59 :: 32 :: (rdL q ++ rsL L) := by simp [rsL]
  obtain ⟨w1,w2⟩ := hw q (List.mem_cons_self ..)
  unfold pRoads
  rw [e,if_pos (show (59 :: 32 :: (rdL q ++ rsL L)).take 2 = [59,32] from rfl),List.drop_succ_cons,List.drop_succ_cons,List.drop_zero,pRoad_full hd w1 w2 (rs_head L)]
  dsimp only
  rw [ih]
noncomputable def netL (d : Int) (L : List RoadS) : List Nat := [100,97,121,32] ++ numL d ++ rsL L
structure ShL (cs : List Nat) (d : Int) (L : List RoadS) : Prop where
 d1 : 1 ≤ d
 d2 : d ≤ 1000000000000000
 rd : ∀ q ∈ L,RdR d q
 eq : cs = netL d L
noncomputable def pNet (cs : List Nat) : Option (Int × List RoadS) :=
 match pNum (cs.drop 4) with
 | none => none
 | some (d,r) => if cs.take 4 = [100,97,121,32] ∧ 1 ≤ d ∧ d ≤ 1000000000000000 then
   (match pRoads d (cs.length + 1) (cs.length + 1) r with
   | none => none
   | some (L,r') => if r' = [] then some (d,L) else none) else none
theorem take4 {cs l : List Nat} (h : cs.take 4 = l) : cs = l ++ cs.drop 4 := by
 rw [← h,List.take_append_drop]
theorem pNet_sound {cs : List Nat} {d : Int} {L : List RoadS} (h : pNet cs = some (d,L)) : ShL cs d L := by
 unfold pNet at h
 cases h1 : pNum (cs.drop 4) with
 | none => rw [h1] at h; cases h
 | some v =>
  obtain ⟨d',r⟩ := v
  rw [h1] at h
  dsimp only at h
  obtain ⟨s1,e1,n1⟩ := pNum_sound h1
  split at h
  ·rename_i c
   cases h2 : pRoads d' (cs.length + 1) (cs.length + 1) r with
   | none => rw [h2] at h; cases h
   | some v =>
    obtain ⟨L',r2⟩ := v
    rw [h2] at h
    dsimp only at h
    split at h
    ·rename_i hr
     injection h with h
     injection h with h3 h4
     subst h3 h4
     obtain ⟨w2,e2⟩ := pRoads_sound h2
     refine ⟨c.2.1,c.2.2,w2,?_⟩
     rw [take4 c.1,e1,e2,hr]
     simp [netL]
    ·cases h
  ·cases h
theorem rs_len : ∀ (L : List RoadS),L.length ≤ (rsL L).length ∧ ∀ q ∈ L,q.2.2.length ≤ (rsL L).length
 | [] => ⟨Nat.le_refl _,by simp⟩
 | q :: L => by
  obtain ⟨h1,h2⟩ := rs_len L
  have e : (rsL (q :: L)).length = 2 + (rdL q).length + (rsL L).length := by simp [rsL]; omega
  have hw : ∀ R : List T3,R.length ≤ (wsL R).length := fun R => by
   induction R with
   | nil => simp
   | cons x R ih =>
    have : (wsL (x :: R)).length = 1 + (wcL x).length + (wsL R).length := by simp [wsL]; omega
    rw [List.length_cons]
    omega
  have hq : q.2.2.length ≤ (rdL q).length := by
   have := hw q.2.2
   unfold rdL
   rw [List.length_append,List.length_cons,List.length_append]
   omega
  refine ⟨by rw [List.length_cons]; omega,fun y hy => ?_⟩
  rcases List.mem_cons.mp hy with rfl | hy
  ·omega
  ·have := h2 y hy
   omega
theorem pNet_full {cs : List Nat} {d : Int} {L : List RoadS} (h : ShL cs d L) : pNet cs = some (d,L) := by
 obtain ⟨d1,d2,rd,eq⟩ := h
 have e4 : cs.drop 4 = numL d ++ rsL L := by
  rw [eq]
  rfl
 have t4 : cs.take 4 = [100,97,121,32] := by
  rw [eq]
  rfl
 have nx : Nx dig (rsL L) := fun c hc => by
  rcases rs_head L with z | z
  ·rw [z] at hc; cases hc
  ·rw [z] at hc; cases hc; decide
 have ll : (rsL L).length ≤ cs.length := by
  rw [eq]
  unfold netL
  rw [List.length_append]
  omega
 obtain ⟨l1,l2⟩ := rs_len L
 unfold pNet
 rw [e4,pNum_full ⟨by omega,by omega⟩ nx]
 dsimp only
 rw [t4,if_pos ⟨rfl,d1,d2⟩,pRoads_full d2 (by omega) fun q hq => ⟨rd q hq,by have := l2 q hq; omega⟩]
 rfl
theorem ShL.uniq {cs : List Nat} {d d' : Int} {L L' : List RoadS} (h : ShL cs d L) (h' : ShL cs d' L') : d = d' ∧ L = L' := by
 have := (pNet_full h).symm.trans (pNet_full h')
 injection this with this
 injection this with a b
 exact ⟨a,b⟩
noncomputable def hide (p : Addr) (H : Hp) : Hp := fun b => if b = p then none else H b
theorem hide_at {p b : Addr} {H : Hp} {o : HO} (e : H b = some o) (n : b ≠ p) : hide p H b = some o := by
 unfold hide
 rw [if_neg n]
 exact e
theorem hide_to {p : Addr} {H : Hp} : Same (hide p H) H := fun b o e => by
 unfold hide at e
 split at e
 ·cases e
 ·exact e
noncomputable def spRun (p : Nat → Bool) (S : Str) : Sp := fun vs H Q _ => ∃ (x : Str) (at_ : Nat),vs = [.str x,.int at_,.str S] ∧ x.length ≤ 1000000 ∧ Q (.int ((at_ + ((x.cps.toList.drop at_).takeWhile p).length : Nat) : Int)) H
section
variable {P : Program} {w : World} {K : PySem.W.Frag} {mg : Str → Option Value} {base : Heap} {f : Addr} {fd : FuncData} {n : Nat}
theorem ok_run {p : Nat → Bool} {S : Str} (hp : ∀ c : Nat,decide (c ∈ S.cps.toList) = p c) (F : Fun K "_law_run" "_law_run" st__law_run f fd) (B : Bl mg) : FnOk P w K mg base CX0 (n + 1) f fd ["text","at","signs"] (spRun p S) := by
 refine F.okQ sc__law_run (fun vs H Q E h => ?_) (fun cdv A outer s H vs Q E hr h => ?_)
 ·obtain ⟨_,_,rfl,_⟩ := h
  rfl
 obtain ⟨x,a,rfl,hx,q⟩ := h
 refine ⟨_,(qss_cons (qs_while PassesOwn.never (QW.pt (qw_and (qt_cmpR qop_lt (qv 1) (qe_cb qcall_lenS rfl B.len bt_len (qa_c (qv 0) qa_nil)) (nomark _)) (qw_and1 (qt_cmpR qop_inS (qe_ix qix_str (qv 0) (qv 1) (fun _ _ => rfl)) (qv 2) rfl)))) (qss_one (qs_set (i := 1) sc__law_run.nd rfl (Or.inl rfl) (qe_op qop_add (qv 1) qe_int)))) (qss_one (qs_ret (qv 1)))),?_⟩
 try dsimp only [cx_k,cx_kn,as_nil,as_name,Nat.reduceAdd]
 have hz := L.le (n := x.length) (by omega)
 have sz : x.cps.toList.length = x.length := by simp [Str.length]
 refine while_by (fun σ H' => H' = H ∧ ∃ k : Nat,σ = [some (.str x),some (.int (k : Int)),some (.str S)] ∧ k + ((x.cps.toList.drop k).takeWhile p).length = a + ((x.cps.toList.drop a).takeWhile p).length) (fun σ _ => match σ with | [_,some (.int k),_] => (x.length - k.toNat) | _ => 0) ⟨rfl,a,rfl,rfl⟩ ?_ ?_
 ·intro σ H' z9;obtain ⟨rfl,k,rfl,hk⟩ := z9
  refine ⟨_,rfl,_,rfl,_,rfl,hz,_,_,rfl,rfl,_,rfl,ite2 (fun c => ?_) (fun c => ?_)⟩
  ·have c' : (k : Int) < (x.length : Int) := of_decide_eq_true c
   have hx' := List.getElem?_eq_getElem (show k < x.cps.toList.length by omega)
   generalize x.cps.toList[k] = d at hx'
   refine ⟨_,rfl,_,rfl,_,_,d,rfl,rfl,hz,atI_nat hx',_,rfl,d,S,rfl,rfl,_,rfl,?_⟩
   rw [hp]
   have ed : x.cps.toList.drop k = d :: x.cps.toList.drop (k + 1) := by
    rw [List.drop_eq_getElem_cons (by omega)]
    congr 1
    exact Option.some.inj ((List.getElem?_eq_getElem _).symm.trans hx')
   refine ite2 (fun c2 => ?_) (fun c2 => ?_)
   ·rw [ed,List.takeWhile_cons,if_pos c2,List.length_cons] at hk
    refine ⟨_,rfl,_,_,rfl,rfl,⟨rfl,k + 1,rfl,by omega⟩,?_⟩
    show x.length - ((k : Int) + 1).toNat < x.length - ((k : Int)).toNat
    omega
   ·rw [ed,List.takeWhile_cons,if_neg c2,List.length_nil,Nat.add_zero] at hk
    rw [← hk] at q
    exact ⟨_,rfl,q⟩
  ·have c' : ¬ (k : Int) < (x.length : Int) := fun z => c (decide_eq_true z)
   rw [List.drop_eq_nil_of_le (by omega),List.takeWhile_nil,List.length_nil,Nat.add_zero] at hk
   rw [← hk] at q
   exact ⟨_,rfl,q⟩
 ·intro σ H' Q1 Q2 hq z9;obtain ⟨v1,e1,v2,e2,z,e3,e4,i,j,e5,e6,b,e7,hh⟩ := z9
  refine ⟨v1,e1,v2,e2,z,e3,e4,i,j,e5,e6,b,e7,?_⟩
  cases b with
  | false =>
   rw [if_neg (by decide)] at hh ⊢
   exact hq _ _ hh
  | true =>
   rw [if_pos rfl] at hh ⊢
   obtain ⟨a1,b1,a2,b2,a3,a4,a5,b3,b4,b5,b6,a6,b7,c,j',b8,b9,b,b10,hh⟩ := hh
   exact ⟨a1,b1,a2,b2,a3,a4,a5,b3,b4,b5,b6,a6,b7,c,j',b8,b9,b,b10,hq _ _ hh⟩
noncomputable abbrev figS : Str := "0123456789"
noncomputable abbrev letS : Str := "abcdefghijklmnopqrstuvwxyz"
theorem fig_dig (c : Nat) : decide (c ∈ figS.cps.toList) = dig c := by
 have e : figS.cps.toList = [48,49,50,51,52,53,54,55,56,57] := by decide +kernel
 rw [e,Bool.eq_iff_iff,decide_eq_true_iff,dig_iff]
 simp only [List.mem_cons,List.not_mem_nil,or_false]
 omega
theorem let_abc (c : Nat) : decide (c ∈ letS.cps.toList) = abcL c := by
 have e : letS.cps.toList = [97,98,99,100,101,102,103,104,105,106,107,108,109,110,111,112,113,114,115,116,117,118,119,120,121,122] := by decide +kernel
 rw [e,Bool.eq_iff_iff,decide_eq_true_iff,abc_iff]
 simp only [List.mem_cons,List.not_mem_nil,or_false]
 omega
noncomputable abbrev spRunB : Sp := fun vs H Q E => spRun dig figS vs H Q E ∨ spRun abcL letS vs H Q E
noncomputable def spNumA : Sp := fun vs H Q _ => ∃ (x : Str) (at_ : Nat),vs = [.str x,.int at_] ∧ x.length ≤ 1000000 ∧ (pNum (x.cps.toList.drop at_) = none → Q .non H) ∧
 ∀ (n : Int) (e : Nat) (rr : Addr) (H' : Hp),pNum (x.cps.toList.drop at_) = some (n,x.cps.toList.drop e) → e ≤ x.length → Same H H' → H' rr = some (.tup [.int n,.int e]) → Q (.ref rr) H'
theorem ok_numA (F : Fun K "_law_number" "_law_number" st__law_number f fd) (B : Bl mg) (C_law_run : Callee P w K mg base n "_law_run" ["text","at","signs"] spRunB) : FnOk P w K mg base CX0 (n + 1) f fd ["text","at"] spNumA := by
 refine F.okQ sc__law_number (fun vs H Q E h => ?_) (fun cdv A outer s H vs Q E hr h => ?_)
 ·obtain ⟨_,_,rfl,_⟩ := h
  rfl
 obtain ⟨x,a,rfl,hx,q0,q1⟩ := h
 refine ⟨_,(qss_cons (qs_set (i := 2) sc__law_number.nd rfl (Or.inl rfl) (qe_fn C_law_run hr rfl (qa_c (qv 0) (qa_c (qv 1) (qa_c qe_str qa_nil))))) (qss_cons (qs_if (qt_cut (QW.pt (qw_or (qt_cmpR qop_eq (qv 2) (qv 1) (nomark _)) (qw_or (qt_cmpR qop_gt (qe_op qop_sub (qv 2) (qv 1)) qe_int (nomark _)) (qw_or1 (QW.pt (qw_and (qt_cmpR qop_eq (qe_ix qix_str (qv 0) (qv 1) (fun _ _ => rfl)) qe_str (nomark _)) (qw_and1 (qt_cmpR qop_gt (qe_op qop_sub (qv 2) (qv 1)) qe_int (nomark _)))))))))) (qss_one (qs_ret qe_non)) qss_nil) (qss_one (qs_ret (qe_tup (qa_c (qe_ct qcall_intS rfl B.int_ bt_int (qa_c (qe_slA (qv 0) (qo_some (qv 1)) (qo_some (qv 2))) qa_nil)) (qa_c (qv 2) qa_nil))))))),?_⟩
 try dsimp only [cx_k,cx_kn,as_nil,as_name,Nat.reduceAdd]
 have hz := L.le (n := x.length) (by omega)
 have sz : x.cps.toList.length = x.length := by simp [Str.length]
 refine ⟨_,rfl,_,rfl,.inl ⟨x,a,rfl,hx,?_⟩⟩
 have al := tw_all (p := dig) (x.cps.toList.drop a)
 obtain ⟨sp1,sp2⟩ := tw_split (p := dig) (x.cps.toList.drop a)
 unfold pNum at q0 q1
 have lle : ((x.cps.toList.drop a).takeWhile dig).length ≤ (x.cps.toList.drop a).length := by
  have := congrArg List.length sp1
  rw [List.length_append] at this
  omega
 rw [List.length_drop,sz] at lle
 generalize hp : (x.cps.toList.drop a).takeWhile dig = p at *
 have e0 : p ≠ [] → x.cps.toList[a]? = p.head? := fun h0 => by
  have := congrArg List.head? sp1
  rw [List.head?_drop] at this
  rw [this]
  cases p with
  | nil => exact absurd rfl h0
  | cons c p => rfl
 refine ⟨fun b H' => H' = H ∧ (b = true ↔ (p = [] ∨ 16 < p.length ∨ (p.head? = some 48 ∧ 1 < p.length))),?_,?_⟩
 ·refine ⟨_,rfl,_,rfl,rfl,_,rfl,ite2 (fun c => ?_) (fun c => ?_)⟩
  ·have c' : ((a + p.length : Nat) : Int) = (a : Int) := by
    have := of_decide_eq_true c
    injection this
   have : p = [] := List.length_eq_zero_iff.mp (by omega)
   simp [this]
  ·have c' : p ≠ [] := fun z => c (decide_eq_true (by rw [z]; rfl))
   have lp := List.length_pos_iff.mpr c'
   refine ⟨_,rfl,_,rfl,_,_,rfl,rfl,_,_,rfl,rfl,_,rfl,ite2 (fun c2 => ?_) (fun c2 => ?_)⟩
   ·have c2' : ((a + p.length : Nat) : Int) - (a : Int) > 16 := of_decide_eq_true c2
    refine ⟨rfl,?_⟩
    simp
    omega
   ·have c2' : ¬ ((a + p.length : Nat) : Int) - (a : Int) > 16 := fun z => c2 (decide_eq_true z)
    have hh := e0 c'
    cases hc : p.head? with
    | none => exact absurd (List.head?_eq_none_iff.mp hc) c'
    | some d =>
     rw [hc] at hh
     refine ⟨_,rfl,_,rfl,_,_,d,rfl,rfl,hz,atI_nat hh,rfl,_,rfl,ite2 (fun c3 => ?_) (fun c3 => ?_)⟩
     ·have d48 : d = 48 := by
       have := of_decide_eq_true c3
       injection this with z
       have := congrArg (fun s : Str => s.cps.toList) z
       have e0 : (("0" : Str)).cps.toList = [48] := by decide +kernel
       rw [e0] at this
       simpa using this
      refine ⟨_,rfl,_,rfl,_,_,rfl,rfl,_,_,rfl,rfl,_,rfl,rfl,?_⟩
      subst d48
      simp [c']
      omega
     ·have d48 : d ≠ 48 := fun z => c3 (decide_eq_true (by rw [z]; decide +kernel))
      refine ⟨rfl,?_⟩
      simp [c',d48]
      omega
 intro b H' z9;obtain ⟨rfl,hb⟩ := z9
 refine ite2 (fun c => ?_) (fun c => ?_)
 ·rw [if_pos (hb.mp c)] at q0
  exact q0 rfl
 ·have c' : ¬ (p = [] ∨ 16 < p.length ∨ (p.head? = some 48 ∧ 1 < p.length)) := fun z => c (hb.mpr z)
  rw [if_neg c'] at q1
  rw [not_or,not_or] at c'
  have ca : canon p := ⟨c'.1,by omega,al,fun l z => c'.2.2 ⟨z,l⟩⟩
  have lp := List.length_pos_iff.mpr c'.1
  have es : (Txt.slice x (some (a : Int)) (some ((a + p.length : Nat) : Int))).cps.toList = p := by
   rw [slice_ss (by omega) (by omega),show ((a : Nat) : Int).toNat = a by omega,show ((a + p.length : Nat) : Int).toNat - a = p.length by omega,sp1,List.take_left]
  have ei : PySem.intText? (Txt.slice x (some (a : Int)) (some ((a + p.length : Nat) : Int))) = some ((PySem.NumText.digitsVal p : Nat) : Int) := by
   obtain ⟨s1,s2⟩ := canon_num ca
   have : Txt.slice x (some (a : Int)) (some ((a + p.length : Nat) : Int)) = numT ((PySem.NumText.digitsVal p : Nat) : Int) := cps_inj (es.trans s2.symm)
   rw [this]
   exact num_int s1
  have el : (Txt.slice x (some (a : Int)) (some ((a + p.length : Nat) : Int))).length = p.length := by
   have := congrArg List.length es
   simpa [Str.length] using this
  refine ⟨_,rfl,_,rfl,_,rfl,_,rfl,_,rfl,x,rfl,hz,_,_,rfl,ei,by omega,_,rfl,(by show 2 ≤ sizeLine; decide),fun rr hrr => ?_⟩
  generalize hgH1 : upd _ rr _ = H1
  obtain ⟨s1,e1⟩ := fresh_of hrr hgH1
  clear hgH1
  refine q1 _ (a + p.length) rr H1 ?_ (by omega) s1 e1
  rw [List.drop_drop]
theorem one_sl {x : Str} {k : Nat} {c : Nat} : decide (V.str (Txt.slice x (some (k : Int)) (some ((k : Int) + 1))) = V.str ⟨#[c]⟩) = decide ((x.cps.toList.drop k).head? = some c) := by
 have e := slice_ss (x := x) (i := (k : Int)) (j := (k : Int) + 1) (by omega) (by omega)
 rw [show ((k : Nat) : Int).toNat = k by omega,show ((k : Int) + 1).toNat - k = 1 by omega] at e
 rw [Bool.eq_iff_iff,decide_eq_true_iff,decide_eq_true_iff]
 constructor
 ·intro h
  have h : Txt.slice x (some (k : Int)) (some ((k : Int) + 1)) = ⟨#[c]⟩ := by
   injection h
  rw [h] at e
  cases hd : x.cps.toList.drop k with
  | nil => rw [hd] at e; cases e
  | cons d l =>
   rw [hd] at e
   have : [c] = [d] := e
   injection this with this
   rw [this]
   rfl
 ·intro h
  congr 1
  refine cps_inj (e.trans ?_)
  rw [head_cons h]
  rfl
theorem dash_eq : ("-" : Str) = ⟨#[45]⟩ := rfl
theorem plus_eq : ("+" : Str) = ⟨#[43]⟩ := rfl
theorem blank_eq : (" " : Str) = ⟨#[32]⟩ := rfl
theorem more_eq : (">" : Str) = ⟨#[62]⟩ := rfl
noncomputable def spWinAt : Sp := fun vs H Q _ => ∃ (day : Int) (x : Str) (at_ : Nat),vs = [.int day,.str x,.int at_] ∧ x.length ≤ 1000000 ∧ (pWin day (x.cps.toList.drop at_) = none → ∀ H',Same H H' → Q .non H') ∧
 ∀ (y : T3) (e : Nat) (r1 r2 : Addr) (H' : Hp),pWin day (x.cps.toList.drop at_) = some (y,x.cps.toList.drop e) → e ≤ x.length → Same H H' → H' r1 = some (.tup (enc3 y)) → H' r2 = some (.tup [.ref r1,.int e]) → Q (.ref r2) H'
theorem drop1 {x : Str} {k : Nat} : (x.cps.toList.drop k).drop 1 = x.cps.toList.drop (k + 1) := by rw [List.drop_drop]
theorem ok_winAt (F : Fun K "_law_window_at" "_law_window_at" st__law_window_at f fd) (C_law_number : Callee P w K mg base n "_law_number" ["text","at"] spNumA) : FnOk P w K mg base CX0 (n + 1) f fd ["day","text","at"] spWinAt := by
 refine F.okQ sc__law_window_at (fun vs H Q E h => ?_) (fun cdv A outer s H vs Q E hr h => ?_)
 ·obtain ⟨_,_,_,rfl,_⟩ := h
  rfl
 obtain ⟨day,x,k,rfl,hx,q0,q1⟩ := h
 refine ⟨_,(qss_cons (qs_set (i := 3) sc__law_window_at.nd rfl (Or.inl rfl) (qe_fn C_law_number hr rfl (qa_c (qv 1) (qa_c (qv 2) qa_nil)))) (qss_cons (qs_if (qt_isN (qv 3)) (qss_one (qs_ret qe_non)) qss_nil) (qss_cons (qs_asg (qv 3) (qg_tup rfl (qgs_cons (qg_name (i := 4) sc__law_window_at.nd rfl (Or.inl rfl)) (qgs_cons (qg_name (i := 2) sc__law_window_at.nd rfl (Or.inl rfl)) qgs_nil)))) (qss_cons (qs_set (i := 5) sc__law_window_at.nd rfl (Or.inl rfl) (qv 4)) (qss_cut (qs_if (qt_cmpR qop_eq (qe_slA (qv 1) (qo_some (qv 2)) (qo_some (qe_op qop_add (qv 2) qe_int))) qe_str (nomark _)) (qss_cons (qs_set (i := 6) sc__law_window_at.nd rfl (Or.inl rfl) (qe_fn C_law_number hr rfl (qa_c (qv 1) (qa_c (qe_op qop_add (qv 2) qe_int) qa_nil)))) (qss_cons (qs_if (qt_cut (QW.pt (qw_or (qt_isN (qv 6)) (qw_or1 (qt_cmpR qop_le (qe_ix qix_tup (qv 6) qe_int (fun _ _ => rfl)) (qv 4) (nomark _)))))) (qss_one (qs_ret qe_non)) qss_nil) (qss_one (qs_asg (qv 6) (qg_tup rfl (qgs_cons (qg_name (i := 5) sc__law_window_at.nd rfl (Or.inl rfl)) (qgs_cons (qg_name (i := 2) sc__law_window_at.nd rfl (Or.inl rfl)) qgs_nil))))))) qss_nil) (qss_cons (qs_set (i := 7) sc__law_window_at.nd rfl (Or.inl rfl) (qe_fn C_law_number hr rfl (qa_c (qv 1) (qa_c (qe_op qop_add (qv 2) qe_int) qa_nil)))) (qss_cons (qs_if (qt_cut (QW.pt (qw_or (qt_cmpR qop_ne (qe_slA (qv 1) (qo_some (qv 2)) (qo_some (qe_op qop_add (qv 2) qe_int))) qe_str (nomark _)) (qw_or (qt_isN (qv 7)) (qw_or (qt_cmpR qop_ge (qv 5) (qv 0) (nomark _)) (qw_or (qt_cmpR qop_lt (qe_ix qix_tup (qv 7) qe_int (fun _ _ => rfl)) qe_int (nomark _)) (qw_or1 (qt_cmpR qop_gt (qe_ix qix_tup (qv 7) qe_int (fun _ _ => rfl)) (qe_op qop_pow qe_int qe_int) (nomark _))))))))) (qss_one (qs_ret qe_non)) qss_nil) (qss_one (qs_ret (qe_tup (qa_c (qe_tup (qa_c (qv 4) (qa_c (qv 5) (qa_c (qe_ix qix_tup (qv 7) qe_int (fun _ _ => rfl)) qa_nil)))) (qa_c (qe_ix qix_tup (qv 7) qe_int (fun _ _ => rfl)) qa_nil)))))))))))),?_⟩
 try dsimp only [cx_k,cx_kn,as_nil,as_name,Nat.reduceAdd]
 have hz := L.le (n := x.length) (by omega)
 refine ⟨_,rfl,_,rfl,x,k,rfl,hx,fun h1 => ?_,fun a k1 r1 H1 h1 l1 s1 e1 => ?_⟩
 ·have pn : pWin day (x.cps.toList.drop k) = none := by
   unfold pWin pSpan
   rw [h1]
  exact ⟨_,rfl,_,rfl,iteT (q0 pn H (Same.refl H))⟩
 refine ⟨_,rfl,_,rfl,iteF ?_⟩
 refine ⟨_,rfl,r1,_,rfl,SqT.of e1,rfl,_,_,rfl,_,_,rfl,rfl,?_⟩
 refine ⟨_,rfl,?_⟩
 refine ⟨fun σ' H' => ∃ (b : Int) (k2 : Nat) (v6 : Option V),σ' = [some (.int day),some (.str x),some (.int (k2 : Int)),some (.ref r1),some (.int a),some (.int b),v6,none] ∧ Same H H' ∧ pSpan (x.cps.toList.drop k) = some ((a,b),x.cps.toList.drop k2) ∧ k2 ≤ x.length,?_,?_⟩
 ·refine ⟨_,rfl,_,rfl,_,rfl,_,rfl,_,_,rfl,rfl,_,rfl,x,rfl,hz,rfl,_,rfl,?_⟩
  rw [dash_eq,one_sl]
  refine ite2 (fun c => ?_) (fun c => ?_)
  ·have c' := of_decide_eq_true c
   have hs : pSpan (x.cps.toList.drop k) = (match pNum (x.cps.toList.drop (k1 + 1)) with
     | none => none
     | some (b,r') => if b ≤ a then none else some ((a,b),r')) := by
    unfold pSpan
    rw [h1]
    dsimp only
    rw [if_pos c',drop1]
    try (cases pNum (x.cps.toList.drop (k1 + 1)) <;> rfl)
   refine ⟨_,rfl,_,rfl,_,_,rfl,rfl,x,k1 + 1,rfl,hx,fun h2 => ?_,fun b k2 r2 H2 h2 l2 s2 e2 => ?_⟩
   ·have pn : pWin day (x.cps.toList.drop k) = none := by
     unfold pWin
     rw [hs,h2]
    refine ⟨fun z H' => z = true ∧ H' = H1,⟨_,rfl,_,rfl,iteT ⟨rfl,rfl⟩⟩,?_⟩
    intro z H' z9;obtain ⟨rfl,rfl⟩ := z9
    exact iteT (q0 pn H' s1)
   ·rw [h2] at hs
    dsimp only at hs
    refine ⟨fun z H' => z = decide (b ≤ a) ∧ H' = H2,⟨_,rfl,_,rfl,iteF ⟨_,rfl,r2,_,_,_,rfl,rfl,SqT.of e2,rfl,_,rfl,_,_,rfl,rfl,_,rfl,rfl,rfl⟩⟩,?_⟩
    intro z H' z9;obtain ⟨rfl,rfl⟩ := z9
    refine ite2 (fun c2 => ?_) (fun c2 => ?_)
    ·have c2' := of_decide_eq_true c2
     rw [if_pos c2'] at hs
     have pn : pWin day (x.cps.toList.drop k) = none := by
      unfold pWin
      rw [hs]
     exact q0 pn H' (s1.trans s2)
    ·have c2' : ¬ b ≤ a := fun z => c2 (decide_eq_true z)
     rw [if_neg c2'] at hs
     exact ⟨_,rfl,r2,_,rfl,SqT.of e2,rfl,_,_,rfl,_,_,rfl,rfl,b,k2,_,rfl,s1.trans s2,hs,l2⟩
  ·have c' : ¬ (x.cps.toList.drop k1).head? = some 45 := fun z => c (decide_eq_true z)
   refine ⟨a,k1,_,rfl,s1,?_,l1⟩
   unfold pSpan
   rw [h1]
   dsimp only
   rw [if_neg c']
 intro σ' H2 z9;obtain ⟨b,k2,v6,rfl,s2,hs,l2⟩ := z9
 have hw : pWin day (x.cps.toList.drop k) = (match pNum (x.cps.toList.drop (k2 + 1)) with
   | none => none
   | some (c,r') => if (x.cps.toList.drop k2).head? = some 43 ∧ b < day ∧ 1 ≤ c ∧ c ≤ 1000000000000000 then some ((a,b,c),r') else none) := by
  unfold pWin
  rw [hs]
  dsimp only
  rw [drop1]
  try (cases pNum (x.cps.toList.drop (k2 + 1)) <;> rfl)
 have e15 : (10 : Int) ^ (15 : Int).toNat = 1000000000000000 := by decide
 refine ⟨_,rfl,_,rfl,_,_,rfl,rfl,x,k2 + 1,rfl,hx,fun h3 => ?_,fun c k3 r3 H3 h3 l3 s3 e3 => ?_⟩
 ·rw [h3] at hw
  dsimp only at hw
  refine ⟨fun z H' => z = true ∧ H' = H2,?_,?_⟩
  ·refine ⟨_,rfl,_,rfl,_,rfl,_,rfl,_,_,rfl,rfl,_,rfl,x,rfl,hz,rfl,_,rfl,ite2 (fun _ => ⟨rfl,rfl⟩) (fun _ => ?_)⟩
   exact ⟨_,rfl,_,rfl,iteT ⟨rfl,rfl⟩⟩
  intro z H' z9;obtain ⟨rfl,rfl⟩ := z9
  exact iteT (q0 hw H' s2)
 ·rw [h3] at hw
  dsimp only at hw
  refine ⟨fun z H' => H' = H3 ∧ (z = false ↔ ((x.cps.toList.drop k2).head? = some 43 ∧ b < day ∧ 1 ≤ c ∧ c ≤ 1000000000000000)),?_,?_⟩
  ·refine ⟨_,rfl,_,rfl,_,rfl,_,rfl,_,_,rfl,rfl,_,rfl,x,rfl,hz,rfl,_,rfl,?_⟩
   rw [plus_eq,one_sl]
   refine ite2 (fun c1 => ⟨rfl,?_⟩) (fun c1 => ?_)
   ·simp at c1
    simp [c1]
   ·simp at c1
    refine ⟨_,rfl,_,rfl,iteF ⟨_,rfl,_,rfl,_,_,rfl,rfl,_,rfl,ite2 (fun c2 => ⟨rfl,?_⟩) (fun c2 => ?_)⟩⟩
    ·have c2' := of_decide_eq_true c2
     simp
     omega
    ·have c2' : ¬ b ≥ day := fun z => c2 (decide_eq_true z)
     refine ⟨_,rfl,r3,_,_,_,rfl,rfl,SqT.of e3,rfl,_,_,rfl,rfl,_,rfl,ite2 (fun c3 => ⟨rfl,?_⟩) (fun c3 => ?_)⟩
     ·have c3' := of_decide_eq_true c3
      simp
      omega
     ·have c3' : ¬ c < 1 := fun z => c3 (decide_eq_true z)
      refine ⟨_,rfl,r3,_,_,_,rfl,rfl,SqT.of e3,rfl,_,_,rfl,rfl,⟨by decide,by decide,by decide⟩,_,_,rfl,rfl,_,rfl,rfl,?_⟩
      rw [e15]
      simp [c1]
      omega
  intro z H' z9;obtain ⟨rfl,hb⟩ := z9
  refine ite2 (fun cz => ?_) (fun cz => ?_)
  ·have : ¬ ((x.cps.toList.drop k2).head? = some 43 ∧ b < day ∧ 1 ≤ c ∧ c ≤ 1000000000000000) := fun y => by
    rw [hb.mpr y] at cz
    cases cz
   rw [if_neg this] at hw
   exact q0 hw H' (s2.trans s3)
  ·have := hb.mp (Bool.eq_false_iff.mpr cz)
   rw [if_pos this] at hw
   refine ⟨_,rfl,_,rfl,_,rfl,r3,_,_,_,rfl,rfl,SqT.of e3,rfl,(by show 3 ≤ sizeLine; decide),fun ra hra => ?_⟩
   generalize hgH4 : upd _ ra _ = H4
   obtain ⟨s4,e4⟩ := fresh_of hra hgH4
   clear hgH4
   refine ⟨_,rfl,r3,_,_,_,rfl,rfl,SqT.of (s4 _ _ e3),rfl,(by show 2 ≤ sizeLine; decide),fun rb hrb => ?_⟩
   generalize hgH5 : upd _ rb _ = H5
   obtain ⟨s5,e5⟩ := fresh_of hrb hgH5
   clear hgH5
   exact q1 (a,b,c) k3 ra rb H5 hw l3 (s2.trans (s3.trans (s4.trans s5))) (s5 _ _ e4) e5
theorem pBoard_sp {day : Int} {f : Nat} {cs : List Nat} (h : cs.head? = some 32) : pBoard day (f + 1) cs = match pWin day (cs.drop 1) with
  | none => none
  | some (x,r) => match pBoard day f r with
   | none => none
   | some (R,r') => some (x :: R,r') := if_pos h
theorem pBoard_no {day : Int} {f : Nat} {cs : List Nat} (h : ¬ cs.head? = some 32) : pBoard day (f + 1) cs = some ([],cs) := if_neg h
noncomputable def addS (ys : List Str) (z : Str) : List Str := if z ∈ ys then ys else ys ++ [z]
theorem addS_idx {ys : List Str} {z : Str} {v : Int} {ys' : List Str} (h : (z ∈ ys ∧ v = ((ys.idxOf z : Nat) : Int) ∧ ys' = ys) ∨ (z ∉ ys ∧ v = (ys.length : Int) ∧ ys' = ys ++ [z])) : ys' = addS ys z ∧ v = (((addS ys z).idxOf z : Nat) : Int) := by
 unfold addS
 rcases h with ⟨a,b,c⟩ | ⟨a,b,c⟩
 ·rw [if_pos a]
  exact ⟨c,b⟩
 ·rw [if_neg a]
  refine ⟨c,?_⟩
  rw [b,List.idxOf_append,if_neg a]
  simp
theorem addS_mem {ys : List Str} {z : Str} : z ∈ addS ys z := by
 unfold addS
 split
 ·assumption
 ·simp
theorem addS_len (ys : List Str) (z : Str) : (addS ys z).length ≤ ys.length + 1 := by
 unfold addS
 split
 ·omega
 ·simp
noncomputable def spRoadAt : Sp := fun vs H Q _ => ∃ (day : Int) (pn : Addr) (x : Str) (at_ : Nat) (ys : List Str),vs = [.int day,.ref pn,.str x,.int at_] ∧ H pn = some (.lst (ys.map V.str)) ∧ ys.length ≤ 100000 ∧ x.length ≤ 100000 ∧ (pRoad day (x.length + 1) (x.cps.toList.drop at_) = none → ∀ H',Same (hide pn H) H' → Q .non H') ∧
 ∀ (s e : Str) (R : List T3) (k : Nat) (l r1 r2 : Addr) (H' : Hp),pRoad day (x.length + 1) (x.cps.toList.drop at_) = some ((s,e,R),x.cps.toList.drop k) → k ≤ x.length → at_ < k → R.length ≤ x.length → Same (hide pn H) H' → H' pn = some (.lst ((addS (addS ys s) e).map V.str)) → H l = none → LA enc3 H' l R → H' r1 = some (.tup [.int (((addS ys s).idxOf s : Nat) : Int),.int (((addS (addS ys s) e).idxOf e : Nat) : Int),.ref l]) → H' r2 = some (.tup [.ref r1,.int k]) → Q (.ref r2) H'
theorem ok_roadAt (F : Fun K "_law_road_at" "_law_road_at" st__law_road_at f fd) (C_law_run : Callee P w K mg base n "_law_run" ["text","at","signs"] spRunB) (C_law_window_at : Callee P w K mg base n "_law_window_at" ["day","text","at"] spWinAt) : FnOk P w K mg base CX0 (n + 1) f fd ["day","names","text","at"] spRoadAt := by
 refine F.okQ sc__law_road_at (fun vs H Q E h => ?_) (fun cdv A outer s H vs Q E hr h => ?_)
 ·obtain ⟨_,_,_,_,_,rfl,_⟩ := h
  rfl
 obtain ⟨day,pn,x,a,ys,rfl,hpn,ly,hx,q0,q1⟩ := h
 refine ⟨_,(qss_cons (qs_set (i := 4) sc__law_road_at.nd rfl (Or.inl rfl) (qe_fn C_law_run hr rfl (qa_c (qv 2) (qa_c (qv 3) (qa_c qe_str qa_nil))))) (qss_cons (qs_set (i := 5) sc__law_road_at.nd rfl (Or.inl rfl) (qe_fn C_law_run hr rfl (qa_c (qv 2) (qa_c (qe_op qop_add (qv 4) qe_int) (qa_c qe_str qa_nil))))) (qss_cons (qs_if (qt_cut (QW.pt (qw_or (qt_cmpR qop_ne (qe_slA (qv 2) (qo_some (qv 4)) (qo_some (qe_op qop_add (qv 4) qe_int))) qe_str (nomark _)) (qw_or (qt_not (qt_chain qop_le qop_le qe_int (qe_op qop_sub (qv 4) (qv 3)) qe_int)) (qw_or1 (qt_not (qt_chain qop_le qop_le qe_int (qe_op qop_sub (qe_op qop_sub (qv 5) (qv 4)) qe_int) qe_int))))))) (qss_one (qs_ret qe_non)) qss_nil) (qss_cons (qs_set (i := 6) sc__law_road_at.nd rfl (Or.inl rfl) (qe_lst qa_nil)) (qss_cons (qs_for PassesOwn.never rfl (qi_list (qe_lst (qa_c (qe_slA (qv 2) (qo_some (qv 3)) (qo_some (qv 4))) (qa_c (qe_slA (qv 2) (qo_some (qe_op qop_add (qv 4) qe_int)) (qo_some (qv 5))) qa_nil)))) (qg_name (i := 7) sc__law_road_at.nd rfl (Or.inl rfl)) (qss_cut (qs_if (qt_cmpR qop_notInL (qv 7) (qv 1) rfl) (qss_one (qs_expr (qe_append (qv 1) (qa_c (qv 7) qa_nil)))) qss_nil) (qss_one (qs_expr (qe_append (qv 6) (qa_c (qe_indexS K rfl (qv 1) (qa_c (qv 7) qa_nil)) qa_nil)))))) (qss_cons (qs_set (i := 8) sc__law_road_at.nd rfl (Or.inl rfl) (qe_lst qa_nil)) (qss_cons (qs_while PassesOwn.never (qt_cmpR qop_eq (qe_slA (qv 2) (qo_some (qv 5)) (qo_some (qe_op qop_add (qv 5) qe_int))) qe_str (nomark _)) (qss_cons (qs_set (i := 9) sc__law_road_at.nd rfl (Or.inl rfl) (qe_fn C_law_window_at hr rfl (qa_c (qv 0) (qa_c (qv 2) (qa_c (qe_op qop_add (qv 5) qe_int) qa_nil))))) (qss_cons (qs_if (qt_isN (qv 9)) (qss_one (qs_ret qe_non)) qss_nil) (qss_cons (qs_expr (qe_append (qv 8) (qa_c (qe_ix qix_tup (qv 9) qe_int (fun _ _ => rfl)) qa_nil))) (qss_one (qs_set (i := 5) sc__law_road_at.nd rfl (Or.inl rfl) (qe_ix qix_tup (qv 9) qe_int (fun _ _ => rfl)))))))) (qss_one (qs_ret (qe_tup (qa_c (qe_tup (qa_c (qe_ix qix_list (qv 6) qe_int (fun _ _ => rfl)) (qa_c (qe_ix qix_list (qv 6) qe_int (fun _ _ => rfl)) (qa_c (qv 8) qa_nil)))) (qa_c (qv 5) qa_nil)))))))))))),?_⟩
 try dsimp only [cx_k,cx_kn,as_nil,as_name,Nat.reduceAdd]
 have hz := L.le (n := x.length) (by omega)
 have sz : x.cps.toList.length = x.length := by simp [Str.length]
 refine ⟨_,rfl,_,rfl,.inr ⟨x,a,rfl,by omega,?_⟩⟩
 unfold pRoad at q0 q1
 have s1 := (tw_split (p := abcL) (x.cps.toList.drop a)).1
 generalize hs : (x.cps.toList.drop a).takeWhile abcL = sL at *
 rw [List.drop_drop] at q0 q1 s1
 generalize hmid : a + sL.length = mid at *
 refine ⟨_,rfl,_,rfl,_,_,rfl,rfl,.inr ⟨x,mid + 1,rfl,by omega,?_⟩⟩
 rw [drop1] at q0 q1
 have s2 := (tw_split (p := abcL) (x.cps.toList.drop (mid + 1))).1
 generalize he : (x.cps.toList.drop (mid + 1)).takeWhile abcL = eL at *
 rw [List.drop_drop] at q0 q1 s2
 generalize hend : mid + 1 + eL.length = en at *
 refine ⟨fun z H' => H' = H ∧ (z = false ↔ ((x.cps.toList.drop mid).head? = some 62 ∧ 1 ≤ sL.length ∧ sL.length ≤ 8 ∧ 1 ≤ eL.length ∧ eL.length ≤ 8)),?_,?_⟩
 ·refine ⟨_,rfl,_,rfl,_,rfl,_,rfl,_,_,rfl,rfl,_,rfl,x,rfl,hz,rfl,_,rfl,?_⟩
  rw [more_eq,one_sl]
  refine ite2 (fun c1 => ⟨rfl,?_⟩) (fun c1 => ?_)
  ·simp at c1
   simp [c1]
  ·simp at c1
   refine ⟨_,rfl,_,rfl,_,_,rfl,rfl,_,_,rfl,rfl,_,rfl,?_⟩
   have m1 : ((mid : Int) - (a : Int)) = (sL.length : Int) := by omega
   have m2 : ((en : Int) - (mid : Int) - 1) = (eL.length : Int) := by omega
   rw [m1]
   refine ite2 (fun c2 => ?_) (fun c2 => ?_)
   ·have c2' := of_decide_eq_true c2
    refine ⟨_,_,rfl,rfl,_,rfl,?_⟩
    refine ite2 (fun c3 => ⟨rfl,?_⟩) (fun c3 => ?_)
    ·simp at c3
     simp
     omega
    ·simp at c3
     refine ⟨_,rfl,_,rfl,_,_,rfl,rfl,_,_,rfl,rfl,_,_,rfl,rfl,_,rfl,?_⟩
     rw [m2]
     refine ite2 (fun c4 => ?_) (fun c4 => ?_)
     ·have c4' := of_decide_eq_true c4
      refine ⟨_,_,rfl,rfl,_,rfl,rfl,?_⟩
      simp [c1]
      omega
     ·have c4' : ¬ (1 : Int) ≤ (eL.length : Int) := fun z => c4 (decide_eq_true z)
      refine ⟨_,rfl,rfl,?_⟩
      simp
      omega
   ·have c2' : ¬ (1 : Int) ≤ (sL.length : Int) := fun z => c2 (decide_eq_true z)
    refine ⟨_,rfl,iteT ⟨rfl,?_⟩⟩
    simp
    omega
 intro z H0 z9;obtain ⟨e0,hb⟩ := z9
 have e0' := e0.symm
 subst e0'
 clear e0
 refine ite2 (fun cz => ?_) (fun cz => ?_)
 ·have : ¬ ((x.cps.toList.drop mid).head? = some 62 ∧ 1 ≤ sL.length ∧ sL.length ≤ 8 ∧ 1 ≤ eL.length ∧ eL.length ≤ 8) := fun y => by
   rw [hb.mpr y] at cz
   cases cz
  rw [if_neg this] at q0
  exact q0 rfl H hide_to
 have cond := hb.mp (Bool.eq_false_iff.mpr cz)
 rw [if_pos cond] at q0 q1
 obtain ⟨c1,c2,c3,c4,c5⟩ := cond
 have hml : mid < x.length := by
  rcases Nat.lt_or_ge mid x.length with z | z
  ·exact z
  ·rw [List.drop_eq_nil_of_le (by omega)] at c1
   cases c1
 have enl : en ≤ x.length := by
  have := congrArg List.length s2
  rw [List.length_append,List.length_drop,List.length_drop] at this
  omega
 have es : Txt.slice x (some (a : Int)) (some (mid : Int)) = ⟨sL.toArray⟩ := cps_inj (by
  rw [slice_ss (by omega) (by omega),show ((a : Nat) : Int).toNat = a by omega,show ((mid : Nat) : Int).toNat - a = sL.length by omega,s1,List.take_left])
 have ee : Txt.slice x (some ((mid : Int) + 1)) (some (en : Int)) = ⟨eL.toArray⟩ := cps_inj (by
  rw [slice_ss (by omega) (by omega),show ((mid : Int) + 1).toNat = mid + 1 by omega,show ((en : Nat) : Int).toNat - (mid + 1) = eL.length by omega,s2,List.take_left])
 generalize (⟨sL.toArray⟩ : Str) = sS at *
 generalize (⟨eL.toArray⟩ : Str) = eS at *
 clear s1 s2 hs he
 refine ⟨(by show 0 ≤ sizeLine; decide),fun pp hpp => ?_⟩
 have fpp := hpp
 have npp : pp ≠ pn := fun z => by rw [z,hpn] at hpp; cases hpp
 generalize hgH1 : upd _ pp _ = H1
 obtain ⟨s1,e1⟩ := fresh_of hpp hgH1
 clear hgH1
 refine ⟨_,rfl,_,rfl,_,rfl,_,rfl,_,rfl,x,rfl,hz,_,rfl,_,rfl,_,_,rfl,rfl,_,rfl,_,rfl,_,rfl,x,rfl,hz,(by show 2 ≤ sizeLine; decide),fun pl hpl => ?_⟩
 rw [es,ee]
 have npl : pl ≠ pn := fun z => by rw [z,s1 _ _ hpn] at hpl; cases hpl
 have nplp : pl ≠ pp := fun z => by rw [z,e1] at hpl; cases hpl
 generalize hgH2 : upd _ pl _ = H2
 obtain ⟨s2,e2⟩ := fresh_of hpl hgH2
 clear hgH2
 have hw : ∀ {H' : Hp} {o : HO},Same (hide pn H) H' → Same (hide pn H) (upd H' pn o) := fun {H' o} sm b u eb => by
  have nb : b ≠ pn := fun z => by
   rw [z] at eb
   simp [hide] at eb
  rw [upd_ne nb]
  exact sm _ _ eb
 have hfr : ∀ {b : Addr},H b = none → hide pn H b = none := fun {b} e => by
  unfold hide
  split
  ·rfl
  ·exact e
 refine ⟨pl,rfl,⟨_,SqL.of e2⟩,for_list (K := K) (a := pl) (xs := [V.str sS,V.str eS]) (fun j σ H' => ∃ v7 : Option V,σ = [some (.int day),some (.ref pn),some (.str x),some (.int (a : Int)),some (.int (mid : Int)),some (.int (en : Int)),some (.ref pp),v7,none,none] ∧ Same (hide pn H) H' ∧ H' pl = some (.lst [V.str sS,V.str eS]) ∧ H' pn = some (.lst ((match j with | 0 => ys | 1 => addS ys sS | _ => addS (addS ys sS) eS).map V.str)) ∧ H' pp = some (.lst ((match j with | 0 => [] | 1 => [(((addS ys sS).idxOf sS : Nat) : Int)] | _ => [(((addS ys sS).idxOf sS : Nat) : Int),(((addS (addS ys sS) eS).idxOf eS : Nat) : Int)]).map V.int)))
  ⟨_,rfl,hide_to.trans (s1.trans s2),e2,s2 _ _ (s1 _ _ hpn),s2 _ _ e1⟩ (fun i σ H' _ h => ?_) ?_ ?_⟩
 ·obtain ⟨_,_,_,h,_⟩ := h
  exact SqL.of h
 ·intro i y σ H' hi z9;obtain ⟨v7,rfl,sI,eI,nI,pI⟩ := z9
  obtain ⟨zz,o1,is,rfl,ol,il,eo,en',ei,ein⟩ : ∃ (zz : Str) (o1 : List Str) (is : List Int),y = .str zz ∧ o1.length ≤ 200000 ∧ is.length ≤ 2 ∧ (match i with | 0 => ys | 1 => addS ys sS | _ => addS (addS ys sS) eS) = o1 ∧ (match i + 1 with | 0 => ys | 1 => addS ys sS | _ => addS (addS ys sS) eS) = addS o1 zz ∧ (match i with | 0 => [] | 1 => [(((addS ys sS).idxOf sS : Nat) : Int)] | _ => [(((addS ys sS).idxOf sS : Nat) : Int),(((addS (addS ys sS) eS).idxOf eS : Nat) : Int)]) = is ∧ (match i + 1 with | 0 => [] | 1 => [(((addS ys sS).idxOf sS : Nat) : Int)] | _ => [(((addS ys sS).idxOf sS : Nat) : Int),(((addS (addS ys sS) eS).idxOf eS : Nat) : Int)]) = is ++ [(((addS o1 zz).idxOf zz : Nat) : Int)] := by
   match i,hi with
   | 0,hi => cases hi; exact ⟨_,ys,[],rfl,by omega,by simp,rfl,rfl,rfl,rfl⟩
   | 1,hi => cases hi; exact ⟨_,addS ys sS,_,rfl,by have := addS_len ys sS; omega,by simp,rfl,rfl,rfl,rfl⟩
   | i + 2,hi => simp at hi
  rw [eo] at nI
  rw [ei] at pI
  rw [en',ein]
  have al := addS_len o1 zz
  refine ⟨fun σ' H'' => σ' = [some (.int day),some (.ref pn),some (.str x),some (.int (a : Int)),some (.int (mid : Int)),some (.int (en : Int)),some (.ref pp),some (.str zz),none,none] ∧ H'' = upd H' pn (.lst ((addS o1 zz).map V.str)),?_,?_⟩
  ·refine ⟨_,rfl,_,rfl,pn,_,rfl,.inl (SqL.of nI),rfl,flat_strs _,_,rfl,?_⟩
   rw [in_strs]
   refine ite2 (fun c => ?_) (fun c => ?_)
   ·have c' : zz ∉ o1 := by
     have : (if true = true then !decide (zz ∈ o1) else decide (zz ∈ o1)) = true := c
     simpa using this
    refine ⟨_,rfl,.inl ⟨rfl,_,SqL.of nI⟩,_,rfl,pn,_,_,rfl,rfl,nI,line_of (by rw [List.length_map]; omega),rfl,?_⟩
    rw [show addS o1 zz = o1 ++ [zz] from if_neg c',List.map_append]
    rfl
   ·have c' : zz ∈ o1 := by
     have : (if true = true then !decide (zz ∈ o1) else decide (zz ∈ o1)) ≠ true := c
     simpa using this
    rw [show addS o1 zz = o1 from if_pos c',upd_id nI]
    exact ⟨rfl,rfl⟩
  intro σ' H'' z9;obtain ⟨rfl,rfl⟩ := z9
  have n2 : upd H' pn (.lst ((addS o1 zz).map V.str)) pn = some (.lst ((addS o1 zz).map V.str)) := upd_same
  have p2 : upd H' pn (.lst ((addS o1 zz).map V.str)) pp = some (.lst (is.map V.int)) := by rw [upd_ne npp]; exact pI
  have l2 : upd H' pn (.lst ((addS o1 zz).map V.str)) pl = some (.lst [V.str sS,V.str eS]) := by rw [upd_ne npl]; exact eI
  have s3 := hw (o := .lst ((addS o1 zz).map V.str)) sI
  generalize upd H' pn (.lst ((addS o1 zz).map V.str)) = H3 at *
  refine ⟨_,rfl,.inl ⟨rfl,_,SqL.of p2⟩,_,rfl,.inl ⟨rfl,_,SqL.of n2⟩,_,rfl,pn,zz,addS o1 zz,rfl,rfl,SqL.of n2,addS_mem,L.le (by omega),pp,_,_,rfl,rfl,p2,line_of (by rw [List.length_map]; omega),?_⟩
  refine ⟨_,rfl,same_wr (hfr fpp) s3,by rw [upd_ne nplp]; exact l2,by rw [upd_ne npp.symm]; exact n2,?_⟩
  rw [upd_same,List.map_append]
  rfl
 intro σ H3 z9;obtain ⟨v7,rfl,s3,_,n3,p3⟩ := z9
 have n3 : H3 pn = some (.lst ((addS (addS ys sS) eS).map V.str)) := n3
 have p3 : H3 pp = some (.lst [.int (((addS ys sS).idxOf sS : Nat) : Int),.int (((addS (addS ys sS) eS).idxOf eS : Nat) : Int)]) := p3
 clear s1 s2 e2 e1
 refine ⟨(by show 0 ≤ sizeLine; decide),fun pb hpb => ?_⟩
 have npb : pb ≠ pn := fun z => by rw [z,n3] at hpb; cases hpb
 have fpb : H pb = none := by
  have := s3.free hpb
  unfold hide at this
  rw [if_neg npb] at this
  exact this
 have nppb : pp ≠ pb := fun z => by rw [← z,p3] at hpb; cases hpb
 generalize hgH4 : upd _ pb _ = H4
 obtain ⟨s4,e4⟩ := fresh_of hpb hgH4
 clear hgH4
 refine while_by (fun σ H' => ∃ (k : Nat) (Rd : List T3) (v9 : Option V),σ = [some (.int day),some (.ref pn),some (.str x),some (.int (a : Int)),some (.int (mid : Int)),some (.int (k : Int)),some (.ref pp),v7,some (.ref pb),v9] ∧ Same (hide pn H) H' ∧ H' pn = some (.lst ((addS (addS ys sS) eS).map V.str)) ∧ H' pp = some (.lst [.int (((addS ys sS).idxOf sS : Nat) : Int),.int (((addS (addS ys sS) eS).idxOf eS : Nat) : Int)]) ∧ LA enc3 H' pb Rd ∧ k ≤ x.length ∧ en ≤ k ∧ Rd.length ≤ k ∧ pBoard day (x.length + 1) (x.cps.toList.drop en) = (match pBoard day (x.length + 1 - Rd.length) (x.cps.toList.drop k) with | none => none | some (R,r) => some (Rd ++ R,r)))
  (fun σ _ => match σ with | [_,_,_,_,_,some (.int k),_,_,_,_] => (x.length - k.toNat) | _ => 0) ⟨en,[],_,rfl,s3.trans s4,s4 _ _ n3,s4 _ _ p3,LA.nil e4,enl,Nat.le_refl _,Nat.zero_le _,?_⟩ ?_ ?_
 ·rw [List.length_nil,Nat.sub_zero]
  cases pBoard day (x.length + 1) (x.cps.toList.drop en) <;> rfl
 ·intro σ H' z9;obtain ⟨k,Rd,v9,rfl,sI,nI,pI,lI,kl,ke,rk,hb'⟩ := z9
  obtain ⟨fu,hfu⟩ : ∃ fu,x.length + 1 - Rd.length = fu + 1 := ⟨x.length - Rd.length,by omega⟩
  rw [hfu] at hb'
  refine ⟨_,rfl,_,rfl,_,rfl,_,rfl,_,_,rfl,rfl,_,rfl,x,rfl,hz,rfl,_,rfl,?_⟩
  rw [blank_eq,one_sl]
  refine ite2 (fun c => ?_) (fun c => ?_)
  ·have c' := of_decide_eq_true c
   rw [pBoard_sp (f := fu) (cs := x.cps.toList.drop k) c',drop1] at hb'
   have klt : k < x.length := by
    rcases Nat.lt_or_ge k x.length with z | z
    ·exact z
    ·rw [List.drop_eq_nil_of_le (by omega)] at c'
     cases c'
   refine ⟨_,rfl,_,rfl,_,rfl,_,_,rfl,rfl,day,x,k + 1,rfl,by omega,fun h1 H5 s5 => ?_,fun y e r1 r2 H5 h1 l1 s5 e5 e6 => ?_⟩
   ·rw [h1] at hb'
    dsimp only at hb'
    rw [hb'] at q0
    exact ⟨_,rfl,_,rfl,iteT (q0 rfl H5 (sI.trans s5))⟩
   ·rw [h1] at hb'
    dsimp only at hb'
    obtain ⟨_,ew,_⟩ := pWin_sound h1
    have el : k + 1 < e := by
     have := congrArg List.length ew
     rw [List.length_append,List.length_drop,List.length_drop] at this
     have w1 : 1 ≤ (wcL y).length := by
      rw [wcL_eq,List.length_append,List.length_cons]
      omega
     omega
    have lI5 := lI.same s5
    obtain ⟨vs,v1,v2,_⟩ := lI5.lst
    refine ⟨_,rfl,_,rfl,iteF ⟨_,rfl,.inl ⟨rfl,_,SqL.of v1⟩,_,rfl,r2,_,_,_,rfl,rfl,SqT.of e6,rfl,pb,_,_,rfl,rfl,v1,line_of (by omega),?_⟩⟩
    have e6' : upd H5 pb (.lst (vs ++ [.ref r1])) r2 = some (.tup [.ref r1,.int e]) := by
     rw [upd_ne (fun z => by rw [z,v1] at e6; cases e6)]
     exact e6
    refine ⟨_,rfl,r2,_,_,_,rfl,rfl,SqT.of e6',rfl,⟨e,Rd ++ [y],_,rfl,same_wr (hfr fpb) (sI.trans s5),?_,?_,lI5.append v1 e5,l1,by omega,by rw [List.length_append,List.length_singleton]; omega,?_⟩,?_⟩
    ·rw [upd_ne npb.symm]
     exact s5 _ _ nI
    ·rw [upd_ne nppb]
     exact s5 _ _ pI
    ·rw [hb',show x.length + 1 - (Rd ++ [y]).length = fu by rw [List.length_append,List.length_singleton]; omega]
     cases pBoard day fu (x.cps.toList.drop e) with
     | none => rfl
     | some v =>
      obtain ⟨R,r⟩ := v
      simp
    ·show x.length - ((e : Nat) : Int).toNat < x.length - ((k : Nat) : Int).toNat
     omega
  ·have c' : ¬ (x.cps.toList.drop k).head? = some 32 := fun z => c (decide_eq_true z)
   rw [pBoard_no (f := fu) (cs := x.cps.toList.drop k) c'] at hb'
   dsimp only at hb'
   rw [List.append_nil] at hb'
   rw [hb'] at q1
   refine ⟨_,rfl,pp,_,_,_,rfl,rfl,SqL.of pI,rfl,_,rfl,pp,_,_,_,rfl,rfl,SqL.of pI,rfl,_,rfl,(by show 3 ≤ sizeLine; decide),fun ra hra => ?_⟩
   generalize hgH5 : upd _ ra _ = H5
   obtain ⟨s5,e5⟩ := fresh_of hra hgH5
   clear hgH5
   refine ⟨_,rfl,(by show 2 ≤ sizeLine; decide),fun rb hrb => ?_⟩
   generalize hgH6 : upd _ rb _ = H6
   obtain ⟨s6,e6⟩ := fresh_of hrb hgH6
   clear hgH6
   exact q1 sS eS Rd k pb ra rb H6 rfl kl (by omega) (by omega) (sI.trans (s5.trans s6)) (s6 _ _ (s5 _ _ nI)) fpb ((lI.same s5).same s6) (s6 _ _ e5) e6
 ·intro σ H' Q1 Q2 hq z9;obtain ⟨a1,b1,a2,b2,a3,b3,a4,b4,a5,a6,b5,b6,a7,b7,xx,b8,b9,b10,bb,b11,hh⟩ := z9
  exact ⟨a1,b1,a2,b2,a3,b3,a4,b4,a5,a6,b5,b6,a7,b7,xx,b8,b9,b10,bb,b11,hq _ _ hh⟩
noncomputable def rdStep (st : List Str × List (Int × Int × List T3)) (q : RoadS) : List Str × List (Int × Int × List T3) := (addS (addS st.1 q.1) q.2.1,st.2 ++ [((((addS st.1 q.1).idxOf q.1 : Nat) : Int),(((addS (addS st.1 q.1) q.2.1).idxOf q.2.1 : Nat) : Int),q.2.2)])
noncomputable def rdAll (L : List RoadS) : List Str × List (Int × Int × List T3) := L.foldl rdStep ([],[])
noncomputable def spReadA : Sp := fun vs H Q _ => ∃ x : Str,vs = [.str x] ∧ x.length ≤ 30000 ∧ (pNet x.cps.toList = none → ∀ H',Same H H' → Q .non H') ∧
 ∀ (d : Int) (L : List RoadS) (pn pr r : Addr) (M : List RdT) (H' : Hp),pNet x.cps.toList = some (d,L) → Same H H' → H' pn = some (.lst ((rdAll L).1.map V.str)) → NA H' pr M → M.map strip = (rdAll L).2 → H' r = some (.tup [.int d,.ref pn,.ref pr]) → Q (.ref r) H'
theorem pRoads_sp {day : Int} {F f : Nat} {cs : List Nat} (h : cs.take 2 = [59,32]) : pRoads day F (f + 1) cs = match pRoad day F (cs.drop 2) with
  | none => none
  | some (q,r) => match pRoads day F f r with
   | none => none
   | some (L,r') => some (q :: L,r') := if_pos h
theorem pRoads_no {day : Int} {F f : Nat} {cs : List Nat} (h : ¬ cs.take 2 = [59,32]) : pRoads day F (f + 1) cs = some ([],cs) := if_neg h
theorem two_sl {x : Str} {k : Nat} {c d : Nat} : decide (V.str (Txt.slice x (some (k : Int)) (some ((k : Int) + 2))) = V.str ⟨#[c,d]⟩) = decide ((x.cps.toList.drop k).take 2 = [c,d]) := by
 have e := slice_ss (x := x) (i := (k : Int)) (j := (k : Int) + 2) (by omega) (by omega)
 rw [show ((k : Nat) : Int).toNat = k by omega,show ((k : Int) + 2).toNat - k = 2 by omega] at e
 rw [Bool.eq_iff_iff,decide_eq_true_iff,decide_eq_true_iff]
 constructor
 ·intro h
  have h : Txt.slice x (some (k : Int)) (some ((k : Int) + 2)) = ⟨#[c,d]⟩ := by
   injection h
  rw [h] at e
  exact e.symm
 ·intro h
  congr 1
  exact cps_inj (e.trans h)
theorem semi_eq : ("; " : Str) = ⟨#[59,32]⟩ := rfl
theorem day_eq {x : Str} : decide (V.str (Txt.slice x none (some 4)) = V.str "day ") = decide (x.cps.toList.take 4 = [100,97,121,32]) := by
 have e := slice_ns (x := x) (j := 4) (by omega)
 have e4 : (("day " : Str)).cps.toList = [100,97,121,32] := by decide +kernel
 rw [Bool.eq_iff_iff,decide_eq_true_iff,decide_eq_true_iff]
 constructor
 ·intro h
  have h : Txt.slice x none (some 4) = "day " := by
   injection h
  rw [h,e4] at e
  exact e.symm
 ·intro h
  congr 1
  exact cps_inj (e.trans (h.trans e4.symm))
theorem rd_len : ∀ (L : List RoadS),(rdAll L).1.length ≤ 2 * L.length := by
 have go : ∀ (L : List RoadS) (st : List Str × List (Int × Int × List T3)),(L.foldl rdStep st).1.length ≤ st.1.length + 2 * L.length := by
  intro L
  induction L with
  | nil => intro st; simp
  | cons q L ih =>
   intro st
   have h := ih (rdStep st q)
   have h1 := addS_len st.1 q.1
   have h2 := addS_len (addS st.1 q.1) q.2.1
   have e : (rdStep st q).1 = addS (addS st.1 q.1) q.2.1 := rfl
   rw [List.foldl_cons,List.length_cons]
   rw [e] at h
   omega
 intro L
 have := go L ([],[])
 simpa [rdAll] using this
theorem rd_snoc (L : List RoadS) (q : RoadS) : rdAll (L ++ [q]) = rdStep (rdAll L) q := by
 unfold rdAll
 rw [List.foldl_append]
 rfl
theorem LA.hideL {α : Type} {enc : α → List V} {H : Hp} {p x : Addr} {xs : List α} {zs : List V} (h : LA enc H p xs) (e : H x = some (.lst zs)) (ne : p ≠ x) : LA enc (hide x H) p xs := by
 obtain ⟨rs,h1,h2,h3⟩ := h
 exact ⟨rs,hide_at h1 ne,h2,fun i r y a b => hide_at (h3 i r y a b) fun z => by
  have := h3 i r y a b
  rw [z,e] at this
  cases this⟩
theorem NA.hideL {H : Hp} {p x : Addr} {N : List RdT} {zs : List V} (h : NA H p N) (e : H x = some (.lst zs)) (ne : p ≠ x) (nb : ∀ m ∈ N,m.2.2.1 ≠ x) : NA (hide x H) p N := ⟨h.la.hideL e ne,fun m hm => ⟨(h.bd m hm).1.hideL e (nb m hm),(h.bd m hm).2⟩,h.nd⟩
theorem same_hide {H H' : Hp} {x : Addr} (s : Same H H') (f : H x = none) : Same H (hide x H') := fun b o e => hide_at (s _ _ e) fun z => by rw [z,f] at e; cases e
theorem ok_readA (F : Fun K "_law_read" "_law_read" st__law_read f fd) (B : Bl mg) (C_law_number : Callee P w K mg base n "_law_number" ["text","at"] spNumA) (C_law_road_at : Callee P w K mg base n "_law_road_at" ["day","names","text","at"] spRoadAt) : FnOk P w K mg base CX0 (n + 1) f fd ["text"] spReadA := by
 refine F.okQ sc__law_read (fun vs H Q E h => ?_) (fun cdv A outer s H vs Q E hr h => ?_)
 ·obtain ⟨_,rfl,_⟩ := h
  rfl
 obtain ⟨x,rfl,hx,q0,q1⟩ := h
 refine ⟨_,(qss_cons (qs_set (i := 1) sc__law_read.nd rfl (Or.inl rfl) (qe_fn C_law_number hr rfl (qa_c (qv 0) (qa_c qe_int qa_nil)))) (qss_cons (qs_if (qt_cut (QW.pt (qw_or (qt_cmpR qop_ne (qe_slA (qv 0) qo_none (qo_some qe_int)) qe_str (nomark _)) (qw_or (qt_isN (qv 1)) (qw_or (qt_cmpR qop_lt (qe_ix qix_tup (qv 1) qe_int (fun _ _ => rfl)) qe_int (nomark _)) (qw_or1 (qt_cmpR qop_gt (qe_ix qix_tup (qv 1) qe_int (fun _ _ => rfl)) (qe_op qop_pow qe_int qe_int) (nomark _)))))))) (qss_one (qs_ret qe_non)) qss_nil) (qss_cons (qs_set (i := 2) sc__law_read.nd rfl (Or.inl rfl) (qe_lst qa_nil)) (qss_cons (qs_set (i := 3) sc__law_read.nd rfl (Or.inl rfl) (qe_lst qa_nil)) (qss_cons (qs_set (i := 4) sc__law_read.nd rfl (Or.inl rfl) (qe_ix qix_tup (qv 1) qe_int (fun _ _ => rfl))) (qss_cons (qs_while PassesOwn.never (qt_cmpR qop_eq (qe_slA (qv 0) (qo_some (qv 4)) (qo_some (qe_op qop_add (qv 4) qe_int))) qe_str (nomark _)) (qss_cons (qs_set (i := 5) sc__law_read.nd rfl (Or.inl rfl) (qe_fn C_law_road_at hr rfl (qa_c (qe_ix qix_tup (qv 1) qe_int (fun _ _ => rfl)) (qa_c (qv 2) (qa_c (qv 0) (qa_c (qe_op qop_add (qv 4) qe_int) qa_nil)))))) (qss_cons (qs_if (qt_isN (qv 5)) (qss_one (qs_ret qe_non)) qss_nil) (qss_cons (qs_expr (qe_append (qv 3) (qa_c (qe_ix qix_tup (qv 5) qe_int (fun _ _ => rfl)) qa_nil))) (qss_one (qs_set (i := 4) sc__law_read.nd rfl (Or.inl rfl) (qe_ix qix_tup (qv 5) qe_int (fun _ _ => rfl)))))))) (qss_cons (qs_if (qt_cmpR qop_lt (qv 4) (qe_cb qcall_lenS rfl B.len bt_len (qa_c (qv 0) qa_nil)) (nomark _)) (qss_one (qs_ret qe_non)) qss_nil) (qss_one (qs_ret (qe_tup (qa_c (qe_ix qix_tup (qv 1) qe_int (fun _ _ => rfl)) (qa_c (qv 2) (qa_c (qv 3) qa_nil))))))))))))),?_⟩
 try dsimp only [cx_k,cx_kn,as_nil,as_name,Nat.reduceAdd]
 have hz := L.le (n := x.length) (by omega)
 have sz : x.cps.toList.length = x.length := by simp [Str.length]
 have e15 : (10 : Int) ^ (15 : Int).toNat = 1000000000000000 := by decide
 unfold pNet at q0 q1
 refine ⟨_,rfl,x,4,rfl,by omega,fun h1 => ?_,fun d k r1 H1 h1 l1 s1 e1 => ?_⟩
 ·rw [h1] at q0
  refine ⟨fun z H' => z = true ∧ H' = H,?_,?_⟩
  ·refine ⟨_,rfl,_,rfl,x,rfl,hz,rfl,_,rfl,ite2 (fun _ => ⟨rfl,rfl⟩) (fun _ => ?_)⟩
   exact ⟨_,rfl,_,rfl,iteT ⟨rfl,rfl⟩⟩
  intro z H' z9;obtain ⟨rfl,rfl⟩ := z9
  exact iteT (q0 rfl H' (Same.refl _))
 rw [h1] at q0 q1
 dsimp only at q0 q1
 refine ⟨fun z H' => H' = H1 ∧ (z = false ↔ (x.cps.toList.take 4 = [100,97,121,32] ∧ 1 ≤ d ∧ d ≤ 1000000000000000)),?_,?_⟩
 ·refine ⟨_,rfl,_,rfl,x,rfl,hz,rfl,_,rfl,?_⟩
  rw [day_eq]
  refine ite2 (fun c1 => ⟨rfl,?_⟩) (fun c1 => ?_)
  ·simp at c1
   simp [c1]
  ·simp at c1
   refine ⟨_,rfl,_,rfl,iteF ⟨_,rfl,r1,_,_,_,rfl,rfl,SqT.of e1,rfl,_,_,rfl,rfl,_,rfl,ite2 (fun c3 => ⟨rfl,?_⟩) (fun c3 => ?_)⟩⟩
   ·have c3' := of_decide_eq_true c3
    simp
    omega
   ·have c3' : ¬ d < 1 := fun z => c3 (decide_eq_true z)
    refine ⟨_,rfl,r1,_,_,_,rfl,rfl,SqT.of e1,rfl,_,_,rfl,rfl,⟨by decide,by decide,by decide⟩,_,_,rfl,rfl,_,rfl,rfl,?_⟩
    rw [e15]
    simp [c1]
    omega
 intro z H0 z9;obtain ⟨e0,hb⟩ := z9
 have e0' := e0.symm
 subst e0'
 clear e0
 refine ite2 (fun cz => ?_) (fun cz => ?_)
 ·have : ¬ (x.cps.toList.take 4 = [100,97,121,32] ∧ 1 ≤ d ∧ d ≤ 1000000000000000) := fun y => by
   rw [hb.mpr y] at cz
   cases cz
  rw [if_neg this] at q0
  exact q0 rfl H1 s1
 have cond := hb.mp (Bool.eq_false_iff.mpr cz)
 rw [if_pos cond,sz] at q0 q1
 clear hb cz cond
 refine ⟨(by show 0 ≤ sizeLine; decide),fun pn hpn => ?_⟩
 have fpn : H pn = none := s1.free hpn
 generalize hgH2 : upd _ pn _ = H2
 obtain ⟨s2,e2⟩ := fresh_of hpn hgH2
 clear hgH2
 refine ⟨(by show 0 ≤ sizeLine; decide),fun pr hpr => ?_⟩
 have fpr : H pr = none := s1.free (s2.free hpr)
 have npr : pn ≠ pr := fun z => by rw [← z,e2] at hpr; cases hpr
 generalize hgH3 : upd _ pr _ = H3
 obtain ⟨s3,e3⟩ := fresh_of hpr hgH3
 clear hgH3
 have s13 := s2.trans s3
 refine ⟨_,rfl,r1,_,_,_,rfl,rfl,SqT.of (s13 _ _ e1),rfl,?_⟩
 refine while_by (fun σ H' => ∃ (k2 : Nat) (Ld : List RoadS) (M : List RdT) (v5 : Option V),σ = [some (.str x),some (.ref r1),some (.ref pn),some (.ref pr),some (.int (k2 : Int)),v5] ∧ Same H H' ∧ H' r1 = some (.tup [.int d,.int (k : Int)]) ∧ H' pn = some (.lst ((rdAll Ld).1.map V.str)) ∧ NA H' pr M ∧ (∀ m ∈ M,m.2.2.1 ≠ pn) ∧ M.map strip = (rdAll Ld).2 ∧ M.length = Ld.length ∧ k2 ≤ x.length ∧ Ld.length ≤ k2 ∧ pRoads d (x.length + 1) (x.length + 1) (x.cps.toList.drop k) = (match pRoads d (x.length + 1) (x.length + 1 - Ld.length) (x.cps.toList.drop k2) with | none => none | some (L,r) => some (Ld ++ L,r)))
  (fun σ _ => match σ with | [_,_,_,_,some (.int k),_] => (x.length - k.toNat) | _ => 0) ⟨k,[],[],_,rfl,s1.trans s13,s13 _ _ e1,s3 _ _ e2,NA.nil e3,by simp,rfl,rfl,l1,Nat.zero_le _,?_⟩ ?_ ?_
 ·rw [List.length_nil,Nat.sub_zero]
  cases pRoads d (x.length + 1) (x.length + 1) (x.cps.toList.drop k) <;> rfl
 ·intro σ H' z9;obtain ⟨k2,Ld,M,v5,rfl,sI,rI,nI,hM,bM,eM,lM,kl,lk,hb'⟩ := z9
  obtain ⟨fu,hfu⟩ : ∃ fu,x.length + 1 - Ld.length = fu + 1 := ⟨x.length - Ld.length,by omega⟩
  rw [hfu] at hb'
  have rl := rd_len Ld
  refine ⟨_,rfl,_,rfl,_,rfl,_,rfl,_,_,rfl,rfl,_,rfl,x,rfl,hz,rfl,_,rfl,?_⟩
  rw [semi_eq,two_sl]
  refine ite2 (fun c => ?_) (fun c => ?_)
  ·have c' := of_decide_eq_true c
   rw [pRoads_sp (f := fu) (cs := x.cps.toList.drop k2) c',List.drop_drop] at hb'
   refine ⟨_,rfl,r1,_,_,_,rfl,rfl,SqT.of rI,rfl,_,rfl,_,rfl,_,rfl,_,_,rfl,rfl,d,pn,x,k2 + 2,_,rfl,nI,by omega,by omega,fun h2 H5 s5 => ?_,fun sS eS R k3 lb ra rb H5 h2 l3 k23 lR s5 n5 fl la ea eb => ?_⟩
   ·rw [h2] at hb'
    dsimp only at hb'
    rw [hb'] at q0
    exact ⟨_,rfl,_,rfl,iteT (q0 rfl H5 ((same_hide sI fpn).trans s5))⟩
   ·rw [h2] at hb'
    dsimp only at hb'
    have nlp : lb ≠ pn := fun z => by rw [z,nI] at fl; cases fl
    have fb := hM.fresh fl
    have hM5 := (hM.hideL nI npr.symm bM).same s5
    have s05 := (same_hide sI fpn).trans s5
    have r5 : H5 r1 = some (.tup [.int d,.int (k : Int)]) := s5 _ _ (hide_at rI fun z => by rw [z,nI] at rI; cases rI)
    obtain ⟨vs,v1,v2,_⟩ := hM5.la.lst
    rw [List.length_map] at v2
    refine ⟨_,rfl,_,rfl,iteF ⟨_,rfl,.inl ⟨rfl,_,SqL.of v1⟩,_,rfl,rb,_,_,_,rfl,rfl,SqT.of eb,rfl,pr,_,_,rfl,rfl,v1,line_of (by omega),?_⟩⟩
    have eb' : upd H5 pr (.lst (vs ++ [.ref ra])) rb = some (.tup [.ref ra,.int k3]) := by
     rw [upd_ne (fun z => by rw [z,v1] at eb; cases eb)]
     exact eb
    have e9 : rdAll (Ld ++ [(sS,eS,R)]) = rdStep (rdAll Ld) (sS,eS,R) := rd_snoc _ _
    refine ⟨_,rfl,rb,_,_,_,rfl,rfl,SqT.of eb',rfl,⟨k3,Ld ++ [(sS,eS,R)],M ++ [_],_,rfl,same_wr fpr s05,?_,?_,hM5.add fb v1 la ea,?_,?_,by simp [lM],l3,by rw [List.length_append,List.length_singleton]; omega,?_⟩,?_⟩
    ·rw [upd_ne (fun z => by rw [z,v1] at r5; cases r5)]
     exact r5
    ·rw [upd_ne npr,e9]
     exact n5
    ·intro m hm
     rcases List.mem_append.mp hm with z | z
     ·exact bM m z
     ·rw [List.mem_singleton] at z
      subst z
      exact nlp
    ·rw [List.map_append,eM,e9]
     rfl
    ·rw [hb',show x.length + 1 - (Ld ++ [(sS,eS,R)]).length = fu by rw [List.length_append,List.length_singleton]; omega]
     cases pRoads d (x.length + 1) fu (x.cps.toList.drop k3) with
     | none => rfl
     | some v =>
      obtain ⟨L,r⟩ := v
      simp
    ·show x.length - ((k3 : Nat) : Int).toNat < x.length - ((k2 : Nat) : Int).toNat
     have k23' : k2 < k3 := by clear hz; omega
     exact Nat.sub_lt_sub_left (Nat.lt_of_lt_of_le k23' l3) k23'
  ·have c' : ¬ (x.cps.toList.drop k2).take 2 = [59,32] := fun z => c (decide_eq_true z)
   rw [pRoads_no (f := fu) (cs := x.cps.toList.drop k2) c'] at hb'
   dsimp only at hb'
   rw [List.append_nil] at hb'
   rw [hb'] at q0 q1
   dsimp only at q0 q1
   refine ⟨_,rfl,_,rfl,_,rfl,hz,_,_,rfl,rfl,_,rfl,ite2 (fun c2 => ?_) (fun c2 => ?_)⟩
   ·have c2' : (k2 : Int) < (x.length : Int) := of_decide_eq_true c2
    have ne : x.cps.toList.drop k2 ≠ [] := fun z => by
     have := congrArg List.length z
     rw [List.length_drop] at this
     rw [sz,List.length_nil] at this
     omega
    rw [if_neg ne] at q0
    exact q0 rfl H' sI
   ·have c2' : ¬ (k2 : Int) < (x.length : Int) := fun z => c2 (decide_eq_true z)
    have ne : x.cps.toList.drop k2 = [] := List.drop_eq_nil_of_le (by omega)
    rw [if_pos ne] at q1
    refine ⟨_,rfl,r1,_,_,_,rfl,rfl,SqT.of rI,rfl,_,rfl,_,rfl,(by show 3 ≤ sizeLine; decide),fun rz hrz => ?_⟩
    generalize hgH6 : upd _ rz _ = H6
    obtain ⟨s6,e6⟩ := fresh_of hrz hgH6
    clear hgH6
    exact q1 d Ld pn pr rz M H6 rfl (sI.trans s6) (s6 _ _ nI) (hM.same s6) eM e6
 ·intro σ H' Q1 Q2 hq z9;obtain ⟨a1,b1,a2,b2,a3,b3,a4,b4,a5,a6,b5,b6,a7,b7,xx,b8,b9,b10,bb,b11,hh⟩ := z9
  exact ⟨a1,b1,a2,b2,a3,b3,a4,b4,a5,a6,b5,b6,a7,b7,xx,b8,b9,b10,bb,b11,hq _ _ hh⟩
end
noncomputable def Asc (x : Str) : Prop := ∀ c ∈ x.cps.toList,c < 128
theorem cut_at (c : Nat) (z : Str) : c ∉ z.cps.toList ∨ ∃ a b : Str,z = a ++ ⟨#[c]⟩ ++ b ∧ c ∉ a.cps.toList := by
 by_cases h : c ∈ z.cps.toList
 ·right
  obtain ⟨s,t,e,h⟩ := List.eq_append_cons_of_mem h
  exact ⟨⟨s.toArray⟩,⟨t.toArray⟩,cps_inj (by rw [cps_app,cps_app,e]; simp),by simpa using h⟩
 ·exact .inl h
theorem Asc.left {a b : Str} (h : Asc (a ++ b)) : Asc a := fun c hc => h c (app_mem.mpr (.inl hc))
theorem Asc.right {a b : Str} (h : Asc (a ++ b)) : Asc b := fun c hc => h c (app_mem.mpr (.inr hc))
theorem asc_empty : Asc Str.empty := fun c hc => by cases hc
noncomputable def spNumQ : Sp := fun vs H Q _ => ∃ z : Str,vs = [.str z,.int 16] ∧ Asc z ∧ z.length ≤ 30000 ∧ (∀ n,Sm n → z = numT n → ∀ H',Same H H' → Q (.int n) H') ∧ ((∀ n,Sm n → z ≠ numT n) → ∀ H',Same H H' → Q .non H')
noncomputable def spNameQ : Sp := fun vs H Q _ => ∃ x : Str,vs = [.str x] ∧ Asc x ∧ x.length ≤ 30000 ∧ (Low x → ∀ H',Same H H' → Q (.bl true) H') ∧ (¬ Low x → ∀ H',Same H H' → Q (.bl false) H')
section
variable {P : Program} {w : World} {K : PySem.W.Frag} {mg : Str → Option Value} {base : Heap} {f : Addr} {fd : FuncData} {n : Nat} {t1 t2 t3 t4 : Tok}
theorem comp_signsG {x y : Str} {σ : L2.St} {H : Hp} {Q : VK} (hl : x.length ≤ 30000) (q : ∀ D H',Same H H' → H' D = some (.lst ((x.cps.toList.map fun c => decide (c ∈ y.cps.toList)).map V.bl)) → Q (.ref D) H') :
  cBody [none] (gName 0) tTrue (tOp (fun x y H Q => ∃ (c : Nat) (j : Str),x = .str ⟨#[c]⟩ ∧ y = .str j ∧ Q (.bl (decide (c ∈ j.cps.toList))) H) (tVar 0) (tC (.str y))) σ Q (Its x) H := by
 have hz := L.le (n := 30001) (by omega)
 refine comp_str (fun D i H' => Same H H' ∧ H' D = some (.lst (((x.cps.toList.take i).map fun c => decide (c ∈ y.cps.toList)).map V.bl))) (fun D hD => ⟨same_new hD _,upd_same⟩) ?_ (fun D H' hD h => q D H' h.1 (by have := h.2; rwa [List.take_of_length_le (by simp [Str.length])] at this))
 intro D i c H' hD hc z9;obtain ⟨sD,eD⟩ := z9
 have hi : i < x.length := (Array.getElem?_eq_some_iff.mp hc).1
 refine ⟨fun k v e => ?_,?_⟩
 ·match k,e with
  | 0,e => cases e
  | k + 1,e => cases e
 refine ⟨_,rfl,c,y,rfl,rfl,_,eD,by rw [List.length_map,List.length_map,List.length_take]; omega,same_wr hD sD,?_⟩
 rw [upd_same,List.take_add_one,Array.getElem?_toList,hc]
 simp
theorem fig_back {c : Nat} (h : c ∈ ("0123456789" : Str).cps.toList) : 48 ≤ c ∧ c ≤ 57 := by
 have : ∀ c ∈ ("0123456789" : Str).cps.toList,48 ≤ c ∧ c ≤ 57 := by decide +kernel
 exact this c h
theorem let_back {c : Nat} (h : c ∈ ("abcdefghijklmnopqrstuvwxyz" : Str).cps.toList) : 97 ≤ c ∧ c ≤ 122 := by
 have : ∀ c ∈ ("abcdefghijklmnopqrstuvwxyz" : Str).cps.toList,97 ≤ c ∧ c ≤ 122 := by decide +kernel
 exact this c h
theorem all_sg {l : List Nat} {y : Str} : (l.map fun c => decide (c ∈ y.cps.toList)).all id = true ↔ ∀ c ∈ l,c ∈ y.cps.toList := by
 rw [List.all_map,List.all_eq_true]
 exact ⟨fun h c hc => of_decide_eq_true (h c hc),fun h c hc => decide_eq_true (h c hc)⟩
theorem ok_numQ (gt : Gt mg t1 t2 t3 t4) (F : Fun K "read_number" "read_number" st_read_number f fd) (B : Bl mg) : FnOk P w K mg base CX0 (n + 1) f fd ["text","most_figures"] spNumQ := by
 refine F.okQ sc_read_number (fun vs H Q E h => ?_) (fun cdv A outer s H vs Q E hr h => ?_)
 ·obtain ⟨_,rfl,_⟩ := h
  rfl
 obtain ⟨z,rfl,asc,hl,q1,q0⟩ := h
 refine ⟨_,(qss_cons (qs_if (qt_cut (QW.pt (qw_or (qt_not (qt_chain qop_le qop_le qe_int (qe_cb qcall_lenS rfl B.len bt_len (qa_c (qv 0) qa_nil)) (qv 1))) (qw_or1 (qt_not (qt_val (qe_cb (qcall_all rfl) rfl B.all bt_all (qa_c (qe_comp ["sign"] [none] (BlkOk.of rfl rfl (SubL.to subN) rfl) rfl (qi_str (qv 0)) (fun _ _ _ _ => (qg_name (i := 0) (show (["sign"] : List Str).Nodup by decide) rfl (Or.inl rfl))) (fun _ _ _ _ => (qe_cmpR qop_inS (qv 0) (qe_gStr rfl gt.fig) rfl))) qa_nil)))))))) (qss_one (qs_ret qe_non)) qss_nil) (qss_cons (qs_if (qt_cut (QW.pt (qw_and (qt_cmpR qop_gt (qe_cb qcall_lenS rfl B.len bt_len (qa_c (qv 0) qa_nil)) qe_int (nomark _)) (qw_and1 (qt_cmpR qop_eq (qe_ix qix_str (qv 0) qe_int (fun _ _ => rfl)) qe_str (nomark _)))))) (qss_one (qs_ret qe_non)) qss_nil) (qss_one (qs_ret (qe_ct qcall_intS rfl B.int_ bt_int (qa_c (qv 0) qa_nil)))))),?_⟩
 try dsimp only [cx_k,cx_kn,as_nil,as_name,Nat.reduceAdd]
 have sz : z.cps.toList.length = z.length := by simp [Str.length]
 have hz := L.le (n := z.length) (by omega)
 have bad : ¬ canon z.cps.toList → ∀ H',Same H H' → Q .non H' := fun nc => q0 fun m hm e => nc (by rw [e]; exact (num_canon hm).1)
 have lc : canon z.cps.toList → 1 ≤ z.length ∧ z.length ≤ 16 := fun ca => by
  have h1 := List.length_pos_iff.mpr ca.1
  have h2 := ca.2.1
  omega
 refine ⟨fun b H' => Same H H' ∧ (b = false → 1 ≤ z.length ∧ z.length ≤ 16 ∧ ∀ c ∈ z.cps.toList,dig c = true) ∧ (b = true → ¬ canon z.cps.toList),?_,?_⟩
 ·refine ⟨_,rfl,_,rfl,hz,_,_,rfl,rfl,_,rfl,ite2 (fun c => ?_) (fun c => ?_)⟩
  ·have c1 := of_decide_eq_true c
   refine ⟨_,rfl,_,_,rfl,rfl,_,rfl,ite2 (fun c2 => ?_) (fun c2 => ?_)⟩
   ·exact ⟨(Same.refl _),fun z => (by cases z),fun _ ca => by
     have := lc ca
     simp at c2
     omega⟩
   ·simp at c2
    refine ⟨_,rfl,_,rfl,ascii_of asc,comp_signsG hl fun D H1 s1 e1 => ?_⟩
    refine ⟨D,_,rfl,SqL.of e1,_,rfl,s1,fun e => ?_,fun e ca => ?_⟩
    ·have e' := all_sg.mp (Eq.mp (Bool.not_eq_false' _) e)
     exact ⟨by omega,by omega,fun c hc => dig_iff.mpr (fig_back (e' c hc))⟩
    ·have : (z.cps.toList.map fun c => decide (c ∈ ("0123456789" : Str).cps.toList)).all id = true := all_sg.mpr fun c hc => fig_in (dig_iff.mp (ca.2.2.1 c hc))
     rw [this] at e
     cases e
  ·refine ⟨_,rfl,iteT ⟨(Same.refl _),fun z => (by cases z),fun _ ca => ?_⟩⟩
   have := lc ca
   exact c (decide_eq_true (by omega))
 intro b H1 z9;obtain ⟨s1,g1,g2⟩ := z9
 refine ite2 (fun c => bad (g2 c) _ s1) (fun c => ?_)
 obtain ⟨l1,l16,hd⟩ := g1 (Bool.eq_false_iff.mpr c)
 refine ⟨fun b H' => H' = H1 ∧ (b = true ↔ (1 < z.length ∧ z.cps.toList.head? = some 48)),?_,?_⟩
 ·refine ⟨_,rfl,_,rfl,hz,_,_,rfl,rfl,_,rfl,ite2 (fun c => ?_) (fun c => ⟨rfl,?_⟩)⟩
  ·have c1 := of_decide_eq_true c
   cases ez : z.cps.toList with
   | nil => rw [ez] at sz; simp at sz; omega
   | cons d r =>
   refine ⟨_,rfl,_,0,d,rfl,rfl,hz,atI_nat (j := 0) (by rw [ez]; rfl),rfl,_,rfl,rfl,?_⟩
   have e0 : ("0" : Str) = ⟨#[48]⟩ := rfl
   rw [decide_eq_true_iff,e0]
   constructor
   ·intro h
    refine ⟨by omega,?_⟩
    injection h with h
    injection h with h
    have := congrArg Array.toList h
    simpa using this
   ·intro z9;obtain ⟨_,h⟩ := z9
    have : d = 48 := by simpa using h
    rw [this]
  ·constructor
   ·intro h; cases h
   ·intro z9;obtain ⟨h,_⟩ := z9
    exact absurd (decide_eq_true (by omega)) c
 intro b H2 z9;obtain ⟨rfl,g3⟩ := z9
 refine ite2 (fun c => bad (fun ca => ?_) _ s1) (fun c => ?_)
 ·obtain ⟨c1,c2⟩ := g3.mp c
  exact ca.2.2.2 (by omega) c2
 ·have ca : canon z.cps.toList := ⟨fun e => by rw [e] at sz; simp at sz; omega,by omega,hd,fun h e => c (g3.mpr ⟨by omega,e⟩)⟩
  obtain ⟨sm,e⟩ := canon_num ca
  have ez : z = numT (PySem.NumText.digitsVal z.cps.toList : Nat) := cps_inj e.symm
  exact ⟨_,rfl,z,_,rfl,(by rw [ez]; exact (num_int (ez ▸ sm)).trans (by rw [← ez])),by omega,q1 _ sm ez _ s1⟩
theorem ok_nameQ (gt : Gt mg t1 t2 t3 t4) (F : Fun K "is_name" "is_name" st_is_name f fd) (B : Bl mg) : FnOk P w K mg base CX0 (n + 1) f fd ["text"] spNameQ := by
 refine F.okQ sc_is_name (fun vs H Q E h => ?_) (fun cdv A outer s H vs Q E hr h => ?_)
 ·obtain ⟨_,rfl,_⟩ := h
  rfl
 obtain ⟨x,rfl,asc,hl,q1,q0⟩ := h
 refine ⟨_,(qss_one (qs_ret (qe_and (qe_chain qop_le qop_le qe_int (qe_cb qcall_lenS rfl B.len bt_len (qa_c (qv 0) qa_nil)) qe_int) (qe_one (qe_cb (qcall_all rfl) rfl B.all bt_all (qa_c (qe_comp ["sign"] [none] (BlkOk.of rfl rfl (SubL.to subN) rfl) rfl (qi_str (qv 0)) (fun _ _ _ _ => (qg_name (i := 0) (show (["sign"] : List Str).Nodup by decide) rfl (Or.inl rfl))) (fun _ _ _ _ => (qe_cmpR qop_inS (qv 0) (qe_gStr rfl gt.lets) rfl))) qa_nil)))))),?_⟩
 try dsimp only [cx_k,cx_kn,as_nil,as_name,Nat.reduceAdd]
 refine ⟨_,rfl,_,rfl,L.le (by omega),_,_,rfl,rfl,_,rfl,ite2 (fun c => ?_) (fun c => ?_)⟩
 ·have c1 := of_decide_eq_true c
  refine ⟨_,_,rfl,rfl,_,rfl,ite2 (fun c2 => ?_) (fun c2 => ?_)⟩
  ·simp at c2
   refine ⟨_,rfl,_,rfl,ascii_of asc,comp_signsG hl fun D H1 s1 e1 => ?_⟩
   refine ⟨D,_,rfl,SqL.of e1,?_⟩
   cases h : (x.cps.toList.map fun c => decide (c ∈ ("abcdefghijklmnopqrstuvwxyz" : Str).cps.toList)).all id with
   | true => exact q1 ⟨fun c hc => let_back (all_sg.mp h c hc),by omega,by omega⟩ _ s1
   | false =>
    refine q0 (fun lo => ?_) _ s1
    rw [all_sg.mpr fun c hc => let_in (lo.all c hc)] at h
    cases h
  ·simp at c2
   exact q0 (fun lo => by have := lo.l8; omega) _ (Same.refl _)
 ·exact ⟨_,rfl,iteF (q0 (fun lo => c (decide_eq_true (by have := lo.l1; omega))) _ (Same.refl _))⟩
noncomputable def spEndsQ : Sp := fun vs H Q _ => ∃ z : Str,vs = [.str z] ∧ Asc z ∧ z.length ≤ 30000 ∧ (∀ s e : Str,Low s → Low e → z = s ++ ">" ++ e → ∀ (r : Addr) (H' : Hp),Same H H' → H' r = some (.tup [.str s,.str e]) → Q (.ref r) H') ∧ ((∀ s e : Str,Low s → Low e → z ≠ s ++ ">" ++ e) → ∀ H',Same H H' → Q .non H')
theorem one_mem {c : Nat} {a b : Str} : c ∈ (a ++ ⟨#[c]⟩ ++ b).cps.toList := app_mem.mpr (.inl (app_mem.mpr (.inr (by simp))))
theorem low_empty : ¬ Low Str.empty := fun h => by
 have := h.l1
 simp [Str.length,Str.empty] at this
theorem num_empty {m : Int} (h : Sm m) : Str.empty ≠ numT m := fun e => by
 have := num_ne h.1
 rw [← e] at this
 simp [Str.length,Str.empty] at this
theorem ok_endsQ (F : Fun K "read_ends" "read_ends" st_read_ends f fd) (C_is_name : Callee P w K mg base n "is_name" ["text"] spNameQ) : FnOk P w K mg base CX0 (n + 1) f fd ["text"] spEndsQ := by
 refine F.okQ sc_read_ends (fun vs H Q E h => ?_) (fun cdv A outer s H vs Q E hr h => ?_)
 ·obtain ⟨_,rfl,_⟩ := h
  rfl
 obtain ⟨z,rfl,asc,hle,q1,q0⟩ := h
 refine ⟨_,(qss_cons (qs_set (i := 1) sc_read_ends.nd rfl (Or.inl rfl) (qe_part K rfl (qv 0) (qa_c qe_str qa_nil))) (qss_cons (qs_if (qt_cut (QW.pt (qw_or (qt_not (qt_val (qe_fn C_is_name hr rfl (qa_c (qe_ix qix_tup (qv 1) qe_int (fun _ _ => rfl)) qa_nil)))) (qw_or1 (qt_not (qt_val (qe_fn C_is_name hr rfl (qa_c (qe_ix qix_tup (qv 1) qe_int (fun _ _ => rfl)) qa_nil)))))))) (qss_one (qs_ret qe_non)) qss_nil) (qss_one (qs_ret (qe_tup (qa_c (qe_ix qix_tup (qv 1) qe_int (fun _ _ => rfl)) (qa_c (qe_ix qix_tup (qv 1) qe_int (fun _ _ => rfl)) qa_nil))))))),?_⟩
 try dsimp only [cx_k,cx_kn,as_nil,as_name,Nat.reduceAdd]
 refine ⟨_,rfl,rfl,_,_,rfl,rfl,by decide,L.le (by omega),fun l hl => ?_⟩
 rcases cut_at 62 z with h62 | ⟨x,y,rfl,h62⟩
 ·have ep : Txt.partition z ">" = (z,Str.empty,Str.empty) := part_none h62
  rw [ep]
  generalize hgH1 : upd _ l _ = H1
  obtain ⟨s1,e1⟩ := fresh_of hl hgH1
  clear hgH1
  have bad := q0 (fun s e _ _ ez => h62 (by rw [ez]; exact one_mem))
  refine ⟨fun b H' => b = true ∧ Same H1 H',?_,?_⟩
  ·refine ⟨_,rfl,l,_,_,_,rfl,rfl,SqT.of e1,rfl,z,rfl,asc,hle,fun lo H2 s2 => ⟨_,rfl,iteF ?_⟩,fun lo H2 s2 => ⟨_,rfl,iteT ⟨rfl,s2⟩⟩⟩
   exact ⟨_,rfl,l,_,_,_,rfl,rfl,SqT.of (s2 _ _ e1),rfl,_,rfl,asc_empty,Nat.zero_le _,fun lo => absurd lo low_empty,fun _ H3 s3 => ⟨_,rfl,rfl,s2.trans s3⟩⟩
  intro b H2 z9;obtain ⟨rfl,s2⟩ := z9
  exact iteT (bad _ (s1.trans s2))
 ·have ep : Txt.partition (x ++ ⟨#[62]⟩ ++ y) ">" = (x,(">" : Str),y) := part_join (c := 62) h62
  rw [ep]
  have lx : x.length ≤ 30000 := by rw [Str.length_append,Str.length_append] at hle; omega
  have ly : y.length ≤ 30000 := by rw [Str.length_append,Str.length_append] at hle; omega
  generalize hgH1 : upd _ l _ = H1
  obtain ⟨s1,e1⟩ := fresh_of hl hgH1
  clear hgH1
  refine ⟨fun b H' => (b = false ↔ (Low x ∧ Low y)) ∧ Same H1 H',?_,?_⟩
  ·refine ⟨_,rfl,l,_,_,_,rfl,rfl,SqT.of e1,rfl,x,rfl,asc.left.left,lx,fun lo H2 s2 => ⟨_,rfl,iteF ?_⟩,fun lo H2 s2 => ⟨_,rfl,iteT ⟨⟨fun z => (by cases z),fun z => absurd z.1 lo⟩,s2⟩⟩⟩
   exact ⟨_,rfl,l,_,_,_,rfl,rfl,SqT.of (s2 _ _ e1),rfl,y,rfl,asc.right,ly,fun lo2 H3 s3 => ⟨_,rfl,⟨fun _ => ⟨lo,lo2⟩,fun _ => rfl⟩,s2.trans s3⟩,fun lo2 H3 s3 => ⟨_,rfl,⟨fun z => (by cases z),fun z => absurd z.2 lo2⟩,s2.trans s3⟩⟩
  intro b H2 z9;obtain ⟨g,s2⟩ := z9
  refine ite2 (fun c => ?_) (fun c => ?_)
  ·refine q0 (fun s e ls le ez => ?_) _ (s1.trans s2)
   have ep2 : Txt.partition (s ++ ">" ++ e) ">" = (s,(">" : Str),e) := part_join (c := 62) (low_free ls (by omega))
   rw [← ez,ep] at ep2
   injection ep2 with a b'
   injection b' with b' b''
   subst a b''
   rw [g.mpr ⟨ls,le⟩] at c
   cases c
  ·obtain ⟨lo1,lo2⟩ := g.mp (Bool.eq_false_iff.mpr c)
   refine ⟨_,rfl,l,_,_,_,rfl,rfl,SqT.of (s2 _ _ e1),rfl,_,rfl,l,_,_,_,rfl,rfl,SqT.of (s2 _ _ e1),rfl,(by show 2 ≤ sizeLine; decide),fun rr hrr => ?_⟩
   generalize hgH3 : upd _ rr _ = H3
   obtain ⟨s3,e3⟩ := fresh_of hrr hgH3
   clear hgH3
   exact q1 x y lo1 lo2 rfl rr H3 (s1.trans (s2.trans s3)) e3
noncomputable def spSpanQ : Sp := fun vs H Q _ => ∃ z : Str,vs = [.str z] ∧ Asc z ∧ z.length ≤ 30000 ∧ (∀ a b : Int,Sm a → Sm b → a ≤ b → z = spanT a b → ∀ (r : Addr) (H' : Hp),Same H H' → H' r = some (.tup [.int a,.int b]) → Q (.ref r) H') ∧ ((∀ a b : Int,Sm a → Sm b → a ≤ b → z ≠ spanT a b) → ∀ H',Same H H' → Q .non H')
theorem span_part {a b : Int} (ha : Sm a) : Txt.partition (spanT a b) "-" = if a < b then (numT a,("-" : Str),numT b) else (numT a,Str.empty,Str.empty) := by
 unfold spanT
 split
 ·exact part_join (c := 45) (num_free ha.1 (by omega))
 ·exact part_none (c := 45) (num_free ha.1 (by omega))
theorem num_inj {a b : Int} (ha : Sm a) (hb : Sm b) (h : numT a = numT b) : a = b := by
 have h1 := num_int ha
 rw [h,num_int hb] at h1
 exact (Option.some.inj h1).symm
theorem ok_spanQ (gt : Gt mg t1 t2 t3 t4) (F : Fun K "read_span" "read_span" st_read_span f fd) (C_read_number : Callee P w K mg base n "read_number" ["text","most_figures"] spNumQ) : FnOk P w K mg base CX0 (n + 1) f fd ["text"] spSpanQ := by
 refine F.okQ sc_read_span (fun vs H Q E h => ?_) (fun cdv A outer s H vs Q E hr h => ?_)
 ·obtain ⟨_,rfl,_⟩ := h
  rfl
 obtain ⟨z,rfl,asc,hle,q1,q0⟩ := h
 refine ⟨_,(qss_cons (qs_set (i := 1) sc_read_span.nd rfl (Or.inl rfl) (qe_part K rfl (qv 0) (qa_c qe_str qa_nil))) (qss_cons (qs_set (i := 2) sc_read_span.nd rfl (Or.inl rfl) (qe_fn C_read_number hr rfl (qa_c (qe_ix qix_tup (qv 1) qe_int (fun _ _ => rfl)) (qa_c (qe_gInt rfl gt.mf) qa_nil)))) (qss_cons (qs_if (qt_cmpR qop_eq (qe_ix qix_tup (qv 1) qe_int (fun _ _ => rfl)) qe_str (nomark _)) (qss_one (qs_ret (qe_ifExp (qt_isN (qv 2)) qe_non (qe_tup (qa_c (qv 2) (qa_c (qv 2) qa_nil)))))) qss_nil) (qss_cons (qs_set (i := 3) sc_read_span.nd rfl (Or.inl rfl) (qe_fn C_read_number hr rfl (qa_c (qe_ix qix_tup (qv 1) qe_int (fun _ _ => rfl)) (qa_c (qe_gInt rfl gt.mf) qa_nil)))) (qss_cons (qs_if (qt_cut (QW.pt (qw_or (qt_isN (qv 2)) (qw_or (qt_isN (qv 3)) (qw_or1 (qt_cmpR qop_ge (qv 2) (qv 3) (nomark _))))))) (qss_one (qs_ret qe_non)) qss_nil) (qss_one (qs_ret (qe_tup (qa_c (qv 2) (qa_c (qv 3) qa_nil)))))))))),?_⟩
 try dsimp only [cx_k,cx_kn,as_nil,as_name,Nat.reduceAdd]
 refine ⟨_,rfl,rfl,_,_,rfl,rfl,by decide,L.le (by omega),fun l hl => ?_⟩
 rcases cut_at 45 z with h45 | ⟨x,y,rfl,h45⟩
 ·have ep : Txt.partition z "-" = (z,Str.empty,Str.empty) := part_none h45
  rw [ep]
  generalize hgH1 : upd _ l _ = H1
  obtain ⟨s1,e1⟩ := fresh_of hl hgH1
  clear hgH1
  refine ⟨_,rfl,l,_,_,_,rfl,rfl,SqT.of e1,rfl,z,rfl,asc,hle,fun a sa ea H2 s2 => ?_,fun no H2 s2 => ?_⟩
  ·have e2 := s2 _ _ e1
   refine ⟨_,rfl,l,_,_,_,rfl,rfl,SqT.of e2,rfl,rfl,_,rfl,iteP (decide_eq_true rfl) ?_⟩
   refine ⟨_,rfl,_,rfl,iteF ⟨_,rfl,_,rfl,(by show 2 ≤ sizeLine; decide),fun rr hrr => ?_⟩⟩
   generalize hgH5 : upd _ rr _ = H5
   obtain ⟨s5,e5⟩ := fresh_of hrr hgH5
   clear hgH5
   exact q1 a a sa sa (Int.le_refl _) (by rw [ea]; exact (if_neg (by omega)).symm) rr H5 (s1.trans (s2.trans s5)) e5
  ·have e2 := s2 _ _ e1
   refine ⟨_,rfl,l,_,_,_,rfl,rfl,SqT.of e2,rfl,rfl,_,rfl,iteP (decide_eq_true rfl) ?_⟩
   refine ⟨_,rfl,_,rfl,iteT (q0 (fun a b sa sb ab ez => ?_) _ (s1.trans s2))⟩
   have := span_part (b := b) sa
   rw [← ez,ep] at this
   split at this
   ·injection this with _ h
    injection h with h
    exact absurd h (by decide)
   ·injection this with h
    exact no a sa h
 ·have ep : Txt.partition (x ++ ⟨#[45]⟩ ++ y) "-" = (x,("-" : Str),y) := part_join (c := 45) h45
  rw [ep]
  have lx : x.length ≤ 30000 := by rw [Str.length_append,Str.length_append] at hle; omega
  have ly : y.length ≤ 30000 := by rw [Str.length_append,Str.length_append] at hle; omega
  have back : ∀ a b : Int,Sm a → Sm b → a ≤ b → x ++ ⟨#[45]⟩ ++ y = spanT a b → a < b ∧ x = numT a ∧ y = numT b := fun a b sa sb ab ez => by
   have := span_part (b := b) sa
   rw [← ez,ep] at this
   split at this
   ·injection this with h h2
    injection h2 with _ h2
    exact ⟨by assumption,h,h2⟩
   ·injection this with _ h
    injection h with h
    exact absurd h (by decide)
  generalize hgH1 : upd _ l _ = H1
  obtain ⟨s1,e1⟩ := fresh_of hl hgH1
  clear hgH1
  refine ⟨_,rfl,l,_,_,_,rfl,rfl,SqT.of e1,rfl,x,rfl,asc.left.left,lx,fun a sa ea H2 s2 => ?_,fun no H2 s2 => ?_⟩
  ·have e2 := s2 _ _ e1
   refine ⟨_,rfl,l,_,_,_,rfl,rfl,SqT.of e2,rfl,rfl,_,rfl,iteN (by show ¬ decide (V.str (("-" : Str)) = V.str "") = true; decide +kernel) ?_⟩
   refine ⟨_,rfl,l,_,_,_,rfl,rfl,SqT.of e2,rfl,y,rfl,asc.right,ly,fun b sb eb H3 s3 => ?_,fun no H3 s3 => ?_⟩
   ·refine ⟨fun z H' => z = decide (b ≤ a) ∧ H' = H3,?_,?_⟩
    ·exact ⟨_,rfl,_,rfl,iteF ⟨_,rfl,_,rfl,iteF ⟨_,rfl,_,rfl,_,_,rfl,rfl,_,rfl,rfl,rfl⟩⟩⟩
    intro z H4 z9;obtain ⟨rfl,rfl⟩ := z9
    refine ite2 (fun c => ?_) (fun c => ?_)
    ·refine q0 (fun a' b' sa' sb' ab' ez => ?_) _ (s1.trans (s2.trans s3))
     obtain ⟨lt,h1,h2⟩ := back a' b' sa' sb' ab' ez
     rw [num_inj sa' sa (h1.symm.trans ea),num_inj sb' sb (h2.symm.trans eb)] at lt
     have := of_decide_eq_true c
     omega
    ·have c' : a < b := by
      have : ¬ b ≤ a := fun h => c (decide_eq_true h)
      omega
     refine ⟨_,rfl,_,rfl,(by show 2 ≤ sizeLine; decide),fun rr hrr => ?_⟩
     generalize hgH5 : upd _ rr _ = H5
     obtain ⟨s5,e5⟩ := fresh_of hrr hgH5
     clear hgH5
     exact q1 a b sa sb (by omega) (by rw [ea,eb]; exact (if_pos c').symm) rr H5 (s1.trans (s2.trans (s3.trans s5))) e5
   ·refine ⟨fun z H' => z = true ∧ H' = H3,⟨_,rfl,_,rfl,iteF ⟨_,rfl,_,rfl,iteT ⟨rfl,rfl⟩⟩⟩,?_⟩
    intro z H4 z9;obtain ⟨rfl,rfl⟩ := z9
    exact iteT (q0 (fun a' b' sa' sb' ab' ez => no b' sb' (back a' b' sa' sb' ab' ez).2.2) _ (s1.trans (s2.trans s3)))
  ·have e2 := s2 _ _ e1
   refine ⟨_,rfl,l,_,_,_,rfl,rfl,SqT.of e2,rfl,rfl,_,rfl,iteN (by show ¬ decide (V.str (("-" : Str)) = V.str "") = true; decide +kernel) ?_⟩
   have fin : ∀ H3,Same H2 H3 → Q .non H3 := fun H3 s3 => q0 (fun a' b' sa' sb' ab' ez => no a' sa' (back a' b' sa' sb' ab' ez).2.1) _ (s1.trans (s2.trans s3))
   refine ⟨_,rfl,l,_,_,_,rfl,rfl,SqT.of e2,rfl,y,rfl,asc.right,ly,fun b sb eb H3 s3 => ?_,fun no H3 s3 => ?_⟩
   ·refine ⟨fun z H' => z = true ∧ H' = H3,⟨_,rfl,_,rfl,iteT ⟨rfl,rfl⟩⟩,?_⟩
    intro z H4 z9;obtain ⟨rfl,rfl⟩ := z9
    exact iteT (fin _ s3)
   ·refine ⟨fun z H' => z = true ∧ H' = H3,⟨_,rfl,_,rfl,iteT ⟨rfl,rfl⟩⟩,?_⟩
    intro z H4 z9;obtain ⟨rfl,rfl⟩ := z9
    exact iteT (fin _ s3)
theorem span_inj {a b a' b' : Int} (sa : Sm a) (sb : Sm b) (ab : a ≤ b) (sa' : Sm a') (sb' : Sm b') (ab' : a' ≤ b') (h : spanT a b = spanT a' b') : a = a' ∧ b = b' := by
 have h1 := span_part (b := b) sa
 rw [h,span_part (b := b') sa'] at h1
 split at h1
 ·split at h1
  ·injection h1 with e1 e2
   injection e2 with _ e2
   exact ⟨(num_inj sa' sa e1).symm,(num_inj sb' sb e2).symm⟩
  ·injection h1 with _ e
   injection e with e
   exact absurd e (by decide)
 ·split at h1
  ·injection h1 with _ e
   injection e with e
   exact absurd e (by decide)
  ·injection h1 with e1
   have := num_inj sa' sa e1
   omega
noncomputable def spWinQ : Sp := fun vs H Q _ => ∃ (day : Int) (z : Str),vs = [.int day,.str z] ∧ Asc z ∧ z.length ≤ 30000 ∧ day ≤ 1000000000000000 ∧ (∀ x : T3,WinR day x → z = winT x → ∀ (r : Addr) (H' : Hp),Same H H' → H' r = some (.tup (enc3 x)) → Q (.ref r) H') ∧ ((∀ x : T3,WinR day x → z ≠ winT x) → ∀ H',Same H H' → Q .non H')
theorem win_part {x : T3} (h0 : 0 ≤ x.1) (h1 : 0 ≤ x.2.1) : Txt.partition (winT x) "+" = (spanT x.1 x.2.1,("+" : Str),numT x.2.2) := by
 rw [win_span]
 exact part_join (c := 43) (span_free (a := x.1) (b := x.2.1) h0 h1 ⟨by omega,by omega⟩)
theorem ok_winQ (gt : Gt mg t1 t2 t3 t4) (F : Fun K "read_window" "read_window" st_read_window f fd) (C_read_span : Callee P w K mg base n "read_span" ["text"] spSpanQ) (C_read_number : Callee P w K mg base n "read_number" ["text","most_figures"] spNumQ) (C_is_window : Callee P w K mg base n "is_window" ["day","thing"] spWindow) : FnOk P w K mg base CX0 (n + 1) f fd ["day","text"] spWinQ := by
 refine F.okQ sc_read_window (fun vs H Q E h => ?_) (fun cdv A outer s H vs Q E hr h => ?_)
 ·obtain ⟨_,_,rfl,_⟩ := h
  rfl
 obtain ⟨day,z,rfl,asc,hle,d2,q1,q0⟩ := h
 refine ⟨_,(qss_cons (qs_set (i := 2) sc_read_window.nd rfl (Or.inl rfl) (qe_part K rfl (qv 1) (qa_c qe_str qa_nil))) (qss_cons (qs_set (i := 3) sc_read_window.nd rfl (Or.inl rfl) (qe_fn C_read_span hr rfl (qa_c (qe_ix qix_tup (qv 2) qe_int (fun _ _ => rfl)) qa_nil))) (qss_cons (qs_set (i := 4) sc_read_window.nd rfl (Or.inl rfl) (qe_fn C_read_number hr rfl (qa_c (qe_ix qix_tup (qv 2) qe_int (fun _ _ => rfl)) (qa_c (qe_gInt rfl gt.mf) qa_nil)))) (qss_cons (qs_if (qt_cut (QW.pt (qw_or (qt_isN (qv 3)) (qw_or (qt_isN (qv 4)) (qw_or1 (qt_not (qt_chain qop_le qop_le qe_int (qv 4) (qe_gInt rfl gt.mo)))))))) (qss_one (qs_ret qe_non)) qss_nil) (qss_cons (qs_set (i := 5) sc_read_window.nd rfl (Or.inl rfl) (qe_tup (qa_c (qe_ix qix_tup (qv 3) qe_int (fun _ _ => rfl)) (qa_c (qe_ix qix_tup (qv 3) qe_int (fun _ _ => rfl)) (qa_c (qv 4) qa_nil))))) (qss_one (qs_ret (qe_ifExp (qt_val (qe_fn C_is_window hr rfl (qa_c (qv 0) (qa_c (qv 5) qa_nil)))) (qv 5) qe_non)))))))),?_⟩
 try dsimp only [cx_k,cx_kn,as_nil,as_name,Nat.reduceAdd]
 refine ⟨_,rfl,rfl,_,_,rfl,rfl,by decide,L.le (by omega),fun l hl => ?_⟩
 rcases cut_at 43 z with h43 | ⟨x,y,rfl,h43⟩
 ·have ep : Txt.partition z "+" = (z,Str.empty,Str.empty) := part_none h43
  rw [ep]
  generalize hgH1 : upd _ l _ = H1
  obtain ⟨s1,e1⟩ := fresh_of hl hgH1
  clear hgH1
  have bad := q0 (fun x _ ez => h43 (by rw [ez,win_span]; exact one_mem))
  refine ⟨_,rfl,l,_,_,_,rfl,rfl,SqT.of e1,rfl,z,rfl,asc,hle,fun a b sa sb ab ez r2 H2 s2 e2 => ?_,fun no H2 s2 => ?_⟩
  ·refine ⟨_,rfl,l,_,_,_,rfl,rfl,SqT.of (s2 _ _ e1),rfl,_,rfl,asc_empty,Nat.zero_le _,fun m sm em => absurd em (num_empty sm),fun _ H3 s3 => ?_⟩
   refine ⟨fun z H' => z = true ∧ H' = H3,⟨_,rfl,_,rfl,iteF ⟨_,rfl,_,rfl,iteT ⟨rfl,rfl⟩⟩⟩,?_⟩
   intro z H4 z9;obtain ⟨rfl,rfl⟩ := z9
   exact iteT (bad _ (s1.trans (s2.trans s3)))
  ·refine ⟨_,rfl,l,_,_,_,rfl,rfl,SqT.of (s2 _ _ e1),rfl,_,rfl,asc_empty,Nat.zero_le _,fun m sm em => absurd em (num_empty sm),fun _ H3 s3 => ?_⟩
   refine ⟨fun z H' => z = true ∧ H' = H3,⟨_,rfl,_,rfl,iteT ⟨rfl,rfl⟩⟩,?_⟩
   intro z H4 z9;obtain ⟨rfl,rfl⟩ := z9
   exact iteT (bad _ (s1.trans (s2.trans s3)))
 ·have ep : Txt.partition (x ++ ⟨#[43]⟩ ++ y) "+" = (x,("+" : Str),y) := part_join (c := 43) h43
  rw [ep]
  have lx : x.length ≤ 30000 := by rw [Str.length_append,Str.length_append] at hle; omega
  have ly : y.length ≤ 30000 := by rw [Str.length_append,Str.length_append] at hle; omega
  have back : ∀ v : T3,WinR day v → x ++ ⟨#[43]⟩ ++ y = winT v → x = spanT v.1 v.2.1 ∧ y = numT v.2.2 := fun v wv ez => by
   have := win_part (x := v) wv.1 (by have := wv.1; have := wv.2.1; omega)
   rw [← ez,ep] at this
   injection this with h h2
   injection h2 with _ h2
   exact ⟨h,h2⟩
  have smw : ∀ v : T3,WinR day v → Sm v.1 ∧ Sm v.2.1 ∧ Sm v.2.2 := fun v ⟨a,b,c,d,e⟩ => ⟨⟨by omega,by omega⟩,⟨by omega,by omega⟩,⟨by omega,by omega⟩⟩
  generalize hgH1 : upd _ l _ = H1
  obtain ⟨s1,e1⟩ := fresh_of hl hgH1
  clear hgH1
  refine ⟨_,rfl,l,_,_,_,rfl,rfl,SqT.of e1,rfl,x,rfl,asc.left.left,lx,fun a b sa sb ab ea r2 H2 s2 e2 => ?_,fun no H2 s2 => ?_⟩
  ·refine ⟨_,rfl,l,_,_,_,rfl,rfl,SqT.of (s2 _ _ e1),rfl,y,rfl,asc.right,ly,fun c sc ec H3 s3 => ?_,fun no H3 s3 => ?_⟩
   ·have e3 := s3 _ _ e2
    have uni : ∀ v : T3,WinR day v → x ++ ⟨#[43]⟩ ++ y = winT v → v = (a,b,c) := fun v wv ez => by
     obtain ⟨h1,h2⟩ := back v wv ez
     obtain ⟨k1,k2,k3⟩ := smw v wv
     obtain ⟨i1,i2⟩ := span_inj sa sb ab k1 k2 wv.2.1 (ea.symm.trans h1)
     have i3 := num_inj sc k3 (ec.symm.trans h2)
     rw [i1,i2,i3]
    refine ⟨fun z H' => (z = false ↔ (1 ≤ c ∧ c ≤ 1000000000000000)) ∧ H' = H3,?_,?_⟩
    ·refine ⟨_,rfl,_,rfl,iteF ⟨_,rfl,_,rfl,iteF ⟨_,rfl,_,_,rfl,rfl,_,rfl,ite2 (fun c1 => ?_) (fun c1 => ?_)⟩⟩⟩
     ·have c1' := of_decide_eq_true c1
      refine ⟨_,_,rfl,rfl,_,rfl,?_,rfl⟩
      simp [c1']
     ·refine ⟨_,rfl,?_,rfl⟩
      have c1' : ¬ 1 ≤ c := fun z => c1 (decide_eq_true z)
      simp
      omega
    intro z H4 z9;obtain ⟨g,rfl⟩ := z9
    refine ite2 (fun cz => ?_) (fun cz => ?_)
    ·refine q0 (fun v wv ez => ?_) _ (s1.trans (s2.trans s3))
     have := uni v wv ez
     subst this
     rw [g.mpr ⟨wv.2.2.2.1,wv.2.2.2.2⟩] at cz
     cases cz
    ·obtain ⟨c1,c2⟩ := g.mp (Bool.eq_false_iff.mpr cz)
     refine ⟨_,rfl,r2,_,_,_,rfl,rfl,SqT.of e3,rfl,_,rfl,r2,_,_,_,rfl,rfl,SqT.of e3,rfl,_,rfl,(by show 3 ≤ sizeLine; decide),fun rr hrr => ?_⟩
     generalize hgH5 : upd _ rr _ = H5
     obtain ⟨s5,e5⟩ := fresh_of hrr hgH5
     clear hgH5
     have wv : winV H5 day (.ref rr) = decide (b < day) := by
      have : tupV H5 (.ref rr) = some [V.int a,V.int b,V.int c] := by simp [tupV,e5]
      unfold winV
      rw [this]
      have a0 := sa.1
      simp [winL,isWh,a0,ab]
      omega
     refine ⟨_,rfl,_,rfl,day,.ref rr,rfl,dv2_three e5,fun H6 s6 => ?_⟩
     rw [wv]
     refine ⟨_,rfl,ite2 (fun cd => ?_) (fun cd => ?_)⟩
     ·have cd' := of_decide_eq_true cd
      exact ⟨_,rfl,q1 (a,b,c) ⟨sa.1,ab,cd',c1,c2⟩ (by rw [win_span,← ea,← ec]; rfl) rr H6 (s1.trans (s2.trans (s3.trans (s5.trans s6)))) (s6 _ _ e5)⟩
     ·refine q0 (fun v wv ez => ?_) _ (s1.trans (s2.trans (s3.trans (s5.trans s6))))
      have := uni v wv ez
      subst this
      exact cd (decide_eq_true wv.2.2.1)
   ·refine ⟨fun z H' => z = true ∧ H' = H3,⟨_,rfl,_,rfl,iteF ⟨_,rfl,_,rfl,iteT ⟨rfl,rfl⟩⟩⟩,?_⟩
    intro z H4 z9;obtain ⟨rfl,rfl⟩ := z9
    exact iteT (q0 (fun v wv ez => no _ (smw v wv).2.2 (back v wv ez).2) _ (s1.trans (s2.trans s3)))
  ·have fin : ∀ H3,Same H2 H3 → Q .non H3 := fun H3 s3 => q0 (fun v wv ez => no _ _ (smw v wv).1 (smw v wv).2.1 wv.2.1 (back v wv ez).1) _ (s1.trans (s2.trans s3))
   refine ⟨_,rfl,l,_,_,_,rfl,rfl,SqT.of (s2 _ _ e1),rfl,y,rfl,asc.right,ly,fun c sc ec H3 s3 => ?_,fun no H3 s3 => ?_⟩
   ·refine ⟨fun z H' => z = true ∧ H' = H3,⟨_,rfl,_,rfl,iteT ⟨rfl,rfl⟩⟩,?_⟩
    intro z H4 z9;obtain ⟨rfl,rfl⟩ := z9
    exact iteT (fin _ s3)
   ·refine ⟨fun z H' => z = true ∧ H' = H3,⟨_,rfl,_,rfl,iteT ⟨rfl,rfl⟩⟩,?_⟩
    intro z H4 z9;obtain ⟨rfl,rfl⟩ := z9
    exact iteT (fin _ s3)
noncomputable def spDayQ : Sp := fun vs H Q _ => ∃ z : Str,vs = [.str z] ∧ Asc z ∧ z.length ≤ 30000 ∧ (∀ d : Int,1 ≤ d → d ≤ 1000000000000000 → z = "day " ++ numT d → ∀ H',Same H H' → Q (.int d) H') ∧ ((∀ d : Int,1 ≤ d → d ≤ 1000000000000000 → z ≠ "day " ++ numT d) → ∀ H',Same H H' → Q .non H')
theorem day_sp : ("day " : Str) = ("day" : Str) ++ ⟨#[32]⟩ := by decide +kernel
theorem ok_dayQ (gt : Gt mg t1 t2 t3 t4) (F : Fun K "read_day" "read_day" st_read_day f fd) (C_read_number : Callee P w K mg base n "read_number" ["text","most_figures"] spNumQ) : FnOk P w K mg base CX0 (n + 1) f fd ["text"] spDayQ := by
 refine F.okQ sc_read_day (fun vs H Q E h => ?_) (fun cdv A outer s H vs Q E hr h => ?_)
 ·obtain ⟨_,rfl,_⟩ := h
  rfl
 obtain ⟨z,rfl,asc,hle,q1,q0⟩ := h
 refine ⟨_,(qss_cons (qs_set (i := 1) sc_read_day.nd rfl (Or.inl rfl) (qe_part K rfl (qv 0) (qa_c qe_str qa_nil))) (qss_cons (qs_set (i := 2) sc_read_day.nd rfl (Or.inl rfl) (qe_fn C_read_number hr rfl (qa_c (qe_ix qix_tup (qv 1) qe_int (fun _ _ => rfl)) (qa_c (qe_gInt rfl gt.mf) qa_nil)))) (qss_cons (qs_if (qt_cut (QW.pt (qw_or (qt_cmpR qop_ne (qe_ix qix_tup (qv 1) qe_int (fun _ _ => rfl)) qe_str (nomark _)) (qw_or (qt_isN (qv 2)) (qw_or1 (qt_not (qt_chain qop_le qop_le qe_int (qv 2) (qe_gInt rfl gt.mo)))))))) (qss_one (qs_ret qe_non)) qss_nil) (qss_one (qs_ret (qv 2)))))),?_⟩
 try dsimp only [cx_k,cx_kn,as_nil,as_name,Nat.reduceAdd]
 refine ⟨_,rfl,rfl,_,_,rfl,rfl,by decide,L.le (by omega),fun l hl => ?_⟩
 rcases cut_at 32 z with h32 | ⟨x,y,rfl,h32⟩
 ·have ep : Txt.partition z " " = (z,Str.empty,Str.empty) := part_none h32
  rw [ep]
  generalize hgH1 : upd _ l _ = H1
  obtain ⟨s1,e1⟩ := fresh_of hl hgH1
  clear hgH1
  have bad := q0 (fun d _ _ ez => h32 (by rw [ez,day_sp]; exact one_mem))
  refine ⟨_,rfl,l,_,_,_,rfl,rfl,SqT.of e1,rfl,_,rfl,asc_empty,Nat.zero_le _,fun m sm em => absurd em (num_empty sm),fun _ H2 s2 => ?_⟩
  refine ⟨fun z H' => z = true ∧ H' = H2,?_,?_⟩
  ·refine ⟨_,rfl,l,_,_,_,rfl,rfl,SqT.of (s2 _ _ e1),rfl,rfl,_,rfl,ite2 (fun c => ⟨rfl,rfl⟩) (fun c => ?_)⟩
   exact ⟨_,rfl,_,rfl,iteT ⟨rfl,rfl⟩⟩
  intro z H4 z9;obtain ⟨rfl,rfl⟩ := z9
  exact iteT (bad _ (s1.trans s2))
 ·have ep : Txt.partition (x ++ ⟨#[32]⟩ ++ y) " " = (x,(" " : Str),y) := part_join (c := 32) h32
  rw [ep]
  have ly : y.length ≤ 30000 := by rw [Str.length_append,Str.length_append] at hle; omega
  have back : ∀ d : Int,x ++ ⟨#[32]⟩ ++ y = "day " ++ numT d → x = "day" ∧ y = numT d := fun d ez => by
   have e2 : Txt.partition ("day" ++ ⟨#[32]⟩ ++ numT d) " " = (("day" : Str),(" " : Str),numT d) := part_join (c := 32) (by decide +kernel)
   rw [← day_sp,← ez,ep] at e2
   injection e2 with h h2
   injection h2 with _ h2
   exact ⟨h,h2⟩
  generalize hgH1 : upd _ l _ = H1
  obtain ⟨s1,e1⟩ := fresh_of hl hgH1
  clear hgH1
  refine ⟨_,rfl,l,_,_,_,rfl,rfl,SqT.of e1,rfl,y,rfl,asc.right,ly,fun d sd ed H2 s2 => ?_,fun no H2 s2 => ?_⟩
  ·refine ⟨fun z H' => (z = false ↔ (x = "day" ∧ 1 ≤ d ∧ d ≤ 1000000000000000)) ∧ H' = H2,?_,?_⟩
   ·refine ⟨_,rfl,l,_,_,_,rfl,rfl,SqT.of (s2 _ _ e1),rfl,rfl,_,rfl,ite2 (fun c => ?_) (fun c => ?_)⟩
    ·have c' : x ≠ "day" := by simpa using c
     exact ⟨⟨fun z => (by cases z),fun z => absurd z.1 c'⟩,rfl⟩
    ·have c' : x = "day" := by simpa using c
     refine ⟨_,rfl,_,rfl,iteF ⟨_,rfl,_,_,rfl,rfl,_,rfl,ite2 (fun c1 => ?_) (fun c1 => ?_)⟩⟩
     ·have c1' := of_decide_eq_true c1
      refine ⟨_,_,rfl,rfl,_,rfl,?_,rfl⟩
      simp [c1',c']
     ·refine ⟨_,rfl,?_,rfl⟩
      have c1' : ¬ 1 ≤ d := fun z => c1 (decide_eq_true z)
      simp [c']
      omega
   intro z H4 z9;obtain ⟨g,rfl⟩ := z9
   refine ite2 (fun cz => ?_) (fun cz => ?_)
   ·refine q0 (fun v v1 v2 ez => ?_) _ (s1.trans s2)
    obtain ⟨h1,h2⟩ := back v ez
    have := num_inj ⟨by omega,by omega⟩ sd (h2.symm.trans ed)
    subst this
    rw [g.mpr ⟨h1,v1,v2⟩] at cz
    cases cz
   ·obtain ⟨h1,h2,h3⟩ := g.mp (Bool.eq_false_iff.mpr cz)
    exact ⟨_,rfl,q1 d h2 h3 (by rw [h1,ed,day_sp]) H4 (s1.trans s2)⟩
  ·refine ⟨fun z H' => z = true ∧ H' = H2,?_,?_⟩
   ·refine ⟨_,rfl,l,_,_,_,rfl,rfl,SqT.of (s2 _ _ e1),rfl,rfl,_,rfl,ite2 (fun c => ⟨rfl,rfl⟩) (fun c => ?_)⟩
    exact ⟨_,rfl,_,rfl,iteT ⟨rfl,rfl⟩⟩
   intro z H4 z9;obtain ⟨rfl,rfl⟩ := z9
   exact iteT (q0 (fun v v1 v2 ez => no v ⟨by omega,by omega⟩ (back v ez).2) _ (s1.trans s2))
theorem win_inj {day : Int} {x y : T3} (d2 : day ≤ 1000000000000000) (wx : WinR day x) (wy : WinR day y) (h : winT x = winT y) : x = y := by
 obtain ⟨a,b,c⟩ := x
 obtain ⟨a',b',c'⟩ := y
 obtain ⟨a0,a1,a2,a3,a4⟩ := wx
 obtain ⟨b0,b1,b2,b3,b4⟩ := wy
 dsimp only at *
 have h1 := win_part (x := (a,b,c)) a0 (by dsimp only; omega)
 rw [h,win_part (x := (a',b',c')) b0 (by dsimp only; omega)] at h1
 injection h1 with e1 e2
 injection e2 with _ e2
 obtain ⟨i1,i2⟩ := span_inj (a := a') (b := b') (a' := a) (b' := b) ⟨by omega,by omega⟩ ⟨by omega,by omega⟩ b1 ⟨by omega,by omega⟩ ⟨by omega,by omega⟩ a1 e1
 have i3 := num_inj (a := c') (b := c) ⟨by omega,by omega⟩ ⟨by omega,by omega⟩ e2
 rw [i1,i2,i3]
theorem rows_of (day : Int) : ∀ zs : List Str,(∃ R : List T3,(∀ x ∈ R,WinR day x) ∧ zs = R.map winT) ∨ ∃ z ∈ zs,∀ x : T3,WinR day x → z ≠ winT x
 | [] => .inl ⟨[],by simp,rfl⟩
 | z :: zs => by
  by_cases h : ∃ x : T3,WinR day x ∧ z = winT x
  ·obtain ⟨x,wx,rfl⟩ := h
   rcases rows_of day zs with ⟨R,hR,rfl⟩ | ⟨y,hy,no⟩
   ·exact .inl ⟨x :: R,fun v hv => by
     rcases List.mem_cons.mp hv with rfl | hv
     ·exact wx
     ·exact hR v hv,rfl⟩
   ·exact .inr ⟨y,List.mem_cons_of_mem _ hy,no⟩
  ·exact .inr ⟨z,List.mem_cons_self ..,fun x wx e => h ⟨x,wx,e⟩⟩
noncomputable def spBoardQ (K : PySem.W.Frag) : Sp := fun vs H Q _ => ∃ (day : Int) (p : Addr) (zs : List Str),vs = [.int day,.ref p] ∧ H p = some (.lst (zs.map V.str)) ∧ (∀ z ∈ zs,Asc z ∧ z.length ≤ 30000) ∧ zs.length ≤ 30000 ∧ day ≤ 1000000000000000 ∧ (∀ R : List T3,(∀ x ∈ R,WinR day x) → zs = R.map winT → ∀ (l : Addr) (H' : Hp),Same H H' → H l = none → LA enc3 H' l R → Q (.ref l) H') ∧ ((∀ R : List T3,(∀ x ∈ R,WinR day x) → zs ≠ R.map winT) → ∀ H',Same H H' → Q .non H')
theorem ok_boardQ (F : Fun K "read_board" "read_board" st_read_board f fd) (B : Bl mg) (C_read_window : Callee P w K mg base n "read_window" ["day","text"] spWinQ) : FnOk P w K mg base CX0 (n + 1) f fd ["day","words"] (spBoardQ K) := by
 refine F.okQ sc_read_board (fun vs H Q E h => ?_) (fun cdv A outer s H vs Q E hr h => ?_)
 ·obtain ⟨_,_,_,rfl,_⟩ := h
  rfl
 obtain ⟨day,p,zs,rfl,hp,asc,hle,d2,q1,q0⟩ := h
 have hz := L.le (n := 30001) (by omega)
 refine ⟨_,(qss_cons (qs_setComp (i := 2) ["word","day"] [none,some 0] sc_read_board.nd rfl (Or.inl rfl) (BlkOk.of rfl rfl (SubL.to (subC rfl subN)) rfl) rfl (qi_list (qv 1)) (fun _ _ _ _ => (qg_name (i := 0) (show (["word","day"] : List Str).Nodup by decide) rfl (Or.inl rfl))) (fun _ _ _ _ => (qe_fn C_read_window hr rfl (qa_c (qv 1) (qa_c (qv 0) qa_nil))))) (qss_one (qs_ret (qe_ifExp (qt_val (qe_cb (qcall_any rfl) rfl B.any bt_any (qa_c (qe_comp ["window"] [none] (BlkOk.of rfl rfl (SubL.to subN) rfl) rfl (qi_list (qv 2)) (fun _ _ _ _ => (qg_name (i := 0) (show (["window"] : List Str).Nodup by decide) rfl (Or.inl rfl))) (fun _ _ _ _ => (qe_isN (qv 0)))) qa_nil))) qe_non (qv 2))))),?_⟩
 try dsimp only [cx_k,cx_kn,as_nil,as_name,Nat.reduceAdd]
 refine ⟨_,rfl,p,rfl,⟨_,SqL.of hp⟩,?_⟩
 rcases rows_of day zs with ⟨R,hW,rfl⟩ | ⟨zb,hzb,no⟩
 ·rw [List.length_map] at hle
  refine comp_list0 (K := K) (a := p) (xs := (R.map winT).map V.str) (fun D i H' => Same H H' ∧ LA enc3 H' D (R.take i)) (fun D hD => ⟨same_new hD _,LA.nil upd_same⟩) (fun D i H' _ _ h => SqL.of (h.1 _ _ hp)) ?_ ?_
  ·intro D i y H' hD hi z9;obtain ⟨sD,hL⟩ := z9
   rw [List.getElem?_map,List.getElem?_map] at hi
   cases hx : R[i]? with
   | none => rw [hx] at hi; cases hi
   | some x =>
    rw [hx] at hi
    cases hi
    have li := (List.getElem?_eq_some_iff.mp hx).1
    have wx := hW x (List.mem_of_getElem? hx)
    obtain ⟨a1,a2⟩ := asc _ (List.mem_map.mpr ⟨x,List.mem_of_getElem? hx,rfl⟩)
    refine ⟨fun k v e => ?_,?_⟩
    ·match k,e with
     | 0,e => cases e
     | 1,e => exact e
     | k + 2,e => cases e
    refine ⟨_,rfl,_,rfl,day,winT x,rfl,a1,a2,d2,fun x' wx' ex' r H2 s2 e2 => ?_,fun no => absurd rfl (no x wx)⟩
    have hL2 := hL.same s2
    obtain ⟨ys,y1,yl,_⟩ := hL2.lst
    refine ⟨ys,y1,by rw [yl,List.length_take]; omega,same_wr hD (sD.trans s2),?_⟩
    have ex : x' = x := win_inj d2 wx' wx ex'.symm
    subst ex
    have e : R.take (i + 1) = R.take i ++ [x'] := by rw [List.take_add_one,hx]; rfl
    rw [e]
    exact hL2.append y1 e2
  ·intro D H1 hD z9;obtain ⟨s1,hL⟩ := z9
   rw [List.length_map,List.length_map,List.take_length] at hL
   obtain ⟨us,u1,u2,u3⟩ := hL.lst
   refine ⟨_,rfl,D,rfl,⟨_,SqL.of u1⟩,?_⟩
   refine comp_list0 (K := K) (a := D) (xs := us) (fun D' i H' => Same H1 H' ∧ H' D' = some (.lst ((List.replicate i false).map V.bl))) (fun D' hD' => ⟨same_new hD' _,upd_same⟩) (fun D' i H' _ _ h => SqL.of (h.1 _ _ u1)) ?_ ?_
   ·intro D' i y H' hD' hi z9;obtain ⟨sD,eD⟩ := z9
    obtain ⟨r,x,rfl,_,_⟩ := u3 i y hi
    have li := (List.getElem?_eq_some_iff.mp hi).1
    refine ⟨fun k v e => ?_,?_⟩
    ·match k,e with
     | 0,e => cases e
     | k + 1,e => cases e
    refine ⟨_,rfl,_,eD,by rw [List.length_map,List.length_replicate]; omega,same_wr hD' sD,?_⟩
    rw [upd_same,List.replicate_succ',List.map_append]
    rfl
   ·intro D' H2 hD' z9;obtain ⟨s2,e2⟩ := z9
    refine ⟨D',_,rfl,SqL.of e2,_,rfl,?_⟩
    have : (List.replicate us.length false).any id = false := by
     rw [Bool.eq_false_iff]
     intro z
     obtain ⟨x,hx,e⟩ := List.any_eq_true.mp z
     rw [List.eq_of_mem_replicate hx] at e
     cases e
    rw [this]
    exact iteF ⟨_,rfl,q1 R hW rfl D H2 (s1.trans s2) hD (hL.same s2)⟩
 ·have bad := q0 (fun R hR e => by
   rw [e] at hzb
   obtain ⟨x,hx,ez⟩ := List.mem_map.mp hzb
   exact no x (hR x hx) ez.symm)
  obtain ⟨jb,hjb⟩ := List.getElem?_of_mem hzb
  refine comp_list0 (K := K) (a := p) (xs := zs.map V.str) (fun D i H' => Same H H' ∧ ∃ us : List V,H' D = some (.lst us) ∧ us.length = i ∧ (∀ u ∈ us,u = .non ∨ ∃ r,u = .ref r) ∧ (jb < i → V.non ∈ us)) (fun D hD => ⟨same_new hD _,[],upd_same,rfl,by simp,fun h => absurd h (Nat.not_lt_zero _)⟩) (fun D i H' _ _ h => SqL.of (h.1 _ _ hp)) ?_ ?_
  ·intro D i y H' hD hi z9;obtain ⟨sD,us,eD,lus,al,hb⟩ := z9
   rw [List.getElem?_map] at hi
   cases hx : zs[i]? with
   | none => rw [hx] at hi; cases hi
   | some x =>
    rw [hx] at hi
    cases hi
    have li := (List.getElem?_eq_some_iff.mp hx).1
    obtain ⟨a1,a2⟩ := asc _ (List.mem_of_getElem? hx)
    refine ⟨fun k v e => ?_,?_⟩
    ·match k,e with
     | 0,e => cases e
     | 1,e => exact e
     | k + 2,e => cases e
    refine ⟨_,rfl,_,rfl,day,x,rfl,a1,a2,d2,fun x' wx' ex' r H2 s2 e2 => ?_,fun no' H2 s2 => ?_⟩
    ·refine ⟨us,s2 _ _ eD,by omega,same_wr hD (sD.trans s2),us ++ [.ref r],upd_same,by simp [lus],fun u hu => ?_,fun hj => ?_⟩
     ·rcases List.mem_append.mp hu with z | z
      ·exact al u z
      ·exact .inr ⟨r,by simpa using z⟩
     ·by_cases e : jb = i
      ·subst e
       rw [hx] at hjb
       cases hjb
       exact absurd ex' (no x' wx')
      ·exact List.mem_append_left _ (hb (by omega))
    ·refine ⟨us,s2 _ _ eD,by omega,same_wr hD (sD.trans s2),us ++ [.non],upd_same,by simp [lus],fun u hu => ?_,fun hj => by simp⟩
     rcases List.mem_append.mp hu with z | z
     ·exact al u z
     ·exact .inl (by simpa using z)
  ·intro D H1 hD z9;obtain ⟨s1,us,u1,u2,u3,u4⟩ := z9
   rw [List.length_map] at u2 u4
   have u4 := u4 (List.getElem?_eq_some_iff.mp hjb).1
   refine ⟨_,rfl,D,rfl,⟨_,SqL.of u1⟩,?_⟩
   refine comp_list0 (K := K) (a := D) (xs := us) (fun D' i H' => Same H1 H' ∧ H' D' = some (.lst (((us.take i).map fun u => decide (u = V.non)).map V.bl))) (fun D' hD' => ⟨same_new hD' _,upd_same⟩) (fun D' i H' _ _ h => SqL.of (h.1 _ _ u1)) ?_ ?_
   ·intro D' i y H' hD' hi z9;obtain ⟨sD,eD⟩ := z9
    have li := (List.getElem?_eq_some_iff.mp hi).1
    refine ⟨fun k v e => ?_,?_⟩
    ·match k,e with
     | 0,e => cases e
     | k + 1,e => cases e
    refine ⟨_,rfl,_,eD,by rw [List.length_map,List.length_map,List.length_take]; omega,same_wr hD' sD,?_⟩
    rw [upd_same,List.take_add_one,hi,List.map_append,List.map_append]
    rcases u3 y (List.mem_of_getElem? hi) with rfl | ⟨r,rfl⟩ <;> simp
   ·intro D' H2 hD' z9;obtain ⟨s2,e2⟩ := z9
    rw [List.take_length] at e2
    refine ⟨D',_,rfl,SqL.of e2,_,rfl,?_⟩
    have : (us.map fun u => decide (u = V.non)).any id = true := List.any_eq_true.mpr ⟨true,List.mem_map.mpr ⟨.non,u4,by simp⟩,rfl⟩
    rw [this]
    exact iteT (bad _ (s1.trans s2))
end
noncomputable def rdT (q : RoadS) : Str := roadT q.1 q.2.1 q.2.2
theorem sh_join {x : Str} {d : Int} {L : List RoadS} : x.cps.toList = netL d L ↔ x = Str.join "; " (("day " ++ numT d) :: L.map rdT) := by
 have e4 : (("day " : Str)).cps.toList = [100,97,121,32] := by decide +kernel
 have e2 : (("; " : Str)).cps.toList = [59,32] := by decide +kernel
 have e : (Str.join "; " (("day " ++ numT d) :: L.map rdT)).cps.toList = netL d L := by
  rw [join_cps,cps_app,e4]
  unfold netL rsL
  congr 1
  rw [List.flatMap_map]
  congr 1
  funext q
  rw [e2,show (rdT q).cps.toList = rdL q from rdL_eq q]
  rfl
 exact ⟨fun h => cps_inj (h.trans e.symm),fun h => by rw [h,e]⟩
theorem sh_split {x : Str} {d : Int} {L : List RoadS} (h : ShL x.cps.toList d L) : Txt.split x "; " = ("day " ++ numT d) :: L.map rdT := by
 rw [sh_join.mp h.eq]
 refine split_join (c := 59) (cs := [32]) (by decide +kernel) (by simp) (by decide +kernel) (by simp) fun p hp => ?_
 rcases List.mem_cons.mp hp with rfl | hp
 ·intro z
  rw [app_mem] at z
  rcases z with z | z
  ·exact absurd z (by decide +kernel)
  ·exact num_free (by have := h.d1; omega) (by omega) z
 ·obtain ⟨q,hq,rfl⟩ := List.mem_map.mp hp
  obtain ⟨a,b,c⟩ := h.rd q hq
  exact road_free a b c
theorem join_mem {sep : Str} : ∀ {ts : List Str} {p : Str},p ∈ ts → (∀ c ∈ p.cps.toList,c ∈ (Str.join sep ts).cps.toList) ∧ p.length ≤ (Str.join sep ts).length
 | [],p,h => by cases h
 | x :: r,p,h => by
  have e := join_cps sep x r
  have el : (Str.join sep (x :: r)).length = (Str.join sep (x :: r)).cps.toList.length := by simp [Str.length]
  have ep : p.length = p.cps.toList.length := by simp [Str.length]
  rw [el,ep,e]
  rcases List.mem_cons.mp h with rfl | h
  ·exact ⟨fun c hc => List.mem_append_left _ hc,by rw [List.length_append]; omega⟩
  ·refine ⟨fun c hc => List.mem_append_right _ (List.mem_flatMap.mpr ⟨p,h,List.mem_append_right _ hc⟩),?_⟩
   obtain ⟨r1,r2,rfl⟩ := List.append_of_mem h
   rw [List.flatMap_append,List.flatMap_cons]
   simp only [List.length_append]
   omega
theorem join_many {sep : Str} (hs : 1 ≤ sep.length) : ∀ {ts : List Str},ts.length ≤ (Str.join sep ts).length + 1
 | [] => by simp
 | x :: r => by
  have e := join_cps sep x r
  have el : (Str.join sep (x :: r)).length = (Str.join sep (x :: r)).cps.toList.length := by simp [Str.length]
  have es : sep.length = sep.cps.toList.length := by simp [Str.length]
  rw [el,e,List.length_append,List.length_cons]
  have : r.length ≤ (r.flatMap fun p => sep.cps.toList ++ p.cps.toList).length := by
   clear e el
   induction r with
   | nil => simp
   | cons y r ih =>
    rw [List.flatMap_cons,List.length_append,List.length_append,List.length_cons]
    omega
  omega
theorem split_few {x sep : Str} (hs : 1 ≤ sep.length) : (Txt.split x sep).length ≤ x.length + 1 := by
 have := join_many hs (ts := Txt.split x sep)
 rwa [StrLaws.join_split] at this
theorem split_in {x sep p : Str} (hp : p ∈ Txt.split x sep) (h : Asc x) : Asc p ∧ p.length ≤ x.length := by
 obtain ⟨a,b⟩ := join_mem (sep := sep) hp
 rw [StrLaws.join_split] at a b
 exact ⟨fun c hc => h c (a c hc),b⟩
theorem parts_few2 {x sep : Str} (h : x.length ≤ 1000000) : (Builtin.Str.partsBetween x (Builtin.Str.occurrences x sep 0 x.length (x.length + 1)) sep.length).length ≤ sizeLine := by
 rw [length_partsBetween]
 have := StrLaws.occ_length_le x sep 0 x.length (x.length + 1)
 exact L.le (by omega)
theorem NA.wr {H : Hp} {p x : Addr} {N : List RdT} {zs ys : List V} (h : NA H p N) (e : H x = some (.lst zs)) (ne : p ≠ x) (nb : ∀ m ∈ N,m.2.2.1 ≠ x) : NA (upd H x (.lst ys)) p N := ⟨la_clear h.la e ne,fun m hm => ⟨la_clear (h.bd m hm).1 e (nb m hm),(h.bd m hm).2⟩,h.nd⟩
noncomputable def XCl (K : PySem.W.Frag) (mg : Str → Option Value) (x : Str) (C : Addr) (bm : List Value) : Prop := ExC K C bm ∧ mg x = some (.ref C)
noncomputable def NoStr (K : PySem.W.Frag) (H : Hp) (z : V) : Prop := ∃ t,TyOf K H z t ∧ PySem.W.kitOne K t (.type "str") = some false
noncomputable def spNetQ (K : PySem.W.Frag) (CT : Addr) : Sp := fun vs H Q E => ∃ z : V,vs = [z] ∧ ((NoStr K H z ∧ E (.ref CT) none H) ∨ ∃ x : Str,z = .str x ∧ Asc x ∧ x.length ≤ 30000 ∧
 (∀ (d : Int) (L : List RoadS) (r pn pr : Addr) (M : List RdT) (H' : Hp),ShL x.cps.toList d L → Same H H' → H' r = some (.tup [.int d,.ref pn,.ref pr]) → H' pn = some (.lst ((rdAll L).1.map V.str)) → NA H' pr M → M.map strip = (rdAll L).2 → Q (.ref r) H') ∧
 ((∀ d L,¬ ShL x.cps.toList d L) → ∀ H',Same H H' → E (.ref CT) none H'))
section
variable {P : Program} {w : World} {K : PySem.W.Frag} {mg : Str → Option Value} {base : Heap} {f : Addr} {fd : FuncData} {n : Nat} {CT : Addr} {bm : List Value}
theorem ok_readQ (X_NoText : XCl K mg "NoText" CT bm) (F : Fun K "read_net" "read_net" st_read_net f fd) (B : Bl mg) (C_read_day : Callee P w K mg base n "read_day" ["text"] spDayQ) (C_read_ends : Callee P w K mg base n "read_ends" ["text"] spEndsQ) (C_read_board : Callee P w K mg base n "read_board" ["day","words"] (spBoardQ K)) (C_number_of : Callee P w K mg base n "number_of" ["names","name"] (spNumOf K)) : FnOk P w K mg base (CXE P w) (n + 1) f fd ["text"] (spNetQ K CT) := by
 refine F.okX sc_read_net (fun vs H Q E h => ?_) (fun cdv A outer s H vs Q E hr h => ?_)
 ·obtain ⟨_,rfl,_⟩ := h
  rfl
 obtain ⟨v,rfl,h⟩ := h
 refine ⟨_,(qss_cons (qs_if (qt_not (qt_val (qe_cb qcall_isi rfl B.isinstance bt_isinstance (qa_c (qv 0) (qa_c (qe_bltn (v := .ty "str") rfl B.str_ bt_str rfl) qa_nil))))) (qss_one (qs_raise makeE X_NoText.1 rfl X_NoText.2 (qa_c qe_str qa_nil))) qss_nil) (qss_cons (qs_set (i := 1) sc_read_net.nd rfl (Or.inl rfl) (qe_split K rfl (qv 0) (qa_c qe_str qa_nil))) (qss_cons (qs_set (i := 2) sc_read_net.nd rfl (Or.inl rfl) (qe_fn C_read_day hr rfl (qa_c (qe_ix qix_list (qv 1) qe_int (fun _ _ => rfl)) qa_nil))) (qss_cons (qs_if (qt_isN (qv 2)) (qss_one (qs_raise makeE X_NoText.1 rfl X_NoText.2 (qa_c qe_str qa_nil))) qss_nil) (qss_cons (qs_set (i := 3) sc_read_net.nd rfl (Or.inl rfl) (qe_lst qa_nil)) (qss_cons (qs_set (i := 4) sc_read_net.nd rfl (Or.inl rfl) (qe_lst qa_nil)) (qss_cons (qs_for PassesOwn.leaving rfl (qi_list (qe_slL (qv 1) (qo_some qe_int) qo_none)) (qg_name (i := 5) sc_read_net.nd rfl (Or.inl rfl)) (qss_cons (qs_set (i := 6) sc_read_net.nd rfl (Or.inl rfl) (qe_split K rfl (qv 5) (qa_c qe_str qa_nil))) (qss_cons (qs_set (i := 7) sc_read_net.nd rfl (Or.inl rfl) (qe_fn C_read_ends hr rfl (qa_c (qe_ix qix_list (qv 6) qe_int (fun _ _ => rfl)) qa_nil))) (qss_cons (qs_set (i := 8) sc_read_net.nd rfl (Or.inl rfl) (qe_fn C_read_board hr rfl (qa_c (qv 2) (qa_c (qe_slL (qv 6) (qo_some qe_int) qo_none) qa_nil)))) (qss_cons (qs_if (QW.pt (qw_or (qt_isN (qv 7)) (qw_or1 (qt_isN (qv 8))))) (qss_one (qs_raise makeE X_NoText.1 rfl X_NoText.2 (qa_c qe_str qa_nil))) qss_nil) (qss_cons (qs_set (i := 9) sc_read_net.nd rfl (Or.inl rfl) (qe_fn C_number_of hr rfl (qa_c (qv 3) (qa_c (qe_ix qix_tup (qv 7) qe_int (fun _ _ => rfl)) qa_nil)))) (qss_one (qs_expr (qe_append (qv 4) (qa_c (qe_tup (qa_c (qv 9) (qa_c (qe_fn C_number_of hr rfl (qa_c (qv 3) (qa_c (qe_ix qix_tup (qv 7) qe_int (fun _ _ => rfl)) qa_nil))) (qa_c (qv 8) qa_nil)))) qa_nil)))))))))) (qss_one (qs_ret (qe_tup (qa_c (qv 2) (qa_c (qv 3) (qa_c (qv 4) qa_nil))))))))))))),?_⟩
 try dsimp only [cx_k,cx_kn,as_nil,as_name,Nat.reduceAdd]
 rcases h with ⟨⟨t,ht,hk⟩,q⟩ | ⟨x,rfl,asc,hle,q1,q0⟩
 ·exact ⟨_,rfl,_,"str",t,_,rfl,ht,hk,_,rfl,iteT ⟨by decide,q⟩⟩
 refine ⟨_,rfl,_,"str",_,_,rfl,.str _,rfl,_,rfl,iteF ?_⟩
 have hz := L.le (n := 30002) (by omega)
 have few := split_few (x := x) (sep := "; ") (by decide)
 refine ⟨_,rfl,rfl,_,_,rfl,rfl,by decide,by omega,parts_few2 (by omega),by omega,fun ps hps => ?_⟩
 have es : ∃ t0 ts,Txt.split x "; " = t0 :: ts := by
  cases e : Txt.split x "; " with
  | nil => exact absurd e (split_ne _ _)
  | cons a l => exact ⟨a,l,rfl⟩
 obtain ⟨t0,ts,es⟩ := es
 have ex : x = Str.join "; " (t0 :: ts) := by rw [← es,StrLaws.join_split]
 rw [es,List.length_cons] at few
 obtain ⟨asc0,l0⟩ := split_in (x := x) (sep := "; ") (p := t0) (by rw [es]; exact List.mem_cons_self ..) asc
 have ascs : ∀ t ∈ ts,Asc t ∧ t.length ≤ x.length := fun t ht => split_in (x := x) (sep := "; ") (p := t) (by rw [es]; exact List.mem_cons_of_mem _ ht) asc
 rw [es]
 generalize hgH1 : upd _ ps _ = H1
 obtain ⟨s1,e1⟩ := fresh_of hps hgH1
 clear hgH1
 have e1 : H1 ps = some (.lst ((t0 :: ts).map V.str)) := e1
 refine ⟨_,rfl,ps,_,_,_,rfl,rfl,SqL.of e1,atI_nat (j := 0) rfl,t0,rfl,asc0,by omega,fun day d1 d2 ed H2 s2 => ?_,fun no H2 s2 => ?_⟩
 rotate_left
 ·refine ⟨_,rfl,_,rfl,iteT ⟨by decide,q0 (fun d L sh => ?_) _ (s1.trans s2)⟩⟩
  have := sh_split sh
  rw [es] at this
  injection this with a b
  exact no d sh.d1 sh.d2 a
 refine ⟨_,rfl,_,rfl,iteF ?_⟩
 have shd : ∀ d L,ShL x.cps.toList d L → d = day ∧ ts = L.map rdT := fun d L sh => by
  have := sh_split sh
  rw [es] at this
  injection this with a b
  rw [ed] at a
  have h1 := sh.d1
  have h2 := sh.d2
  have e4 : (("day " : Str)).cps.toList = [100,97,121,32] := by decide +kernel
  have a' := congrArg (fun s : Str => s.cps.toList) a
  simp only [cps_app] at a'
  exact ⟨num_inj ⟨by omega,by omega⟩ ⟨by omega,by omega⟩ (cps_inj (List.append_cancel_left a'.symm)),b⟩
 refine ⟨(by show 0 ≤ sizeLine; decide),fun pn hpn => ?_⟩
 have fpn : H pn = none := s1.free (s2.free hpn)
 generalize hgH3 : upd _ pn _ = H3
 obtain ⟨s3,e3⟩ := fresh_of hpn hgH3
 clear hgH3
 refine ⟨(by show 0 ≤ sizeLine; decide),fun pr hpr => ?_⟩
 have fpr : H pr = none := s1.free (s2.free (s3.free hpr))
 have npr : pn ≠ pr := fun z => by rw [← z,e3] at hpr; cases hpr
 generalize hgH4 : upd _ pr _ = H4
 obtain ⟨s4,e4'⟩ := fresh_of hpr hgH4
 clear hgH4
 have s04 := s1.trans (s2.trans (s3.trans s4))
 have s14 := s2.trans (s3.trans s4)
 refine ⟨_,rfl,_,rfl,ps,_,rfl,SqL.of (s14 _ _ e1),fun p5 hp5 => ?_⟩
 have ec : cutV ((t0 :: ts).map V.str) (some 1) none = ts.map V.str := cut1 _
 rw [ec]
 have n5n : p5 ≠ pn := fun z => by rw [z,s4 _ _ e3] at hp5; cases hp5
 have n5r : p5 ≠ pr := fun z => by rw [z,e4'] at hp5; cases hp5
 generalize hgH5 : upd _ p5 _ = H5
 obtain ⟨s5,e5⟩ := fresh_of hp5 hgH5
 clear hgH5
 refine ⟨p5,rfl,⟨_,SqL.of e5⟩,for_list (K := K) (a := p5) (xs := ts.map V.str) (fun i σ H' => ∃ (Ld : List RoadS) (M : List RdT) (v5 v6 v7 v8 v9 : Option V),σ = [some (.str x),some (.ref ps),some (.int day),some (.ref pn),some (.ref pr),v5,v6,v7,v8,v9] ∧ Same H H' ∧ H' p5 = some (.lst (ts.map V.str)) ∧ H' pn = some (.lst ((rdAll Ld).1.map V.str)) ∧ NA H' pr M ∧ (∀ m ∈ M,m.2.2.1 ≠ pn) ∧ M.map strip = (rdAll Ld).2 ∧ M.length = Ld.length ∧ ts.take i = Ld.map rdT ∧ (∀ q ∈ Ld,RdR day q))
  ⟨[],[],_,_,_,_,_,rfl,s04.trans s5,e5,s5 _ _ (s4 _ _ e3),NA.nil (s5 _ _ e4'),(by intro m hm; cases hm),rfl,rfl,rfl,by simp⟩ (fun i σ H' _ h => ?_) ?_ ?_⟩
 ·obtain ⟨_,_,_,_,_,_,_,_,_,h,_⟩ := h
  exact SqL.of h
 ·intro i y σ H6 hi z9;obtain ⟨Ld,M,v5,v6,v7,v8,v9,rfl,s6,e6,n6,hM,bM,eM,lM,et,hRd⟩ := z9
  rw [List.getElem?_map] at hi
  cases hx : ts[i]? with
  | none => rw [hx] at hi; cases hi
  | some t =>
  rw [hx] at hi
  cases hi
  have li := (List.getElem?_eq_some_iff.mp hx).1
  have lLd : Ld.length = i := by
   have := congrArg List.length et
   rw [List.length_map,List.length_take] at this
   omega
  have rl := rd_len Ld
  obtain ⟨asct,lt⟩ := ascs t (List.mem_of_getElem? hx)
  have few2 := split_few (x := t) (sep := " ") (by decide)
  refine ⟨_,rfl,rfl,_,_,rfl,rfl,by decide,by omega,parts_few2 (by omega),by omega,fun pw hpw => ?_⟩
  obtain ⟨u0,us,eu⟩ : ∃ u0 us,Txt.split t " " = u0 :: us := by
   cases e : Txt.split t " " with
   | nil => exact absurd e (split_ne _ _)
   | cons a l => exact ⟨a,l,rfl⟩
  have etj : t = Str.join " " (u0 :: us) := by rw [← eu,StrLaws.join_split]
  rw [eu,List.length_cons] at few2
  obtain ⟨ascu,lu⟩ := split_in (x := t) (sep := " ") (p := u0) (by rw [eu]; exact List.mem_cons_self ..) asct
  have ascus : ∀ u ∈ us,Asc u ∧ u.length ≤ 30000 := fun u hu => by
   obtain ⟨a,b⟩ := split_in (x := t) (sep := " ") (p := u) (by rw [eu]; exact List.mem_cons_of_mem _ hu) asct
   exact ⟨a,by omega⟩
  have road : ∀ d L,ShL x.cps.toList d L → ∃ q : RoadS,RdR day q ∧ u0 = q.1 ++ ">" ++ q.2.1 ∧ us = q.2.2.map winT := fun d L sh => by
   obtain ⟨rfl,eL⟩ := shd d L sh
   rw [eL,List.getElem?_map] at hx
   cases hq : L[i]? with
   | none => rw [hq] at hx; cases hx
   | some q =>
    rw [hq] at hx
    have rq := sh.rd q (List.mem_of_getElem? hq)
    have : rdT q = t := by simpa using hx
    have sp := split_road rq.1 rq.2.1 rq.2.2
    have sp' : Txt.split (rdT q) " " = (q.1 ++ ">" ++ q.2.1) :: q.2.2.map winT := sp
    rw [this,eu] at sp'
    injection sp' with a b
    exact ⟨q,rq,a,b⟩
  rw [eu]
  generalize hgH7 : upd _ pw _ = H7
  obtain ⟨s7,e7⟩ := fresh_of hpw hgH7
  clear hgH7
  have e7 : H7 pw = some (.lst ((u0 :: us).map V.str)) := e7
  have ec9 : cutV ((u0 :: us).map V.str) (some 1) none = us.map V.str := cut1 _
  have wpe : ∀ (H8 : Hp),Same H7 H8 → H8 pw = some (.lst ((u0 :: us).map V.str)) := fun H8 s8 => s8 _ _ e7
  refine ⟨_,rfl,pw,_,_,_,rfl,rfl,SqL.of e7,atI_nat (j := 0) rfl,u0,rfl,ascu,by omega,fun sS eS loS loE eu0 r8 H8 s8 e8 => ?_,fun no H8 s8 => ?_⟩
  rotate_left
  ·refine ⟨_,rfl,_,rfl,_,rfl,pw,_,rfl,SqL.of (wpe H8 s8),fun p9 hp9 => ?_⟩
   rw [ec9]
   generalize hgH9 : upd _ p9 _ = H9
   obtain ⟨s9,e9⟩ := fresh_of hp9 hgH9
   clear hgH9
   have bad : ∀ H',Same H9 H' → E (.ref CT) none H' := fun H' s' => q0 (fun d L sh => by
    obtain ⟨q,rq,a,_⟩ := road d L sh
    exact no q.1 q.2.1 rq.1 rq.2.1 a) _ (s6.trans (s7.trans (s8.trans (s9.trans s'))))
   exact ⟨day,p9,us,rfl,e9,ascus,by omega,d2,fun R hR eR pb H10 s10 fb la => ⟨_,rfl,_,rfl,iteT ⟨by decide,bad _ s10⟩⟩,fun no' H10 s10 => ⟨_,rfl,_,rfl,iteT ⟨by decide,bad _ s10⟩⟩⟩
  refine ⟨_,rfl,_,rfl,_,rfl,pw,_,rfl,SqL.of (wpe H8 s8),fun p9 hp9 => ?_⟩
  rw [ec9]
  generalize hgH9 : upd _ p9 _ = H9
  obtain ⟨s9,e9⟩ := fresh_of hp9 hgH9
  clear hgH9
  refine ⟨day,p9,us,rfl,e9,ascus,by omega,d2,fun R hR eR pb H10 s10 fb la => ?_,fun no H10 s10 => ?_⟩
  rotate_left
  ·refine ⟨_,rfl,_,rfl,iteF ⟨_,rfl,_,rfl,iteT ⟨by decide,q0 (fun d L sh => ?_) _ (s6.trans (s7.trans (s8.trans (s9.trans s10))))⟩⟩⟩
   obtain ⟨q,rq,_,b⟩ := road d L sh
   exact no q.2.2 rq.2.2 b
  have s610 := s7.trans (s8.trans (s9.trans s10))
  have n10 := s610 _ _ n6
  have nbn : pb ≠ pn := fun z => by
   rw [z] at fb
   rw [(s7.trans (s8.trans s9)) _ _ n6] at fb
   cases fb
  have hM9 := hM.same (s7.trans (s8.trans s9))
  have fbM := hM9.fresh fb
  have hM10 := hM9.same s10
  have e8' := s10 _ _ (s9 _ _ e8)
  have e510 := s610 _ _ e6
  have s010 := s6.trans s610
  have nr8 : r8 ≠ pn := fun z => by rw [z,n10] at e8'; cases e8'
  have er : t = rdT (sS,eS,R) := by
   rw [etj,eu0,eR]
   exact road_words.symm
  have a1 := addS_len (rdAll Ld).1 sS
  refine ⟨_,rfl,_,rfl,iteF ⟨_,rfl,_,rfl,iteF ?_⟩⟩
  refine ⟨_,rfl,_,rfl,r8,_,_,_,rfl,rfl,SqT.of e8',rfl,pn,_,(rdAll Ld).1,rfl,n10,by omega,fun v ys' alt => ?_⟩
  obtain ⟨rfl,rfl⟩ := addS_idx alt
  clear alt
  generalize hN1 : addS (rdAll Ld).1 sS = N1 at *
  have n11 : upd H10 pn (.lst (N1.map V.str)) pn = some (.lst (N1.map V.str)) := upd_same
  have e511 : upd H10 pn (.lst (N1.map V.str)) p5 = some (.lst (ts.map V.str)) := by rw [upd_ne n5n]; exact e510
  have e811 : upd H10 pn (.lst (N1.map V.str)) r8 = some (.tup [.str sS,.str eS]) := by rw [upd_ne nr8]; exact e8'
  have la11 : LA enc3 (upd H10 pn (.lst (N1.map V.str))) pb R := la_clear la n10 nbn
  have hM11 : NA (upd H10 pn (.lst (N1.map V.str))) pr M := hM10.wr n10 npr.symm bM
  have s011 : Same H (upd H10 pn (.lst (N1.map V.str))) := same_wr fpn s010
  generalize upd H10 pn (.lst (N1.map V.str)) = H11 at *
  obtain ⟨vs,hv1,hv2,_⟩ := hM11.la.lst
  refine ⟨_,rfl,.inl ⟨rfl,_,SqL.of hv1⟩,_,rfl,_,rfl,_,rfl,r8,_,_,_,rfl,rfl,SqT.of e811,rfl,pn,_,N1,rfl,n11,by omega,fun v ys' alt => ?_⟩
  obtain ⟨rfl,rfl⟩ := addS_idx alt
  clear alt
  generalize hN2 : addS N1 eS = N2 at *
  have n12 : upd H11 pn (.lst (N2.map V.str)) pn = some (.lst (N2.map V.str)) := upd_same
  have e512 : upd H11 pn (.lst (N2.map V.str)) p5 = some (.lst (ts.map V.str)) := by rw [upd_ne n5n]; exact e511
  have la12 : LA enc3 (upd H11 pn (.lst (N2.map V.str))) pb R := la_clear la11 n11 nbn
  have hM12 : NA (upd H11 pn (.lst (N2.map V.str))) pr M := hM11.wr n11 npr.symm bM
  have s012 : Same H (upd H11 pn (.lst (N2.map V.str))) := same_wr fpn s011
  have hv12 : upd H11 pn (.lst (N2.map V.str)) pr = some (.lst vs) := by rw [upd_ne npr.symm]; exact hv1
  generalize upd H11 pn (.lst (N2.map V.str)) = H12 at *
  refine ⟨_,rfl,(by show 3 ≤ sizeLine; decide),fun rr hrr => ?_⟩
  generalize hgH13 : upd _ rr _ = H13
  obtain ⟨s13,e13⟩ := fresh_of hrr hgH13
  clear hgH13
  rw [List.length_map] at hv2
  have e9' : rdAll (Ld ++ [(sS,eS,R)]) = (N2,(rdAll Ld).2 ++ [(((N1.idxOf sS : Nat) : Int),((N2.idxOf eS : Nat) : Int),R)]) := by
   rw [rd_snoc,← hN2,← hN1]
   rfl
  refine ⟨pr,_,_,rfl,rfl,s13 _ _ hv12,by omega,?_⟩
  refine ⟨Ld ++ [(sS,eS,R)],M ++ [(((N1.idxOf sS : Nat) : Int),((N2.idxOf eS : Nat) : Int),pb,R)],_,_,_,_,_,rfl,same_wr fpr (s012.trans s13),?_,?_,(hM12.same s13).add fbM (s13 _ _ hv12) (la12.same s13) e13,?_,?_,?_,?_,?_⟩
  ·rw [upd_ne n5r]
   exact s13 _ _ e512
  ·rw [upd_ne npr,e9']
   exact s13 _ _ n12
  ·intro m' hm'
   rcases List.mem_append.mp hm' with z | z
   ·exact bM m' z
   ·rw [List.mem_singleton] at z
    subst z
    exact nbn
  ·rw [List.map_append,eM,e9']
   rfl
  ·rw [List.length_append,List.length_append,lM]
   rfl
  ·rw [List.take_add_one,hx,et,List.map_append,er]
   rfl
  ·intro q hq
   rcases List.mem_append.mp hq with z | z
   ·exact hRd q z
   ·rw [List.mem_singleton] at z
    subst z
    exact ⟨loS,loE,hR⟩
 ·intro σ H6 z9;obtain ⟨Ld,M,v5,v6,v7,v8,v9,rfl,s6,e6,n6,hM,bM,eM,lM,et,hRd⟩ := z9
  rw [List.length_map,List.take_length] at et
  refine ⟨_,rfl,_,rfl,_,rfl,(by show 3 ≤ sizeLine; decide),fun rr hrr => ?_⟩
  generalize hgH7 : upd _ rr _ = H7
  obtain ⟨s7,e7⟩ := fresh_of hrr hgH7
  clear hgH7
  have sh : ShL x.cps.toList day Ld := ⟨d1,d2,hRd,sh_join.mpr (by rw [ex,ed,et])⟩
  exact q1 day Ld rr pn pr M H7 sh (s6.trans s7) e7 (s7 _ _ n6) (hM.same s7) eM
end
theorem len_cps (x : Str) : x.length = x.cps.toList.length := by simp [Str.length]
theorem tk_len {x : Str} {i : Int} (h : 0 ≤ i) : (Txt.slice x none (some i)).length = min i.toNat x.length := by
 rw [len_cps,slice_ns h,List.length_take,← len_cps]
theorem dr_len {x : Str} {i : Int} (h : 0 ≤ i) : (Txt.slice x (some i) none).length = x.length - i.toNat := by
 rw [len_cps,slice_sn h,List.length_drop,← len_cps]
theorem mid_len {x : Str} {i j : Int} (h : 0 ≤ i) (h' : 0 ≤ j) : (Txt.slice x (some i) (some j)).length ≤ j.toNat - i.toNat := by
 rw [len_cps,slice_ss h h',List.length_take]
 omega
theorem asc_sl {x : Str} (h : Asc x) (l u : Option Int) : Asc (Txt.slice x l u) := okS.slice h l u
theorem asc_app {x y : Str} (h : Asc x) (h' : Asc y) : Asc (x ++ y) := okS.app h h'
theorem asc_num {n : Int} (h : 0 ≤ n) : Asc (numT n) := fun c hc => by
 have := num_dig h c hc
 omega
theorem num_len17 {n : Int} (h : 0 ≤ n) (h' : n < 100000000000000000) : (numT n).length ≤ 17 := PyProof.Rows.toString_length_le h (by decide) (by have e : (10 : Int) ^ 17 = 100000000000000000 := (by decide); rw [e]; exact h')
theorem log17 {x : Int} (h0 : 0 ≤ x) (h : x < 100000000000000000) : x.natAbs.log2 < 1920 := by
 rcases Nat.eq_zero_or_pos x.natAbs with z | z
 ·rw [z]; decide
 ·rw [Nat.log2_lt (by omega)]
  have h1 : x.natAbs < 100000000000000000 := by omega
  exact Nat.lt_of_lt_of_le h1 (Nat.le_trans (by decide : 100000000000000000 ≤ 2 ^ 57) (Nat.pow_le_pow_right (by decide) (by decide)))
noncomputable def Put (m : Nat) (v : V) : Prop := ∃ y : Str,v = .str y ∧ Asc y ∧ y.length ≤ m
theorem put_of {m : Nat} {y : Str} (h : Asc y) (h' : y.length ≤ m) : Put m (.str y) := ⟨y,rfl,h,h'⟩
theorem put_c {m : Nat} {y : Str} (h : (y.cps.toList.all (fun c => decide (c < 128)) && decide (y.length ≤ 17)) = true) (hm : 17 ≤ m) : Put m (.str y) := by
 rw [Bool.and_eq_true,List.all_eq_true,decide_eq_true_iff] at h
 exact ⟨y,rfl,fun c hc => of_decide_eq_true (h.1 c hc),by omega⟩
theorem put_n {m : Nat} {n : Int} (h : 0 ≤ n) (h' : n < 100000000000000000) (hm : 17 ≤ m) : Put m (.str (numT n)) := ⟨_,rfl,asc_num h,by have := num_len17 h h'; omega⟩
noncomputable def spFig : Sp := fun vs H Q _ => ∃ (day : Int) (x : Str) (at_ : Nat) (cell : Int),vs = [.int day,.str x,.int at_,.int cell] ∧ 1 ≤ day ∧ day ≤ 1000000000000000 ∧ Asc x ∧ x.length ≤ 14500 ∧ at_ ≤ x.length ∧ ∀ (y : Str) (H' : Hp),Asc y → y.length ≤ 30000 → Same H H' → Q (.str y) H'
section
variable {P : Program} {w : World} {K : PySem.W.Frag} {mg : Str → Option Value} {base : Heap} {f : Addr} {fd : FuncData} {n : Nat}
theorem ok_fig (F : Fun K "_law_figures" "_law_figures" st__law_figures f fd) (B : Bl mg) (C_law_run : Callee P w K mg base n "_law_run" ["text","at","signs"] spRunB) : FnOk P w K mg base CX0 (n + 1) f fd ["day","text","at","cell"] spFig := by
 refine F.okQ sc__law_figures (fun vs H Q E h => ?_) (fun cdv A outer s H vs Q E hr h => ?_)
 ·obtain ⟨_,_,_,_,rfl,_⟩ := h
  rfl
 obtain ⟨day,x,a,cell,rfl,d1,d2,asc,hle,ha,q⟩ := h
 refine ⟨_,(qss_cons (qs_while PassesOwn.never (qt_cut (QW.pt (qw_and (qt_cmpR qop_lt (qv 2) (qe_cb qcall_lenS rfl B.len bt_len (qa_c (qv 1) qa_nil)) (nomark _)) (qw_and1 (qt_cmpR qop_notInS (qe_ix qix_str (qv 1) (qv 2) (fun _ _ => rfl)) qe_str rfl))))) (qss_one (qs_set (i := 2) sc__law_figures.nd rfl (Or.inl rfl) (qe_op qop_add (qv 2) qe_int)))) (qss_cons (qs_set (i := 4) sc__law_figures.nd rfl (Or.inl rfl) (qe_fn C_law_run hr rfl (qa_c (qv 1) (qa_c (qv 2) (qa_c qe_str qa_nil))))) (qss_cons (qs_set (i := 5) sc__law_figures.nd rfl (Or.inl rfl) (qe_lst (qa_c qe_str (qa_c qe_str (qa_c (qe_ct qcall_str rfl B.str_ bt_str (qa_c (qe_op qop_add (qe_op qop_pow qe_int qe_int) qe_int) qa_nil)) (qa_c (qe_ct qcall_str rfl B.str_ bt_str (qa_c (qe_op qop_pow qe_int qe_int) qa_nil)) (qa_c qe_str (qa_c qe_str (qa_c (qe_ct qcall_str rfl B.str_ bt_str (qa_c (qv 0) qa_nil)) (qa_c (qe_ct qcall_str rfl B.str_ bt_str (qa_c (qe_op qop_sub (qv 0) qe_int) qa_nil)) (qa_c (qe_ct qcall_str rfl B.str_ bt_str (qa_c (qe_op qop_pow qe_int qe_int) qa_nil)) (qa_c qe_str (qa_c qe_str qa_nil))))))))))))) (qss_cons (qs_set (i := 5) sc__law_figures.nd rfl (Or.inl rfl) (qe_op qop_cat (qv 5) (qe_lst (qa_c qe_str (qa_c (qe_op qop_addS qe_str (qe_slA (qv 1) (qo_some (qv 2)) (qo_some (qv 4)))) (qa_c (qe_op qop_addS (qe_slA (qv 1) (qo_some (qv 2)) (qo_some (qv 4))) qe_str) qa_nil)))))) (qss_one (qs_ret (qe_op qop_addS (qe_op qop_addS (qe_slA (qv 1) qo_none (qo_some (qv 2))) (qe_ix qix_list (qv 5) (qe_op qop_mod (qv 3) qe_int) (fun _ _ => rfl))) (qe_slA (qv 1) (qo_some (qv 4)) qo_none)))))))),?_⟩
 try dsimp only [cx_k,cx_kn,as_nil,as_name,Nat.reduceAdd]
 have hz := L.le (n := x.length) (by omega)
 have sz := len_cps x
 refine while_by (fun σ H' => H' = H ∧ ∃ k : Nat,σ = [some (.int day),some (.str x),some (.int (k : Int)),some (.int cell),none,none] ∧ k ≤ x.length) (fun σ _ => match σ with | [_,_,some (.int k),_,_,_] => (x.length - k.toNat) | _ => 0) ⟨rfl,a,rfl,ha⟩ ?_ ?_
 ·intro σ H' z9;obtain ⟨rfl,k,rfl,hk⟩ := z9
  refine ⟨fun b H1 => H1 = H' ∧ (b = true → k < x.length),?_,?_⟩
  ·refine ⟨_,rfl,_,rfl,_,rfl,hz,_,_,rfl,rfl,_,rfl,ite2 (fun c => ?_) (fun c => ?_)⟩
   ·have c' : (k : Int) < (x.length : Int) := of_decide_eq_true c
    have hx' := List.getElem?_eq_getElem (show k < x.cps.toList.length by omega)
    generalize x.cps.toList[k] = d at hx'
    exact ⟨_,rfl,_,rfl,_,_,d,rfl,rfl,hz,atI_nat hx',d,_,rfl,rfl,_,rfl,rfl,fun _ => by omega⟩
   ·exact ⟨rfl,fun z => by cases z⟩
  intro b H1 z9;obtain ⟨e1,hb⟩ := z9
  have e1' := e1.symm
  subst e1'
  clear e1
  refine ite2 (fun c => ?_) (fun c => ?_)
  ·have hk' := hb c
   refine ⟨_,rfl,_,_,rfl,rfl,⟨rfl,k + 1,rfl,by omega⟩,?_⟩
   show x.length - ((k : Int) + 1).toNat < x.length - ((k : Int)).toNat
   omega
  clear hb c
  refine ⟨_,rfl,_,rfl,.inl ⟨x,k,rfl,by omega,?_⟩⟩
  have hrun := tw_split (p := dig) (x.cps.toList.drop k)
  have lrun : k + ((x.cps.toList.drop k).takeWhile dig).length ≤ x.length := by
   have := congrArg List.length hrun.1
   rw [List.length_append,List.length_drop] at this
   omega
  generalize k + ((x.cps.toList.drop k).takeWhile dig).length = en at *
  refine ⟨_,_,rfl,rfl,⟨by decide,by decide,by decide⟩,_,_,rfl,rfl,_,rfl,log17 (by decide) (by decide),_,_,rfl,rfl,⟨by decide,by decide,by decide⟩,_,rfl,log17 (by decide) (by decide),_,rfl,_,rfl,log17 (by omega) (by omega),_,rfl,_,_,rfl,rfl,_,rfl,log17 (by omega) (by omega),_,_,rfl,rfl,⟨by decide,by decide,by decide⟩,_,rfl,log17 (by decide) (by decide),?_⟩
  refine ⟨(by show 11 ≤ sizeLine; decide),fun p1 hp1 => ?_⟩
  generalize hgH1 : upd _ p1 _ = H1
  obtain ⟨s1,e1⟩ := fresh_of hp1 hgH1
  clear hgH1
  refine ⟨_,rfl,?_⟩
  have kn : ((k : Nat) : Int).toNat = k := by omega
  have en' : ((en : Nat) : Int).toNat = en := by omega
  have lm : (Txt.slice x (some (k : Int)) (some (en : Int))).length ≤ en - k := by
   have := mid_len (x := x) (i := (k : Int)) (j := (en : Int)) (by omega) (by omega)
   rwa [kn,en'] at this
  have l0 : ("0" : Str).length = 1 := by decide
  have am := asc_sl asc (some (k : Int)) (some (en : Int))
  have a0 : Asc "0" := by
   have : ∀ c ∈ ("0" : Str).cps.toList,c < 128 := by decide +kernel
   exact this
  have kl : (Txt.slice x none (some (k : Int))).length ≤ k := by
   rw [tk_len (by omega),kn]
   omega
  have el : (Txt.slice x (some (en : Int)) none).length ≤ x.length - en := by
   rw [dr_len (by omega),en']
   omega
  refine ⟨_,rfl,_,rfl,_,rfl,_,rfl,_,rfl,x,rfl,hz,_,_,rfl,rfl,L.le (by rw [l0]; omega),_,rfl,_,rfl,_,rfl,_,rfl,_,rfl,x,rfl,hz,_,_,rfl,rfl,L.le (by rw [l0]; omega),?_⟩
  refine ⟨(by show 3 ≤ sizeLine; decide),fun p2 hp2 => ?_⟩
  generalize hgH2 : upd _ p2 _ = H2
  obtain ⟨s2,e2⟩ := fresh_of hp2 hgH2
  clear hgH2
  refine ⟨p1,p2,_,_,rfl,rfl,s2 _ _ e1,e2,(by show 14 ≤ sizeLine; decide),fun p3 hp3 => ?_⟩
  generalize hgH3 : upd _ p3 _ = H3
  obtain ⟨s3,e3⟩ := fresh_of hp3 hgH3
  clear hgH3
  have hput : ∀ v ∈ ([V.str (Str.ofString "00"),V.str (Str.ofString "01"),V.str (Str.ofString (toString ((10 : Int) ^ Int.toNat 15 + 1))),V.str (Str.ofString (toString ((10 : Int) ^ Int.toNat 16))),V.str (Str.ofString "0"),V.str (Str.ofString "1"),V.str (Str.ofString (toString day)),V.str (Str.ofString (toString (day - 1))),V.str (Str.ofString (toString ((10 : Int) ^ Int.toNat 15))),V.str (Str.ofString ""),V.str (Str.ofString "1_0")] ++ [V.str (Str.ofString "+1"),V.str (Str.ofString "0" ++ Txt.slice x (some (k : Int)) (some (en : Int))),V.str (Txt.slice x (some (k : Int)) (some (en : Int)) ++ Str.ofString "0")]),Put (en - k + 17) v := by
   intro v hv
   simp only [List.cons_append,List.nil_append,List.mem_cons,List.not_mem_nil,or_false] at hv
   rcases hv with rfl | rfl | rfl | rfl | rfl | rfl | rfl | rfl | rfl | rfl | rfl | rfl | rfl | rfl
   ·exact put_c (by decide +kernel) (by omega)
   ·exact put_c (by decide +kernel) (by omega)
   ·exact put_n (by decide) (by decide) (by omega)
   ·exact put_n (by decide) (by decide) (by omega)
   ·exact put_c (by decide +kernel) (by omega)
   ·exact put_c (by decide +kernel) (by omega)
   ·exact put_n (by omega) (by omega) (by omega)
   ·exact put_n (by omega) (by omega) (by omega)
   ·exact put_n (by decide) (by decide) (by omega)
   ·exact put_c (by decide +kernel) (by omega)
   ·exact put_c (by decide +kernel) (by omega)
   ·exact put_c (by decide +kernel) (by omega)
   ·exact put_of (asc_app a0 am) (by rw [Str.length_append]; have : (Str.ofString "0").length = 1 := l0; omega)
   ·exact put_of (asc_app am a0) (by rw [Str.length_append]; have : (Str.ofString "0").length = 1 := l0; omega)
  obtain ⟨j,hj⟩ := Int.eq_ofNat_of_zero_le (show 0 ≤ cell % 14 by omega)
  have hj14 : j < 14 := by omega
  generalize hL : ([V.str (Str.ofString "00"),V.str (Str.ofString "01"),V.str (Str.ofString (toString ((10 : Int) ^ Int.toNat 15 + 1))),V.str (Str.ofString (toString ((10 : Int) ^ Int.toNat 16))),V.str (Str.ofString "0"),V.str (Str.ofString "1"),V.str (Str.ofString (toString day)),V.str (Str.ofString (toString (day - 1))),V.str (Str.ofString (toString ((10 : Int) ^ Int.toNat 15))),V.str (Str.ofString ""),V.str (Str.ofString "1_0")] ++ [V.str (Str.ofString "+1"),V.str (Str.ofString "0" ++ Txt.slice x (some (k : Int)) (some (en : Int))),V.str (Txt.slice x (some (k : Int)) (some (en : Int)) ++ Str.ofString "0")]) = L14 at e3 hput
  have hlen : L14.length = 14 := by rw [← hL]; rfl
  have hget := List.getElem?_eq_getElem (show j < L14.length by omega)
  obtain ⟨y,ey,ay,ly⟩ := hput L14[j] (List.getElem_mem _)
  rw [ey] at hget
  refine ⟨_,rfl,_,rfl,_,rfl,x,rfl,hz,_,rfl,_,rfl,_,_,rfl,rfl,(by show (0 : Int) < 14; decide),p3,_,_,V.str y,rfl,rfl,SqL.of e3,(by show atI L14 (cell % 14) = _; rw [hj]; exact atI_nat hget),_,_,rfl,rfl,L.le (by omega),_,rfl,_,rfl,_,rfl,x,rfl,hz,_,_,rfl,rfl,L.le (by rw [Str.length_append]; omega),?_⟩
  exact q _ H3 (asc_app (asc_app (asc_sl asc _ _) ay) (asc_sl asc _ _)) (by rw [Str.length_append,Str.length_append]; omega) (s1.trans (s2.trans s3))
 ·intro σ H' Q1 Q2 hq z9;obtain ⟨Pm,h1,h2⟩ := z9
  exact ⟨Pm,h1,fun b H1 p => hq _ _ (h2 b H1 p)⟩
noncomputable def spBent : Sp := fun vs H Q _ => ∃ (day : Int) (x : Str) (cell : Int),vs = [.int day,.str x,.int cell] ∧ 1 ≤ day ∧ day ≤ 1000000000000000 ∧ Asc x ∧ x.length ≤ 14500 ∧ ∀ (y : Str) (H' : Hp),Asc y → y.length ≤ 30000 → Same H H' → Q (.str y) H'
theorem ok_bent (F : Fun K "_law_bent" "_law_bent" st__law_bent f fd) (B : Bl mg) (C_law_figures : Callee P w K mg base n "_law_figures" ["day","text","at","cell"] spFig) : FnOk P w K mg base CX0 (n + 1) f fd ["day","text","cell"] spBent := by
 refine F.okQ sc__law_bent (fun vs H Q E h => ?_) (fun cdv A outer s H vs Q E hr h => ?_)
 ·obtain ⟨_,_,_,rfl,_⟩ := h
  rfl
 obtain ⟨day,x,cell,rfl,d1,d2,asc,hle,q⟩ := h
 refine ⟨_,(qss_cons (qs_set (i := 3) sc__law_bent.nd rfl (Or.inl rfl) (qe_op qop_mod (qe_op qop_fdivB (qv 2) qe_int) (qe_op qop_add (qe_cb qcall_lenS rfl B.len bt_len (qa_c (qv 1) qa_nil)) qe_int))) (qss_cons (qs_set (i := 4) sc__law_bent.nd rfl (Or.inl rfl) (qe_op qop_fdivB (qe_op qop_fdivB (qv 2) qe_int) (qe_op qop_add (qe_cb qcall_lenS rfl B.len bt_len (qa_c (qv 1) qa_nil)) qe_int))) (qss_cons (qs_set (i := 5) sc__law_bent.nd rfl (Or.inl rfl) (qe_ix qix_str qe_str (qe_op qop_mod (qv 4) qe_int) (fun _ _ => rfl))) (qss_cons (qs_if (qt_cmpR qop_eq (qe_op qop_mod (qv 2) qe_int) qe_int (nomark _)) (qss_one (qs_ret (qe_op qop_addS (qe_op qop_addS (qe_slA (qv 1) qo_none (qo_some (qv 3))) (qv 5)) (qe_slA (qv 1) (qo_some (qv 3)) qo_none)))) qss_nil) (qss_cons (qs_if (qt_cmpR qop_eq (qe_op qop_mod (qv 2) qe_int) qe_int (nomark _)) (qss_one (qs_ret (qe_op qop_addS (qe_slA (qv 1) qo_none (qo_some (qv 3))) (qe_slA (qv 1) (qo_some (qe_op qop_add (qv 3) qe_int)) qo_none)))) qss_nil) (qss_cons (qs_if (qt_cmpR qop_eq (qe_op qop_mod (qv 2) qe_int) qe_int (nomark _)) (qss_one (qs_ret (qe_op qop_addS (qe_op qop_addS (qe_slA (qv 1) qo_none (qo_some (qv 3))) (qv 5)) (qe_slA (qv 1) (qo_some (qe_op qop_add (qv 3) qe_int)) qo_none)))) qss_nil) (qss_cons (qs_if (qt_cmpR qop_eq (qe_op qop_mod (qv 2) qe_int) qe_int (nomark _)) (qss_one (qs_ret (qe_op qop_addS (qe_op qop_addS (qe_slA (qv 1) qo_none (qo_some (qv 3))) (qe_rev (qe_slA (qv 1) (qo_some (qv 3)) (qo_some (qe_op qop_add (qv 3) qe_int))) (qo_some (qe_neg qe_int)))) (qe_slA (qv 1) (qo_some (qe_op qop_add (qv 3) qe_int)) qo_none)))) qss_nil) (qss_cons (qs_if (qt_cmpR qop_eq (qe_op qop_mod (qv 2) qe_int) qe_int (nomark _)) (qss_cons (qs_set (i := 6) sc__law_bent.nd rfl (Or.inl rfl) (qe_op qop_add (qv 3) (qe_op qop_mod (qv 4) qe_int))) (qss_one (qs_ret (qe_op qop_addS (qe_slA (qv 1) qo_none (qo_some (qv 6))) (qe_slA (qv 1) (qo_some (qv 3)) qo_none))))) qss_nil) (qss_cons (qs_if (qt_cmpR qop_eq (qe_op qop_mod (qv 2) qe_int) qe_int (nomark _)) (qss_one (qs_ret (qe_slA (qv 1) qo_none (qo_some (qv 3))))) qss_nil) (qss_cons (qs_if (qt_cmpR qop_gt (qe_op qop_mod (qv 2) qe_int) qe_int (nomark _)) (qss_one (qs_ret (qe_fn C_law_figures hr rfl (qa_c (qv 0) (qa_c (qv 1) (qa_c (qv 3) (qa_c (qv 4) qa_nil))))))) qss_nil) (qss_one (qs_ret (qv 1))))))))))))),?_⟩
 try dsimp only [cx_k,cx_kn,as_nil,as_name,Nat.reduceAdd]
 have hz := L.le (n := x.length) (by omega)
 have pos : (0 : Int) < (x.length : Int) + 1 := by omega
 have posB : CDivB (cell / 10) ((x.length : Int) + 1) := ⟨pos,by omega⟩
 refine ⟨_,rfl,_,_,rfl,rfl,⟨by decide,by decide⟩,_,rfl,x,rfl,hz,_,_,rfl,rfl,_,_,rfl,rfl,pos,?_⟩
 refine ⟨_,rfl,_,_,rfl,rfl,⟨by decide,by decide⟩,_,rfl,x,rfl,hz,_,_,rfl,rfl,_,_,rfl,rfl,posB,?_⟩
 have h0 : 0 ≤ cell / 10 % ((x.length : Int) + 1) := Int.emod_nonneg _ (by omega)
 have h1 : cell / 10 % ((x.length : Int) + 1) < (x.length : Int) + 1 := Int.emod_lt_of_pos _ pos
 dsimp only
 generalize cell / 10 % ((x.length : Int) + 1) = at_ at *
 generalize cell / 10 / ((x.length : Int) + 1) = rest at *
 obtain ⟨a,rfl⟩ := Int.eq_ofNat_of_zero_le h0
 have ha : a ≤ x.length := by omega
 have an : ((a : Nat) : Int).toNat = a := by omega
 obtain ⟨j,hj⟩ := Int.eq_ofNat_of_zero_le (show 0 ≤ rest % 26 by omega)
 have hl26 : (Str.ofString " ;>-+0123456789abdyzA_.,\n\t").cps.toList.length = 26 := by decide +kernel
 have hget := List.getElem?_eq_getElem (show j < (Str.ofString " ;>-+0123456789abdyzA_.,\n\t").cps.toList.length by omega)
 have all : ∀ c ∈ (Str.ofString " ;>-+0123456789abdyzA_.,\n\t").cps.toList, c < 128 := by decide +kernel
 have c128 := all _ (List.getElem_mem (show j < (Str.ofString " ;>-+0123456789abdyzA_.,\n\t").cps.toList.length by omega))
 generalize (Str.ofString " ;>-+0123456789abdyzA_.,\n\t").cps.toList[j] = c at hget c128
 refine ⟨_, rfl, _, _, rfl, rfl, (by show (0 : Int) < 26; decide), _, _, c, rfl, rfl, L.le (by rw [len_cps, hl26]; decide), (by show atI _ (rest % 26) = _; rw [hj]; exact atI_nat hget), ?_⟩
 have asc1 : Asc ⟨#[c]⟩ := fun d hd => by
  have : d = c := by simpa using hd
  rw [this]
  exact c128
 have l1 : (⟨#[c]⟩ : Str).length = 1 := rfl
 have kl : (Txt.slice x none (some (a : Int))).length ≤ a := by
  rw [tk_len (by omega), an]
  omega
 have el : ∀ d : Int, 0 ≤ d → (Txt.slice x (some d) none).length ≤ x.length := fun d hd => by
  rw [dr_len hd]
  omega
 have el0 := el (a : Int) (by omega)
 have el1 := el ((a : Int) + 1) (by omega)
 have el2 := el ((a : Int) + 2) (by omega)
 refine ⟨_, rfl, _, _, rfl, rfl, (by show (0 : Int) < 10; decide), rfl, _, rfl, ite2 (fun _ => ?_) (fun _ => ?_)⟩
 ·refine ⟨_, rfl, _, rfl, _, rfl, x, rfl, hz, _, rfl, _, _, rfl, rfl, L.le (by rw [l1]; omega), _, rfl, _, rfl, _, rfl, x, rfl, hz, _, _, rfl, rfl, L.le (by rw [Str.length_append, l1]; omega), ?_⟩
  exact q _ H (asc_app (asc_app (asc_sl asc _ _) asc1) (asc_sl asc _ _)) (by rw [Str.length_append, Str.length_append, l1]; omega) (Same.refl _)
 refine ⟨_, rfl, _, _, rfl, rfl, (by show (0 : Int) < 10; decide), rfl, _, rfl, ite2 (fun _ => ?_) (fun _ => ?_)⟩
 ·refine ⟨_, rfl, _, rfl, _, rfl, x, rfl, hz, _, rfl, _, rfl, _, _, rfl, rfl, _, rfl, x, rfl, hz, _, _, rfl, rfl, L.le (by omega), ?_⟩
  exact q _ H (asc_app (asc_sl asc _ _) (asc_sl asc _ _)) (by rw [Str.length_append]; omega) (Same.refl _)
 refine ⟨_, rfl, _, _, rfl, rfl, (by show (0 : Int) < 10; decide), rfl, _, rfl, ite2 (fun _ => ?_) (fun _ => ?_)⟩
 ·refine ⟨_, rfl, _, rfl, _, rfl, x, rfl, hz, _, rfl, _, _, rfl, rfl, L.le (by rw [l1]; omega), _, rfl, _, rfl, _, _, rfl, rfl, _, rfl, x, rfl, hz, _, _, rfl, rfl, L.le (by rw [Str.length_append, l1]; omega), ?_⟩
  exact q _ H (asc_app (asc_app (asc_sl asc _ _) asc1) (asc_sl asc _ _)) (by rw [Str.length_append, Str.length_append, l1]; omega) (Same.refl _)
 refine ⟨_, rfl, _, _, rfl, rfl, (by show (0 : Int) < 10; decide), rfl, _, rfl, ite2 (fun _ => ?_) (fun _ => ?_)⟩
 ·have ml : (Txt.slice x (some (a : Int)) (some ((a : Int) + 2))).length ≤ 2 := by
   have := mid_len (x := x) (i := (a : Int)) (j := (a : Int) + 2) (by omega) (by omega)
   omega
  refine ⟨_, rfl, _, rfl, _, rfl, x, rfl, hz, _, rfl, _, rfl, _, rfl, _, rfl, _, _, rfl, rfl, _, rfl, x, rfl, hz, _, rfl, _, rfl, _, rfl, rfl, L.le (by omega), fun y ly iy => ?_⟩
  refine ⟨_, _, rfl, rfl, L.le (by omega), _, rfl, _, rfl, _, _, rfl, rfl, _, rfl, x, rfl, hz, _, _, rfl, rfl, L.le (by rw [Str.length_append]; omega), ?_⟩
  exact q _ H (asc_app (asc_app (asc_sl asc _ _) fun d hd => asc_sl asc _ _ d (iy d hd)) (asc_sl asc _ _)) (by rw [Str.length_append, Str.length_append]; omega) (Same.refl _)
 refine ⟨_, rfl, _, _, rfl, rfl, (by show (0 : Int) < 10; decide), rfl, _, rfl, ite2 (fun _ => ?_) (fun _ => ?_)⟩
 ·have r30 : 0 ≤ rest % 30 := by omega
  have fl : (Txt.slice x none (some ((a : Int) + rest % 30))).length ≤ x.length := by
   rw [tk_len (by omega)]
   omega
  refine ⟨_, rfl, _, rfl, _, _, rfl, rfl, (by show (0 : Int) < 30; decide), _, _, rfl, rfl, _, rfl, _, rfl, _, rfl, x, rfl, hz, _, rfl, _, rfl, _, rfl, x, rfl, hz, _, _, rfl, rfl, L.le (by omega), ?_⟩
  exact q _ H (asc_app (asc_sl asc _ _) (asc_sl asc _ _)) (by rw [Str.length_append]; omega) (Same.refl _)
 refine ⟨_, rfl, _, _, rfl, rfl, (by show (0 : Int) < 10; decide), rfl, _, rfl, ite2 (fun _ => ?_) (fun _ => ?_)⟩
 ·exact ⟨_, rfl, _, rfl, _, rfl, x, rfl, hz, q _ H (asc_sl asc _ _) (by omega) (Same.refl _)⟩
 refine ⟨_, rfl, _, _, rfl, rfl, (by show (0 : Int) < 10; decide), _, _, rfl, rfl, _, rfl, ite2 (fun _ => ?_) (fun _ => ?_)⟩
 ·exact ⟨_, rfl, _, rfl, _, rfl, _, rfl, day, x, a, rest, rfl, d1, d2, asc, hle, ha, q⟩
 ·exact ⟨_, rfl, q x H asc (by omega) (Same.refl _)⟩
end
section
variable {P : Program} {w : World} {K : PySem.W.Frag} {mg : Str → Option Value} {base : Heap} {f : Addr} {fd : FuncData} {n : Nat}
noncomputable def OddV (K : PySem.W.Frag) (H : Hp) (v : V) : Prop := (∃ y, v = .str y ∧ Asc y ∧ y.length ≤ 30000) ∨ NoStr K H v
noncomputable def spOdd (K : PySem.W.Frag) : Sp := fun vs H Q _ => ∃ cell : Int, vs = [.int cell] ∧ ∀ (v : V) (H' : Hp), Same H H' → OddV K H' v → Q v H'
theorem odd_c {K : PySem.W.Frag} {H : Hp} {y : Str} (h : (y.cps.toList.all (fun c => decide (c < 128)) && decide (y.length ≤ 30)) = true) : OddV K H (.str y) := by
 rw [Bool.and_eq_true, List.all_eq_true, decide_eq_true_iff] at h
 exact .inl ⟨y, rfl, fun c hc => of_decide_eq_true (h.1 c hc), by omega⟩
theorem ok_odd (F : Fun K "_law_odd" "_law_odd" st__law_odd f fd) : FnOk P w K mg base CX0 (n + 1) f fd ["cell"] (spOdd K) := by
 refine F.okQ sc__law_odd (fun vs H Q E h => ?_) (fun cdv A outer s H vs Q E hr h => ?_)
 ·obtain ⟨_, rfl, _⟩ := h
  rfl
 obtain ⟨cell, rfl, q⟩ := h
 refine ⟨_, (qss_cons (qs_set (i := 1) sc__law_odd.nd rfl (Or.inl rfl) (qe_lst (qa_c qe_str (qa_c qe_str (qa_c qe_str (qa_c qe_str (qa_c qe_str (qa_c qe_str (qa_c qe_str (qa_c qe_str (qa_c qe_str (qa_c qe_str (qa_c qe_str qa_nil))))))))))))) (qss_cons (qs_set (i := 1) sc__law_odd.nd rfl (Or.inl rfl) (qe_op qop_cat (qv 1) (qe_lst (qa_c qe_str (qa_c qe_str (qa_c qe_str (qa_c qe_str (qa_c qe_str qa_nil)))))))) (qss_cons (qs_set (i := 1) sc__law_odd.nd rfl (Or.inl rfl) (qe_op qop_cat (qv 1) (qe_lst (qa_c qe_str (qa_c qe_str (qa_c qe_str (qa_c qe_str (qa_c qe_non (qa_c qe_int (qa_c qe_bl (qa_c (qe_lst qa_nil) qa_nil))))))))))) (qss_cons (qs_set (i := 1) sc__law_odd.nd rfl (Or.inl rfl) (qe_op qop_cat (qv 1) (qe_lst (qa_c (qe_tup (qa_c qe_str qa_nil)) (qa_c (qe_lst (qa_c qe_str qa_nil)) qa_nil))))) (qss_one (qs_ret (qe_ix qix_list (qv 1) (qe_op qop_mod (qv 0) qe_int) (fun _ _ => rfl)))))))), ?_⟩
 try dsimp only [cx_k, cx_kn, as_nil, as_name, Nat.reduceAdd]
 refine ⟨(by show 11 ≤ sizeLine; decide), fun p1 hp1 => ?_⟩
 generalize hgH1 : upd _ p1 _ = H1
 obtain ⟨s1, e1⟩ := fresh_of hp1 hgH1
 clear hgH1
 refine ⟨_, rfl, (by show 5 ≤ sizeLine; decide), fun p2 hp2 => ?_⟩
 generalize hgH2 : upd _ p2 _ = H2
 obtain ⟨s2, e2⟩ := fresh_of hp2 hgH2
 clear hgH2
 refine ⟨p1, p2, _, _, rfl, rfl, s2 _ _ e1, e2, (by show 16 ≤ sizeLine; decide), fun p3 hp3 => ?_⟩
 generalize hgH3 : upd _ p3 _ = H3
 obtain ⟨s3, e3⟩ := fresh_of hp3 hgH3
 clear hgH3
 refine ⟨_, rfl, (by show 0 ≤ sizeLine; decide), fun p4 hp4 => ?_⟩
 generalize hgH4 : upd _ p4 _ = H4
 obtain ⟨s4, e4⟩ := fresh_of hp4 hgH4
 clear hgH4
 refine ⟨(by show 8 ≤ sizeLine; decide), fun p5 hp5 => ?_⟩
 generalize hgH5 : upd _ p5 _ = H5
 obtain ⟨s5, e5⟩ := fresh_of hp5 hgH5
 clear hgH5
 refine ⟨p3, p5, _, _, rfl, rfl, s5 _ _ (s4 _ _ e3), e5, (by show 24 ≤ sizeLine; decide), fun p6 hp6 => ?_⟩
 generalize hgH6 : upd _ p6 _ = H6
 obtain ⟨s6, e6⟩ := fresh_of hp6 hgH6
 clear hgH6
 refine ⟨_, rfl, (by show 1 ≤ sizeLine; decide), fun p7 hp7 => ?_⟩
 generalize hgH7 : upd _ p7 _ = H7
 obtain ⟨s7, e7⟩ := fresh_of hp7 hgH7
 clear hgH7
 refine ⟨(by show 1 ≤ sizeLine; decide), fun p8 hp8 => ?_⟩
 generalize hgH8 : upd _ p8 _ = H8
 obtain ⟨s8, e8⟩ := fresh_of hp8 hgH8
 clear hgH8
 refine ⟨(by show 2 ≤ sizeLine; decide), fun p9 hp9 => ?_⟩
 generalize hgH9 : upd _ p9 _ = H9
 obtain ⟨s9, e9⟩ := fresh_of hp9 hgH9
 clear hgH9
 refine ⟨p6, p9, _, _, rfl, rfl, s9 _ _ (s8 _ _ (s7 _ _ e6)), e9, (by show 26 ≤ sizeLine; decide), fun p10 hp10 => ?_⟩
 generalize hgH10 : upd _ p10 _ = H10
 obtain ⟨s10, e10⟩ := fresh_of hp10 hgH10
 clear hgH10
 have e4' := s10 _ _ (s9 _ _ (s8 _ _ (s7 _ _ (s6 _ _ (s5 _ _ e4)))))
 have e7' := s10 _ _ (s9 _ _ (s8 _ _ e7))
 have e8' := s10 _ _ (s9 _ _ e8)
 obtain ⟨L, eL, hL, hodd⟩ : ∃ L, H10 p10 = some (.lst L) ∧ L.length = 26 ∧ ∀ v ∈ L, OddV K H10 v := by
  refine ⟨_, e10, rfl, fun v hv => ?_⟩
  simp only [List.cons_append, List.nil_append, List.mem_cons, List.not_mem_nil, or_false] at hv
  rcases hv with rfl | rfl | rfl | rfl | rfl | rfl | rfl | rfl | rfl | rfl | rfl | rfl | rfl | rfl | rfl | rfl | rfl | rfl | rfl | rfl | rfl | rfl | rfl | rfl | rfl | rfl
  iterate 20 exact odd_c (by decide +kernel)
  ·exact .inr ⟨_, .non, rfl⟩
  ·exact .inr ⟨_, .int _, rfl⟩
  ·exact .inr ⟨_, .bl _, rfl⟩
  ·exact .inr ⟨_, .lst e4', rfl⟩
  ·exact .inr ⟨_, .tup e7', rfl⟩
  ·exact .inr ⟨_, .lst e8', rfl⟩
 obtain ⟨j, hj⟩ := Int.eq_ofNat_of_zero_le (show 0 ≤ cell % 26 by omega)
 have hget := List.getElem?_eq_getElem (show j < L.length by omega)
 refine ⟨_, rfl, _, rfl, _, _, rfl, rfl, (by show (0 : Int) < 26; decide), p10, _, _, L[j], rfl, rfl, SqL.of eL, (by show atI L (cell % 26) = _; rw [hj]; exact atI_nat hget), ?_⟩
 exact q _ H10 (s1.trans (s2.trans (s3.trans (s4.trans (s5.trans (s6.trans (s7.trans (s8.trans (s9.trans s10))))))))) (hodd _ (List.getElem_mem _))
end
theorem bt_ValueError : bootBuiltins "ValueError" = some (.type "ValueError") := by decide +kernel
structure Mgs (mg : Str → Option Value) (cf cn cp cb cr ct cx cw cm co : Addr) : Prop where
 ve : mg "ValueError" = none
 f : mg "FordError" = some (.ref cf)
 n : mg "NoNet" = some (.ref cn)
 p : mg "NoPlace" = some (.ref cp)
 b : mg "NoBoard" = some (.ref cb)
 r : mg "NoRoad" = some (.ref cr)
 t : mg "NoTurn" = some (.ref ct)
 x : mg "NoText" = some (.ref cx)
 w : mg "NoRow" = some (.ref cw)
 m : mg "NoName" = some (.ref cm)
 o : mg "NoWindow" = some (.ref co)
structure Knd (K : PySem.W.Frag) (D cf cn cp cb cr ct cw cm co : Addr) : Prop where
 ek : ExK K D
 kf : PySem.W.kitOne K (.ref D) (.ref cf) = some true
 kv : PySem.W.kitOne K (.ref D) (.type "ValueError") = some true
 k1 : PySem.W.kitAny K (.ref D) [.ref cn, .ref cp] = some false
 k2 : PySem.W.kitAny K (.ref D) [.ref cb, .ref cr, .ref ct] = some false
 k3 : PySem.W.kitAny K (.ref D) [.ref cw, .ref cm, .ref co] = some false
theorem fn_ofX {P : Program} {w : World} {K : PySem.W.Frag} {mg : Str → Option Value} {base : Heap} {k : Nat} {f : Addr} {fd : FuncData} {ps : List Str} {sp : Sp} (F : FnOk P w K mg base (CXE P w) k f fd ps sp) : FnOk P w K mg base CX0 k f fd ps (fun vs H Q _ => sp vs H Q (fun _ _ _ => False)) :=
 ⟨fun vs H Q _ h => F.len vs H Q _ h, fun A outer s H args us vs Q E hr he hb hv hs => codeAny_mono (F.run A outer s H args us vs Q (fun _ _ _ => False) hr he hb hv hs) fun r s' h => by
 cases r with
 | error e =>
  obtain ⟨_, _, _, _, _, _, _, _, _, z⟩ := h
  exact z.elim
 | ok fl => cases fl <;> exact h⟩
noncomputable def named82 (due : Str) : List V := [.str due, .bl true, .bl false, .bl false, .bl false]
noncomputable def BadT (K : PySem.W.Frag) (H : Hp) (v : V) : Prop := NoStr K H v ∨ ∃ x : Str, v = .str x ∧ Asc x ∧ x.length ≤ 30000 ∧ ∀ d L, ¬ ShL x.cps.toList d L
noncomputable def spUnder (K : PySem.W.Frag) : Sp := fun vs H Q _ => ∃ v : V, vs = [v] ∧ ((BadT K H v ∧ ∀ (l : Addr) (H' : Hp), Same H H' → H' l = some (.lst (named82 "none")) → Q (.ref l) H') ∨
 ∃ (x : Str) (d : Int) (L : List RoadS), v = .str x ∧ Asc x ∧ x.length ≤ 30000 ∧ ShL x.cps.toList d L ∧ ∀ (l : Addr) (H' : Hp), Same H H' → H' l = some (.lst (named82 "read")) → Q (.ref l) H')
theorem ty_same {K : PySem.W.Frag} {H H' : Hp} {v : V} {t : Value} (h : TyOf K H v t) (s : Same H H') : TyOf K H' v t := by
 cases h with
 | non => exact .non
 | bl x => exact .bl x
 | int i => exact .int i
 | str x => exact .str x
 | flt x => exact .flt x
 | lst e => exact .lst (s _ _ e)
 | frz e => exact .frz (s _ _ e)
 | tup e => exact .tup (s _ _ e)
 | dK e => exact .dK (s _ _ e)
 | dT e => exact .dT (s _ _ e)
 | ins e a b c d f => exact .ins (s _ _ e) a b c d f
theorem NoStr.same {K : PySem.W.Frag} {H H' : Hp} {v : V} (h : NoStr K H v) (s : Same H H') : NoStr K H' v := by
 obtain ⟨t, a, b⟩ := h
 exact ⟨t, ty_same a s, b⟩
section
variable {P : Program} {w : World} {K : PySem.W.Frag} {mg : Str → Option Value} {base : Heap} {f : Addr} {fd : FuncData} {n : Nat} {CT : Addr} {bm : List Value}
theorem ok_under {cf cn cp cb cr ct cw cm co : Addr} (ms : Mgs mg cf cn cp cb cr ct CT cw cm co) (kn : Knd K CT cf cn cp cb cr ct cw cm co) (X_NoText : XCl K mg "NoText" CT bm)
  (F : Fun K "_law_under" "_law_under" st__law_under f fd) (B : Bl mg) (CX_read_net : CalleeX P w K mg base n "read_net" ["text"] (spNetQ K CT)) : FnOk P w K mg base CX0 (n + 1) f fd ["text"] (spUnder K) := by
 refine F.okQ sc__law_under (fun vs H Q E h => ?_) (fun cdv A outer s H vs Q E hr h => ?_)
 ·obtain ⟨_, rfl, _⟩ := h
  rfl
 obtain ⟨v, rfl, alt⟩ := h
 refine ⟨_, (qss_cons (qs_set (i := 1) sc__law_under.nd rfl (Or.inl rfl) (qe_lst (qa_c qe_str (qa_c qe_bl (qa_c qe_bl (qa_c qe_bl (qa_c qe_bl qa_nil))))))) (qss_cons (qs_tryAs (i := 2) (qsx_expr (qex_fn CX_read_net hr rfl (qa_c (qv 0) qa_nil))) X_NoText.1 rfl X_NoText.2 own0 (fun _ => (qss_one (qs_set (i := 1) sc__law_under.nd rfl (Or.inl rfl) (qe_lst (qa_c qe_str (qa_c (qe_and (qe_cb (qcall_isiXK K rfl) rfl B.isinstance bt_isinstance (qa_c (qv 2) (qa_c (qe_cls rfl ms.f) qa_nil))) (qe_one (qe_cb (qcall_isiXK K rfl) rfl B.isinstance bt_isinstance (qa_c (qv 2) (qa_c (qe_tyB rfl ms.ve bt_ValueError) qa_nil))))) (qa_c (qe_cb (qcall_isiXK K rfl) rfl B.isinstance bt_isinstance (qa_c (qv 2) (qa_c (qe_tup (qa_c (qe_cls rfl ms.n) (qa_c (qe_cls rfl ms.p) qa_nil))) qa_nil))) (qa_c (qe_cb (qcall_isiXK K rfl) rfl B.isinstance bt_isinstance (qa_c (qv 2) (qa_c (qe_tup (qa_c (qe_cls rfl ms.b) (qa_c (qe_cls rfl ms.r) (qa_c (qe_cls rfl ms.t) qa_nil)))) qa_nil))) (qa_c (qe_cb (qcall_isiXK K rfl) rfl B.isinstance bt_isinstance (qa_c (qv 2) (qa_c (qe_tup (qa_c (qe_cls rfl ms.w) (qa_c (qe_cls rfl ms.m) (qa_c (qe_cls rfl ms.o) qa_nil)))) qa_nil))) qa_nil))))))))) sc__law_under.nd rfl rfl) (qss_one (qs_ret (qv 1))))), ?_⟩
 try dsimp only [cx_k, cx_kn, as_nil, as_name, Nat.reduceAdd]
 refine ⟨(by show 5 ≤ sizeLine; decide), fun l0 hl0 => ?_⟩
 generalize hgH0 : upd _ l0 _ = H0
 obtain ⟨s0, e0⟩ := fresh_of hl0 hgH0
 clear hgH0
 rcases alt with ⟨bad, q⟩ | ⟨x, d, L, rfl, asc, hle, sh, q⟩
 ·refine ⟨fun cls _ H' => cls = .ref CT ∧ Same H0 H', CT, bm, ?_, fun cls H' z => z.1, X_NoText.1, by simp, ?_⟩
  ·rcases bad with h | ⟨x, rfl, asc, hle, no⟩
   ·exact ⟨_, rfl, _, rfl, .inl ⟨h.same s0, rfl, Same.refl _⟩⟩
   ·exact ⟨_, rfl, _, rfl, .inr ⟨x, rfl, asc, hle, fun d L _ _ _ _ _ sh => absurd sh (no d L), fun _ H' s' => ⟨rfl, s'⟩⟩⟩
  intro a H1 z9 ha;obtain ⟨_, s1⟩ := z9
  have s2 : Same H1 (upd H1 a (.ext (ExQ a CT))) := same_new ha _
  have e2 : upd H1 a (.ext (ExQ a CT)) a = some (.ext (ExQ a CT)) := upd_same
  generalize upd H1 a (.ext (ExQ a CT)) = H2 at *
  refine ⟨_, rfl, a, CT, _, true, rfl, e2, kn.ek, .inl ⟨_, rfl, kn.kf⟩, _, rfl, iteP rfl ⟨_, rfl, a, CT, _, true, rfl, e2, kn.ek, .inl ⟨_, rfl, kn.kv⟩, ?_⟩⟩
  refine ⟨_, rfl, (by show 2 ≤ sizeLine; decide), fun to hto => ?_⟩
  generalize hgH3 : upd _ to _ = H3
  obtain ⟨s3, e3⟩ := fresh_of hto hgH3
  clear hgH3
  refine ⟨a, CT, _, false, rfl, s3 _ _ e2, kn.ek, .inr ⟨to, _, [.ref cn, .ref cp], rfl, SqT.of e3, rfl, kn.k1⟩, ?_⟩
  refine ⟨_, rfl, (by show 3 ≤ sizeLine; decide), fun tp htp => ?_⟩
  generalize hgH4 : upd _ tp _ = H4
  obtain ⟨s4, e4⟩ := fresh_of htp hgH4
  clear hgH4
  refine ⟨a, CT, _, false, rfl, s4 _ _ (s3 _ _ e2), kn.ek, .inr ⟨tp, _, [.ref cb, .ref cr, .ref ct], rfl, SqT.of e4, rfl, kn.k2⟩, ?_⟩
  refine ⟨_, rfl, (by show 3 ≤ sizeLine; decide), fun tq htq => ?_⟩
  generalize hgH5 : upd _ tq _ = H5
  obtain ⟨s5, e5⟩ := fresh_of htq hgH5
  clear hgH5
  refine ⟨a, CT, _, false, rfl, s5 _ _ (s4 _ _ (s3 _ _ e2)), kn.ek, .inr ⟨tq, _, [.ref cw, .ref cm, .ref co], rfl, SqT.of e5, rfl, kn.k3⟩, ?_⟩
  refine ⟨(by show 5 ≤ sizeLine; decide), fun l5 hl5 => ?_⟩
  generalize hgH6 : upd _ l5 _ = H6
  obtain ⟨s6, e6⟩ := fresh_of hl5 hgH6
  clear hgH6
  exact ⟨_, rfl, q l5 H6 (s0.trans (s1.trans (s2.trans (s3.trans (s4.trans (s5.trans s6)))))) e6⟩
 ·refine ⟨fun _ _ _ => False, CT, bm, ?_, fun cls H' z => z.elim, X_NoText.1, by simp, fun a H1 z => z.elim⟩
  exact ⟨_, rfl, _, rfl, .inr ⟨x, rfl, asc, hle, fun d' L' r pn pr M H' _ s' _ _ _ _ => ⟨_, rfl, q l0 H' (s0.trans s') (s' _ _ e0)⟩, fun no => absurd sh (no d L)⟩⟩
end
noncomputable def StN (k : Nat) (i : Int) (k' : Nat) : Prop := (0 ≤ i ∧ i < (k : Int) ∧ k' = k) ∨ (i = (k : Int) ∧ k' = k + 1)
noncomputable def AC : Nat → List RdT → Nat → Prop
 | k, [], k' => k = k'
 | k, m :: N, k' => ∃ k1 k2, StN k m.1 k1 ∧ StN k1 m.2.1 k2 ∧ AC k2 N k'
theorem StN.le {k k' : Nat} {i : Int} (h : StN k i k') : k ≤ k' := by
 rcases h with ⟨_, _, e⟩ | ⟨_, e⟩ <;> omega
theorem AC.le : ∀ {N : List RdT} {k k' : Nat}, AC k N k' → k ≤ k'
 | [], k, k', h => Nat.le_of_eq h
 | m :: N, k, k', ⟨k1, k2, h1, h2, h⟩ => Nat.le_trans h1.le (Nat.le_trans h2.le (AC.le h))
theorem nm_get {names : List Str} {j : Nat} (h : j < names.length) : nmT names (j : Int) = names[j] := by
 simp [nmT, List.getD, List.getElem?_eq_getElem h]
noncomputable def addN (os : List Int) (x : Int) : List Int := if x ∈ os then os else os ++ [x]
noncomputable def ordF (os : List Int) (N : List RdT) : List Int := N.foldl (fun os m => addN (addN os m.1) m.2.1) os
noncomputable abbrev ordR (N : List RdT) : List Int := ordF [] N
noncomputable def cmS (os : List Int) (m : RdT) : Int × Int × List T3 := (((os.idxOf m.1 : Nat) : Int), ((os.idxOf m.2.1 : Nat) : Int), m.2.2.2)
theorem addN_mem {os : List Int} {x : Int} : x ∈ addN os x := by
 unfold addN
 split
 ·assumption
 ·simp
theorem addN_pre (os : List Int) (x : Int) : os <+: addN os x := by
 unfold addN
 split
 ·exact List.prefix_rfl
 ·exact List.prefix_append _ _
theorem addN_len (os : List Int) (x : Int) : (addN os x).length ≤ os.length + 1 := by
 unfold addN
 split
 ·omega
 ·simp
theorem ordF_pre : ∀ (N : List RdT) (os : List Int), os <+: ordF os N
 | [], os => List.prefix_rfl
 | m :: N, os => ((addN_pre os m.1).trans (addN_pre _ m.2.1)).trans (ordF_pre N _)
theorem ordF_len : ∀ (N : List RdT) (os : List Int), (ordF os N).length ≤ os.length + 2 * N.length
 | [], os => by simp [ordF]
 | m :: N, os => by
  have h := ordF_len N (addN (addN os m.1) m.2.1)
  have h1 := addN_len os m.1
  have h2 := addN_len (addN os m.1) m.2.1
  show (ordF (addN (addN os m.1) m.2.1) N).length ≤ _
  rw [List.length_cons]
  omega
theorem addN_in {os : List Int} {x : Int} {P : Int → Prop} (h : ∀ y ∈ os, P y) (hx : P x) : ∀ y ∈ addN os x, P y := fun y hy => by
 unfold addN at hy
 split at hy
 ·exact h y hy
 ·rcases List.mem_append.mp hy with z | z
  ·exact h y z
  ·rw [List.mem_singleton] at z
   subst z
   exact hx
theorem ordF_in {P : Int → Prop} : ∀ (N : List RdT) (os : List Int), (∀ y ∈ os, P y) → (∀ m ∈ N, P m.1 ∧ P m.2.1) → ∀ y ∈ ordF os N, P y
 | [], os, h, _ => h
 | m :: N, os, h, hN => ordF_in N _ (addN_in (addN_in h (hN m (List.mem_cons_self ..)).1) (hN m (List.mem_cons_self ..)).2) fun x hx => hN x (List.mem_cons_of_mem _ hx)
theorem ordF_has : ∀ (N : List RdT) (os : List Int), ∀ m ∈ N, m.1 ∈ ordF os N ∧ m.2.1 ∈ ordF os N
 | [], os, m, hm => by cases hm
 | a :: N, os, m, hm => by
  rcases List.mem_cons.mp hm with rfl | hm
  ·have h := ordF_pre N (addN (addN os m.1) m.2.1)
   exact ⟨h.subset ((addN_pre _ m.2.1).subset addN_mem), h.subset addN_mem⟩
  ·exact ordF_has N _ m hm
theorem ordF_snoc (N : List RdT) (os : List Int) (m : RdT) : ordF os (N ++ [m]) = addN (addN (ordF os N) m.1) m.2.1 := by
 unfold ordF
 rw [List.foldl_append]
 rfl
theorem idx_step {os full : List Int} {x : Int} (h : addN os x <+: full) : StN os.length ((full.idxOf x : Nat) : Int) (addN os x).length := by
 obtain ⟨rest, e⟩ := h
 unfold addN at e ⊢
 split at e
 ·rename_i hx
  rw [if_pos hx]
  refine .inl ⟨by omega, ?_, rfl⟩
  rw [← e, List.idxOf_append, if_pos hx]
  have := List.idxOf_lt_length_of_mem hx
  omega
 ·rename_i hx
  rw [if_neg hx]
  refine .inr ⟨?_, by simp⟩
  rw [← e, List.append_assoc, List.idxOf_append, if_neg hx]
  simp
theorem ac_of : ∀ (N M : List RdT) (os full : List Int), ordF os N = full → M.map strip = N.map (cmS full) → AC os.length M full.length
 | [], M, os, full, e, h => by
  have : M = [] := by simpa using h
  subst this
  exact congrArg List.length e
 | m :: N, [], os, full, e, h => by simp at h
 | m :: N, a :: M, os, full, e, h => by
  rw [List.map_cons, List.map_cons] at h
  injection h with h1 h2
  have e' : ordF (addN (addN os m.1) m.2.1) N = full := e
  have p2 := ordF_pre N (addN (addN os m.1) m.2.1)
  rw [e'] at p2
  have p1 := (addN_pre (addN os m.1) m.2.1).trans p2
  simp only [strip, cmS, Prod.mk.injEq] at h1
  refine ⟨(addN os m.1).length, (addN (addN os m.1) m.2.1).length, ?_, ?_, ac_of N M _ full e' h2⟩
  ·rw [h1.1]
   exact idx_step p1
  ·rw [h1.2.1]
   exact idx_step p2
noncomputable def spCome81 : Sp := fun vs H Q _ => ∃ (p : Addr) (N : List RdT), vs = [.ref p] ∧ NA H p N ∧ N.length ≤ 100 ∧ (∀ m ∈ N, (0 ≤ m.1 ∧ m.1 < 4) ∧ (0 ≤ m.2.1 ∧ m.2.1 < 4)) ∧
 ∀ (l : Addr) (M : List RdT) (H' : Hp), Same H H' → NA H' l M → M.map strip = N.map (cmS (ordR N)) → Q (.ref l) H'
section
variable {P : Program} {w : World} {K : PySem.W.Frag} {mg : Str → Option Value} {base : Heap} {f : Addr} {fd : FuncData} {n : Nat}
theorem ok_come81 (F : Fun K "_law_as_they_come" "_law_as_they_come" st__law_as_they_come f fd) (B : Bl mg) : FnOk P w K mg base CX0 (n + 1) f fd ["roads"] spCome81 := by
 refine F.okQ sc__law_as_they_come (fun vs H Q E h => ?_) (fun cdv A outer s H vs Q E hr h => ?_)
 ·obtain ⟨_, _, rfl, _⟩ := h
  rfl
 obtain ⟨pr, N, rfl, hN, hl, hin, q⟩ := h
 refine ⟨_, (qss_cons (qs_set (i := 1) sc__law_as_they_come.nd rfl (Or.inr rfl) (qe_lst qa_nil)) (qss_cons (qs_for PassesOwn.never rfl (qi_list (qv 0)) (qg_tup rfl (qgs_cons (qg_name (i := 2) sc__law_as_they_come.nd rfl (Or.inl rfl)) (qgs_cons (qg_name (i := 3) sc__law_as_they_come.nd rfl (Or.inl rfl)) (qgs_cons (qg_name (i := 4) sc__law_as_they_come.nd rfl (Or.inl rfl)) qgs_nil)))) (qss_one (qs_for PassesOwn.never rfl (qi_list (qe_lst (qa_c (qv 2) (qa_c (qv 3) qa_nil)))) (qg_name (i := 5) sc__law_as_they_come.nd rfl (Or.inl rfl)) (qss_one (qs_if (qt_cmpR qop_notInL (qv 5) (qv 1) rfl) (qss_one (qs_expr (qe_append (qv 1) (qa_c (qv 5) qa_nil)))) qss_nil))))) (qss_one (qs_ret (qe_comp ["start", "end", "board", "order"] [none, none, none, some 1] (BlkOk.of rfl rfl (SubL.to (subC rfl subN)) rfl) rfl (qi_list (qv 0)) (fun _ _ _ _ => (qg_tupK (n := 3) K rfl rfl (qgs_cons (qg_name (i := 0) (show (["start", "end", "board", "order"] : List Str).Nodup by decide) rfl (Or.inl rfl)) (qgs_cons (qg_name (i := 1) (show (["start", "end", "board", "order"] : List Str).Nodup by decide) rfl (Or.inl rfl)) (qgs_cons (qg_name (i := 2) (show (["start", "end", "board", "order"] : List Str).Nodup by decide) rfl (Or.inl rfl)) qgs_nil))))) (fun _ _ _ _ => (qe_tup (qa_c (qe_indexK K rfl (qv 3) (qa_c (qv 0) qa_nil)) (qa_c (qe_indexK K rfl (qv 3) (qa_c (qv 1) qa_nil)) (qa_c (qe_ct (qcall_listK K rfl) rfl B.list_ bt_list (qa_c (qv 2) qa_nil)) qa_nil)))))))))), ?_⟩
 try dsimp only [cx_k, cx_kn, as_nil, as_name, Nat.reduceAdd]
 refine ⟨(by show 0 ≤ sizeLine; decide), fun po hpo => ?_⟩
 generalize hgH1 : upd _ po _ = H1
 obtain ⟨s1, e1⟩ := fresh_of hpo hgH1
 clear hgH1
 obtain ⟨ws, hw1, hw2, hw3⟩ := hN.la.lst
 rw [List.length_map] at hw2
 refine ⟨_, rfl, pr, rfl, ⟨_, SqL.of (s1 _ _ hw1)⟩, for_list (K := K) (a := pr) (xs := ws)
  (fun i σ H' => ∃ v1 v2 v3 v4 : Option V, σ = [some (.ref pr), some (.ref po), v1, v2, v3, v4] ∧ Same H H' ∧ H' po = some (.lst ((ordR (N.take i)).map V.int)))
  ⟨_, _, _, _, rfl, s1, e1⟩ (fun i σ H' _ ⟨_, _, _, _, _, s, _⟩ => SqL.of (s _ _ hw1)) ?_ ?_⟩
 ·intro i y σ H2 hi z9;obtain ⟨v1, v2, v3, v4, rfl, s2, e2⟩ := z9
  have ol0 : (ordR (N.take i)).length ≤ 2 * i := by
   have := ordF_len (N.take i) []
   rw [List.length_take, List.length_nil] at this
   show (ordF [] (N.take i)).length ≤ _
   omega
  generalize hos : ordR (N.take i) = os at *
  obtain ⟨r, x, rfl, ex, er⟩ := hw3 i y hi
  have hi2 : i < N.length := by
   have := (List.getElem?_eq_some_iff.mp hi).1
   omega
  have em := List.getElem?_eq_getElem hi2
  rw [List.getElem?_map, em] at ex
  cases ex
  have et : N.take (i + 1) = N.take i ++ [N[i]] := by rw [List.take_add_one, em]; rfl
  obtain ⟨g1, g2⟩ := hin _ (List.getElem_mem hi2)
  rw [et]
  generalize hm : N[i] = m at *
  have er : H r = some (.tup [.int m.1, .int m.2.1, .ref m.2.2.1]) := er
  refine ⟨r, _, rfl, SqT.of (s2 _ _ er), rfl, _, _, rfl, _, _, rfl, _, _, rfl, rfl, ?_⟩
  refine ⟨_, rfl, _, rfl, (by show 2 ≤ sizeLine; decide), fun p3 hp3 => ?_⟩
  generalize hgH3 : upd _ p3 _ = H3
  obtain ⟨s3, e3⟩ := fresh_of hp3 hgH3
  clear hgH3
  have np : p3 ≠ po := fun z => by rw [z, e2] at hp3; cases hp3
  refine ⟨p3, rfl, ⟨_, SqL.of e3⟩, for_list (K := K) (a := p3) (xs := [V.int m.1, V.int m.2.1])
   (fun j σ H' => ∃ v4 : Option V, σ = [some (.ref pr), some (.ref po), some (.int m.1), some (.int m.2.1), some (.ref m.2.2.1), v4] ∧ Same H H' ∧ H' p3 = some (.lst [V.int m.1, V.int m.2.1]) ∧ H' po = some (.lst ((match j with | 0 => os | 1 => addN os m.1 | _ => addN (addN os m.1) m.2.1).map V.int)))
   ⟨_, rfl, s2.trans s3, e3, s3 _ _ e2⟩ (fun j σ H' _ ⟨_, _, _, e, _⟩ => SqL.of e) ?_ ?_⟩
  ·intro j z σ H4 hj z9;obtain ⟨v4, rfl, s4, e4, e5⟩ := z9
   obtain ⟨pl, o1, rfl, ol, eo, en⟩ : ∃ (pl : Int) (o1 : List Int), z = .int pl ∧ o1.length ≤ 1000 ∧ (match j with | 0 => os | 1 => addN os m.1 | _ => addN (addN os m.1) m.2.1) = o1 ∧ (match j + 1 with | 0 => os | 1 => addN os m.1 | _ => addN (addN os m.1) m.2.1) = addN o1 pl := by
    match j, hj with
    | 0, hj => cases hj; exact ⟨_, os, rfl, by omega, rfl, rfl⟩
    | 1, hj => cases hj; exact ⟨_, addN os m.1, rfl, by have := addN_len os m.1; omega, rfl, rfl⟩
    | j + 2, hj => simp at hj
   rw [eo] at e5
   rw [en]
   refine ⟨_, rfl, _, rfl, po, _, rfl, .inl (SqL.of e5), rfl, flat_ints _, _, rfl, ?_⟩
   rw [in_ints]
   refine ite2 (fun c => ?_) (fun c => ?_)
   ·have c' : pl ∉ o1 := by
     have : (if true = true then !decide (pl ∈ o1) else decide (pl ∈ o1)) = true := c
     simpa using this
    refine ⟨_, rfl, .inl ⟨rfl, _, SqL.of e5⟩, _, rfl, po, _, _, rfl, rfl, e5, line_of (by rw [List.length_map]; omega), ?_⟩
    refine ⟨_, rfl, same_wr hpo s4, by rw [upd_ne np]; exact e4, ?_⟩
    rw [upd_same, show addN o1 pl = o1 ++ [pl] from if_neg c', List.map_append]
    rfl
   ·have c' : pl ∈ o1 := by
     have : (if true = true then !decide (pl ∈ o1) else decide (pl ∈ o1)) ≠ true := c
     simpa using this
    exact ⟨_, rfl, s4, e4, by rw [show addN o1 pl = o1 from if_pos c']; exact e5⟩
  ·intro σ H4 z9;obtain ⟨v4, rfl, s4, e4, e5⟩ := z9
   refine ⟨_, _, _, _, rfl, s4, ?_⟩
   have e9 : ordR (N.take i ++ [m]) = addN (addN os m.1) m.2.1 := by
    rw [← hos]
    exact ordF_snoc _ _ _
   rw [e9]
   exact e5
 intro σ H2 z9;obtain ⟨v1, v2, v3, v4, rfl, s2, e2⟩ := z9
 rw [hw2, List.take_length] at e2
 have ol : (ordR N).length ≤ 2 * N.length := by
  have := ordF_len N []
  rw [List.length_nil] at this
  show (ordF [] N).length ≤ _
  omega
 have oin : ∀ x ∈ ordR N, 0 ≤ x ∧ x < 4 := ordF_in (P := fun x => 0 ≤ x ∧ x < 4) N [] (by simp) hin
 have oall : ∀ m ∈ N, m.1 ∈ ordR N ∧ m.2.1 ∈ ordR N := ordF_has N []
 generalize hos : ordR N = os at *
 have hlay := lay_ok oin (by omega)
 have hw12 := s2 _ _ hw1
 refine ⟨_, rfl, pr, rfl, ⟨_, SqL.of hw12⟩, ?_⟩
 refine comp_list0 (K := K) (a := pr) (xs := ws) (fun D i H' => Same H2 H' ∧ ∃ M, NA H' D M ∧ M.map strip = (N.take i).map (cmS os)) (fun D hD => ⟨same_new hD _, [], NA.nil upd_same, rfl⟩) (fun D i H' _ _ h => SqL.of (h.1 _ _ hw12)) ?_ ?_
 ·intro D i y H' hD hi z9;obtain ⟨sD, M, hM, eM⟩ := z9
  obtain ⟨r, x, rfl, ex, er⟩ := hw3 i y hi
  have hi2 : i < N.length := by
   have := (List.getElem?_eq_some_iff.mp hi).1
   omega
  have em := List.getElem?_eq_getElem hi2
  rw [List.getElem?_map, em] at ex
  cases ex
  have hmem := List.getElem_mem hi2
  have et : N.take (i + 1) = N.take i ++ [N[i]] := by rw [List.take_add_one, em]; rfl
  rw [et]
  have ml : M.length = i := by
   have := congrArg List.length eM
   rw [List.length_map, List.length_map, List.length_take] at this
   omega
  have hb := ((hN.bd _ hmem).1.same s2).same sD
  obtain ⟨q1, q2⟩ := oall _ hmem
  generalize hm : N[i] = m at *
  have er : H' r = some (.tup [.int m.1, .int m.2.1, .ref m.2.2.1]) := sD _ _ (s2 _ _ er)
  have i1 := List.idxOf_lt_length_of_mem q1
  have i2 := List.idxOf_lt_length_of_mem q2
  refine ⟨r, _, rfl, SqT.of er, rfl, _, _, rfl, _, _, rfl, _, _, rfl, rfl, fun k v e => ?_, ?_⟩
  ·match k, e with
   | 0, e => cases e
   | 1, e => cases e
   | 2, e => cases e
   | 3, e => exact e
   | k + 4, e => cases e
  obtain ⟨bs, hb1, hb2, hb3⟩ := hb.lst
  have e2' := sD _ _ e2
  refine ⟨_, rfl, .inl ⟨rfl, _, SqL.of e2'⟩, _, rfl, po, m.1, os, rfl, rfl, SqL.of e2', hlay, q1, _, rfl, .inl ⟨rfl, _, SqL.of e2'⟩, _, rfl, po, m.2.1, os, rfl, rfl, SqL.of e2', hlay, q2, _, rfl, m.2.2.1, _, rfl, .inl (SqL.of hb1), fun p1 hp1 => ?_⟩
  have fb := hM.fresh hp1
  generalize hgH3 : upd _ p1 _ = H3
  obtain ⟨s3, e3⟩ := fresh_of hp1 hgH3
  clear hgH3
  have hc := hb.copy s3 hb1 e3
  refine ⟨(by show 3 ≤ sizeLine; decide), fun rr hrr => ?_⟩
  generalize hgH4 : upd _ rr _ = H4
  obtain ⟨s4, e4⟩ := fresh_of hrr hgH4
  clear hgH4
  obtain ⟨vs, hv1, hv2, _⟩ := ((hM.same s3).same s4).la.lst
  rw [List.length_map] at hv2
  refine ⟨_, hv1, line_of (by omega), same_wr hD ((sD.trans s3).trans s4), M ++ [(((os.idxOf m.1 : Nat) : Int), ((os.idxOf m.2.1 : Nat) : Int), p1, m.2.2.2)], ((hM.same s3).same s4).add fb hv1 (hc.same s4) e4, ?_⟩
  rw [List.map_append, List.map_append, eM]
  rfl
 ·intro D H' hD z9;obtain ⟨sD, M, hM, eM⟩ := z9
  rw [hw2, List.take_length] at eM
  exact q D M H' (s2.trans sD) hM eM
noncomputable def spMany81 : Sp := fun vs H Q _ => ∃ (p : Addr) (N : List RdT) (k : Nat), vs = [.ref p] ∧ NA H p N ∧ AC 0 N k ∧ Q (.int (k : Int)) H
theorem ok_many81 (F : Fun K "_law_many" "_law_many" st__law_many f fd) (B : Bl mg) : FnOk P w K mg base CX0 (n + 1) f fd ["roads"] spMany81 := by
 refine F.okQ sc__law_many (fun vs H Q E h => ?_) (fun cdv A outer s H vs Q E hr h => ?_)
 ·obtain ⟨_, _, _, rfl, _⟩ := h
  rfl
 obtain ⟨pr, N, kk, rfl, hN, ac0, q⟩ := h
 refine ⟨_, (qss_cons (qs_set (i := 1) sc__law_many.nd rfl (Or.inl rfl) qe_int) (qss_cons (qs_for PassesOwn.never rfl (qi_list (qv 0)) (qg_tup rfl (qgs_cons (qg_name (i := 2) sc__law_many.nd rfl (Or.inl rfl)) (qgs_cons (qg_name (i := 3) sc__law_many.nd rfl (Or.inl rfl)) (qgs_cons (qg_name (i := 4) sc__law_many.nd rfl (Or.inl rfl)) qgs_nil)))) (qss_one (qs_set (i := 1) sc__law_many.nd rfl (Or.inl rfl) (qe_cb (qcall_max3 rfl) rfl B.max bt_max (qa_c (qv 1) (qa_c (qe_op qop_add (qv 2) qe_int) (qa_c (qe_op qop_add (qv 3) qe_int) qa_nil))))))) (qss_one (qs_ret (qv 1))))), ?_⟩
 try dsimp only [cx_k, cx_kn, as_nil, as_name, Nat.reduceAdd]
 obtain ⟨ws, hw1, hw2, hw3⟩ := hN.la.lst
 rw [List.length_map] at hw2
 refine ⟨_, rfl, pr, rfl, ⟨_, SqL.of hw1⟩, for_list (K := K) (a := pr) (xs := ws)
  (fun i σ H' => H' = H ∧ ∃ (k : Nat) (v1 v2 v3 : Option V), σ = [some (.ref pr), some (.int (k : Int)), v1, v2, v3] ∧ AC k (N.drop i) kk)
  ⟨rfl, 0, _, _, _, rfl, ac0⟩ (fun i σ H' _ h => by rw [h.1]; exact SqL.of hw1) ?_ ?_⟩
 ·intro i y σ H' hi z9;obtain ⟨rfl, k, v1, v2, v3, rfl, ac⟩ := z9
  obtain ⟨r, x, rfl, ex, er⟩ := hw3 i y hi
  have hi2 : i < N.length := by
   have := (List.getElem?_eq_some_iff.mp hi).1
   omega
  have em := List.getElem?_eq_getElem hi2
  rw [List.getElem?_map, em] at ex
  cases ex
  rw [List.drop_eq_getElem_cons hi2] at ac
  generalize hm : N[i] = m at *
  obtain ⟨k1, k2, st1, st2, ac⟩ := ac
  have er : H' r = some (.tup [.int m.1, .int m.2.1, .ref m.2.2.1]) := er
  refine ⟨r, _, rfl, SqT.of er, rfl, _, _, rfl, _, _, rfl, _, _, rfl, rfl, ?_⟩
  refine ⟨_, rfl, _, rfl, _, _, rfl, rfl, _, rfl, _, _, rfl, rfl, _, _, _, rfl, fun M l1 l2 l3 l4 => ?_⟩
  have eM : M = (k2 : Int) := by
   rcases st1 with ⟨_, _, e1⟩ | ⟨_, e1⟩ <;> rcases st2 with ⟨_, _, e2⟩ | ⟨_, e2⟩ <;> omega
  rw [eM]
  exact ⟨rfl, k2, _, _, _, rfl, ac⟩
 ·intro σ H' z9;obtain ⟨rfl, k, v1, v2, v3, rfl, ac⟩ := z9
  rw [hw2, List.drop_length] at ac
  have : k = kk := ac
  subst this
  exact ⟨_, rfl, q⟩
end
theorem letter81 {j : Int} (h0 : 0 ≤ j) (h1 : j < 26) : atI lettersT.cps.toList j = some (97 + j.toNat) := by
 obtain ⟨k, rfl⟩ := Int.eq_ofNat_of_zero_le h0
 have all : ∀ k : Fin 26, lettersT.cps.toList[k.val]? = some (97 + k.val) := by decide +kernel
 exact atI_nat (all ⟨k, by omega⟩)
noncomputable def lowS (x : Str) : Prop := ∀ c ∈ x.cps.toList, 97 ≤ c ∧ c ≤ 122
theorem lowS.app {x y : Str} (h : lowS x) (h' : lowS y) : lowS (x ++ y) := fun c hc => by
 rcases app_mem.mp hc with hc | hc
 ·exact h c hc
 ·exact h' c hc
theorem lowS.slice {x : Str} (h : lowS x) (l u : Option Int) : lowS (Txt.slice x l u) := fun c hc => by
 unfold Txt.slice at hc
 split at hc
 ·exact h c hc
 ·have hc : c ∈ (Builtin.Str.strSliceIndices l u 1 x.length).filterMap (x.cps[·]?) := by simpa using hc
  obtain ⟨i, _, e⟩ := List.mem_filterMap.mp hc
  exact h c (Array.mem_toList_iff.mpr (Array.mem_of_getElem? e))
theorem lowS.mul {x : Str} (h : lowS x) (h1 : 1 ≤ x.length) : lowS (Txt.mul x 8) ∧ (Txt.mul x 8).length = 8 * x.length := by
 unfold Txt.mul
 rw [if_neg (by decide), if_neg (by simp; omega)]
 have e : (List.replicate (8 : Int).toNat x.cps).foldl (· ++ ·) #[] = x.cps ++ x.cps ++ x.cps ++ x.cps ++ x.cps ++ x.cps ++ x.cps ++ x.cps := by
  show (((((((#[] ++ x.cps) ++ x.cps) ++ x.cps) ++ x.cps) ++ x.cps) ++ x.cps) ++ x.cps) ++ x.cps = _
  rw [Array.empty_append]
 rw [e]
 refine ⟨fun c hc => ?_, ?_⟩
 ·have hc : c ∈ (x.cps ++ x.cps ++ x.cps ++ x.cps ++ x.cps ++ x.cps ++ x.cps ++ x.cps).toList := hc
  simp only [Array.toList_append, List.mem_append] at hc
  refine h c ?_
  rcases hc with ((((((hc | hc) | hc) | hc) | hc) | hc) | hc) | hc <;> exact hc
 ·show (x.cps ++ x.cps ++ x.cps ++ x.cps ++ x.cps ++ x.cps ++ x.cps ++ x.cps).size = 8 * x.cps.size
  simp only [Array.size_append]
  omega
theorem slice_len {x : Str} {j : Int} (h0 : 0 ≤ j) (h1 : j ≤ x.length) : ((Txt.slice x none (some j)).length : Int) = j := by
 have hi : Builtin.Str.strSliceIndices none (some j) 1 x.length = List.range j.toNat := by
  unfold Builtin.Str.strSliceIndices sliceRange
  simp only [show (1 : Int) > 0 by decide, if_true]
  rw [show (if j < 0 then j + (x.length : Int) else j) = j from if_neg (by omega), show max 0 (min j (x.length : Int)) = j by omega]
  have ec : (if (0 : Int) < j then (j - 0 + 1 - 1) / 1 else 0).toNat = j.toNat := by
   split
   ·rw [Int.ediv_one]
    congr 1
    omega
   ·omega
  rw [ec]
  refine List.ext_getElem? fun k => ?_
  rw [List.getElem?_map]
  by_cases c : k < j.toNat
  ·rw [List.getElem?_range c]
   simp
  ·rw [List.getElem?_eq_none (by simpa using c)]
   rfl
 unfold Txt.slice
 rw [hi]
 split
 ·rename_i c
  have : j.toNat = x.length := by simpa using c
  omega
 ·show ((((List.range j.toNat).filterMap (x.cps[·]?)).toArray.size : Nat) : Int) = j
  rw [List.size_toArray]
  have : ∀ m : Nat, m ≤ x.cps.size → ((List.range m).filterMap (x.cps[·]?)).length = m := by
   intro m
   induction m with
   | zero => intro _; rfl
   | succ m ih =>
    intro hm
    rw [List.range_succ, List.filterMap_append, List.length_append, ih (by omega)]
    simp [Array.getElem?_eq_getElem (show m < x.cps.size by omega)]
  rw [this j.toNat (by have : x.length = x.cps.size := rfl; omega)]
  omega
noncomputable def fRest (cell : Int) : Nat → Int
 | 0 => cell / 192
 | j + 1 => fRest cell j / 26
noncomputable def NmD (cell at_ : Int) (k : Nat) (y : Str) : Prop := (cell % 3 ≠ 1 → y.cps.toList[at_.toNat]? = some (97 + ((fRest cell at_.toNat + at_ + (k : Int)) % 26).toNat)) ∧ (cell % 3 = 1 → (y.length : Int) = 1 + ((k : Int) + cell / 24) % 8)
theorem nm_nodup {cell at_ : Int} {xs : List Str} (hl : xs.length ≤ 8) (h : ∀ (k : Nat) y, xs[k]? = some y → NmD cell at_ k y) : xs.Nodup := by
 refine List.pairwise_iff_getElem.mpr fun i j hi hj hij ey => ?_
 have hi' := List.getElem?_eq_getElem hi
 have hj' := List.getElem?_eq_getElem hj
 have a := h i _ hi'
 have b := h j _ hj'
 rw [ey] at a
 by_cases c : cell % 3 = 1
 ·have a2 := a.2 c
  have b2 := b.2 c
  omega
 ·have a1 := a.1 c
  have b1 := b.1 c
  rw [a1] at b1
  have := Option.some.inj b1
  omega
noncomputable def spNames81 : Sp := fun vs H Q _ => ∃ cell many : Int, vs = [.int cell, .int many] ∧ 0 ≤ many ∧ many ≤ 8 ∧ ∀ (l : Addr) (xs : List Str) (H' : Hp), Same H H' → H' l = some (.lst (xs.map V.str)) → xs.length = many.toNat → (∀ x ∈ xs, Low x) → xs.Nodup → Q (.ref l) H'
section
variable {P : Program} {w : World} {K : PySem.W.Frag} {mg : Str → Option Value} {base : Heap} {f : Addr} {fd : FuncData} {n : Nat}
theorem ok_names81 (F : Fun K "_law_names" "_law_names" st__law_names f fd) (B : Bl mg) : FnOk P w K mg base CX0 (n + 1) f fd ["cell", "many"] spNames81 := by
 refine F.okQ sc__law_names (fun vs H Q E h => ?_) (fun cdv A outer s H vs Q E hr h => ?_)
 ·obtain ⟨_, _, rfl, _⟩ := h
  rfl
 obtain ⟨cell, many, rfl, m0, m1, q⟩ := h
 refine ⟨_, (qss_cons (qs_set (i := 2) sc__law_names.nd rfl (Or.inl rfl) qe_str) (qss_cons (qs_set (i := 3) sc__law_names.nd rfl (Or.inl rfl) (qe_op qop_add qe_int (qe_op qop_mod (qe_op qop_fdivB (qv 0) qe_int) qe_int))) (qss_cons (qs_set (i := 4) sc__law_names.nd rfl (Or.inl rfl) (qe_op qop_mod (qe_op qop_fdivB (qv 0) qe_int) (qv 3))) (qss_cons (qs_set (i := 5) sc__law_names.nd rfl (Or.inl rfl) (qe_lst qa_nil)) (qss_cons (qs_for PassesOwn.never rfl (qi_range1 rfl B.range (qa_c (qv 1) qa_nil)) (qg_name (i := 6) sc__law_names.nd rfl (Or.inl rfl)) (qss_cons (qs_set (i := 7) sc__law_names.nd rfl (Or.inl rfl) (qe_op qop_fdivB (qv 0) qe_int)) (qss_cons (qs_set (i := 8) sc__law_names.nd rfl (Or.inl rfl) qe_str) (qss_cons (qs_for PassesOwn.never rfl (qi_range1 rfl B.range (qa_c (qv 3) qa_nil)) (qg_name (i := 9) sc__law_names.nd rfl (Or.inl rfl)) (qss_cons (qs_set (i := 10) sc__law_names.nd rfl (Or.inl rfl) (qe_op qop_add (qv 7) (qv 9))) (qss_cons (qs_set (i := 7) sc__law_names.nd rfl (Or.inl rfl) (qe_op qop_fdivB (qv 7) qe_int)) (qss_cut (qs_if (qt_cut (QW.pt (qw_and (qt_cmpR qop_eq (qv 9) (qv 4) (nomark _)) (qw_and1 (qt_cmpR qop_ne (qe_op qop_mod (qv 0) qe_int) qe_int (nomark _)))))) (qss_one (qs_set (i := 10) sc__law_names.nd rfl (Or.inl rfl) (qe_op qop_add (qv 10) (qv 6)))) qss_nil) (qss_cut (qs_if (qt_cut (QW.pt (qw_and (qt_cmpR qop_ne (qv 9) (qv 4) (nomark _)) (qw_and1 (qt_cmpR qop_eq (qe_op qop_mod (qv 0) qe_int) qe_int (nomark _)))))) (qss_one (qs_set (i := 10) sc__law_names.nd rfl (Or.inl rfl) (qe_op qop_add (qv 10) (qe_op qop_mul (qe_op qop_mul qe_int (qv 6)) (qe_op qop_add (qv 9) qe_int))))) qss_nil) (qss_one (qs_set (i := 8) sc__law_names.nd rfl (Or.inl rfl) (qe_op qop_addS (qv 8) (qe_ix qix_str (qv 2) (qe_op qop_mod (qv 10) qe_int) (fun _ _ => rfl)))))))))) (qss_cut (qs_if (qt_cmpR qop_eq (qe_op qop_mod (qv 0) qe_int) qe_int (nomark _)) (qss_one (qs_set (i := 8) sc__law_names.nd rfl (Or.inl rfl) (qe_slS (qe_op qop_mulS (qv 8) qe_int) qo_none (qo_some (qe_op qop_add qe_int (qe_op qop_mod (qe_op qop_add (qv 6) (qe_op qop_fdivB (qv 0) qe_int)) qe_int)))))) qss_nil) (qss_one (qs_expr (qe_append (qv 5) (qa_c (qv 8) qa_nil))))))))) (qss_one (qs_ret (qv 5)))))))), ?_⟩
 try dsimp only [cx_k, cx_kn, as_nil, as_name, Nat.reduceAdd]
 have z8 := emod_b (cell / 3) (show (0 : Int) < 8 by decide)
 refine ⟨_, rfl, _, _, rfl, rfl, ⟨by decide, by decide⟩, _, _, rfl, rfl, (by show (0 : Int) < 8; decide), _, _, rfl, rfl, ?_⟩
 dsimp only
 generalize hsz : 1 + cell / 3 % 8 = size
 refine ⟨_, rfl, _, _, rfl, rfl, ⟨by decide, by decide⟩, _, rfl, _, _, rfl, rfl, (by show (0 : Int) < size; omega), ?_⟩
 dsimp only
 have ab := emod_b (cell / 24) (show (0 : Int) < size by omega)
 generalize cell / 24 % size = at_ at ab
 refine ⟨(by show 0 ≤ sizeLine; decide), fun pn hpn => ?_⟩
 generalize hgH1 : upd _ pn _ = H1
 obtain ⟨s1, e1⟩ := fresh_of hpn hgH1
 clear hgH1
 refine ⟨_, rfl, many, rfl, by omega, by omega, for_range (lo := 0) (n := many.toNat)
  (fun i σ H' => ∃ (xs : List Str) (v1 v2 v3 v4 v5 : Option V), σ = [some (.int cell), some (.int many), some (.str lettersT), some (.int size), some (.int at_), some (.ref pn), v1, v2, v3, v4, v5] ∧ Same H H' ∧ H' pn = some (.lst (xs.map V.str)) ∧ xs.length = i ∧ (∀ x ∈ xs, Low x) ∧ ∀ (k : Nat) y, xs[k]? = some y → NmD cell at_ k y)
  ⟨[], _, _, _, _, _, rfl, s1, e1, rfl, by simp, by simp⟩ ?_ ?_⟩
 ·intro i σ H2 hi z9;obtain ⟨xs, v1, v2, v3, v4, v5, rfl, s2, e2, xl, xall, xd⟩ := z9
  rw [show (0 : Int) + ((i : Nat) : Int) = (i : Int) by omega]
  refine ⟨_, rfl, _, _, rfl, rfl, ⟨by decide, by decide⟩, ?_⟩
  dsimp only
  refine ⟨_, rfl, _, rfl, by omega, by omega, for_range (lo := 0) (n := size.toNat)
   (fun j σ H' => H' = H2 ∧ ∃ (rest : Int) (x : Str) (v4 v5 : Option V), σ = [some (.int cell), some (.int many), some (.str lettersT), some (.int size), some (.int at_), some (.ref pn), some (.int (i : Int)), some (.int rest), some (.str x), v4, v5] ∧ x.length = j ∧ lowS x ∧ rest = fRest cell j ∧ (cell % 3 ≠ 1 → at_ < (j : Int) → x.cps.toList[at_.toNat]? = some (97 + ((fRest cell at_.toNat + at_ + (i : Int)) % 26).toNat)))
   ⟨rfl, _, Str.empty, _, _, rfl, rfl, (fun c hc => by cases hc), rfl, fun _ h => by omega⟩ ?_ ?_⟩
  ·intro j σ H' hj z9;obtain ⟨rfl, rest, x, v4, v5, rfl, xlen, xok, er, xat⟩ := z9
   rw [show (0 : Int) + ((j : Nat) : Int) = (j : Int) by omega]
   refine ⟨_, rfl, _, rfl, _, _, rfl, rfl, ?_⟩
   refine ⟨_, rfl, _, _, rfl, rfl, ⟨by decide, by decide⟩, ?_⟩
   dsimp only
   have er2 : rest / 26 = fRest cell (j + 1) := by rw [er]; rfl
   generalize rest / 26 = rest2 at er2
   generalize hpl0 : rest + (j : Int) = pl0
   refine ⟨fun σ' H3 => H3 = H' ∧ ∃ pl : Int, σ' = [some (.int cell), some (.int many), some (.str lettersT), some (.int size), some (.int at_), some (.ref pn), some (.int (i : Int)), some (.int rest2), some (.str x), some (.int (j : Int)), some (.int pl)] ∧ ((j : Int) = at_ → cell % 3 ≠ 1 → pl = rest + (j : Int) + (i : Int)), ?_, ?_⟩
   ·refine ⟨fun b H3 => H3 = H' ∧ (b = true ↔ ((j : Int) = at_ ∧ cell % 3 ≠ 1)), ?_, ?_⟩
    ·refine ⟨_, rfl, _, rfl, rfl, _, rfl, ite2 (fun c => ?_) (fun c => ⟨rfl, ?_⟩)⟩
     ·have c' : (j : Int) = at_ := by
       have := of_decide_eq_true c
       injection this
      refine ⟨_, rfl, _, _, rfl, rfl, (by show (0 : Int) < 3; decide), rfl, _, rfl, rfl, ?_⟩
      simp [c']
     ·have c' : ¬ (j : Int) = at_ := fun z => c (decide_eq_true (by rw [z]))
      simp [c']
    intro b H3 z9;obtain ⟨rfl, hb⟩ := z9
    refine ite2 (fun z => ?_) (fun z => ⟨rfl, pl0, rfl, fun h1 h2 => absurd (hb.mpr ⟨h1, h2⟩) z⟩)
    exact ⟨_, rfl, _, rfl, _, _, rfl, rfl, rfl, _, rfl, fun _ _ => by rw [hpl0]⟩
   intro σ' H3 z9;obtain ⟨rfl, pl, rfl, hpl⟩ := z9
   refine ⟨fun σ' H4 => H4 = H3 ∧ ∃ pl : Int, σ' = [some (.int cell), some (.int many), some (.str lettersT), some (.int size), some (.int at_), some (.ref pn), some (.int (i : Int)), some (.int rest2), some (.str x), some (.int (j : Int)), some (.int pl)] ∧ ((j : Int) = at_ → cell % 3 ≠ 1 → pl = rest + (j : Int) + (i : Int)), ?_, ?_⟩
   ·refine ⟨fun b H4 => H4 = H3 ∧ (b = true → (j : Int) ≠ at_), ?_, ?_⟩
    ·refine ⟨_, rfl, _, rfl, rfl, _, rfl, ite2 (fun c => ?_) (fun c => ⟨rfl, fun z => by cases z⟩)⟩
     refine ⟨_, rfl, _, _, rfl, rfl, (by show (0 : Int) < 3; decide), rfl, _, rfl, rfl, fun _ z => ?_⟩
     rw [z] at c
     simp at c
    intro b H4 z9;obtain ⟨rfl, hb⟩ := z9
    refine ite2 (fun z => ?_) (fun _ => ⟨rfl, _, rfl, hpl⟩)
    exact ⟨_, rfl, _, rfl, _, _, rfl, rfl, .inl ⟨by decide, by decide⟩, _, rfl, _, _, rfl, rfl, _, _, rfl, rfl, .inr ⟨by omega, by omega⟩, _, _, rfl, rfl, rfl, _, rfl, fun h1 _ => absurd h1 (hb z)⟩
   clear hpl
   intro σ' H4 z9;obtain ⟨rfl, pl, rfl, hpl⟩ := z9
   have e26 := emod_b pl (show (0 : Int) < 26 by decide)
   have hc := letter81 e26.1 e26.2
   have ll : lettersT.length = 26 := by decide +kernel
   have jl : j < 8 := by omega
   refine ⟨_, rfl, _, rfl, _, rfl, _, _, rfl, rfl, (by show (0 : Int) < 26; decide), _, _, _, rfl, rfl, L.le (by rw [ll]; omega), hc, _, _, rfl, rfl, L.le (by show x.length + 1 ≤ _; omega), ?_⟩
   have exl : x.cps.toList.length = j := by
    rw [← xlen]
    simp [Str.length]
   have eap : ∀ c : Nat, (x ++ (⟨#[c]⟩ : Str)).cps.toList = x.cps.toList ++ [c] := fun c => by
    show (x.cps ++ #[c]).toList = _
    simp
   refine ⟨rfl, rest2, _, _, _, rfl, ?_, xok.app fun d hd => ?_, er2, fun h1 h2 => ?_⟩
   ·rw [Str.length_append, xlen]
    rfl
   ·have hd : d ∈ [97 + (pl % 26).toNat] := hd
    rw [List.mem_singleton] at hd
    omega
   ·rw [eap]
    rcases (by omega : at_ < (j : Int) ∨ at_ = (j : Int)) with z | z
    ·rw [List.getElem?_append_left (by omega)]
     exact xat h1 z
    ·have ej : at_.toNat = j := by omega
     rw [List.getElem?_append_right (by omega), exl, ej, Nat.sub_self, hpl z.symm h1, er, z]
     rfl
  ·intro σ H' z9;obtain ⟨rfl, rest, x, v4, v5, rfl, xlen, xok, er, xat⟩ := z9
   have xl8 : x.length ≤ 8 := by omega
   have xl1 : 1 ≤ x.length := by omega
   refine ⟨fun σ' H3 => H3 = H' ∧ ∃ y : Str, σ' = [some (.int cell), some (.int many), some (.str lettersT), some (.int size), some (.int at_), some (.ref pn), some (.int (i : Int)), some (.int rest), some (.str y), v4, v5] ∧ Low y ∧ NmD cell at_ i y, ?_, ?_⟩
   ·refine ⟨_, rfl, _, _, rfl, rfl, (by show (0 : Int) < 3; decide), rfl, _, rfl, ite2 (fun c => ?_) (fun c => ⟨rfl, x, rfl, ⟨xok, xl1, xl8⟩, fun h => xat h (by omega), fun h => absurd (decide_eq_true (by show V.int (cell % 3) = V.int 1; rw [h])) c⟩)⟩
    have c' : cell % 3 = 1 := by
     have := of_decide_eq_true c
     injection this
    obtain ⟨m1, m2⟩ := xok.mul xl1
    have e8 := emod_b ((i : Int) + cell / 24) (show (0 : Int) < 8 by decide)
    have sl := slice_len (x := Txt.mul x 8) (j := 1 + ((i : Int) + cell / 24) % 8) (by omega) (by omega)
    refine ⟨_, rfl, _, _, rfl, rfl, mulOk8 xl8, _, rfl, _, rfl, _, _, rfl, rfl, ⟨by decide, by decide⟩, _, _, rfl, rfl, _, _, rfl, rfl, (by show (0 : Int) < 8; decide), _, _, rfl, rfl, _, rfl, _, rfl, rfl, ⟨_, rfl⟩, L.le (by omega), rfl, _, rfl, ⟨m1.slice _ _, ?_, ?_⟩, fun h => absurd c' h, fun _ => sl⟩
    ·omega
    ·omega
   intro σ' H3 z9;obtain ⟨rfl, y, rfl, yl, yd⟩ := z9
   refine ⟨_, rfl, .inl ⟨rfl, _, SqL.of e2⟩, _, rfl, pn, _, _, rfl, rfl, e2, line_of (by rw [List.length_map]; omega), ?_⟩
   refine ⟨xs ++ [y], _, _, _, _, _, rfl, same_wr hpn s2, by rw [upd_same, List.map_append]; rfl, by simp [xl], fun z hz => ?_, fun k z hz => ?_⟩
   ·rcases List.mem_append.mp hz with hz | hz
    ·exact xall z hz
    ·rw [List.mem_singleton] at hz
     subst hz
     exact yl
   ·rcases Nat.lt_or_ge k xs.length with c | c
    ·rw [List.getElem?_append_left c] at hz
     exact xd k z hz
    ·have := (List.getElem?_eq_some_iff.mp hz).1
     rw [List.length_append, List.length_singleton] at this
     have ek : k = i := by omega
     subst ek
     rw [List.getElem?_append_right c, show k - xs.length = 0 by omega] at hz
     cases hz
     exact yd
 ·intro σ H2 z9;obtain ⟨xs, v1, v2, v3, v4, v5, rfl, s2, e2, xl, xall, xd⟩ := z9
  exact ⟨_, rfl, q pn xs H2 s2 e2 xl xall (nm_nodup (by omega) xd)⟩
end
theorem pig : ∀ (n : Nat) (os : List Int), os.Nodup → (∀ x ∈ os, 0 ≤ x ∧ x < (n : Int)) → os.length ≤ n
 | 0, os, _, h => by
  cases os with
  | nil => simp
  | cons x os =>
   have := h x (List.mem_cons_self ..)
   omega
 | n + 1, os, nd, h => by
  by_cases c : (n : Int) ∈ os
  ·have h1 := pig n (os.erase (n : Int)) (nd.erase _) fun x hx => by
    have := (List.Nodup.mem_erase_iff nd).mp hx
    have := h x this.2
    have := ((List.Nodup.mem_erase_iff nd).mp hx).1
    omega
   rw [List.length_erase_of_mem c] at h1
   omega
  ·have := pig n os nd fun x hx => by
    have := h x hx
    have : x ≠ (n : Int) := fun z => c (z ▸ hx)
    omega
   omega
theorem addN_nd {os : List Int} {x : Int} (h : os.Nodup) : (addN os x).Nodup := by
 unfold addN
 split
 ·exact h
 ·rename_i c
  rw [List.nodup_append]
  exact ⟨h, by simp, fun a ha b hb => by rw [List.mem_singleton] at hb; subst hb; exact fun z => c (z ▸ ha)⟩
theorem ordF_nd : ∀ (N : List RdT) (os : List Int), os.Nodup → (ordF os N).Nodup
 | [], os, h => h
 | m :: N, os, h => ordF_nd N _ (addN_nd (addN_nd h))
theorem StN.rng {k k' : Nat} {i : Int} (h : StN k i k') : 0 ≤ i ∧ i < (k' : Int) := by
 rcases h with ⟨a, b, e⟩ | ⟨a, e⟩ <;> omega
theorem AC.rng : ∀ {N : List RdT} {k K : Nat}, AC k N K → ∀ m ∈ N, (0 ≤ m.1 ∧ m.1 < (K : Int)) ∧ (0 ≤ m.2.1 ∧ m.2.1 < (K : Int))
 | [], k, K, _, m, hm => by cases hm
 | a :: N, k, K, ⟨k1, k2, h1, h2, h⟩, m, hm => by
  have l1 := h1.rng
  have l2 := h2.rng
  have l3 := h2.le
  have l4 := AC.le h
  rcases List.mem_cons.mp hm with rfl | hm
  ·exact ⟨⟨l1.1, by omega⟩, ⟨l2.1, by omega⟩⟩
  ·exact AC.rng h m hm
noncomputable def spNetBy81 (K : PySem.W.Frag) : Sp := fun vs H Q _ => ∃ (day : Int) (a : Addr) (ns : List Int), vs = [.int day, .ref a] ∧ SqL K H a (ns.map V.int) ∧ ns.length ≤ 63 ∧ 1 ≤ day ∧ day ≤ 1000000000000000 ∧
 ∀ (l : Addr) (N : List RdT) (H' : Hp) (k : Nat), Same H H' → NA H' l N → N.length ≤ 16 → k ≤ 4 → AC 0 N k → (∀ m ∈ N, WinsR day m.2.2.2 ∧ m.2.2.2.length ≤ 16) → Q (.ref l) H'
section
variable {P : Program} {w : World} {K : PySem.W.Frag} {mg : Str → Option Value} {base : Heap} {f : Addr} {fd : FuncData} {n : Nat}
theorem ok_roads80 (F : Fun K "_law_roads" "_law_roads" st__law_roads f fd) (C_law_cell : Callee P w K mg base n "_law_cell" ["script", "k"] (spCell K)) (C_law_net : Callee P w K mg base n "_law_net" ["day", "size", "goal", "cells"] (spNet K)) : FnOk P w K mg base CX0 (n + 1) f fd ["day", "size", "goal", "script"] (spRoads K) := by
 refine F.okQ sc__law_roads (fun vs H Q E h => ?_) (fun cdv A outer s H vs Q E hr h => ?_)
 ·obtain ⟨_, _, _, _, _, rfl, _⟩ := h
  rfl
 obtain ⟨day, size, goal, a, ns, rfl, hS, h63, d1, d2, z1, q⟩ := h
 refine ⟨_, (qss_cons (qs_set (i := 4) sc__law_roads.nd rfl (Or.inl rfl) (qe_fn C_law_cell hr rfl (qa_c (qv 3) (qa_c qe_int qa_nil)))) (qss_cons (qs_set (i := 5) sc__law_roads.nd rfl (Or.inl rfl) (qe_ix qix_list (qe_lst (qa_c qe_int (qa_c qe_int (qa_c (qe_op qop_mod (qe_op qop_fdivB (qv 4) qe_int) qe_int) (qa_c (qe_op qop_mul qe_int (qe_op qop_mod (qe_op qop_fdivB (qv 4) qe_int) qe_int)) qa_nil))))) (qe_op qop_mod (qv 4) qe_int) (fun _ _ => rfl))) (qss_one (qs_ret (qe_fn C_law_net hr rfl (qa_c (qv 0) (qa_c (qv 1) (qa_c (qv 2) (qa_c (qe_slL (qv 3) (qo_some qe_int) (qo_some (qe_op qop_add qe_int (qv 5)))) qa_nil))))))))), ?_⟩
 try dsimp only [cx_k, cx_kn, as_nil, as_name, Nat.reduceAdd]
 refine ⟨_, rfl, a, ns, 3, rfl, hS, by decide, fun c => ?_⟩
 refine ⟨_, rfl, _, _, rfl, rfl, ⟨by decide, by decide⟩, _, _, rfl, rfl, (by show (0 : Int) < 25; decide), _, rfl, _, _, rfl, rfl, ⟨by decide, by decide⟩, _, _, rfl, rfl, (by show (0 : Int) < 3; decide), _, _, rfl, rfl, .inl ⟨by decide, by decide⟩, (by show 4 ≤ sizeLine; decide), fun p1 hp1 => ?_⟩
 generalize hgH1 : upd _ p1 _ = H1
 obtain ⟨s1, e1⟩ := fresh_of hp1 hgH1
 clear hgH1
 have em := emod_b c (show (0 : Int) < 4 by decide)
 obtain ⟨v, hv, vv⟩ := menu4 (a := 24) (b := 24) (c := c / 4 % 25) (e := 4 * (c / 4 % 3)) em.1 em.2
 refine ⟨_, rfl, _, _, rfl, rfl, (by show (0 : Int) < 4; decide), p1, _, _, .int v, rfl, rfl, SqL.of e1, hv, ?_⟩
 refine ⟨_, rfl, _, rfl, _, rfl, _, rfl, _, rfl, _, rfl, _, _, rfl, rfl, _, rfl, a, _, rfl, s1.seq hS, fun p2 hp2 => ?_⟩
 obtain ⟨ms, hms, hml⟩ := cut_ints (ns := ns) (some 4) (some (4 + v))
 rw [hms]
 generalize hgH2 : upd _ p2 _ = H2
 obtain ⟨s2, e2⟩ := fresh_of hp2 hgH2
 clear hgH2
 exact ⟨day, size, goal, p2, ms, rfl, SqL.of e2, by omega, d1, d2, z1, fun l N H3 s3 _ hN _ hIn hl => q l N H3 ((s1.trans s2).trans s3) hN hIn hl⟩
theorem ok_netby81 (F : Fun K "_law_net_by" "_law_net_by" st__law_net_by f fd) (C_law_cell : Callee P w K mg base n "_law_cell" ["script", "k"] (spCell K)) (C_law_size : Callee P w K mg base n "_law_size" ["cell"] spSize) (C_law_roads : Callee P w K mg base n "_law_roads" ["day", "size", "goal", "script"] (spRoads K)) (C_law_as_they_come : Callee P w K mg base n "_law_as_they_come" ["roads"] spCome81) : FnOk P w K mg base CX0 (n + 1) f fd ["day", "script"] (spNetBy81 K) := by
 refine F.okQ sc__law_net_by (fun vs H Q E h => ?_) (fun cdv A outer s H vs Q E hr h => ?_)
 ·obtain ⟨_, _, _, rfl, _⟩ := h
  rfl
 obtain ⟨day, a, ns, rfl, hS, h63, d1, d2, q⟩ := h
 refine ⟨_, (qss_cons (qs_set (i := 2) sc__law_net_by.nd rfl (Or.inl rfl) (qe_fn C_law_size hr rfl (qa_c (qe_fn C_law_cell hr rfl (qa_c (qv 1) (qa_c qe_int qa_nil))) qa_nil))) (qss_cons (qs_set (i := 3) sc__law_net_by.nd rfl (Or.inl rfl) (qe_fn C_law_roads hr rfl (qa_c (qv 0) (qa_c (qv 2) (qa_c (qe_op qop_mod (qe_op qop_fdivB (qe_fn C_law_cell hr rfl (qa_c (qv 1) (qa_c qe_int qa_nil))) qe_int) (qv 2)) (qa_c (qv 1) qa_nil)))))) (qss_one (qs_ret (qe_fn C_law_as_they_come hr rfl (qa_c (qv 3) qa_nil)))))), ?_⟩
 try dsimp only [cx_k, cx_kn, as_nil, as_name, Nat.reduceAdd]
 refine ⟨_, rfl, a, ns, 1, rfl, hS, by decide, fun c => ⟨c, rfl, fun sz H1 z1 z2 s1 => ?_⟩⟩
 refine ⟨_, rfl, _, rfl, _, rfl, a, ns, 1, rfl, s1.seq hS, by decide, fun c1 => ⟨_, _, rfl, rfl, ⟨by decide, by decide⟩, _, rfl, _, _, rfl, rfl, (by show 0 < sz; omega), _, rfl, day, sz, _, a, ns, rfl, s1.seq hS, h63, d1, d2, z1, fun pr N H2 s2 hN hIn hl => ?_⟩⟩
 refine ⟨_, rfl, pr, N, rfl, hN, by omega, fun m hm => ?_, fun l M H3 s3 hM eM => ?_⟩
 ·obtain ⟨i1, i2, _⟩ := hIn m hm
  exact ⟨⟨i1.1, by omega⟩, ⟨i2.1, by omega⟩⟩
 ·have ml : M.length = N.length := by
   have := congrArg List.length eM
   rw [List.length_map, List.length_map] at this
   exact this
  have inn : ∀ x ∈ ordR N, 0 ≤ x ∧ x < ((4 : Nat) : Int) := ordF_in (P := fun x => 0 ≤ x ∧ x < ((4 : Nat) : Int)) N [] (by simp) fun m hm => by
   obtain ⟨i1, i2, _⟩ := hIn m hm
   exact ⟨⟨i1.1, by omega⟩, ⟨i2.1, by omega⟩⟩
  refine q l M H3 (ordR N).length ((s1.trans s2).trans s3) hM (by omega) (pig 4 _ (ordF_nd N [] List.nodup_nil) inn) (ac_of N M [] (ordR N) rfl eM) fun m hm => ?_
  have : strip m ∈ N.map (cmS (ordR N)) := by
   rw [← eM]
   exact List.mem_map.mpr ⟨m, hm, rfl⟩
  obtain ⟨m', hm', e⟩ := List.mem_map.mp this
  simp only [strip, cmS, Prod.mk.injEq] at e
  obtain ⟨_, _, i3, i4⟩ := hIn m' hm'
  rw [← e.2.2]
  exact ⟨fun w hw => i4 w hw, by omega⟩
end
noncomputable def dat81 (day : Int) (names : List Str) (S : List (Int × Int × List T3)) : PyData := .tuple [.int day, .list (names.map PyData.str), .list (S.map datS)]
theorem sh81 {day : Int} {names : List Str} {S : List (Int × Int × List T3)} (h : ∀ x ∈ names, PyData.strOk x = true) : SeqAt.shaped (dat81 day names S) = true ∧ (dat81 day names S).eqv (dat81 day names S) = true := by
 have h1 : PyData.canLayAll0 (names.map PyData.str) = true := by
  induction names with
  | nil => simp [PyData.canLayAll0]
  | cons x xs ih =>
   have hx := h x (List.mem_cons_self ..)
   have hr := ih fun y hy => h y (List.mem_cons_of_mem _ hy)
   simp [PyData.canLayAll0, PyData.canLay0, hx, hr]
 have h2 : PyData.depthAll (names.map PyData.str) = 0 := by
  clear h h1
  induction names with
  | nil => simp [PyData.depthAll]
  | cons x xs ih => simp [PyData.depthAll, PyData.depth, ih]
 have c3 : ∀ x : Int × Int × List T3, PyData.canLay0 (datS x) = true := fun x => by
  have := canB x.2.2
  simp [datS, PyData.canLay0, PyData.canLayAll0, this]
 have h3 : PyData.canLayAll0 (S.map datS) = true := canLay_map c3 S
 have h4 : PyData.depthAll (S.map datS) ≤ 5 := depth_map (fun x => by
  have := depB x.2.2
  simp only [datS, PyData.depth, PyData.depthAll]
  omega) S
 have hc : PyData.canLay0 (dat81 day names S) = true := by
  simp [dat81, PyData.canLay0, PyData.canLayAll0, h1, h3]
 refine ⟨?_, SeqAt.eqv_refl _ hc⟩
 show (PyData.canLay0 (dat81 day names S) && decide (PyData.depth (dat81 day names S) ≤ 64)) = true
 rw [hc, Bool.true_and, decide_eq_true_iff]
 simp only [dat81, PyData.depth, PyData.depthAll, h2]
 omega
theorem rd81 {K : PySem.W.Frag} {H : Hp} {r pn pr : Addr} {day : Int} {names : List Str} {N : List RdT} (e : H r = some (.tup [.int day, .ref pn, .ref pr])) (en : H pn = some (.lst (names.map V.str))) (hN : NA H pr N) : RdV K H (.ref r) (dat81 day names (N.map strip)) := by
 refine .tup (SqT.of e) (.cons (.int _) (.cons (.lst (SqL.of en) (rd_strs names)) (.cons ?_ .nil)))
 rw [← datN_strip]
 exact hN.rd
theorem addS_pre (ys : List Str) (z : Str) : ∃ m, addS ys z = ys ++ m := by
 unfold addS
 split
 ·exact ⟨[], by simp⟩
 ·exact ⟨[z], rfl⟩
theorem nm_app {ys m : List Str} {i : Int} (h0 : 0 ≤ i) (h1 : i < ys.length) : nmT (ys ++ m) i = nmT ys i := by
 obtain ⟨j, rfl⟩ := Int.eq_ofNat_of_zero_le h0
 have hj : j < ys.length := by omega
 simp [nmT, List.getD, List.getElem?_append_left hj]
theorem nm_idx {ys : List Str} {z : Str} (h : z ∈ ys) : nmT ys ((ys.idxOf z : Nat) : Int) = z := by
 have hi := List.idxOf_lt_length_of_mem h
 rw [nm_get hi]
 exact List.getElem_idxOf hi
theorem addS_low {ys : List Str} {z : Str} (h : ∀ s ∈ ys, Low s) (hz : Low z) : ∀ s ∈ addS ys z, Low s := by
 unfold addS
 split
 ·exact h
 ·intro s hs
  rcases List.mem_append.mp hs with a | a
  ·exact h s a
  ·have : s = z := by simpa using a
   rw [this]
   exact hz
noncomputable def ndS (names : List Str) (t : Int × Int × List T3) : RoadS := (nmT names t.1, nmT names t.2.1, t.2.2)
noncomputable def RdAl (L : List RoadS) (st : List Str × List (Int × Int × List T3)) : Prop := (∀ s ∈ st.1, Low s) ∧ st.2.map (ndS st.1) = L ∧ ∀ t ∈ st.2, 0 ≤ t.1 ∧ t.1 < st.1.length ∧ 0 ≤ t.2.1 ∧ t.2.1 < st.1.length
theorem rdOk_step {L : List RoadS} {st : List Str × List (Int × Int × List T3)} {q : RoadS} (h : RdAl L st) (h1 : Low q.1) (h2 : Low q.2.1) : RdAl (L ++ [q]) (rdStep st q) := by
 obtain ⟨a, b, c⟩ := h
 obtain ⟨ys, S⟩ := st
 obtain ⟨s, e, R⟩ := q
 dsimp only at *
 obtain ⟨m1, e1⟩ := addS_pre ys s
 obtain ⟨m2, e2⟩ := addS_pre (addS ys s) e
 have eN : addS (addS ys s) e = ys ++ (m1 ++ m2) := by rw [e2, e1, List.append_assoc]
 have i1 : s ∈ addS ys s := addS_mem
 have i2 : e ∈ addS (addS ys s) e := addS_mem
 have l1 := List.idxOf_lt_length_of_mem i1
 have l2 := List.idxOf_lt_length_of_mem i2
 have ll : (addS ys s).length ≤ (addS (addS ys s) e).length := by rw [e2, List.length_append]; omega
 have l0 : ys.length ≤ (addS (addS ys s) e).length := by rw [eN, List.length_append]; omega
 refine ⟨addS_low (addS_low a h1) h2, ?_, ?_⟩
 ·show (S ++ [_]).map (ndS (addS (addS ys s) e)) = L ++ [(s, e, R)]
  rw [List.map_append, ← b]
  congr 1
  ·refine List.map_congr_left fun t ht => ?_
   obtain ⟨c1, c2, c3, c4⟩ := c t ht
   unfold ndS
   rw [eN, nm_app c1 c2, nm_app c3 c4]
  ·show [ndS _ _] = _
   unfold ndS
   dsimp only
   rw [nm_idx i2]
   have : nmT (addS (addS ys s) e) (((addS ys s).idxOf s : Nat) : Int) = s := by
    rw [e2, nm_app (by omega) (by omega)]
    exact nm_idx i1
   rw [this]
 ·intro t ht
  rcases List.mem_append.mp ht with z | z
  ·obtain ⟨c1, c2, c3, c4⟩ := c t z
   show 0 ≤ t.1 ∧ t.1 < ((addS (addS ys s) e).length : Int) ∧ 0 ≤ t.2.1 ∧ t.2.1 < ((addS (addS ys s) e).length : Int)
   exact ⟨c1, by omega, c3, by omega⟩
  ·rw [List.mem_singleton] at z
   subst z
   show (0 : Int) ≤ (((addS ys s).idxOf s : Nat) : Int) ∧ (((addS ys s).idxOf s : Nat) : Int) < ((addS (addS ys s) e).length : Int) ∧ (0 : Int) ≤ (((addS (addS ys s) e).idxOf e : Nat) : Int) ∧ (((addS (addS ys s) e).idxOf e : Nat) : Int) < ((addS (addS ys s) e).length : Int)
   exact ⟨by omega, by omega, by omega, by omega⟩
theorem rd_ok {d : Int} {L : List RoadS} (h : ∀ q ∈ L, RdR d q) : RdAl L (rdAll L) := by
 have go : ∀ (L' L0 : List RoadS) (st : List Str × List (Int × Int × List T3)), RdAl L0 st → (∀ q ∈ L', RdR d q) → RdAl (L0 ++ L') (L'.foldl rdStep st) := by
  intro L'
  induction L' with
  | nil => intro L0 st h _; rw [List.append_nil]; exact h
  | cons q L' ih =>
   intro L0 st h hq
   have := hq q (List.mem_cons_self ..)
   have r := ih (L0 ++ [q]) (rdStep st q) (rdOk_step h this.1 this.2.1) fun q' hq' => hq q' (List.mem_cons_of_mem _ hq')
   rw [List.append_assoc] at r
   exact r
 exact go L [] ([], []) ⟨by simp, rfl, by simp⟩ h
theorem read_shown {x : Str} {d : Int} {L : List RoadS} {M : List RdT} (sh : ShL x.cps.toList d L) (eM : M.map strip = (rdAll L).2) : netT d (rdAll L).1 M = x := by
 obtain ⟨_, b, _⟩ := rd_ok sh.rd
 have e : M.map (roadN (rdAll L).1) = L.map rdT := by
  have : M.map (roadN (rdAll L).1) = (M.map strip).map fun t => rdT (ndS (rdAll L).1 t) := by rw [List.map_map]; rfl
  rw [this, eM]
  have e3 := congrArg (List.map rdT) b
  rw [List.map_map] at e3
  exact e3
 unfold netT Txt.join
 rw [StrLaws.glued_eq_join, Str.empty_append, e]
 exact (sh_join.mp sh.eq).symm
theorem read_okB {x : Str} {d : Int} {L : List RoadS} {M : List RdT} (hx : x.length ≤ 30000) (sh : ShL x.cps.toList d L) (eM : M.map strip = (rdAll L).2) : NetOkB d (rdAll L).1 M := by
 obtain ⟨lo, b, c⟩ := rd_ok sh.rd
 have lM : M.length = L.length := by
  have h1 := congrArg List.length eM
  have h2 := congrArg List.length b
  rw [List.length_map] at h1 h2
  omega
 obtain ⟨r1, r2⟩ := rs_len L
 have lx : (rsL L).length ≤ x.length := by
  rw [len_cps, sh.eq]
  unfold netL
  rw [List.length_append]
  omega
 have d2 := sh.d2
 refine ⟨by omega, fun s hs => by have := (lo s hs).l8; omega, fun m hm => ?_, by rw [read_shown sh eM]; omega⟩
 have hS : strip m ∈ (rdAll L).2 := by rw [← eM]; exact List.mem_map.mpr ⟨m, hm, rfl⟩
 obtain ⟨c1, c2, c3, c4⟩ := c _ hS
 have hq : ndS (rdAll L).1 (strip m) ∈ L := by
  have : ndS (rdAll L).1 (strip m) ∈ (rdAll L).2.map (ndS (rdAll L).1) := List.mem_map.mpr ⟨_, hS, rfl⟩
  rwa [b] at this
 have hR := (sh.rd _ hq).2.2
 have hl := r2 _ hq
 refine ⟨c1, c2, c3, c4, fun w hw => ?_, ?_⟩
 ·obtain ⟨w0, w1, w2, w3, w4⟩ := hR w hw
  exact ⟨⟨w0, by omega⟩, ⟨by omega, by omega⟩, ⟨by omega, by omega⟩⟩
 ·have : m.2.2.2.length ≤ (rsL L).length := hl
  omega
noncomputable def datNm (due : Str) : PyData := .list [.str due, .bool true, .bool false, .bool false, .bool false]
theorem rd_named {K : PySem.W.Frag} {H : Hp} {l : Addr} {due : Str} (e : H l = some (.lst (named82 due))) : RdV K H (.ref l) (datNm due) := .lst (SqL.of e) (.cons (.str _) (.cons (.bl _) (.cons (.bl _) (.cons (.bl _) (.cons (.bl _) .nil)))))
theorem sh_named {due : Str} (h : due = "none" ∨ due = "read") : SeqAt.shaped (datNm due) = true ∧ (datNm due).eqv (datNm due) = true := by
 rcases h with rfl | rfl <;> exact ⟨by decide +kernel, by decide +kernel⟩
theorem text_short {d : Int} {names : List Str} {N : List RdT} (hd : Sm d) (lo : ∀ s ∈ names, Low s) (hl : N.length ≤ 16) (hN : ∀ m ∈ N, SmW m.2.2.2 ∧ m.2.2.2.length ≤ 16) : (netT d names N).length ≤ 14500 := by
 have e4 : ("day " : Str).length = 4 := by decide
 have e1 : (" " : Str).length = 1 := by decide
 have e2' : (">" : Str).length = 1 := by decide
 have hdl : (Str.ofString (toString d)).length ≤ 16 := hd.len
 have := join_len (sep := "; ") (ts := (Str.empty ++ "day " ++ Str.ofString (toString d)) :: N.map (roadN names)) (B := 835) fun y hy => by
  rcases List.mem_cons.mp hy with rfl | hy
  ·rw [Str.empty_append, Str.length_append, e4]
   omega
  ·obtain ⟨m, hm, rfl⟩ := List.mem_map.mp hy
   obtain ⟨a, b⟩ := hN m hm
   have n1 := nm_len (B := 8) (fun s hs => (lo s hs).l8) m.1
   have n2 := nm_len (B := 8) (fun s hs => (lo s hs).l8) m.2.1
   have jb := join_len (sep := " ") (ts := m.2.2.2.map winT) (B := 50) fun y hy => by
    obtain ⟨w, hw, rfl⟩ := List.mem_map.mp hy
    exact winT_len (a w hw)
   rw [List.length_map, e1] at jb
   have jb' : (boardT m.2.2.2).length ≤ 816 := by
    unfold boardT
    omega
   unfold roadN roadT
   split <;> simp only [Str.length_append, len_empty, e1, e2'] <;> omega
 have e2 : ("; " : Str).length = 2 := by decide
 rw [List.length_cons, List.length_map, e2] at this
 unfold netT
 omega
theorem text_asc {d : Int} {names : List Str} {N : List RdT} (hd : 0 ≤ d) (lo : ∀ s ∈ names, Low s) (hN : ∀ m ∈ N, ∀ w ∈ m.2.2.2, 0 ≤ w.1 ∧ 0 ≤ w.2.1 ∧ 0 ≤ w.2.2) : Asc (netT d names N) := by
 have cst : ∀ y : Str, y.cps.toList.all (fun c => decide (c < 128)) = true → Asc y := fun y h c hc => of_decide_eq_true (List.all_eq_true.mp h c hc)
 have aj : ∀ (sep : Str) (ts : List Str), Asc sep → (∀ t ∈ ts, Asc t) → Asc (Txt.join sep ts) := fun sep ts hs ht => by
  unfold Txt.join
  rw [StrLaws.glued_eq_join]
  cases ts with
  | nil => exact asc_empty
  | cons x r =>
   intro c hc
   rw [join_cps] at hc
   rcases List.mem_append.mp hc with z | z
   ·exact ht x (List.mem_cons_self ..) c z
   ·obtain ⟨p, hp, z⟩ := List.mem_flatMap.mp z
    rcases List.mem_append.mp z with z | z
    ·exact hs c z
    ·exact ht p (List.mem_cons_of_mem _ hp) c z
 have an : ∀ i : Int, Asc (nmT names i) := fun i => by
  unfold nmT
  rcases Nat.lt_or_ge i.toNat names.length with z | z
  ·have e : names.getD i.toNat Str.empty = names[i.toNat] := by simp [List.getD, List.getElem?_eq_getElem z]
   rw [e]
   intro c hc
   have := (lo _ (List.getElem_mem z)).all c hc
   omega
  ·have e : names.getD i.toNat Str.empty = Str.empty := by simp [List.getD, List.getElem?_eq_none z]
   rw [e]
   exact asc_empty
 unfold netT
 refine aj _ _ (cst _ (by decide +kernel)) fun t ht => ?_
 rcases List.mem_cons.mp ht with rfl | ht
 ·rw [Str.empty_append]
  exact asc_app (cst _ (by decide +kernel)) (asc_num hd)
 ·obtain ⟨m, hm, rfl⟩ := List.mem_map.mp ht
  have ab : Asc (boardT m.2.2.2) := aj _ _ (cst _ (by decide +kernel)) fun t ht => by
   obtain ⟨w, hw, rfl⟩ := List.mem_map.mp ht
   obtain ⟨w0, w1, w2⟩ := hN m hm w hw
   unfold winT
   split
   ·exact asc_app (asc_app (asc_app (asc_app (asc_app asc_empty (asc_num w0)) (cst _ (by decide +kernel))) (asc_num w1)) (cst _ (by decide +kernel))) (asc_num w2)
   ·exact asc_app (asc_app (asc_app asc_empty (asc_num w0)) (cst _ (by decide +kernel))) (asc_num w2)
  unfold roadN roadT
  split
  ·exact asc_app (asc_app (asc_app asc_empty (an _)) (cst _ (by decide +kernel))) (an _)
  ·exact asc_app (asc_app (asc_app (asc_app (asc_app asc_empty (an _)) (cst _ (by decide +kernel))) (an _)) (cst _ (by decide +kernel))) ab
section
variable {P : Program} {w : World} {K : PySem.W.Frag} {mg : Str → Option Value} {base : Heap} {f : Addr} {fd : FuncData} {n : Nat} {CT : Addr}
theorem ok_law (F : Fun K "law" "law" st_law f fd) (B : Bl mg) (C_law_cell : Callee P w K mg base n "_law_cell" ["script", "k"] (spCell K)) (C_law_day : Callee P w K mg base n "_law_day" ["cell"] spDay) (C_law_net_by : Callee P w K mg base n "_law_net_by" ["day", "script"] (spNetBy81 K)) (C_law_names : Callee P w K mg base n "_law_names" ["cell", "many"] spNames81) (C_law_many : Callee P w K mg base n "_law_many" ["roads"] spMany81)
  (C_law_text : Callee P w K mg base n "_law_text" ["day", "names", "roads"] spText) (C_law_bent : Callee P w K mg base n "_law_bent" ["day", "text", "cell"] spBent) (C_law_odd : Callee P w K mg base n "_law_odd" ["cell"] (spOdd K)) (C_law_read : Callee P w K mg base n "_law_read" ["text"] spReadA) (C_law_under : Callee P w K mg base n "_law_under" ["text"] (spUnder K))
  (C_read_net : Callee P w K mg base n "read_net" ["text"] (fun vs H Q _ => spNetQ K CT vs H Q (fun _ _ _ => False))) (C_show_net : Callee P w K mg base n "show_net" ["day", "names", "roads"] spShowN) : FnOk P w K mg base CX0 (n + 1) f fd ["script"] (spLaw K) := by
 refine F.okQ sc_law (fun vs H Q E h => ?_) (fun cdv A outer s H vs Q E hr h => ?_)
 ·obtain ⟨_, _, rfl, _⟩ := h
  rfl
 obtain ⟨a, ns, rfl, hS, h63, q⟩ := h
 refine ⟨_, (qss_cons (qs_set (i := 1) sc_law.nd rfl (Or.inl rfl) (qe_fn C_law_day hr rfl (qa_c (qe_fn C_law_cell hr rfl (qa_c (qv 0) (qa_c qe_int qa_nil))) qa_nil))) (qss_cons (qs_set (i := 2) sc_law.nd rfl (Or.inl rfl) (qe_fn C_law_net_by hr rfl (qa_c (qv 1) (qa_c (qv 0) qa_nil)))) (qss_cons (qs_set (i := 3) sc_law.nd rfl (Or.inl rfl) (qe_fn C_law_names hr rfl (qa_c (qe_fn C_law_cell hr rfl (qa_c (qv 0) (qa_c qe_int qa_nil))) (qa_c (qe_fn C_law_many hr rfl (qa_c (qv 2) qa_nil)) qa_nil)))) (qss_cons (qs_set (i := 4) sc_law.nd rfl (Or.inl rfl) (qe_fn C_law_bent hr rfl (qa_c (qv 1) (qa_c (qe_fn C_law_text hr rfl (qa_c (qv 1) (qa_c (qv 3) (qa_c (qv 2) qa_nil)))) (qa_c (qe_fn C_law_cell hr rfl (qa_c (qv 0) (qa_c qe_int qa_nil))) qa_nil))))) (qss_cut (qs_if (qt_cmpR qop_eq (qe_op qop_mod (qe_fn C_law_cell hr rfl (qa_c (qv 0) (qa_c qe_int qa_nil))) qe_int) qe_int (nomark _)) (qss_one (qs_set (i := 4) sc_law.nd rfl (Or.inl rfl) (qe_fn C_law_odd hr rfl (qa_c (qe_op qop_fdivB (qe_fn C_law_cell hr rfl (qa_c (qv 0) (qa_c qe_int qa_nil))) qe_int) qa_nil)))) qss_nil) (qss_cons (qs_set (i := 5) sc_law.nd rfl (Or.inl rfl) qe_non) (qss_cut (qs_if (qt_val (qe_cb qcall_isi rfl B.isinstance bt_isinstance (qa_c (qv 4) (qa_c (qe_bltn (v := .ty "str") rfl B.str_ bt_str rfl) qa_nil)))) (qss_one (qs_set (i := 5) sc_law.nd rfl (Or.inl rfl) (qe_fn C_law_read hr rfl (qa_c (qv 4) qa_nil)))) qss_nil) (qss_cons (qs_if (qt_isN (qv 5)) (qss_one (qs_ret (qe_cmpR (qop_eqD hr.units) (qe_fn C_law_under hr rfl (qa_c (qv 4) qa_nil)) (qe_lst (qa_c qe_str (qa_c qe_bl (qa_c qe_bl (qa_c qe_bl (qa_c qe_bl qa_nil)))))) (nomark _)))) qss_nil) (qss_cons (qs_if (qt_cmpR (qop_neD hr.units) (qe_fn C_law_under hr rfl (qa_c (qv 4) qa_nil)) (qe_lst (qa_c qe_str (qa_c qe_bl (qa_c qe_bl (qa_c qe_bl (qa_c qe_bl qa_nil)))))) (nomark _)) (qss_one (qs_ret qe_bl)) qss_nil) (qss_cons (qs_set (i := 6) sc_law.nd rfl (Or.inl rfl) (qe_fn C_read_net hr rfl (qa_c (qv 4) qa_nil))) (qss_cons (qs_if (qt_cut (QW.pt (qw_or (qt_not (qt_val (qe_cb qcall_isi rfl B.isinstance bt_isinstance (qa_c (qv 6) (qa_c (qe_bltn (v := .ty "tuple") rfl B.tuple_ bt_tuple rfl) qa_nil))))) (qw_or1 (qt_cmpR (qop_neD hr.units) (qv 6) (qv 5) (nomark _)))))) (qss_one (qs_ret qe_bl)) qss_nil) (qss_one (qs_ret (qe_cmpR qop_eq (qe_fn C_show_net hr rfl (qa_c (qe_ix qix_tup (qv 6) qe_int (fun _ _ => rfl)) (qa_c (qe_ix qix_tup (qv 6) qe_int (fun _ _ => rfl)) (qa_c (qe_ix qix_tup (qv 6) qe_int (fun _ _ => rfl)) qa_nil)))) (qv 4) (nomark _))))))))))))))), ?_⟩
 try dsimp only [cx_k, cx_kn, as_nil, as_name, Nat.reduceAdd]
 refine ⟨_, rfl, a, ns, 0, rfl, hS, by decide, fun c0 => ⟨c0, rfl, fun d H1 d1 d2 s1 => ?_⟩⟩
 refine ⟨_, rfl, _, rfl, d, a, ns, rfl, s1.seq hS, h63, d1, d2, fun pr N H2 k s2 hN hl k4 ac hall => ?_⟩
 have s02 := s1.trans s2
 refine ⟨_, rfl, a, ns, 2, rfl, s02.seq hS, by decide, fun c2 => ⟨_, rfl, pr, N, k, rfl, hN, ac, ⟨c2, k, rfl, by omega, by omega, fun pn xs H3 s3 e3 xl xall xnd => ?_⟩⟩⟩
 have xk : xs.length = k := by omega
 have hN3 := hN.same s3
 have dS : Sm d := ⟨by omega, by omega⟩
 have rng := ac.rng
 have smw : ∀ m ∈ N, SmW m.2.2.2 := fun m hm x hx => by
  obtain ⟨x0, x1, x2, x3, x4⟩ := (hall m hm).1 x hx
  exact ⟨⟨x0, by omega⟩, ⟨by omega, by omega⟩, ⟨by omega, by omega⟩⟩
 have okN : NetOk xs N := ⟨by omega, fun x hx => by have := (xall x hx).l8; omega, fun m hm => by
  obtain ⟨⟨a1, a2⟩, a3, a4⟩ := rng m hm
  exact ⟨a1, by omega, a3, by omega, smw m hm, by have := (hall m hm).2; omega⟩⟩
 have lsh := text_short (d := d) (names := xs) (N := N) dS xall hl fun m hm => ⟨smw m hm, (hall m hm).2⟩
 have asc0 := text_asc (d := d) (names := xs) (N := N) (by omega) xall fun m hm w hw => by
  obtain ⟨x0, x1, x2, x3, x4⟩ := (hall m hm).1 w hw
  exact ⟨by omega, by omega, by omega⟩
 have s03 := s02.trans s3
 refine ⟨_, rfl, _, rfl, _, rfl, _, rfl, d, pn, pr, xs, N, rfl, dS, e3, hN3, okN, ?_⟩
 refine ⟨_, rfl, a, ns, 28, rfl, s03.seq hS, by decide, fun c28 => ⟨d, netT d xs N, c28, rfl, d1, d2, asc0, lsh, fun y H4 ay ly s4 => ?_⟩⟩
 have s04 := s03.trans s4
 refine ⟨fun σ' H' => ∃ v, σ' = [some (.ref a), some (.int d), some (.ref pr), some (.ref pn), some v, none, none] ∧ Same H H' ∧ OddV K H' v, ?_, ?_⟩
 ·refine ⟨_, rfl, a, ns, 29, rfl, s04.seq hS, by decide, fun c29 => ⟨_, _, rfl, rfl, (by show (0 : Int) < 5; decide), rfl, _, rfl, ite2 (fun _ => ?_) (fun _ => ?_)⟩⟩
  ·exact ⟨_, rfl, a, ns, 29, rfl, s04.seq hS, by decide, fun c => ⟨_, _, rfl, rfl, ⟨by decide, by decide⟩, _, rfl, fun v H5 s5 od => ⟨v, rfl, s04.trans s5, od⟩⟩⟩
  ·exact ⟨_, rfl, s04, .inl ⟨y, rfl, ay, ly⟩⟩
 intro σ' H5 z9;obtain ⟨v, rfl, s5, od⟩ := z9
 refine ⟨fun σ' H' => ∃ dv, σ' = [some (.ref a), some (.int d), some (.ref pr), some (.ref pn), some v, some dv, none] ∧ Same H H' ∧ ((dv = .non ∧ BadT K H' v) ∨ ∃ (x : Str) (dd : Int) (L : List RoadS) (r2 pn2 pr2 : Addr) (M2 : List RdT), v = .str x ∧ Asc x ∧ x.length ≤ 30000 ∧ ShL x.cps.toList dd L ∧ dv = .ref r2 ∧ H' r2 = some (.tup [.int dd, .ref pn2, .ref pr2]) ∧ H' pn2 = some (.lst ((rdAll L).1.map V.str)) ∧ NA H' pr2 M2 ∧ M2.map strip = (rdAll L).2), ?_, ?_⟩
 ·rcases od with ⟨x, rfl, ax, lx⟩ | ⟨t, ht, hk⟩
  ·refine ⟨_, rfl, _, "str", _, _, rfl, .str _, rfl, _, rfl, iteT ?_⟩
   refine ⟨_, rfl, x, rfl, lx, fun pn0 H6 s6 => ⟨_, rfl, s5.trans s6, .inl ⟨rfl, .inr ⟨x, rfl, ax, lx, fun d L sh => ?_⟩⟩⟩, fun dd L pn2 pr2 r2 M2 H6 ps s6 en hM eM er => ⟨_, rfl, s5.trans s6, .inr ⟨x, dd, L, r2, pn2, pr2, M2, rfl, ax, lx, pNet_sound ps, rfl, er, en, hM, eM⟩⟩⟩
   rw [pNet_full sh] at pn0
   cases pn0
  ·exact ⟨_, rfl, _, "str", t, false, rfl, ht, hk, _, rfl, iteF ⟨_, rfl, s5, .inl ⟨rfl, .inl ⟨t, ht, hk⟩⟩⟩⟩
 intro σ' H6 z9;obtain ⟨dv, rfl, s6, ⟨rfl, bad⟩ | ⟨x, dd, L, r2, pn2, pr2, M2, rfl, ax, lx, sh, rfl, er, en, hM, eM⟩⟩ := z9
 ·-- refused
  refine ⟨_, rfl, _, rfl, iteT ?_⟩
  refine ⟨_, rfl, v, rfl, .inl ⟨bad, fun l H7 s7 e7 => ⟨(by show 5 ≤ sizeLine; decide), fun l8 hl8 => ?_⟩⟩⟩
  generalize hgH8 : upd _ l8 _ = H8
  obtain ⟨s8, e8⟩ := fresh_of hl8 hgH8
  clear hgH8
  refine ⟨_, _, rd_named (s8 _ _ e7), rd_named e8, (sh_named (.inl rfl)).1, (sh_named (.inl rfl)).1, ?_⟩
  rw [(sh_named (.inl rfl)).2]
  exact q _
 refine ⟨_, rfl, _, rfl, iteF ?_⟩
 refine ⟨_, rfl, _, rfl, .inr ⟨x, dd, L, rfl, ax, lx, sh, fun l H7 s7 e7 => ⟨(by show 5 ≤ sizeLine; decide), fun l8 hl8 => ?_⟩⟩⟩
 generalize hgH8 : upd _ l8 _ = H8
 obtain ⟨s8, e8⟩ := fresh_of hl8 hgH8
 clear hgH8
 refine ⟨_, _, rd_named (s8 _ _ e7), rd_named e8, (sh_named (.inr rfl)).1, (sh_named (.inr rfl)).1, _, rfl, iteN (by rw [(sh_named (.inr rfl)).2]; decide) ?_⟩
 have s68 := s7.trans s8
 refine ⟨_, rfl, _, rfl, .inr ⟨x, rfl, ax, lx, fun d' L' r3 pn3 pr3 M3 H9 sh' s9 er3 en3 hM3 eM3 => ?_, fun no => absurd sh (no dd L)⟩⟩
 obtain ⟨rfl, rfl⟩ := ShL.uniq sh' sh
 have s69 := s68.trans s9
 have xok : ∀ z ∈ (rdAll L').1, PyData.strOk z = true := fun z hz => okS.ok fun c hc => by
  have := ((rd_ok sh.rd).1 z hz).all c hc
  omega
 obtain ⟨shp, eqv⟩ := sh81 (day := d') (S := (rdAll L').2) xok
 refine ⟨fun b H' => b = false ∧ H' = H9, ?_, ?_⟩
 ·refine ⟨_, rfl, _, "tuple", _, _, rfl, .tup er3, rfl, _, rfl, iteF ?_⟩
  refine ⟨_, rfl, _, rfl, _, _, rd81 er3 en3 hM3, rd81 (s69 _ _ er) (s69 _ _ en) (hM.same s69), by rw [eM3]; exact shp, by rw [eM]; exact shp, _, rfl, ?_, rfl⟩
  rw [eM, eM3, eqv]
  rfl
 intro b H10 z9;obtain ⟨rfl, rfl⟩ := z9
 refine iteF ?_
 refine ⟨_, rfl, r3, _, _, _, rfl, rfl, SqT.of er3, rfl, _, rfl, r3, _, _, _, rfl, rfl, SqT.of er3, rfl, _, rfl, r3, _, _, _, rfl, rfl, SqT.of er3, rfl, d', pn3, pr3, (rdAll L').1, M3, rfl, ⟨by have := sh.d1; omega, by have := sh.d2; omega⟩, en3, hM3, read_okB lx sh eM3, fun H11 s11 => ?_⟩
 rw [read_shown sh eM3]
 refine ⟨_, rfl, rfl, ?_⟩
 have z : ∀ b : Bool, b = true → Q (.bl b) H11 := fun b e => by rw [e]; exact q _
 exact z _ (by simp)
end
theorem all_mk {l : PySem.W.OpenLaw} {w : World} {K : PySem.W.Frag} {h : Heap} {mg : Str → Option Value} {fa : Addr} (X : K.In h) (G : h.Ns mainGlobals mg) (hfa : mg "law" = some (.ref fa))
  {f0 f1 f2 f3 f4 f5 f6 f7 f8 f9 f10 f11 f12 f13 f14 f15 f16 f17 f18 f19 f20 f21 f22 f23 f24 f25 f26 f27 f28 f29 f30 f31 f32 f33 f34 f35 : Addr} {od0 an0 od1 an1 od2 an2 od3 an3 od4 an4 od5 an5 od6 an6 od7 an7 od8 an8 od9 an9 od10 an10 od11 an11 od12 an12 od13 an13 od14 an14 od15 an15 od16 an16 od17 an17 od18 an18 od19 an19 od20 an20 od21 an21 od22 an22 od23 an23 od24 an24 od25 an25 od26 an26 od27 an27 od28 an28 od29 an29 od30 an30 od31 an31 od32 an32 od33 an33 od34 an34 od35 an35 : Option Addr} {sl0 sl1 sl2 sl3 sl4 sl5 sl6 sl7 sl8 sl9 sl10 sl11 sl12 sl13 sl14 sl15 sl16 sl17 sl18 sl19 sl20 sl21 sl22 sl23 sl24 sl25 sl26 sl27 sl28 sl29 sl30 sl31 sl32 sl33 sl34 sl35 : Array (Option Value)} {oc0 kV0 dc0 pm0 cd0 ct0 oc1 kV1 dc1 pm1 cd1 ct1 oc2 kV2 dc2 pm2 cd2 ct2 oc3 kV3 dc3 pm3 cd3 ct3 oc4 kV4 dc4 pm4 cd4 ct4 oc5 kV5 dc5 pm5 cd5 ct5 oc6 kV6 dc6 pm6 cd6 ct6 oc7 kV7 dc7 pm7 cd7 ct7 oc8 kV8 dc8 pm8 cd8 ct8 oc9 kV9 dc9 pm9 cd9 ct9 oc10 kV10 dc10 pm10 cd10 ct10 oc11 kV11 dc11 pm11 cd11 ct11 oc12 kV12 dc12 pm12 cd12 ct12 oc13 kV13 dc13 pm13 cd13 ct13 oc14 kV14 dc14 pm14 cd14 ct14 oc15 kV15 dc15 pm15 cd15 ct15 oc16 kV16 dc16 pm16 cd16 ct16 oc17 kV17 dc17 pm17 cd17 ct17 oc18 kV18 dc18 pm18 cd18 ct18 oc19 kV19 dc19 pm19 cd19 ct19 oc20 kV20 dc20 pm20 cd20 ct20 oc21 kV21 dc21 pm21 cd21 ct21 oc22 kV22 dc22 pm22 cd22 ct22 oc23 kV23 dc23 pm23 cd23 ct23 oc24 kV24 dc24 pm24 cd24 ct24 oc25 kV25 dc25 pm25 cd25 ct25 oc26 kV26 dc26 pm26 cd26 ct26 oc27 kV27 dc27 pm27 cd27 ct27 oc28 kV28 dc28 pm28 cd28 ct28 oc29 kV29 dc29 pm29 cd29 ct29 oc30 kV30 dc30 pm30 cd30 ct30 oc31 kV31 dc31 pm31 cd31 ct31 oc32 kV32 dc32 pm32 cd32 ct32 oc33 kV33 dc33 pm33 cd33 ct33 oc34 kV34 dc34 pm34 cd34 ct34 oc35 kV35 dc35 pm35 cd35 ct35 : Value} {tk1 tk2 tk3 tk4 : Tok} {cNoText cFordError cNoNet cNoPlace cNoBoard cNoRoad cNoTurn cNoRow cNoName cNoWindow nNoText : Addr} {nmNoText qNoText : Str} {bsNoText bmNoText suNoText : List Value} {hdNoText abNoText : Bool} {snNoText : List Str} {coNoText : Option Bool} {ddNoText : Option Addr} {k0NoText k1NoText k2NoText k3NoText k5NoText : Option Value} {cdNoText cdFordError cdNoNet cdNoPlace cdNoBoard cdNoRoad cdNoTurn cdNoRow cdNoName cdNoWindow : ClassData}
  (a0 : PySem.W.nsIn K mainGlobals "is_whole" = some (some (.ref f0))) (l0 : K.lookup f0 = some ⟨oc0, od0, .func (PySem.W.fnOf "is_whole" "is_whole" (defArgs st_is_whole) (defBody st_is_whole) (defScope st_is_whole) .none kV0 dc0 pm0 an0 cd0 ct0), sl0⟩) (c0 : PySem.W.codeIn K cd0 "is_whole" = true) (k0 : PySem.W.keepIn K (.ref f0) = true)
  (a1 : PySem.W.nsIn K mainGlobals "is_window" = some (some (.ref f1))) (l1 : K.lookup f1 = some ⟨oc1, od1, .func (PySem.W.fnOf "is_window" "is_window" (defArgs st_is_window) (defBody st_is_window) (defScope st_is_window) .none kV1 dc1 pm1 an1 cd1 ct1), sl1⟩) (c1 : PySem.W.codeIn K cd1 "is_window" = true) (k1 : PySem.W.keepIn K (.ref f1) = true)
  (a2 : PySem.W.nsIn K mainGlobals "read_number" = some (some (.ref f2))) (l2 : K.lookup f2 = some ⟨oc2, od2, .func (PySem.W.fnOf "read_number" "read_number" (defArgs st_read_number) (defBody st_read_number) (defScope st_read_number) .none kV2 dc2 pm2 an2 cd2 ct2), sl2⟩) (c2 : PySem.W.codeIn K cd2 "read_number" = true) (k2 : PySem.W.keepIn K (.ref f2) = true)
  (a3 : PySem.W.nsIn K mainGlobals "is_name" = some (some (.ref f3))) (l3 : K.lookup f3 = some ⟨oc3, od3, .func (PySem.W.fnOf "is_name" "is_name" (defArgs st_is_name) (defBody st_is_name) (defScope st_is_name) .none kV3 dc3 pm3 an3 cd3 ct3), sl3⟩) (c3 : PySem.W.codeIn K cd3 "is_name" = true) (k3 : PySem.W.keepIn K (.ref f3) = true)
  (a4 : PySem.W.nsIn K mainGlobals "read_ends" = some (some (.ref f4))) (l4 : K.lookup f4 = some ⟨oc4, od4, .func (PySem.W.fnOf "read_ends" "read_ends" (defArgs st_read_ends) (defBody st_read_ends) (defScope st_read_ends) .none kV4 dc4 pm4 an4 cd4 ct4), sl4⟩) (c4 : PySem.W.codeIn K cd4 "read_ends" = true) (k4 : PySem.W.keepIn K (.ref f4) = true)
  (a5 : PySem.W.nsIn K mainGlobals "read_span" = some (some (.ref f5))) (l5 : K.lookup f5 = some ⟨oc5, od5, .func (PySem.W.fnOf "read_span" "read_span" (defArgs st_read_span) (defBody st_read_span) (defScope st_read_span) .none kV5 dc5 pm5 an5 cd5 ct5), sl5⟩) (c5 : PySem.W.codeIn K cd5 "read_span" = true) (k5 : PySem.W.keepIn K (.ref f5) = true)
  (a6 : PySem.W.nsIn K mainGlobals "read_window" = some (some (.ref f6))) (l6 : K.lookup f6 = some ⟨oc6, od6, .func (PySem.W.fnOf "read_window" "read_window" (defArgs st_read_window) (defBody st_read_window) (defScope st_read_window) .none kV6 dc6 pm6 an6 cd6 ct6), sl6⟩) (c6 : PySem.W.codeIn K cd6 "read_window" = true) (k6 : PySem.W.keepIn K (.ref f6) = true)
  (a7 : PySem.W.nsIn K mainGlobals "read_day" = some (some (.ref f7))) (l7 : K.lookup f7 = some ⟨oc7, od7, .func (PySem.W.fnOf "read_day" "read_day" (defArgs st_read_day) (defBody st_read_day) (defScope st_read_day) .none kV7 dc7 pm7 an7 cd7 ct7), sl7⟩) (c7 : PySem.W.codeIn K cd7 "read_day" = true) (k7 : PySem.W.keepIn K (.ref f7) = true)
  (a8 : PySem.W.nsIn K mainGlobals "read_board" = some (some (.ref f8))) (l8 : K.lookup f8 = some ⟨oc8, od8, .func (PySem.W.fnOf "read_board" "read_board" (defArgs st_read_board) (defBody st_read_board) (defScope st_read_board) .none kV8 dc8 pm8 an8 cd8 ct8), sl8⟩) (c8 : PySem.W.codeIn K cd8 "read_board" = true) (k8 : PySem.W.keepIn K (.ref f8) = true)
  (a9 : PySem.W.nsIn K mainGlobals "number_of" = some (some (.ref f9))) (l9 : K.lookup f9 = some ⟨oc9, od9, .func (PySem.W.fnOf "number_of" "number_of" (defArgs st_number_of) (defBody st_number_of) (defScope st_number_of) .none kV9 dc9 pm9 an9 cd9 ct9), sl9⟩) (c9 : PySem.W.codeIn K cd9 "number_of" = true) (k9 : PySem.W.keepIn K (.ref f9) = true)
  (a10 : PySem.W.nsIn K mainGlobals "read_net" = some (some (.ref f10))) (l10 : K.lookup f10 = some ⟨oc10, od10, .func (PySem.W.fnOf "read_net" "read_net" (defArgs st_read_net) (defBody st_read_net) (defScope st_read_net) .none kV10 dc10 pm10 an10 cd10 ct10), sl10⟩) (c10 : PySem.W.codeIn K cd10 "read_net" = true) (k10 : PySem.W.keepIn K (.ref f10) = true)
  (a11 : PySem.W.nsIn K mainGlobals "show_window" = some (some (.ref f11))) (l11 : K.lookup f11 = some ⟨oc11, od11, .func (PySem.W.fnOf "show_window" "show_window" (defArgs st_show_window) (defBody st_show_window) (defScope st_show_window) .none kV11 dc11 pm11 an11 cd11 ct11), sl11⟩) (c11 : PySem.W.codeIn K cd11 "show_window" = true) (k11 : PySem.W.keepIn K (.ref f11) = true)
  (a12 : PySem.W.nsIn K mainGlobals "show_board" = some (some (.ref f12))) (l12 : K.lookup f12 = some ⟨oc12, od12, .func (PySem.W.fnOf "show_board" "show_board" (defArgs st_show_board) (defBody st_show_board) (defScope st_show_board) .none kV12 dc12 pm12 an12 cd12 ct12), sl12⟩) (c12 : PySem.W.codeIn K cd12 "show_board" = true) (k12 : PySem.W.keepIn K (.ref f12) = true)
  (a13 : PySem.W.nsIn K mainGlobals "show_road" = some (some (.ref f13))) (l13 : K.lookup f13 = some ⟨oc13, od13, .func (PySem.W.fnOf "show_road" "show_road" (defArgs st_show_road) (defBody st_show_road) (defScope st_show_road) .none kV13 dc13 pm13 an13 cd13 ct13), sl13⟩) (c13 : PySem.W.codeIn K cd13 "show_road" = true) (k13 : PySem.W.keepIn K (.ref f13) = true)
  (a14 : PySem.W.nsIn K mainGlobals "show_net" = some (some (.ref f14))) (l14 : K.lookup f14 = some ⟨oc14, od14, .func (PySem.W.fnOf "show_net" "show_net" (defArgs st_show_net) (defBody st_show_net) (defScope st_show_net) .none kV14 dc14 pm14 an14 cd14 ct14), sl14⟩) (c14 : PySem.W.codeIn K cd14 "show_net" = true) (k14 : PySem.W.keepIn K (.ref f14) = true)
  (a15 : PySem.W.nsIn K mainGlobals "_law_cell" = some (some (.ref f15))) (l15 : K.lookup f15 = some ⟨oc15, od15, .func (PySem.W.fnOf "_law_cell" "_law_cell" (defArgs st__law_cell) (defBody st__law_cell) (defScope st__law_cell) .none kV15 dc15 pm15 an15 cd15 ct15), sl15⟩) (c15 : PySem.W.codeIn K cd15 "_law_cell" = true) (k15 : PySem.W.keepIn K (.ref f15) = true)
  (a16 : PySem.W.nsIn K mainGlobals "_law_day" = some (some (.ref f16))) (l16 : K.lookup f16 = some ⟨oc16, od16, .func (PySem.W.fnOf "_law_day" "_law_day" (defArgs st__law_day) (defBody st__law_day) (defScope st__law_day) .none kV16 dc16 pm16 an16 cd16 ct16), sl16⟩) (c16 : PySem.W.codeIn K cd16 "_law_day" = true) (k16 : PySem.W.keepIn K (.ref f16) = true)
  (a17 : PySem.W.nsIn K mainGlobals "_law_size" = some (some (.ref f17))) (l17 : K.lookup f17 = some ⟨oc17, od17, .func (PySem.W.fnOf "_law_size" "_law_size" (defArgs st__law_size) (defBody st__law_size) (defScope st__law_size) .none kV17 dc17 pm17 an17 cd17 ct17), sl17⟩) (c17 : PySem.W.codeIn K cd17 "_law_size" = true) (k17 : PySem.W.keepIn K (.ref f17) = true)
  (a18 : PySem.W.nsIn K mainGlobals "_law_road_window" = some (some (.ref f18))) (l18 : K.lookup f18 = some ⟨oc18, od18, .func (PySem.W.fnOf "_law_road_window" "_law_road_window" (defArgs st__law_road_window) (defBody st__law_road_window) (defScope st__law_road_window) .none kV18 dc18 pm18 an18 cd18 ct18), sl18⟩) (c18 : PySem.W.codeIn K cd18 "_law_road_window" = true) (k18 : PySem.W.keepIn K (.ref f18) = true)
  (a19 : PySem.W.nsIn K mainGlobals "_law_net" = some (some (.ref f19))) (l19 : K.lookup f19 = some ⟨oc19, od19, .func (PySem.W.fnOf "_law_net" "_law_net" (defArgs st__law_net) (defBody st__law_net) (defScope st__law_net) .none kV19 dc19 pm19 an19 cd19 ct19), sl19⟩) (c19 : PySem.W.codeIn K cd19 "_law_net" = true) (k19 : PySem.W.keepIn K (.ref f19) = true)
  (a20 : PySem.W.nsIn K mainGlobals "_law_roads" = some (some (.ref f20))) (l20 : K.lookup f20 = some ⟨oc20, od20, .func (PySem.W.fnOf "_law_roads" "_law_roads" (defArgs st__law_roads) (defBody st__law_roads) (defScope st__law_roads) .none kV20 dc20 pm20 an20 cd20 ct20), sl20⟩) (c20 : PySem.W.codeIn K cd20 "_law_roads" = true) (k20 : PySem.W.keepIn K (.ref f20) = true)
  (a21 : PySem.W.nsIn K mainGlobals "_law_names" = some (some (.ref f21))) (l21 : K.lookup f21 = some ⟨oc21, od21, .func (PySem.W.fnOf "_law_names" "_law_names" (defArgs st__law_names) (defBody st__law_names) (defScope st__law_names) .none kV21 dc21 pm21 an21 cd21 ct21), sl21⟩) (c21 : PySem.W.codeIn K cd21 "_law_names" = true) (k21 : PySem.W.keepIn K (.ref f21) = true)
  (a22 : PySem.W.nsIn K mainGlobals "_law_as_they_come" = some (some (.ref f22))) (l22 : K.lookup f22 = some ⟨oc22, od22, .func (PySem.W.fnOf "_law_as_they_come" "_law_as_they_come" (defArgs st__law_as_they_come) (defBody st__law_as_they_come) (defScope st__law_as_they_come) .none kV22 dc22 pm22 an22 cd22 ct22), sl22⟩) (c22 : PySem.W.codeIn K cd22 "_law_as_they_come" = true) (k22 : PySem.W.keepIn K (.ref f22) = true)
  (a23 : PySem.W.nsIn K mainGlobals "_law_many" = some (some (.ref f23))) (l23 : K.lookup f23 = some ⟨oc23, od23, .func (PySem.W.fnOf "_law_many" "_law_many" (defArgs st__law_many) (defBody st__law_many) (defScope st__law_many) .none kV23 dc23 pm23 an23 cd23 ct23), sl23⟩) (c23 : PySem.W.codeIn K cd23 "_law_many" = true) (k23 : PySem.W.keepIn K (.ref f23) = true)
  (a24 : PySem.W.nsIn K mainGlobals "_law_text" = some (some (.ref f24))) (l24 : K.lookup f24 = some ⟨oc24, od24, .func (PySem.W.fnOf "_law_text" "_law_text" (defArgs st__law_text) (defBody st__law_text) (defScope st__law_text) .none kV24 dc24 pm24 an24 cd24 ct24), sl24⟩) (c24 : PySem.W.codeIn K cd24 "_law_text" = true) (k24 : PySem.W.keepIn K (.ref f24) = true)
  (a25 : PySem.W.nsIn K mainGlobals "_law_net_by" = some (some (.ref f25))) (l25 : K.lookup f25 = some ⟨oc25, od25, .func (PySem.W.fnOf "_law_net_by" "_law_net_by" (defArgs st__law_net_by) (defBody st__law_net_by) (defScope st__law_net_by) .none kV25 dc25 pm25 an25 cd25 ct25), sl25⟩) (c25 : PySem.W.codeIn K cd25 "_law_net_by" = true) (k25 : PySem.W.keepIn K (.ref f25) = true)
  (a26 : PySem.W.nsIn K mainGlobals "_law_run" = some (some (.ref f26))) (l26 : K.lookup f26 = some ⟨oc26, od26, .func (PySem.W.fnOf "_law_run" "_law_run" (defArgs st__law_run) (defBody st__law_run) (defScope st__law_run) .none kV26 dc26 pm26 an26 cd26 ct26), sl26⟩) (c26 : PySem.W.codeIn K cd26 "_law_run" = true) (k26 : PySem.W.keepIn K (.ref f26) = true)
  (a27 : PySem.W.nsIn K mainGlobals "_law_number" = some (some (.ref f27))) (l27 : K.lookup f27 = some ⟨oc27, od27, .func (PySem.W.fnOf "_law_number" "_law_number" (defArgs st__law_number) (defBody st__law_number) (defScope st__law_number) .none kV27 dc27 pm27 an27 cd27 ct27), sl27⟩) (c27 : PySem.W.codeIn K cd27 "_law_number" = true) (k27 : PySem.W.keepIn K (.ref f27) = true)
  (a28 : PySem.W.nsIn K mainGlobals "_law_window_at" = some (some (.ref f28))) (l28 : K.lookup f28 = some ⟨oc28, od28, .func (PySem.W.fnOf "_law_window_at" "_law_window_at" (defArgs st__law_window_at) (defBody st__law_window_at) (defScope st__law_window_at) .none kV28 dc28 pm28 an28 cd28 ct28), sl28⟩) (c28 : PySem.W.codeIn K cd28 "_law_window_at" = true) (k28 : PySem.W.keepIn K (.ref f28) = true)
  (a29 : PySem.W.nsIn K mainGlobals "_law_road_at" = some (some (.ref f29))) (l29 : K.lookup f29 = some ⟨oc29, od29, .func (PySem.W.fnOf "_law_road_at" "_law_road_at" (defArgs st__law_road_at) (defBody st__law_road_at) (defScope st__law_road_at) .none kV29 dc29 pm29 an29 cd29 ct29), sl29⟩) (c29 : PySem.W.codeIn K cd29 "_law_road_at" = true) (k29 : PySem.W.keepIn K (.ref f29) = true)
  (a30 : PySem.W.nsIn K mainGlobals "_law_read" = some (some (.ref f30))) (l30 : K.lookup f30 = some ⟨oc30, od30, .func (PySem.W.fnOf "_law_read" "_law_read" (defArgs st__law_read) (defBody st__law_read) (defScope st__law_read) .none kV30 dc30 pm30 an30 cd30 ct30), sl30⟩) (c30 : PySem.W.codeIn K cd30 "_law_read" = true) (k30 : PySem.W.keepIn K (.ref f30) = true)
  (a31 : PySem.W.nsIn K mainGlobals "_law_figures" = some (some (.ref f31))) (l31 : K.lookup f31 = some ⟨oc31, od31, .func (PySem.W.fnOf "_law_figures" "_law_figures" (defArgs st__law_figures) (defBody st__law_figures) (defScope st__law_figures) .none kV31 dc31 pm31 an31 cd31 ct31), sl31⟩) (c31 : PySem.W.codeIn K cd31 "_law_figures" = true) (k31 : PySem.W.keepIn K (.ref f31) = true)
  (a32 : PySem.W.nsIn K mainGlobals "_law_bent" = some (some (.ref f32))) (l32 : K.lookup f32 = some ⟨oc32, od32, .func (PySem.W.fnOf "_law_bent" "_law_bent" (defArgs st__law_bent) (defBody st__law_bent) (defScope st__law_bent) .none kV32 dc32 pm32 an32 cd32 ct32), sl32⟩) (c32 : PySem.W.codeIn K cd32 "_law_bent" = true) (k32 : PySem.W.keepIn K (.ref f32) = true)
  (a33 : PySem.W.nsIn K mainGlobals "_law_odd" = some (some (.ref f33))) (l33 : K.lookup f33 = some ⟨oc33, od33, .func (PySem.W.fnOf "_law_odd" "_law_odd" (defArgs st__law_odd) (defBody st__law_odd) (defScope st__law_odd) .none kV33 dc33 pm33 an33 cd33 ct33), sl33⟩) (c33 : PySem.W.codeIn K cd33 "_law_odd" = true) (k33 : PySem.W.keepIn K (.ref f33) = true)
  (a34 : PySem.W.nsIn K mainGlobals "_law_under" = some (some (.ref f34))) (l34 : K.lookup f34 = some ⟨oc34, od34, .func (PySem.W.fnOf "_law_under" "_law_under" (defArgs st__law_under) (defBody st__law_under) (defScope st__law_under) .none kV34 dc34 pm34 an34 cd34 ct34), sl34⟩) (c34 : PySem.W.codeIn K cd34 "_law_under" = true) (k34 : PySem.W.keepIn K (.ref f34) = true)
  (a35 : PySem.W.nsIn K mainGlobals "law" = some (some (.ref f35))) (l35 : K.lookup f35 = some ⟨oc35, od35, .func (PySem.W.fnOf "law" "law" (defArgs st_law) (defBody st_law) (defScope st_law) .none kV35 dc35 pm35 an35 cd35 ct35), sl35⟩) (c35 : PySem.W.codeIn K cd35 "law" = true) (k35 : PySem.W.keepIn K (.ref f35) = true)
  (z0 : PySem.W.nsIn K mainGlobals "len" = some none) (z1 : PySem.W.nsIn K mainGlobals "max" = some none) (z2 : PySem.W.nsIn K mainGlobals "min" = some none) (z3 : PySem.W.nsIn K mainGlobals "all" = some none) (z4 : PySem.W.nsIn K mainGlobals "any" = some none) (z5 : PySem.W.nsIn K mainGlobals "range" = some none) (z6 : PySem.W.nsIn K mainGlobals "isinstance" = some none) (z7 : PySem.W.nsIn K mainGlobals "bool" = some none) (z8 : PySem.W.nsIn K mainGlobals "int" = some none) (z9 : PySem.W.nsIn K mainGlobals "tuple" = some none) (z10 : PySem.W.nsIn K mainGlobals "list" = some none) (z11 : PySem.W.nsIn K mainGlobals "str" = some none) (xg1 : PySem.W.nsIn K mainGlobals "FIGURES" = some (some (.str "0123456789" tk1))) (xg2 : PySem.W.nsIn K mainGlobals "LETTERS" = some (some (.str "abcdefghijklmnopqrstuvwxyz" tk2))) (xg3 : PySem.W.nsIn K mainGlobals "MOST_FIGURES" = some (some (.int 16 tk3))) (xg4 : PySem.W.nsIn K mainGlobals "MOST" = some (some (.int 1000000000000000 tk4))) (xa_NoText : PySem.W.nsIn K mainGlobals "NoText" = some (some (.ref cNoText))) (xa_FordError : PySem.W.nsIn K mainGlobals "FordError" = some (some (.ref cFordError))) (xa_NoNet : PySem.W.nsIn K mainGlobals "NoNet" = some (some (.ref cNoNet))) (xa_NoPlace : PySem.W.nsIn K mainGlobals "NoPlace" = some (some (.ref cNoPlace))) (xa_NoBoard : PySem.W.nsIn K mainGlobals "NoBoard" = some (some (.ref cNoBoard))) (xa_NoRoad : PySem.W.nsIn K mainGlobals "NoRoad" = some (some (.ref cNoRoad))) (xa_NoTurn : PySem.W.nsIn K mainGlobals "NoTurn" = some (some (.ref cNoTurn))) (xa_NoRow : PySem.W.nsIn K mainGlobals "NoRow" = some (some (.ref cNoRow))) (xa_NoName : PySem.W.nsIn K mainGlobals "NoName" = some (some (.ref cNoName))) (xa_NoWindow : PySem.W.nsIn K mainGlobals "NoWindow" = some (some (.ref cNoWindow))) (xl_NoText : K.lookup cNoText = some (excClassObj nmNoText qNoText cNoText nNoText bsNoText bmNoText hdNoText snNoText suNoText abNoText coNoText ddNoText k0NoText k1NoText k2NoText k3NoText k5NoText "ValueError.__new__")) (xq_NoText : PySem.W.excIn K cNoText [.type "ValueError", .type "Exception", .type "BaseException", .type "object"] "ValueError.__new__" = true) (xb_NoText : bmNoText.contains (.type "BaseException") = true) (xz_ValueError : PySem.W.nsIn K mainGlobals "ValueError" = some none) (xu_NoText : PySem.W.clsIn K cNoText = some cdNoText) (xt_NoText : PySem.W.typeIn K (.ref cNoText) = some (.type "type")) (xu_FordError : PySem.W.clsIn K cFordError = some cdFordError) (xt_FordError : PySem.W.typeIn K (.ref cFordError) = some (.type "type")) (xu_NoNet : PySem.W.clsIn K cNoNet = some cdNoNet) (xt_NoNet : PySem.W.typeIn K (.ref cNoNet) = some (.type "type")) (xu_NoPlace : PySem.W.clsIn K cNoPlace = some cdNoPlace) (xt_NoPlace : PySem.W.typeIn K (.ref cNoPlace) = some (.type "type")) (xu_NoBoard : PySem.W.clsIn K cNoBoard = some cdNoBoard) (xt_NoBoard : PySem.W.typeIn K (.ref cNoBoard) = some (.type "type")) (xu_NoRoad : PySem.W.clsIn K cNoRoad = some cdNoRoad) (xt_NoRoad : PySem.W.typeIn K (.ref cNoRoad) = some (.type "type")) (xu_NoTurn : PySem.W.clsIn K cNoTurn = some cdNoTurn) (xt_NoTurn : PySem.W.typeIn K (.ref cNoTurn) = some (.type "type")) (xu_NoRow : PySem.W.clsIn K cNoRow = some cdNoRow) (xt_NoRow : PySem.W.typeIn K (.ref cNoRow) = some (.type "type")) (xu_NoName : PySem.W.clsIn K cNoName = some cdNoName) (xt_NoName : PySem.W.typeIn K (.ref cNoName) = some (.type "type")) (xu_NoWindow : PySem.W.clsIn K cNoWindow = some cdNoWindow) (xt_NoWindow : PySem.W.typeIn K (.ref cNoWindow) = some (.type "type")) (xe5 : PySem.W.specialIn K (.builtin "object.__class__") "__get__" = some (some (.builtin "getset_descriptor.__get__"))) (xe6 : PySem.W.takesIn K (.builtin "object.__class__") = some true) (xe2N : PySem.W.findIn K (.ref cNoText) "__getattribute__" = some (some (.builtin "BaseException.__getattribute__"))) (xe3N : PySem.W.findIn K (.ref cNoText) "__getattr__" = some none) (xe4N : PySem.W.findIn K (.ref cNoText) "__class__" = some (some (.builtin "object.__class__"))) (xe7N : PySem.W.mroIn K cNoText (.type "object") = some true) (xe8N : PySem.W.mroIn K cNoText (.type "BaseException") = some true) (xsVN : PySem.W.subIn K (.ref cNoText) (.type "ValueError") = some true) (xsN_FordError : PySem.W.subIn K (.ref cNoText) (.ref cFordError) = some true) (xnN_FordError : cNoText ≠ cFordError) (xsN_NoNet : PySem.W.subIn K (.ref cNoText) (.ref cNoNet) = some false) (xnN_NoNet : cNoText ≠ cNoNet) (xsN_NoPlace : PySem.W.subIn K (.ref cNoText) (.ref cNoPlace) = some false) (xnN_NoPlace : cNoText ≠ cNoPlace) (xsN_NoBoard : PySem.W.subIn K (.ref cNoText) (.ref cNoBoard) = some false) (xnN_NoBoard : cNoText ≠ cNoBoard) (xsN_NoRoad : PySem.W.subIn K (.ref cNoText) (.ref cNoRoad) = some false) (xnN_NoRoad : cNoText ≠ cNoRoad) (xsN_NoTurn : PySem.W.subIn K (.ref cNoText) (.ref cNoTurn) = some false) (xnN_NoTurn : cNoText ≠ cNoTurn) (xsN_NoRow : PySem.W.subIn K (.ref cNoText) (.ref cNoRow) = some false) (xnN_NoRow : cNoText ≠ cNoRow) (xsN_NoName : PySem.W.subIn K (.ref cNoText) (.ref cNoName) = some false) (xnN_NoName : cNoText ≠ cNoName) (xsN_NoWindow : PySem.W.subIn K (.ref cNoText) (.ref cNoWindow) = some false) (xnN_NoWindow : cNoText ≠ cNoWindow) :
  ∃ fd : FuncData, (∀ (s : Shared) (v : Value), BindsTo s fd ⟨[v], []⟩ [("script", v)]) ∧ ∀ base : Heap, K.In base → base.Ns mainGlobals mg → FnOk l.prog w K mg base CX0 12 fa fd ["script"] (spLaw K) := by
 have e := hfa.symm.trans (PySem.W.mg_of X G a35)
 cases e
 have F0 := fun_mk (st := st_is_whole) l0 c0 k0
 have b0 := F0.binds (ps := ["thing"]) fun _ _ _ _ _ _ us hl => by
  obtain ⟨_, rfl⟩ := bl_1 hl
  rfl
 have m0 := PySem.W.mg_of X G a0
 have F1 := fun_mk (st := st_is_window) l1 c1 k1
 have b1 := F1.binds (ps := ["day", "thing"]) fun _ _ _ _ _ _ us hl => by
  obtain ⟨_, _, rfl⟩ := bl_2 hl
  rfl
 have m1 := PySem.W.mg_of X G a1
 have F2 := fun_mk (st := st_read_number) l2 c2 k2
 have b2 := F2.binds (ps := ["text", "most_figures"]) fun _ _ _ _ _ _ us hl => by
  obtain ⟨_, _, rfl⟩ := bl_2 hl
  rfl
 have m2 := PySem.W.mg_of X G a2
 have F3 := fun_mk (st := st_is_name) l3 c3 k3
 have b3 := F3.binds (ps := ["text"]) fun _ _ _ _ _ _ us hl => by
  obtain ⟨_, rfl⟩ := bl_1 hl
  rfl
 have m3 := PySem.W.mg_of X G a3
 have F4 := fun_mk (st := st_read_ends) l4 c4 k4
 have b4 := F4.binds (ps := ["text"]) fun _ _ _ _ _ _ us hl => by
  obtain ⟨_, rfl⟩ := bl_1 hl
  rfl
 have m4 := PySem.W.mg_of X G a4
 have F5 := fun_mk (st := st_read_span) l5 c5 k5
 have b5 := F5.binds (ps := ["text"]) fun _ _ _ _ _ _ us hl => by
  obtain ⟨_, rfl⟩ := bl_1 hl
  rfl
 have m5 := PySem.W.mg_of X G a5
 have F6 := fun_mk (st := st_read_window) l6 c6 k6
 have b6 := F6.binds (ps := ["day", "text"]) fun _ _ _ _ _ _ us hl => by
  obtain ⟨_, _, rfl⟩ := bl_2 hl
  rfl
 have m6 := PySem.W.mg_of X G a6
 have F7 := fun_mk (st := st_read_day) l7 c7 k7
 have b7 := F7.binds (ps := ["text"]) fun _ _ _ _ _ _ us hl => by
  obtain ⟨_, rfl⟩ := bl_1 hl
  rfl
 have m7 := PySem.W.mg_of X G a7
 have F8 := fun_mk (st := st_read_board) l8 c8 k8
 have b8 := F8.binds (ps := ["day", "words"]) fun _ _ _ _ _ _ us hl => by
  obtain ⟨_, _, rfl⟩ := bl_2 hl
  rfl
 have m8 := PySem.W.mg_of X G a8
 have F9 := fun_mk (st := st_number_of) l9 c9 k9
 have b9 := F9.binds (ps := ["names", "name"]) fun _ _ _ _ _ _ us hl => by
  obtain ⟨_, _, rfl⟩ := bl_2 hl
  rfl
 have m9 := PySem.W.mg_of X G a9
 have F10 := fun_mk (st := st_read_net) l10 c10 k10
 have b10 := F10.binds (ps := ["text"]) fun _ _ _ _ _ _ us hl => by
  obtain ⟨_, rfl⟩ := bl_1 hl
  rfl
 have m10 := PySem.W.mg_of X G a10
 have F11 := fun_mk (st := st_show_window) l11 c11 k11
 have b11 := F11.binds (ps := ["a", "b", "c"]) fun _ _ _ _ _ _ us hl => by
  obtain ⟨_, _, _, rfl⟩ := bl_3 hl
  rfl
 have m11 := PySem.W.mg_of X G a11
 have F12 := fun_mk (st := st_show_board) l12 c12 k12
 have b12 := F12.binds (ps := ["board"]) fun _ _ _ _ _ _ us hl => by
  obtain ⟨_, rfl⟩ := bl_1 hl
  rfl
 have m12 := PySem.W.mg_of X G a12
 have F13 := fun_mk (st := st_show_road) l13 c13 k13
 have b13 := F13.binds (ps := ["start", "end", "board"]) fun _ _ _ _ _ _ us hl => by
  obtain ⟨_, _, _, rfl⟩ := bl_3 hl
  rfl
 have m13 := PySem.W.mg_of X G a13
 have F14 := fun_mk (st := st_show_net) l14 c14 k14
 have b14 := F14.binds (ps := ["day", "names", "roads"]) fun _ _ _ _ _ _ us hl => by
  obtain ⟨_, _, _, rfl⟩ := bl_3 hl
  rfl
 have m14 := PySem.W.mg_of X G a14
 have F15 := fun_mk (st := st__law_cell) l15 c15 k15
 have b15 := F15.binds (ps := ["script", "k"]) fun _ _ _ _ _ _ us hl => by
  obtain ⟨_, _, rfl⟩ := bl_2 hl
  rfl
 have m15 := PySem.W.mg_of X G a15
 have F16 := fun_mk (st := st__law_day) l16 c16 k16
 have b16 := F16.binds (ps := ["cell"]) fun _ _ _ _ _ _ us hl => by
  obtain ⟨_, rfl⟩ := bl_1 hl
  rfl
 have m16 := PySem.W.mg_of X G a16
 have F17 := fun_mk (st := st__law_size) l17 c17 k17
 have b17 := F17.binds (ps := ["cell"]) fun _ _ _ _ _ _ us hl => by
  obtain ⟨_, rfl⟩ := bl_1 hl
  rfl
 have m17 := PySem.W.mg_of X G a17
 have F18 := fun_mk (st := st__law_road_window) l18 c18 k18
 have b18 := F18.binds (ps := ["day", "one", "two", "three"]) fun _ _ _ _ _ _ us hl => by
  obtain ⟨_, _, _, _, rfl⟩ := bl_4 hl
  rfl
 have m18 := PySem.W.mg_of X G a18
 have F19 := fun_mk (st := st__law_net) l19 c19 k19
 have b19 := F19.binds (ps := ["day", "size", "goal", "cells"]) fun _ _ _ _ _ _ us hl => by
  obtain ⟨_, _, _, _, rfl⟩ := bl_4 hl
  rfl
 have m19 := PySem.W.mg_of X G a19
 have F20 := fun_mk (st := st__law_roads) l20 c20 k20
 have b20 := F20.binds (ps := ["day", "size", "goal", "script"]) fun _ _ _ _ _ _ us hl => by
  obtain ⟨_, _, _, _, rfl⟩ := bl_4 hl
  rfl
 have m20 := PySem.W.mg_of X G a20
 have F21 := fun_mk (st := st__law_names) l21 c21 k21
 have b21 := F21.binds (ps := ["cell", "many"]) fun _ _ _ _ _ _ us hl => by
  obtain ⟨_, _, rfl⟩ := bl_2 hl
  rfl
 have m21 := PySem.W.mg_of X G a21
 have F22 := fun_mk (st := st__law_as_they_come) l22 c22 k22
 have b22 := F22.binds (ps := ["roads"]) fun _ _ _ _ _ _ us hl => by
  obtain ⟨_, rfl⟩ := bl_1 hl
  rfl
 have m22 := PySem.W.mg_of X G a22
 have F23 := fun_mk (st := st__law_many) l23 c23 k23
 have b23 := F23.binds (ps := ["roads"]) fun _ _ _ _ _ _ us hl => by
  obtain ⟨_, rfl⟩ := bl_1 hl
  rfl
 have m23 := PySem.W.mg_of X G a23
 have F24 := fun_mk (st := st__law_text) l24 c24 k24
 have b24 := F24.binds (ps := ["day", "names", "roads"]) fun _ _ _ _ _ _ us hl => by
  obtain ⟨_, _, _, rfl⟩ := bl_3 hl
  rfl
 have m24 := PySem.W.mg_of X G a24
 have F25 := fun_mk (st := st__law_net_by) l25 c25 k25
 have b25 := F25.binds (ps := ["day", "script"]) fun _ _ _ _ _ _ us hl => by
  obtain ⟨_, _, rfl⟩ := bl_2 hl
  rfl
 have m25 := PySem.W.mg_of X G a25
 have F26 := fun_mk (st := st__law_run) l26 c26 k26
 have b26 := F26.binds (ps := ["text", "at", "signs"]) fun _ _ _ _ _ _ us hl => by
  obtain ⟨_, _, _, rfl⟩ := bl_3 hl
  rfl
 have m26 := PySem.W.mg_of X G a26
 have F27 := fun_mk (st := st__law_number) l27 c27 k27
 have b27 := F27.binds (ps := ["text", "at"]) fun _ _ _ _ _ _ us hl => by
  obtain ⟨_, _, rfl⟩ := bl_2 hl
  rfl
 have m27 := PySem.W.mg_of X G a27
 have F28 := fun_mk (st := st__law_window_at) l28 c28 k28
 have b28 := F28.binds (ps := ["day", "text", "at"]) fun _ _ _ _ _ _ us hl => by
  obtain ⟨_, _, _, rfl⟩ := bl_3 hl
  rfl
 have m28 := PySem.W.mg_of X G a28
 have F29 := fun_mk (st := st__law_road_at) l29 c29 k29
 have b29 := F29.binds (ps := ["day", "names", "text", "at"]) fun _ _ _ _ _ _ us hl => by
  obtain ⟨_, _, _, _, rfl⟩ := bl_4 hl
  rfl
 have m29 := PySem.W.mg_of X G a29
 have F30 := fun_mk (st := st__law_read) l30 c30 k30
 have b30 := F30.binds (ps := ["text"]) fun _ _ _ _ _ _ us hl => by
  obtain ⟨_, rfl⟩ := bl_1 hl
  rfl
 have m30 := PySem.W.mg_of X G a30
 have F31 := fun_mk (st := st__law_figures) l31 c31 k31
 have b31 := F31.binds (ps := ["day", "text", "at", "cell"]) fun _ _ _ _ _ _ us hl => by
  obtain ⟨_, _, _, _, rfl⟩ := bl_4 hl
  rfl
 have m31 := PySem.W.mg_of X G a31
 have F32 := fun_mk (st := st__law_bent) l32 c32 k32
 have b32 := F32.binds (ps := ["day", "text", "cell"]) fun _ _ _ _ _ _ us hl => by
  obtain ⟨_, _, _, rfl⟩ := bl_3 hl
  rfl
 have m32 := PySem.W.mg_of X G a32
 have F33 := fun_mk (st := st__law_odd) l33 c33 k33
 have b33 := F33.binds (ps := ["cell"]) fun _ _ _ _ _ _ us hl => by
  obtain ⟨_, rfl⟩ := bl_1 hl
  rfl
 have m33 := PySem.W.mg_of X G a33
 have F34 := fun_mk (st := st__law_under) l34 c34 k34
 have b34 := F34.binds (ps := ["text"]) fun _ _ _ _ _ _ us hl => by
  obtain ⟨_, rfl⟩ := bl_1 hl
  rfl
 have m34 := PySem.W.mg_of X G a34
 have F35 := fun_mk (st := st_law) l35 c35 k35
 have b35 := F35.binds (ps := ["script"]) fun _ _ _ _ _ _ us hl => by
  obtain ⟨_, rfl⟩ := bl_1 hl
  rfl
 have m35 := PySem.W.mg_of X G a35
 have B : Bl mg := ⟨PySem.W.mg_none_of X G z0, PySem.W.mg_none_of X G z1, PySem.W.mg_none_of X G z2, PySem.W.mg_none_of X G z3, PySem.W.mg_none_of X G z4, PySem.W.mg_none_of X G z5, PySem.W.mg_none_of X G z6, PySem.W.mg_none_of X G z7, PySem.W.mg_none_of X G z8, PySem.W.mg_none_of X G z9, PySem.W.mg_none_of X G z10, PySem.W.mg_none_of X G z11⟩
 refine ⟨PySem.W.fnOf "law" "law" (defArgs st_law) (defBody st_law) (defScope st_law) .none kV35 dc35 pm35 an35 cd35 ct35, fun s v => .of_eq rfl, fun base _ _ => ?_⟩
 have gt : Gt mg tk1 tk2 tk3 tk4 := ⟨PySem.W.mg_of X G xg1, PySem.W.mg_of X G xg2, PySem.W.mg_of X G xg3, PySem.W.mg_of X G xg4⟩
 have X_NoText : XCl K mg "NoText" cNoText bmNoText := ⟨exc_of xl_NoText xq_NoText xb_NoText, PySem.W.mg_of X G xa_NoText⟩
 have kn1 : PySem.W.kitAny K (.ref cNoText) [.ref cNoNet, .ref cNoPlace] = some false := kit_none fun c hc => by
   simp only [List.mem_cons, List.not_mem_nil, or_false] at hc
   rcases hc with rfl | rfl
   ·exact kit_no xu_NoNet xt_NoNet xsN_NoNet xnN_NoNet
   ·exact kit_no xu_NoPlace xt_NoPlace xsN_NoPlace xnN_NoPlace
 have kn2 : PySem.W.kitAny K (.ref cNoText) [.ref cNoBoard, .ref cNoRoad, .ref cNoTurn] = some false := kit_none fun c hc => by
   simp only [List.mem_cons, List.not_mem_nil, or_false] at hc
   rcases hc with rfl | rfl | rfl
   ·exact kit_no xu_NoBoard xt_NoBoard xsN_NoBoard xnN_NoBoard
   ·exact kit_no xu_NoRoad xt_NoRoad xsN_NoRoad xnN_NoRoad
   ·exact kit_no xu_NoTurn xt_NoTurn xsN_NoTurn xnN_NoTurn
 have kn3 : PySem.W.kitAny K (.ref cNoText) [.ref cNoRow, .ref cNoName, .ref cNoWindow] = some false := kit_none fun c hc => by
   simp only [List.mem_cons, List.not_mem_nil, or_false] at hc
   rcases hc with rfl | rfl | rfl
   ·exact kit_no xu_NoRow xt_NoRow xsN_NoRow xnN_NoRow
   ·exact kit_no xu_NoName xt_NoName xsN_NoName xnN_NoName
   ·exact kit_no xu_NoWindow xt_NoWindow xsN_NoWindow xnN_NoWindow
 have kd : Knd K cNoText cFordError cNoNet cNoPlace cNoBoard cNoRoad cNoTurn cNoRow cNoName cNoWindow := ⟨⟨by rw [xu_NoText]; rfl, xe2N, xe3N, xe4N, xe5, xe6, xe7N, xe8N⟩, kit_yes xu_FordError xt_FordError xsN_FordError xnN_FordError, kit_ty (by decide +kernel) xsVN, kn1, kn2, kn3⟩
 have ms : Mgs mg cFordError cNoNet cNoPlace cNoBoard cNoRoad cNoTurn cNoText cNoRow cNoName cNoWindow := ⟨PySem.W.mg_none_of X G xz_ValueError, PySem.W.mg_of X G xa_FordError, PySem.W.mg_of X G xa_NoNet, PySem.W.mg_of X G xa_NoPlace, PySem.W.mg_of X G xa_NoBoard, PySem.W.mg_of X G xa_NoRoad, PySem.W.mg_of X G xa_NoTurn, PySem.W.mg_of X G xa_NoText, PySem.W.mg_of X G xa_NoRow, PySem.W.mg_of X G xa_NoName, PySem.W.mg_of X G xa_NoWindow⟩
 have C_is_whole := Callee.mk' (P := l.prog) (w := w) (base := base) (ok_is_whole (n := 0) F0 B) b0 k0 m0
 have C_is_window := Callee.mk' (P := l.prog) (w := w) (base := base) (ok_is_window (n := 1) F1 B C_is_whole) b1 k1 m1
 have C_read_number := Callee.mk' (P := l.prog) (w := w) (base := base) (ok_numQ (n := 0) gt F2 B) b2 k2 m2
 have C_is_name := Callee.mk' (P := l.prog) (w := w) (base := base) (ok_nameQ (n := 0) gt F3 B) b3 k3 m3
 have C_read_ends := Callee.mk' (P := l.prog) (w := w) (base := base) (ok_endsQ (n := 1) F4 C_is_name) b4 k4 m4
 have C_read_span := Callee.mk' (P := l.prog) (w := w) (base := base) (ok_spanQ (n := 1) gt F5 C_read_number) b5 k5 m5
 have C_read_window := Callee.mk' (P := l.prog) (w := w) (base := base) (ok_winQ (n := 2) gt F6 C_read_span (C_read_number.up (by decide)) C_is_window) b6 k6 m6
 have C_read_day := Callee.mk' (P := l.prog) (w := w) (base := base) (ok_dayQ (n := 1) gt F7 C_read_number) b7 k7 m7
 have C_read_board := Callee.mk' (P := l.prog) (w := w) (base := base) (ok_boardQ (n := 3) F8 B C_read_window) b8 k8 m8
 have C_number_of := Callee.mk' (P := l.prog) (w := w) (base := base) (ok_numOf (n := 0) F9) b9 k9 m9
 have FX_read_net := ok_readQ (P := l.prog) (w := w) (base := base) (n := 4) X_NoText F10 B (C_read_day.up (by decide)) (C_read_ends.up (by decide)) C_read_board (C_number_of.up (by decide))
 have CX_read_net := CalleeX.mk' (P := l.prog) (w := w) (base := base) FX_read_net b10 k10 m10
 have C_read_net := Callee.mk' (P := l.prog) (w := w) (base := base) (fn_ofX FX_read_net) b10 k10 m10
 have C_show_window := Callee.mk' (P := l.prog) (w := w) (base := base) (ok_showw (n := 0) F11) b11 k11 m11
 have C_show_board := Callee.mk' (P := l.prog) (w := w) (base := base) (ok_showb (n := 1) F12 C_show_window) b12 k12 m12
 have C_show_road := Callee.mk' (P := l.prog) (w := w) (base := base) (ok_showr (n := 2) F13 B C_show_board) b13 k13 m13
 have C_show_net := Callee.mk' (P := l.prog) (w := w) (base := base) (ok_shown (n := 3) F14 C_show_road) b14 k14 m14
 have C__law_cell := Callee.mk' (P := l.prog) (w := w) (base := base) (ok_cellA (n := 0) F15 B) b15 k15 m15
 have C__law_day := Callee.mk' (P := l.prog) (w := w) (base := base) (ok_dayA (n := 0) F16) b16 k16 m16
 have C__law_size := Callee.mk' (P := l.prog) (w := w) (base := base) (ok_size (n := 0) F17) b17 k17 m17
 have C__law_road_window := Callee.mk' (P := l.prog) (w := w) (base := base) (ok_roadwin (n := 0) F18 B) b18 k18 m18
 have C__law_net := Callee.mk' (P := l.prog) (w := w) (base := base) (ok_net (n := 1) F19 B C__law_road_window) b19 k19 m19
 have C__law_roads := Callee.mk' (P := l.prog) (w := w) (base := base) (ok_roads80 (n := 2) F20 (C__law_cell.up (by decide)) C__law_net) b20 k20 m20
 have C__law_names := Callee.mk' (P := l.prog) (w := w) (base := base) (ok_names81 (n := 0) F21 B) b21 k21 m21
 have C__law_as_they_come := Callee.mk' (P := l.prog) (w := w) (base := base) (ok_come81 (n := 0) F22 B) b22 k22 m22
 have C__law_many := Callee.mk' (P := l.prog) (w := w) (base := base) (ok_many81 (n := 0) F23 B) b23 k23 m23
 have C__law_text := Callee.mk' (P := l.prog) (w := w) (base := base) (ok_text (n := 0) F24 B) b24 k24 m24
 have C__law_net_by := Callee.mk' (P := l.prog) (w := w) (base := base) (ok_netby81 (n := 3) F25 (C__law_cell.up (by decide)) (C__law_size.up (by decide)) C__law_roads (C__law_as_they_come.up (by decide))) b25 k25 m25
 have C__law_run := Callee.mk' (P := l.prog) (w := w) (base := base) ((ok_run (n := 0) fig_dig F26 B).or (ok_run (n := 0) let_abc F26 B)) b26 k26 m26
 have C__law_number := Callee.mk' (P := l.prog) (w := w) (base := base) (ok_numA (n := 1) F27 B C__law_run) b27 k27 m27
 have C__law_window_at := Callee.mk' (P := l.prog) (w := w) (base := base) (ok_winAt (n := 2) F28 C__law_number) b28 k28 m28
 have C__law_road_at := Callee.mk' (P := l.prog) (w := w) (base := base) (ok_roadAt (n := 3) F29 (C__law_run.up (by decide)) C__law_window_at) b29 k29 m29
 have C__law_read := Callee.mk' (P := l.prog) (w := w) (base := base) (ok_readA (n := 4) F30 B (C__law_number.up (by decide)) C__law_road_at) b30 k30 m30
 have C__law_figures := Callee.mk' (P := l.prog) (w := w) (base := base) (ok_fig (n := 1) F31 B C__law_run) b31 k31 m31
 have C__law_bent := Callee.mk' (P := l.prog) (w := w) (base := base) (ok_bent (n := 2) F32 B C__law_figures) b32 k32 m32
 have C__law_odd := Callee.mk' (P := l.prog) (w := w) (base := base) (ok_odd (n := 0) F33) b33 k33 m33
 have C__law_under := Callee.mk' (P := l.prog) (w := w) (base := base) (ok_under (n := 5) ms kd X_NoText F34 B CX_read_net) b34 k34 m34
 exact (ok_law (n := 10) F35 B (C__law_cell.up (by decide)) (C__law_day.up (by decide)) (C__law_net_by.up (by decide)) (C__law_names.up (by decide)) (C__law_many.up (by decide)) (C__law_text.up (by decide)) (C__law_bent.up (by decide)) (C__law_odd.up (by decide)) (C__law_read.up (by decide)) (C__law_under.up (by decide)) (C_read_net.up (by decide)) (C_show_net.up (by decide))).mono (by decide)
theorem walk {l : PySem.W.OpenLaw} {q : Program} {loose : List Str} {XP : (Str → Option Value) → Heap → Prop} {YP : World → Heap → Prop} {d : DefRec} {K : Params → PySem.W.Frag} (hn : l.most = some 63) (hdf : d.params.defaults = [])
  (hY : ∀ (w : World) (h : Heap), YP w h → (K w.params).In h)
  (F : ∀ (w : World) (mg : Str → Option Value) (fa : Addr) (h : Heap), (K w.params).In h → h.Ns mainGlobals mg → mg d.name = some (.ref fa) →
   ∃ fd : FuncData, (∀ (s : Shared) (u : Value), BindsTo s fd ⟨[u], []⟩ [("script", u)]) ∧ ∀ base : Heap, (K w.params).In base → base.Ns mainGlobals mg → FnOk l.prog w (K w.params) mg base CX0 12 fa fd ["script"] (spLaw (K w.params))) :
  PySem.W.WalkO q loose XP YP l.row.toRowW d [] (fun f vs => PySem.call f vs) :=
 L2.walk_of (n := 63) (k := 12) (x := "script") (CX := fun _ => CX0) (sp := fun w => spLaw (K w.params)) hn (by decide) hdf ⟨rfl,by decide,by decide⟩ hY F (fun _ _ a ns hl _ hS => ⟨a,ns,rfl,hS,hl,fun _ => rfl⟩) fun _ _ _ _ _ z => z
end My
open PySem PySem.W PyProof.Rows
set_option maxRecDepth 100000 in
set_option maxHeartbeats 0 in
theorem PySem.Challenge.cw_fordbook_k82_texts_read_or_refused_holds : PySem.Challenge.rw_fordbook_k82_texts_read_or_refused.Holds := by
 w_on
 refine PySem.W.holds_law My.k_ws fun said => ?_
 refine PySem.W.holds_open (q := My.view) (loose := []) (Xt := (fun s => PySem.W.xlAt My.view [] s && PySem.W.recOk (PySem.W.RowW.records (PySem.W.OpenRow.toRowW PySem.Challenge.rw_fordbook_k82_texts_read_or_refused.row)) s)) (XP := PySem.W.XL My.view []) (Yf := PySem.W.Hook.obs (PySem.W.kHook My.KK My.kAs My.k_as)) (Ya := PySem.W.Hook.val (PySem.W.kHook My.KK My.kAs My.k_as)) (YP := PySem.W.Hook.says (PySem.W.kHook My.KK My.kAs My.k_as)) (N := 6810) My.k_left (PySem.W.Hook.of (PySem.W.kHook My.KK My.kAs My.k_as)) (PySem.W.Hook.keeps (PySem.W.kHook My.KK My.kAs My.k_as))
  (fun s e => PySem.W.xl_of s (Bool.and_eq_true_iff.mp e).1) PySem.W.XL.keeps (by rfl) (by rfl) (by rfl) (fun s e => PySem.W.recFacts_of (Bool.and_eq_true_iff.mp e).2) (by rfl) (by assumption) (by decide +kernel) ⟨rfl,rfl,rfl,rfl,rfl,by decide +kernel⟩ ?hw ?hc
 case hw => w_witness2
 k_fill
 refine My.walk (l := PySem.Challenge.rw_fordbook_k82_texts_read_or_refused) rfl rfl (fun w h Y => PySem.W.kIn_of Y) ?F
 case F =>
  intro w mg fa h KX G hmg
  refine' My.all_mk KX G hmg ?a0 ?l0 ?c0 ?k0 ?a1 ?l1 ?c1 ?k1 ?a2 ?l2 ?c2 ?k2 ?a3 ?l3 ?c3 ?k3 ?a4 ?l4 ?c4 ?k4 ?a5 ?l5 ?c5 ?k5 ?a6 ?l6 ?c6 ?k6 ?a7 ?l7 ?c7 ?k7 ?a8 ?l8 ?c8 ?k8 ?a9 ?l9 ?c9 ?k9 ?a10 ?l10 ?c10 ?k10 ?a11 ?l11 ?c11 ?k11 ?a12 ?l12 ?c12 ?k12 ?a13 ?l13 ?c13 ?k13 ?a14 ?l14 ?c14 ?k14 ?a15 ?l15 ?c15 ?k15 ?a16 ?l16 ?c16 ?k16 ?a17 ?l17 ?c17 ?k17 ?a18 ?l18 ?c18 ?k18 ?a19 ?l19 ?c19 ?k19 ?a20 ?l20 ?c20 ?k20 ?a21 ?l21 ?c21 ?k21 ?a22 ?l22 ?c22 ?k22 ?a23 ?l23 ?c23 ?k23 ?a24 ?l24 ?c24 ?k24 ?a25 ?l25 ?c25 ?k25 ?a26 ?l26 ?c26 ?k26 ?a27 ?l27 ?c27 ?k27 ?a28 ?l28 ?c28 ?k28 ?a29 ?l29 ?c29 ?k29 ?a30 ?l30 ?c30 ?k30 ?a31 ?l31 ?c31 ?k31 ?a32 ?l32 ?c32 ?k32 ?a33 ?l33 ?c33 ?k33 ?a34 ?l34 ?c34 ?k34 ?a35 ?l35 ?c35 ?k35 ?z0 ?z1 ?z2 ?z3 ?z4 ?z5 ?z6 ?z7 ?z8 ?z9 ?z10 ?z11 ?xg1 ?xg2 ?xg3 ?xg4 ?xa_NoText ?xa_FordError ?xa_NoNet ?xa_NoPlace ?xa_NoBoard ?xa_NoRoad ?xa_NoTurn ?xa_NoRow ?xa_NoName ?xa_NoWindow ?xl_NoText ?xq_NoText ?xb_NoText ?xz_ValueError ?xu_NoText ?xt_NoText ?xu_FordError ?xt_FordError ?xu_NoNet ?xt_NoNet ?xu_NoPlace ?xt_NoPlace ?xu_NoBoard ?xt_NoBoard ?xu_NoRoad ?xt_NoRoad ?xu_NoTurn ?xt_NoTurn ?xu_NoRow ?xt_NoRow ?xu_NoName ?xt_NoName ?xu_NoWindow ?xt_NoWindow ?xe5 ?xe6 ?xe2N ?xe3N ?xe4N ?xe7N ?xe8N ?xsVN ?xsN_FordError ?xnN_FordError ?xsN_NoNet ?xnN_NoNet ?xsN_NoPlace ?xnN_NoPlace ?xsN_NoBoard ?xnN_NoBoard ?xsN_NoRoad ?xnN_NoRoad ?xsN_NoTurn ?xnN_NoTurn ?xsN_NoRow ?xnN_NoRow ?xsN_NoName ?xnN_NoName ?xsN_NoWindow ?xnN_NoWindow
  (case a0 => k_is)
  (case l0 => k_is)
  (case c0 => k_is)
  (case k0 => k_is)
  (case a1 => k_is)
  (case l1 => k_is)
  (case c1 => k_is)
  (case k1 => k_is)
  (case a2 => k_is)
  (case l2 => k_is)
  (case c2 => k_is)
  (case k2 => k_is)
  (case a3 => k_is)
  (case l3 => k_is)
  (case c3 => k_is)
  (case k3 => k_is)
  (case a4 => k_is)
  (case l4 => k_is)
  (case c4 => k_is)
  (case k4 => k_is)
  (case a5 => k_is)
  (case l5 => k_is)
  (case c5 => k_is)
  (case k5 => k_is)
  (case a6 => k_is)
  (case l6 => k_is)
  (case c6 => k_is)
  (case k6 => k_is)
  (case a7 => k_is)
  (case l7 => k_is)
  (case c7 => k_is)
  (case k7 => k_is)
  (case a8 => k_is)
  (case l8 => k_is)
  (case c8 => k_is)
  (case k8 => k_is)
  (case a9 => k_is)
  (case l9 => k_is)
  (case c9 => k_is)
  (case k9 => k_is)
  (case a10 => k_is)
  (case l10 => k_is)
  (case c10 => k_is)
  (case k10 => k_is)
  (case a11 => k_is)
  (case l11 => k_is)
  (case c11 => k_is)
  (case k11 => k_is)
  (case a12 => k_is)
  (case l12 => k_is)
  (case c12 => k_is)
  (case k12 => k_is)
  (case a13 => k_is)
  (case l13 => k_is)
  (case c13 => k_is)
  (case k13 => k_is)
  (case a14 => k_is)
  (case l14 => k_is)
  (case c14 => k_is)
  (case k14 => k_is)
  (case a15 => k_is)
  (case l15 => k_is)
  (case c15 => k_is)
  (case k15 => k_is)
  (case a16 => k_is)
  (case l16 => k_is)
  (case c16 => k_is)
  (case k16 => k_is)
  (case a17 => k_is)
  (case l17 => k_is)
  (case c17 => k_is)
  (case k17 => k_is)
  (case a18 => k_is)
  (case l18 => k_is)
  (case c18 => k_is)
  (case k18 => k_is)
  (case a19 => k_is)
  (case l19 => k_is)
  (case c19 => k_is)
  (case k19 => k_is)
  (case a20 => k_is)
  (case l20 => k_is)
  (case c20 => k_is)
  (case k20 => k_is)
  (case a21 => k_is)
  (case l21 => k_is)
  (case c21 => k_is)
  (case k21 => k_is)
  (case a22 => k_is)
  (case l22 => k_is)
  (case c22 => k_is)
  (case k22 => k_is)
  (case a23 => k_is)
  (case l23 => k_is)
  (case c23 => k_is)
  (case k23 => k_is)
  (case a24 => k_is)
  (case l24 => k_is)
  (case c24 => k_is)
  (case k24 => k_is)
  (case a25 => k_is)
  (case l25 => k_is)
  (case c25 => k_is)
  (case k25 => k_is)
  (case a26 => k_is)
  (case l26 => k_is)
  (case c26 => k_is)
  (case k26 => k_is)
  (case a27 => k_is)
  (case l27 => k_is)
  (case c27 => k_is)
  (case k27 => k_is)
  (case a28 => k_is)
  (case l28 => k_is)
  (case c28 => k_is)
  (case k28 => k_is)
  (case a29 => k_is)
  (case l29 => k_is)
  (case c29 => k_is)
  (case k29 => k_is)
  (case a30 => k_is)
  (case l30 => k_is)
  (case c30 => k_is)
  (case k30 => k_is)
  (case a31 => k_is)
  (case l31 => k_is)
  (case c31 => k_is)
  (case k31 => k_is)
  (case a32 => k_is)
  (case l32 => k_is)
  (case c32 => k_is)
  (case k32 => k_is)
  (case a33 => k_is)
  (case l33 => k_is)
  (case c33 => k_is)
  (case k33 => k_is)
  (case a34 => k_is)
  (case l34 => k_is)
  (case c34 => k_is)
  (case k34 => k_is)
  (case a35 => k_is)
  (case l35 => k_is)
  (case c35 => k_is)
  (case k35 => k_is)
  (case z0 => k_is)
  (case z1 => k_is)
  (case z2 => k_is)
  (case z3 => k_is)
  (case z4 => k_is)
  (case z5 => k_is)
  (case z6 => k_is)
  (case z7 => k_is)
  (case z8 => k_is)
  (case z9 => k_is)
  (case z10 => k_is)
  (case z11 => k_is)
  (case xg1 => k_is)
  (case xg2 => k_is)
  (case xg3 => k_is)
  (case xg4 => k_is)
  (case xa_NoText => k_is)
  (case xa_FordError => k_is)
  (case xa_NoNet => k_is)
  (case xa_NoPlace => k_is)
  (case xa_NoBoard => k_is)
  (case xa_NoRoad => k_is)
  (case xa_NoTurn => k_is)
  (case xa_NoRow => k_is)
  (case xa_NoName => k_is)
  (case xa_NoWindow => k_is)
  (case xl_NoText => k_is)
  (case xq_NoText => k_exc)
  (case xb_NoText => first | rfl | decide +kernel)
  (case xz_ValueError => k_is)
  (case xu_NoText => k_is)
  (case xt_NoText => k_is)
  (case xu_FordError => k_is)
  (case xt_FordError => k_is)
  (case xu_NoNet => k_is)
  (case xt_NoNet => k_is)
  (case xu_NoPlace => k_is)
  (case xt_NoPlace => k_is)
  (case xu_NoBoard => k_is)
  (case xt_NoBoard => k_is)
  (case xu_NoRoad => k_is)
  (case xt_NoRoad => k_is)
  (case xu_NoTurn => k_is)
  (case xt_NoTurn => k_is)
  (case xu_NoRow => k_is)
  (case xt_NoRow => k_is)
  (case xu_NoName => k_is)
  (case xt_NoName => k_is)
  (case xu_NoWindow => k_is)
  (case xt_NoWindow => k_is)
  (case xe5 => k_is)
  (case xe6 => k_is)
  (case xe2N => k_is)
  (case xe3N => k_is)
  (case xe4N => k_is)
  (case xe7N => k_is)
  (case xe8N => k_is)
  (case xsVN => k_is)
  (case xsN_FordError => k_is)
  (case xnN_FordError => first | rfl | decide +kernel)
  (case xsN_NoNet => k_is)
  (case xnN_NoNet => first | rfl | decide +kernel)
  (case xsN_NoPlace => k_is)
  (case xnN_NoPlace => first | rfl | decide +kernel)
  (case xsN_NoBoard => k_is)
  (case xnN_NoBoard => first | rfl | decide +kernel)
  (case xsN_NoRoad => k_is)
  (case xnN_NoRoad => first | rfl | decide +kernel)
  (case xsN_NoTurn => k_is)
  (case xnN_NoTurn => first | rfl | decide +kernel)
  (case xsN_NoRow => k_is)
  (case xnN_NoRow => first | rfl | decide +kernel)
  (case xsN_NoName => k_is)
  (case xnN_NoName => first | rfl | decide +kernel)
  (case xsN_NoWindow => k_is)
  (case xnN_NoWindow => first | rfl | decide +kernel)
