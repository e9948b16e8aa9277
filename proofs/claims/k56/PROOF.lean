import PyProof.Rows.All
import Wide.All
import OpenK.AllK
import Wide.FinOn
import PyProof.EqAt
import PyProof.EqKinds
import PyProof.TupleCall
import PySem.Challenge.RW_fordbook_k56_refused_journeys
set_option Elab.async false
set_option linter.all false
set_option maxRecDepth 100000
local macro_rules|`(tactic|obtain ⟨$p,$q,$r,*⟩:=$e)=>`(tactic|first|(refine Classical.byContradiction fun h=>?_;rcases $e:term with ⟨$p,$q,$r,*⟩<;>(refine h ?_;clear h))|rcases $e:term with ⟨$p,$q,$r,*⟩)
namespace L2
open PySem
noncomputable def defArgs (s:Stmt):Arguments:=match s with
 | .FunctionDef _ a _ _ _ _ _ _ _ _=>a
 | _=>{ posonlyargs:=[],args:=[],vararg:=none,kwonlyargs:=[],kw_defaults:=[],kwarg:=none,defaults:=[] }
noncomputable def defBody (s:Stmt):List Stmt:=match s with
 | .FunctionDef _ _ b _ _ _ _ _ _ _=>b
 | _=>[]
noncomputable def defScope (s:Stmt):Scope:=match s with
 | .FunctionDef _ _ _ _ _ _ sc _ _ _=>sc
 | _=>{ kind:=.function,names:=[],isGenerator:=false,isCoroutine:=false }
end L2
namespace My
open PySem L2
noncomputable def top (i:Nat):Stmt:=PySem.Challenge.pw_fordbook_k56_refused_journeys.main.body.getD i (.Pass ⟨0,0,0,0⟩)
noncomputable abbrev st_is_whole:Stmt:=top 1
noncomputable abbrev st_is_window:Stmt:=top 2
noncomputable abbrev st_is_board:Stmt:=top 3
noncomputable abbrev st_next_open:Stmt:=top 4
noncomputable abbrev st_last_open:Stmt:=top 5
noncomputable abbrev st_first_where:Stmt:=top 7
noncomputable abbrev st_set_off:Stmt:=top 8
noncomputable abbrev st_come:Stmt:=top 9
noncomputable abbrev st_leave:Stmt:=top 10
noncomputable abbrev st_standing:Stmt:=top 11
noncomputable abbrev st_is_number:Stmt:=top 24
noncomputable abbrev st_is_road:Stmt:=top 25
noncomputable abbrev st_is_net:Stmt:=top 26
noncomputable abbrev st_need_net:Stmt:=top 27
noncomputable abbrev st_need_place:Stmt:=top 28
noncomputable abbrev st_stretches:Stmt:=top 30
noncomputable abbrev st_first_told:Stmt:=top 31
noncomputable abbrev st_overlay:Stmt:=top 32
noncomputable abbrev st_put_window:Stmt:=top 33
noncomputable abbrev st_clock_from:Stmt:=top 34
noncomputable abbrev st_picked:Stmt:=top 36
noncomputable abbrev st_joined:Stmt:=top 37
noncomputable abbrev st_sooner:Stmt:=top 38
noncomputable abbrev st_ridden:Stmt:=top 39
noncomputable abbrev st_behind:Stmt:=top 40
noncomputable abbrev st_clock_within:Stmt:=top 41
noncomputable abbrev st_clock_of:Stmt:=top 42
noncomputable abbrev st_fords_of:Stmt:=top 44
noncomputable abbrev st_staying:Stmt:=top 45
noncomputable abbrev st_copied_table:Stmt:=top 46
noncomputable abbrev st_grown:Stmt:=top 47
noncomputable abbrev st_ride_first:Stmt:=top 48
noncomputable abbrev st_rounds_to:Stmt:=top 49
noncomputable abbrev st_rounds:Stmt:=top 50
noncomputable abbrev st_comes_by:Stmt:=top 52
noncomputable abbrev st_least_round:Stmt:=top 53
noncomputable abbrev st_ask_by:Stmt:=top 54
noncomputable abbrev st_walk:Stmt:=top 55
noncomputable abbrev st_journey:Stmt:=top 57
noncomputable abbrev st_last_journey:Stmt:=top 58
noncomputable abbrev st_fewest_rides:Stmt:=top 59
noncomputable abbrev st__law_cell:Stmt:=top 61
noncomputable abbrev st__law_day:Stmt:=top 62
noncomputable abbrev st__law_size:Stmt:=top 63
noncomputable abbrev st__law_road_window:Stmt:=top 64
noncomputable abbrev st__law_net:Stmt:=top 65
noncomputable abbrev st__law_odd_place:Stmt:=top 66
noncomputable abbrev st__law_asked:Stmt:=top 67
noncomputable abbrev st__law_named:Stmt:=top 68
noncomputable abbrev st__law_bent:Stmt:=top 69
noncomputable abbrev st_law:Stmt:=top 70
noncomputable def o_2 (P:Params):Obj:=(Obj.mk .none none (.dict #[] 0) #[])
noncomputable def o_3 (P:Params):Obj:=(Obj.mk (.type "dict") none (.dict #[(DictEntry.mk (PyData.keyHash P "__name__") (.str "__name__" 165) (.str "law_fordbook_k56_refused_journeys" 803)),(DictEntry.mk (PyData.keyHash P "__doc__") (.str "__doc__" 166) .none),(DictEntry.mk (PyData.keyHash P "__package__") (.str "__package__" 167) .none),(DictEntry.mk (PyData.keyHash P "__loader__") (.str "__loader__" 168) (.builtin "__main__.__loader__#opaque")),(DictEntry.mk (PyData.keyHash P "__spec__") (.str "__spec__" 169) .none),(DictEntry.mk (PyData.keyHash P "__annotations__") (.str "__annotations__" 170) (.ref 6)),(DictEntry.mk (PyData.keyHash P "__builtins__") (.str "__builtins__" 171) (.ref 4)),(DictEntry.mk (PyData.keyHash P "__file__") (.str "__file__" 173) (.str "/claim/cut.py" 172)),(DictEntry.mk (PyData.keyHash P "__cached__") (.str "__cached__" 174) .none),(DictEntry.mk (PyData.keyHash P "is_whole") (.str "is_whole" 195) (.ref 21)),(DictEntry.mk (PyData.keyHash P "is_window") (.str "is_window" 201) (.ref 26)),(DictEntry.mk (PyData.keyHash P "is_board") (.str "is_board" 207) (.ref 31)),(DictEntry.mk (PyData.keyHash P "next_open") (.str "next_open" 218) (.ref 38)),(DictEntry.mk (PyData.keyHash P "last_open") (.str "last_open" 229) (.ref 45)),(DictEntry.mk (PyData.keyHash P "first_where") (.str "first_where" 242) (.ref 52)),(DictEntry.mk (PyData.keyHash P "set_off") (.str "set_off" 255) (.ref 59)),(DictEntry.mk (PyData.keyHash P "come") (.str "come" 265) (.ref 66)),(DictEntry.mk (PyData.keyHash P "leave") (.str "leave" 278) (.ref 73)),(DictEntry.mk (PyData.keyHash P "standing") (.str "standing" 285) (.ref 80)),(DictEntry.mk (PyData.keyHash P "FordError") (.str "FordError" 305) (.ref 90)),(DictEntry.mk (PyData.keyHash P "NoBoard") (.str "NoBoard" 321) (.ref 103)),(DictEntry.mk (PyData.keyHash P "NoNet") (.str "NoNet" 337) (.ref 115)),(DictEntry.mk (PyData.keyHash P "NoPlace") (.str "NoPlace" 353) (.ref 127)),(DictEntry.mk (PyData.keyHash P "NoRoad") (.str "NoRoad" 369) (.ref 139)),(DictEntry.mk (PyData.keyHash P "NoTurn") (.str "NoTurn" 385) (.ref 151)),(DictEntry.mk (PyData.keyHash P "NoText") (.str "NoText" 401) (.ref 163)),(DictEntry.mk (PyData.keyHash P "NoRow") (.str "NoRow" 417) (.ref 175)),(DictEntry.mk (PyData.keyHash P "NoName") (.str "NoName" 433) (.ref 187)),(DictEntry.mk (PyData.keyHash P "NoWindow") (.str "NoWindow" 449) (.ref 199)),(DictEntry.mk (PyData.keyHash P "is_number") (.str "is_number" 459) (.ref 208)),(DictEntry.mk (PyData.keyHash P "is_road") (.str "is_road" 465) (.ref 213)),(DictEntry.mk (PyData.keyHash P "is_net") (.str "is_net" 471) (.ref 218)),(DictEntry.mk (PyData.keyHash P "need_net") (.str "need_net" 480) (.ref 225)),(DictEntry.mk (PyData.keyHash P "need_place") (.str "need_place" 488) (.ref 232)),(DictEntry.mk (PyData.keyHash P "stretches") (.str "stretches" 503) (.ref 239)),(DictEntry.mk (PyData.keyHash P "first_told") (.str "first_told" 510) (.ref 246)),(DictEntry.mk (PyData.keyHash P "overlay") (.str "overlay" 526) (.ref 253)),(DictEntry.mk (PyData.keyHash P "put_window") (.str "put_window" 536) (.ref 260)),(DictEntry.mk (PyData.keyHash P "clock_from") (.str "clock_from" 550) (.ref 267)),(DictEntry.mk (PyData.keyHash P "picked") (.str "picked" 558) (.ref 272)),(DictEntry.mk (PyData.keyHash P "joined") (.str "joined" 575) (.ref 279)),(DictEntry.mk (PyData.keyHash P "sooner") (.str "sooner" 584) (.ref 286)),(DictEntry.mk (PyData.keyHash P "ridden") (.str "ridden" 600) (.ref 293)),(DictEntry.mk (PyData.keyHash P "behind") (.str "behind" 615) (.ref 300)),(DictEntry.mk (PyData.keyHash P "clock_within") (.str "clock_within" 624) (.ref 307)),(DictEntry.mk (PyData.keyHash P "clock_of") (.str "clock_of" 632) (.ref 314)),(DictEntry.mk (PyData.keyHash P "fords_of") (.str "fords_of" 640) (.ref 319)),(DictEntry.mk (PyData.keyHash P "staying") (.str "staying" 646) (.ref 324)),(DictEntry.mk (PyData.keyHash P "copied_table") (.str "copied_table" 652) (.ref 329)),(DictEntry.mk (PyData.keyHash P "grown") (.str "grown" 663) (.ref 336)),(DictEntry.mk (PyData.keyHash P "ride_first") (.str "ride_first" 676) (.ref 343)),(DictEntry.mk (PyData.keyHash P "rounds_to") (.str "rounds_to" 688) (.ref 350)),(DictEntry.mk (PyData.keyHash P "rounds") (.str "rounds" 698) (.ref 357)),(DictEntry.mk (PyData.keyHash P "comes_by") (.str "comes_by" 711) (.ref 364)),(DictEntry.mk (PyData.keyHash P "least_round") (.str "least_round" 724) (.ref 371)),(DictEntry.mk (PyData.keyHash P "ask_by") (.str "ask_by" 743) (.ref 378)),(DictEntry.mk (PyData.keyHash P "walk") (.str "walk" 759) (.ref 385)),(DictEntry.mk (PyData.keyHash P "journey") (.str "journey" 774) (.ref 392)),(DictEntry.mk (PyData.keyHash P "last_journey") (.str "last_journey" 788) (.ref 399)),(DictEntry.mk (PyData.keyHash P "fewest_rides") (.str "fewest_rides" 802) (.ref 406)),(DictEntry.mk (PyData.keyHash P "_law_cell") (.str "_law_cell" 812) (.ref 413)),(DictEntry.mk (PyData.keyHash P "_law_day") (.str "_law_day" 820) (.ref 420)),(DictEntry.mk (PyData.keyHash P "_law_size") (.str "_law_size" 827) (.ref 427)),(DictEntry.mk (PyData.keyHash P "_law_road_window") (.str "_law_road_window" 841) (.ref 434)),(DictEntry.mk (PyData.keyHash P "_law_net") (.str "_law_net" 855) (.ref 441)),(DictEntry.mk (PyData.keyHash P "_law_odd_place") (.str "_law_odd_place" 863) (.ref 448)),(DictEntry.mk (PyData.keyHash P "_law_asked") (.str "_law_asked" 875) (.ref 455)),(DictEntry.mk (PyData.keyHash P "_law_named") (.str "_law_named" 889) (.ref 462)),(DictEntry.mk (PyData.keyHash P "_law_bent") (.str "_law_bent" 902) (.ref 469)),(DictEntry.mk (PyData.keyHash P "law") (.str "law" 919) (.ref 476))] 70) #[])
noncomputable def o_15 (P:Params):Obj:=(Obj.mk (.type "tuple") none (.seq #[] 0) #[])
noncomputable def o_17 (P:Params):Obj:=(Obj.mk (.type "tuple") none (.seq #[(.str "thing" 192)] 0) #[])
noncomputable def o_18 (P:Params):Obj:=(Obj.mk (.type "tuple") none (.seq #[] 0) #[])
noncomputable def o_20 (P:Params):Obj:=(Obj.mk (.type "code") none (.fields #[(.str "is_whole" 189),(.str "is_whole" 190),(.str "/claim/cut.py" 191),(.int 2 0),(.int 1 0),(.int 0 0),(.int 0 0),(.int 3 0),(.ref 15),(.bool @Bool.true),(.int 181 0),(.ref 16),.none,(.ref 17),(.ref 18),(.ref 19),(.int 193 0),(.int 2 0),(.str "/claim/cut.py" 194)]) #[])
noncomputable def o_21 (P:Params):Obj:=(Obj.mk (.type "function") none (.func (@PySem.FuncData.mk (.ofString "is_whole") (.ofString "is_whole") (defArgs st_is_whole) (@PySem.FuncBody.stmts (defBody st_is_whole)) (defScope st_is_whole) 3 [] .none .none .none (.str "fordbook.windows" 187) none (.ref 20) .none 0)) #[])
noncomputable def o_22 (P:Params):Obj:=(Obj.mk (.type "tuple") none (.seq #[] 0) #[])
noncomputable def o_25 (P:Params):Obj:=(Obj.mk (.type "code") none (.fields #[(.str "is_window" 196),(.str "is_window" 197),(.str "/claim/cut.py" 198),(.int 4 0),(.int 2 0),(.int 0 0),(.int 0 0),(.int 3 0),(.ref 22),(.bool @Bool.true),(.int 181 0),(.ref 23),.none,.none,.none,(.ref 24),(.int 199 0),(.int 4 0),(.str "/claim/cut.py" 200)]) #[])
noncomputable def o_26 (P:Params):Obj:=(Obj.mk (.type "function") none (.func (@PySem.FuncData.mk (.ofString "is_window") (.ofString "is_window") (defArgs st_is_window) (@PySem.FuncBody.stmts (defBody st_is_window)) (defScope st_is_window) 3 [] .none .none .none (.str "fordbook.windows" 187) none (.ref 25) .none 0)) #[])
noncomputable def o_27 (P:Params):Obj:=(Obj.mk (.type "tuple") none (.seq #[] 0) #[])
noncomputable def o_30 (P:Params):Obj:=(Obj.mk (.type "code") none (.fields #[(.str "is_board" 202),(.str "is_board" 203),(.str "/claim/cut.py" 204),(.int 10 0),(.int 2 0),(.int 0 0),(.int 0 0),(.int 3 0),(.ref 27),(.bool @Bool.true),(.int 181 0),(.ref 28),.none,.none,.none,(.ref 29),(.int 205 0),(.int 10 0),(.str "/claim/cut.py" 206)]) #[])
noncomputable def o_31 (P:Params):Obj:=(Obj.mk (.type "function") none (.func (@PySem.FuncData.mk (.ofString "is_board") (.ofString "is_board") (defArgs st_is_board) (@PySem.FuncBody.stmts (defBody st_is_board)) (defScope st_is_board) 3 [] .none .none .none (.str "fordbook.windows" 187) none (.ref 30) .none 0)) #[])
noncomputable def o_32 (P:Params):Obj:=(Obj.mk (.type "tuple") none (.seq #[] 0) #[])
noncomputable def o_34 (P:Params):Obj:=(Obj.mk (.type "tuple") none (.seq #[(.str "day" 211),(.str "window" 212),(.str "t" 213),(.str "hour" 214),(.str "midnight" 215)] 0) #[])
noncomputable def o_35 (P:Params):Obj:=(Obj.mk (.type "tuple") none (.seq #[] 0) #[])
noncomputable def o_37 (P:Params):Obj:=(Obj.mk (.type "code") none (.fields #[(.str "next_open" 208),(.str "next_open" 209),(.str "/claim/cut.py" 210),(.int 12 0),(.int 3 0),(.int 0 0),(.int 0 0),(.int 3 0),(.ref 32),(.bool @Bool.true),(.int 181 0),(.ref 33),.none,(.ref 34),(.ref 35),(.ref 36),(.int 216 0),(.int 12 0),(.str "/claim/cut.py" 217)]) #[])
noncomputable def o_38 (P:Params):Obj:=(Obj.mk (.type "function") none (.func (@PySem.FuncData.mk (.ofString "next_open") (.ofString "next_open") (defArgs st_next_open) (@PySem.FuncBody.stmts (defBody st_next_open)) (defScope st_next_open) 3 [] .none .none .none (.str "fordbook.windows" 187) none (.ref 37) .none 0)) #[])
noncomputable def o_39 (P:Params):Obj:=(Obj.mk (.type "tuple") none (.seq #[] 0) #[])
noncomputable def o_41 (P:Params):Obj:=(Obj.mk (.type "tuple") none (.seq #[(.str "day" 222),(.str "window" 223),(.str "t" 224),(.str "hour" 225),(.str "midnight" 226)] 0) #[])
noncomputable def o_42 (P:Params):Obj:=(Obj.mk (.type "tuple") none (.seq #[] 0) #[])
noncomputable def o_44 (P:Params):Obj:=(Obj.mk (.type "code") none (.fields #[(.str "last_open" 219),(.str "last_open" 220),(.str "/claim/cut.py" 221),(.int 18 0),(.int 3 0),(.int 0 0),(.int 0 0),(.int 3 0),(.ref 39),(.bool @Bool.true),(.int 181 0),(.ref 40),.none,(.ref 41),(.ref 42),(.ref 43),(.int 227 0),(.int 18 0),(.str "/claim/cut.py" 228)]) #[])
noncomputable def o_45 (P:Params):Obj:=(Obj.mk (.type "function") none (.func (@PySem.FuncData.mk (.ofString "last_open") (.ofString "last_open") (defArgs st_last_open) (@PySem.FuncBody.stmts (defBody st_last_open)) (defScope st_last_open) 3 [] .none .none .none (.str "fordbook.windows" 187) none (.ref 44) .none 0)) #[])
noncomputable def o_46 (P:Params):Obj:=(Obj.mk (.type "tuple") none (.seq #[] 0) #[])
noncomputable def o_48 (P:Params):Obj:=(Obj.mk (.type "tuple") none (.seq #[(.str "clock" 235),(.str "holds" 236),(.str "low" 237),(.str "high" 238),(.str "middle" 239)] 0) #[])
noncomputable def o_49 (P:Params):Obj:=(Obj.mk (.type "tuple") none (.seq #[] 0) #[])
noncomputable def o_51 (P:Params):Obj:=(Obj.mk (.type "code") none (.fields #[(.str "first_where" 232),(.str "first_where" 233),(.str "/claim/cut.py" 234),(.int 25 0),(.int 2 0),(.int 0 0),(.int 0 0),(.int 3 0),(.ref 46),(.bool @Bool.true),(.int 181 0),(.ref 47),.none,(.ref 48),(.ref 49),(.ref 50),(.int 240 0),(.int 25 0),(.str "/claim/cut.py" 241)]) #[])
noncomputable def o_52 (P:Params):Obj:=(Obj.mk (.type "function") none (.func (@PySem.FuncData.mk (.ofString "first_where") (.ofString "first_where") (defArgs st_first_where) (@PySem.FuncBody.stmts (defBody st_first_where)) (defScope st_first_where) 3 [] .none .none .none (.str "fordbook.clocks" 230) none (.ref 51) .none 0)) #[])
noncomputable def o_53 (P:Params):Obj:=(Obj.mk (.type "tuple") none (.seq #[] 0) #[])
noncomputable def o_55 (P:Params):Obj:=(Obj.mk (.type "tuple") none (.seq #[(.str "day" 246),(.str "clock" 247),(.str "t" 248),(.str "number" 249),(.str "found" 250),(.str "x" 251)] 0) #[])
noncomputable def o_56 (P:Params):Obj:=(Obj.mk (.type "tuple") none (.seq #[(.str "hour" 252)] 0) #[])
noncomputable def o_58 (P:Params):Obj:=(Obj.mk (.type "code") none (.fields #[(.str "set_off" 243),(.str "set_off" 244),(.str "/claim/cut.py" 245),(.int 35 0),(.int 3 0),(.int 0 0),(.int 0 0),(.int 3 0),(.ref 53),(.bool @Bool.true),(.int 181 0),(.ref 54),.none,(.ref 55),(.ref 56),(.ref 57),(.int 253 0),(.int 35 0),(.str "/claim/cut.py" 254)]) #[])
noncomputable def o_59 (P:Params):Obj:=(Obj.mk (.type "function") none (.func (@PySem.FuncData.mk (.ofString "set_off") (.ofString "set_off") (defArgs st_set_off) (@PySem.FuncBody.stmts (defBody st_set_off)) (defScope st_set_off) 3 [] .none .none .none (.str "fordbook.clocks" 230) none (.ref 58) .none 0)) #[])
noncomputable def o_60 (P:Params):Obj:=(Obj.mk (.type "tuple") none (.seq #[] 0) #[])
noncomputable def o_62 (P:Params):Obj:=(Obj.mk (.type "tuple") none (.seq #[(.str "day" 259),(.str "clock" 260),(.str "t" 261),(.str "departure" 262)] 0) #[])
noncomputable def o_63 (P:Params):Obj:=(Obj.mk (.type "tuple") none (.seq #[] 0) #[])
noncomputable def o_65 (P:Params):Obj:=(Obj.mk (.type "code") none (.fields #[(.str "come" 256),(.str "come" 257),(.str "/claim/cut.py" 258),(.int 43 0),(.int 3 0),(.int 0 0),(.int 0 0),(.int 3 0),(.ref 60),(.bool @Bool.true),(.int 181 0),(.ref 61),.none,(.ref 62),(.ref 63),(.ref 64),(.int 263 0),(.int 43 0),(.str "/claim/cut.py" 264)]) #[])
noncomputable def o_66 (P:Params):Obj:=(Obj.mk (.type "function") none (.func (@PySem.FuncData.mk (.ofString "come") (.ofString "come") (defArgs st_come) (@PySem.FuncBody.stmts (defBody st_come)) (defScope st_come) 3 [] .none .none .none (.str "fordbook.clocks" 230) none (.ref 65) .none 0)) #[])
noncomputable def o_67 (P:Params):Obj:=(Obj.mk (.type "tuple") none (.seq #[] 0) #[])
noncomputable def o_69 (P:Params):Obj:=(Obj.mk (.type "tuple") none (.seq #[(.str "day" 269),(.str "clock" 270),(.str "s" 271),(.str "start" 272),(.str "number" 273),(.str "found" 274)] 0) #[])
noncomputable def o_70 (P:Params):Obj:=(Obj.mk (.type "tuple") none (.seq #[(.str "hour" 275)] 0) #[])
noncomputable def o_72 (P:Params):Obj:=(Obj.mk (.type "code") none (.fields #[(.str "leave" 266),(.str "leave" 267),(.str "/claim/cut.py" 268),(.int 48 0),(.int 3 0),(.int 0 0),(.int 0 0),(.int 3 0),(.ref 67),(.bool @Bool.true),(.int 181 0),(.ref 68),.none,(.ref 69),(.ref 70),(.ref 71),(.int 276 0),(.int 48 0),(.str "/claim/cut.py" 277)]) #[])
noncomputable def o_73 (P:Params):Obj:=(Obj.mk (.type "function") none (.func (@PySem.FuncData.mk (.ofString "leave") (.ofString "leave") (defArgs st_leave) (@PySem.FuncBody.stmts (defBody st_leave)) (defScope st_leave) 3 [] .none .none .none (.str "fordbook.clocks" 230) none (.ref 72) .none 0)) #[])
noncomputable def o_74 (P:Params):Obj:=(Obj.mk (.type "tuple") none (.seq #[] 0) #[])
noncomputable def o_76 (P:Params):Obj:=(Obj.mk (.type "tuple") none (.seq #[(.str "day" 282)] 0) #[])
noncomputable def o_77 (P:Params):Obj:=(Obj.mk (.type "tuple") none (.seq #[] 0) #[])
noncomputable def o_79 (P:Params):Obj:=(Obj.mk (.type "code") none (.fields #[(.str "standing" 279),(.str "standing" 280),(.str "/claim/cut.py" 281),(.int 56 0),(.int 1 0),(.int 0 0),(.int 0 0),(.int 3 0),(.ref 74),(.bool @Bool.true),(.int 181 0),(.ref 75),.none,(.ref 76),(.ref 77),(.ref 78),(.int 283 0),(.int 56 0),(.str "/claim/cut.py" 284)]) #[])
noncomputable def o_80 (P:Params):Obj:=(Obj.mk (.type "function") none (.func (@PySem.FuncData.mk (.ofString "standing") (.ofString "standing") (defArgs st_standing) (@PySem.FuncBody.stmts (defBody st_standing)) (defScope st_standing) 3 [] .none .none .none (.str "fordbook.clocks" 230) none (.ref 79) .none 0)) #[])
noncomputable def o_81 (P:Params):Obj:=(Obj.mk (.type "tuple") none (.seq #[(.type "ValueError")] 0) #[])
noncomputable def o_88 (P:Params):Obj:=(Obj.mk (.type "tuple") none (.seq #[] 0) #[])
noncomputable def o_89 (P:Params):Obj:=(Obj.mk (.type "dict") none (.dict #[(DictEntry.mk (PyData.keyHash P "__module__") (.str "__module__" 295) (.str "fordbook.errors" 286)),(DictEntry.mk (PyData.keyHash P "__firstlineno__") (.str "__firstlineno__" 299) (.int 59 298)),(DictEntry.mk (PyData.keyHash P "__static_attributes__") (.str "__static_attributes__" 300) (.ref 88)),(DictEntry.mk (PyData.keyHash P "__weakref__") (.str "__weakref__" 302) (.ref 91)),(DictEntry.mk (PyData.keyHash P "__doc__") (.str "__doc__" 303) .none)] 3) #[])
noncomputable def o_90 (P:Params):Obj:=(Obj.mk (.type "type") none (@PySem.Data.cls (@PySem.ClassData.mk (.ofString "FordError") [(.type "ValueError")] [(.ref 90),(.type "ValueError"),(.type "Exception"),(.type "BaseException"),(.type "object")] 89 (.ofString "FordError") @Bool.true [] [(.ref 103),(.ref 115),(.ref 127),(.ref 139),(.ref 151),(.ref 163),(.ref 175),(.ref 187),(.ref 199)] @Bool.false none @Bool.false)) #[(@Option.some @PySem.Value (.ref 81)),none,(@Option.some @PySem.Value (.str "FordError" 288)),(@Option.some @PySem.Value (.str "FordError" 296)),(@Option.some @PySem.Value (.builtin "ValueError.__new__")),(@Option.some @PySem.Value (.bool @Bool.true))])
noncomputable def o_91 (P:Params):Obj:=(Obj.mk (.type "getset_descriptor") none (.fields #[(.str "__weakref__" 301),(.ref 90),(.builtin "ExceptionGroup.__weakref__"),.none]) #[])
noncomputable def o_94 (P:Params):Obj:=(Obj.mk (.type "tuple") none (.seq #[(.ref 90)] 0) #[])
noncomputable def o_101 (P:Params):Obj:=(Obj.mk (.type "tuple") none (.seq #[] 0) #[])
noncomputable def o_102 (P:Params):Obj:=(Obj.mk (.type "dict") none (.dict #[(DictEntry.mk (PyData.keyHash P "__module__") (.str "__module__" 313) (.str "fordbook.errors" 286)),(DictEntry.mk (PyData.keyHash P "__firstlineno__") (.str "__firstlineno__" 317) (.int 61 316)),(DictEntry.mk (PyData.keyHash P "__static_attributes__") (.str "__static_attributes__" 318) (.ref 101)),(DictEntry.mk (PyData.keyHash P "__doc__") (.str "__doc__" 319) .none)] 2) #[])
noncomputable def o_103 (P:Params):Obj:=(Obj.mk (.type "type") none (@PySem.Data.cls (@PySem.ClassData.mk (.ofString "NoBoard") [(.ref 90)] [(.ref 103),(.ref 90),(.type "ValueError"),(.type "Exception"),(.type "BaseException"),(.type "object")] 102 (.ofString "NoBoard") @Bool.true [] [] @Bool.false none @Bool.false)) #[(@Option.some @PySem.Value (.ref 94)),none,(@Option.some @PySem.Value (.str "NoBoard" 306)),(@Option.some @PySem.Value (.str "NoBoard" 314)),(@Option.some @PySem.Value (.builtin "ValueError.__new__")),(@Option.some @PySem.Value (.bool @Bool.true))])
noncomputable def o_106 (P:Params):Obj:=(Obj.mk (.type "tuple") none (.seq #[(.ref 90)] 0) #[])
noncomputable def o_113 (P:Params):Obj:=(Obj.mk (.type "tuple") none (.seq #[] 0) #[])
noncomputable def o_114 (P:Params):Obj:=(Obj.mk (.type "dict") none (.dict #[(DictEntry.mk (PyData.keyHash P "__module__") (.str "__module__" 329) (.str "fordbook.errors" 286)),(DictEntry.mk (PyData.keyHash P "__firstlineno__") (.str "__firstlineno__" 333) (.int 63 332)),(DictEntry.mk (PyData.keyHash P "__static_attributes__") (.str "__static_attributes__" 334) (.ref 113)),(DictEntry.mk (PyData.keyHash P "__doc__") (.str "__doc__" 335) .none)] 2) #[])
noncomputable def o_115 (P:Params):Obj:=(Obj.mk (.type "type") none (@PySem.Data.cls (@PySem.ClassData.mk (.ofString "NoNet") [(.ref 90)] [(.ref 115),(.ref 90),(.type "ValueError"),(.type "Exception"),(.type "BaseException"),(.type "object")] 114 (.ofString "NoNet") @Bool.true [] [] @Bool.false none @Bool.false)) #[(@Option.some @PySem.Value (.ref 106)),none,(@Option.some @PySem.Value (.str "NoNet" 322)),(@Option.some @PySem.Value (.str "NoNet" 330)),(@Option.some @PySem.Value (.builtin "ValueError.__new__")),(@Option.some @PySem.Value (.bool @Bool.true))])
noncomputable def o_118 (P:Params):Obj:=(Obj.mk (.type "tuple") none (.seq #[(.ref 90)] 0) #[])
noncomputable def o_125 (P:Params):Obj:=(Obj.mk (.type "tuple") none (.seq #[] 0) #[])
noncomputable def o_126 (P:Params):Obj:=(Obj.mk (.type "dict") none (.dict #[(DictEntry.mk (PyData.keyHash P "__module__") (.str "__module__" 345) (.str "fordbook.errors" 286)),(DictEntry.mk (PyData.keyHash P "__firstlineno__") (.str "__firstlineno__" 349) (.int 65 348)),(DictEntry.mk (PyData.keyHash P "__static_attributes__") (.str "__static_attributes__" 350) (.ref 125)),(DictEntry.mk (PyData.keyHash P "__doc__") (.str "__doc__" 351) .none)] 2) #[])
noncomputable def o_127 (P:Params):Obj:=(Obj.mk (.type "type") none (@PySem.Data.cls (@PySem.ClassData.mk (.ofString "NoPlace") [(.ref 90)] [(.ref 127),(.ref 90),(.type "ValueError"),(.type "Exception"),(.type "BaseException"),(.type "object")] 126 (.ofString "NoPlace") @Bool.true [] [] @Bool.false none @Bool.false)) #[(@Option.some @PySem.Value (.ref 118)),none,(@Option.some @PySem.Value (.str "NoPlace" 338)),(@Option.some @PySem.Value (.str "NoPlace" 346)),(@Option.some @PySem.Value (.builtin "ValueError.__new__")),(@Option.some @PySem.Value (.bool @Bool.true))])
noncomputable def o_130 (P:Params):Obj:=(Obj.mk (.type "tuple") none (.seq #[(.ref 90)] 0) #[])
noncomputable def o_137 (P:Params):Obj:=(Obj.mk (.type "tuple") none (.seq #[] 0) #[])
noncomputable def o_138 (P:Params):Obj:=(Obj.mk (.type "dict") none (.dict #[(DictEntry.mk (PyData.keyHash P "__module__") (.str "__module__" 361) (.str "fordbook.errors" 286)),(DictEntry.mk (PyData.keyHash P "__firstlineno__") (.str "__firstlineno__" 365) (.int 67 364)),(DictEntry.mk (PyData.keyHash P "__static_attributes__") (.str "__static_attributes__" 366) (.ref 137)),(DictEntry.mk (PyData.keyHash P "__doc__") (.str "__doc__" 367) .none)] 2) #[])
noncomputable def o_139 (P:Params):Obj:=(Obj.mk (.type "type") none (@PySem.Data.cls (@PySem.ClassData.mk (.ofString "NoRoad") [(.ref 90)] [(.ref 139),(.ref 90),(.type "ValueError"),(.type "Exception"),(.type "BaseException"),(.type "object")] 138 (.ofString "NoRoad") @Bool.true [] [] @Bool.false none @Bool.false)) #[(@Option.some @PySem.Value (.ref 130)),none,(@Option.some @PySem.Value (.str "NoRoad" 354)),(@Option.some @PySem.Value (.str "NoRoad" 362)),(@Option.some @PySem.Value (.builtin "ValueError.__new__")),(@Option.some @PySem.Value (.bool @Bool.true))])
noncomputable def o_142 (P:Params):Obj:=(Obj.mk (.type "tuple") none (.seq #[(.ref 90)] 0) #[])
noncomputable def o_149 (P:Params):Obj:=(Obj.mk (.type "tuple") none (.seq #[] 0) #[])
noncomputable def o_150 (P:Params):Obj:=(Obj.mk (.type "dict") none (.dict #[(DictEntry.mk (PyData.keyHash P "__module__") (.str "__module__" 377) (.str "fordbook.errors" 286)),(DictEntry.mk (PyData.keyHash P "__firstlineno__") (.str "__firstlineno__" 381) (.int 69 380)),(DictEntry.mk (PyData.keyHash P "__static_attributes__") (.str "__static_attributes__" 382) (.ref 149)),(DictEntry.mk (PyData.keyHash P "__doc__") (.str "__doc__" 383) .none)] 2) #[])
noncomputable def o_151 (P:Params):Obj:=(Obj.mk (.type "type") none (@PySem.Data.cls (@PySem.ClassData.mk (.ofString "NoTurn") [(.ref 90)] [(.ref 151),(.ref 90),(.type "ValueError"),(.type "Exception"),(.type "BaseException"),(.type "object")] 150 (.ofString "NoTurn") @Bool.true [] [] @Bool.false none @Bool.false)) #[(@Option.some @PySem.Value (.ref 142)),none,(@Option.some @PySem.Value (.str "NoTurn" 370)),(@Option.some @PySem.Value (.str "NoTurn" 378)),(@Option.some @PySem.Value (.builtin "ValueError.__new__")),(@Option.some @PySem.Value (.bool @Bool.true))])
noncomputable def o_154 (P:Params):Obj:=(Obj.mk (.type "tuple") none (.seq #[(.ref 90)] 0) #[])
noncomputable def o_161 (P:Params):Obj:=(Obj.mk (.type "tuple") none (.seq #[] 0) #[])
noncomputable def o_162 (P:Params):Obj:=(Obj.mk (.type "dict") none (.dict #[(DictEntry.mk (PyData.keyHash P "__module__") (.str "__module__" 393) (.str "fordbook.errors" 286)),(DictEntry.mk (PyData.keyHash P "__firstlineno__") (.str "__firstlineno__" 397) (.int 71 396)),(DictEntry.mk (PyData.keyHash P "__static_attributes__") (.str "__static_attributes__" 398) (.ref 161)),(DictEntry.mk (PyData.keyHash P "__doc__") (.str "__doc__" 399) .none)] 2) #[])
noncomputable def o_163 (P:Params):Obj:=(Obj.mk (.type "type") none (@PySem.Data.cls (@PySem.ClassData.mk (.ofString "NoText") [(.ref 90)] [(.ref 163),(.ref 90),(.type "ValueError"),(.type "Exception"),(.type "BaseException"),(.type "object")] 162 (.ofString "NoText") @Bool.true [] [] @Bool.false none @Bool.false)) #[(@Option.some @PySem.Value (.ref 154)),none,(@Option.some @PySem.Value (.str "NoText" 386)),(@Option.some @PySem.Value (.str "NoText" 394)),(@Option.some @PySem.Value (.builtin "ValueError.__new__")),(@Option.some @PySem.Value (.bool @Bool.true))])
noncomputable def o_166 (P:Params):Obj:=(Obj.mk (.type "tuple") none (.seq #[(.ref 90)] 0) #[])
noncomputable def o_173 (P:Params):Obj:=(Obj.mk (.type "tuple") none (.seq #[] 0) #[])
noncomputable def o_174 (P:Params):Obj:=(Obj.mk (.type "dict") none (.dict #[(DictEntry.mk (PyData.keyHash P "__module__") (.str "__module__" 409) (.str "fordbook.errors" 286)),(DictEntry.mk (PyData.keyHash P "__firstlineno__") (.str "__firstlineno__" 413) (.int 73 412)),(DictEntry.mk (PyData.keyHash P "__static_attributes__") (.str "__static_attributes__" 414) (.ref 173)),(DictEntry.mk (PyData.keyHash P "__doc__") (.str "__doc__" 415) .none)] 2) #[])
noncomputable def o_175 (P:Params):Obj:=(Obj.mk (.type "type") none (@PySem.Data.cls (@PySem.ClassData.mk (.ofString "NoRow") [(.ref 90)] [(.ref 175),(.ref 90),(.type "ValueError"),(.type "Exception"),(.type "BaseException"),(.type "object")] 174 (.ofString "NoRow") @Bool.true [] [] @Bool.false none @Bool.false)) #[(@Option.some @PySem.Value (.ref 166)),none,(@Option.some @PySem.Value (.str "NoRow" 402)),(@Option.some @PySem.Value (.str "NoRow" 410)),(@Option.some @PySem.Value (.builtin "ValueError.__new__")),(@Option.some @PySem.Value (.bool @Bool.true))])
noncomputable def o_178 (P:Params):Obj:=(Obj.mk (.type "tuple") none (.seq #[(.ref 90)] 0) #[])
noncomputable def o_185 (P:Params):Obj:=(Obj.mk (.type "tuple") none (.seq #[] 0) #[])
noncomputable def o_186 (P:Params):Obj:=(Obj.mk (.type "dict") none (.dict #[(DictEntry.mk (PyData.keyHash P "__module__") (.str "__module__" 425) (.str "fordbook.errors" 286)),(DictEntry.mk (PyData.keyHash P "__firstlineno__") (.str "__firstlineno__" 429) (.int 75 428)),(DictEntry.mk (PyData.keyHash P "__static_attributes__") (.str "__static_attributes__" 430) (.ref 185)),(DictEntry.mk (PyData.keyHash P "__doc__") (.str "__doc__" 431) .none)] 2) #[])
noncomputable def o_187 (P:Params):Obj:=(Obj.mk (.type "type") none (@PySem.Data.cls (@PySem.ClassData.mk (.ofString "NoName") [(.ref 90)] [(.ref 187),(.ref 90),(.type "ValueError"),(.type "Exception"),(.type "BaseException"),(.type "object")] 186 (.ofString "NoName") @Bool.true [] [] @Bool.false none @Bool.false)) #[(@Option.some @PySem.Value (.ref 178)),none,(@Option.some @PySem.Value (.str "NoName" 418)),(@Option.some @PySem.Value (.str "NoName" 426)),(@Option.some @PySem.Value (.builtin "ValueError.__new__")),(@Option.some @PySem.Value (.bool @Bool.true))])
noncomputable def o_190 (P:Params):Obj:=(Obj.mk (.type "tuple") none (.seq #[(.ref 90)] 0) #[])
noncomputable def o_197 (P:Params):Obj:=(Obj.mk (.type "tuple") none (.seq #[] 0) #[])
noncomputable def o_198 (P:Params):Obj:=(Obj.mk (.type "dict") none (.dict #[(DictEntry.mk (PyData.keyHash P "__module__") (.str "__module__" 441) (.str "fordbook.errors" 286)),(DictEntry.mk (PyData.keyHash P "__firstlineno__") (.str "__firstlineno__" 445) (.int 77 444)),(DictEntry.mk (PyData.keyHash P "__static_attributes__") (.str "__static_attributes__" 446) (.ref 197)),(DictEntry.mk (PyData.keyHash P "__doc__") (.str "__doc__" 447) .none)] 2) #[])
noncomputable def o_199 (P:Params):Obj:=(Obj.mk (.type "type") none (@PySem.Data.cls (@PySem.ClassData.mk (.ofString "NoWindow") [(.ref 90)] [(.ref 199),(.ref 90),(.type "ValueError"),(.type "Exception"),(.type "BaseException"),(.type "object")] 198 (.ofString "NoWindow") @Bool.true [] [] @Bool.false none @Bool.false)) #[(@Option.some @PySem.Value (.ref 190)),none,(@Option.some @PySem.Value (.str "NoWindow" 434)),(@Option.some @PySem.Value (.str "NoWindow" 442)),(@Option.some @PySem.Value (.builtin "ValueError.__new__")),(@Option.some @PySem.Value (.bool @Bool.true))])
noncomputable def o_202 (P:Params):Obj:=(Obj.mk (.type "tuple") none (.seq #[] 0) #[])
noncomputable def o_204 (P:Params):Obj:=(Obj.mk (.type "tuple") none (.seq #[(.str "count" 455),(.str "thing" 456)] 0) #[])
noncomputable def o_205 (P:Params):Obj:=(Obj.mk (.type "tuple") none (.seq #[] 0) #[])
noncomputable def o_207 (P:Params):Obj:=(Obj.mk (.type "code") none (.fields #[(.str "is_number" 452),(.str "is_number" 453),(.str "/claim/cut.py" 454),(.int 80 0),(.int 2 0),(.int 0 0),(.int 0 0),(.int 3 0),(.ref 202),(.bool @Bool.true),(.int 181 0),(.ref 203),.none,(.ref 204),(.ref 205),(.ref 206),(.int 457 0),(.int 80 0),(.str "/claim/cut.py" 458)]) #[])
noncomputable def o_208 (P:Params):Obj:=(Obj.mk (.type "function") none (.func (@PySem.FuncData.mk (.ofString "is_number") (.ofString "is_number") (defArgs st_is_number) (@PySem.FuncBody.stmts (defBody st_is_number)) (defScope st_is_number) 3 [] .none .none .none (.str "fordbook.nets" 450) none (.ref 207) .none 0)) #[])
noncomputable def o_209 (P:Params):Obj:=(Obj.mk (.type "tuple") none (.seq #[] 0) #[])
noncomputable def o_212 (P:Params):Obj:=(Obj.mk (.type "code") none (.fields #[(.str "is_road" 460),(.str "is_road" 461),(.str "/claim/cut.py" 462),(.int 82 0),(.int 3 0),(.int 0 0),(.int 0 0),(.int 3 0),(.ref 209),(.bool @Bool.true),(.int 181 0),(.ref 210),.none,.none,.none,(.ref 211),(.int 463 0),(.int 82 0),(.str "/claim/cut.py" 464)]) #[])
noncomputable def o_213 (P:Params):Obj:=(Obj.mk (.type "function") none (.func (@PySem.FuncData.mk (.ofString "is_road") (.ofString "is_road") (defArgs st_is_road) (@PySem.FuncBody.stmts (defBody st_is_road)) (defScope st_is_road) 3 [] .none .none .none (.str "fordbook.nets" 450) none (.ref 212) .none 0)) #[])
noncomputable def o_214 (P:Params):Obj:=(Obj.mk (.type "tuple") none (.seq #[] 0) #[])
noncomputable def o_217 (P:Params):Obj:=(Obj.mk (.type "code") none (.fields #[(.str "is_net" 466),(.str "is_net" 467),(.str "/claim/cut.py" 468),(.int 88 0),(.int 3 0),(.int 0 0),(.int 0 0),(.int 3 0),(.ref 214),(.bool @Bool.true),(.int 181 0),(.ref 215),.none,.none,.none,(.ref 216),(.int 469 0),(.int 88 0),(.str "/claim/cut.py" 470)]) #[])
noncomputable def o_218 (P:Params):Obj:=(Obj.mk (.type "function") none (.func (@PySem.FuncData.mk (.ofString "is_net") (.ofString "is_net") (defArgs st_is_net) (@PySem.FuncBody.stmts (defBody st_is_net)) (defScope st_is_net) 3 [] .none .none .none (.str "fordbook.nets" 450) none (.ref 217) .none 0)) #[])
noncomputable def o_219 (P:Params):Obj:=(Obj.mk (.type "tuple") none (.seq #[] 0) #[])
noncomputable def o_221 (P:Params):Obj:=(Obj.mk (.type "tuple") none (.seq #[(.str "day" 475),(.str "size" 476),(.str "roads" 477)] 0) #[])
noncomputable def o_222 (P:Params):Obj:=(Obj.mk (.type "tuple") none (.seq #[] 0) #[])
noncomputable def o_224 (P:Params):Obj:=(Obj.mk (.type "code") none (.fields #[(.str "need_net" 472),(.str "need_net" 473),(.str "/claim/cut.py" 474),(.int 92 0),(.int 3 0),(.int 0 0),(.int 0 0),(.int 3 0),(.ref 219),(.bool @Bool.true),(.int 181 0),(.ref 220),.none,(.ref 221),(.ref 222),(.ref 223),(.int 478 0),(.int 92 0),(.str "/claim/cut.py" 479)]) #[])
noncomputable def o_225 (P:Params):Obj:=(Obj.mk (.type "function") none (.func (@PySem.FuncData.mk (.ofString "need_net") (.ofString "need_net") (defArgs st_need_net) (@PySem.FuncBody.stmts (defBody st_need_net)) (defScope st_need_net) 3 [] .none .none .none (.str "fordbook.nets" 450) none (.ref 224) .none 0)) #[])
noncomputable def o_226 (P:Params):Obj:=(Obj.mk (.type "tuple") none (.seq #[] 0) #[])
noncomputable def o_228 (P:Params):Obj:=(Obj.mk (.type "tuple") none (.seq #[(.str "size" 484),(.str "thing" 485)] 0) #[])
noncomputable def o_229 (P:Params):Obj:=(Obj.mk (.type "tuple") none (.seq #[] 0) #[])
noncomputable def o_231 (P:Params):Obj:=(Obj.mk (.type "code") none (.fields #[(.str "need_place" 481),(.str "need_place" 482),(.str "/claim/cut.py" 483),(.int 95 0),(.int 2 0),(.int 0 0),(.int 0 0),(.int 3 0),(.ref 226),(.bool @Bool.true),(.int 181 0),(.ref 227),.none,(.ref 228),(.ref 229),(.ref 230),(.int 486 0),(.int 95 0),(.str "/claim/cut.py" 487)]) #[])
noncomputable def o_232 (P:Params):Obj:=(Obj.mk (.type "function") none (.func (@PySem.FuncData.mk (.ofString "need_place") (.ofString "need_place") (defArgs st_need_place) (@PySem.FuncBody.stmts (defBody st_need_place)) (defScope st_need_place) 3 [] .none .none .none (.str "fordbook.nets" 450) none (.ref 231) .none 0)) #[])
noncomputable def o_233 (P:Params):Obj:=(Obj.mk (.type "tuple") none (.seq #[] 0) #[])
noncomputable def o_235 (P:Params):Obj:=(Obj.mk (.type "tuple") none (.seq #[(.str "day" 494),(.str "clock" 495),(.str "rows" 496),(.str "p" 497),(.str "a" 498),(.str "b" 499),(.str "c" 500)] 0) #[])
noncomputable def o_236 (P:Params):Obj:=(Obj.mk (.type "tuple") none (.seq #[] 0) #[])
noncomputable def o_238 (P:Params):Obj:=(Obj.mk (.type "code") none (.fields #[(.str "stretches" 491),(.str "stretches" 492),(.str "/claim/cut.py" 493),(.int 99 0),(.int 2 0),(.int 0 0),(.int 0 0),(.int 3 0),(.ref 233),(.bool @Bool.true),(.int 181 0),(.ref 234),.none,(.ref 235),(.ref 236),(.ref 237),(.int 501 0),(.int 99 0),(.str "/claim/cut.py" 502)]) #[])
noncomputable def o_239 (P:Params):Obj:=(Obj.mk (.type "function") none (.func (@PySem.FuncData.mk (.ofString "stretches") (.ofString "stretches") (defArgs st_stretches) (@PySem.FuncBody.stmts (defBody st_stretches)) (defScope st_stretches) 3 [] .none .none .none (.str "fordbook.stretches" 489) none (.ref 238) .none 0)) #[])
noncomputable def o_240 (P:Params):Obj:=(Obj.mk (.type "tuple") none (.seq #[] 0) #[])
noncomputable def o_242 (P:Params):Obj:=(Obj.mk (.type "tuple") none (.seq #[(.str "row" 507)] 0) #[])
noncomputable def o_243 (P:Params):Obj:=(Obj.mk (.type "tuple") none (.seq #[] 0) #[])
noncomputable def o_245 (P:Params):Obj:=(Obj.mk (.type "code") none (.fields #[(.str "first_told" 504),(.str "first_told" 505),(.str "/claim/cut.py" 506),(.int 110 0),(.int 1 0),(.int 0 0),(.int 0 0),(.int 3 0),(.ref 240),(.bool @Bool.true),(.int 181 0),(.ref 241),.none,(.ref 242),(.ref 243),(.ref 244),(.int 508 0),(.int 110 0),(.str "/claim/cut.py" 509)]) #[])
noncomputable def o_246 (P:Params):Obj:=(Obj.mk (.type "function") none (.func (@PySem.FuncData.mk (.ofString "first_told") (.ofString "first_told") (defArgs st_first_told) (@PySem.FuncBody.stmts (defBody st_first_told)) (defScope st_first_told) 3 [] .none .none .none (.str "fordbook.stretches" 489) none (.ref 245) .none 0)) #[])
noncomputable def o_247 (P:Params):Obj:=(Obj.mk (.type "tuple") none (.seq #[] 0) #[])
noncomputable def o_249 (P:Params):Obj:=(Obj.mk (.type "tuple") none (.seq #[(.str "day" 514),(.str "one" 515),(.str "other" 516),(.str "ones" 517),(.str "others" 518),(.str "rows" 519),(.str "k" 520),(.str "j" 521),(.str "p" 522),(.str "q" 523)] 0) #[])
noncomputable def o_250 (P:Params):Obj:=(Obj.mk (.type "tuple") none (.seq #[] 0) #[])
noncomputable def o_252 (P:Params):Obj:=(Obj.mk (.type "code") none (.fields #[(.str "overlay" 511),(.str "overlay" 512),(.str "/claim/cut.py" 513),(.int 112 0),(.int 3 0),(.int 0 0),(.int 0 0),(.int 3 0),(.ref 247),(.bool @Bool.true),(.int 181 0),(.ref 248),.none,(.ref 249),(.ref 250),(.ref 251),(.int 524 0),(.int 112 0),(.str "/claim/cut.py" 525)]) #[])
noncomputable def o_253 (P:Params):Obj:=(Obj.mk (.type "function") none (.func (@PySem.FuncData.mk (.ofString "overlay") (.ofString "overlay") (defArgs st_overlay) (@PySem.FuncBody.stmts (defBody st_overlay)) (defScope st_overlay) 3 [] .none .none .none (.str "fordbook.stretches" 489) none (.ref 252) .none 0)) #[])
noncomputable def o_254 (P:Params):Obj:=(Obj.mk (.type "tuple") none (.seq #[] 0) #[])
noncomputable def o_256 (P:Params):Obj:=(Obj.mk (.type "tuple") none (.seq #[(.str "clock" 530),(.str "a" 531),(.str "b" 532),(.str "c" 533)] 0) #[])
noncomputable def o_257 (P:Params):Obj:=(Obj.mk (.type "tuple") none (.seq #[] 0) #[])
noncomputable def o_259 (P:Params):Obj:=(Obj.mk (.type "code") none (.fields #[(.str "put_window" 527),(.str "put_window" 528),(.str "/claim/cut.py" 529),(.int 128 0),(.int 4 0),(.int 0 0),(.int 0 0),(.int 3 0),(.ref 254),(.bool @Bool.true),(.int 181 0),(.ref 255),.none,(.ref 256),(.ref 257),(.ref 258),(.int 534 0),(.int 128 0),(.str "/claim/cut.py" 535)]) #[])
noncomputable def o_260 (P:Params):Obj:=(Obj.mk (.type "function") none (.func (@PySem.FuncData.mk (.ofString "put_window") (.ofString "put_window") (defArgs st_put_window) (@PySem.FuncBody.stmts (defBody st_put_window)) (defScope st_put_window) 3 [] .none .none .none (.str "fordbook.stretches" 489) none (.ref 259) .none 0)) #[])
noncomputable def o_261 (P:Params):Obj:=(Obj.mk (.type "tuple") none (.seq #[] 0) #[])
noncomputable def o_263 (P:Params):Obj:=(Obj.mk (.type "tuple") none (.seq #[(.str "day" 540),(.str "rows" 541),(.str "clock" 542),(.str "k" 543),(.str "row" 544),(.str "following" 545),(.str "q" 546),(.str "v" 547)] 0) #[])
noncomputable def o_264 (P:Params):Obj:=(Obj.mk (.type "tuple") none (.seq #[] 0) #[])
noncomputable def o_266 (P:Params):Obj:=(Obj.mk (.type "code") none (.fields #[(.str "clock_from" 537),(.str "clock_from" 538),(.str "/claim/cut.py" 539),(.int 135 0),(.int 2 0),(.int 0 0),(.int 0 0),(.int 3 0),(.ref 261),(.bool @Bool.true),(.int 181 0),(.ref 262),.none,(.ref 263),(.ref 264),(.ref 265),(.int 548 0),(.int 135 0),(.str "/claim/cut.py" 549)]) #[])
noncomputable def o_267 (P:Params):Obj:=(Obj.mk (.type "function") none (.func (@PySem.FuncData.mk (.ofString "clock_from") (.ofString "clock_from") (defArgs st_clock_from) (@PySem.FuncBody.stmts (defBody st_clock_from)) (defScope st_clock_from) 3 [] .none .none .none (.str "fordbook.stretches" 489) none (.ref 266) .none 0)) #[])
noncomputable def o_268 (P:Params):Obj:=(Obj.mk (.type "tuple") none (.seq #[] 0) #[])
noncomputable def o_271 (P:Params):Obj:=(Obj.mk (.type "code") none (.fields #[(.str "picked" 553),(.str "picked" 554),(.str "/claim/cut.py" 555),(.int 147 0),(.int 5 0),(.int 0 0),(.int 0 0),(.int 3 0),(.ref 268),(.bool @Bool.true),(.int 181 0),(.ref 269),.none,.none,.none,(.ref 270),(.int 556 0),(.int 147 0),(.str "/claim/cut.py" 557)]) #[])
noncomputable def o_272 (P:Params):Obj:=(Obj.mk (.type "function") none (.func (@PySem.FuncData.mk (.ofString "picked") (.ofString "picked") (defArgs st_picked) (@PySem.FuncBody.stmts (defBody st_picked)) (defScope st_picked) 3 [] .none .none .none (.str "fordbook.reckon" 551) none (.ref 271) .none 0)) #[])
noncomputable def o_273 (P:Params):Obj:=(Obj.mk (.type "tuple") none (.seq #[] 0) #[])
noncomputable def o_275 (P:Params):Obj:=(Obj.mk (.type "tuple") none (.seq #[(.str "day" 562),(.str "one" 563),(.str "other" 564),(.str "late" 565),(.str "rows" 566),(.str "p" 567),(.str "q" 568),(.str "still" 569),(.str "v" 570),(.str "other_still" 571),(.str "other_v" 572)] 0) #[])
noncomputable def o_276 (P:Params):Obj:=(Obj.mk (.type "tuple") none (.seq #[] 0) #[])
noncomputable def o_278 (P:Params):Obj:=(Obj.mk (.type "code") none (.fields #[(.str "joined" 559),(.str "joined" 560),(.str "/claim/cut.py" 561),(.int 152 0),(.int 4 0),(.int 0 0),(.int 0 0),(.int 3 0),(.ref 273),(.bool @Bool.true),(.int 181 0),(.ref 274),.none,(.ref 275),(.ref 276),(.ref 277),(.int 573 0),(.int 152 0),(.str "/claim/cut.py" 574)]) #[])
noncomputable def o_279 (P:Params):Obj:=(Obj.mk (.type "function") none (.func (@PySem.FuncData.mk (.ofString "joined") (.ofString "joined") (defArgs st_joined) (@PySem.FuncBody.stmts (defBody st_joined)) (defScope st_joined) 3 [] .none .none .none (.str "fordbook.reckon" 551) none (.ref 278) .none 0)) #[])
noncomputable def o_280 (P:Params):Obj:=(Obj.mk (.type "tuple") none (.seq #[] 0) #[])
noncomputable def o_282 (P:Params):Obj:=(Obj.mk (.type "tuple") none (.seq #[(.str "day" 579),(.str "one" 580),(.str "other" 581)] 0) #[])
noncomputable def o_283 (P:Params):Obj:=(Obj.mk (.type "tuple") none (.seq #[] 0) #[])
noncomputable def o_285 (P:Params):Obj:=(Obj.mk (.type "code") none (.fields #[(.str "sooner" 576),(.str "sooner" 577),(.str "/claim/cut.py" 578),(.int 162 0),(.int 3 0),(.int 0 0),(.int 0 0),(.int 3 0),(.ref 280),(.bool @Bool.true),(.int 181 0),(.ref 281),.none,(.ref 282),(.ref 283),(.ref 284),(.int 582 0),(.int 162 0),(.str "/claim/cut.py" 583)]) #[])
noncomputable def o_286 (P:Params):Obj:=(Obj.mk (.type "function") none (.func (@PySem.FuncData.mk (.ofString "sooner") (.ofString "sooner") (defArgs st_sooner) (@PySem.FuncBody.stmts (defBody st_sooner)) (defScope st_sooner) 3 [] .none .none .none (.str "fordbook.reckon" 551) none (.ref 285) .none 0)) #[])
noncomputable def o_287 (P:Params):Obj:=(Obj.mk (.type "tuple") none (.seq #[] 0) #[])
noncomputable def o_289 (P:Params):Obj:=(Obj.mk (.type "tuple") none (.seq #[(.str "day" 588),(.str "p" 589),(.str "q" 590),(.str "ride" 591),(.str "others" 592),(.str "midnight" 593),(.str "k" 594),(.str "rows" 595),(.str "end" 596)] 0) #[])
noncomputable def o_290 (P:Params):Obj:=(Obj.mk (.type "tuple") none (.seq #[(.str "hour" 597)] 0) #[])
noncomputable def o_292 (P:Params):Obj:=(Obj.mk (.type "code") none (.fields #[(.str "ridden" 585),(.str "ridden" 586),(.str "/claim/cut.py" 587),(.int 166 0),(.int 5 0),(.int 0 0),(.int 0 0),(.int 3 0),(.ref 287),(.bool @Bool.true),(.int 181 0),(.ref 288),.none,(.ref 289),(.ref 290),(.ref 291),(.int 598 0),(.int 166 0),(.str "/claim/cut.py" 599)]) #[])
noncomputable def o_293 (P:Params):Obj:=(Obj.mk (.type "function") none (.func (@PySem.FuncData.mk (.ofString "ridden") (.ofString "ridden") (defArgs st_ridden) (@PySem.FuncBody.stmts (defBody st_ridden)) (defScope st_ridden) 3 [] .none .none .none (.str "fordbook.reckon" 551) none (.ref 292) .none 0)) #[])
noncomputable def o_294 (P:Params):Obj:=(Obj.mk (.type "tuple") none (.seq #[] 0) #[])
noncomputable def o_296 (P:Params):Obj:=(Obj.mk (.type "tuple") none (.seq #[(.str "day" 604),(.str "one" 605),(.str "other" 606),(.str "others" 607),(.str "rows" 608),(.str "p" 609),(.str "q" 610),(.str "still" 611),(.str "v" 612)] 0) #[])
noncomputable def o_297 (P:Params):Obj:=(Obj.mk (.type "tuple") none (.seq #[] 0) #[])
noncomputable def o_299 (P:Params):Obj:=(Obj.mk (.type "code") none (.fields #[(.str "behind" 601),(.str "behind" 602),(.str "/claim/cut.py" 603),(.int 183 0),(.int 3 0),(.int 0 0),(.int 0 0),(.int 3 0),(.ref 294),(.bool @Bool.true),(.int 181 0),(.ref 295),.none,(.ref 296),(.ref 297),(.ref 298),(.int 613 0),(.int 183 0),(.str "/claim/cut.py" 614)]) #[])
noncomputable def o_300 (P:Params):Obj:=(Obj.mk (.type "function") none (.func (@PySem.FuncData.mk (.ofString "behind") (.ofString "behind") (defArgs st_behind) (@PySem.FuncBody.stmts (defBody st_behind)) (defScope st_behind) 3 [] .none .none .none (.str "fordbook.reckon" 551) none (.ref 299) .none 0)) #[])
noncomputable def o_301 (P:Params):Obj:=(Obj.mk (.type "tuple") none (.seq #[] 0) #[])
noncomputable def o_303 (P:Params):Obj:=(Obj.mk (.type "tuple") none (.seq #[(.str "day" 619),(.str "board" 620),(.str "half" 621)] 0) #[])
noncomputable def o_304 (P:Params):Obj:=(Obj.mk (.type "tuple") none (.seq #[] 0) #[])
noncomputable def o_306 (P:Params):Obj:=(Obj.mk (.type "code") none (.fields #[(.str "clock_within" 616),(.str "clock_within" 617),(.str "/claim/cut.py" 618),(.int 194 0),(.int 2 0),(.int 0 0),(.int 0 0),(.int 3 0),(.ref 301),(.bool @Bool.true),(.int 181 0),(.ref 302),.none,(.ref 303),(.ref 304),(.ref 305),(.int 622 0),(.int 194 0),(.str "/claim/cut.py" 623)]) #[])
noncomputable def o_307 (P:Params):Obj:=(Obj.mk (.type "function") none (.func (@PySem.FuncData.mk (.ofString "clock_within") (.ofString "clock_within") (defArgs st_clock_within) (@PySem.FuncBody.stmts (defBody st_clock_within)) (defScope st_clock_within) 3 [] .none .none .none (.str "fordbook.reckon" 551) none (.ref 306) .none 0)) #[])
noncomputable def o_308 (P:Params):Obj:=(Obj.mk (.type "tuple") none (.seq #[] 0) #[])
noncomputable def o_310 (P:Params):Obj:=(Obj.mk (.type "tuple") none (.seq #[(.str "day" 628),(.str "board" 629)] 0) #[])
noncomputable def o_311 (P:Params):Obj:=(Obj.mk (.type "tuple") none (.seq #[] 0) #[])
noncomputable def o_313 (P:Params):Obj:=(Obj.mk (.type "code") none (.fields #[(.str "clock_of" 625),(.str "clock_of" 626),(.str "/claim/cut.py" 627),(.int 199 0),(.int 2 0),(.int 0 0),(.int 0 0),(.int 3 0),(.ref 308),(.bool @Bool.true),(.int 181 0),(.ref 309),.none,(.ref 310),(.ref 311),(.ref 312),(.int 630 0),(.int 199 0),(.str "/claim/cut.py" 631)]) #[])
noncomputable def o_314 (P:Params):Obj:=(Obj.mk (.type "function") none (.func (@PySem.FuncData.mk (.ofString "clock_of") (.ofString "clock_of") (defArgs st_clock_of) (@PySem.FuncBody.stmts (defBody st_clock_of)) (defScope st_clock_of) 3 [] .none .none .none (.str "fordbook.reckon" 551) none (.ref 313) .none 0)) #[])
noncomputable def o_315 (P:Params):Obj:=(Obj.mk (.type "tuple") none (.seq #[] 0) #[])
noncomputable def o_318 (P:Params):Obj:=(Obj.mk (.type "code") none (.fields #[(.str "fords_of" 635),(.str "fords_of" 636),(.str "/claim/cut.py" 637),(.int 204 0),(.int 2 0),(.int 0 0),(.int 0 0),(.int 3 0),(.ref 315),(.bool @Bool.true),(.int 181 0),(.ref 316),.none,.none,.none,(.ref 317),(.int 638 0),(.int 204 0),(.str "/claim/cut.py" 639)]) #[])
noncomputable def o_319 (P:Params):Obj:=(Obj.mk (.type "function") none (.func (@PySem.FuncData.mk (.ofString "fords_of") (.ofString "fords_of") (defArgs st_fords_of) (@PySem.FuncBody.stmts (defBody st_fords_of)) (defScope st_fords_of) 3 [] .none .none .none (.str "fordbook.tables" 633) none (.ref 318) .none 0)) #[])
noncomputable def o_320 (P:Params):Obj:=(Obj.mk (.type "tuple") none (.seq #[] 0) #[])
noncomputable def o_323 (P:Params):Obj:=(Obj.mk (.type "code") none (.fields #[(.str "staying" 641),(.str "staying" 642),(.str "/claim/cut.py" 643),(.int 206 0),(.int 3 0),(.int 0 0),(.int 0 0),(.int 3 0),(.ref 320),(.bool @Bool.true),(.int 181 0),(.ref 321),.none,.none,.none,(.ref 322),(.int 644 0),(.int 206 0),(.str "/claim/cut.py" 645)]) #[])
noncomputable def o_324 (P:Params):Obj:=(Obj.mk (.type "function") none (.func (@PySem.FuncData.mk (.ofString "staying") (.ofString "staying") (defArgs st_staying) (@PySem.FuncBody.stmts (defBody st_staying)) (defScope st_staying) 3 [] .none .none .none (.str "fordbook.tables" 633) none (.ref 323) .none 0)) #[])
noncomputable def o_325 (P:Params):Obj:=(Obj.mk (.type "tuple") none (.seq #[] 0) #[])
noncomputable def o_328 (P:Params):Obj:=(Obj.mk (.type "code") none (.fields #[(.str "copied_table" 647),(.str "copied_table" 648),(.str "/claim/cut.py" 649),(.int 208 0),(.int 1 0),(.int 0 0),(.int 0 0),(.int 3 0),(.ref 325),(.bool @Bool.true),(.int 181 0),(.ref 326),.none,.none,.none,(.ref 327),(.int 650 0),(.int 208 0),(.str "/claim/cut.py" 651)]) #[])
noncomputable def o_329 (P:Params):Obj:=(Obj.mk (.type "function") none (.func (@PySem.FuncData.mk (.ofString "copied_table") (.ofString "copied_table") (defArgs st_copied_table) (@PySem.FuncBody.stmts (defBody st_copied_table)) (defScope st_copied_table) 3 [] .none .none .none (.str "fordbook.tables" 633) none (.ref 328) .none 0)) #[])
noncomputable def o_330 (P:Params):Obj:=(Obj.mk (.type "tuple") none (.seq #[] 0) #[])
noncomputable def o_332 (P:Params):Obj:=(Obj.mk (.type "tuple") none (.seq #[(.str "day" 656),(.str "size" 657),(.str "place" 658),(.str "step" 659),(.str "found" 660)] 0) #[])
noncomputable def o_333 (P:Params):Obj:=(Obj.mk (.type "tuple") none (.seq #[] 0) #[])
noncomputable def o_335 (P:Params):Obj:=(Obj.mk (.type "code") none (.fields #[(.str "grown" 653),(.str "grown" 654),(.str "/claim/cut.py" 655),(.int 210 0),(.int 4 0),(.int 0 0),(.int 0 0),(.int 3 0),(.ref 330),(.bool @Bool.true),(.int 181 0),(.ref 331),.none,(.ref 332),(.ref 333),(.ref 334),(.int 661 0),(.int 210 0),(.str "/claim/cut.py" 662)]) #[])
noncomputable def o_336 (P:Params):Obj:=(Obj.mk (.type "function") none (.func (@PySem.FuncData.mk (.ofString "grown") (.ofString "grown") (defArgs st_grown) (@PySem.FuncBody.stmts (defBody st_grown)) (defScope st_grown) 3 [] .none .none .none (.str "fordbook.tables" 633) none (.ref 335) .none 0)) #[])
noncomputable def o_337 (P:Params):Obj:=(Obj.mk (.type "tuple") none (.seq #[] 0) #[])
noncomputable def o_339 (P:Params):Obj:=(Obj.mk (.type "tuple") none (.seq #[(.str "day" 667),(.str "fords" 668),(.str "told" 669),(.str "found" 670),(.str "start" 671),(.str "end" 672),(.str "ford" 673)] 0) #[])
noncomputable def o_340 (P:Params):Obj:=(Obj.mk (.type "tuple") none (.seq #[] 0) #[])
noncomputable def o_342 (P:Params):Obj:=(Obj.mk (.type "code") none (.fields #[(.str "ride_first" 664),(.str "ride_first" 665),(.str "/claim/cut.py" 666),(.int 218 0),(.int 3 0),(.int 0 0),(.int 0 0),(.int 3 0),(.ref 337),(.bool @Bool.true),(.int 181 0),(.ref 338),.none,(.ref 339),(.ref 340),(.ref 341),(.int 674 0),(.int 218 0),(.str "/claim/cut.py" 675)]) #[])
noncomputable def o_343 (P:Params):Obj:=(Obj.mk (.type "function") none (.func (@PySem.FuncData.mk (.ofString "ride_first") (.ofString "ride_first") (defArgs st_ride_first) (@PySem.FuncBody.stmts (defBody st_ride_first)) (defScope st_ride_first) 3 [] .none .none .none (.str "fordbook.tables" 633) none (.ref 342) .none 0)) #[])
noncomputable def o_344 (P:Params):Obj:=(Obj.mk (.type "tuple") none (.seq #[] 0) #[])
noncomputable def o_346 (P:Params):Obj:=(Obj.mk (.type "tuple") none (.seq #[(.str "day" 680),(.str "size" 681),(.str "roads" 682),(.str "goal" 683)] 0) #[])
noncomputable def o_347 (P:Params):Obj:=(Obj.mk (.type "tuple") none (.seq #[(.str "day" 684),(.str "fords" 685)] 0) #[])
noncomputable def o_349 (P:Params):Obj:=(Obj.mk (.type "code") none (.fields #[(.str "rounds_to" 677),(.str "rounds_to" 678),(.str "/claim/cut.py" 679),(.int 223 0),(.int 4 0),(.int 0 0),(.int 0 0),(.int 3 0),(.ref 344),(.bool @Bool.true),(.int 181 0),(.ref 345),.none,(.ref 346),(.ref 347),(.ref 348),(.int 686 0),(.int 223 0),(.str "/claim/cut.py" 687)]) #[])
noncomputable def o_350 (P:Params):Obj:=(Obj.mk (.type "function") none (.func (@PySem.FuncData.mk (.ofString "rounds_to") (.ofString "rounds_to") (defArgs st_rounds_to) (@PySem.FuncBody.stmts (defBody st_rounds_to)) (defScope st_rounds_to) 3 [] .none .none .none (.str "fordbook.tables" 633) none (.ref 349) .none 0)) #[])
noncomputable def o_351 (P:Params):Obj:=(Obj.mk (.type "tuple") none (.seq #[] 0) #[])
noncomputable def o_353 (P:Params):Obj:=(Obj.mk (.type "tuple") none (.seq #[(.str "day" 692),(.str "size" 693),(.str "roads" 694),(.str "goal" 695)] 0) #[])
noncomputable def o_354 (P:Params):Obj:=(Obj.mk (.type "tuple") none (.seq #[] 0) #[])
noncomputable def o_356 (P:Params):Obj:=(Obj.mk (.type "code") none (.fields #[(.str "rounds" 689),(.str "rounds" 690),(.str "/claim/cut.py" 691),(.int 226 0),(.int 4 0),(.int 0 0),(.int 0 0),(.int 3 0),(.ref 351),(.bool @Bool.true),(.int 181 0),(.ref 352),.none,(.ref 353),(.ref 354),(.ref 355),(.int 696 0),(.int 226 0),(.str "/claim/cut.py" 697)]) #[])
noncomputable def o_357 (P:Params):Obj:=(Obj.mk (.type "function") none (.func (@PySem.FuncData.mk (.ofString "rounds") (.ofString "rounds") (defArgs st_rounds) (@PySem.FuncBody.stmts (defBody st_rounds)) (defScope st_rounds) 3 [] .none .none .none (.str "fordbook.tables" 633) none (.ref 356) .none 0)) #[])
noncomputable def o_358 (P:Params):Obj:=(Obj.mk (.type "tuple") none (.seq #[] 0) #[])
noncomputable def o_360 (P:Params):Obj:=(Obj.mk (.type "tuple") none (.seq #[(.str "day" 704),(.str "clock" 705),(.str "t" 706),(.str "s" 707),(.str "y" 708)] 0) #[])
noncomputable def o_361 (P:Params):Obj:=(Obj.mk (.type "tuple") none (.seq #[] 0) #[])
noncomputable def o_363 (P:Params):Obj:=(Obj.mk (.type "code") none (.fields #[(.str "comes_by" 701),(.str "comes_by" 702),(.str "/claim/cut.py" 703),(.int 231 0),(.int 4 0),(.int 0 0),(.int 0 0),(.int 3 0),(.ref 358),(.bool @Bool.true),(.int 181 0),(.ref 359),.none,(.ref 360),(.ref 361),(.ref 362),(.int 709 0),(.int 231 0),(.str "/claim/cut.py" 710)]) #[])
noncomputable def o_364 (P:Params):Obj:=(Obj.mk (.type "function") none (.func (@PySem.FuncData.mk (.ofString "comes_by") (.ofString "comes_by") (defArgs st_comes_by) (@PySem.FuncBody.stmts (defBody st_comes_by)) (defScope st_comes_by) 3 [] .none .none .none (.str "fordbook.walks" 699) none (.ref 363) .none 0)) #[])
noncomputable def o_365 (P:Params):Obj:=(Obj.mk (.type "tuple") none (.seq #[] 0) #[])
noncomputable def o_367 (P:Params):Obj:=(Obj.mk (.type "tuple") none (.seq #[(.str "day" 715),(.str "tables" 716),(.str "place" 717),(.str "t" 718),(.str "s" 719),(.str "number" 720),(.str "told" 721)] 0) #[])
noncomputable def o_368 (P:Params):Obj:=(Obj.mk (.type "tuple") none (.seq #[] 0) #[])
noncomputable def o_370 (P:Params):Obj:=(Obj.mk (.type "code") none (.fields #[(.str "least_round" 712),(.str "least_round" 713),(.str "/claim/cut.py" 714),(.int 234 0),(.int 5 0),(.int 0 0),(.int 0 0),(.int 3 0),(.ref 365),(.bool @Bool.true),(.int 181 0),(.ref 366),.none,(.ref 367),(.ref 368),(.ref 369),(.int 722 0),(.int 234 0),(.str "/claim/cut.py" 723)]) #[])
noncomputable def o_371 (P:Params):Obj:=(Obj.mk (.type "function") none (.func (@PySem.FuncData.mk (.ofString "least_round") (.ofString "least_round") (defArgs st_least_round) (@PySem.FuncBody.stmts (defBody st_least_round)) (defScope st_least_round) 3 [] .none .none .none (.str "fordbook.walks" 699) none (.ref 370) .none 0)) #[])
noncomputable def o_372 (P:Params):Obj:=(Obj.mk (.type "tuple") none (.seq #[] 0) #[])
noncomputable def o_374 (P:Params):Obj:=(Obj.mk (.type "tuple") none (.seq #[(.str "day" 728),(.str "roads" 729),(.str "told" 730),(.str "guard" 731),(.str "place" 732),(.str "t" 733),(.str "s" 734),(.str "number" 735),(.str "road" 736),(.str "window_number" 737),(.str "window" 738),(.str "x" 739),(.str "z" 740)] 0) #[])
noncomputable def o_375 (P:Params):Obj:=(Obj.mk (.type "tuple") none (.seq #[] 0) #[])
noncomputable def o_377 (P:Params):Obj:=(Obj.mk (.type "code") none (.fields #[(.str "ask_by" 725),(.str "ask_by" 726),(.str "/claim/cut.py" 727),(.int 239 0),(.int 7 0),(.int 0 0),(.int 0 0),(.int 3 0),(.ref 372),(.bool @Bool.true),(.int 181 0),(.ref 373),.none,(.ref 374),(.ref 375),(.ref 376),(.int 741 0),(.int 239 0),(.str "/claim/cut.py" 742)]) #[])
noncomputable def o_378 (P:Params):Obj:=(Obj.mk (.type "function") none (.func (@PySem.FuncData.mk (.ofString "ask_by") (.ofString "ask_by") (defArgs st_ask_by) (@PySem.FuncBody.stmts (defBody st_ask_by)) (defScope st_ask_by) 3 [] .none .none .none (.str "fordbook.walks" 699) none (.ref 377) .none 0)) #[])
noncomputable def o_379 (P:Params):Obj:=(Obj.mk (.type "tuple") none (.seq #[] 0) #[])
noncomputable def o_381 (P:Params):Obj:=(Obj.mk (.type "tuple") none (.seq #[(.str "day" 747),(.str "roads" 748),(.str "tables" 749),(.str "guard" 750),(.str "place" 751),(.str "t" 752),(.str "s" 753),(.str "left" 754),(.str "row" 755),(.str "ask" 756)] 0) #[])
noncomputable def o_382 (P:Params):Obj:=(Obj.mk (.type "tuple") none (.seq #[] 0) #[])
noncomputable def o_384 (P:Params):Obj:=(Obj.mk (.type "code") none (.fields #[(.str "walk" 744),(.str "walk" 745),(.str "/claim/cut.py" 746),(.int 247 0),(.int 6 0),(.int 0 0),(.int 0 0),(.int 3 0),(.ref 379),(.bool @Bool.true),(.int 181 0),(.ref 380),.none,(.ref 381),(.ref 382),(.ref 383),(.int 757 0),(.int 247 0),(.str "/claim/cut.py" 758)]) #[])
noncomputable def o_385 (P:Params):Obj:=(Obj.mk (.type "function") none (.func (@PySem.FuncData.mk (.ofString "walk") (.ofString "walk") (defArgs st_walk) (@PySem.FuncBody.stmts (defBody st_walk)) (defScope st_walk) 3 [] .none .none .none (.str "fordbook.walks" 699) none (.ref 384) .none 0)) #[])
noncomputable def o_386 (P:Params):Obj:=(Obj.mk (.type "tuple") none (.seq #[] 0) #[])
noncomputable def o_388 (P:Params):Obj:=(Obj.mk (.type "tuple") none (.seq #[(.str "day" 765),(.str "size" 766),(.str "roads" 767),(.str "goal" 768),(.str "place" 769),(.str "t" 770),(.str "tables" 771)] 0) #[])
noncomputable def o_389 (P:Params):Obj:=(Obj.mk (.type "tuple") none (.seq #[] 0) #[])
noncomputable def o_391 (P:Params):Obj:=(Obj.mk (.type "code") none (.fields #[(.str "journey" 762),(.str "journey" 763),(.str "/claim/cut.py" 764),(.int 261 0),(.int 6 0),(.int 0 0),(.int 0 0),(.int 3 0),(.ref 386),(.bool @Bool.true),(.int 181 0),(.ref 387),.none,(.ref 388),(.ref 389),(.ref 390),(.int 772 0),(.int 261 0),(.str "/claim/cut.py" 773)]) #[])
noncomputable def o_392 (P:Params):Obj:=(Obj.mk (.type "function") none (.func (@PySem.FuncData.mk (.ofString "journey") (.ofString "journey") (defArgs st_journey) (@PySem.FuncBody.stmts (defBody st_journey)) (defScope st_journey) 3 [] .none .none .none (.str "fordbook.journeys" 760) none (.ref 391) .none 0)) #[])
noncomputable def o_393 (P:Params):Obj:=(Obj.mk (.type "tuple") none (.seq #[] 0) #[])
noncomputable def o_395 (P:Params):Obj:=(Obj.mk (.type "tuple") none (.seq #[(.str "day" 778),(.str "size" 779),(.str "roads" 780),(.str "goal" 781),(.str "place" 782),(.str "s" 783),(.str "tables" 784),(.str "t" 785)] 0) #[])
noncomputable def o_396 (P:Params):Obj:=(Obj.mk (.type "tuple") none (.seq #[] 0) #[])
noncomputable def o_398 (P:Params):Obj:=(Obj.mk (.type "code") none (.fields #[(.str "last_journey" 775),(.str "last_journey" 776),(.str "/claim/cut.py" 777),(.int 265 0),(.int 6 0),(.int 0 0),(.int 0 0),(.int 3 0),(.ref 393),(.bool @Bool.true),(.int 181 0),(.ref 394),.none,(.ref 395),(.ref 396),(.ref 397),(.int 786 0),(.int 265 0),(.str "/claim/cut.py" 787)]) #[])
noncomputable def o_399 (P:Params):Obj:=(Obj.mk (.type "function") none (.func (@PySem.FuncData.mk (.ofString "last_journey") (.ofString "last_journey") (defArgs st_last_journey) (@PySem.FuncBody.stmts (defBody st_last_journey)) (defScope st_last_journey) 3 [] .none .none .none (.str "fordbook.journeys" 760) none (.ref 398) .none 0)) #[])
noncomputable def o_400 (P:Params):Obj:=(Obj.mk (.type "tuple") none (.seq #[] 0) #[])
noncomputable def o_402 (P:Params):Obj:=(Obj.mk (.type "tuple") none (.seq #[(.str "day" 792),(.str "size" 793),(.str "roads" 794),(.str "goal" 795),(.str "place" 796),(.str "t" 797),(.str "s" 798),(.str "tables" 799)] 0) #[])
noncomputable def o_403 (P:Params):Obj:=(Obj.mk (.type "tuple") none (.seq #[] 0) #[])
noncomputable def o_405 (P:Params):Obj:=(Obj.mk (.type "code") none (.fields #[(.str "fewest_rides" 789),(.str "fewest_rides" 790),(.str "/claim/cut.py" 791),(.int 270 0),(.int 7 0),(.int 0 0),(.int 0 0),(.int 3 0),(.ref 400),(.bool @Bool.true),(.int 181 0),(.ref 401),.none,(.ref 402),(.ref 403),(.ref 404),(.int 800 0),(.int 270 0),(.str "/claim/cut.py" 801)]) #[])
noncomputable def o_406 (P:Params):Obj:=(Obj.mk (.type "function") none (.func (@PySem.FuncData.mk (.ofString "fewest_rides") (.ofString "fewest_rides") (defArgs st_fewest_rides) (@PySem.FuncBody.stmts (defBody st_fewest_rides)) (defScope st_fewest_rides) 3 [] .none .none .none (.str "fordbook.journeys" 760) none (.ref 405) .none 0)) #[])
noncomputable def o_407 (P:Params):Obj:=(Obj.mk (.type "tuple") none (.seq #[] 0) #[])
noncomputable def o_409 (P:Params):Obj:=(Obj.mk (.type "tuple") none (.seq #[(.str "script" 808),(.str "k" 809)] 0) #[])
noncomputable def o_410 (P:Params):Obj:=(Obj.mk (.type "tuple") none (.seq #[] 0) #[])
noncomputable def o_412 (P:Params):Obj:=(Obj.mk (.type "code") none (.fields #[(.str "_law_cell" 805),(.str "_law_cell" 806),(.str "/claim/cut.py" 807),(.int 275 0),(.int 2 0),(.int 0 0),(.int 0 0),(.int 3 0),(.ref 407),(.bool @Bool.true),(.int 181 0),(.ref 408),.none,(.ref 409),(.ref 410),(.ref 411),(.int 810 0),(.int 275 0),(.str "/claim/cut.py" 811)]) #[])
noncomputable def o_413 (P:Params):Obj:=(Obj.mk (.type "function") none (.func (@PySem.FuncData.mk (.ofString "_law_cell") (.ofString "_law_cell") (defArgs st__law_cell) (@PySem.FuncBody.stmts (defBody st__law_cell)) (defScope st__law_cell) 3 [] .none .none .none (.str "law_fordbook_k56_refused_journeys" 803) none (.ref 412) .none 0)) #[])
noncomputable def o_414 (P:Params):Obj:=(Obj.mk (.type "tuple") none (.seq #[] 0) #[])
noncomputable def o_416 (P:Params):Obj:=(Obj.mk (.type "tuple") none (.seq #[(.str "cell" 816),(.str "rest" 817)] 0) #[])
noncomputable def o_417 (P:Params):Obj:=(Obj.mk (.type "tuple") none (.seq #[] 0) #[])
noncomputable def o_419 (P:Params):Obj:=(Obj.mk (.type "code") none (.fields #[(.str "_law_day" 813),(.str "_law_day" 814),(.str "/claim/cut.py" 815),(.int 279 0),(.int 1 0),(.int 0 0),(.int 0 0),(.int 3 0),(.ref 414),(.bool @Bool.true),(.int 181 0),(.ref 415),.none,(.ref 416),(.ref 417),(.ref 418),(.int 818 0),(.int 279 0),(.str "/claim/cut.py" 819)]) #[])
noncomputable def o_420 (P:Params):Obj:=(Obj.mk (.type "function") none (.func (@PySem.FuncData.mk (.ofString "_law_day") (.ofString "_law_day") (defArgs st__law_day) (@PySem.FuncBody.stmts (defBody st__law_day)) (defScope st__law_day) 3 [] .none .none .none (.str "law_fordbook_k56_refused_journeys" 803) none (.ref 419) .none 0)) #[])
noncomputable def o_421 (P:Params):Obj:=(Obj.mk (.type "tuple") none (.seq #[] 0) #[])
noncomputable def o_423 (P:Params):Obj:=(Obj.mk (.type "tuple") none (.seq #[(.str "cell" 824)] 0) #[])
noncomputable def o_424 (P:Params):Obj:=(Obj.mk (.type "tuple") none (.seq #[] 0) #[])
noncomputable def o_426 (P:Params):Obj:=(Obj.mk (.type "code") none (.fields #[(.str "_law_size" 821),(.str "_law_size" 822),(.str "/claim/cut.py" 823),(.int 288 0),(.int 1 0),(.int 0 0),(.int 0 0),(.int 3 0),(.ref 421),(.bool @Bool.true),(.int 181 0),(.ref 422),.none,(.ref 423),(.ref 424),(.ref 425),(.int 825 0),(.int 288 0),(.str "/claim/cut.py" 826)]) #[])
noncomputable def o_427 (P:Params):Obj:=(Obj.mk (.type "function") none (.func (@PySem.FuncData.mk (.ofString "_law_size") (.ofString "_law_size") (defArgs st__law_size) (@PySem.FuncBody.stmts (defBody st__law_size)) (defScope st__law_size) 3 [] .none .none .none (.str "law_fordbook_k56_refused_journeys" 803) none (.ref 426) .none 0)) #[])
noncomputable def o_428 (P:Params):Obj:=(Obj.mk (.type "tuple") none (.seq #[] 0) #[])
noncomputable def o_430 (P:Params):Obj:=(Obj.mk (.type "tuple") none (.seq #[(.str "day" 831),(.str "one" 832),(.str "two" 833),(.str "three" 834),(.str "a" 835),(.str "rest" 836),(.str "b" 837),(.str "c" 838)] 0) #[])
noncomputable def o_431 (P:Params):Obj:=(Obj.mk (.type "tuple") none (.seq #[] 0) #[])
noncomputable def o_433 (P:Params):Obj:=(Obj.mk (.type "code") none (.fields #[(.str "_law_road_window" 828),(.str "_law_road_window" 829),(.str "/claim/cut.py" 830),(.int 290 0),(.int 4 0),(.int 0 0),(.int 0 0),(.int 3 0),(.ref 428),(.bool @Bool.true),(.int 181 0),(.ref 429),.none,(.ref 430),(.ref 431),(.ref 432),(.int 839 0),(.int 290 0),(.str "/claim/cut.py" 840)]) #[])
noncomputable def o_434 (P:Params):Obj:=(Obj.mk (.type "function") none (.func (@PySem.FuncData.mk (.ofString "_law_road_window") (.ofString "_law_road_window") (defArgs st__law_road_window) (@PySem.FuncBody.stmts (defBody st__law_road_window)) (defScope st__law_road_window) 3 [] .none .none .none (.str "law_fordbook_k56_refused_journeys" 803) none (.ref 433) .none 0)) #[])
noncomputable def o_435 (P:Params):Obj:=(Obj.mk (.type "tuple") none (.seq #[] 0) #[])
noncomputable def o_437 (P:Params):Obj:=(Obj.mk (.type "tuple") none (.seq #[(.str "day" 845),(.str "size" 846),(.str "goal" 847),(.str "cells" 848),(.str "roads" 849),(.str "k" 850),(.str "head" 851),(.str "start" 852)] 0) #[])
noncomputable def o_438 (P:Params):Obj:=(Obj.mk (.type "tuple") none (.seq #[] 0) #[])
noncomputable def o_440 (P:Params):Obj:=(Obj.mk (.type "code") none (.fields #[(.str "_law_net" 842),(.str "_law_net" 843),(.str "/claim/cut.py" 844),(.int 299 0),(.int 4 0),(.int 0 0),(.int 0 0),(.int 3 0),(.ref 435),(.bool @Bool.true),(.int 181 0),(.ref 436),.none,(.ref 437),(.ref 438),(.ref 439),(.int 853 0),(.int 299 0),(.str "/claim/cut.py" 854)]) #[])
noncomputable def o_441 (P:Params):Obj:=(Obj.mk (.type "function") none (.func (@PySem.FuncData.mk (.ofString "_law_net") (.ofString "_law_net") (defArgs st__law_net) (@PySem.FuncBody.stmts (defBody st__law_net)) (defScope st__law_net) 3 [] .none .none .none (.str "law_fordbook_k56_refused_journeys" 803) none (.ref 440) .none 0)) #[])
noncomputable def o_442 (P:Params):Obj:=(Obj.mk (.type "tuple") none (.seq #[] 0) #[])
noncomputable def o_444 (P:Params):Obj:=(Obj.mk (.type "tuple") none (.seq #[(.str "size" 859),(.str "cell" 860)] 0) #[])
noncomputable def o_445 (P:Params):Obj:=(Obj.mk (.type "tuple") none (.seq #[] 0) #[])
noncomputable def o_447 (P:Params):Obj:=(Obj.mk (.type "code") none (.fields #[(.str "_law_odd_place" 856),(.str "_law_odd_place" 857),(.str "/claim/cut.py" 858),(.int 311 0),(.int 2 0),(.int 0 0),(.int 0 0),(.int 3 0),(.ref 442),(.bool @Bool.true),(.int 181 0),(.ref 443),.none,(.ref 444),(.ref 445),(.ref 446),(.int 861 0),(.int 311 0),(.str "/claim/cut.py" 862)]) #[])
noncomputable def o_448 (P:Params):Obj:=(Obj.mk (.type "function") none (.func (@PySem.FuncData.mk (.ofString "_law_odd_place") (.ofString "_law_odd_place") (defArgs st__law_odd_place) (@PySem.FuncBody.stmts (defBody st__law_odd_place)) (defScope st__law_odd_place) 3 [] .none .none .none (.str "law_fordbook_k56_refused_journeys" 803) none (.ref 447) .none 0)) #[])
noncomputable def o_449 (P:Params):Obj:=(Obj.mk (.type "tuple") none (.seq #[] 0) #[])
noncomputable def o_451 (P:Params):Obj:=(Obj.mk (.type "tuple") none (.seq #[(.str "which" 867),(.str "day" 868),(.str "size" 869),(.str "roads" 870),(.str "goal" 871),(.str "place" 872)] 0) #[])
noncomputable def o_452 (P:Params):Obj:=(Obj.mk (.type "tuple") none (.seq #[] 0) #[])
noncomputable def o_454 (P:Params):Obj:=(Obj.mk (.type "code") none (.fields #[(.str "_law_asked" 864),(.str "_law_asked" 865),(.str "/claim/cut.py" 866),(.int 313 0),(.int 6 0),(.int 0 0),(.int 0 0),(.int 3 0),(.ref 449),(.bool @Bool.true),(.int 181 0),(.ref 450),.none,(.ref 451),(.ref 452),(.ref 453),(.int 873 0),(.int 313 0),(.str "/claim/cut.py" 874)]) #[])
noncomputable def o_455 (P:Params):Obj:=(Obj.mk (.type "function") none (.func (@PySem.FuncData.mk (.ofString "_law_asked") (.ofString "_law_asked") (defArgs st__law_asked) (@PySem.FuncBody.stmts (defBody st__law_asked)) (defScope st__law_asked) 3 [] .none .none .none (.str "law_fordbook_k56_refused_journeys" 803) none (.ref 454) .none 0)) #[])
noncomputable def o_456 (P:Params):Obj:=(Obj.mk (.type "tuple") none (.seq #[] 0) #[])
noncomputable def o_458 (P:Params):Obj:=(Obj.mk (.type "tuple") none (.seq #[(.str "which" 879),(.str "day" 880),(.str "size" 881),(.str "roads" 882),(.str "goal" 883),(.str "place" 884),(.str "named" 885),(.str "e" 886)] 0) #[])
noncomputable def o_459 (P:Params):Obj:=(Obj.mk (.type "tuple") none (.seq #[] 0) #[])
noncomputable def o_461 (P:Params):Obj:=(Obj.mk (.type "code") none (.fields #[(.str "_law_named" 876),(.str "_law_named" 877),(.str "/claim/cut.py" 878),(.int 319 0),(.int 6 0),(.int 0 0),(.int 0 0),(.int 3 0),(.ref 456),(.bool @Bool.true),(.int 181 0),(.ref 457),.none,(.ref 458),(.ref 459),(.ref 460),(.int 887 0),(.int 319 0),(.str "/claim/cut.py" 888)]) #[])
noncomputable def o_462 (P:Params):Obj:=(Obj.mk (.type "function") none (.func (@PySem.FuncData.mk (.ofString "_law_named") (.ofString "_law_named") (defArgs st__law_named) (@PySem.FuncBody.stmts (defBody st__law_named)) (defScope st__law_named) 3 [] .none .none .none (.str "law_fordbook_k56_refused_journeys" 803) none (.ref 461) .none 0)) #[])
noncomputable def o_463 (P:Params):Obj:=(Obj.mk (.type "tuple") none (.seq #[] 0) #[])
noncomputable def o_465 (P:Params):Obj:=(Obj.mk (.type "tuple") none (.seq #[(.str "day" 893),(.str "size" 894),(.str "road" 895),(.str "cell" 896),(.str "odd" 897),(.str "bad" 898),(.str "at" 899)] 0) #[])
noncomputable def o_466 (P:Params):Obj:=(Obj.mk (.type "tuple") none (.seq #[] 0) #[])
noncomputable def o_468 (P:Params):Obj:=(Obj.mk (.type "code") none (.fields #[(.str "_law_bent" 890),(.str "_law_bent" 891),(.str "/claim/cut.py" 892),(.int 328 0),(.int 4 0),(.int 0 0),(.int 0 0),(.int 3 0),(.ref 463),(.bool @Bool.true),(.int 181 0),(.ref 464),.none,(.ref 465),(.ref 466),(.ref 467),(.int 900 0),(.int 328 0),(.str "/claim/cut.py" 901)]) #[])
noncomputable def o_469 (P:Params):Obj:=(Obj.mk (.type "function") none (.func (@PySem.FuncData.mk (.ofString "_law_bent") (.ofString "_law_bent") (defArgs st__law_bent) (@PySem.FuncBody.stmts (defBody st__law_bent)) (defScope st__law_bent) 3 [] .none .none .none (.str "law_fordbook_k56_refused_journeys" 803) none (.ref 468) .none 0)) #[])
noncomputable def o_470 (P:Params):Obj:=(Obj.mk (.type "tuple") none (.seq #[] 0) #[])
noncomputable def o_472 (P:Params):Obj:=(Obj.mk (.type "tuple") none (.seq #[(.str "script" 906),(.str "day" 907),(.str "size" 908),(.str "places" 909),(.str "roads" 910),(.str "cell" 911),(.str "due" 912),(.str "odd" 913),(.str "k" 914),(.str "at" 915),(.str "which" 916)] 0) #[])
noncomputable def o_473 (P:Params):Obj:=(Obj.mk (.type "tuple") none (.seq #[] 0) #[])
noncomputable def o_475 (P:Params):Obj:=(Obj.mk (.type "code") none (.fields #[(.str "law" 903),(.str "law" 904),(.str "/claim/cut.py" 905),(.int 341 0),(.int 1 0),(.int 0 0),(.int 0 0),(.int 3 0),(.ref 470),(.bool @Bool.true),(.int 181 0),(.ref 471),.none,(.ref 472),(.ref 473),(.ref 474),(.int 917 0),(.int 341 0),(.str "/claim/cut.py" 918)]) #[])
noncomputable def o_476 (P:Params):Obj:=(Obj.mk (.type "function") none (.func (@PySem.FuncData.mk (.ofString "law") (.ofString "law") (defArgs st_law) (@PySem.FuncBody.stmts (defBody st_law)) (defScope st_law) 3 [] .none .none .none (.str "law_fordbook_k56_refused_journeys" 803) none (.ref 475) .none 0)) #[])
noncomputable def KK:Params->PySem.W.Frag:=fun P =>
 ((nat_lit 2),(o_2 P)) ::
 ((nat_lit 3),(o_3 P)) ::
 ((nat_lit 15),(o_15 P)) ::
 ((nat_lit 17),(o_17 P)) ::
 ((nat_lit 18),(o_18 P)) ::
 ((nat_lit 20),(o_20 P)) ::
 ((nat_lit 21),(o_21 P)) ::
 ((nat_lit 22),(o_22 P)) ::
 ((nat_lit 25),(o_25 P)) ::
 ((nat_lit 26),(o_26 P)) ::
 ((nat_lit 27),(o_27 P)) ::
 ((nat_lit 30),(o_30 P)) ::
 ((nat_lit 31),(o_31 P)) ::
 ((nat_lit 32),(o_32 P)) ::
 ((nat_lit 34),(o_34 P)) ::
 ((nat_lit 35),(o_35 P)) ::
 ((nat_lit 37),(o_37 P)) ::
 ((nat_lit 38),(o_38 P)) ::
 ((nat_lit 39),(o_39 P)) ::
 ((nat_lit 41),(o_41 P)) ::
 ((nat_lit 42),(o_42 P)) ::
 ((nat_lit 44),(o_44 P)) ::
 ((nat_lit 45),(o_45 P)) ::
 ((nat_lit 46),(o_46 P)) ::
 ((nat_lit 48),(o_48 P)) ::
 ((nat_lit 49),(o_49 P)) ::
 ((nat_lit 51),(o_51 P)) ::
 ((nat_lit 52),(o_52 P)) ::
 ((nat_lit 53),(o_53 P)) ::
 ((nat_lit 55),(o_55 P)) ::
 ((nat_lit 56),(o_56 P)) ::
 ((nat_lit 58),(o_58 P)) ::
 ((nat_lit 59),(o_59 P)) ::
 ((nat_lit 60),(o_60 P)) ::
 ((nat_lit 62),(o_62 P)) ::
 ((nat_lit 63),(o_63 P)) ::
 ((nat_lit 65),(o_65 P)) ::
 ((nat_lit 66),(o_66 P)) ::
 ((nat_lit 67),(o_67 P)) ::
 ((nat_lit 69),(o_69 P)) ::
 ((nat_lit 70),(o_70 P)) ::
 ((nat_lit 72),(o_72 P)) ::
 ((nat_lit 73),(o_73 P)) ::
 ((nat_lit 74),(o_74 P)) ::
 ((nat_lit 76),(o_76 P)) ::
 ((nat_lit 77),(o_77 P)) ::
 ((nat_lit 79),(o_79 P)) ::
 ((nat_lit 80),(o_80 P)) ::
 ((nat_lit 81),(o_81 P)) ::
 ((nat_lit 88),(o_88 P)) ::
 ((nat_lit 89),(o_89 P)) ::
 ((nat_lit 90),(o_90 P)) ::
 ((nat_lit 91),(o_91 P)) ::
 ((nat_lit 94),(o_94 P)) ::
 ((nat_lit 101),(o_101 P)) ::
 ((nat_lit 102),(o_102 P)) ::
 ((nat_lit 103),(o_103 P)) ::
 ((nat_lit 106),(o_106 P)) ::
 ((nat_lit 113),(o_113 P)) ::
 ((nat_lit 114),(o_114 P)) ::
 ((nat_lit 115),(o_115 P)) ::
 ((nat_lit 118),(o_118 P)) ::
 ((nat_lit 125),(o_125 P)) ::
 ((nat_lit 126),(o_126 P)) ::
 ((nat_lit 127),(o_127 P)) ::
 ((nat_lit 130),(o_130 P)) ::
 ((nat_lit 137),(o_137 P)) ::
 ((nat_lit 138),(o_138 P)) ::
 ((nat_lit 139),(o_139 P)) ::
 ((nat_lit 142),(o_142 P)) ::
 ((nat_lit 149),(o_149 P)) ::
 ((nat_lit 150),(o_150 P)) ::
 ((nat_lit 151),(o_151 P)) ::
 ((nat_lit 154),(o_154 P)) ::
 ((nat_lit 161),(o_161 P)) ::
 ((nat_lit 162),(o_162 P)) ::
 ((nat_lit 163),(o_163 P)) ::
 ((nat_lit 166),(o_166 P)) ::
 ((nat_lit 173),(o_173 P)) ::
 ((nat_lit 174),(o_174 P)) ::
 ((nat_lit 175),(o_175 P)) ::
 ((nat_lit 178),(o_178 P)) ::
 ((nat_lit 185),(o_185 P)) ::
 ((nat_lit 186),(o_186 P)) ::
 ((nat_lit 187),(o_187 P)) ::
 ((nat_lit 190),(o_190 P)) ::
 ((nat_lit 197),(o_197 P)) ::
 ((nat_lit 198),(o_198 P)) ::
 ((nat_lit 199),(o_199 P)) ::
 ((nat_lit 202),(o_202 P)) ::
 ((nat_lit 204),(o_204 P)) ::
 ((nat_lit 205),(o_205 P)) ::
 ((nat_lit 207),(o_207 P)) ::
 ((nat_lit 208),(o_208 P)) ::
 ((nat_lit 209),(o_209 P)) ::
 ((nat_lit 212),(o_212 P)) ::
 ((nat_lit 213),(o_213 P)) ::
 ((nat_lit 214),(o_214 P)) ::
 ((nat_lit 217),(o_217 P)) ::
 ((nat_lit 218),(o_218 P)) ::
 ((nat_lit 219),(o_219 P)) ::
 ((nat_lit 221),(o_221 P)) ::
 ((nat_lit 222),(o_222 P)) ::
 ((nat_lit 224),(o_224 P)) ::
 ((nat_lit 225),(o_225 P)) ::
 ((nat_lit 226),(o_226 P)) ::
 ((nat_lit 228),(o_228 P)) ::
 ((nat_lit 229),(o_229 P)) ::
 ((nat_lit 231),(o_231 P)) ::
 ((nat_lit 232),(o_232 P)) ::
 ((nat_lit 233),(o_233 P)) ::
 ((nat_lit 235),(o_235 P)) ::
 ((nat_lit 236),(o_236 P)) ::
 ((nat_lit 238),(o_238 P)) ::
 ((nat_lit 239),(o_239 P)) ::
 ((nat_lit 240),(o_240 P)) ::
 ((nat_lit 242),(o_242 P)) ::
 ((nat_lit 243),(o_243 P)) ::
 ((nat_lit 245),(o_245 P)) ::
 ((nat_lit 246),(o_246 P)) ::
 ((nat_lit 247),(o_247 P)) ::
 ((nat_lit 249),(o_249 P)) ::
 ((nat_lit 250),(o_250 P)) ::
 ((nat_lit 252),(o_252 P)) ::
 ((nat_lit 253),(o_253 P)) ::
 ((nat_lit 254),(o_254 P)) ::
 ((nat_lit 256),(o_256 P)) ::
 ((nat_lit 257),(o_257 P)) ::
 ((nat_lit 259),(o_259 P)) ::
 ((nat_lit 260),(o_260 P)) ::
 ((nat_lit 261),(o_261 P)) ::
 ((nat_lit 263),(o_263 P)) ::
 ((nat_lit 264),(o_264 P)) ::
 ((nat_lit 266),(o_266 P)) ::
 ((nat_lit 267),(o_267 P)) ::
 ((nat_lit 268),(o_268 P)) ::
 ((nat_lit 271),(o_271 P)) ::
 ((nat_lit 272),(o_272 P)) ::
 ((nat_lit 273),(o_273 P)) ::
 ((nat_lit 275),(o_275 P)) ::
 ((nat_lit 276),(o_276 P)) ::
 ((nat_lit 278),(o_278 P)) ::
 ((nat_lit 279),(o_279 P)) ::
 ((nat_lit 280),(o_280 P)) ::
 ((nat_lit 282),(o_282 P)) ::
 ((nat_lit 283),(o_283 P)) ::
 ((nat_lit 285),(o_285 P)) ::
 ((nat_lit 286),(o_286 P)) ::
 ((nat_lit 287),(o_287 P)) ::
 ((nat_lit 289),(o_289 P)) ::
 ((nat_lit 290),(o_290 P)) ::
 ((nat_lit 292),(o_292 P)) ::
 ((nat_lit 293),(o_293 P)) ::
 ((nat_lit 294),(o_294 P)) ::
 ((nat_lit 296),(o_296 P)) ::
 ((nat_lit 297),(o_297 P)) ::
 ((nat_lit 299),(o_299 P)) ::
 ((nat_lit 300),(o_300 P)) ::
 ((nat_lit 301),(o_301 P)) ::
 ((nat_lit 303),(o_303 P)) ::
 ((nat_lit 304),(o_304 P)) ::
 ((nat_lit 306),(o_306 P)) ::
 ((nat_lit 307),(o_307 P)) ::
 ((nat_lit 308),(o_308 P)) ::
 ((nat_lit 310),(o_310 P)) ::
 ((nat_lit 311),(o_311 P)) ::
 ((nat_lit 313),(o_313 P)) ::
 ((nat_lit 314),(o_314 P)) ::
 ((nat_lit 315),(o_315 P)) ::
 ((nat_lit 318),(o_318 P)) ::
 ((nat_lit 319),(o_319 P)) ::
 ((nat_lit 320),(o_320 P)) ::
 ((nat_lit 323),(o_323 P)) ::
 ((nat_lit 324),(o_324 P)) ::
 ((nat_lit 325),(o_325 P)) ::
 ((nat_lit 328),(o_328 P)) ::
 ((nat_lit 329),(o_329 P)) ::
 ((nat_lit 330),(o_330 P)) ::
 ((nat_lit 332),(o_332 P)) ::
 ((nat_lit 333),(o_333 P)) ::
 ((nat_lit 335),(o_335 P)) ::
 ((nat_lit 336),(o_336 P)) ::
 ((nat_lit 337),(o_337 P)) ::
 ((nat_lit 339),(o_339 P)) ::
 ((nat_lit 340),(o_340 P)) ::
 ((nat_lit 342),(o_342 P)) ::
 ((nat_lit 343),(o_343 P)) ::
 ((nat_lit 344),(o_344 P)) ::
 ((nat_lit 346),(o_346 P)) ::
 ((nat_lit 347),(o_347 P)) ::
 ((nat_lit 349),(o_349 P)) ::
 ((nat_lit 350),(o_350 P)) ::
 ((nat_lit 351),(o_351 P)) ::
 ((nat_lit 353),(o_353 P)) ::
 ((nat_lit 354),(o_354 P)) ::
 ((nat_lit 356),(o_356 P)) ::
 ((nat_lit 357),(o_357 P)) ::
 ((nat_lit 358),(o_358 P)) ::
 ((nat_lit 360),(o_360 P)) ::
 ((nat_lit 361),(o_361 P)) ::
 ((nat_lit 363),(o_363 P)) ::
 ((nat_lit 364),(o_364 P)) ::
 ((nat_lit 365),(o_365 P)) ::
 ((nat_lit 367),(o_367 P)) ::
 ((nat_lit 368),(o_368 P)) ::
 ((nat_lit 370),(o_370 P)) ::
 ((nat_lit 371),(o_371 P)) ::
 ((nat_lit 372),(o_372 P)) ::
 ((nat_lit 374),(o_374 P)) ::
 ((nat_lit 375),(o_375 P)) ::
 ((nat_lit 377),(o_377 P)) ::
 ((nat_lit 378),(o_378 P)) ::
 ((nat_lit 379),(o_379 P)) ::
 ((nat_lit 381),(o_381 P)) ::
 ((nat_lit 382),(o_382 P)) ::
 ((nat_lit 384),(o_384 P)) ::
 ((nat_lit 385),(o_385 P)) ::
 ((nat_lit 386),(o_386 P)) ::
 ((nat_lit 388),(o_388 P)) ::
 ((nat_lit 389),(o_389 P)) ::
 ((nat_lit 391),(o_391 P)) ::
 ((nat_lit 392),(o_392 P)) ::
 ((nat_lit 393),(o_393 P)) ::
 ((nat_lit 395),(o_395 P)) ::
 ((nat_lit 396),(o_396 P)) ::
 ((nat_lit 398),(o_398 P)) ::
 ((nat_lit 399),(o_399 P)) ::
 ((nat_lit 400),(o_400 P)) ::
 ((nat_lit 402),(o_402 P)) ::
 ((nat_lit 403),(o_403 P)) ::
 ((nat_lit 405),(o_405 P)) ::
 ((nat_lit 406),(o_406 P)) ::
 ((nat_lit 407),(o_407 P)) ::
 ((nat_lit 409),(o_409 P)) ::
 ((nat_lit 410),(o_410 P)) ::
 ((nat_lit 412),(o_412 P)) ::
 ((nat_lit 413),(o_413 P)) ::
 ((nat_lit 414),(o_414 P)) ::
 ((nat_lit 416),(o_416 P)) ::
 ((nat_lit 417),(o_417 P)) ::
 ((nat_lit 419),(o_419 P)) ::
 ((nat_lit 420),(o_420 P)) ::
 ((nat_lit 421),(o_421 P)) ::
 ((nat_lit 423),(o_423 P)) ::
 ((nat_lit 424),(o_424 P)) ::
 ((nat_lit 426),(o_426 P)) ::
 ((nat_lit 427),(o_427 P)) ::
 ((nat_lit 428),(o_428 P)) ::
 ((nat_lit 430),(o_430 P)) ::
 ((nat_lit 431),(o_431 P)) ::
 ((nat_lit 433),(o_433 P)) ::
 ((nat_lit 434),(o_434 P)) ::
 ((nat_lit 435),(o_435 P)) ::
 ((nat_lit 437),(o_437 P)) ::
 ((nat_lit 438),(o_438 P)) ::
 ((nat_lit 440),(o_440 P)) ::
 ((nat_lit 441),(o_441 P)) ::
 ((nat_lit 442),(o_442 P)) ::
 ((nat_lit 444),(o_444 P)) ::
 ((nat_lit 445),(o_445 P)) ::
 ((nat_lit 447),(o_447 P)) ::
 ((nat_lit 448),(o_448 P)) ::
 ((nat_lit 449),(o_449 P)) ::
 ((nat_lit 451),(o_451 P)) ::
 ((nat_lit 452),(o_452 P)) ::
 ((nat_lit 454),(o_454 P)) ::
 ((nat_lit 455),(o_455 P)) ::
 ((nat_lit 456),(o_456 P)) ::
 ((nat_lit 458),(o_458 P)) ::
 ((nat_lit 459),(o_459 P)) ::
 ((nat_lit 461),(o_461 P)) ::
 ((nat_lit 462),(o_462 P)) ::
 ((nat_lit 463),(o_463 P)) ::
 ((nat_lit 465),(o_465 P)) ::
 ((nat_lit 466),(o_466 P)) ::
 ((nat_lit 468),(o_468 P)) ::
 ((nat_lit 469),(o_469 P)) ::
 ((nat_lit 470),(o_470 P)) ::
 ((nat_lit 472),(o_472 P)) ::
 ((nat_lit 473),(o_473 P)) ::
 ((nat_lit 475),(o_475 P)) ::
 ((nat_lit 476),(o_476 P)) ::
 []
noncomputable def kAs:List Addr:=[2,3,15,17,18,20,21,22,25,26,27,30,31,32,34,35,37,38,39,41,42,44,45,46,48,49,51,52,53,55,56,58,59,60,62,63,65,66,67,69,70,72,73,74,76,77,79,80,81,88,89,90,91,94,101,102,103,106,113,114,115,118,125,126,127,130,137,138,139,142,149,150,151,154,161,162,163,166,173,174,175,178,185,186,187,190,197,198,199,202,204,205,207,208,209,212,213,214,217,218,219,221,222,224,225,226,228,229,231,232,233,235,236,238,239,240,242,243,245,246,247,249,250,252,253,254,256,257,259,260,261,263,264,266,267,268,271,272,273,275,276,278,279,280,282,283,285,286,287,289,290,292,293,294,296,297,299,300,301,303,304,306,307,308,310,311,313,314,315,318,319,320,323,324,325,328,329,330,332,333,335,336,337,339,340,342,343,344,346,347,349,350,351,353,354,356,357,358,360,361,363,364,365,367,368,370,371,372,374,375,377,378,379,381,382,384,385,386,388,389,391,392,393,395,396,398,399,400,402,403,405,406,407,409,410,412,413,414,416,417,419,420,421,423,424,426,427,428,430,431,433,434,435,437,438,440,441,442,444,445,447,448,449,451,452,454,455,456,458,459,461,462,463,465,466,468,469,470,472,473,475,476]
noncomputable def view:Program:={ PySem.Challenge.pw_fordbook_k56_refused_journeys with main:={ PySem.Challenge.pw_fordbook_k56_refused_journeys.main with body:=[top 1,top 2,top 3,top 4,top 5,top 7,top 8,top 9,top 10,top 11,top 13,top 14,top 15,top 16,top 17,top 18,top 19,top 20,top 21,top 22,top 24,top 25,top 26,top 27,top 28,top 30,top 31,top 32,top 33,top 34,top 36,top 37,top 38,top 39,top 40,top 41,top 42,top 44,top 45,top 46,top 47,top 48,top 49,top 50,top 52,top 53,top 54,top 55,top 57,top 58,top 59,top 61,top 62,top 63,top 64,top 65,top 66,top 67,top 68,top 69,top 70] } }
theorem k_ws:PySem.Challenge.rw_fordbook_k56_refused_journeys.wellSaid=true:=by
 kernel_rfl
theorem k_as (P:Params):kAs=(KK P).map (·.1):=by kernel_rfl
namespace Tt
open PySem PySem.W PySem.Calls PyProof.Rows
noncomputable def topRunT (tb:String->Option Builtin) (p:Program) (w:World) (n₀:Nat) (ann:Option Value):Nat->SharedT->Thread->Option SharedT
 | 0,_,_=>none
 | n+1,s,t=>match through t with
  | true=>some s
  | false=>match stepOk n₀ ann t with
   | false=>none
   | true=>match stepT (denote tb) p w s t with
    | some (s',t')=>topRunT tb p w n₀ ann n s' t'
    | none=>none
theorem topRun_of {tb:String->Option Builtin} {p:Program} {w:World} {n₀:Nat} {ann:Option Value}:∀ {n:Nat} {s s':SharedT} {t:Thread},topRunT tb p w n₀ ann n s t=some s'->topRun tb p w n₀ ann n s.abs t=some s'.abs
 | 0,_,_,_,h=>by cases h
 | n+1,s,s',t,h=>by
  unfold topRunT at h
  unfold topRun
  cases he:through t with
  | true=>rw [he] at h; cases h; rfl
  | false =>
   rw [he] at h
   cases hk:stepOk n₀ ann t with
   | false=>rw [hk] at h; cases h
   | true =>
    rw [hk] at h
    cases hs:stepT (denote tb) p w s t with
    | none=>rw [hs] at h; cases h
    | some r=>obtain ⟨s₂,t₂⟩:=r; rw [hs] at h; rw [stepT_spec hs]; exact topRun_of h
noncomputable def grow:List Obj->Nat->BT->BT
 | [],_,t=>t
 | o :: l,n,t=>grow l (n+1) (t.ins n o)
noncomputable def s0T (P:Params) (os:OsState):SharedT:=⟨grow (boot_heap P).objs.toList 0 .nil,11,{},Array.mk [],boot_drawn,boot_toks,os⟩
theorem s0_abs (P:Params) (os:OsState):(s0T P os).abs=⟨boot_heap P,Array.mk [],boot_drawn,boot_toks,os⟩:=by kernel_rfl
noncomputable def chk (p:Program) (h₀:Heap) (s:Shared):Bool:=staticsOk (importedModules p.main.body) h₀ s.heap && namesBound p s.heap && gensDone s && laidKept h₀ s.heap
theorem boot_facts (P:Params):((boot_heap P).isNs mainGlobals,(boot_heap P).objs.size,(boot_heap P).nsMap mainGlobals "__annotations__")=(true,11,some (.ref 6)):=by kernel_rfl
noncomputable def qRun (p:Program) (w:World) (n₀:Nat) (ann:Option Value):Nat->SharedT->Thread->Option SharedT
 | 0,_,_=>none
 | n+1,s,t=>match through t with
  | true=>some s
  | false=>match Fast.tw6613529449190102663 n₀ ann t with
   | false=>none
   | true=>match Fast.tw10156331382660048174 (Fast.tw11892475500146522536 Fast.tw14364793385576792824) p w s t with
    | some (s',t')=>qRun p w n₀ ann n s' t'
    | none=>none
theorem qRun_eq {p:Program} {w:World} {n₀:Nat} {ann:Option Value}:∀ (n:Nat) (s:SharedT) (t:Thread),topRunT treeTable p w n₀ ann n s t=qRun p w n₀ ann n s t
 | 0,_,_=>rfl
 | n+1,s,t=>by
  unfold topRunT qRun
  rw [<- Fast.te6613529449190102663,<- Fast.te10156331382660048174,<- Fast.te11892475500146522536,<- Fast.te14364793385576792824]
  simp only [qRun_eq n]
noncomputable def endsT (p:Program) (N:Nat) (w:World) (os:OsState):Option SharedT:=qRun p w 11 (some (.ref 6)) N (s0T w.params os) (topStub p)
theorem left_of {p:Program} {N:Nat} {β:Type} {obs:Shared->β} {good:World->β} (hb:opening p=plainProg p.main.scope.names) (hN:Nat.ble 600 N=true) (hf:∀ s,fenceModules? p s=some s)
  (h1:∀ w os,(endsT p N w os).map (fun s=>chk p (boot_heap w.params) s.abs)=some true)
  (h2:∀ w os,(endsT p N w os).map (fun s=>obs s.abs)=some (good w)):∀ w,(openEnds treeTable p w N).map obs=some (good w):=by
 intro w
 obtain ⟨⟨hp,gs,dr,tk,os⟩,e,e2⟩:=Option.map_eq_some_iff.mp (boot_open (N:=N) hb hN hf w)
 simp only [Prod.mk.injEq] at e2
 obtain ⟨rfl,rfl,rfl,rfl⟩:=e2
 obtain ⟨f1,f2,f3⟩:_/\_/\_:=by simpa only [Prod.mk.injEq] using boot_facts w.params
 obtain ⟨s,hs,h2'⟩:=Option.map_eq_some_iff.mp (h2 w os)
 have h1':=h1 w os
 rw [hs] at h1'
 have h1':chk p (boot_heap w.params) s.abs=true:=Option.some.inj h1'
 have r:=topRun_of ((qRun_eq _ _ _).trans hs)
 rw [s0_abs] at r
 unfold openEnds
 rw [e]
 show (topFrom treeTable p w N _).map obs=_
 have t:topFrom treeTable p w N ⟨boot_heap w.params,Array.mk [],boot_drawn,boot_toks,os⟩=some s.abs:=by
  unfold topFrom
  dsimp only
  rw [f1,f2,f3,r]
  show (match chk p (boot_heap w.params) s.abs with | true=>_ | false=>_)=_
  rw [h1']
 rw [t]
 exact congrArg some h2'
end Tt
theorem both {α β γ:Type} {o:Option α} {f:α->β} {g:α->γ} {b:β} {c:γ} (h1:o.map f=some b) (h2:o.map g=some c):o.map (fun s=>(f s,g s))=some (b,c):=by
 cases o with
 | none=>cases h1
 | some s =>
  cases h1
  cases h2
  rfl
open PySem PySem.W PySem.Spec PyProof.Rows in
theorem k_b:opening PySem.Challenge.rw_fordbook_k56_refused_journeys.row.prog=plainProg PySem.Challenge.rw_fordbook_k56_refused_journeys.row.prog.main.scope.names:=by kernel_rfl
open PySem PySem.W PySem.Spec PyProof.Rows in
theorem k_f (s:Shared):fenceModules? PySem.Challenge.rw_fordbook_k56_refused_journeys.row.prog s=some s:=by kernel_rfl
open PySem PySem.W PySem.Spec PyProof.Rows in
theorem k_c (w:World) (os:OsState):(Tt.endsT PySem.Challenge.rw_fordbook_k56_refused_journeys.row.prog 7826 w os).map (fun s=>Tt.chk PySem.Challenge.rw_fordbook_k56_refused_journeys.row.prog (boot_heap w.params) s.abs)=some true:=by kernel_rfl
open PySem PySem.W PySem.Spec PyProof.Rows in
theorem k_l1a (w:World) (os:OsState):(Tt.endsT PySem.Challenge.rw_fordbook_k56_refused_journeys.row.prog 7826 w os).map (fun s=>(Fast.tw4187177175401517315 My.view [] (importedModules PySem.Challenge.rw_fordbook_k56_refused_journeys.row.prog.main.body) (fun s=>PySem.W.xlAt My.view [] s && PySem.W.recOk (PySem.W.RowW.records (PySem.W.OpenRow.toRowW PySem.Challenge.rw_fordbook_k56_refused_journeys.row)) s) true s.abs).1)=some (openGood My.view []).1:=by kernel_rfl
open PySem PySem.W PySem.Spec PyProof.Rows in
theorem k_l1b (w:World) (os:OsState):(Tt.endsT PySem.Challenge.rw_fordbook_k56_refused_journeys.row.prog 7826 w os).map (fun s=>(Fast.tw4187177175401517315 My.view [] (importedModules PySem.Challenge.rw_fordbook_k56_refused_journeys.row.prog.main.body) (fun s=>PySem.W.xlAt My.view [] s && PySem.W.recOk (PySem.W.RowW.records (PySem.W.OpenRow.toRowW PySem.Challenge.rw_fordbook_k56_refused_journeys.row)) s) true s.abs).2.1)=some (openGood My.view []).2.1:=by kernel_rfl
open PySem PySem.W PySem.Spec PyProof.Rows in
theorem k_l1c (w:World) (os:OsState):(Tt.endsT PySem.Challenge.rw_fordbook_k56_refused_journeys.row.prog 7826 w os).map (fun s=>(Fast.tw4187177175401517315 My.view [] (importedModules PySem.Challenge.rw_fordbook_k56_refused_journeys.row.prog.main.body) (fun s=>PySem.W.xlAt My.view [] s && PySem.W.recOk (PySem.W.RowW.records (PySem.W.OpenRow.toRowW PySem.Challenge.rw_fordbook_k56_refused_journeys.row)) s) true s.abs).2.2.1)=some (openGood My.view []).2.2.1:=by kernel_rfl
open PySem PySem.W PySem.Spec PyProof.Rows in
theorem k_l1d (w:World) (os:OsState):(Tt.endsT PySem.Challenge.rw_fordbook_k56_refused_journeys.row.prog 7826 w os).map (fun s=>(Fast.tw4187177175401517315 My.view [] (importedModules PySem.Challenge.rw_fordbook_k56_refused_journeys.row.prog.main.body) (fun s=>PySem.W.xlAt My.view [] s && PySem.W.recOk (PySem.W.RowW.records (PySem.W.OpenRow.toRowW PySem.Challenge.rw_fordbook_k56_refused_journeys.row)) s) true s.abs).2.2.2)=some (openGood My.view []).2.2.2:=by kernel_rfl
open PySem PySem.W PySem.Spec PyProof.Rows in
theorem k_l1 (w:World) (os:OsState):(Tt.endsT PySem.Challenge.rw_fordbook_k56_refused_journeys.row.prog 7826 w os).map (fun s=>openSeen My.view [] (importedModules PySem.Challenge.rw_fordbook_k56_refused_journeys.row.prog.main.body) (fun s=>PySem.W.xlAt My.view [] s && PySem.W.recOk (PySem.W.RowW.records (PySem.W.OpenRow.toRowW PySem.Challenge.rw_fordbook_k56_refused_journeys.row)) s) true s.abs)=some (openGood My.view []):=by
 rw [Fast.te4187177175401517315]
 exact both (k_l1a w os) (both (k_l1b w os) (both (k_l1c w os) (k_l1d w os)))
open PySem PySem.W PySem.Spec PyProof.Rows in
theorem k_l2 (w:World) (os:OsState):(Tt.endsT PySem.Challenge.rw_fordbook_k56_refused_journeys.row.prog 7826 w os).map (fun s=>PySem.W.Hook.obs (PySem.W.kmHook My.KK My.kAs My.k_as [68,288,54,345]) s.abs)=some (PySem.W.Hook.val (PySem.W.kmHook My.KK My.kAs My.k_as [68,288,54,345]) w):=by kernel_rfl
theorem k_left:PySem.W.LeftO PySem.Challenge.rw_fordbook_k56_refused_journeys.row.prog My.view [] (fun s=>PySem.W.xlAt My.view [] s && PySem.W.recOk (PySem.W.RowW.records (PySem.W.OpenRow.toRowW PySem.Challenge.rw_fordbook_k56_refused_journeys.row)) s) (PySem.W.Hook.obs (PySem.W.kmHook My.KK My.kAs My.k_as [68,288,54,345])) (PySem.W.Hook.val (PySem.W.kmHook My.KK My.kAs My.k_as [68,288,54,345])) 7826:=Tt.left_of k_b rfl k_f k_c fun w os=>both (k_l1 w os) (k_l2 w os)
end My
namespace L2
open PySem PySem.Spec PyProof.Rows
noncomputable abbrev Key:=Sum Int Str
noncomputable def keyIs:Key->Value->Bool
 | .inl k,v=>Value.isInt k v
 | .inr x,v=>Value.isStrOf x v
noncomputable def keyH (w:World):Key->Int
 | .inl k=>hashInt k
 | .inr x=>hashStr w x
theorem keyIs_shape:∀ {k:Key} {v:Value},keyIs k v=true->(∃ i t,k=Sum.inl i/\v=Value.int i t)\/(∃ x t,k=Sum.inr x/\v=Value.str x t)
 | .inl i,v,h=>by
  obtain ⟨t,e⟩:=Value.isInt_shape (k:=i) (v:=v) h
  exact .inl ⟨i,t,rfl,e⟩
 | .inr x,v,h=>by
  obtain ⟨t,e⟩:=Value.isStrOf_shape (x:=x) (v:=v) h
  exact .inr ⟨x,t,rfl,e⟩
theorem key_ll (a b:Int):decide ((Sum.inl a:Key)=Sum.inl b)=(a == b):=by
 by_cases e:a=b
 ·subst e; simp
 ·have h:¬ (Sum.inl a:Key)=Sum.inl b:=fun q=>e (Sum.inl.inj q)
  rw [decide_eq_false h]
  exact (beq_eq_false_iff_ne.mpr e).symm
theorem key_rr (a b:Str):decide ((Sum.inr a:Key)=Sum.inr b)=decide (a=b):=by
 by_cases e:a=b
 ·subst e; simp
 ·have h:¬ (Sum.inr a:Key)=Sum.inr b:=fun q=>e (Sum.inr.inj q)
  rw [decide_eq_false h,decide_eq_false e]
theorem key_lr (a:Int) (b:Str):decide ((Sum.inl a:Key)=Sum.inr b)=false:=decide_eq_false (fun q=>nomatch q)
theorem key_rl (a:Str) (b:Int):decide ((Sum.inr a:Key)=Sum.inl b)=false:=decide_eq_false (fun q=>nomatch q)
noncomputable def mixKind (prog:Program) (w:World):PySem.KeyKind prog w Key where
 is:=keyIs
 hash:=keyH w
 inj:=fun v a b ha hb=>by
  rcases keyIs_shape ha with ⟨i,t,rfl,rfl⟩ | ⟨x,t,rfl,rfl⟩
  ·rcases keyIs_shape hb with ⟨j,u,rfl,e⟩ | ⟨y,u,rfl,e⟩
   ·injection e with e1 _; rw [e1]
   ·exact nomatch e
  ·rcases keyIs_shape hb with ⟨j,u,rfl,e⟩ | ⟨y,u,rfl,e⟩
   ·exact nomatch e
   ·injection e with e1 _; rw [e1]
 byValue:=fun k v h=>by
  rcases keyIs_shape h with ⟨i,t,rfl,rfl⟩ | ⟨x,t,rfl,rfl⟩ <;> rfl
 pyHash:=fun hv h=>by
  rcases keyIs_shape hv with ⟨i,t,rfl,rfl⟩ | ⟨x,t,rfl,rfl⟩
  ·exact wpAny_pyHash_int h
  ·exact wpAny_pyHash_str h
 eqBool:=fun hu hv h=>by
  rcases keyIs_shape hu with ⟨i,t,rfl,rfl⟩ | ⟨x,t,rfl,rfl⟩
  ·rcases keyIs_shape hv with ⟨j,u,rfl,rfl⟩ | ⟨y,u,rfl,rfl⟩
   ·rw [key_ll] at h; exact wpAny_eqBool_int h
   ·rw [key_lr] at h; exact SeqAt.EqAt.int_str i t y u _ _ _ _ h
  ·rcases keyIs_shape hv with ⟨j,u,rfl,rfl⟩ | ⟨y,u,rfl,rfl⟩
   ·rw [key_rl] at h; exact SeqAt.EqAt.str_int x t j u _ _ _ _ h
   ·rw [key_rr] at h; exact wpAny_eqBool_str h
 «strs»:=fun k x t v h=>by
  rcases keyIs_shape h with ⟨i,u,rfl,e⟩ | ⟨y,u,rfl,e⟩
  ·exact nomatch e
  ·injection e with e1 _
   subst e1
   cases v <;> rfl
end L2
namespace L2
open PySem PySem.Spec PyProof.Rows
inductive V where
 | non | bl (b:Bool) | int (i:Int) | str (x:Str) | byt (b:Array UInt8) | flt (b:UInt64) | ref (a:Addr) | ty (n:String)
 deriving DecidableEq
noncomputable def RelV:V->Value->Prop
 | .non,u=>u=Value.none
 | .bl b,u=>u=Value.bool b
 | .int i,u=>∃ t,u=Value.int i t
 | .str x,u=>∃ t,u=Value.str x t
 | .byt b,u=>∃ t,u=Value.bytes b t
 | .flt b,u=>∃ t,u=Value.float b t
 | .ref a,u=>u=Value.ref a
 | .ty n,u=>u=Value.type n
noncomputable abbrev Vals:List V->List Value->Prop:=Paired RelV
theorem Vals.length {xs:List V} {us:List Value} (r:Vals xs us):xs.length=us.length:=Paired.length r
theorem Vals.get:∀ {xs:List V} {us:List Value} {i:Nat} {x:V},Vals xs us->xs[i]?=some x->∃ u,us[i]?=some u/\RelV x u
 | _,_,_,_,.nil,e=>by simp at e
 | _,_,0,_,.cons r _,e=>by simp at e; subst e; exact ⟨_,rfl,r⟩
 | _,_,i+1,x,.cons _ t,e=>by
  obtain ⟨u,h1,h2⟩:=Vals.get (i:=i) (x:=x) t (by simpa using e)
  exact ⟨u,by simpa using h1,h2⟩
theorem Vals.set {x:V} {u:Value} (r:RelV x u):∀ {xs:List V} {us:List Value} (i:Nat),Vals xs us->Vals (xs.set i x) (us.set i u)
 | _,_,_,.nil=>.nil
 | _,_,0,.cons _ t=>.cons r t
 | _,_,i+1,.cons q t=>.cons q (Vals.set r i t)
theorem Vals.append:∀ {xs ys:List V} {us ws:List Value},Vals xs us->Vals ys ws->Vals (xs ++ ys) (us ++ ws)
 | _,_,_,_,.nil,s=>s
 | _,_,_,_,.cons r t,s=>.cons r (Vals.append t s)
theorem Vals.take:∀ {xs:List V} {us:List Value} (n:Nat),Vals xs us->Vals (xs.take n) (us.take n)
 | _,_,0,_=>.nil
 | _,_,_+1,.nil=>.nil
 | _,_,n+1,.cons r t=>.cons r (Vals.take n t)
theorem Vals.drop:∀ {xs:List V} {us:List Value} (n:Nat),Vals xs us->Vals (xs.drop n) (us.drop n)
 | _,_,0,r=>r
 | _,_,_+1,.nil=>.nil
 | _,_,n+1,.cons _ t=>Vals.drop n t
noncomputable def RelO:Option V->Option Value->Prop
 | some v,some u=>RelV v u
 | none,none=>True
 | _,_=>False
noncomputable def KV {κ:Type}:List (κ × V)->List (κ × Value)->Prop:=Paired fun (p:κ × V) (q:κ × Value)=>p.1=q.1/\RelV p.2 q.2
noncomputable def kV:Key->V
 | .inl i=>.int i
 | .inr x=>.str x
inductive HO where
  | lst (xs:List V)
  | tup (xs:List V)
  | dK (kvs:List (Key × V)) | dT (kvs:List (List Key × V))
  | set (S:Int->Bool) (n:Nat)
  | ins (C dx:Addr) (fs:List (Str × V))
  | own (x:Addr)
  | xd (fs:List (Str × V))
  | met (f x:Addr)
  | rng (lo hi:Int)
  | frz (o:Obj) (u:HO)
  | tbl (ps:Array Value)
  | ext (φ:Heap->Prop)
noncomputable abbrev Hp:=Addr->Option HO
noncomputable def upd (H:Hp) (a:Addr) (o:HO):Hp:=fun b=>if b=a then some o else H b
theorem upd_same {H:Hp} {a:Addr} {o:HO}:upd H a o a=some o:=by unfold upd; rw [if_pos rfl]
theorem upd_ne {H:Hp} {a b:Addr} {o:HO} (h:b ≠ a):upd H a o b=H b:=by unfold upd; rw [if_neg h]
theorem ne_of_none {H:Hp} {a b:Addr} {o:HO} (h:H a=some o) (h':H b=none):a ≠ b:=by
 intro e; subst e; rw [h] at h'; cases h'
section
variable (P:Program) (w:World)
noncomputable def ObjOk (H:Hp) (h:Heap) (a:Addr):HO->Prop
 | .lst xs=>xs.length<=sizeLine/\∃ (its:List Value) (n:Nat),Vals xs its/\h.get? a=some { cls:=.type "list",data:=.seq its.toArray n }
 | .tup xs=>xs.length<=sizeLine/\∃ its:List Value,Vals xs its/\IsTup h a its.toArray
 | .dK kvs=>kvs.length<=sizeLine/\(a == sysModules)=false/\∃ vs,KV kvs vs/\h.DictOf (mixKind P w) a vs
 | .dT kvs=>kvs.length<=sizeLine/\(a == sysModules)=false/\∃ xs:List (List Key × Addr × Value),
   Paired (fun (p:List Key × V) (q:List Key × Addr × Value)=>p.1=q.1/\H q.2.1=some (.tup (p.1.map kV))/\RelV p.2 q.2.2) kvs xs /\
   ∃ o es ep,h.get? a=some o/\o.ExactDict/\o.data=.dict es ep/\es.toList=xs.map (entryOfKey (tupleKind (mixKind P w)))/\(xs.map (·.1)).Nodup
 | .set S n=>h.SetOf (intKind P w) a S n
 | .ins C dx fs=>H dx=some (.own a)/\fs.length<=1000/\dx ≠ a/\h.get? a=some (PySem.W.instObj C dx) /\
   ∃ mA,h.Ns1 dx mA/\(∀ f,RelO (fs.lookup f) (mA f))/\PySem.Within mA (fs.map (·.1))
 | .own _=>∃ o,h.get? a=some o
 | .xd fs=>∃ mA,h.Ns1 a mA/\∀ f,RelO (fs.lookup f) (mA f)
 | .rng lo hi=>∃ t u v,h.get? a=some { cls:=.type "range",data:=.fields #[.int lo t,.int hi u,.int 1 v] }
 | .frz o u=>h.get? a=some o/\ObjOk H h a u
 | .tbl ps=>h.get? a=some { cls:=.none,data:=.fields ps }
 | .met f x=>h.get? a=some (PySem.W.methodObj (.ref f) (.ref x))
 | .ext φ=>φ h/\(∃ o,h.get? a=some o)/\∀ h1 h2:Heap,φ h1->(∀ o,h1.get? a=some o->h2.get? a=some o)->φ h2
noncomputable def HOk (H:Hp) (h:Heap):Prop:=∀ a o,H a=some o->ObjOk P w H h a o
end
section
variable {P:Program} {w:World} {H H':Hp} {h h':Heap} {a:Addr} {o:HO}
theorem ObjOk.lt (x:ObjOk P w H h a o):a < h.objs.size:=by
 cases o with
 | lst xs=>obtain ⟨_,_,_,_,e⟩:=x; exact Heap.lt_size e
 | tup xs=>obtain ⟨_,_,_,p⟩:=x; exact p.lt
 | dK kvs=>obtain ⟨_,_,_,_,o,_,_,e,_⟩:=x; exact Heap.lt_size e
 | dT kvs=>obtain ⟨_,_,_,_,o,_,_,e,_⟩:=x; exact Heap.lt_size e
 | set S n=>obtain ⟨o,_,_,_,e,_⟩:=x; exact Heap.lt_size e
 | ins C dx fs=>obtain ⟨_,_,_,e,_⟩:=x; exact Heap.lt_size e
 | own y=>obtain ⟨_,e⟩:=x; exact Heap.lt_size e
 | xd fs=>obtain ⟨_,⟨_,_,_,e,_⟩,_⟩:=x; exact Heap.lt_size e
 | rng lo hi=>obtain ⟨_,_,_,e⟩:=x; exact Heap.lt_size e
 | frz ob u=>obtain ⟨e,_⟩:=x; exact Heap.lt_size e
 | tbl ps=>exact Heap.lt_size (show h.get? a=some _ from x)
 | met f y=>exact Heap.lt_size (show h.get? a=some _ from x)
 | ext φ=>obtain ⟨_,⟨_,e⟩,_⟩:=x; exact Heap.lt_size e
theorem Paired.mapP {α β:Type} {F G:α->β->Prop}:∀ {l₁:List α} {l₂:List β},Paired F l₁ l₂->(∀ a b,F a b->G a b)->Paired G l₁ l₂
 | _,_,.nil,_=>.nil
 | _,_,.cons r t,f=>.cons (f _ _ r) (Paired.mapP t f)
theorem ObjOk.stay (x:ObjOk P w H h a o) (k:∀ b u,(b=a\/H b=some (.own a))->h.get? b=some u->h'.get? b=some u)
  (ho:∀ b,H b=some (.own a)->H' b=some (.own a)) (ht:∀ b xs,H b=some (.tup xs)->H' b=some (.tup xs)):ObjOk P w H' h' a o:=by
 induction o with
 | lst xs=>obtain ⟨z,its,n,r,e⟩:=x; exact ⟨z,its,n,r,k _ _ (.inl rfl) e⟩
 | tup xs=>obtain ⟨z,its,r,ob,e,c⟩:=x; exact ⟨z,its,r,ob,k _ _ (.inl rfl) e,c⟩
 | dK kvs=>obtain ⟨z,y,vs,r,ob,es,ep,e,c⟩:=x; exact ⟨z,y,vs,r,ob,es,ep,k _ _ (.inl rfl) e,c⟩
 | dT kvs =>
  obtain ⟨z,y,xs,r,ob,es,ep,e,c⟩:=x
  exact ⟨z,y,xs,Paired.mapP r fun p q z=>⟨z.1,ht _ _ z.2.1,z.2.2⟩,ob,es,ep,k _ _ (.inl rfl) e,c⟩
 | set S n=>obtain ⟨ob,es,ep,t,e,c⟩:=x; exact ⟨ob,es,ep,t,k _ _ (.inl rfl) e,c⟩
 | ins C dx fs =>
  obtain ⟨d,z,ne,e,mA,⟨od,es,ep,e2,c⟩,r⟩:=x
  exact ⟨ho _ d,z,ne,k _ _ (.inl rfl) e,mA,⟨od,es,ep,k _ _ (.inr d) e2,c⟩,r⟩
 | own y=>obtain ⟨ob,e⟩:=x; exact ⟨ob,k _ _ (.inl rfl) e⟩
 | xd fs=>obtain ⟨mA,⟨od,es,ep,e,c⟩,r⟩:=x; exact ⟨mA,⟨od,es,ep,k _ _ (.inl rfl) e,c⟩,r⟩
 | rng lo hi=>obtain ⟨t,u,v,e⟩:=x; exact ⟨t,u,v,k _ _ (.inl rfl) e⟩
 | frz ob u ih=>obtain ⟨e,q⟩:=x; exact ⟨k _ _ (.inl rfl) e,ih q⟩
 | tbl ps =>
  have e:h.get? a=some { cls:=.none,data:=.fields ps }:=x
  show h'.get? a=some { cls:=.none,data:=.fields ps }
  exact k a _ (.inl rfl) e
 | met f y =>
  have e:h.get? a=some (PySem.W.methodObj (.ref f) (.ref y)):=x
  show h'.get? a=some (PySem.W.methodObj (.ref f) (.ref y))
  exact k a _ (.inl rfl) e
 | ext φ=>obtain ⟨p,⟨o,e⟩,st⟩:=x; exact ⟨st _ _ p fun o q=>k _ _ (.inl rfl) q,⟨o,k _ _ (.inl rfl) e⟩,st⟩
theorem HOk.lt (x:HOk P w H h) (e:H a=some o):a < h.objs.size:=(x a o e).lt
theorem HOk.fresh (x:HOk P w H h) (e:h.objs.size<=a):H a=none:=by
 cases q:H a with
 | none=>rfl
 | some u=>exact absurd (Nat.lt_of_lt_of_le (x.lt q) e) (Nat.lt_irrefl _)
theorem HOk.kept (x:HOk P w H h) (k:∀ b u,h.get? b=some u->h'.get? b=some u):HOk P w H h':=fun a o e =>
 (x a o e).stay (fun b u _ q=>k b u q) (fun _ q=>q) fun _ _ q=>q
theorem HOk.laid (x:HOk P w H h) (k:∀ b u,h.get? b=some u->h'.get? b=some u) (hp:h.objs.size<=a) (new:ObjOk P w (upd H a o) h' a o):HOk P w (upd H a o) h':=fun b u e=>by
 have hn:=x.fresh hp
 by_cases hb:b=a
 ·subst hb; rw [upd_same] at e; cases e; exact new
 ·rw [upd_ne hb] at e
  exact (x b u e).stay (fun c v _ q=>k c v q) (fun c q=>by rw [upd_ne (ne_of_none q hn)]; exact q) fun c xs q=>by rw [upd_ne (ne_of_none q hn)]; exact q
end
noncomputable def Rd (H:Hp) (a:Addr) (u:HO):Prop:=H a=some u\/∃ o,H a=some (.frz o u)
theorem Rd.ok {P:Program} {w:World} {H:Hp} {h:Heap} {a:Addr} {u:HO} (r:Rd H a u) (x:HOk P w H h):ObjOk P w H h a u:=by
 rcases r with r | ⟨o,r⟩
 ·exact x a u r
 ·obtain ⟨_,q⟩:=x a _ r
  exact q
noncomputable def Mut:Option HO->Prop
 | some (.lst _)=>True
 | some (.dK _)=>True
 | some (.dT _)=>True
 | some (.set _ _)=>True
 | some (.ins _ _ _)=>True
 | some (.ext _)=>True
 | _=>False
section
variable {P:Program} {w:World} {H:Hp} {h h':Heap} {x e:Addr} {o':HO}
theorem HOk.write (ok:HOk P w H h) (mu:Mut (H x)) (he:e=x\/H e=some (.own x)) (k:∀ b u,b ≠ e->h.get? b=some u->h'.get? b=some u) (heo:∃ u,h'.get? e=some u)
  (new:ObjOk P w (upd H x o') h' x o'):HOk P w (upd H x o') h':=fun b u q=>by
 have nown:∀ c y,H c=some (.own y)->c ≠ x:=fun c y r z=>by subst z; rw [r] at mu; exact mu
 have ntup:∀ c xs,H c=some (.tup xs)->c ≠ x:=fun c xs r z=>by subst z; rw [r] at mu; exact mu
 by_cases hb:b=x
 ·subst hb; rw [upd_same] at q; cases q; exact new
 ·rw [upd_ne hb] at q
  by_cases hbe:b=e
  ·have q':H b=some (.own x):=by
    rcases he with z | z
    ·exact absurd (hbe.trans z) hb
    ·rw [hbe]; exact z
   rw [q] at q'; cases q'
   obtain ⟨v,hv⟩:=heo
   exact ⟨v,by rw [hbe]; exact hv⟩
  ·refine (ok b u q).stay (fun c v hc r=>k c v ?_ r) (fun c r=>by rw [upd_ne (nown c b r)]; exact r) fun c xs r=>by rw [upd_ne (ntup c xs r)]; exact r
   rcases hc with rfl | hc
   ·exact hbe
   ·rintro rfl
    rcases he with z | z
    ·exact nown c b hc z
    ·rw [hc] at z; cases z; exact hb rfl
end
structure Un (fs ex:List Addr) (H H':Hp) (h h':Heap):Prop where
 keep:∀ b o,h.get? b=some o->H b=none->b ∉ fs->b ∉ ex->h'.get? b=some o
 slot:∀ b o,h.get? b=some o->H b=none->b∈fs->b ∉ ex->∃ sl,h'.get? b=some { o with slots:=sl }
 free:∀ b o,h.get? b=some o->H b=none->b ∉ ex->H' b=none
 there:∀ b o,h.get? b=some o->b ∉ ex->∃ o',h'.get? b=some o'
 tups:∀ b xs,H b=some (.tup xs)->H' b=some (.tup xs)
 frzs:∀ b o u,H b=some (.frz o u)->H' b=some (.frz o u)
 tbls:∀ b ps,H b=some (.tbl ps)->∃ more,H' b=some (.tbl (ps ++ more))
section
variable {fs fs' ex ex':List Addr} {H H1 H2:Hp} {h h1 h2 h':Heap} {a x e:Addr} {o:HO}
theorem Un.any (u:Un fs ex H H1 h h1) {b:Addr} {ob:Obj} (q:h.get? b=some ob) (n:H b=none) (hx:b ∉ ex):∃ sl,h1.get? b=some { ob with slots:=sl }:=by
 by_cases hb:b∈fs
 ·exact u.slot b ob q n hb hx
 ·exact ⟨ob.slots,u.keep b ob q n hb hx⟩
theorem Un.kept (k:∀ b u,h.get? b=some u->h'.get? b=some u):Un fs ex H H h h' :=
 ⟨fun b ob q _ _ _=>k b ob q,fun b ob q _ _ _=>⟨ob.slots,k b ob q⟩,fun _ _ _ n _=>n,fun b ob q _=>⟨ob,k b ob q⟩,fun _ _ q=>q,fun _ _ _ q=>q,fun _ ps q=>⟨#[],by rw [q]; simp⟩⟩
theorem Un.refl:Un fs ex H H h h:=Un.kept fun _ _ q=>q
theorem Un.laid (k:∀ b u,h.get? b=some u->h'.get? b=some u) (hp:h.objs.size<=a) (hn:H a=none):Un fs ex H (upd H a o) h h' where
 keep:=fun b u q _ _ _=>k b u q
 slot:=fun b u q _ _ _=>⟨u.slots,k b u q⟩
 free:=fun b u q n _=>by rw [upd_ne (Nat.ne_of_lt (Nat.lt_of_lt_of_le (Heap.lt_size q) hp))]; exact n
 there:=fun b u q _=>⟨u,k b u q⟩
 tups:=fun b xs q=>by rw [upd_ne (ne_of_none q hn)]; exact q
 frzs:=fun b u xs q=>by rw [upd_ne (ne_of_none q hn)]; exact q
 tbls:=fun b ps q=>⟨#[],by rw [upd_ne (ne_of_none q hn),q]; simp⟩
theorem Un.write (mu:Mut (H x)) (he:e=x\/H e=some (.own x)) (k:∀ b u,b ≠ e->h.get? b=some u->h'.get? b=some u) (heo:∃ u,h'.get? e=some u):Un fs ex H (upd H x o) h h':=by
 have hx:∀ b,H b=none->b ≠ x:=fun b n z=>by subst z; rw [n] at mu; exact mu
 have hb:∀ b,H b=none->b ≠ e:=fun b n z=>by
  subst z
  rcases he with r | r
  ·exact hx b n r
  ·rw [n] at r; cases r
 have hm:∀ b u,H b=some u->¬ Mut (some u)->b ≠ x:=fun b u q nm z=>by subst z; rw [q] at mu; exact nm mu
 refine ⟨fun b u q n _ _=>k b u (hb b n) q,fun b u q n _ _=>⟨u.slots,k b u (hb b n) q⟩,fun b u q n _=>by rw [upd_ne (hx b n)]; exact n,fun b u q _=>?_,
  fun b xs q=>by rw [upd_ne (hm b _ q fun z=>z)]; exact q,fun b u xs q=>by rw [upd_ne (hm b _ q fun z=>z)]; exact q,fun b ps q=>⟨#[],by rw [upd_ne (hm b _ q fun z=>z),q]; simp⟩⟩
 by_cases hbe:b=e
 ·subst hbe; exact heo
 ·exact ⟨u,k b u hbe q⟩
end
noncomputable def trk (h:Heap) (H:Hp):List Addr:=(List.range h.objs.size).filter fun a=>(H a).isSome
noncomputable def hidT (h:Heap) (H:Hp):Heap:=PySem.W.hideAll h (trk h H)
theorem hidT_size (h:Heap) (H:Hp):(hidT h H).objs.size=h.objs.size:=PySem.W.hideAll_size _ _
theorem hidT_get {h:Heap} {H:Hp} {b:Addr} {o:Obj} (e:h.get? b=some o) (n:H b=none):(hidT h H).get? b=some o :=
 PySem.W.hideAll_get _ e fun hm=>by
  have q:(H b).isSome=true:=(List.mem_filter.mp hm).2
  rw [n] at q; simp at q
theorem of_hidT {h:Heap} {H:Hp} {b:Addr} {o:Obj} (e:(hidT h H).get? b=some o):h.get? b=some o/\H b=none:=by
 have e':h.get? b=some o:=PySem.W.of_hideAll (trk h H) e
 refine ⟨e',?_⟩
 cases q:H b with
 | none=>rfl
 | some x =>
  have hm:b∈trk h H:=List.mem_filter.mpr ⟨List.mem_range.mpr (Heap.lt_size e'),by simp [q]⟩
  have z:(hidT h H).get? b=none:=PySem.W.hideAll_none (trk h H) hm
  rw [z] at e; cases e
noncomputable def allNews (g h:Heap) (L:Addr):List (Addr × Obj):=(List.range h.objs.size).filterMap fun a=>if a=L\/(g.get? a).isSome=true then none else (h.get? a).map fun o=>(a,o)
noncomputable def rest (g h:Heap) (L d:Addr):List (Addr × Obj):=(allNews g h L).filter fun p=>decide (p.1 ≠ d)
end L2
namespace L2
open PySem PySem.Spec PyProof.Rows
structure Mod (K:PySem.W.Frag) (mg:Str->Option Value) (base:Heap):Prop where
 kin:K.In base
 glob:base.Ns mainGlobals mg
 blt:∃ mb,base.Ns builtinsNs mb/\∀ x:Str,x ≠ "__name__" -> mb x=bootBuiltins x
 nolimit:base.NoLimit
structure Cx where
 prog:Program
 w:World
 K:PySem.W.Frag
 mg:Str->Option Value
 base:Heap
 A:Around
 N:List Str
 s₀:Shared
 H₀:Hp
 env:Env
 outer:List Env
 stack:List Env
 ex:List Addr
 fn:Str->Bool
 calm:Bool
 pn:List (Addr × Obj)
 xe:Value->Shared->Prop
noncomputable def frs (l:List Env):List Addr:=l.filterMap (·.frame)
noncomputable abbrev Cx.fs (X:Cx):List Addr:=frs X.outer
noncomputable def Vis (sc:Scope) (x:Str):Prop:=sc.names.lookup x=some .local\/sc.names.lookup x=some .cell\/sc.names.lookup x=some .free
noncomputable def Loc (sc:Scope) (x:Str):Prop:=sc.names.lookup x=some .local\/sc.names.lookup x=some .cell
noncomputable def Look (env:Env) (h:Heap) (m:Str->Option Value) (x:Str) (u:Value):Prop :=
 (env.kindOf x=some .local/\m x=some u)\/((env.kindOf x=some .cell\/env.kindOf x=some .free)/\∃ c,env.cells.lookup x=some c/\h.IsCell c (some u))
structure Cx.Ok (X:Cx):Prop where
 mod:Mod X.K X.mg X.base
 kind:X.env.scope.kind=.function
 glob:X.env.globals=mainGlobals
 blt:X.env.builtins=builtinsNs
 above:X.s₀.heap.objs.size<=X.env.locals
 inj:∀ x y c,X.env.cells.lookup x=some c->X.env.cells.lookup y=some c->x=y
 has:∀ x,(X.env.kindOf x=some .cell\/X.env.kindOf x=some .free)->∃ c,X.env.cells.lookup x=some c
 cab:∀ x c,X.fn x=true->X.env.cells.lookup x=some c->X.s₀.heap.objs.size<=c
 hd:X.calm=true->X.A.handled=none
 frames:X.A.frames=some X.stack
 stk:X.stack=X.outer\/(X.stack=X.env :: X.outer/\X.env.frame=some X.env.locals)
 exf:∀ b∈X.ex,b ≠ X.env.locals/\∀ x c,X.env.cells.lookup x=some c->c ≠ b
 bs:∀ b o,X.base.get? b=some o->X.s₀.heap.get? b=some o/\X.H₀ b=none
 bsz:X.base.objs.size<=X.s₀.heap.objs.size
 noex:∀ b o,X.base.get? b=some o->b ∉ X.ex
 exfs:∀ b∈X.ex,b ∉ X.fs
 funs:X.s₀.heap.FunFrames X.base X.outer
 frf:∀ b∈X.fs,X.H₀ b=none
structure Inv (X:Cx) (pins:List (Addr × Obj)) (σ:List (Option V)) (H:Hp) (s:Shared):Prop where
 ok:X.Ok
 os:s.os=X.s₀.os
 bare:AllBare s.gens
 base:Un X.fs X.ex X.H₀ H X.s₀.heap s.heap
 loc:∃ m,s.heap.Ns X.env.locals m/\∀ (i:Nat) (x:Str) (v:V),X.N[i]?=some x->σ[i]?=some (some v)->Vis X.env.scope x->∃ u,RelV v u/\Look X.env s.heap m x u
 cell:∀ x c,X.env.cells.lookup x=some c->∃ v,s.heap.IsCell c v
 free:H X.env.locals=none
 freeC:∀ x c,X.env.cells.lookup x=some c->H c=none
 pin:∀ p∈X.pn ++ pins,s.heap.get? p.1=some p.2/\H p.1=none/\p.1 ≠ X.env.locals/\p.1 ∉ X.fs/\∀ v,p.2.data ≠ .cell v
 hok:HOk X.prog X.w H s.heap
 len:σ.length=X.N.length
section
variable {X:Cx} {pins:List (Addr × Obj)} {σ:List (Option V)} {H H':Hp} {s:Shared} {h':Heap}
theorem Cx.Ok.nofr (ok:X.Ok) {b:Addr} {o:Obj} (e:X.base.get? b=some o):b ∉ X.fs:=fun hb=>by
 have:=(ok.funs.mem hb).1
 rw [e] at this; cases this
theorem Inv.bs (I:Inv X pins σ H s):∀ b o,X.base.get? b=some o->s.heap.get? b=some o/\H b=none:=fun b o e =>
 ⟨I.base.keep b o (I.ok.bs b o e).1 (I.ok.bs b o e).2 (I.ok.nofr e) (I.ok.noex b o e),I.base.free b o (I.ok.bs b o e).1 (I.ok.bs b o e).2 (I.ok.noex b o e)⟩
theorem Inv.bk (I:Inv X pins σ H s):∀ b o,X.base.get? b=some o->s.heap.get? b=some o:=fun b o e=>(I.bs b o e).1
theorem Inv.mod (I:Inv X pins σ H s):Mod X.K X.mg X.base:=I.ok.mod
theorem Inv.kIn (I:Inv X pins σ H s):X.K.In s.heap:=I.ok.mod.kin.keeps I.bk
theorem Inv.lt (I:Inv X pins σ H s):X.env.locals < s.heap.objs.size:=let ⟨_,hn,_⟩:=I.loc; hn.lt
theorem Inv.sz (I:Inv X pins σ H s):X.s₀.heap.objs.size<=s.heap.objs.size:=Nat.le_trans I.ok.above (Nat.le_of_lt I.lt)
theorem Inv.nofs (I:Inv X pins σ H s) {a:Addr} (h:s.heap.objs.size<=a):a ∉ X.fs:=fun hb=>by
 obtain ⟨_,o,ho,_⟩:=I.ok.funs.mem hb
 exact absurd (Nat.lt_of_lt_of_le (Heap.lt_size ho) (Nat.le_trans I.sz h)) (Nat.lt_irrefl _)
theorem Inv.cne (I:Inv X pins σ H s):∀ x c,X.env.cells.lookup x=some c->c ≠ X.env.locals:=fun x c e z=>by
 obtain ⟨v,o,ho,hd⟩:=I.cell x c e
 obtain ⟨m,⟨o',es,ep,ho',hd',_⟩,_⟩:=I.loc
 rw [z,ho'] at ho; cases ho; rw [hd'] at hd; cases hd
theorem Inv.funs (I:Inv X pins σ H s):s.heap.FunFrames X.base X.outer:=by
 have all:∀ (l:List Env),(∀ b∈frs l,b∈X.fs)->X.s₀.heap.FunFrames X.base l->s.heap.FunFrames X.base l:=by
  intro l
  induction l with
  | nil=>intro _ _; trivial
  | cons env r ih =>
   intro hs hl
   obtain ⟨hk,⟨L,o,hf,hn,ho,hd⟩,hr⟩:=hl
   have hL:L∈X.fs:=hs L (by unfold frs; rw [List.filterMap_cons,hf]; exact List.mem_cons_self)
   obtain ⟨sl,e⟩:=I.base.slot L o ho (I.ok.frf L hL) hL fun z=>I.ok.exfs L z hL
   exact ⟨hk,⟨L,_,hf,hn,e,hd⟩,ih (fun b hb=>hs b (by unfold frs; rw [List.filterMap_cons,hf]; exact List.mem_cons_of_mem _ hb)) hr⟩
 exact all X.outer (fun _ hb=>hb) I.ok.funs
theorem Inv.stack (I:Inv X pins σ H s):s.heap.FunFrames X.base X.stack:=by
 rcases I.ok.stk with e | ⟨e,hf⟩
 ·rw [e]; exact I.funs
 ·rw [e]
  obtain ⟨m,hn,_⟩:=I.loc
  refine .cons (by rw [I.ok.kind]; decide) hf hn ?_ I.funs
  exact Heap.get?_none_of_le (Nat.le_trans I.ok.bsz I.ok.above)
theorem Inv.stkSub (I:Inv X pins σ H s):∀ b∈frs X.stack,b∈X.env.locals :: X.fs:=fun b hb=>by
 rcases I.ok.stk with e | ⟨e,hf⟩
 ·rw [e] at hb; exact List.mem_cons_of_mem _ hb
 ·rw [e] at hb
  unfold frs at hb
  rw [List.filterMap_cons,hf] at hb
  exact hb
theorem Inv.stkFree (I:Inv X pins σ H s):∀ b∈frs X.stack,H b=none:=fun b hb=>by
 rcases List.mem_cons.mp (I.stkSub b hb) with e | hb
 ·rw [e]; exact I.free
 ·obtain ⟨_,o,ho,_⟩:=I.ok.funs.mem hb
  exact I.base.free b o ho (I.ok.frf b hb) fun z=>I.ok.exfs b z hb
theorem Inv.step {g':Array GenState} {t':Nat} {d':Drawn} {ch:List Addr} (I:Inv X pins σ H s)
  (hch:∀ b∈ch,(b∈X.ex\/X.s₀.heap.objs.size<=b)/\b ≠ X.env.locals/\(∀ x c,X.env.cells.lookup x=some c->c ≠ b)/\∀ p∈X.pn ++ pins,p.1 ≠ b)
  (keep:∀ b o,b ≠ X.env.locals->b ∉ X.fs->b ∉ ch->s.heap.get? b=some o->H b=none->h'.get? b=some o)
  (slot:∀ b o,b ≠ X.env.locals->b∈X.fs->b ∉ ch->s.heap.get? b=some o->H b=none->∃ sl,h'.get? b=some { o with slots:=sl }) (free:∀ b o,b ∉ ch->s.heap.get? b=some o->H b=none->H' b=none)
  (there:∀ b o,b ∉ ch->s.heap.get? b=some o->∃ o',h'.get? b=some o')
  (tups:∀ b xs,H b=some (.tup xs)->H' b=some (.tup xs)) (frzs:∀ b o u,H b=some (.frz o u)->H' b=some (.frz o u)) (tbls:∀ b ps,H b=some (.tbl ps)->∃ more,H' b=some (.tbl (ps ++ more)))
  (ns:∀ m,s.heap.Ns X.env.locals m->h'.Ns X.env.locals m) (hok:HOk X.prog X.w H' h') (hg:AllBare g') :
  Inv X pins σ H' { s with heap:=h',gens:=g',drawn:=d',toks:=t' }:=by
 have neL:∀ b o,X.s₀.heap.get? b=some o->b ≠ X.env.locals:=fun b o e=>Nat.ne_of_lt (Nat.lt_of_lt_of_le (Heap.lt_size e) I.ok.above)
 have neC:∀ b o,X.s₀.heap.get? b=some o->b ∉ X.ex->b ∉ ch:=fun b o e hx hb=>by
  rcases (hch b hb).1 with z | z
  ·exact hx z
  ·exact absurd (Nat.lt_of_lt_of_le (Heap.lt_size e) z) (Nat.lt_irrefl _)
 have cellK:∀ x c,X.env.cells.lookup x=some c->∀ v,s.heap.IsCell c v->h'.IsCell c v:=fun x c e v ⟨o,ho,hd⟩=>by
  have nch:c ∉ ch:=fun z=>(hch c z).2.2.1 x c e rfl
  by_cases hc:c∈X.fs
  ·obtain ⟨sl,q⟩:=slot c o (I.cne x c e) hc nch ho (I.freeC x c e)
   exact ⟨_,q,hd⟩
  ·exact ⟨o,keep c o (I.cne x c e) hc nch ho (I.freeC x c e),hd⟩
 refine ⟨I.ok,I.os,hg,⟨fun b o e n hb hx=>?_,fun b o e n hb hx=>?_,fun b o e n hx=>?_,fun b o e hx=>?_,fun b xs e=>tups b xs (I.base.tups b xs e),fun b o xs e=>frzs b o xs (I.base.frzs b o xs e),fun b ps e=>?_⟩,?_,fun x c e=>?_,?_,fun x c e=>?_,fun p hp=>?_,hok,I.len⟩
 ·exact keep b o (neL b o e) hb (neC b o e hx) (I.base.keep b o e n hb hx) (I.base.free b o e n hx)
 ·obtain ⟨sl,e1⟩:=I.base.slot b o e n hb hx
  obtain ⟨sl',e2⟩:=slot b _ (neL b o e) hb (neC b o e hx) e1 (I.base.free b o e n hx)
  exact ⟨sl',e2⟩
 ·obtain ⟨o',e1⟩:=I.base.there b o e hx
  exact free b o' (neC b o e hx) e1 (I.base.free b o e n hx)
 ·obtain ⟨o',e1⟩:=I.base.there b o e hx
  exact there b o' (neC b o e hx) e1
 ·obtain ⟨m1,e1⟩:=I.base.tbls b ps e
  obtain ⟨m2,e2⟩:=tbls b _ e1
  exact ⟨m1 ++ m2,by rw [e2,Array.append_assoc]⟩
 ·obtain ⟨m,hn,hl⟩:=I.loc
  refine ⟨m,ns m hn,fun i x v e1 e2 e3=>?_⟩
  obtain ⟨u,r,l⟩:=hl i x v e1 e2 e3
  refine ⟨u,r,?_⟩
  rcases l with l | ⟨k,c,e,z⟩
  ·exact .inl l
  ·exact .inr ⟨k,c,e,cellK x c e _ z⟩
 ·obtain ⟨v,z⟩:=I.cell x c e
  exact ⟨v,cellK x c e v z⟩
 ·obtain ⟨m,⟨o,_,_,ho,_⟩,_⟩:=I.loc
  exact free _ o (fun z=>(hch _ z).2.1 rfl) ho I.free
 ·obtain ⟨v,o,ho,hd⟩:=I.cell x c e
  exact free c o (fun z=>(hch c z).2.2.1 x c e rfl) ho (I.freeC x c e)
 ·obtain ⟨e,n,ne,nf,d⟩:=I.pin p hp
  have nch:p.1 ∉ ch:=fun z=>(hch p.1 z).2.2.2 p hp rfl
  exact ⟨keep p.1 p.2 ne nf nch e n,free p.1 p.2 nch e n,ne,nf,d⟩
theorem Inv.un {t':Nat} (I:Inv X pins σ H s) (u:Un X.fs [] H H' s.heap h') (hok:HOk X.prog X.w H' h'):Inv X pins σ H' { s with heap:=h',toks:=t' }:=by
 obtain ⟨m,⟨o,es,ep,ho,r⟩,_⟩:=id I.loc
 obtain ⟨sl,hL⟩:=u.any ho I.free (by simp)
 exact I.step (g':=s.gens) (d':=s.drawn) (ch:=[]) (fun _ z=>nomatch z) (fun b o _ hb _ e n=>u.keep b o e n hb (by simp)) (fun b o _ hb _ e n=>u.slot b o e n hb (by simp)) (fun b o _ e n=>u.free b o e n (by simp)) (fun b o _ e=>u.there b o e (by simp)) u.tups u.frzs u.tbls (fun m' hm=>by
  obtain ⟨o',es',ep',ho',r'⟩:=hm
  rw [ho] at ho'; cases ho'
  exact ⟨_,es',ep',hL,r'⟩) hok I.bare
theorem Inv.call {g':Array GenState} {t':Nat} {d':Drawn} {ch:List Addr} (I:Inv X pins σ H s) (u:Un (frs X.stack) ch H H' s.heap h') (hok:HOk X.prog X.w H' h') (hg:AllBare g')
  (hch:∀ b∈ch,(b∈X.ex\/X.s₀.heap.objs.size<=b)/\b ≠ X.env.locals/\(∀ x c,X.env.cells.lookup x=some c->c ≠ b)/\∀ p∈X.pn ++ pins,p.1 ≠ b) :
  Inv X pins σ H' { s with heap:=h',gens:=g',drawn:=d',toks:=t' }:=by
 obtain ⟨m,⟨o,es,ep,ho,r⟩,_⟩:=id I.loc
 obtain ⟨sl,hL⟩:=u.any ho I.free fun z=>(hch _ z).2.1 rfl
 exact I.step (ch:=ch) hch (fun b o hL hb hc e n=>u.keep b o e n (fun z=>(List.mem_cons.mp (I.stkSub b z)).elim hL hb) hc) (fun b o _ _ hc e n=>u.any e n hc) (fun b o hc e n=>u.free b o e n hc) (fun b o hc e=>u.there b o e hc) u.tups u.frzs u.tbls (fun m' hm=>by
  obtain ⟨o',es',ep',ho',r'⟩:=hm
  rw [ho] at ho'; cases ho'
  exact ⟨_,es',ep',hL,r'⟩) hok hg
theorem Inv.turned {t':Nat} {it:Addr} (I:Inv X pins σ H s) (k:∀ b o,b ≠ it->s.heap.get? b=some o->h'.get? b=some o) (hn:H it=none) (hL:it ≠ X.env.locals)
  (h1:it∈X.ex\/X.s₀.heap.objs.size<=it) (h2:∀ x c,X.env.cells.lookup x=some c->c ≠ it) (h3:∀ p∈X.pn ++ pins,p.1 ≠ it):Inv X pins σ H { s with heap:=h',toks:=t' }:=by
 have nit:∀ b u,H b=some u->b ≠ it:=fun b u e z=>by rw [z,hn] at e; cases e
 refine I.step (g':=s.gens) (d':=s.drawn) (ch:=[it]) (fun b hb=>?_) (fun b o _ _ hc e _=>k b o (fun z=>hc (by simp [z])) e) (fun b o _ _ hc e _=>⟨o.slots,k b o (fun z=>hc (by simp [z])) e⟩) (fun _ _ _ _ n=>n)
  (fun b o hc e=>⟨o,k b o (fun z=>hc (by simp [z])) e⟩) (fun _ _ e=>e) (fun _ _ _ e=>e) (fun b ps e=>⟨#[],by rw [e]; simp⟩) (fun m hm=>?_) (fun b u e=>?_) I.bare
 ·have e:b=it:=by simpa using hb
  subst e
  exact ⟨h1,hL,h2,h3⟩
 ·obtain ⟨o,es,ep,ho,r⟩:=hm
  exact ⟨o,es,ep,k _ o (Ne.symm hL) ho,r⟩
 ·refine (I.hok b u e).stay (fun c v hc q=>k c v ?_ q) (fun _ q=>q) fun _ _ q=>q
  rcases hc with z | z
  ·rw [z]; exact nit b u e
  ·exact nit c _ z
theorem Inv.tok (I:Inv X pins σ H s) (t:Nat):Inv X pins σ H { s with toks:=t }:=I.un (h':=s.heap) (t':=t) Un.refl I.hok
theorem Inv.kept {t':Nat} (I:Inv X pins σ H s) (k:∀ b u,s.heap.get? b=some u->h'.get? b=some u):Inv X pins σ H { s with heap:=h',toks:=t' }:=I.un (Un.kept k) (I.hok.kept k)
theorem Inv.laid {a:Addr} {o:HO} {t':Nat} (I:Inv X pins σ H s) (k:∀ b u,s.heap.get? b=some u->h'.get? b=some u) (hp:s.heap.objs.size<=a) (new:ObjOk X.prog X.w (upd H a o) h' a o) :
  Inv X pins σ (upd H a o) { s with heap:=h',toks:=t' }:=I.un (Un.laid k hp (I.hok.fresh hp)) (I.hok.laid k hp new)
theorem Inv.write {x e:Addr} {o:HO} {t':Nat} (I:Inv X pins σ H s) (mu:Mut (H x)) (he:e=x\/H e=some (.own x)) (k:∀ b u,b ≠ e->s.heap.get? b=some u->h'.get? b=some u) (heo:∃ u,h'.get? e=some u)
  (new:ObjOk X.prog X.w (upd H x o) h' x o):Inv X pins σ (upd H x o) { s with heap:=h',toks:=t' }:=I.un (Un.write mu he k heo) (I.hok.write mu he k heo new)
theorem Inv.weak {σ':List (Option V)} (I:Inv X pins σ H s) (hl:σ'.length=σ.length) (w:∀ (i:Nat) v,σ'[i]?=some (some v)->σ[i]?=some (some v)):Inv X pins σ' H s :=
 ⟨I.ok,I.os,I.bare,I.base,let ⟨m,hn,hl'⟩:=I.loc; ⟨m,hn,fun i x v e1 e2 e3=>hl' i x v e1 (w i v e2) e3⟩,I.cell,I.free,I.freeC,I.pin,I.hok,hl.trans I.len⟩
theorem Inv.pins_of {pins':List (Addr × Obj)} (I:Inv X pins σ H s) (h:∀ p∈pins',s.heap.get? p.1=some p.2/\H p.1=none/\p.1 ≠ X.env.locals/\p.1 ∉ X.fs/\∀ v,p.2.data ≠ .cell v):Inv X pins' σ H s :=
 ⟨I.ok,I.os,I.bare,I.base,I.loc,I.cell,I.free,I.freeC,fun p hp=>(List.mem_append.mp hp).elim (fun z=>I.pin p (List.mem_append_left _ z)) (h p),I.hok,I.len⟩
theorem nodup_ix {N:List Str} (hN:N.Nodup) {i j:Nat} {x:Str} (a:N[i]?=some x) (b:N[j]?=some x):i=j:=by
 obtain ⟨h1,e1⟩:=List.getElem?_eq_some_iff.mp a
 obtain ⟨h2,e2⟩:=List.getElem?_eq_some_iff.mp b
 exact (List.getElem_inj hN).mp (e1.trans e2.symm)
theorem store_ok2 {M:Model} {A:Around} {E:Value->Shared->Prop} {i:Nat} {x:Str} {v:V} {u:Value} {Q:Unit->Shared->Prop} (I:Inv X pins σ H s) (hN:X.N.Nodup) (hi:X.N[i]?=some x) (hx:Loc X.env.scope x) (r:RelV v u)
  (h:∀ s',Inv X pins (σ.set i (some v)) H s'->(∃ a,Heap.SameBut a s.heap s'.heap/\(a=X.env.locals\/X.env.cells.lookup x=some a))->Q () s') (hf:X.fn x=true\/X.env.scope.names.lookup x=some .local:=by first | exact .inl rfl | exact .inr rfl | assumption):wpAny M A (storeName X.env x u) Q E s:=by
 obtain ⟨m,hn,hl⟩:=id I.loc
 have hcls:(X.env.scope.kind == .class || (X.env.scope.kind == .module && X.env.locals != X.env.globals))=false:=by rw [I.ok.kind]; rfl
 have hiσ:i < σ.length:=by rw [I.len]; exact (List.getElem?_eq_some_iff.mp hi).1
 have cne:=I.cne
 have tracked:∀ {a:Addr} {h':Heap},(∃ o,s.heap.get? a=some o/\H a=none)->Heap.SameBut a s.heap h'->HOk X.prog X.w H h':=fun {a h'} ha hs b ob e=>by
  obtain ⟨_,_,hfree⟩:=ha
  refine (I.hok b ob e).stay (fun c w' hc q=>(hs.2 c ?_).trans q) (fun _ q=>q) fun _ _ q=>q
  rintro rfl
  rcases hc with rfl | hc
  ·rw [hfree] at e; cases e
  ·rw [hfree] at hc; cases hc
 rcases hx with hk | hk
 ·refine wpAny_storeName_local hk hn (fun h' hn' hs=>?_) hcls
  obtain ⟨oL,_,_,hoL,_⟩:=id hn
  refine h _ ⟨I.ok,I.os,I.bare,⟨fun b o e n hb hx=>?_,fun b o e n hb hx=>?_,I.base.free,fun b o e hx=>?_,I.base.tups,I.base.frzs,I.base.tbls⟩,⟨_,hn',fun j y v' e1 e2 e3=>?_⟩,fun y c e=>?_,I.free,I.freeC,fun p hp=>?_,tracked ⟨oL,hoL,I.free⟩ hs,by simpa using I.len⟩ ⟨_,hs,.inl rfl⟩
  ·exact (hs.2 b (Nat.ne_of_lt (Nat.lt_of_lt_of_le (Heap.lt_size e) I.ok.above))).trans (I.base.keep b o e n hb hx)
  ·obtain ⟨sl,e1⟩:=I.base.slot b o e n hb hx
   exact ⟨sl,(hs.2 b (Nat.ne_of_lt (Nat.lt_of_lt_of_le (Heap.lt_size e) I.ok.above))).trans e1⟩
  ·obtain ⟨o',e1⟩:=I.base.there b o e hx
   exact ⟨o',(hs.2 b (Nat.ne_of_lt (Nat.lt_of_lt_of_le (Heap.lt_size e) I.ok.above))).trans e1⟩
  ·by_cases hj:j=i
   ·subst hj
    rw [hi] at e1; cases e1
    rw [List.getElem?_set_self hiσ] at e2
    cases e2
    exact ⟨u,r,.inl ⟨hk,by simp⟩⟩
   ·rw [List.getElem?_set_ne (Ne.symm hj)] at e2
    obtain ⟨u',r',q⟩:=hl j y v' e1 e2 e3
    refine ⟨u',r',?_⟩
    rcases q with ⟨k,e⟩ | ⟨k,c,e,z⟩
    ·refine .inl ⟨k,?_⟩
     have:y ≠ x:=fun e=>hj (nodup_ix hN e1 (e ▸ hi))
     simp [this,e]
    ·exact .inr ⟨k,c,e,z.sameBut hs (cne y c e)⟩
  ·obtain ⟨w',z⟩:=I.cell y c e
   exact ⟨w',z.sameBut hs (cne y c e)⟩
  ·obtain ⟨e,n,ne,nf,d⟩:=I.pin p hp
   exact ⟨(hs.2 p.1 ne).trans e,n,ne,nf,d⟩
 ·have hfn:X.fn x=true:=by
   rcases hf with z | z
   ·exact z
   ·rw [z] at hk; cases hk
  obtain ⟨c,hc⟩:=I.ok.has x (.inl hk)
  obtain ⟨w',z⟩:=I.cell x c hc
  refine wpAny_storeName_cell I.ok.kind hk hc z (fun h' hc' hs=>?_)
  obtain ⟨oc,hoc,hocd⟩:=id z
  refine h { s with heap:=h' } ⟨I.ok,I.os,I.bare,⟨fun b o e n hb hx=>?_,fun b o e n hb hx=>?_,I.base.free,fun b o e hx=>?_,I.base.tups,I.base.frzs,I.base.tbls⟩,⟨m,hn.sameBut hs (Ne.symm (cne x c hc)),fun j y v' e1 e2 e3=>?_⟩,fun y c' e=>?_,I.free,I.freeC,fun p hp=>?_,tracked ⟨oc,hoc,I.freeC x c hc⟩ hs,by simpa using I.len⟩ ⟨c,hs,.inr hc⟩
  ·exact (hs.2 b (Nat.ne_of_lt (Nat.lt_of_lt_of_le (Heap.lt_size e) (I.ok.cab x c hfn hc)))).trans (I.base.keep b o e n hb hx)
  ·obtain ⟨sl,e1⟩:=I.base.slot b o e n hb hx
   exact ⟨sl,(hs.2 b (Nat.ne_of_lt (Nat.lt_of_lt_of_le (Heap.lt_size e) (I.ok.cab x c hfn hc)))).trans e1⟩
  ·obtain ⟨o',e1⟩:=I.base.there b o e hx
   exact ⟨o',(hs.2 b (Nat.ne_of_lt (Nat.lt_of_lt_of_le (Heap.lt_size e) (I.ok.cab x c hfn hc)))).trans e1⟩
  ·by_cases hj:j=i
   ·subst hj
    rw [hi] at e1; cases e1
    rw [List.getElem?_set_self hiσ] at e2
    cases e2
    exact ⟨u,r,.inr ⟨.inl hk,c,hc,hc'⟩⟩
   ·rw [List.getElem?_set_ne (Ne.symm hj)] at e2
    obtain ⟨u',r',q⟩:=hl j y v' e1 e2 e3
    refine ⟨u',r',?_⟩
    rcases q with q | ⟨k,c',e,z'⟩
    ·exact .inl q
    ·refine .inr ⟨k,c',e,z'.sameBut hs ?_⟩
     rintro rfl
     exact hj (nodup_ix hN e1 (I.ok.inj _ _ _ e hc ▸ hi))
  ·by_cases hcc:c'=c
   ·subst hcc; exact ⟨_,hc'⟩
   ·obtain ⟨w2,z2⟩:=I.cell y c' e
    exact ⟨w2,z2.sameBut hs hcc⟩
  ·obtain ⟨e,n,ne,nf,d⟩:=I.pin p hp
   refine ⟨(hs.2 p.1 ?_).trans e,n,ne,nf,d⟩
   intro q
   rw [q,hoc] at e
   have q':oc=p.2:=Option.some.inj e
   exact d w' (by rw [<- q']; exact hocd)
theorem store_ok {M:Model} {A:Around} {E:Value->Shared->Prop} {i:Nat} {x:Str} {v:V} {u:Value} {Q:Unit->Shared->Prop} (I:Inv X pins σ H s) (hN:X.N.Nodup) (hi:X.N[i]?=some x) (hx:Loc X.env.scope x) (r:RelV v u)
  (h:∀ s',Inv X pins (σ.set i (some v)) H s'->Q () s') (hf:X.fn x=true\/X.env.scope.names.lookup x=some .local:=by first | exact .inl rfl | exact .inr rfl | assumption):wpAny M A (storeName X.env x u) Q E s :=
 store_ok2 I hN hi hx r (fun s' I' _=>h s' I') hf
theorem Inv.call' {s':Shared} {ch:List Addr} (I:Inv X pins σ H s) (ho:s'.os=s.os) (u:Un (frs X.stack) ch H H' s.heap s'.heap) (hok:HOk X.prog X.w H' s'.heap) (hg:AllBare s'.gens)
  (hch:∀ b∈ch,(b∈X.ex\/X.s₀.heap.objs.size<=b)/\b ≠ X.env.locals/\(∀ x c,X.env.cells.lookup x=some c->c ≠ b)/\∀ p∈X.pn ++ pins,p.1 ≠ b):Inv X pins σ H' s':=by
 obtain ⟨h',g',d',t',o'⟩:=s'
 have e:o'=s.os:=ho
 subst e
 exact I.call (g':=g') (t':=t') (d':=d') u hok hg hch
end
noncomputable abbrev XK:=Value->Option Addr->Hp->Prop
noncomputable abbrev St:=List (Option V)
noncomputable abbrev VK:=V->Hp->Prop
noncomputable abbrev TE:=St->Hp->VK->Prop
noncomputable abbrev TT:=St->Hp->(Bool->Hp->Prop)->Prop
noncomputable abbrev TA:=St->Hp->(List V->Hp->Prop)->Prop
structure Ends where
 nx:St->Hp->Prop
 rt:VK
 bk:St->Hp->Prop:=fun _ _=>False
 ct:St->Hp->Prop:=fun _ _=>False
noncomputable abbrev TS:=Ends->St->Hp->Prop
noncomputable def EP (X:Cx) (pins:List (Addr × Obj)) (σ:St) (Q:VK) (u:Value) (s':Shared):Prop:=∃ v H',Inv X pins σ H' s'/\RelV v u/\Q v H'
noncomputable def TP (X:Cx) (pins:List (Addr × Obj)) (σ:St) (Q:Bool->Hp->Prop) (b:Bool) (s':Shared):Prop:=∃ H',Inv X pins σ H' s'/\Q b H'
noncomputable def AP (X:Cx) (pins:List (Addr × Obj)) (σ:St) (Q:List V->Hp->Prop) (us:List Value) (s':Shared):Prop:=∃ vs H',Inv X pins σ H' s'/\Vals vs us/\Q vs H'
noncomputable def SP (X:Cx) (pins:List (Addr × Obj)) (D:Ends) (f:Flow) (s':Shared):Prop :=
 match f with
 | .next=>∃ σ' H',Inv X pins σ' H' s'/\D.nx σ' H'
 | .brk=>∃ σ' H',Inv X pins σ' H' s'/\D.bk σ' H'
 | .cont=>∃ σ' H',Inv X pins σ' H' s'/\D.ct σ' H'
 | .ret u=>∃ v σ' H',Inv X pins σ' H' s'/\RelV v u/\D.rt v H'
noncomputable def PE (X:Cx) (e:Expr) (t:TE):Prop :=
 ∀ (pins:List (Addr × Obj)) (s:Shared) (σ:St) (H:Hp) (Q:VK),Inv X pins σ H s->t σ H Q->wpAny (model X.prog X.w) X.A (eval e X.env) (EP X pins σ Q) X.xe s
noncomputable def PT (X:Cx) (e:Expr) (t:TT):Prop :=
 ∀ (pins:List (Addr × Obj)) (s:Shared) (σ:St) (H:Hp) (Q:Bool->Hp->Prop),Inv X pins σ H s->t σ H Q->wpAny (model X.prog X.w) X.A (isTrue e X.env (eval e X.env)) (TP X pins σ Q) X.xe s
noncomputable def PW (X:Cx) (e:Expr) (t:TT):Prop :=
 ∀ (whole:Sem Value) (pins:List (Addr × Obj)) (s:Shared) (σ:St) (H:Hp) (Q:Bool->Hp->Prop),Inv X pins σ H s->t σ H Q->wpAny (model X.prog X.w) X.A (isTrue e X.env whole) (TP X pins σ Q) X.xe s
theorem PW.pt {X:Cx} {e:Expr} {t:TT} (h:PW X e t):PT X e t:=h _
noncomputable def PA (X:Cx) (es:List Expr) (t:TA):Prop :=
 ∀ (pos:Pos) (pins:List (Addr × Obj)) (s:Shared) (σ:St) (H:Hp) (Q:List V->Hp->Prop),Inv X pins σ H s->t σ H Q->wpAny (model X.prog X.w) X.A (spliced (backTo pos (starEach es X.env))) (AP X pins σ Q) X.xe s
noncomputable def PS (X:Cx) (st:Stmt) (t:TS):Prop :=
 ∀ (pins:List (Addr × Obj)) (s:Shared) (σ:St) (H:Hp) (D:Ends),Inv X pins σ H s->t D σ H->wpAny (model X.prog X.w) X.A (exec st X.env) (SP X pins D) X.xe s
noncomputable def PSs (X:Cx) (st:List Stmt) (t:TS):Prop :=
 ∀ (pins:List (Addr × Obj)) (s:Shared) (σ:St) (H:Hp) (D:Ends),Inv X pins σ H s->t D σ H->wpAny (model X.prog X.w) X.A (execs st X.env) (SP X pins D) X.xe s
theorem thn {α:Type} {t:Sem α} {Q Q':α->Shared->Prop} {M:Model} {A:Around} {E:Value->Shared->Prop} {s:Shared} (h:wpAny M A t Q E s) (hQ:∀ a s,Q a s->Q' a s):wpAny M A t Q' E s:=wpAny_mono h hQ fun _ _ x=>x
end L2
namespace L2
open PySem PySem.Spec PyProof.Rows
section
variable {X:Cx}
noncomputable def tVar (i:Nat):TE:=fun σ H Q=>∃ v,σ[i]?=some (some v)/\Q v H
noncomputable def tC (v:V):TE:=fun _ H Q=>Q v H
theorem pe_var {i:Nat} {x:Str} {pos:Pos} (hN:X.N[i]?=some x) (hv:Vis X.env.scope x) (hd:(x == ("__debug__" : Str))=false:=by decide) (hcd:(x == ("__classdict__" : Str))=false:=by decide):PE X (.Name x pos) (tVar i):=by
 intro pins s σ H Q I h
 obtain ⟨v,e,h⟩:=h
 obtain ⟨m,hn,hl⟩:=I.loc
 obtain ⟨u,r,l⟩:=hl i x v hN e hv
 have fin:EP X pins σ Q u s:=⟨v,H,I,r,h⟩
 rcases l with ⟨hk,hm⟩ | ⟨hk,c,hc,hcell⟩
 ·exact wpAny_Name (wpAny_loadName_local I.ok.kind hk hn hm fin) hd
 ·rcases hk with hk | hk
  ·exact wpAny_Name (wpAny_loadName_cell I.ok.kind hk hc hcell fin) hd
  ·exact wpAny_Name (wpAny_loadName_free I.ok.kind hk hc hcell fin hcd) hd
theorem pe_int {i j pos}:PE X (.Constant (.int i) j pos) (tC (.int i)):=fun _ _ _ H _ I h=>wpAny_Constant_int ⟨.int i,H,I.tok _,⟨_,rfl⟩,h⟩
theorem pe_bl {b j pos}:PE X (.Constant (.bool b) j pos) (tC (.bl b)):=fun _ _ _ H _ I h=>Constant_bool ⟨.bl b,H,I,rfl,h⟩
theorem pe_non {j pos}:PE X (.Constant .none j pos) (tC .non):=fun _ _ _ H _ I h=>Constant_none ⟨.non,H,I,rfl,h⟩
theorem pe_str {x j pos}:PE X (.Constant (.str x) j pos) (tC (.str x)):=fun _ _ _ H _ I h=>Calls.Constant_str ⟨.str x,H,I.tok _,⟨_,rfl⟩,h⟩
noncomputable def Gl (X:Cx) (x:Str):Prop:=X.env.kindOf x=some .globalImplicit
theorem ld_glob {E:Value->Shared->Prop} {pins:List (Addr × Obj)} {s:Shared} {σ:St} {H:Hp} {x:Str} {u:Value} {pos:Pos} {Q:Value->Shared->Prop} (I:Inv X pins σ H s) (hg:Gl X x) (hm:X.mg x=some u) (h:Q u s)
  (hd:(x == ("__debug__" : Str))=false:=by decide):wpAny (model X.prog X.w) X.A (eval (.Name x pos) X.env) Q E s :=
 Calls.Name_function_global I.ok.kind hg (Calls.loadGlobal_global (by rw [I.ok.glob]; exact I.mod.glob.keeps I.bk) hm h) hd
theorem ld_blt {E:Value->Shared->Prop} {pins:List (Addr × Obj)} {s:Shared} {σ:St} {H:Hp} {x:Str} {u:Value} {pos:Pos} {Q:Value->Shared->Prop} (I:Inv X pins σ H s) (hg:Gl X x) (hm:X.mg x=none) (hv:bootBuiltins x=some u) (h:Q u s)
  (hn:x ≠ "__name__" := by decide) (hd:(x == ("__debug__" : Str))=false:=by decide):wpAny (model X.prog X.w) X.A (eval (.Name x pos) X.env) Q E s:=by
 obtain ⟨mb,h1,h2⟩:=I.mod.blt
 exact Calls.Name_function_global I.ok.kind hg (Calls.loadGlobal_builtin (by rw [I.ok.glob]; exact I.mod.glob.keeps I.bk) hm (by rw [I.ok.blt]; exact h1.keeps I.bk) ((h2 x hn).trans hv) h) hd
theorem pe_glob {x:Str} {v:V} {u:Value} {pos:Pos} (hg:Gl X x) (hm:X.mg x=some u) (r:RelV v u) (hd:(x == ("__debug__" : Str))=false:=by decide):PE X (.Name x pos) (tC v) :=
 fun _ _ _ H _ I h=>ld_glob I hg hm ⟨v,H,I,r,h⟩ hd
theorem pe_bltn {x:Str} {v:V} {u:Value} {pos:Pos} (hg:Gl X x) (hm:X.mg x=none) (hv:bootBuiltins x=some u) (r:RelV v u) (hn:x ≠ "__name__" := by decide) (hd:(x == ("__debug__" : Str))=false:=by decide):PE X (.Name x pos) (tC v) :=
 fun _ _ _ H _ I h=>ld_blt I hg hm hv ⟨v,H,I,r,h⟩ hn hd
variable {a b:Expr} {ta tb:TE} {pos:Pos}
noncomputable def PC (X:Cx) (op:CmpOp) (a b:Expr) (t:TE):Prop :=
 ∀ (pins:List (Addr × Obj)) (s:Shared) (σ:St) (H:Hp) (Q:VK),Inv X pins σ H s->t σ H Q ->
  wpAny (model X.prog X.w) X.A (eval a X.env) (fun v s₁=>wpAny (model X.prog X.w) X.A (eval b X.env) (fun u s₂=>wpAny (model X.prog X.w) X.A (compareOp op v u) (EP X pins σ Q) X.xe s₂) X.xe s₁) X.xe s
theorem nobehind (b:Expr) {op:CmpOp} (h:op ≠ .In) (h2:op ≠ .NotIn):behindInMarks op b=false:=by
 have e1:(op == CmpOp.In)=false:=by cases op <;> first | rfl | exact absurd rfl h
 have e2:(op == CmpOp.NotIn)=false:=by cases op <;> first | rfl | exact absurd rfl h2
 cases b <;> simp [behindInMarks,e1,e2]
noncomputable def tIsN (ta:TE):TE:=fun σ H Q=>ta σ H fun x H1=>Q (.bl (decide (x=.non))) H1
noncomputable def tNotN (ta:TE):TE:=fun σ H Q=>ta σ H fun x H1=>Q (.bl (!decide (x=.non))) H1
theorem RelV.none_iff {x:V} {v:Value} (r:RelV x v):(v == Value.none)=decide (x=.non):=by
 cases x with
 | non=>cases r; rfl
 | bl _=>cases r; rfl
 | int _=>obtain ⟨t,rfl⟩:=r; rfl
 | str _=>obtain ⟨t,rfl⟩:=r; rfl
 | byt _=>obtain ⟨t,rfl⟩:=r; rfl
 | flt _=>obtain ⟨t,rfl⟩:=r; rfl
 | ref _=>cases r; rfl
 | ty _=>cases r; rfl
theorem pc_isN {j pos'} (ha:PE X a ta):PC X .Is a (.Constant .none j pos') (tIsN ta):=by
 intro pins s σ H Q I h
 refine thn (ha pins s σ H _ I h) fun v s1 ⟨x,H1,I1,r1,q1⟩=>?_
 exact Constant_none (is_none_gen ⟨.bl _,H1,I1,by rw [r1.none_iff]; rfl,q1⟩)
theorem pc_notN {j pos'} (ha:PE X a ta):PC X .IsNot a (.Constant .none j pos') (tNotN ta):=by
 intro pins s σ H Q I h
 refine thn (ha pins s σ H _ I h) fun v s1 ⟨x,H1,I1,r1,q1⟩=>?_
 exact Constant_none (isnot_none_gen ⟨.bl _,H1,I1,by rw [r1.none_iff]; rfl,q1⟩)
noncomputable def tB (t:TE):TT:=fun σ H Q=>t σ H fun x H1=>∃ c,x=.bl c/\Q c H1
theorem pe_cmp {op:CmpOp} {t:TE} (h:PC X op a b t) (h1:behindInMarks op b=false:=by first | exact nobehind _ (by decide) (by decide) | rfl):PE X (.Compare a [op] [b] pos) t:=fun pins s σ H Q I hw=>wpAny_Compare1 (h pins s σ H Q I hw) h1
theorem pt_cmp {op:CmpOp} {t:TE} (h:PC X op a b t) (h1:behindInMarks op b=false:=by first | exact nobehind _ (by decide) (by decide) | rfl):PT X (.Compare a [op] [b] pos) (tB t):=by
 intro pins s σ H Q I hw
 refine wpAny_isTrue_Compare1 (thn (h pins s σ H _ I hw) fun v s1 h1=>thn h1 fun u s2 h2=>thn h2 fun c s3 ⟨x,H1,I1,r1,q1⟩=>?_) h1
 obtain ⟨d,rfl,q⟩:=q1
 cases r1
 exact wpAny_truthy_bool ⟨H1,I1,q⟩
theorem pt_val {e:Expr} {t:TE} (h:PE X e t) (he:∀ whole,isTrue e X.env whole=(do let v <- whole; standAt e.pos; holding [v] (truthy v)):=by intro _; rfl):PT X e (tB t):=by
 intro pins s σ H Q I hw
 refine isTrue_plain (thn (h pins s σ H _ I hw) fun v s1 ⟨x,H1,I1,r1,q1⟩=>?_) (he _)
 obtain ⟨d,rfl,q⟩:=q1
 cases r1
 exact wpAny_truthy_bool ⟨H1,I1,q⟩
variable {tA tB':TT} {rest:List Expr}
noncomputable def tAnd (t u:TT):TT:=fun σ H Q=>t σ H fun c H1=>if c=true then u σ H1 Q else Q false H1
noncomputable def tOr (t u:TT):TT:=fun σ H Q=>t σ H fun c H1=>if c=true then Q true H1 else u σ H1 Q
noncomputable def tNot (t:TT):TT:=fun σ H Q=>t σ H fun c H1=>Q (!c) H1
theorem pw_and1 (ha:PT X a tA):PW X (.BoolOp .And [a] pos) tA:=by
 intro wh pins s σ H Q I h
 refine isTrue_and (thn (ha pins s σ H Q I h) fun c s1 e=>?_)
 cases c with
 | true=>exact isTrue_and_nil e
 | false=>exact e
theorem pw_or1 (ha:PT X a tA):PW X (.BoolOp .Or [a] pos) tA:=by
 intro wh pins s σ H Q I h
 refine isTrue_or (thn (ha pins s σ H Q I h) fun c s1 e=>?_)
 cases c with
 | false=>exact isTrue_or_nil e
 | true=>exact e
theorem pw_and (ha:PT X a tA) (hb:PW X (.BoolOp .And (b :: rest) pos) tB'):PW X (.BoolOp .And (a :: b :: rest) pos) (tAnd tA tB'):=by
 intro wh pins s σ H Q I h
 refine isTrue_and (thn (ha pins s σ H _ I h) fun c s1 ⟨H1,I1,q1⟩=>?_)
 cases c with
 | true=>exact hb wh pins s1 σ H1 Q I1 q1
 | false=>exact ⟨H1,I1,q1⟩
theorem pw_or (ha:PT X a tA) (hb:PW X (.BoolOp .Or (b :: rest) pos) tB'):PW X (.BoolOp .Or (a :: b :: rest) pos) (tOr tA tB'):=by
 intro wh pins s σ H Q I h
 refine isTrue_or (thn (ha pins s σ H _ I h) fun c s1 ⟨H1,I1,q1⟩=>?_)
 cases c with
 | true=>exact ⟨H1,I1,q1⟩
 | false=>exact hb wh pins s1 σ H1 Q I1 q1
theorem pt_not (ha:PT X a tA):PT X (.UnaryOp .Not a pos) (tNot tA):=by
 intro pins s σ H Q I h
 exact isTrue_not (ha pins s σ H (fun c H1=>Q (!c) H1) I h)
noncomputable def tAndV (ta tb:TE):TE:=fun σ H Q=>ta σ H fun x H1=>∃ c,x=.bl c/\if c=true then tb σ H1 Q else Q (.bl false) H1
noncomputable def tNotV (ta:TE):TE:=fun σ H Q=>ta σ H fun x H1=>∃ c,x=.bl c/\Q (.bl (!c)) H1
theorem pe_one {op} {t:TE} (h:PE X a t):PE X (.BoolOp op [a] pos) t:=fun pins s σ H Q I hw=>BoolOp_one (h pins s σ H Q I hw)
theorem pe_and (ha:PE X a ta) (hb:PE X (.BoolOp .And (b :: rest) pos) tb):PE X (.BoolOp .And (a :: b :: rest) pos) (tAndV ta tb):=by
 intro pins s σ H Q I h
 refine BoolOp_and (thn (ha pins s σ H _ I h) fun v s1 ⟨x,H1,I1,r1,q1⟩=>?_)
 obtain ⟨c,rfl,q1⟩:=q1
 cases r1
 refine wpAny_truthy_bool ?_
 cases c with
 | true=>exact hb pins s1 σ H1 Q I1 q1
 | false=>exact ⟨.bl false,H1,I1,rfl,q1⟩
theorem pe_not (ha:PE X a ta):PE X (.UnaryOp .Not a pos) (tNotV ta):=by
 intro pins s σ H Q I h
 refine UnaryOp_ (thn (ha pins s σ H _ I h) fun v s1 ⟨x,H1,I1,r1,q1⟩=>?_)
 obtain ⟨c,rfl,q1⟩:=q1
 cases r1
 exact not_of (wpAny_truthy_bool ⟨.bl (!c),H1,I1,rfl,q1⟩)
noncomputable def tIf (t:TT) (ta tb:TE):TE:=fun σ H Q=>t σ H fun c H1=>if c=true then ta σ H1 Q else tb σ H1 Q
theorem pe_ifExp {c:Expr} (hc:PT X c tA) (ha:PE X a ta) (hb:PE X b tb):PE X (.IfExp c a b pos) (tIf tA ta tb):=by
 intro pins s σ H Q I h
 refine wpAny_IfExp (thn (hc pins s σ H _ I h) fun d s1 ⟨H1,I1,q1⟩=>?_)
 cases d with
 | true=>exact ha pins s1 σ H1 Q I1 q1
 | false=>exact hb pins s1 σ H1 Q I1 q1
end
end L2
namespace L2
open PySem PySem.Spec PyProof.Rows
noncomputable def SqL (K:PySem.W.Frag) (H:Hp) (a:Addr) (xs:List V):Prop :=
 Rd H a (.lst xs) \/
  ∃ (o:Obj) (its:Array Value) (n:Nat),K.lookup a=some o/\o.cls=.type "list" /\ o.dict=none/\o.data=.seq its n/\its.size<=sizeLine/\Vals xs its.toList
noncomputable def SqT (K:PySem.W.Frag) (H:Hp) (a:Addr) (xs:List V):Prop :=
 Rd H a (.tup xs) \/
  ∃ (o:Obj) (its:Array Value) (n:Nat),K.lookup a=some o/\o.cls=.type "tuple" /\ o.data=.seq its n/\its.size<=sizeLine/\Vals xs its.toList
noncomputable def absV:Value->Option V
 | .none=>some .non
 | .bool b=>some (.bl b)
 | .int i _=>some (.int i)
 | .str x _=>some (.str x)
 | .bytes b _=>some (.byt b)
 | .float b _=>some (.flt b)
 | .ref a=>some (.ref a)
 | .type n=>some (.ty n)
 | _=>none
theorem RelV.abs {x:V} {u:Value} (r:RelV x u):absV u=some x:=by
 cases x with
 | non=>cases r; rfl
 | bl _=>cases r; rfl
 | int _=>obtain ⟨t,rfl⟩:=r; rfl
 | str _=>obtain ⟨t,rfl⟩:=r; rfl
 | byt _=>obtain ⟨t,rfl⟩:=r; rfl
 | flt _=>obtain ⟨t,rfl⟩:=r; rfl
 | ref _=>cases r; rfl
 | ty _=>cases r; rfl
theorem RelV.inj {x y:V} {u:Value} (r:RelV x u) (q:RelV y u):x=y:=Option.some.inj (r.abs.symm.trans q.abs)
theorem Vals.inj:∀ {xs ys:List V} {us:List Value},Vals xs us->Vals ys us->xs=ys
 | _,_,_,.nil,.nil=>rfl
 | _,_,_,.cons r t,.cons r' t'=>by rw [r.inj r',Vals.inj t t']
section
variable {X:Cx} {pins:List (Addr × Obj)} {σ:St} {H:Hp} {s:Shared} {a:Addr} {xs ys:List V}
theorem SqL.of {K:PySem.W.Frag} (h:H a=some (.lst xs)):SqL K H a xs:=.inl (.inl h)
theorem SqT.of {K:PySem.W.Frag} (h:H a=some (.tup xs)):SqT K H a xs:=.inl (.inl h)
theorem Inv.list (I:Inv X pins σ H s) (h:SqL X.K H a xs):∃ its:List Value,Vals xs its/\PlainL s.heap a its.toArray/\xs.length<=sizeLine:=by
 rcases h with h | ⟨o,its,n,hk,hc,hd,hs,hz,r⟩
 ·obtain ⟨z,its,n,r,e⟩:=h.ok I.hok
  exact ⟨its,r,⟨_,n,e,rfl,rfl,rfl⟩,z⟩
 ·refine ⟨its.toList,r,⟨o,n,I.kIn a o hk,hc,hd,by simpa using hs⟩,?_⟩
  have e:=r.length
  simp only [Array.length_toList] at e
  omega
theorem Inv.tuple (I:Inv X pins σ H s) (h:SqT X.K H a xs):∃ its:List Value,Vals xs its/\IsTup s.heap a its.toArray/\xs.length<=sizeLine:=by
 rcases h with h | ⟨o,its,n,hk,hc,hs,hz,r⟩
 ·obtain ⟨z,its,r,p⟩:=h.ok I.hok
  exact ⟨its,r,p,z⟩
 ·refine ⟨its.toList,r,⟨o,I.kIn a o hk,hc,n,by simpa using hs⟩,?_⟩
  have e:=r.length
  simp only [Array.length_toList] at e
  omega
theorem Inv.list_inj (I:Inv X pins σ H s) (h:SqL X.K H a xs) (h':SqL X.K H a ys):xs=ys:=by
 obtain ⟨its,r,⟨o,n,e,_,_,d⟩,_⟩:=I.list h
 obtain ⟨its',r',⟨o',n',e',_,_,d'⟩,_⟩:=I.list h'
 rw [e] at e'; cases e'
 rw [d] at d'
 injection d' with d1 _
 have:its=its':=by simpa using congrArg Array.toList d1
 subst this
 exact r.inj r'
theorem Inv.tuple_inj (I:Inv X pins σ H s) (h:SqT X.K H a xs) (h':SqT X.K H a ys):xs=ys:=by
 obtain ⟨its,r,⟨o,e,_,n,d⟩,_⟩:=I.tuple h
 obtain ⟨its',r',⟨o',e',_,n',d'⟩,_⟩:=I.tuple h'
 rw [e] at e'; cases e'
 rw [d] at d'
 injection d' with d1 _
 have:its=its':=by simpa using congrArg Array.toList d1
 subst this
 exact r.inj r'
end
noncomputable abbrev Cx.wish (X:Cx) (E:Value->Shared->Prop):Cx:={ X with xe:=E }
noncomputable abbrev Cx.nox (X:Cx):Cx:=X.wish fun _ _=>False
theorem Cx.Ok.wish {X:Cx} (ok:X.Ok) (E:Value->Shared->Prop):(X.wish E).Ok :=
 ⟨ok.mod,ok.kind,ok.glob,ok.blt,ok.above,ok.inj,ok.has,ok.cab,ok.hd,ok.frames,ok.stk,ok.exf,ok.bs,ok.bsz,ok.noex,ok.exfs,ok.funs,ok.frf⟩
theorem Cx.Ok.unwish {X:Cx} {E:Value->Shared->Prop} (ok:(X.wish E).Ok):X.Ok :=
 ⟨ok.mod,ok.kind,ok.glob,ok.blt,ok.above,ok.inj,ok.has,ok.cab,ok.hd,ok.frames,ok.stk,ok.exf,ok.bs,ok.bsz,ok.noex,ok.exfs,ok.funs,ok.frf⟩
section
variable {X:Cx} {pins:List (Addr × Obj)} {σ:St} {H:Hp} {s:Shared} {E:Value->Shared->Prop}
theorem Inv.wish (I:Inv X pins σ H s) (E:Value->Shared->Prop):Inv (X.wish E) pins σ H s:=⟨I.ok.wish E,I.os,I.bare,I.base,I.loc,I.cell,I.free,I.freeC,I.pin,I.hok,I.len⟩
theorem Inv.unwish (I:Inv (X.wish E) pins σ H s):Inv X pins σ H s:=⟨I.ok.unwish,I.os,I.bare,I.base,I.loc,I.cell,I.free,I.freeC,I.pin,I.hok,I.len⟩
theorem SP.unwish {D:Ends} {f:Flow} {s':Shared} (h:SP (X.wish E) pins D f s'):SP X pins D f s':=by
 cases f with
 | next=>obtain ⟨σ',H',I,q⟩:=h; exact ⟨σ',H',I.unwish,q⟩
 | brk=>obtain ⟨σ',H',I,q⟩:=h; exact ⟨σ',H',I.unwish,q⟩
 | cont=>obtain ⟨σ',H',I,q⟩:=h; exact ⟨σ',H',I.unwish,q⟩
 | ret u=>obtain ⟨v,σ',H',I,r,q⟩:=h; exact ⟨v,σ',H',I.unwish,r,q⟩
theorem PSs.nox {st:List Stmt} {t:TS} (h:PSs X.nox st t):PSs X st t:=fun pins s σ H D I hw =>
 wpAny_mono (h pins s σ H D (I.wish _) hw) (fun _ _ q=>q.unwish) fun _ _ z=>False.elim z
end
section
variable {X:Cx} {st:Stmt} {rest:List Stmt} {t u:TS} {e:Expr} {te:TE} {pos:Pos}
noncomputable def tNext:TS:=fun D σ H=>D.nx σ H
noncomputable def tSeq (t u:TS):TS:=fun D σ H=>t { D with nx:=u D } σ H
theorem pss_nil:PSs X [] tNext:=fun _ _ σ H _ I h=>wpAny_execs_nil ⟨σ,H,I,h⟩
theorem pss_cons (h1:PS X st t) (h2:PSs X rest u):PSs X (st :: rest) (tSeq t u):=by
 intro pins s σ H D I h
 refine wpAny_execs_cons (thn (h1 pins s σ H { D with nx:=u D } I h) fun f s1 q=>?_)
 cases f with
 | next =>
  obtain ⟨σ',H',I',q⟩:=q
  exact h2 pins s1 σ' H' D I' q
 | ret v=>exact q
 | brk=>exact q
 | cont=>exact q
theorem pss_one (h1:PS X st t):PSs X [st] t:=by
 intro pins s σ H D I h
 refine wpAny_execs_cons (thn (h1 pins s σ H D I h) fun f s1 q=>?_)
 cases f with
 | next=>exact wpAny_execs_nil q
 | ret v=>exact q
 | brk=>exact q
 | cont=>exact q
theorem Inv.quiet {pins:List (Addr × Obj)} {σ:St} {H:Hp} {s:Shared} (I:Inv X pins σ H s):interactive X.env=false:=by simp [interactive,I.ok.kind]
noncomputable def tDrop (te:TE):TS:=fun D σ H=>te σ H fun _ H1=>D.nx σ H1
theorem ps_expr (he:PE X e te) (hs:swapsWith e none pos.line X.env=pure false:=by rfl):PS X (.Expr e pos) (tDrop te):=by
 intro pins s σ H D I h
 exact wpAny_Expr_any (thn (he pins s σ H _ I h) fun v s1 ⟨x,H1,I1,r1,q1⟩=>⟨σ,H1,I1,q1⟩) I.quiet hs
noncomputable def tRet (te:TE):TS:=fun D σ H=>te σ H D.rt
theorem ps_ret (he:PE X e te):PS X (.Return (some e) pos) (tRet te):=by
 intro pins s σ H D I h
 exact wpAny_Return_some (thn (he pins s σ H _ I h) fun v s1 ⟨x,H1,I1,r1,q1⟩=>⟨x,σ,H1,I1,r1,q1⟩)
noncomputable def tRetN:TS:=fun D _ H=>D.rt .non H
theorem ps_retN:PS X (.Return none pos) tRetN:=fun _ _ σ H _ I h=>wpAny_Return_none ⟨.non,σ,H,I,rfl,h⟩
noncomputable def tIfS (c:TT) (t u:TS):TS:=fun D σ H=>c σ H fun b H1=>if b=true then t D σ H1 else u D σ H1
theorem ps_if {c:Expr} {a b:List Stmt} {tc:TT} (hc:PT X c tc) (ha:PSs X a t) (hb:PSs X b u):PS X (.If c a b pos) (tIfS tc t u):=by
 intro pins s σ H D I h
 refine wpAny_If (thn (hc pins s σ H _ I h) fun d s1 ⟨H1,I1,q1⟩=>?_)
 cases d with
 | true=>exact ha pins s1 σ H1 D I1 q1
 | false=>exact hb pins s1 σ H1 D I1 q1
noncomputable def tNever:TS:=fun _ _ _=>False
theorem ps_never:PS X st tNever:=fun _ _ _ _ _ _ h=>h.elim
theorem pss_never {sts:List Stmt}:PSs X sts tNever:=fun _ _ _ _ _ _ h=>h.elim
end
noncomputable abbrev TG:=V->St->Hp->(St->Hp->Prop)->Prop
noncomputable abbrev TGs:=List V->St->Hp->(St->Hp->Prop)->Prop
noncomputable def PG (X:Cx) (target:Expr) (t:TG):Prop :=
 ∀ (pins:List (Addr × Obj)) (s:Shared) (σ:St) (H:Hp) (v:V) (u:Value) (Q:St->Hp->Prop),Inv X pins σ H s->RelV v u->t v σ H Q ->
  wpAny (model X.prog X.w) X.A (assign target X.env u) (fun _ s'=>∃ σ' H',Inv X pins σ' H' s'/\Q σ' H') X.xe s
noncomputable def PGs (X:Cx) (ts:List Expr) (t:TGs):Prop :=
 ∀ (pins:List (Addr × Obj)) (s:Shared) (σ:St) (H:Hp) (vs:List V) (us:List Value) (Q:St->Hp->Prop),Inv X pins σ H s->Vals vs us->t vs σ H Q ->
  wpAny (model X.prog X.w) X.A (assignInOrder ((assignEach ts X.env).map (·.2)) us) (fun _ s'=>∃ σ' H',Inv X pins σ' H' s'/\Q σ' H') X.xe s
noncomputable abbrev TSet:=V->V->V->Hp->(Hp->Prop)->Prop
noncomputable def PSet (X:Cx) (t:TSet):Prop :=
 ∀ (pins:List (Addr × Obj)) (s:Shared) (σ:St) (H:Hp) (o i v:V) (ov iv u:Value) (Q:Hp->Prop),Inv X pins σ H s->RelV o ov->RelV i iv->RelV v u->t o i v H Q ->
  wpAny (model X.prog X.w) X.A (setItem ov iv u) (fun _ s'=>∃ H',Inv X pins σ H' s'/\Q H') X.xe s
noncomputable abbrev TIp:=V->V->Hp->VK->Prop
noncomputable def PIp (X:Cx) (op:Operator) (t:TIp):Prop :=
 ∀ (pins:List (Addr × Obj)) (s:Shared) (σ:St) (H:Hp) (x y:V) (v u:Value) (Q:VK),Inv X pins σ H s->RelV x v->RelV y u->t x y H Q ->
  wpAny (model X.prog X.w) X.A (inplaceOp op v u) (EP X pins σ Q) X.xe s
section
variable {X:Cx} {pos:Pos}
noncomputable def gName (i:Nat):TG:=fun v σ H Q=>Q (σ.set i (some v)) H
theorem pg_name {i:Nat} {x:Str} (hN:X.N.Nodup) (hi:X.N[i]?=some x) (hx:Loc X.env.scope x) (hf:X.fn x=true\/X.env.scope.names.lookup x=some .local:=by first | exact .inl rfl | exact .inr rfl | assumption):PG X (.Name x pos) (gName i):=by
 intro pins s σ H v u Q I r h
 exact wpAny_assign_Name (store_ok I hN hi hx r (fun s' I'=>⟨_,H,I',h⟩) hf)
noncomputable def gNil:TGs:=fun vs σ H Q=>vs=[]/\Q σ H
noncomputable def gCons (t:TG) (u:TGs):TGs:=fun vs σ H Q=>∃ v r,vs=v :: r/\t v σ H fun σ' H'=>u r σ' H' Q
theorem pgs_nil:PGs X [] gNil:=by
 intro pins s σ H vs us Q I r h
 obtain ⟨e,h⟩:=h
 subst e
 cases r
 exact assignInOrder_nil ⟨σ,H,I,h⟩
theorem pgs_cons {e:Expr} {es:List Expr} {t:TG} {u:TGs} (h1:PG X e t) (h2:PGs X es u)
  (hs:(assignEach (e :: es) X.env).map (·.2)=assign e X.env :: (assignEach es X.env).map (·.2):=by rfl):PGs X (e :: es) (gCons t u):=by
 intro pins s σ H vs us Q I r h
 obtain ⟨v,vr,e1,h⟩:=h
 subst e1
 cases r with
 | cons r rr =>
  rw [hs]
  refine assignInOrder_cons (thn (h1 pins s σ H _ _ _ I r h) fun _ s1 ⟨σ1,H1,I1,q1⟩=>?_)
  exact h2 pins s1 σ1 H1 _ _ Q I1 rr q1
noncomputable def gTup (K:PySem.W.Frag) (n:Nat) (t:TGs):TG:=fun v σ H Q=>∃ a xs,v=.ref a/\SqT K H a xs/\xs.length=n/\t xs σ H Q
theorem pg_tup {es:List Expr} {k:Nat} {t:TGs} {n:Nat} (hc:X.calm=true) (h:PGs X es t)
  (hn:(assignEach es X.env).length=n:=by rfl) (hst:(assignEach es X.env).findIdx? (·.1)=none:=by rfl):PG X (.Tuple es k pos) (gTup X.K n t):=by
 intro pins s σ H v u Q I r hw
 obtain ⟨a,xs,e1,hq,hl,hw⟩:=hw
 subst e1
 cases r
 obtain ⟨its,rv,ht,hz⟩:=I.tuple hq
 refine assign_Tuple_tuple (I.ok.hd hc) ht (by simp [hn,<- hl,rv.length]) hst fun h' hx=>?_
 have I1:Inv X pins σ H { s with heap:=h' }:=I.kept (t':=s.toks) fun b o e=>hx b o (Nat.ne_of_lt (Heap.lt_size e)) e
 exact h pins _ σ H xs _ Q I1 (by simpa using rv) hw
noncomputable def gSub (to ti:TE) (t:TSet):TG:=fun v σ H Q=>to σ H fun o H1=>ti σ H1 fun i H2=>t o i v H2 fun H3=>Q σ H3
theorem pg_sub {o i:Expr} {to ti:TE} {t:TSet} (ho:PE X o to) (hi:PE X i ti) (hs:PSet X t)
  (ha:∀ v,assign (.Subscript o i pos) X.env v=(do
   let ov <- holding [v] (eval o X.env)
   let iv <- holding [v,ov] (eval i X.env)
   standAt pos
   holding [v,ov,iv] (setItem ov iv v)
   release [v,ov,iv] []):=by intro _; rfl):PG X (.Subscript o i pos) (gSub to ti t):=by
 intro pins s σ H v u Q I r h
 rw [ha]
 refine wpAny_bind (wpAny_holding (thn (ho pins s σ H _ I h) fun ov s1 ⟨x,H1,I1,r1,q1⟩=>?_))
 refine wpAny_bind (wpAny_holding (thn (hi pins s1 σ H1 _ I1 q1) fun iv s2 ⟨y,H2,I2,r2,q2⟩=>?_))
 refine wpAny_bind (wpAny_standAt (wpAny_bind (wpAny_holding (thn (hs pins s2 σ H2 x y v ov iv u _ I2 r1 r2 r q2) fun _ s3 ⟨H3,I3,q3⟩=>?_))))
 exact wpAny_release ⟨σ,H3,I3,q3⟩
noncomputable def tAsg (te:TE) (g:TG):TS:=fun D σ H=>te σ H fun x H1=>g x σ H1 D.nx
theorem ps_asg {tg e:Expr} {te:TE} {g:TG} (he:PE X e te) (hg:PG X tg g) (hs:swapsWithSole [tg] e pos.line X.env=pure false:=by rfl) (hw:swappedStores [tg] e X.env=pure none:=by rfl)
  (h1:(assignEach [tg] X.env).map (·.2)=[assign tg X.env]:=by rfl):PS X (.Assign [tg] e pos) (tAsg te g):=by
 intro pins s σ H D I h
 refine wpAny_Assign_stores (thn (he pins s σ H _ I h) fun v s1 ⟨x,H1,I1,r1,q1⟩=>?_) hs hw
 rw [h1]
 exact thn (hg pins s1 σ H1 x v _ I1 r1 q1) fun _ s2 q=>q
theorem ps_set {i:Nat} {x:Str} {e:Expr} {te:TE} {pos':Pos} (hN:X.N.Nodup) (hi:X.N[i]?=some x) (hx:Loc X.env.scope x) (he:PE X e te) (hs:swapsWith e (some (.Name x pos')) pos.line X.env=pure false:=by rfl) (hf:X.fn x=true\/X.env.scope.names.lookup x=some .local:=by first | exact .inl rfl | exact .inr rfl | assumption) :
  PS X (.Assign [.Name x pos'] e pos) (tAsg te (gName i)):=by
 intro pins s σ H D I h
 refine wpAny_Assign_Name (thn (he pins s σ H _ I h) fun v s1 ⟨y,H1,I1,r1,q1⟩=>?_) hs
 exact store_ok I1 hN hi hx r1 (fun s2 I2=>⟨_,H1,I2,q1⟩) hf
noncomputable def tAug (i:Nat) (te:TE) (ti:TIp):TS:=fun D σ H=>∃ x,σ[i]?=some (some x)/\te σ H fun y H1=>ti x y H1 fun z H2=>D.nx (σ.set i (some z)) H2
theorem ps_aug {i:Nat} {x:Str} {e:Expr} {te:TE} {op:Operator} {ti:TIp} {pos':Pos} (hN:X.N.Nodup) (hi:X.N[i]?=some x) (hx:Loc X.env.scope x) (he:PE X e te) (ho:PIp X op ti) (hf:X.fn x=true\/X.env.scope.names.lookup x=some .local:=by first | exact .inl rfl | exact .inr rfl | assumption) :
  PS X (.AugAssign (.Name x pos') op e pos) (tAug i te ti):=by
 intro pins s σ H D I h
 obtain ⟨v,e1,h⟩:=h
 obtain ⟨m,hn,hl⟩:=I.loc
 have vis:Vis X.env.scope x:=by rcases hx with k | k; exact .inl k; exact .inr (.inl k)
 obtain ⟨u,r,l⟩:=hl i x v hi e1 vis
 refine wpAny_AugAssign_Name ?_
 have go:wpAny (model X.prog X.w) X.A (eval e X.env) (fun w s₂=>wpAny (model X.prog X.w) X.A (inplaceOp op u w) (fun r s₃=>wpAny (model X.prog X.w) X.A (storeName X.env x r) (fun _=>SP X pins D .next) X.xe s₃) X.xe s₂) X.xe s:=by
  refine thn (he pins s σ H _ I h) fun w s1 ⟨y,H1,I1,r1,q1⟩=>?_
  refine thn (ho pins s1 σ H1 v y u w _ I1 r r1 q1) fun z s2 ⟨zv,H2,I2,r2,q2⟩=>?_
  exact store_ok I2 hN hi hx r2 (fun s3 I3=>⟨_,H2,I3,q2⟩) hf
 rcases l with ⟨hk,hm⟩ | ⟨hk,c,hc,hcell⟩
 ·exact wpAny_loadName_local I.ok.kind hk hn hm go
 ·rcases hk with hk | hk
  ·exact wpAny_loadName_cell I.ok.kind hk hc hcell go
  ·rcases hx with k | k
   ·have:X.env.scope.names.lookup x=some .free:=hk
    rw [k] at this; cases this
   ·have:X.env.scope.names.lookup x=some .free:=hk
    rw [k] at this; cases this
noncomputable def ipI (f:Int->Int->Int):TIp:=fun x y H Q=>∃ i j,x=.int i/\y=.int j/\Q (.int (f i j)) H
theorem ip_add:PIp X .Add (ipI fun i j=>i+j):=by
 intro pins s σ H x y v u Q I r1 r2 h
 obtain ⟨i,j,e1,e2,q⟩:=h
 subst e1; subst e2
 obtain ⟨t,rfl⟩:=r1
 obtain ⟨t',rfl⟩:=r2
 exact iadd_int ⟨.int _,H,I.tok _,⟨_,rfl⟩,q⟩
theorem ip_sub:PIp X .Sub (ipI fun i j=>i - j):=by
 intro pins s σ H x y v u Q I r1 r2 h
 obtain ⟨i,j,e1,e2,q⟩:=h
 subst e1; subst e2
 obtain ⟨t,rfl⟩:=r1
 obtain ⟨t',rfl⟩:=r2
 exact isub_int ⟨.int _,H,I.tok _,⟨_,rfl⟩,q⟩
end
section
variable {X:Cx} {pos:Pos}
noncomputable def tWhile (c:TT) (tb:TS):TS:=fun D σ H=>∃ W:Nat->St->Hp->Prop,(∃ m,W m σ H)/\∀ m σ H,W m σ H ->
 c σ H fun b H1=>if b=true then ∃ N:St->Hp->Prop,(∀ σ' H',N σ' H'->∃ m',m' < m/\W m' σ' H')/\tb { D with nx:=N,ct:=N,bk:=D.nx } σ H1 else D.nx σ H1
theorem ps_while {c:Expr} {body:List Stmt} {tc:TT} {tb:TS} (hp:PassesOwn (model X.prog X.w) X.A X.env X.xe) (hc:PT X c tc) (hb:PSs X body tb):PS X (.While c body [] pos) (tWhile tc tb):=by
 intro pins s σ H D I h
 obtain ⟨W,⟨m0,w0⟩,turn⟩:=h
 refine wpAny_While (codeAny_whileLoop (fun n s'=>∃ σ' H',Inv X pins σ' H' s'/\W n σ' H') ?_ m0 ⟨σ,H,I,w0⟩)
 intro n s1 z9;obtain ⟨σ1,H1,I1,w1⟩ := z9
 refine wpAny_passesOwn hp (thn (hc pins s1 σ1 H1 _ I1 (turn n σ1 H1 w1)) fun b s2 ⟨H2,I2,q2⟩=>?_)
 cases b with
 | true =>
  obtain ⟨N,hN,q2⟩:=q2
  rw [if_pos rfl]
  refine wpAny_passesOwn hp (thn (hb pins s2 σ1 H2 _ I2 q2) fun f s3 q3=>?_)
  cases f with
  | next =>
   obtain ⟨σ3,H3,I3,n3⟩:=q3
   obtain ⟨m',hm,w3⟩:=hN σ3 H3 n3
   exact ⟨m',hm,σ3,H3,I3,w3⟩
  | cont =>
   obtain ⟨σ3,H3,I3,n3⟩:=q3
   obtain ⟨m',hm,w3⟩:=hN σ3 H3 n3
   exact ⟨m',hm,σ3,H3,I3,w3⟩
  | brk=>exact q3
  | ret v=>exact q3
 | false =>
  rw [if_neg Bool.false_ne_true]
  exact wpAny_execs_nil ⟨σ1,H2,I2,q2⟩
end
structure It where
 go:Nat->Hp->Prop
 yld:Nat->Hp->V->Hp->Prop
 stop:Nat->Hp->Prop
noncomputable def FpOk (X:Cx) (pins:List (Addr × Obj)) (H:Hp) (b:Addr):Prop :=
 H b=none/\b ≠ X.env.locals/\b ∉ X.fs/\(b∈X.ex\/X.s₀.heap.objs.size<=b)/\(∀ x c,X.env.cells.lookup x=some c->c ≠ b)/\∀ p∈X.pn ++ pins,p.1 ≠ b
theorem Inv.fpOk {X:Cx} {pins:List (Addr × Obj)} {σ:St} {H H':Hp} {s:Shared} {b:Addr} (I:Inv X pins σ H s) (hb:s.heap.objs.size<=b) (hn:H' b=none):FpOk X pins H' b:=by
 refine ⟨hn,Nat.ne_of_gt (Nat.lt_of_lt_of_le I.lt hb),I.nofs hb,.inr (Nat.le_trans I.sz hb),fun x c e z=>?_,fun p hp z=>?_⟩
 ·obtain ⟨v,q⟩:=I.cell x c e
  exact absurd (Nat.lt_of_lt_of_le q.lt (by rw [z]; exact hb)) (Nat.lt_irrefl _)
 ·exact absurd (Nat.lt_of_lt_of_le (Heap.lt_size (I.pin p hp).1) (by rw [z]; exact hb)) (Nat.lt_irrefl _)
structure Turn (P:Program) (w:World) (K:PySem.W.Frag) (tg:Expr) (J:It) (fp:List Addr) (it:Addr) (tn:Nat->Heap->Prop):Prop where
 mem:it∈fp
 obj:∀ i h,tn i h->∀ b∈fp,∃ o,h.get? b=some o/\∀ v,o.data ≠ .cell v
 keep:∀ i h h',tn i h->(∀ b∈fp,∀ o,h.get? b=some o->h'.get? b=some o)->tn i h'
 item:∀ (X:Cx),X.prog=P->X.w=w->X.K=K->X.calm=true->∀ (i:Nat) (pins:List (Addr × Obj)) (s:Shared) (σ:St) (H:Hp) (E:Value->Shared->Prop),Inv X pins σ H s->(∀ b∈fp,FpOk X pins H b)->tn i s.heap->J.go i H ->
  wpAny (model P w) X.A (pyNext (.ref it)) (fun r s1=>∃ u,r=some u /\
   wpAny (model P w) X.A (letOwnedTupleGo tg (.ref it) u) (fun _ s2=>∃ x H',Inv X pins σ H' s2/\RelV x u/\J.yld i H x H'/\tn (i+1) s2.heap/\∀ b∈fp,H' b=none) E s1) E s
 done:∀ (X:Cx),X.prog=P->X.w=w->X.K=K->X.calm=true->∀ (i:Nat) (pins:List (Addr × Obj)) (s:Shared) (σ:St) (H:Hp) (E:Value->Shared->Prop),Inv X pins σ H s->(∀ b∈fp,FpOk X pins H b)->tn i s.heap->J.stop i H ->
  wpAny (model P w) X.A (pyNext (.ref it)) (fun r s1=>r=none/\Inv X pins σ H s1) E s
 self:∀ (A:Around) (i:Nat) (s:Shared) (Q:Value->Shared->Prop) (E:Value->Shared->Prop),tn i s.heap->Q (.ref it) s->wpAny (model P w) A (pyIter (.ref it)) Q E s
noncomputable abbrev TI:=St->Hp->(It->Hp->Prop)->Prop
noncomputable def PIE (X:Cx) (pins:List (Addr × Obj)) (σ:St) (tg:Expr) (R:It->Hp->Prop) (itv:Value) (s2:Shared):Prop :=
 ∃ (it:Addr) (fp:List Addr) (tn:Nat->Heap->Prop) (J:It) (H':Hp),itv=.ref it/\Inv X pins σ H' s2/\Turn X.prog X.w X.K tg J fp it tn/\tn 0 s2.heap/\(∀ b∈fp,FpOk X pins H' b)/\R J H'
noncomputable def PI (X:Cx) (tg iter:Expr) (wi:TI):Prop :=
 ∀ (pins:List (Addr × Obj)) (s:Shared) (σ:St) (H:Hp) (R:It->Hp->Prop),Inv X pins σ H s->wi σ H R ->
  wpAny (model X.prog X.w) X.A (eval iter X.env) (fun v s1=>wpAny (model X.prog X.w) X.A (pyIter v) (PIE X pins σ tg R) X.xe s1) X.xe s
theorem go_of {M:Model} {A:Around} {E:Value->Shared->Prop} {s:Shared} {tg:Expr} {it:Addr} {u:Value} {o:Obj} {n:String} {vs:Array Value} {Q:Unit->Shared->Prop} (ho:s.heap.get? it=some o) (hc:o.cls=.type n) (hd:o.data=.fields vs)
  (hn:["enumerate","zip","dict_itemiterator","dict_reverseitemiterator","odict_iterator","itertools.zip_longest","itertools.pairwise"].contains n=false) (hQ:Q () s):wpAny M A (letOwnedTupleGo tg (.ref it) u) Q E s:=by
 unfold letOwnedTupleGo
 cases tg <;> first
  | exact wpAny_pure hQ
  | (cases u <;> first
    | exact wpAny_pure hQ
    | (refine wpAny_bind (wpAny_load ho ?_)
       rw [hc,hd]
       show wpAny M A (if (["enumerate","zip","dict_itemiterator","dict_reverseitemiterator","odict_iterator","itertools.zip_longest","itertools.pairwise"].contains n && vs[0]? == some (rawInt _))=true then _ else _) Q E s
       rw [if_neg (by intro h; rw [hn,Bool.false_and] at h; cases h)]
       exact wpAny_pure hQ))
noncomputable def Itl (K:PySem.W.Frag) (a:Addr):It :=
 ⟨fun i H=>∃ xs x,SqL K H a xs/\xs[i]?=some x,fun i H x H'=>H'=H/\∀ xs,SqL K H a xs->xs[i]?=some x,fun i H=>∃ xs,SqL K H a xs/\xs.length<=i⟩
noncomputable def Itt (K:PySem.W.Frag) (a:Addr):It :=
 ⟨fun i H=>∃ xs x,SqT K H a xs/\xs[i]?=some x,fun i H x H'=>H'=H/\∀ xs,SqT K H a xs->xs[i]?=some x,fun i H=>∃ xs,SqT K H a xs/\xs.length<=i⟩
noncomputable def Itr (lo:Int) (n:Nat):It:=⟨fun i _=>i < n,fun i H x H'=>H'=H/\x=.int (lo+i),fun i _=>n<=i⟩
theorem turn_list {P:Program} {w:World} {K:PySem.W.Frag} {tg:Expr} (a it:Addr):Turn P w K tg (Itl K a) [it] it (fun i h=>h.IsListIter it a i) where
 mem:=by simp
 obj:=fun i h st b hb=>by
  have e:b=it:=by simpa using hb
  subst e
  obtain ⟨o,e,c,d⟩:=st
  exact ⟨o,e,fun v z=>by rw [d] at z; cases z⟩
 keep:=fun i h h' st k=>st.at fun o e=>k it (by simp) o e
 item:=by
  intro X hP hw hK hc i pins s σ H E I hf st hg
  subst hP hw hK
  obtain ⟨xs,x,hq,hx⟩:=hg
  obtain ⟨its,rv,p,hz⟩:=I.list hq
  obtain ⟨u,hu,ru⟩:=rv.get hx
  obtain ⟨f0,f1,f2,f3,f4,f5⟩:=hf it (by simp)
  refine wpAny_pyNext_list_item st p.isList (x:=u) (by simpa using hu) fun h' st' sb=>?_
  have I1:Inv X pins σ H { s with heap:=h' }:=I.turned (t':=s.toks) (fun b o hb e=>(sb.2 b hb).trans e) f0 f1 f3 f4 f5
  obtain ⟨o,e,c,d⟩:=id st'
  exact ⟨u,rfl,go_of (s:={ s with heap:=h' }) e c d (by decide) ⟨x,H,I1,ru,⟨rfl,fun ys hy=>by rw [I.list_inj hy hq]; exact hx⟩,st',fun b hb=>(hf b hb).1⟩⟩
 done:=by
  intro X hP hw hK hc i pins s σ H E I hf st hg
  subst hP hw hK
  obtain ⟨xs,hq,hx⟩:=hg
  obtain ⟨its,rv,p,hz⟩:=I.list hq
  obtain ⟨f0,f1,f2,f3,f4,f5⟩:=hf it (by simp)
  have hl:=rv.length
  exact wpAny_pyNext_list_end (I.ok.hd hc) st p.isList (by simp; omega) fun h' eb=>⟨rfl,I.turned (t':=s.toks) (fun b o hb e=>eb b o hb e) f0 f1 f3 f4 f5⟩
 self:=fun _ _ _ _ _ st h=>wpAny_pyIter_listiter st h
theorem turn_tuple {P:Program} {w:World} {K:PySem.W.Frag} {tg:Expr} (a it:Addr):Turn P w K tg (Itt K a) [it] it (fun i h=>h.IsTupleIter it a i) where
 mem:=by simp
 obj:=fun i h st b hb=>by
  have e:b=it:=by simpa using hb
  subst e
  obtain ⟨o,e,c,d⟩:=st
  exact ⟨o,e,fun v z=>by rw [d] at z; cases z⟩
 keep:=fun i h h' st k=>st.at fun o e=>k it (by simp) o e
 item:=by
  intro X hP hw hK hc i pins s σ H E I hf st hg
  subst hP hw hK
  obtain ⟨xs,x,hq,hx⟩:=hg
  obtain ⟨its,rv,p,hz⟩:=I.tuple hq
  obtain ⟨u,hu,ru⟩:=rv.get hx
  obtain ⟨f0,f1,f2,f3,f4,f5⟩:=hf it (by simp)
  refine wpAny_pyNext_tuple_item st (show s.heap.IsTuple a its.toArray from p) (x:=u) (by simpa using hu) fun h' st' sb=>?_
  have I1:Inv X pins σ H { s with heap:=h' }:=I.turned (t':=s.toks) (fun b o hb e=>(sb.2 b hb).trans e) f0 f1 f3 f4 f5
  obtain ⟨o,e,c,d⟩:=id st'
  exact ⟨u,rfl,go_of (s:={ s with heap:=h' }) e c d (by decide) ⟨x,H,I1,ru,⟨rfl,fun ys hy=>by rw [I.tuple_inj hy hq]; exact hx⟩,st',fun b hb=>(hf b hb).1⟩⟩
 done:=by
  intro X hP hw hK hc i pins s σ H E I hf st hg
  subst hP hw hK
  obtain ⟨xs,hq,hx⟩:=hg
  obtain ⟨its,rv,p,hz⟩:=I.tuple hq
  obtain ⟨f0,f1,f2,f3,f4,f5⟩:=hf it (by simp)
  have hl:=rv.length
  exact wpAny_pyNext_tuple_end (I.ok.hd hc) st (show s.heap.IsTuple a its.toArray from p) (by simp; omega) fun h' eb=>⟨rfl,I.turned (t':=s.toks) (fun b o hb e=>eb b o hb e) f0 f1 f3 f4 f5⟩
 self:=fun _ _ _ _ _ st h=>wpAny_pyIter_tupleiter st h
theorem turn_range {P:Program} {w:World} {K:PySem.W.Frag} {tg:Expr} (it:Addr) (lo:Int) (n:Nat):Turn P w K tg (Itr lo n) [it] it (fun i h=>IsRangeIter h it (lo+(i:Nat) * 1) ((n:Int) - (i:Nat)) 1) where
 mem:=by simp
 obj:=fun i h st b hb=>by
  have e:b=it:=by simpa using hb
  subst e
  exact ⟨_,st,fun v z=>by
   have z':Data.fields _=Data.cell v:=z
   cases z'⟩
 keep:=fun i h h' st k=>k it (by simp) _ st
 item:=by
  intro X hP hw hK hc i pins s σ H E I hf st hg
  subst hP hw hK
  obtain ⟨f0,f1,f2,f3,f4,f5⟩:=hf it (by simp)
  have W:=Walks.range (prog:=X.prog) (w:=X.w) (I.ok.hd hc) it lo 1 n
  refine W.item i s _ _ hg st fun v h' tk hv st' kk=>?_
  obtain ⟨t,rfl⟩:=hv
  have I1:Inv X pins σ H { s with heap:=h',toks:=tk }:=I.turned (fun b o hb e=>kk b o (by simpa using hb) e) f0 f1 f3 f4 f5
  refine ⟨_,rfl,go_of (s:={ s with heap:=h',toks:=tk }) (n := "range_iterator") st' rfl rfl (by decide) ⟨.int (lo+i),H,I1,⟨t,?_⟩,⟨rfl,rfl⟩,st',fun b hb=>(hf b hb).1⟩⟩
  rw [Int.mul_one]
 done:=by
  intro X hP hw hK hc i pins s σ H E I hf st hg
  subst hP hw hK
  obtain ⟨f0,f1,f2,f3,f4,f5⟩:=hf it (by simp)
  exact wpAny_pyNext_range_end (I.ok.hd hc) st (by have:n<=i:=hg; omega) fun h' eb=>⟨rfl,I.turned (t':=s.toks) (fun b o hb e=>eb b o hb e) f0 f1 f3 f4 f5⟩
 self:=fun _ _ _ _ _ st h=>wpAny_pyIter_rangeiter st h
end L2
namespace L2
open PySem PySem.Spec PyProof.Rows
section
variable {X:Cx} {tg:Expr}
noncomputable def iList (K:PySem.W.Frag) (tl:TE):TI:=fun σ H R=>tl σ H fun x H1=>∃ a,x=.ref a/\(∃ xs,SqL K H1 a xs)/\R (Itl K a) H1
noncomputable def iTup (K:PySem.W.Frag) (tl:TE):TI:=fun σ H R=>tl σ H fun x H1=>∃ a,x=.ref a/\(∃ xs,SqT K H1 a xs)/\R (Itt K a) H1
theorem pi_list {l:Expr} {tl:TE} (hl:PE X l tl):PI X tg l (iList X.K tl):=by
 intro pins s σ H R I h
 refine thn (hl pins s σ H _ I h) fun v s1 ⟨x,H1,I1,r1,q1⟩=>?_
 obtain ⟨a,e,⟨xs,hq⟩,q⟩:=q1
 subst e
 cases r1
 obtain ⟨its,rv,p,hz⟩:=I1.list hq
 refine wpAny_pyIter_list p.isList ?_
 refine ⟨s1.heap.objs.size,[s1.heap.objs.size],_,_,H1,rfl,I1.kept (t':=s1.toks) fun b o e=>Heap.get?_push_of_some _ e,turn_list a _,⟨_,Heap.get?_push_size _ rfl,rfl,rfl⟩,fun b hb=>?_,q⟩
 have e:b=s1.heap.objs.size:=by simpa using hb
 subst e
 exact I1.fpOk (Nat.le_refl _) (I1.hok.fresh (Nat.le_refl _))
theorem pi_tup {l:Expr} {tl:TE} (hl:PE X l tl):PI X tg l (iTup X.K tl):=by
 intro pins s σ H R I h
 refine thn (hl pins s σ H _ I h) fun v s1 ⟨x,H1,I1,r1,q1⟩=>?_
 obtain ⟨a,e,⟨xs,hq⟩,q⟩:=q1
 subst e
 cases r1
 obtain ⟨its,rv,p,hz⟩:=I1.tuple hq
 refine wpAny_pyIter_tuple (show s1.heap.IsTuple a its.toArray from p) ?_
 refine ⟨s1.heap.objs.size,[s1.heap.objs.size],_,_,H1,rfl,I1.kept (t':=s1.toks) fun b o e=>Heap.get?_push_of_some _ e,turn_tuple a _,⟨_,Heap.get?_push_size _ rfl,rfl,rfl⟩,fun b hb=>?_,q⟩
 have e:b=s1.heap.objs.size:=by simpa using hb
 subst e
 exact I1.fpOk (Nat.le_refl _) (I1.hok.fresh (Nat.le_refl _))
theorem range_it {pins:List (Addr × Obj)} {σ:St} {H:Hp} {s:Shared} {R:It->Hp->Prop} {E:Value->Shared->Prop} {lo hi:Int} {t u v:Tok} {tk:Nat} (I:Inv X pins σ H s) (h1:-(2 ^ 62)<=lo) (h2:lo < 2 ^ 62) (h3:-(2 ^ 62)<=hi) (h4:hi < 2 ^ 62)
  (q:R (Itr lo (hi - lo).toNat) H):wpAny (model X.prog X.w) X.A (pyIter (.ref s.heap.objs.size)) (PIE X pins σ tg R) E { s with heap:=s.heap.push { cls:=.type "range",data:=.fields #[.int lo t,.int hi u,.int 1 v] },toks:=tk }:=by
 refine wpAny_pyIter_range (IsRange.new ..) (small_one h1 h2 h3 h4) ?_
 have I1:Inv X pins σ H { s with heap:=s.heap.push { cls:=.type "range",data:=.fields #[.int lo t,.int hi u,.int 1 v] },toks:=tk }:=I.kept fun b o e=>Heap.get?_push_of_some _ e
 refine ⟨(s.heap.push { cls:=.type "range",data:=.fields #[.int lo t,.int hi u,.int 1 v] }).objs.size,[(s.heap.push { cls:=.type "range",data:=.fields #[.int lo t,.int hi u,.int 1 v] }).objs.size],_,_,H,rfl,
  I1.kept (t':=tk) fun b o e=>Heap.get?_push_of_some _ e,turn_range _ lo (hi - lo).toNat,?_,fun b hb=>?_,q⟩
 ·have e1:lo+((0:Nat):Int) * 1=lo:=by simp
  have e2:(((hi - lo).toNat:Nat):Int) - ((0:Nat):Int)=Builtin.Range.rangeSize lo hi 1:=by rw [rangeSize_one]; split <;> omega
  show IsRangeIter _ _ (lo+((0:Nat):Int) * 1) ((((hi - lo).toNat:Nat):Int) - ((0:Nat):Int)) 1
  rw [e1,e2]
  exact Heap.get?_push_size _ rfl
 ·have e:b=(s.heap.push { cls:=.type "range",data:=.fields #[.int lo t,.int hi u,.int 1 v] }).objs.size:=by simpa using hb
  subst e
  exact I1.fpOk (Nat.le_refl _) (I1.hok.fresh (Nat.le_refl _))
noncomputable def iRng1 (ta:TA):TI:=fun σ H R=>ta σ H fun vs H1=>∃ j:Int,vs=[.int j]/\-(2 ^ 62)<=j/\j < 2 ^ 62/\R (Itr 0 j.toNat) H1
theorem pi_range1 {a:Expr} {ta:TA} {p pos:Pos} (hg:Gl X "range") (hm:X.mg "range" = none) (ha:PA X [a] ta) (hs:starEach [a] X.env=[(false,eval a X.env)]:=by rfl):PI X tg (.Call (.Name "range" p) [a] [] pos) (iRng1 ta):=by
 intro pins s σ H R I h
 refine Call_ (ld_blt I hg hm boot_range (PyProof.Rows.callWith_type1 (thn (ha pos pins s σ H _ I h) fun us s1 ⟨vs,H1,I1,r1,q1⟩=>?_) hs rfl))
 obtain ⟨j,e,q1,q2,q⟩:=q1
 subst e
 cases r1 with
 | cons r rr =>
  cases rr
  obtain ⟨t,rfl⟩:=r
  exact call_range_1 (range_it I1 (by omega) (by omega) q1 q2 (by simpa using q))
noncomputable def tFor (wi:TI) (g:TG) (tb:TS):TS:=fun D σ H=>wi σ H fun J H1=>∃ W:Nat->Nat->St->Hp->Prop,(∃ m,W 0 m σ H1)/\∀ i m σ H,W i m σ H ->
 (J.stop i H/\D.nx σ H)\/(J.go i H/\∃ N:St->Hp->Prop,(∀ σ' H',N σ' H'->∃ m',m' < m/\W (i+1) m' σ' H')/\∀ x H',J.yld i H x H'->g x σ H' fun σ2 H2=>tb { D with nx:=N,ct:=N,bk:=D.nx } σ2 H2)
noncomputable def pinsAt (fp:List Addr) (h:Heap):List (Addr × Obj):=fp.filterMap fun b=>(h.get? b).map fun o=>(b,o)
theorem mem_pinsAt {fp:List Addr} {h:Heap} {b:Addr} {o:Obj} (hb:b∈fp) (e:h.get? b=some o):(b,o)∈pinsAt fp h:=List.mem_filterMap.mpr ⟨b,hb,by rw [e]; rfl⟩
theorem of_pinsAt {fp:List Addr} {h:Heap} {p:Addr × Obj} (hp:p∈pinsAt fp h):p.1∈fp/\h.get? p.1=some p.2:=by
 obtain ⟨b,hb,e⟩:=List.mem_filterMap.mp hp
 cases q:h.get? b with
 | none=>rw [q] at e; cases e
 | some o =>
  rw [q] at e
  have e':(b,o)=p:=Option.some.inj e
  subst e'
  exact ⟨hb,q⟩
theorem Inv.pinned {pins:List (Addr × Obj)} {σ:St} {H:Hp} {s:Shared} {fp:List Addr} (I:Inv X pins σ H s) (hf:∀ b∈fp,FpOk X pins H b) (ho:∀ b∈fp,∃ o,s.heap.get? b=some o/\∀ v,o.data ≠ .cell v):Inv X (pins ++ pinsAt fp s.heap) σ H s :=
 I.pins_of fun p hp=>(List.mem_append.mp hp).elim (fun z=>I.pin p (List.mem_append_right _ z)) fun z=>by
  obtain ⟨hb,e⟩:=of_pinsAt z
  obtain ⟨f0,f1,f2,_⟩:=hf p.1 hb
  obtain ⟨o,e',d⟩:=ho p.1 hb
  rw [e] at e'; cases e'
  exact ⟨e,f0,f1,f2,d⟩
theorem Inv.unpinned {pins pl:List (Addr × Obj)} {σ:St} {H:Hp} {s:Shared} (I:Inv X (pins ++ pl) σ H s):Inv X pins σ H s:=I.pins_of fun p hp=>I.pin p (List.mem_append_right _ (List.mem_append_left _ hp))
theorem ps_for {iter:Expr} {body:List Stmt} {wi:TI} {g:TG} {tb:TS} {pos:Pos} (hp:PassesOwn (model X.prog X.w) X.A X.env X.xe) (hc:X.calm=true) (hi:PI X tg iter wi) (hg:PG X tg g) (hb:PSs X body tb)
  (hs:∀ x,foldedSetIterable iter X.env x=pure x:=by intro _; rfl):PS X (.For tg iter body [] pos) (tFor wi g tb):=by
 intro pins s σ H D I h
 refine wpAny_For (thn (hi pins s σ H _ I h) fun v s1 h1=>thn h1 fun itv s2 h2=>?_) hs
 obtain ⟨it,fp,tn,J,H2,e,I2,T,st2,f2,W,⟨m0,w0⟩,turn⟩:=h2
 subst e
 have stat:∀ {H':Hp},(∀ b∈fp,H' b=none)->∀ b∈fp,FpOk X pins H' b:=fun hn b hb=>⟨hn b hb,(f2 b hb).2⟩
 refine codeAny_forLoop_any (fun n s'=>∃ i σ' H',Inv X pins σ' H' s'/\tn i s'.heap/\(∀ b∈fp,H' b=none)/\W i n σ' H') ?_ m0 ⟨0,σ,H2,I2,st2,fun b hb=>(f2 b hb).1,w0⟩
 intro n s3 z9;obtain ⟨i,σ3,H3,I3,st3,fr3,w3⟩ := z9
 rcases turn i n σ3 H3 w3 with ⟨stop,qn⟩ | ⟨go,N,hN,step⟩
 ·refine wpAny_passesOwn hp (thn (T.done X rfl rfl rfl hc i pins s3 σ3 H3 X.xe I3 (stat fr3) st3 stop) fun r s4 ⟨hr,I4⟩=>?_)
  subst hr
  exact wpAny_execs_nil ⟨σ3,H3,I4,qn⟩
 ·refine wpAny_passesOwn hp (thn (T.item X rfl rfl rfl hc i pins s3 σ3 H3 X.xe I3 (stat fr3) st3 go) fun r s4 ⟨u,hr,h4⟩=>?_)
  subst hr
  refine wpAny_passesOwn hp (thn h4 fun _ s5 ⟨x,H5,I5,r5,y5,st5,fr5⟩=>?_)
  have I5':=I5.pinned (stat fr5) (T.obj _ _ st5)
  refine wpAny_passesOwn hp (thn (hg _ s5 σ3 H5 x u _ I5' r5 (step x H5 y5)) fun _ s6 ⟨σ6,H6,I6,q6⟩=>?_)
  refine wpAny_passesOwn hp (thn (hb _ s6 σ6 H6 _ I6 q6) fun f s7 q7=>?_)
  have again:∀ {σ7:St} {H7:Hp},Inv X (pins ++ pinsAt fp s5.heap) σ7 H7 s7->N σ7 H7->∃ m,m < n/\∃ i σ' H',Inv X pins σ' H' s7/\tn i s7.heap/\(∀ b∈fp,H' b=none)/\W i m σ' H':=fun {σ7 H7} I7 n7=>by
   obtain ⟨m',hm,w7⟩:=hN σ7 H7 n7
   refine ⟨m',hm,i+1,σ7,H7,I7.unpinned,T.keep _ _ _ st5 fun b hb o e=>(I7.pin (b,o) (List.mem_append_right _ (List.mem_append_right _ (mem_pinsAt hb e)))).1,fun b hb=>?_,w7⟩
   obtain ⟨o,e,d⟩:=T.obj _ _ st5 b hb
   exact (I7.pin (b,o) (List.mem_append_right _ (List.mem_append_right _ (mem_pinsAt hb e)))).2.1
  cases f with
  | next=>obtain ⟨σ7,H7,I7,n7⟩:=q7; exact again I7 n7
  | cont=>obtain ⟨σ7,H7,I7,n7⟩:=q7; exact again I7 n7
  | brk=>obtain ⟨σ7,H7,I7,q7⟩:=q7; exact ⟨σ7,H7,I7.unpinned,q7⟩
  | ret v=>obtain ⟨x7,σ7,H7,I7,r7,q7⟩:=q7; exact ⟨x7,σ7,H7,I7.unpinned,r7,q7⟩
end
theorem for_list {K:PySem.W.Frag} {a:Addr} {xs:List V} {g:TG} {tb:TS} {D:Ends} {σ:St} {H:Hp} (Pv:Nat->St->Hp->Prop) (h0:Pv 0 σ H) (hl:∀ i σ H,i<=xs.length->Pv i σ H->SqL K H a xs)
  (hs:∀ i x σ H,xs[i]?=some x->Pv i σ H->g x σ H fun σ2 H2=>tb { D with nx:=Pv (i+1),ct:=Pv (i+1),bk:=D.nx } σ2 H2) (hd:∀ σ H,Pv xs.length σ H->D.nx σ H) :
  ∃ W:Nat->Nat->St->Hp->Prop,(∃ m,W 0 m σ H)/\∀ i m σ H,W i m σ H ->
   ((Itl K a).stop i H/\D.nx σ H)\/((Itl K a).go i H/\∃ N:St->Hp->Prop,(∀ σ' H',N σ' H'->∃ m',m' < m/\W (i+1) m' σ' H')/\∀ x H',(Itl K a).yld i H x H'->g x σ H' fun σ2 H2=>tb { D with nx:=N,ct:=N,bk:=D.nx } σ2 H2):=by
 refine ⟨fun i m σ H=>m=xs.length - i/\i<=xs.length/\Pv i σ H,⟨xs.length,by simp,Nat.zero_le _,h0⟩,?_⟩
 intro i m σ H z9;obtain ⟨rfl,hi,p⟩ := z9
 have q:=hl i σ H hi p
 by_cases hlt:i < xs.length
 ·refine .inr ⟨⟨xs,xs[i],q,by simp [hlt]⟩,Pv (i+1),fun σ' H' p'=>⟨xs.length - (i+1),by omega,rfl,hlt,p'⟩,fun x H' y=>?_⟩
  obtain ⟨e,y⟩:=y
  subst e
  exact hs i x σ _ (y xs q) p
 ·have e:i=xs.length:=by omega
  subst e
  exact .inl ⟨⟨xs,q,Nat.le_refl _⟩,hd σ H p⟩
theorem for_range {lo:Int} {n:Nat} {g:TG} {tb:TS} {D:Ends} {σ:St} {H:Hp} (Pv:Nat->St->Hp->Prop) (h0:Pv 0 σ H)
  (hs:∀ i σ H,i < n->Pv i σ H->g (.int (lo+i)) σ H fun σ2 H2=>tb { D with nx:=Pv (i+1),ct:=Pv (i+1),bk:=D.nx } σ2 H2) (hd:∀ σ H,Pv n σ H->D.nx σ H) :
  ∃ W:Nat->Nat->St->Hp->Prop,(∃ m,W 0 m σ H)/\∀ i m σ H,W i m σ H ->
   ((Itr lo n).stop i H/\D.nx σ H)\/((Itr lo n).go i H/\∃ N:St->Hp->Prop,(∀ σ' H',N σ' H'->∃ m',m' < m/\W (i+1) m' σ' H')/\∀ x H',(Itr lo n).yld i H x H'->g x σ H' fun σ2 H2=>tb { D with nx:=N,ct:=N,bk:=D.nx } σ2 H2):=by
 refine ⟨fun i m σ H=>m=n - i/\i<=n/\Pv i σ H,⟨n,by simp,Nat.zero_le _,h0⟩,?_⟩
 intro i m σ H z9;obtain ⟨rfl,hi,p⟩ := z9
 by_cases hlt:i < n
 ·refine .inr ⟨hlt,Pv (i+1),fun σ' H' p'=>⟨n - (i+1),by omega,rfl,hlt,p'⟩,fun x H' y=>?_⟩
  obtain ⟨e,y⟩:=y
  subst e y
  exact hs i σ _ hlt p
 ·have e:i=n:=by omega
  subst e
  exact .inl ⟨Nat.le_refl _,hd σ H p⟩
theorem while_by {c:TT} {tb:TS} {D:Ends} {σ:St} {H:Hp} (Pv:St->Hp->Prop) (μ:St->Hp->Nat) (h0:Pv σ H)
  (hs:∀ σ H,Pv σ H->c σ H fun b H1=>if b=true then tb { D with nx:=fun σ' H'=>Pv σ' H'/\μ σ' H' < μ σ H,ct:=fun σ' H'=>Pv σ' H'/\μ σ' H' < μ σ H,bk:=D.nx } σ H1 else D.nx σ H1)
  (mono:∀ σ H Q Q',(∀ b H1,Q b H1->Q' b H1)->c σ H Q->c σ H Q'):tWhile c tb D σ H:=by
 refine ⟨fun m σ H=>m=μ σ H/\Pv σ H,⟨_,rfl,h0⟩,?_⟩
 intro m σ H z9;obtain ⟨rfl,p⟩ := z9
 refine mono σ H _ _ (fun b H1 q=>?_) (hs σ H p)
 cases b with
 | true=>exact ⟨_,fun σ' H' ⟨p',l⟩=>⟨_,l,rfl,p'⟩,q⟩
 | false=>exact q
end L2
namespace L2
open PySem PySem.Spec PyProof.Rows
noncomputable abbrev R2:=V->V->Hp->VK->Prop
noncomputable def OpR (X:Cx) (f:Value->Value->Sem Value) (r:R2):Prop :=
 ∀ (pins:List (Addr × Obj)) (s:Shared) (σ:St) (H:Hp) (x y:V) (v u:Value) (Q:VK),Inv X pins σ H s->RelV x v->RelV y u->r x y H Q ->
  wpAny (model X.prog X.w) X.A (f v u) (EP X pins σ Q) X.xe s
noncomputable def UnR (X:Cx) (f:Value->Sem Value) (r:V->Hp->VK->Prop):Prop :=
 ∀ (pins:List (Addr × Obj)) (s:Shared) (σ:St) (H:Hp) (x:V) (v:Value) (Q:VK),Inv X pins σ H s->RelV x v->r x H Q ->
  wpAny (model X.prog X.w) X.A (f v) (EP X pins σ Q) X.xe s
noncomputable def CallR (X:Cx) (f:Value) (r:List V->Hp->VK->Prop):Prop :=
 ∀ (pins:List (Addr × Obj)) (s:Shared) (σ:St) (H:Hp) (xs:List V) (us:List Value) (Q:VK),Inv X pins σ H s->Vals xs us->r xs H Q ->
  wpAny (model X.prog X.w) X.A (call f us) (EP X pins σ Q) X.xe s
noncomputable def tOp (r:R2) (ta tb:TE):TE:=fun σ H Q=>ta σ H fun x H1=>tb σ H1 fun y H2=>r x y H2 Q
noncomputable def tUn (r:V->Hp->VK->Prop) (ta:TE):TE:=fun σ H Q=>ta σ H fun x H1=>r x H1 Q
noncomputable def rI (C:Int->Int->Prop) (g:Int->Int->V):R2:=fun x y H Q=>∃ i j,x=.int i/\y=.int j/\C i j/\Q (g i j) H
noncomputable def rI0 (g:Int->Int->V):R2:=fun x y H Q=>∃ i j,x=.int i/\y=.int j/\Q (g i j) H
noncomputable def rU (g:Int->V):V->Hp->VK->Prop:=fun x H Q=>∃ i,x=.int i/\Q (g i) H
section
variable {X:Cx} {a b c:Expr} {ta tb tc:TE} {pos:Pos}
theorem binT (ha:PE X a ta) (hb:PE X b tb) {pins:List (Addr × Obj)} {s:Shared} {σ:St} {H:Hp} {R:V->V->Hp->Prop} (I:Inv X pins σ H s)
  (h:ta σ H fun x H1=>tb σ H1 fun y H2=>R x y H2) {Q:Value->Shared->Prop} {f:Value->Value->Sem Value}
  (hf:∀ v u s2 x y H2,Inv X pins σ H2 s2->RelV x v->RelV y u->R x y H2->wpAny (model X.prog X.w) X.A (f v u) Q X.xe s2) :
  wpAny (model X.prog X.w) X.A (eval a X.env) (fun v s₁=>wpAny (model X.prog X.w) X.A (eval b X.env) (fun u s₂=>wpAny (model X.prog X.w) X.A (f v u) Q X.xe s₂) X.xe s₁) X.xe s:=by
 refine thn (ha pins s σ H _ I h) fun v s1 ⟨x,H1,I1,r1,q1⟩=>?_
 refine thn (hb pins s1 σ H1 _ I1 q1) fun u s2 ⟨y,H2,I2,r2,q2⟩=>?_
 exact hf v u s2 x y H2 I2 r1 r2 q2
theorem pe_op {op:Operator} {r:R2} (ho:OpR X (binaryOp op) r) (ha:PE X a ta) (hb:PE X b tb):PE X (.BinOp a op b pos) (tOp r ta tb):=by
 intro pins s σ H Q I h
 exact wpAny_BinOp (binT ha hb I h fun v u s2 x y H2 I2 rx ry q=>ho pins s2 σ H2 x y v u Q I2 rx ry q)
theorem pe_un {op:UnaryOp} {r:V->Hp->VK->Prop} (ho:UnR X (unaryOp op) r) (ha:PE X a ta):PE X (.UnaryOp op a pos) (tUn r ta):=by
 intro pins s σ H Q I h
 exact UnaryOp_ (thn (ha pins s σ H _ I h) fun v s1 ⟨x,H1,I1,r1,q1⟩=>ho pins s1 σ H1 x v Q I1 r1 q1)
theorem opI {f:Value->Value->Sem Value} {C:Int->Int->Prop} {g:Int->Int->Int}
  (rule:∀ (i j:Int) (t u:Tok) (s:Shared) (Q:Value->Shared->Prop) (E:Value->Shared->Prop),C i j->Q (.int (g i j) s.toks) { s with toks:=s.toks+1 }->wpAny (model X.prog X.w) X.A (f (.int i t) (.int j u)) Q E s) :
  OpR X f (rI C fun i j=>.int (g i j)):=by
 intro pins s σ H x y v u Q I rx ry h
 obtain ⟨i,j,rfl,rfl,hc,q⟩:=h
 obtain ⟨t,rfl⟩:=rx
 obtain ⟨t',rfl⟩:=ry
 exact rule i j t t' s _ _ hc ⟨.int (g i j),H,I.tok _,⟨_,rfl⟩,q⟩
theorem opI0 {f:Value->Value->Sem Value} {g:Int->Int->Int}
  (rule:∀ (i j:Int) (t u:Tok) (s:Shared) (Q:Value->Shared->Prop) (E:Value->Shared->Prop),Q (.int (g i j) s.toks) { s with toks:=s.toks+1 }->wpAny (model X.prog X.w) X.A (f (.int i t) (.int j u)) Q E s) :
  OpR X f (rI0 fun i j=>.int (g i j)):=by
 intro pins s σ H x y v u Q I rx ry h
 obtain ⟨i,j,rfl,rfl,q⟩:=h
 obtain ⟨t,rfl⟩:=rx
 obtain ⟨t',rfl⟩:=ry
 exact rule i j t t' s _ _ ⟨.int (g i j),H,I.tok _,⟨_,rfl⟩,q⟩
theorem opB0 {f:Value->Value->Sem Value} {g:Int->Int->Bool}
  (rule:∀ (i j:Int) (t u:Tok) (s:Shared) (Q:Value->Shared->Prop) (E:Value->Shared->Prop),Q (.bool (g i j)) s->wpAny (model X.prog X.w) X.A (f (.int i t) (.int j u)) Q E s) :
  OpR X f (rI0 fun i j=>.bl (g i j)):=by
 intro pins s σ H x y v u Q I rx ry h
 obtain ⟨i,j,rfl,rfl,q⟩:=h
 obtain ⟨t,rfl⟩:=rx
 obtain ⟨t',rfl⟩:=ry
 exact rule i j t t' s _ _ ⟨.bl (g i j),H,I,rfl,q⟩
noncomputable def CPow (i j:Int):Prop:=0<=j/\j<=1000000/\i.natAbs < 2 ^ 64
noncomputable def CMul (i j:Int):Prop:=(-(2 ^ 64) < i/\i < 2 ^ 64)\/(-(2 ^ 64) < j/\j < 2 ^ 64)
theorem CMul.ok {i j:Int} (h:CMul i j):IntMulOk i j:=by
 rcases h with ⟨h1,h2⟩ | ⟨h1,h2⟩
 ·exact .of_left (intBits_le_64 h1 h2)
 ·exact .of_right (intBits_le_64 h1 h2)
theorem op_add:OpR X (binaryOp .Add) (rI0 fun i j=>.int (i+j)):=opI0 fun _ _ _ _ _ _ _ q=>add_int q
theorem op_sub:OpR X (binaryOp .Sub) (rI0 fun i j=>.int (i - j)):=opI0 fun _ _ _ _ _ _ _ q=>sub_int q
theorem op_mul:OpR X (binaryOp .Mult) (rI CMul fun i j=>.int (i * j)):=opI fun _ _ _ _ _ _ _ hc q=>mul_int q hc.ok
theorem op_mod:OpR X (binaryOp .Mod) (rI (fun _ j=>0 < j) fun i j=>.int (i % j)):=opI fun i j _ _ _ _ _ hc q=>by
 have h1:(0:Int) < j:=hc
 exact mod_int' (by omega) (by rw [Int.fmod_eq_emod_of_nonneg i (by omega)]; exact q)
theorem op_pow:OpR X (binaryOp .Pow) (rI CPow fun i j=>.int (i ^ j.toNat)):=opI fun _ _ _ _ _ _ _ hc q=>pow_int_small hc.1 hc.2.1 hc.2.2 q
theorem unI {f:Value->Sem Value} {g:Int->Int}
  (rule:∀ (i:Int) (t:Tok) (s:Shared) (Q:Value->Shared->Prop) (E:Value->Shared->Prop),Q (.int (g i) s.toks) { s with toks:=s.toks+1 }->wpAny (model X.prog X.w) X.A (f (.int i t)) Q E s) :
  UnR X f (rU fun i=>.int (g i)):=by
 intro pins s σ H x v Q I rx h
 obtain ⟨i,rfl,q⟩:=h
 obtain ⟨t,rfl⟩:=rx
 exact rule i t s _ _ ⟨.int (g i),H,I.tok _,⟨_,rfl⟩,q⟩
theorem un_neg:UnR X (unaryOp .USub) (rU fun i=>.int (-i)):=unI fun _ _ _ _ _ q=>neg_int q
end
noncomputable def scal:V->V->Bool
 | .non,.non=>true | .non,.int _=>true | .int _,.non=>true | .non,.bl _=>true | .bl _,.non=>true | .non,.str _=>true | .str _,.non=>true
 | .int _,.int _=>true | .bl _,.bl _=>true | .str _,.str _=>true | .byt _,.byt _=>true
 | .int _,.str _=>true | .str _,.int _=>true | .bl _,.str _=>true | .str _,.bl _=>true
 | _,_=>false
noncomputable def rEq:R2:=fun x y H Q=>scal x y=true/\Q (.bl (decide (x=y))) H
noncomputable def rNe:R2:=fun x y H Q=>scal x y=true/\Q (.bl (!decide (x=y))) H
theorem dec_int {i j:Int}:decide (V.int i=V.int j)=(i == j):=by
 rw [Bool.eq_iff_iff]
 simp
theorem dec_bl {i j:Bool}:decide (V.bl i=V.bl j)=(i == j):=by
 rw [Bool.eq_iff_iff]
 simp
theorem dec_str {i j:Str}:decide (V.str i=V.str j)=(i == j):=by
 rw [Bool.eq_iff_iff]
 simp
theorem dec_byt {i j:Array UInt8}:decide (V.byt i=V.byt j)=(i.toList == j.toList):=by
 rw [Bool.eq_iff_iff]
 cases i
 cases j
 simp
section
variable {X:Cx} {a b c:Expr} {ta tb tc:TE} {pos:Pos}
theorem fin_bl {pins:List (Addr × Obj)} {σ:St} {H:Hp} {s:Shared} {Q:VK} {k k':Bool} (I:Inv X pins σ H s) (q:Q (.bl k) H) (e:k=k'):EP X pins σ Q (.bool k') s:=by
 subst e
 exact ⟨.bl k,H,I,rfl,q⟩
theorem op_eq:OpR X (compareOp .Eq) rEq:=by
 intro pins s σ H x y v u Q I rx ry h
 obtain ⟨hs,q⟩:=h
 cases x with
 | non =>
  cases rx
  cases y with
  | non=>cases ry; exact PySem.EqNone.eq_none_none (fin_bl I q (by simp))
  | bl j=>cases ry; exact PySem.EqNone.eq_none_bool (fin_bl I q (by simp))
  | int j=>obtain ⟨t',rfl⟩:=ry; exact PySem.EqNone.eq_none_int (fin_bl I q (by simp))
  | str j=>obtain ⟨t',rfl⟩:=ry; exact PySem.EqNone.eq_none_str (fin_bl I q (by simp))
  | _=>exact absurd (show false=true from hs) Bool.false_ne_true
 | bl i =>
  cases rx
  cases y with
  | non=>cases ry; exact PySem.EqNone.eq_bool_none (fin_bl I q (by simp))
  | bl j=>cases ry; exact eq_bool (fin_bl I q dec_bl)
  | str j=>obtain ⟨t',rfl⟩:=ry; exact PySem.EqMixed.eq_bool_str (fin_bl I q (by simp))
  | _=>exact absurd (show false=true from hs) Bool.false_ne_true
 | int i =>
  obtain ⟨t,rfl⟩:=rx
  cases y with
  | non=>cases ry; exact PySem.EqNone.eq_int_none (fin_bl I q (by simp))
  | int j=>obtain ⟨t',rfl⟩:=ry; exact eq_int (fin_bl I q dec_int)
  | str j=>obtain ⟨t',rfl⟩:=ry; exact PySem.EqMixed.eq_int_str (fin_bl I q (by simp))
  | _=>exact absurd (show false=true from hs) Bool.false_ne_true
 | str i =>
  obtain ⟨t,rfl⟩:=rx
  cases y with
  | non=>cases ry; exact PySem.EqNone.eq_str_none (fin_bl I q (by simp))
  | bl j=>cases ry; exact PySem.EqMixed.eq_str_bool (fin_bl I q (by simp))
  | int j=>obtain ⟨t',rfl⟩:=ry; exact PySem.EqMixed.eq_str_int (fin_bl I q (by simp))
  | str j=>obtain ⟨t',rfl⟩:=ry; exact eq_str (fin_bl I q dec_str)
  | _=>exact absurd (show false=true from hs) Bool.false_ne_true
 | byt i =>
  obtain ⟨t,rfl⟩:=rx
  cases y with
  | byt j=>obtain ⟨t',rfl⟩:=ry; exact PySem.W.eq_bytes (fin_bl I q dec_byt)
  | _=>exact absurd (show false=true from hs) Bool.false_ne_true
 | _=>cases y <;> exact absurd (show false=true from hs) Bool.false_ne_true
theorem op_ne:OpR X (compareOp .NotEq) rNe:=by
 intro pins s σ H x y v u Q I rx ry h
 obtain ⟨hs,q⟩:=h
 cases x with
 | non =>
  cases rx
  cases y with
  | non=>cases ry; exact PySem.EqNone.ne_none_none (fin_bl I q (by simp))
  | bl j=>cases ry; exact PySem.EqNone.ne_none_bool (fin_bl I q (by simp))
  | int j=>obtain ⟨t',rfl⟩:=ry; exact PySem.EqNone.ne_none_int (fin_bl I q (by simp))
  | str j=>obtain ⟨t',rfl⟩:=ry; exact PySem.EqNone.ne_none_str (fin_bl I q (by simp))
  | _=>exact absurd (show false=true from hs) Bool.false_ne_true
 | bl i =>
  cases rx
  cases y with
  | non=>cases ry; exact PySem.EqNone.ne_bool_none (fin_bl I q (by simp))
  | bl j=>cases ry; exact ne_bool (fin_bl I q (congrArg not dec_bl))
  | str j=>obtain ⟨t',rfl⟩:=ry; exact PySem.EqMixed.ne_bool_str (fin_bl I q (by simp))
  | _=>exact absurd (show false=true from hs) Bool.false_ne_true
 | int i =>
  obtain ⟨t,rfl⟩:=rx
  cases y with
  | non=>cases ry; exact PySem.EqNone.ne_int_none (fin_bl I q (by simp))
  | int j=>obtain ⟨t',rfl⟩:=ry; exact ne_int (fin_bl I q (congrArg not dec_int))
  | str j=>obtain ⟨t',rfl⟩:=ry; exact PySem.EqMixed.ne_int_str (fin_bl I q (by simp))
  | _=>exact absurd (show false=true from hs) Bool.false_ne_true
 | str i =>
  obtain ⟨t,rfl⟩:=rx
  cases y with
  | non=>cases ry; exact PySem.EqNone.ne_str_none (fin_bl I q (by simp))
  | bl j=>cases ry; exact PySem.EqMixed.ne_str_bool (fin_bl I q (by simp))
  | int j=>obtain ⟨t',rfl⟩:=ry; exact PySem.EqMixed.ne_str_int (fin_bl I q (by simp))
  | str j=>obtain ⟨t',rfl⟩:=ry; exact ne_str (fin_bl I q (congrArg not dec_str))
  | _=>exact absurd (show false=true from hs) Bool.false_ne_true
 | byt i =>
  obtain ⟨t,rfl⟩:=rx
  cases y with
  | byt j=>obtain ⟨t',rfl⟩:=ry; exact PySem.W.ne_bytes (fin_bl I q (congrArg not dec_byt))
  | _=>exact absurd (show false=true from hs) Bool.false_ne_true
 | _=>cases y <;> exact absurd (show false=true from hs) Bool.false_ne_true
theorem op_lt:OpR X (compareOp .Lt) (rI0 fun i j=>.bl (decide (i < j))):=opB0 fun _ _ _ _ _ _ _ q=>lt_int q
theorem op_le:OpR X (compareOp .LtE) (rI0 fun i j=>.bl (decide (i<=j))):=opB0 fun _ _ _ _ _ _ _ q=>le_int q
theorem op_gt:OpR X (compareOp .Gt) (rI0 fun i j=>.bl (decide (j < i))):=opB0 fun _ _ _ _ _ _ _ q=>gt_int q
theorem op_ge:OpR X (compareOp .GtE) (rI0 fun i j=>.bl (decide (j<=i))):=opB0 fun _ _ _ _ _ _ _ q=>ge_int q
theorem nomark (b:Expr) {op:CmpOp} (h:op ≠ .In:=by decide) (h2:op ≠ .NotIn:=by decide):behindInMarks op b=false:=by
 have e1:(op == CmpOp.In)=false:=by cases op <;> first | rfl | exact absurd rfl h
 have e2:(op == CmpOp.NotIn)=false:=by cases op <;> first | rfl | exact absurd rfl h2
 cases b <;> simp [behindInMarks,e1,e2]
theorem pe_cmpR {op:CmpOp} {r:R2} (ho:OpR X (compareOp op) r) (ha:PE X a ta) (hb:PE X b tb) (hm:behindInMarks op b=false):PE X (.Compare a [op] [b] pos) (tOp r ta tb):=by
 intro pins s σ H Q I h
 exact wpAny_Compare1 (binT ha hb I h fun v u s2 x y H2 I2 rx ry q=>ho pins s2 σ H2 x y v u Q I2 rx ry q) hm
noncomputable def tTest (t:TE):TT:=fun σ H Q=>t σ H fun x H'=>∃ k,x=.bl k/\Q k H'
theorem pt_cmpR {op:CmpOp} {r:R2} (ho:OpR X (compareOp op) r) (ha:PE X a ta) (hb:PE X b tb) (hm:behindInMarks op b=false):PT X (.Compare a [op] [b] pos) (tTest (tOp r ta tb)):=by
 intro pins s σ H Q I h
 refine wpAny_isTrue_Compare1 (thn (ha pins s σ H _ I h) fun v s1 ⟨x,H1,I1,r1,q1⟩=>thn (hb pins s1 σ H1 _ I1 q1) fun u s2 ⟨y,H2,I2,r2,q2⟩ =>
  thn (ho pins s2 σ H2 x y v u _ I2 r1 r2 q2) fun c s3 ⟨z,H3,I3,r3,k,e,q3⟩=>?_) hm
 subst e
 cases r3
 exact wpAny_truthy_bool ⟨H3,I3,q3⟩
noncomputable def tChain (r r':R2) (ta tb tc:TE):TE:=fun σ H Q=>ta σ H fun x H1=>tb σ H1 fun y H2=>r x y H2 fun z H3=>∃ k,z=.bl k /\
 (if k=true then tc σ H3 fun w' H4=>r' y w' H4 Q else Q (.bl false) H3)
theorem pe_chain {op op':CmpOp} {r r':R2} (ho:OpR X (compareOp op) r) (ho':OpR X (compareOp op') r') (ha:PE X a ta) (hb:PE X b tb) (hc:PE X c tc)
  (hm:lastMarks [op,op'] [b,c]=false:=by with_unfolding_all rfl):PE X (.Compare a [op,op'] [b,c] pos) (tChain r r' ta tb tc):=by
 intro pins s σ H Q I h
 refine Compare_chain (thn (ha pins s σ H _ I h) fun v s1 ⟨x,H1,I1,r1,q1⟩=>chain_link (thn (hb pins s1 σ H1 _ I1 q1) fun u s2 ⟨y,H2,I2,r2,q2⟩ =>
  thn (ho pins s2 σ H2 x y v u _ I2 r1 r2 q2) fun d s3 ⟨z,H3,I3,r3,k,e,q3⟩=>?_)) hm
 subst e
 cases r3
 refine wpAny_truthy_bool ?_
 cases k with
 | false=>exact ite_ff ⟨.bl false,H3,I3,rfl,q3⟩
 | true=>exact ite_tt (chain_last (thn (hc pins s3 σ H3 _ I3 q3) fun w' s4 ⟨z',H4,I4,r4,q4⟩=>ho' pins s4 σ H4 y z' u w' Q I4 r2 r4 q4))
theorem line63:(sizeLine:Nat) < 2 ^ 63:=by rw [sizeLine_eq]; decide
theorem vals1 {x:V} {us:List Value} (r:Vals [x] us):∃ u,us=[u]/\RelV x u:=by
 cases r with
 | cons r1 r2=>cases r2; exact ⟨_,rfl,r1⟩
theorem vals2 {x y:V} {us:List Value} (r:Vals [x,y] us):∃ u w',us=[u,w']/\RelV x u/\RelV y w':=by
 cases r with
 | cons r1 r2 =>
  cases r2 with
  | cons r3 r4=>cases r4; exact ⟨_,_,rfl,r1,r3⟩
theorem call_max2 (hc:X.calm=true):CallR X (.builtin "max") (fun xs H Q=>∃ i j,xs=[.int i,.int j]/\Q (.int (if j > i then j else i)) H):=by
 intro pins s σ H xs us Q I r h
 obtain ⟨i,j,rfl,q⟩:=h
 obtain ⟨u,w',rfl,⟨t,rfl⟩,⟨t',rfl⟩⟩:=vals2 r
 refine max_two_ints (I.ok.hd hc) fun h' tk k=>⟨_,H,I.kept k,?_,q⟩
 by_cases hj:j > i
 ·rw [if_pos hj,if_pos hj]; exact ⟨_,rfl⟩
 ·rw [if_neg hj,if_neg hj]; exact ⟨_,rfl⟩
theorem call_min2 (hc:X.calm=true):CallR X (.builtin "min") (fun xs H Q=>∃ i j,xs=[.int i,.int j]/\Q (.int (if j < i then j else i)) H):=by
 intro pins s σ H xs us Q I r h
 obtain ⟨i,j,rfl,q⟩:=h
 obtain ⟨u,w',rfl,⟨t,rfl⟩,⟨t',rfl⟩⟩:=vals2 r
 refine min_two_ints (I.ok.hd hc) fun h' tk k=>⟨_,H,I.kept k,?_,q⟩
 by_cases hj:j < i
 ·rw [if_pos hj,if_pos hj]; exact ⟨_,rfl⟩
 ·rw [if_neg hj,if_neg hj]; exact ⟨_,rfl⟩
end
end L2
namespace L2
open PySem PySem.Spec PyProof.Rows
structure ObjM (h:Heap) (x dx C:Addr) (mA:Str->Option Value):Prop where
 obj:h.get? x=some (PySem.W.instObj C dx)
 ns:h.Ns1 dx mA
 ne:dx ≠ x
theorem lookIn_ns {h:Heap} {dx:Addr} {mA:Str->Option Value} (n:h.Ns1 dx mA):∃ od,h.get? dx=some od/\∀ name,PySem.W.lookIn name od=some (mA name):=by
 obtain ⟨o,es,ep,ho,hd,hk,_,hm⟩:=n
 refine ⟨o,ho,fun name=>?_⟩
 have e:=hm name
 unfold nsFind findBy at e
 rw [<- Array.find?_toList] at e
 unfold PySem.W.lookIn
 rw [hd]
 dsimp only
 split
 ·rename_i y q
  rw [q] at e
  exact congrArg some e
 ·rename_i q
  rw [q] at e
  have a:es.toList.any (·.refKey)=false:=by
   rw [List.any_eq_false]
   intro y hy
   obtain ⟨z,t,hkey⟩:=hk y (Array.mem_toList_iff.mp hy)
   simp [DictEntry.refKey,hkey]
  have a':¬ es.toList.any (·.refKey)=true:=by rw [a]; exact Bool.false_ne_true
  rw [if_neg a']
  exact congrArg some e
theorem ObjM.look {h:Heap} {x dx C:Addr} {mA:Str->Option Value} (I:ObjM h x dx C mA):∃ od,PySem.W.InstAt h x (PySem.W.instObj C dx) C (some od)/\∀ name,PySem.W.lookIn name od=some (mA name) :=
 let ⟨od,ho,hl⟩:=lookIn_ns I.ns
 ⟨od,⟨I.obj,rfl,rfl,ho⟩,hl⟩
section
variable {prog:Program} {w:World} {A:Around} {E:Value->Shared->Prop} {s:Shared} {K:PySem.W.Frag} {x dx C f:Addr} {mA:Str->Option Value} {name:Str} {v:Value}
end
section
variable {P:Program} {w:World} {H H':Hp} {h h':Heap} {a C dx:Addr} {fs fs':List (Str × V)}
theorem ins_get (hok:HOk P w H h) (e:H a=some (.ins C dx fs)):∃ mA,ObjM h a dx C mA/\(∀ f,RelO (fs.lookup f) (mA f))/\PySem.Within mA (fs.map (·.1))/\fs.length<=1000/\H dx=some (.own a):=by
 obtain ⟨d,z,ne,ob,mA,n,r,q⟩:=(show ObjOk P w H h a (.ins C dx fs) from hok a _ e)
 exact ⟨mA,⟨ob,n,ne⟩,r,q,z,d⟩
end
structure Cls (K:PySem.W.Frag) (C:Addr):Prop where
 pg:PySem.W.plainGet K C Str.empty=true
 hd:PySem.W.hasDictIn K C=true
 po:PySem.W.plainOver K C=true
 sa:PySem.W.findIn K (.ref C) "__setattr__" = some (some (.builtin "object.__setattr__"))
theorem Cls.get {K:PySem.W.Frag} {C:Addr} (c:Cls K C) (f:Str):PySem.W.plainGet K C f=true:=c.pg
section
variable {X:Cx} {pins:List (Addr × Obj)} {σ:St} {H:Hp} {s:Shared} {a C dx:Addr} {fs:List (Str × V)} {f:Str} {v:V} {A:Around} {E:Value->Shared->Prop}
end
section
variable {X:Cx} {o e value:Expr} {f:Str} {pos pos' tpos:Pos} {ta tv:TE}
end
section
variable {X:Cx} {pins:List (Addr × Obj)} {σ:St} {H:Hp} {s:Shared} {A:Around} {E:Value->Shared->Prop} {Q:Value->Shared->Prop} {c:Value} {b:Bool}
inductive TyOf (K:PySem.W.Frag) (H:Hp):V->Value->Prop where
 | non:TyOf K H .non (.type "NoneType")
 | bl (x:Bool):TyOf K H (.bl x) (.type "bool")
 | int (i:Int):TyOf K H (.int i) (.type "int")
 | str (x:Str):TyOf K H (.str x) (.type "str")
 | flt (x:UInt64):TyOf K H (.flt x) (.type "float")
 | lst {a:Addr} {xs:List V} (e:H a=some (.lst xs)):TyOf K H (.ref a) (.type "list")
 | frz {a:Addr} {o:Obj} {xs:List V} (e:H a=some (.frz o (.lst xs))):TyOf K H (.ref a) (.type "list")
 | tup {a:Addr} {xs:List V} (e:H a=some (.tup xs)):TyOf K H (.ref a) (.type "tuple")
 | dK {a:Addr} {kvs:List (Key × V)} (e:H a=some (.dK kvs)):TyOf K H (.ref a) (.type "dict")
 | dT {a:Addr} {kvs:List (List Key × V)} (e:H a=some (.dT kvs)):TyOf K H (.ref a) (.type "dict")
 | ins {a C dx:Addr} {fs:List (Str × V)} (e:H a=some (.ins C dx fs)) (cl:Cls K C) (ha:PySem.W.findIn K (.ref C) "__class__" = some (some (.builtin "object.__class__")))
   (hn:PySem.W.specialIn K (.builtin "object.__class__") "__get__" = some (some (.builtin "getset_descriptor.__get__"))) (htk:PySem.W.takesIn K (.builtin "object.__class__")=some true)
   (hm:PySem.W.mroIn K C (.type "object")=some true):TyOf K H (.ref a) (.ref C)
theorem isinst_ok {x:V} {u t:Value} (I:Inv X pins σ H s) (rx:RelV x u) (ty:TyOf X.K H x t) (e:PySem.W.kitOne X.K t c=some b) (h:∀ tk,Q (.bool b) { s with toks:=tk }) :
  wpAny (model X.prog X.w) A (call (.builtin "isinstance") [u,c]) Q E s:=by
 cases ty with
 | non=>cases (show u=Value.none from rx); exact PySem.W.kia_one PySem.W.kitx_none I.kIn True.intro e (fun z=>nomatch z) h
 | bl y=>cases (show u=Value.bool y from rx); exact PySem.W.kia_one PySem.W.kitx_bool I.kIn True.intro e (fun z=>nomatch z) h
 | int i=>obtain ⟨t,q⟩:=(show ∃ t,u=Value.int i t from rx); cases q; exact PySem.W.kia_one PySem.W.kitx_int I.kIn True.intro e (fun z=>nomatch z) h
 | str y=>obtain ⟨t,q⟩:=(show ∃ t,u=Value.str y t from rx); cases q; exact PySem.W.kia_one PySem.W.kitx_str I.kIn True.intro e (fun z=>nomatch z) h
 | flt y=>obtain ⟨t,q⟩:=(show ∃ t,u=Value.float y t from rx); cases q; exact PySem.W.kia_one PySem.W.kitx_float I.kIn True.intro e (fun z=>nomatch z) h
 | @lst a xs ea =>
  cases (show u=Value.ref a from rx)
  obtain ⟨_,_,n,_,h1⟩:=(show ObjOk X.prog X.w H s.heap a (.lst xs) from I.hok a _ ea)
  exact PySem.W.kia_one PySem.W.kitx_list I.kIn ⟨_,h1,rfl⟩ e (fun z=>nomatch z) h
 | @frz a ob xs ea =>
  cases (show u=Value.ref a from rx)
  obtain ⟨_,_,_,n,_,h1⟩:=(show ObjOk X.prog X.w H s.heap a (.frz ob (.lst xs)) from I.hok a _ ea)
  exact PySem.W.kia_one PySem.W.kitx_list I.kIn ⟨_,h1,rfl⟩ e (fun z=>nomatch z) h
 | @tup a xs ea =>
  cases (show u=Value.ref a from rx)
  obtain ⟨_,_,_,p⟩:=(show ObjOk X.prog X.w H s.heap a (.tup xs) from I.hok a _ ea)
  obtain ⟨o,h1,h2,_⟩:=p
  exact PySem.W.kia_one PySem.W.kitx_tuple I.kIn ⟨o,h1,h2⟩ e (fun z=>nomatch z) h
 | @dK a kvs ea =>
  cases (show u=Value.ref a from rx)
  obtain ⟨_,_,vs,_,p⟩:=(show ObjOk X.prog X.w H s.heap a (.dK kvs) from I.hok a _ ea)
  obtain ⟨o,es,ep,h1,h2,_⟩:=p
  exact PySem.W.kia_one PySem.W.kitx_dict I.kIn ⟨o,h1,h2.1⟩ e (fun z=>nomatch z) h
 | @dT a kvs ea =>
  cases (show u=Value.ref a from rx)
  obtain ⟨_,_,xs,_,o,es,ep,h1,h2,_⟩:=(show ObjOk X.prog X.w H s.heap a (.dT kvs) from I.hok a _ ea)
  exact PySem.W.kia_one PySem.W.kitx_dict I.kIn ⟨o,h1,h2.1⟩ e (fun z=>nomatch z) h
 | @ins a C dx fs ea cl ha hn htk hm =>
  cases (show u=Value.ref a from rx)
  obtain ⟨mA,O,_⟩:=ins_get I.hok ea
  obtain ⟨od,J,_⟩:=O.look
  exact PySem.W.kia_one (PySem.W.kitx_own (cl.get _) cl.hd ha hn htk hm) I.kIn J e (fun z=>nomatch z) h
end
end L2
namespace L2
open PySem PySem.Spec PyProof.Rows
structure Room (k:Nat) (A:Around):Prop where
 hd:A.handled=none
 dp:A.depth+3 * k+5 < recursionLimit
 un:A.units+16 * k+200 < cLine
theorem Room.mono {j k:Nat} {A:Around} (r:Room k A) (h:j<=k):Room j A:=⟨r.hd,by have:=r.dp; omega,by have:=r.un; omega⟩
theorem Room.deeper {k:Nat} {A:Around} (r:Room (k+1) A) (env:Env):Room k (A.deeper env) :=
 ⟨r.hd,by have:=r.dp; show A.depth+1+3 * k+5 < _; omega,by have:=r.un; show A.units+3+16 * k+200 < _; omega⟩
theorem Room.depth {k:Nat} {A:Around} (r:Room k A):A.depth < recursionLimit:=by have:=r.dp; omega
theorem Room.units {k:Nat} {A:Around} (r:Room k A):A.units+64 < cLine:=by have:=r.un; omega
noncomputable def tNil:TA:=fun _ H Q=>Q [] H
noncomputable def tCons (ta:TE) (tr:TA):TA:=fun σ H Q=>ta σ H fun x H1=>tr σ H1 fun xs H2=>Q (x :: xs) H2
section
variable {X:Cx} {e:Expr} {es:List Expr} {te:TE} {t:TA} {pos:Pos}
theorem pa_nil:PA X [] tNil:=fun _ _ _ _ H Q I h=>Calls.spliced_nil ⟨[],H,I,.nil,h⟩
theorem pa_cons (ha:PE X e te) (hr:PA X es t) (hs:starEach (e :: es) X.env=(false,eval e X.env) :: starEach es X.env:=by rfl):PA X (e :: es) (tCons te t):=by
 intro pos pins s σ H Q I h
 rw [hs]
 show wpAny _ _ (spliced ((false,eval e X.env) :: backTo pos (starEach es X.env))) _ _ s
 refine Calls.spliced_cons (thn (ha pins s σ H _ I h) fun u s1 ⟨x,H1,I1,r1,q1⟩=>?_)
 exact thn (hr pos pins s1 σ H1 _ I1 q1) fun us s2 ⟨xs,H2,I2,r2,q2⟩=>⟨x :: xs,H2,I2,.cons r1 r2,q2⟩
noncomputable def tTup (t:TA):TE:=fun σ H Q=>t σ H fun xs H1=>xs.length<=sizeLine/\∀ p,H1 p=none->Q (.ref p) (upd H1 p (.tup xs))
noncomputable def tLst (t:TA):TE:=fun σ H Q=>t σ H fun xs H1=>xs.length<=sizeLine/\∀ p,H1 p=none->Q (.ref p) (upd H1 p (.lst xs))
theorem pe_tup {x1} (h:PA X es t):PE X (.Tuple es x1 pos) (tTup t):=by
 intro pins s σ H Q I hq
 refine wpAny_Tuple_spliced (thn (h pos pins s σ H _ I hq) fun us s1 ⟨xs,H1,I1,r,z,q⟩=>⟨by rw [<- r.length]; exact z,?_⟩)
 have hf:H1 s1.heap.objs.size=none:=I1.hok.fresh (Nat.le_refl _)
 refine ⟨.ref s1.heap.objs.size,upd H1 s1.heap.objs.size (.tup xs),I1.laid (t':=s1.toks) (fun b u e=>Heap.get?_push_of_some _ e) (Nat.le_refl _) ?_,rfl,q _ hf⟩
 exact ⟨z,us,r,⟨_,Heap.get?_push_size _ rfl,rfl,_,rfl⟩⟩
theorem pe_lst (h:PA X es t):PE X (.List es pos) (tLst t):=by
 intro pins s σ H Q I hq
 refine wpAny_List_spliced (thn (h pos pins s σ H _ I hq) fun us s1 ⟨xs,H1,I1,r,z,q⟩=>⟨by rw [<- r.length]; exact z,?_⟩)
 have hf:H1 s1.heap.objs.size=none:=I1.hok.fresh (Nat.le_refl _)
 refine ⟨.ref s1.heap.objs.size,upd H1 s1.heap.objs.size (.lst xs),I1.laid (t':=s1.toks) (fun b u e=>Heap.get?_push_of_some _ e) (Nat.le_refl _) ?_,rfl,q _ hf⟩
 exact ⟨z,us,0,r,Heap.get?_push_size _ rfl⟩
end
noncomputable abbrev Sp:=List V->Hp->VK->XK->Prop
noncomputable abbrev CXT:=List Env->Hp->Shared->XK->Value->Shared->Prop
structure Env0 (P:Program) (w:World) (K:PySem.W.Frag) (mg:Str->Option Value) (base:Heap) (A:Around) (outer:List Env) (s:Shared) (H:Hp):Prop where
 frames:A.frames=some outer
 mod:Mod K mg base
 bs:∀ b o,base.get? b=some o->s.heap.get? b=some o/\H b=none
 bsz:base.objs.size<=s.heap.objs.size
 funs:s.heap.FunFrames base outer
 frf:∀ b∈frs outer,H b=none
 hok:HOk P w H s.heap
 bare:AllBare s.gens
noncomputable def CE (outer:List Env) (P:Program) (w:World) (H:Hp) (s:Shared) (Q:VK) (u:Value) (s':Shared):Prop :=
 ∃ v H',s'.os=s.os/\AllBare s'.gens/\Un (frs outer) [] H H' s.heap s'.heap/\HOk P w H' s'.heap/\RelV v u/\Q v H'
noncomputable def CR (CX:CXT) (outer:List Env) (P:Program) (w:World) (H:Hp) (s:Shared) (Q:VK) (E:XK) (r:Result) (s':Shared):Prop :=
 match r with
 | .ok (.ret u)=>CE outer P w H s Q u s'
 | .ok _=>False
 | .error e=>CX outer H s E e s'
structure FnOk (P:Program) (w:World) (K:PySem.W.Frag) (mg:Str->Option Value) (base:Heap) (CX:CXT) (k:Nat) (f:Addr) (fd:FuncData) (ps:List Str) (sp:Sp):Prop where
 len:∀ vs H Q E,sp vs H Q E->vs.length=ps.length
 run:∀ (A:Around) (outer:List Env) (s:Shared) (H:Hp) (args:Args) (us:List Value) (vs:List V) (Q:VK) (E:XK),Room k A->Env0 P w K mg base A outer s H->BindsTo s fd args (ps.zip us)->Vals vs us->sp vs H Q E ->
  codeAny (model P w) A (.call (.ref f) args) (CR CX outer P w H s Q E) s
theorem FnOk.mono {P:Program} {w:World} {K:PySem.W.Frag} {mg:Str->Option Value} {base:Heap} {CX:CXT} {j k:Nat} {f:Addr} {fd:FuncData} {ps:List Str} {sp:Sp} (F:FnOk P w K mg base CX j f fd ps sp) (h:j<=k) :
  FnOk P w K mg base CX k f fd ps sp:=⟨F.len,fun A outer s H args us vs Q E hr=>F.run A outer s H args us vs Q E (hr.mono h)⟩
theorem FnOk.imp {P:Program} {w:World} {K:PySem.W.Frag} {mg:Str->Option Value} {base:Heap} {CX:CXT} {k:Nat} {f:Addr} {fd:FuncData} {ps:List Str} {sp sp':Sp} (F:FnOk P w K mg base CX k f fd ps sp)
  (h:∀ vs H Q E,sp' vs H Q E->sp vs H Q E):FnOk P w K mg base CX k f fd ps sp' :=
 ⟨fun vs H Q E q=>F.len vs H Q E (h _ _ _ _ q),fun A outer s H args us vs Q E hr he hb hv hs=>F.run A outer s H args us vs Q E hr he hb hv (h _ _ _ _ hs)⟩
section
variable {X:Cx} {pins:List (Addr × Obj)} {σ:St} {H:Hp} {s s':Shared}
theorem Inv.env0 (I:Inv X pins σ H s):Env0 X.prog X.w X.K X.mg X.base X.A X.stack s H :=
 ⟨I.ok.frames,I.ok.mod,I.bs,Nat.le_trans I.ok.bsz I.sz,I.stack,I.stkFree,I.hok,I.bare⟩
theorem Inv.after {Q:VK} {u:Value} (I:Inv X pins σ H s) (h:CE X.stack X.prog X.w H s Q u s'):EP X pins σ Q u s':=by
 obtain ⟨v,H',os,bare,un,hok,r,q⟩:=h
 obtain ⟨hh,g,d,t,os'⟩:=s'
 obtain rfl:os'=s.os:=os
 exact ⟨v,H',I.call (h':=hh) (g':=g) (d':=d) (t':=t) (ch:=[]) un hok bare (fun b z=>absurd z (by simp)),r,q⟩
end
noncomputable def tCall (sp:Sp) (dvs:List V) (E:XK) (t:TA):TE:=fun σ H Q=>t σ H fun vs H1=>sp (vs ++ dvs) H1 Q E
noncomputable def Binds (K:PySem.W.Frag) (fd:FuncData) (ps:List Str) (ds:List Value):Prop :=
 ∀ (s:Shared) (us:List Value),K.In s.heap->(us ++ ds).length=ps.length->BindsTo s fd ⟨us,[]⟩ (ps.zip (us ++ ds))
theorem Binds.all {K:PySem.W.Frag} {fd:FuncData} {ps:List Str} (h:∀ us:List Value,us.length=ps.length->bindArgs fd ⟨us,[]⟩=pure (ps.zip us)):Binds K fd ps []:=fun s us _ hl=>by
 rw [List.append_nil] at hl ⊢
 exact .of_eq (h us hl)
noncomputable def Passes (CX:CXT) (X:Cx) (E:XK):Prop:=∀ (pins:List (Addr × Obj)) (σ:St) (H:Hp) (s:Shared) (e:Value) (s':Shared),Inv X pins σ H s->CX X.stack H s E e s'->X.xe e s'
section
variable {X:Cx} {CX:CXT} {k:Nat} {f C:Addr} {fd:FuncData} {ps:List Str} {sp:Sp} {dvs:List V} {ds:List Value} {E:XK} {x m:Str} {p pos apos:Pos} {e o:Expr} {es:List Expr} {ta:TE} {t:TA}
theorem run_fn {pins:List (Addr × Obj)} {σ:St} {H:Hp} {s:Shared} {Q:VK} {us:List Value} {vs:List V} (F:FnOk X.prog X.w X.K X.mg X.base CX k f fd ps sp) (hr:Room k X.A) (hb:Binds X.K fd ps ds) (hd:Vals dvs ds) (hx:Passes CX X E)
  (I:Inv X pins σ H s) (r:Vals vs us) (h:sp (vs ++ dvs) H Q E):wpAny (model X.prog X.w) X.A (call (.ref f) us) (EP X pins σ Q) X.xe s:=by
 have r2:Vals (vs ++ dvs) (us ++ ds):=r.append hd
 have hl:(us ++ ds).length=ps.length:=by rw [<- r2.length]; exact F.len _ _ _ _ h
 refine wpAny_call (codeAny_mono (F.run X.A X.stack s H ⟨us,[]⟩ (us ++ ds) (vs ++ dvs) Q E hr I.env0 (hb s us I.kIn hl) r2 h) fun r s' hq=>?_)
 cases r with
 | error e=>exact hx pins σ H s e s' I hq
 | ok fl =>
  cases fl with
  | ret u=>exact I.after hq
  | next=>exact False.elim hq
  | brk=>exact False.elim hq
  | cont=>exact False.elim hq
theorem pe_call (F:FnOk X.prog X.w X.K X.mg X.base CX k f fd ps sp) (hr:Room k X.A) (hg:Gl X x) (hm:X.mg x=some (.ref f)) (hk:PySem.W.keepIn X.K (.ref f)=true) (hb:Binds X.K fd ps ds) (hd:Vals dvs ds) (hx:Passes CX X E)
  (ha:PA X (e :: es) t) (hdb:(x == ("__debug__" : Str))=false:=by decide) (he:starEach (e :: es) X.env=(false,eval e X.env) :: starEach es X.env:=by rfl) (hpl:(backTo pos (starEach es X.env)).any (·.1)=false:=by rfl) :
  PE X (.Call (.Name x p) (e :: es) [] pos) (tCall sp dvs E t):=by
 intro pins s σ H Q I h
 refine wpAny_Call_Name_kw (ld_glob I hg hm ?_ hdb)
 refine PySem.W.callWith_K (h₀:=X.base) I.ok.mod.kin hk (thn (ha pos pins s σ H _ I h) fun us s1 ⟨vs,H1,I1,r,q⟩=>⟨I1.kIn,?_⟩) he hpl
 exact run_fn F hr hb hd hx I1 r q
end
section
variable {X:Cx} {CX:CXT} {k:Nat} {f C:Addr} {fd:FuncData} {ps ks:List Str} {sp:Sp} {E:XK} {x m:Str} {p pos apos kpos:Pos} {e o:Expr} {es:List Expr} {kws:List Keyword} {te ta:TE} {t tk:TA} {nm:Option Str}
variable {g:List Value->List Value->List Value} {gV:List V->List V->List V}
end
structure FnScope (N P:List Str) (sc:Scope):Prop where
 kind:sc.kind=.function
 co:sc.isCoroutine=false
 gen:sc.isGenerator=false
 nd:N.Nodup
 pre:N.take P.length=P
 par:∀ x∈P,sc.names.lookup x=some .local\/sc.names.lookup x=some .cell
 nofree:∀ y∈sc.names,y.2 ≠ .free
theorem bindL_out {kindOf:Str->Option NameKind} {x:Str}:∀ {binds:List (Str × Value)} {m:Str->Option Value},(∀ v,(x,v) ∉ binds)->bindL kindOf binds m x=m x
 | [],_,_=>rfl
 | (n,v) :: r,m,h=>by
  unfold bindL
  rw [bindL_out fun w hw=>h w (List.mem_cons_of_mem _ hw)]
  split
  ·have:x ≠ n:=by rintro rfl; exact h v List.mem_cons_self
   simp [this]
  ·rfl
theorem bindC_out {kindOf:Str->Option NameKind} {x:Str}:∀ {binds:List (Str × Value)} {m:Str->Option Value},(∀ v,(x,v) ∉ binds)->bindC kindOf binds m x=m x
 | [],_,_=>rfl
 | (n,v) :: r,m,h=>by
  unfold bindC
  rw [bindC_out fun w hw=>h w (List.mem_cons_of_mem _ hw)]
  split
  ·rfl
  ·have:x ≠ n:=by rintro rfl; exact h v List.mem_cons_self
   simp [this]
theorem bindL_get {kindOf:Str->Option NameKind} {x:Str} {v:Value}:∀ {P:List Str} {vs:List Value} {i:Nat} {m:Str->Option Value},P.Nodup->P[i]?=some x->vs[i]?=some v->kindOf x=some .local ->
  bindL kindOf (P.zip vs) m x=some v
 | [],_,_,_,_,h,_,_=>by simp at h
 | _ :: _,[],_,_,_,_,h,_=>by simp at h
 | p :: P,w :: vs,0,m,nd,h1,h2,hk=>by
  simp at h1 h2; subst h1; subst h2
  show bindL kindOf ((p,w) :: P.zip vs) m p=_
  unfold bindL
  rw [bindL_out fun v hv=>(List.nodup_cons.mp nd).1 (List.of_mem_zip hv).1,if_pos hk]
  simp
 | p :: P,w :: vs,i+1,m,nd,h1,h2,hk=>by
  show bindL kindOf ((p,w) :: P.zip vs) m x=_
  unfold bindL
  exact bindL_get (i:=i) (List.nodup_cons.mp nd).2 (by simpa using h1) (by simpa using h2) hk
theorem bindC_get {kindOf:Str->Option NameKind} {x:Str} {v:Value}:∀ {P:List Str} {vs:List Value} {i:Nat} {m:Str->Option Value},P.Nodup->P[i]?=some x->vs[i]?=some v->kindOf x ≠ some .local ->
  bindC kindOf (P.zip vs) m x=some v
 | [],_,_,_,_,h,_,_=>by simp at h
 | _ :: _,[],_,_,_,_,h,_=>by simp at h
 | p :: P,w :: vs,0,m,nd,h1,h2,hk=>by
  simp at h1 h2; subst h1; subst h2
  show bindC kindOf ((p,w) :: P.zip vs) m p=_
  unfold bindC
  rw [bindC_out fun v hv=>(List.nodup_cons.mp nd).1 (List.of_mem_zip hv).1,if_neg hk]
  simp
 | p :: P,w :: vs,i+1,m,nd,h1,h2,hk=>by
  show bindC kindOf ((p,w) :: P.zip vs) m x=_
  unfold bindC
  exact bindC_get (i:=i) (List.nodup_cons.mp nd).2 (by simpa using h1) (by simpa using h2) hk
noncomputable def start (N:List Str) (vs:List V):St:=vs.map some ++ List.replicate (N.length - vs.length) none
noncomputable def cxOf (CX:CXT) (P:Program) (w:World) (K:PySem.W.Frag) (mg:Str->Option Value) (base:Heap) (N:List Str) (qual:Str) (scope:Scope) (f:Addr) (cd:Value) (A:Around) (outer:List Env) (s:Shared) (H:Hp) (E:XK):Cx where
 prog:=P
 w:=w
 K:=K
 mg:=mg
 base:=base
 A:=A.deeper (envOfC qual scope s.heap.objs.size f cd)
 N:=N
 s₀:=s
 H₀:=H
 env:=envOfC qual scope s.heap.objs.size f cd
 outer:=outer
 stack:=envOfC qual scope s.heap.objs.size f cd :: outer
 ex:=[]
 calm:=true
 fn:=fun _=>true
 pn:=[]
 xe:=fun e s'=>wpAny (model P w) (A.deeper (envOfC qual scope s.heap.objs.size f cd)) (leaving (envOfC qual scope s.heap.objs.size f cd) e) (fun _ s''=>CX outer H s E e s'') (fun e' s''=>CX outer H s E e' s'') s'
theorem cell_has {sc:Scope} {n:Nat} {x:Str} (h:sc.names.lookup x=some .cell):∃ c,(cellsFrom n sc.names []).lookup x=some c:=by
 have q:=PySem.W.cellsFrom_some sc.names n [] (.inl h)
 exact Option.isSome_iff_exists.mp q
theorem inv_start {CX:CXT} {P:Program} {w:World} {K:PySem.W.Frag} {mg:Str->Option Value} {base:Heap} {N ps:List Str} {qual:Str} {scope:Scope} {f:Addr} {cd:Value} {A:Around} {outer:List Env} {s s1:Shared} {H:Hp} {E:XK} {us:List Value} {vs:List V}
  (S:FnScope N ps scope) (hd:A.handled=none) (e0:Env0 P w K mg base A outer s H) (hl:vs.length=ps.length) (r:Vals vs us)
  (x:InCallC s s.heap.objs.size (bindL (envOfC qual scope s.heap.objs.size f cd).kindOf (ps.zip us) fun _=>none) (cellsFrom (s.heap.objs.size+1) scope.names []) (bindC (envOfC qual scope s.heap.objs.size f cd).kindOf (ps.zip us) fun _=>none) s1) :
  Inv (cxOf CX P w K mg base N qual scope f cd A outer s H E) [] (start N vs) H s1:=by
 have hpl:ps.length<=N.length:=by have:=congrArg List.length S.pre; rw [List.length_take] at this; omega
 obtain ⟨h1,tk,rfl,hk⟩:=x.done
 have noA:∀ b:Addr,b ∉ (cxOf CX P w K mg base N qual scope f cd A outer s H E).ex:=fun b z=>absurd (show b∈([]:List Addr) from z) (by simp)
 refine ⟨⟨e0.mod,S.kind,rfl,rfl,Nat.le_refl _,fun y z c h1 h2=>?_,fun y hy=>?_,fun y c _ h=>?_,fun _=>hd,Around.frames_deeper e0.frames,.inr ⟨rfl,rfl⟩,fun b z=>absurd z (noA b),e0.bs,e0.bsz,fun b _ _=>noA b,fun b z=>absurd z (noA b),e0.funs,e0.frf⟩,
  rfl,e0.bare,Un.kept hk,⟨_,x.toInCall.ns,fun i y v h1 h2 h3=>?_⟩,fun y c h=>⟨_,x.cell y c h⟩,e0.hok.fresh (Nat.le_refl _),fun y c h=>?_,fun p hp=>absurd (show p∈([]:List (Addr × Obj)) from hp) (by simp),e0.hok.kept hk,?_⟩
 ·exact name_of_addr x.apart (PySem.mem_of_lookup h1) (PySem.mem_of_lookup h2)
 ·have hy:scope.names.lookup y=some .cell\/scope.names.lookup y=some .free:=hy
  rcases hy with hy | hy
  ·exact cell_has hy
  ·exact absurd rfl (S.nofree _ (PySem.mem_of_lookup hy))
 ·exact Nat.le_of_lt (x.above y c (PySem.mem_of_lookup h))
 ·have hi:i < vs.length:=by
   unfold start at h2
   by_cases hi:i < vs.length
   ·exact hi
   ·rw [List.getElem?_append_right (by simpa using hi)] at h2
    rw [List.getElem?_replicate] at h2
    split at h2 <;> cases h2
  have ha:vs[i]?=some v:=by
   unfold start at h2
   rw [List.getElem?_append_left (by simpa using hi),List.getElem?_map] at h2
   cases e:vs[i]? with
   | none=>rw [e] at h2; cases h2
   | some a=>rw [e] at h2; cases h2; rfl
  obtain ⟨u,hu,rv⟩:=r.get ha
  have hp:ps[i]?=some y:=by
   rw [<- S.pre,List.getElem?_take_of_lt (by omega)]; exact h1
  have ndP:ps.Nodup:=by rw [<- S.pre]; exact S.nd.sublist (List.take_sublist _ _)
  refine ⟨u,rv,?_⟩
  rcases S.par y (List.mem_of_getElem? hp) with k | k
  ·exact .inl ⟨k,bindL_get ndP hp hu k⟩
  ·obtain ⟨c,e⟩:=cell_has (n:=s.heap.objs.size+1) k
   refine .inr ⟨.inl k,c,e,?_⟩
   have q:=x.cell y c e
   rw [bindC_get ndP hp hu (by show scope.names.lookup y ≠ _; rw [k]; decide)] at q
   exact q
 ·exact e0.hok.fresh (Nat.le_of_lt (x.above y c (PySem.mem_of_lookup h)))
 ·unfold start
  show _=N.length
  rw [List.length_append,List.length_map,List.length_replicate]
  omega
theorem fn_of {CX:CXT} {P:Program} {w:World} {K:PySem.W.Frag} {mg:Str->Option Value} {base:Heap} {k:Nat} {f:Addr} {name qual:Str} {params:Arguments} {body:List Stmt} {scope:Scope} {dV kV doc pm cdv ct oc:Value} {an od:Option Addr}
  {osl:Array (Option Value)} {N ps:List Str} {sp:Sp} (lk:K.lookup f=some ⟨oc,od,.func (PySem.W.fnOf name qual params body scope dV kV doc pm an cdv ct),osl⟩) (hcd:PySem.W.codeIn K cdv qual=true) (S:FnScope N ps scope)
  (len:∀ vs H Q E,sp vs H Q E->vs.length=ps.length)
  (hbody:∀ (A:Around) (outer:List Env) (s:Shared) (H:Hp) (vs:List V) (Q:VK) (E:XK),Room k (A.deeper (envOfC qual scope s.heap.objs.size f cdv))->sp vs H Q E ->
   ∃ t,PSs (cxOf CX P w K mg base N qual scope f cdv A outer s H E) body t/\t { nx:=fun _ H'=>Q .non H',rt:=Q } (start N vs) H) :
  FnOk P w K mg base CX (k+1) f (PySem.W.fnOf name qual params body scope dV kV doc pm an cdv ct) ps sp:=by
 refine ⟨len,fun A outer s H args us vs Q E hr e0 hb r hsp=>?_⟩
 have hl:=len _ _ _ _ hsp
 have KX:K.In s.heap:=e0.mod.kin.keeps fun b o e=>(e0.bs b o e).1
 have lim:s.heap.NoLimit:=e0.mod.nolimit.keeps fun b o e=>(e0.bs b o e).1
 have hkind:∀ y∈ps.zip us,scope.names.lookup y.1=some .local\/(scope.names.lookup y.1=some .cell/\((cellsFrom (s.heap.objs.size+1) scope.names []).lookup y.1).isSome=true):=fun ⟨n,v⟩ hy=>by
  rcases S.par n (List.of_mem_zip hy).1 with q | q
  ·exact .inl q
  ·exact .inr ⟨q,PySem.W.cellsFrom_some _ _ _ (.inl q)⟩
 refine codeAny_call_function hr.depth (KX _ _ lk) rfl S.co S.gen rfl (PySem.W.codeRec_of KX hcd) (hb _ _ _ _ ?_)
 refine wpAny_newFunctionEnv_cells S.kind hkind fun env he s1 x=>?_
 subst he
 refine ⟨lim.keeps x.toInCall.keep,codeAny_func ?_⟩
 obtain ⟨t,ht,hq⟩:=hbody A outer s H vs Q E (hr.deeper _) hsp
 have I:Inv (cxOf CX P w K mg base N qual scope f cdv A outer s H E) [] (start N vs) H s1:=inv_start S hr.hd e0 hl r x
 refine wpAny_mono (ht [] s1 (start N vs) H _ I hq) (fun fl s' hs=>?_) fun e s' hs=>hs
 have fin:∀ {σ':St} {H':Hp} {v:V} {u:Value},Inv (cxOf CX P w K mg base N qual scope f cdv A outer s H E) [] σ' H' s'->RelV v u->Q v H'->CE outer P w H s Q u s' :=
  fun {σ' H' v u} J rv q=>⟨v,H',J.os,J.bare,J.base,J.hok,rv,q⟩
 cases fl with
 | ret u =>
  obtain ⟨v,σ',H',J,rv,q⟩:=hs
  exact fin J rv q
 | next =>
  obtain ⟨σ',H',J,q⟩:=hs
  exact fin (v:=V.non) (u:=Value.none) J rfl q
 | brk =>
  obtain ⟨_,_,_,q⟩:=hs
  exact False.elim q
 | cont =>
  obtain ⟨_,_,_,q⟩:=hs
  exact False.elim q
end L2
namespace L2
open PySem PySem.Spec PyProof.Rows
section
variable {X:Cx} {x:Str} {p pos:Pos} {e:Expr} {es:List Expr} {t:TA} {id T:String} {r:List V->Hp->VK->Prop}
noncomputable def tCB (r:List V->Hp->VK->Prop) (t:TA):TE:=fun σ H Q=>t σ H fun vs H1=>r vs H1 Q
theorem pe_callB (hc:CallR X (.builtin id) r) (hg:Gl X x) (hm:X.mg x=none) (hv:bootBuiltins x=some (.builtin id)) (ha:PA X (e :: es) t) (hn:x ≠ "__name__" := by decide) (hdb:(x == ("__debug__" : Str))=false:=by decide)
  (he:starEach (e :: es) X.env=(false,eval e X.env) :: starEach es X.env:=by rfl) (hpl:(backTo pos (starEach es X.env)).any (·.1)=false:=by rfl):PE X (.Call (.Name x p) (e :: es) [] pos) (tCB r t):=by
 intro pins s σ H Q I h
 refine wpAny_Call_Name_kw (ld_blt I hg hm hv ?_ hn hdb)
 exact PyProof.Rows.callWith_builtin1 (thn (ha pos pins s σ H _ I h) fun us s1 ⟨vs,H1,I1,r1,q1⟩=>hc pins s1 σ H1 vs us Q I1 r1 q1) he hpl
theorem pe_callTy (hc:CallR X (.type T) r) (hg:Gl X x) (hm:X.mg x=none) (hv:bootBuiltins x=some (.type T)) (ha:PA X (e :: es) t) (hn:x ≠ "__name__" := by decide) (hdb:(x == ("__debug__" : Str))=false:=by decide)
  (he:starEach (e :: es) X.env=(false,eval e X.env) :: starEach es X.env:=by rfl) (hpl:(backTo pos (starEach es X.env)).any (·.1)=false:=by rfl):PE X (.Call (.Name x p) (e :: es) [] pos) (tCB r t):=by
 intro pins s σ H Q I h
 refine wpAny_Call_Name_kw (ld_blt I hg hm hv ?_ hn hdb)
 exact PyProof.Rows.callWith_type1 (thn (ha pos pins s σ H _ I h) fun us s1 ⟨vs,H1,I1,r1,q1⟩=>hc pins s1 σ H1 vs us Q I1 r1 q1) he hpl
end
end L2
namespace HT
open PySem PyProof.Rows
section
open PySem.SeqAt
open PySem.AutoSeq1 (wpAny_loadPart')
open PySem.MeetsSeq PySem.MeetsSeq2 PySem.MeetsSeq3
end
section
variable {prog:Program} {w:World} {A:Around} {E:Value->Shared->Prop} {s:Shared}
noncomputable def sIx (n d:Nat):Option Int->Nat
 | none=>d
 | some v=>if v < 0 then (v+(n:Int)).toNat else min v.toNat n
end
end HT
namespace L2
open PySem PySem.Spec PyProof.Rows
noncomputable abbrev TO:=St->Hp->(Option Int->Hp->Prop)->Prop
noncomputable def PO (X:Cx) (e:Option Expr) (t:TO):Prop :=
 ∀ (pins:List (Addr × Obj)) (s:Shared) (σ:St) (H:Hp) (Q:Option Int->Hp->Prop),Inv X pins σ H s->t σ H Q ->
  wpAny (model X.prog X.w) X.A (evalPart e X.env) (fun u s'=>∃ o H',Inv X pins σ H' s'/\IsPart u o/\Q o H') X.xe s
noncomputable def tNoPart:TO:=fun _ H Q=>Q none H
noncomputable def tPart (t:TE):TO:=fun σ H Q=>t σ H fun x H1=>∃ i,x=.int i/\Q (some i) H1
section
variable {X:Cx} {e:Expr} {te:TE} {lo hi:Option Expr} {tl th:TO} {pos p2:Pos}
theorem po_none:PO X none tNoPart:=by
 intro pins s σ H Q I h
 rw [evalPart_none]
 exact wpAny_pure ⟨none,H,I,.none,h⟩
theorem po_some (h:PE X e te):PO X (some e) (tPart te):=by
 intro pins s σ H Q I hw
 rw [evalPart_some]
 refine thn (h pins s σ H _ I hw) fun u s1 ⟨x,H1,I1,r1,q1⟩=>?_
 obtain ⟨i,rfl,q⟩:=q1
 obtain ⟨t,rfl⟩:=r1
 exact ⟨some i,H1,I1,.int i t,q⟩
noncomputable def SlR (X:Cx) (r:V->Option Int->Option Int->Hp->VK->Prop):Prop :=
 ∀ (pins:List (Addr × Obj)) (s:Shared) (σ:St) (H:Hp) (x:V) (v vl vu:Value) (lo hi:Option Int) (sl:Addr) (Q:VK),Inv X pins σ H s->RelV x v->s.heap.IsSliceOf sl vl vu .none->IsPart vl lo->IsPart vu hi->r x lo hi H Q ->
  ∃ T id,typeLookup (.type T) "__getitem__" = pure (some (.builtin id))/\s.TypeIs v T/\wpAny (model X.prog X.w) X.A (getItem v (.ref sl)) (EP X pins σ Q) X.xe s
noncomputable def tSl (r:V->Option Int->Option Int->Hp->VK->Prop) (te:TE) (tl th:TO):TE:=fun σ H Q=>te σ H fun x H1=>tl σ H1 fun l H2=>th σ H2 fun u H3=>r x l u H3 Q
theorem pe_slice {r:V->Option Int->Option Int->Hp->VK->Prop} (hr:SlR X r) (he:PE X e te) (hl:PO X lo tl) (hu:PO X hi th):PE X (.Subscript e (.Slice lo hi none p2) pos) (tSl r te tl th):=by
 intro pins s σ H Q I h
 refine Subscript_ (thn (he pins s σ H _ I h) fun v s1 ⟨x,H1,I1,r1,q1⟩=>?_)
 refine wpAny_Slice (thn (hl pins s1 σ H1 _ I1 q1) fun vl s2 ⟨l,H2,I2,pl,q2⟩=>thn (hu pins s2 σ H2 _ I2 q2) fun vu s3 ⟨u,H3,I3,pu,q3⟩=>?_)
 rw [evalPart_none]
 refine wpAny_pure ?_
 have I4:Inv X pins σ H3 { s3 with heap:=s3.heap.push { cls:=.type "slice",data:=.fields #[vl,vu,.none] } }:=I3.kept (t':=s3.toks) fun b ob q=>Heap.get?_push_of_some _ q
 obtain ⟨T,id,hT,ht,hg⟩:=hr pins { s3 with heap:=s3.heap.push { cls:=.type "slice",data:=.fields #[vl,vu,.none] } } σ H3 x v vl vu l u s3.heap.objs.size Q I4 r1 (Heap.IsSliceOf.new ..) pl pu q3
 show wpAny (model X.prog X.w) X.A (subscriptTail e (.Slice lo hi none p2) v (.ref s3.heap.objs.size)) (EP X pins σ Q) X.xe { s3 with heap:=s3.heap.push { cls:=.type "slice",data:=.fields #[vl,vu,.none] } }
 exact tail_any (ops:=[.ref s3.heap.objs.size,v]) ht hT hg (by with_unfolding_all rfl)
noncomputable def cutV (xs:List V) (lo hi:Option Int):List V:=(xs.drop (HT.sIx xs.length 0 lo)).take (HT.sIx xs.length xs.length hi - HT.sIx xs.length 0 lo)
theorem cutV_length (xs:List V) (lo hi:Option Int):(cutV xs lo hi).length<=xs.length:=by
 unfold cutV
 rw [List.length_take,List.length_drop]
 omega
end
end L2
namespace L2
open PySem PySem.Spec PyProof.Rows
noncomputable def ixN (n:Nat) (i:Int):Option Nat:=if 0<=i then (if i < n then some i.toNat else none) else if -(n:Int)<=i then some (i+n).toNat else none
noncomputable def atI {α:Type} (xs:List α) (i:Int):Option α:=(ixN xs.length i).bind fun j=>xs[j]?
theorem ixN_seq {n:Nat} {i:Int} {j:Nat} (h:ixN n i=some j):seqIndex? i n=some j/\j < n/\-(n:Int)<=i/\i < n:=by
 unfold ixN at h
 by_cases h0:0<=i
 ·rw [if_pos h0] at h
  by_cases h1:i < n
  ·rw [if_pos h1] at h
   have e:i.toNat=j:=Option.some.inj h
   exact ⟨by rw [seqIndex_of h0 h1,e],by omega,by omega,h1⟩
  ·rw [if_neg h1] at h; cases h
 ·rw [if_neg h0] at h
  by_cases h1:-(n:Int)<=i
  ·rw [if_pos h1] at h
   have e:(i+n).toNat=j:=Option.some.inj h
   exact ⟨by rw [seqIndex_neg (by omega) h1,e],by omega,h1,by omega⟩
  ·rw [if_neg h1] at h; cases h
theorem atI_get {α:Type} {xs:List α} {i:Int} {v:α} (h:atI xs i=some v):∃ j,seqIndex? i xs.length=some j/\xs[j]?=some v/\j < xs.length/\-(xs.length:Int)<=i/\i < xs.length:=by
 unfold atI at h
 cases e:ixN xs.length i with
 | none=>rw [e] at h; cases h
 | some j =>
  rw [e] at h
  obtain ⟨h1,h2,h3,h4⟩:=ixN_seq e
  exact ⟨j,h1,h,h2,h3,h4⟩
theorem atI_nat {α:Type} {xs:List α} {j:Nat} {v:α} (h:xs[j]?=some v):atI xs (j:Int)=some v:=by
 have hj:j < xs.length:=(List.getElem?_eq_some_iff.mp h).1
 have e:ixN xs.length (j:Int)=some j:=by
  unfold ixN
  rw [if_pos (by omega),if_pos (by omega)]; simp
 unfold atI; rw [e]; exact h
theorem atI_last {α:Type} (xs:List α) (v:α):atI (xs ++ [v]) (-1)=some v:=by
 have hl:(xs ++ [v]).length=xs.length+1:=by simp
 have e:ixN (xs ++ [v]).length (-1)=some xs.length:=by
  unfold ixN
  rw [hl,if_neg (by decide),if_pos (by omega)]
  congr 1
  omega
 unfold atI
 rw [e]
 show (xs ++ [v])[xs.length]?=some v
 simp
noncomputable def PlainIx (b:Expr):Prop:=∀ o i,subscripted b false o i=operate [o,i] (getItem o i)
noncomputable def IxR (X:Cx) (r:R2):Prop :=
 ∀ (value slice:Expr) (pins:List (Addr × Obj)) (s:Shared) (σ:St) (H:Hp) (x y:V) (v u:Value) (Q:VK),Inv X pins σ H s->RelV x v->RelV y u->r x y H Q ->
  subscripted slice false v u=operate [v,u] (getItem v u)->wpAny (model X.prog X.w) X.A (subscriptTail value slice v u) (EP X pins σ Q) X.xe s
noncomputable def MtR (X:Cx) (id:String) (r:V->List V->Hp->VK->Prop):Prop :=
 ∀ (pins:List (Addr × Obj)) (s:Shared) (σ:St) (H:Hp) (x:V) (xs:List V) (v:Value) (us:List Value) (Q:VK),Inv X pins σ H s->RelV x v->Vals xs us->r x xs H Q ->
  wpAny (model X.prog X.w) X.A (call (.builtin id) (v :: us)) (EP X pins σ Q) X.xe s
section
variable {X:Cx} {a b:Expr} {ta tb:TE} {pos:Pos}
theorem pe_ix {r:R2} (hr:IxR X r) (ha:PE X a ta) (hb:PE X b tb) (hs:PlainIx b):PE X (.Subscript a b pos) (tOp r ta tb):=by
 intro pins s σ H Q I h
 exact Subscript_ (binT ha hb I h fun v u s2 x y H2 I2 rx ry q=>hr a b pins s2 σ H2 x y v u Q I2 rx ry q (hs _ _))
noncomputable def rIxL (K:PySem.W.Frag):R2:=fun x y H Q=>∃ p xs i v,x=.ref p/\y=.int i/\SqL K H p xs/\atI xs i=some v/\Q v H
noncomputable def rIxT (K:PySem.W.Frag):R2:=fun x y H Q=>∃ p xs i v,x=.ref p/\y=.int i/\SqT K H p xs/\atI xs i=some v/\Q v H
theorem ix_list:IxR X (rIxL X.K):=by
 intro value slice pins s σ H x y v u Q I rx ry h hs
 obtain ⟨p,xs,i,z,rfl,rfl,hq,he,q⟩:=h
 cases rx
 obtain ⟨t,rfl⟩:=ry
 obtain ⟨its,r,pl,hz⟩:=I.list hq
 obtain ⟨j,h1,h2,h3,h4,h5⟩:=atI_get he
 obtain ⟨w,ew,rw'⟩:=r.get h2
 have hl:=r.length
 have hn:=line63
 have fin:EP X pins σ Q w s:=⟨z,H,I,rw',q⟩
 by_cases h0:0<=i
 ·have hj:i.toNat=j:=by
   rw [seqIndex_of h0 h5] at h1
   exact Option.some.inj h1
  exact item_listR pl.isList h0 (by omega) (by rw [hj]; simpa using ew) fin hs
 ·have hj:(i+(its.toArray.size:Int)).toNat=j:=by
   rw [seqIndex_neg (by omega) h4] at h1
   rw [List.size_toArray,<- hl]
   exact Option.some.inj h1
  exact subscriptTail_builtinR (x:=w) pl.isList.typeIs slot_list_getitem.lookup
   (wpAny_getItem_list_neg (Q:=fun r s'=>r=w/\EP X pins σ Q r s') pl.isList (by omega) (by rw [List.size_toArray] <;> omega) (by omega) (by rw [hj]; simpa using ew) ⟨rfl,fin⟩) hs
theorem ix_tup:IxR X (rIxT X.K):=by
 intro value slice pins s σ H x y v u Q I rx ry h hs
 obtain ⟨p,xs,i,z,rfl,rfl,hq,he,q⟩:=h
 cases rx
 obtain ⟨t,rfl⟩:=ry
 obtain ⟨its,r,pl,hz⟩:=I.tuple hq
 obtain ⟨j,h1,h2,h3,h4,h5⟩:=atI_get he
 obtain ⟨w,ew,rw'⟩:=r.get h2
 have hl:=r.length
 have hn:=line63
 have fin:EP X pins σ Q w s:=⟨z,H,I,rw',q⟩
 exact subscriptTail_builtinR (x:=w) pl.typeIs slot_tuple_getitem.lookup
  (getItem_tuple (j:=j) (Q:=fun r s'=>r=w/\EP X pins σ Q r s') pl (by omega) (by omega) (by rw [List.size_toArray,<- hl]; exact h1) (by simpa using ew) ⟨rfl,fin⟩) hs
theorem mapSeq_set (its:List Value) (n j:Nat) (u:Value):Obj.mapSeq (·.setIfInBounds j u) { cls:=.type "list",data:=.seq its.toArray n }={ cls:=.type "list",data:=.seq (its.set j u).toArray n }:=by
 simp [Obj.mapSeq]
theorem Inv.lst {pins:List (Addr × Obj)} {σ:St} {H:Hp} {s:Shared} {p:Addr} {xs:List V} (I:Inv X pins σ H s) (h:H p=some (.lst xs)) :
  ∃ (its:List Value) (n:Nat),Vals xs its/\s.heap.get? p=some { cls:=.type "list",data:=.seq its.toArray n }/\xs.length<=sizeLine:=by
 obtain ⟨z,its,n,r,e⟩:=I.hok p _ h
 exact ⟨its,n,r,e,z⟩
theorem Inv.lstUpd {pins:List (Addr × Obj)} {σ:St} {H:Hp} {s:Shared} {p:Addr} {xs ys:List V} {its its':List Value} {n n':Nat} {f:Obj->Obj} (I:Inv X pins σ H s) (h:H p=some (.lst xs))
  (ho:s.heap.get? p=some { cls:=.type "list",data:=.seq its.toArray n }) (hf:f { cls:=.type "list",data:=.seq its.toArray n }={ cls:=.type "list",data:=.seq its'.toArray n' }) (r:Vals ys its') (hz:ys.length<=sizeLine) (t:Nat) :
  Inv X pins σ (upd H p (.lst ys)) { s with heap:=s.heap.update p f,toks:=t }:=by
 have e:(s.heap.update p f).get? p=some { cls:=.type "list",data:=.seq its'.toArray n' }:=by
  rw [Heap.get?_update_self f ho (by rw [hf] <;> rfl),hf]
 refine I.write (x:=p) (e:=p) (by rw [h]; trivial) (.inl rfl) (fun b u hb q=>(Heap.get?_update_other _ _ (Ne.symm hb)).trans q) ⟨_,e⟩ ?_
 exact ⟨hz,its',n',r,e⟩
noncomputable def rSetL:V->V->V->Hp->(Hp->Prop)->Prop:=fun o i v H Q=>∃ p xs k j,o=.ref p/\i=.int k/\H p=some (.lst xs)/\ixN xs.length k=some j/\Q (upd H p (.lst (xs.set j v)))
theorem set_list:PSet X rSetL:=by
 intro pins s σ H o i v ov iv u Q I ro ri rv h
 obtain ⟨p,xs,k,j,rfl,rfl,hp,hj,q⟩:=h
 cases ro
 obtain ⟨t,rfl⟩:=ri
 obtain ⟨its,n,r,ho,hz⟩:=I.lst hp
 obtain ⟨h1,h2,h3,h4⟩:=ixN_seq hj
 have hl:=r.length
 have hn:=line63
 have I':Inv X pins σ (upd H p (.lst (xs.set j v))) { s with heap:=s.heap.update p (Obj.mapSeq (·.setIfInBounds j u)) } :=
  I.lstUpd hp ho (mapSeq_set its n j u) (r.set rv j) (by rw [List.length_set]; exact hz) s.toks
 by_cases h0:0<=k
 ·have hk:k.toNat=j:=by
   rw [seqIndex_of h0 h4] at h1
   exact Option.some.inj h1
  exact PySem.W.ki_setAt ho h0 (by omega) (by rw [List.size_toArray,<- hl]; exact h4) (by rw [hk]; exact ⟨_,I',q⟩)
 ·have hk:(k+(its.toArray.size:Int)).toNat=j:=by
   rw [seqIndex_neg (by omega) h3] at h1
   rw [List.size_toArray,<- hl]
   exact Option.some.inj h1
  exact PySem.W.ki_setBack ho (by omega) (by rw [List.size_toArray,<- hl]; exact h3) (by omega) (by rw [hk]; exact ⟨_,I',q⟩)
theorem slice_bounds (lo hi:Option Int) (n:Nat):(sliceBounds lo hi none n).1=((HT.sIx n 0 lo:Nat):Int)/\(sliceBounds lo hi none n).2.1=((HT.sIx n n hi:Nat):Int)/\(sliceBounds lo hi none n).2.2=1:=by
 refine ⟨?_,?_,rfl⟩
 ·cases lo with
  | none=>simp [sliceBounds,HT.sIx]
  | some i =>
   simp only [sliceBounds,HT.sIx,Option.getD_none,show (1:Int) > 0 by decide,if_true]
   by_cases h:i < 0
   ·simp only [h,if_true] <;> omega
   ·simp only [h,if_false] <;> omega
 ·cases hi with
  | none=>simp [sliceBounds,HT.sIx]
  | some i =>
   simp only [sliceBounds,HT.sIx,Option.getD_none,show (1:Int) > 0 by decide,if_true]
   by_cases h:i < 0
   ·simp only [h,if_true] <;> omega
   ·simp only [h,if_false] <;> omega
theorem slicePick_cut (its:List Value) (lo hi:Option Int):slicePick its.toArray lo hi none=((its.drop (HT.sIx its.length 0 lo)).take (HT.sIx its.length its.length hi - HT.sIx its.length 0 lo)).toArray:=by
 obtain ⟨h1,h2,h3⟩:=slice_bounds lo hi its.toArray.size
 unfold slicePick
 rw [h1,h2,h3]
 simp only [sliceRange_one,pick_run,List.size_toArray] <;> rfl
noncomputable def rSlL (K:PySem.W.Frag):V->Option Int->Option Int->Hp->VK->Prop:=fun x lo hi H Q=>∃ a xs,x=.ref a/\SqL K H a xs/\∀ p,H p=none->Q (.ref p) (upd H p (.lst (cutV xs lo hi)))
theorem sl_list:SlR X (rSlL X.K):=by
 intro pins s σ H x v vl vu lo hi sl Q I rx hs pl pu h
 obtain ⟨a,xs,rfl,hx,q⟩:=h
 cases rx
 obtain ⟨its,r,ht,hz⟩:=I.list hx
 have hlen:=r.length
 refine ⟨"list",_,slot_list_getitem.lookup,ht.isList.typeIs,?_⟩
 refine wpAny_getItem_list_slice ht.isList hs pl pu .none (by simp) ?_ (by rw [List.size_toArray] <;> omega)
 rw [slicePick_cut,<- hlen]
 refine ⟨.ref s.heap.objs.size,_,I.laid (t':=s.toks) (o:=.lst (cutV xs lo hi)) (fun b ob q=>Heap.get?_push_of_some _ q) (Nat.le_refl _) ?_,rfl,q _ (I.hok.fresh (Nat.le_refl _))⟩
 exact ⟨Nat.le_trans (cutV_length xs lo hi) hz,_,0,(r.drop (HT.sIx xs.length 0 lo)).take (HT.sIx xs.length xs.length hi - HT.sIx xs.length 0 lo),Heap.get?_push_size _ rfl⟩
theorem call_len_seq:CallR X (.builtin "len") (fun xs H Q=>∃ p ys,xs=[.ref p]/\(SqL X.K H p ys\/SqT X.K H p ys)/\Q (.int ys.length) H):=by
 intro pins s σ H xs us Q I r h
 obtain ⟨p,ys,rfl,hq,q⟩:=h
 obtain ⟨u,rfl,rx⟩:=vals1 r
 cases rx
 have hn:=line63
 rcases hq with hq | hq
 ·obtain ⟨its,r',pl,hz⟩:=I.list hq
  have hlen:=r'.length
  exact Calls.call_len_list pl.isList (by simp only [List.size_toArray] <;> omega) ⟨.int ys.length,H,I.tok _,⟨s.toks+1,by rw [List.size_toArray,hlen]⟩,q⟩
 ·obtain ⟨its,r',pl,hz⟩:=I.tuple hq
  have hlen:=r'.length
  exact len_tuple pl (by simp only [List.size_toArray] <;> omega) ⟨.int ys.length,H,I.tok _,⟨s.toks+1,by rw [List.size_toArray,hlen]⟩,q⟩
theorem call_list_of:CallR X (.type "list") (fun xs H Q=>∃ p ys,xs=[.ref p]/\(SqL X.K H p ys\/SqT X.K H p ys)/\∀ l,H l=none->Q (.ref l) (upd H l (.lst ys))):=by
 intro pins s σ H xs us Q I r h
 obtain ⟨p,ys,rfl,hq,q⟩:=h
 obtain ⟨u,rfl,rx⟩:=vals1 r
 cases rx
 have fin:∀ (its:List Value),Vals ys its->ys.length<=sizeLine->∀ (h':Heap) (c':Nat),(∀ b o',s.heap.get? b=some o'->h'.get? b=some o') ->
   h'.get? s.heap.objs.size=some { cls:=.type "list",dict:=none,data:=.seq its.toArray c',slots:=#[] }->EP X pins σ Q (.ref s.heap.objs.size) { s with heap:=h' }:=fun its r' hz h' c' kp e =>
  ⟨.ref s.heap.objs.size,_,I.laid (t':=s.toks) kp (Nat.le_refl _) (show ObjOk X.prog X.w _ h' _ (.lst ys) from ⟨hz,its,c',r',e⟩),rfl,q _ (I.hok.fresh (Nat.le_refl _))⟩
 rcases hq with hq | hq
 ·obtain ⟨its,r',pl,hz⟩:=I.list hq
  have hlen:=r'.length
  obtain ⟨o,ho,hc,n,hd⟩:=pl.isList
  exact call_list_seq p (.inl rfl) ho hc hd (fun h' c' kp e=>fin its r' hz h' c' kp e) (by simp only [List.size_toArray] <;> omega)
 ·obtain ⟨its,r',pl,hz⟩:=I.tuple hq
  have hlen:=r'.length
  obtain ⟨o,ho,hc,n,hd⟩:=pl
  exact call_list_seq p (.inr rfl) ho hc hd (fun h' c' kp e=>fin its r' hz h' c' kp e) (by simp only [List.size_toArray] <;> omega)
theorem call_tuple_of:CallR X (.type "tuple") (fun xs H Q=>∃ p ys,xs=[.ref p]/\((SqL X.K H p ys/\∀ l,H l=none->Q (.ref l) (upd H l (.tup ys)))\/(SqT X.K H p ys/\Q (.ref p) H))):=by
 intro pins s σ H xs us Q I r h
 obtain ⟨p,ys,rfl,h⟩:=h
 obtain ⟨u,rfl,rx⟩:=vals1 r
 cases rx
 rcases h with ⟨hq,q⟩ | ⟨hq,q⟩
 ·obtain ⟨its,r',pl,hz⟩:=I.list hq
  have hlen:=r'.length
  refine call_tuple_list pl.isList (fun h' kp=>?_) (by simp only [List.size_toArray] <;> omega)
  have I1:Inv X pins σ H { s with heap:=h' }:=I.kept (t':=s.toks) kp
  have I2:Inv X pins σ (upd H h'.objs.size (.tup ys)) { s with heap:=h'.push { cls:=.type "tuple",data:=.seq its.toArray } } :=
   I1.laid (t':=s.toks) (fun b o e=>Heap.get?_push_of_some _ e) (Nat.le_refl _) (show ObjOk X.prog X.w _ _ _ (.tup ys) from ⟨hz,its,r',IsTup.new _ _⟩)
  exact ⟨.ref h'.objs.size,_,I2,rfl,q _ (I1.hok.fresh (Nat.le_refl _))⟩
 ·obtain ⟨its,r',pl,hz⟩:=I.tuple hq
  exact call_tuple_same pl ⟨.ref p,H,I,rfl,q⟩
noncomputable def tyV (K:PySem.W.Frag) (T:String) (x:V) (H:Hp):Prop:=match x with
 | .str _=>T = "str"
 | .int _=>T = "int"
 | .ref p=>(T = "list" /\ ∃ xs,SqL K H p xs)\/(T = "tuple" /\ ∃ o,K.lookup p=some o/\o.cls=.type "tuple" /\ o.dict=none) \/
   (T = "dict" /\ ((∃ kvs,H p=some (.dK kvs))\/∃ kvs,H p=some (.dT kvs)))\/(T = "set" /\ ∃ S n,H p=some (.set S n))
 | _=>False
theorem tyV_is {pins:List (Addr × Obj)} {σ:St} {H:Hp} {s:Shared} {T:String} {x:V} {v:Value} (I:Inv X pins σ H s) (r:RelV x v) (ty:tyV X.K T x H) :
  s.TypeIs v T/\∀ a,v=.ref a->∃ ob,s.heap.get? a=some ob/\ob.dict=none:=by
 cases x with
 | str z =>
  obtain ⟨t,rfl⟩:=r
  cases (show T = "str" from ty)
  exact ⟨typeIs_str s z t,fun _ e=>nomatch e⟩
 | int i =>
  obtain ⟨t,rfl⟩:=r
  cases (show T = "int" from ty)
  exact ⟨typeIs_int s i t,fun _ e=>nomatch e⟩
 | ref p =>
  cases r
  rcases ty with ⟨rfl,xs,hq⟩ | ⟨rfl,o,hk,hc,hd⟩ | ⟨rfl,hk⟩ | ⟨rfl,S,n,hk⟩
  ·obtain ⟨its,_,pl,_⟩:=I.list hq
   refine ⟨pl.isList.typeIs,fun a e=>?_⟩
   cases e
   obtain ⟨o,n,e,c,hd,_⟩:=pl
   exact ⟨o,e,hd⟩
  ·refine ⟨⟨o,I.kIn p o hk,hc⟩,fun a e=>?_⟩
   cases e
   exact ⟨o,I.kIn _ o hk,hd⟩
  ·have z:∃ o,s.heap.get? p=some o/\o.ExactDict:=by
    rcases hk with ⟨kvs,hk⟩ | ⟨kvs,hk⟩
    ·obtain ⟨_,_,_,_,o,_,_,e,ex,_⟩:=I.hok p _ hk
     exact ⟨o,e,ex⟩
    ·obtain ⟨_,_,_,_,o,_,_,e,ex,_⟩:=I.hok p _ hk
     exact ⟨o,e,ex⟩
   obtain ⟨o,e,ex⟩:=z
   refine ⟨⟨o,e,ex.1⟩,fun a e2=>?_⟩
   cases e2
   exact ⟨o,e,ex.2.1⟩
  ·obtain ⟨o,_,_,_,e,ex,_⟩:=I.hok p _ hk
   refine ⟨⟨o,e,ex.1⟩,fun a e2=>?_⟩
   cases e2
   exact ⟨o,e,ex.2.1⟩
 | _=>exact False.elim ty
noncomputable def tBM (K:PySem.W.Frag) (T:String) (r:V->List V->Hp->VK->Prop) (to:TE) (t:TA):TE:=fun σ H Q=>to σ H fun x H1=>tyV K T x H1/\t σ H1 fun xs H2=>r x xs H2 Q
variable {o e:Expr} {es:List Expr} {to:TE} {t:TA} {name:Str} {apos cpos:Pos} {T id:String} {r:V->List V->Hp->VK->Prop}
theorem pe_bm (pa:PlainAttrs T) (slot:Slot T name id) (hty:typeOf (.builtin id)=pure (.type "method_descriptor")) (hm:MtR X id r) (ho:PE X o to) (ha:PA X (e :: es) t)
  (hbase:attributeBase o name X.env (eval o X.env)=eval o X.env:=by rfl)
  (hfew:((backTo cpos (starEach (e :: es) X.env)).all (fun x=>!x.1) && (backToKw cpos (keywordEach [] X.env)).all (fun x=>x.1.isSome)
   && decide ((e :: es).length+([]:List Keyword).length+(if ([]:List Keyword).isEmpty then 0 else 1) < 30))=true:=by rfl)
  (hline:(apos.endLine == cpos.line)=true:=by rfl) (hs:starEach (e :: es) X.env=(false,eval e X.env) :: starEach es X.env:=by rfl) (hplain:(backTo cpos (starEach es X.env)).any (·.1)=false:=by rfl) :
  PE X (.Call (.Attribute o name apos) (e :: es) [] cpos) (tBM X.K T r to t):=by
 intro pins s σ H Q I h
 refine wpAny_Call_method_late hbase hfew hline rfl (thn (ho pins s σ H _ I h) fun v s1 ⟨x,H1,I1,r1,ty,q1⟩=>?_)
 obtain ⟨h1,h2⟩:=tyV_is I1 r1 ty
 refine ⟨T,id,pa,slot,hty,h1,h2,?_⟩
 have hA:=ha cpos pins s1 σ H1 _ I1 q1
 rw [hs] at hA ⊢
 refine Calls.callWith_builtin (by show (false || (backTo cpos (starEach es X.env)).any (·.1))=false; rw [hplain] <;> rfl) (Calls.evalArgs_plain ?_)
 exact thn hA fun us s2 ⟨vs,H2,I2,r2,q2⟩=>hm pins s2 σ H2 x vs v us Q I2 r1 r2 q2
end
end L2
namespace L2
open PySem PySem.Spec PyProof.Rows
noncomputable def MtM (X:Cx) (id:String) (r:V->List V->Hp->VK->Prop):Prop :=
 ∀ (pins:List (Addr × Obj)) (s:Shared) (σ:St) (H:Hp) (x:V) (xs:List V) (v:Value) (us:List Value) (Q:VK),Inv X pins σ H s->RelV x v->Vals xs us->r x xs H Q ->
  wpAny (model X.prog X.w) X.A (call (.builtin id) (v :: us)) (EP X pins σ Q) X.xe s
theorem Vals.one:∀ {x:V} {us:List Value},Vals [x] us->∃ u,us=[u]/\RelV x u
 | _,_,.cons r .nil=>⟨_,rfl,r⟩
theorem Vals.two:∀ {x y:V} {us:List Value},Vals [x,y] us->∃ u v,us=[u,v]/\RelV x u/\RelV y v
 | _,_,_,.cons r (.cons q .nil)=>⟨_,_,rfl,r,q⟩
section
variable {X:Cx} {pins:List (Addr × Obj)} {σ:St} {H:Hp} {s:Shared} {l b:Addr} {xs ys zs:List V}
theorem Inv.lset {its its':List Value} {n:Nat} {f:Array Value->Array Value} {t':Nat} (I:Inv X pins σ H s) (hH:H l=some (.lst xs))
  (e:s.heap.get? l=some { cls:=.type "list",data:=.seq its.toArray n }) (hf:f its.toArray=its'.toArray) (hv:Vals ys its') (hz:ys.length<=sizeLine) :
  Inv X pins σ (upd H l (.lst ys)) { s with heap:=s.heap.update l (Obj.mapSeq f),toks:=t' }:=by
 have q:=PySem.IsL.update e f
 rw [hf] at q
 refine I.write (x:=l) (e:=l) (by rw [hH]; exact trivial) (.inl rfl) (fun b' u hb hu=>(Heap.get?_update_other s.heap (Obj.mapSeq f) (Ne.symm hb)).trans hu) ⟨_,q⟩ ?_
 exact ⟨hz,its',_,hv,q⟩
theorem Inv.lnew {its:List Value} {t':Nat} (I:Inv X pins σ H s) (hv:Vals ys its) (hz:ys.length<=sizeLine) :
  Inv X pins σ (upd H s.heap.objs.size (.lst ys)) { s with heap:=s.heap.push { cls:=.type "list",data:=.seq its.toArray },toks:=t' } :=
 I.laid (fun _ _ q=>Heap.get?_push_of_some _ q) (Nat.le_refl _) ⟨hz,its,0,hv,Heap.get?_push_size _ rfl⟩
theorem Inv.fresh (I:Inv X pins σ H s):H s.heap.objs.size=none:=I.hok.fresh (Nat.le_refl _)
theorem Inv.lstM (I:Inv X pins σ H s) (hH:H l=some (.lst xs)):xs.length<=sizeLine/\∃ (its:List Value) (n:Nat),Vals xs its/\xs.length=its.length/\s.heap.get? l=some { cls:=.type "list",data:=.seq its.toArray n }:=by
 obtain ⟨z,its,n,r,e⟩:=I.hok l _ hH
 exact ⟨z,its,n,r,r.length,e⟩
theorem notLongL {n:Nat} (h:n<=sizeLine):Builtin.List.listTooLong n=false:=by
 unfold Builtin.List.listTooLong
 exact decide_eq_false (by omega)
end
section
variable {X:Cx}
noncomputable def rAppend:V->List V->Hp->VK->Prop:=fun x vs H Q=>∃ l xs y,x=.ref l/\vs=[y]/\H l=some (.lst xs)/\xs.length < sizeLine/\Q .non (upd H l (.lst (xs ++ [y])))
theorem mt_append:MtM X "list.append" rAppend:=by
 intro pins s σ H x vs v us Q I rx rv h
 obtain ⟨l,xs,y,rfl,rfl,hH,hz,q⟩:=h
 cases rx
 obtain ⟨u,rfl,ru⟩:=rv.one
 obtain ⟨z,its,n,r,hl,e⟩:=I.lstM hH
 refine call_meets F.slot_list_append ⟨_,e,rfl⟩ F.entry_list_append (F.args_list_append_2 _ _) (PySem.list_append l its.toArray n u (by rw [List.size_toArray]; omega)) ⟨e,?_⟩
 refine ⟨.non,_,I.lset (its':=its ++ [u]) hH e (by simp) (r.append (.cons ru .nil)) ?_,rfl,q⟩
 rw [List.length_append,List.length_singleton]
 omega
noncomputable def rExtend:V->List V->Hp->VK->Prop:=fun x vs H Q=>∃ l b xs zs,x=.ref l/\vs=[.ref b]/\H l=some (.lst xs)/\H b=some (.lst zs)/\xs.length+zs.length<=sizeLine/\Q .non (upd H l (.lst (xs ++ zs)))
theorem mt_extend:MtM X "list.extend" rExtend:=by
 intro pins s σ H x vs v us Q I rx rv h
 obtain ⟨l,b,xs,zs,rfl,rfl,hH,hB,hz,q⟩:=h
 cases rx
 obtain ⟨u,rfl,ru⟩:=rv.one
 cases ru
 obtain ⟨z,its,n,r,hl,e⟩:=I.lstM hH
 obtain ⟨z2,its2,n2,r2,hl2,e2⟩:=I.lstM hB
 have hsz:its.toArray.size+its2.toArray.size<=sizeLine:=by rw [List.size_toArray,List.size_toArray]; omega
 have hlong:¬ (!its.toArray.isEmpty && Builtin.List.listTooLong (its.toArray.size+its2.toArray.size))=true:=by
  rw [notLongL hsz,Bool.and_false]
  exact Bool.false_ne_true
 refine call_meets F.slot_list_extend ⟨_,e,rfl⟩ F.entry_list_extend (F.args_list_extend_2 _ _)
  (AutoSeq1.list_extend_list_list_0 l its.toArray n b its2.toArray n2 hlong (by rw [List.size_toArray]; omega) (by omega)) ⟨e,e2,?_⟩
 refine ⟨.non,_,I.lset (its':=its ++ its2) hH e (by simp) (r.append r2) ?_,rfl,q⟩
 rw [List.length_append]
 omega
noncomputable def rCat:R2:=fun x y H Q=>∃ l b xs zs,x=.ref l/\y=.ref b/\H l=some (.lst xs)/\H b=some (.lst zs)/\xs.length+zs.length<=sizeLine/\∀ p,H p=none->Q (.ref p) (upd H p (.lst (xs ++ zs)))
theorem op_cat:OpR X (binaryOp .Add) rCat:=by
 intro pins s σ H x y v u Q I rx ry h
 obtain ⟨l,b,xs,zs,rfl,rfl,hH,hB,hz,q⟩:=h
 cases rx
 cases ry
 obtain ⟨z,its,n,r,hl,e⟩:=I.lstM hH
 obtain ⟨z2,its2,n2,r2,hl2,e2⟩:=I.lstM hB
 refine PySem.P.add_list e e2 ?_ (by rw [List.size_toArray,List.size_toArray]; omega)
 have ea:its.toArray ++ its2.toArray=(its ++ its2).toArray:=by simp
 rw [ea]
 exact ⟨.ref _,_,I.lnew (t':=s.toks) (r.append r2) (by rw [List.length_append]; omega),rfl,q _ I.fresh⟩
end
section
variable {prog:Program} {w:World} {A:Around} {E:Value->Shared->Prop} {s:Shared}
end
section
variable {X:Cx}
end
end L2
namespace Att
open PySem PySem.W PySem.Calls PyProof.Rows
theorem ints_of_wellAll {P:Params} {h:Heap}:∀ (ns:List Int) (vs:List Value),WellAll P h vs (ns.map WData.int)->IntsAre vs ns:=by
 intro ns
 induction ns with
 | nil =>
  intro vs w
  rw [List.map_nil] at w
  cases w
  exact .nil
 | cons n ns ih =>
  intro vs w
  rw [List.map_cons] at w
  cases w with
  | cons a b =>
   cases a
   exact .cons _ _ (ih _ b)
theorem script_of {l:OpenLaw} {n:Nat} (hn:l.most=some n) {P:Params} {h:Heap} {args:List WData} {vals:List Value}
  (hpre:l.row.toRowW.claim.pre args=true) (hwl:WellAll P h vals args) :
  ∃ a vs ns,vals=[Value.ref a]/\args=[WData.list (ns.map WData.int)]/\h.get? a=some { cls:=.type "list",data:=.seq vs.toArray }/\IntsAre vs ns/\ns.length<=n:=by
 have hsh:WShape.hasAll [] args [.list .int]=true:=(pre_splitW hpre).1
 have hc:l.pre.holds [] { args:=args }=true:=(pre_splitW hpre).2
 obtain ⟨d,r,rfl,h1,h2⟩:=hasAllW_cons hsh
 obtain rfl:=hasAllW_nil h2
 obtain ⟨xs,rfl,h3⟩:=hasW_list h1
 obtain ⟨ns,rfl⟩:=items_int h3
 have hlen:ns.length<=n:=by
  unfold OpenLaw.pre at hc
  have h4:(WTm.not (.lt (.lit (.int (n:Int))) (.len (.arg 0)))).holds [] { args:=[.list (ns.map .int)] }=true:=by
   have h4:=(holds_andW hc).1
   rw [hn] at h4
   exact h4
  have h5:=condW_of h4 (w_not (w_lt w_lit (w_len_list (w_arg rfl))))
  rw [List.length_map] at h5
  refine Nat.le_of_not_lt fun q=>?_
  have q':(n:Int) < ((ns.length:Nat):Int):=by omega
  first
   | (rw [decide_eq_true q'] at h5; exact absurd h5 (by decide))
   | (simp at h5; omega)
 cases hwl with
 | cons w1 w2 =>
  cases w2
  cases w1 with
  | list ho hall=>exact ⟨_,_,ns,rfl,rfl,ho,ints_of_wellAll ns _ hall,hlen⟩
theorem post_true (l:OpenLaw) (args:List WData):l.row.toRowW.claim.post args (.bool true) args=true :=
 postW_of (r:=l.row.toRowW) (X:=(true == true))
  (show WShape.has [] (.bool true) .bool=true by first | rfl | decide | simp [WShape.has,WShape.arms,WShape.armsAll])
  (show (WTm.eq .res (.lit (.bool true))).value [] { args:=args,res:=some (.bool true),after:=args }=some (.bool (true == true)) from w_eq_bool (w_res rfl) w_lit) rfl
theorem attach_call {l:OpenLaw} {n:Nat} {q:Program} {loose:List Str} {XP:(Str->Option Value)->Heap->Prop} {YP:World->Heap->Prop} {d:DefRec}
  (hn:l.most=some n) (hdf:d.params.defaults=[])
  (call:∀ (w:World) (s₀ s₁:Shared) (mg mb:Str->Option Value) (fa:Addr) (o:Obj) (pm cd doc:Value) (a:Addr) (vs:List Value) (ns:List Int),
   Ground q loose [] XP w s₀ mg mb s₁.heap->YP w s₁.heap ->
   s₁.heap.get? fa=some o->o.data=.func (docDef d.name d.params d.body d.scope pm cd doc)->s₁.heap.CodeRec cd d.name->mg d.name=some (.ref fa) ->
   s₁.heap.get? a=some { cls:=.type "list",data:=.seq vs.toArray }->IntsAre vs ns->ns.length<=n->s₁.gens=#[] ->
   codeAny (model l.prog w) callerA (.call (.ref fa) ⟨[.ref a],[]⟩) (fun r s'=>r=.ok (.ret (.bool true))/\OldK s₁.heap s'.heap/\s'.os=s₁.os/\AllBare s'.gens) s₁) :
  WalkO q loose XP YP l.row.toRowW d [] (fun f vs=>PySem.call f vs):=by
 intro w s₀ s₁ mg mb G Y fa o pm cd doc dV kV ho hd hcd hD hmg hg args vals as hpre hlay hrd hwl hlo
 obtain rfl:dV=.none:=Dflts.none hD hdf
 obtain rfl:kV=.none:=Dflts.noKw hD
 obtain ⟨a,vs,ns,rfl,rfl,hobj,hints,hlen⟩:=script_of hn hpre hwl
 refine enter_call (codeAny_mono (call w s₀ s₁ mg mb fa o pm cd doc a vs ns G Y ho (fd_plain hd) hcd hmg hobj hints hlen hg) fun r s' hq=>?_)
 obtain ⟨rfl,h2,h3,h4⟩:=hq
 exact ⟨.inl ⟨.bool true,.bool true,[],rfl,fun _=>rfl,.bool true,post_true l _,fun _=>⟨List.Pairwise.nil,fun _ hm=>(nomatch hm)⟩⟩,h2,h3,h4⟩
section
variable {prog:Program} {w:World} {A:Around} {E:Value->Shared->Prop} {s:Shared} {K:Frag}
end
end Att
namespace L2
open PySem PySem.Spec PyProof.Rows
theorem vals_ints:∀ {vs:List Value} {ns:List Int},IntsAre vs ns->Vals (ns.map V.int) vs
 | _,_,.nil=>.nil
 | _,_,.cons n t h=>.cons ⟨t,rfl⟩ (vals_ints h)
end L2
namespace L2
open PySem PySem.Spec PyProof.Rows
end L2
namespace L2
open PySem PySem.Spec PyProof.Rows
noncomputable abbrev CX0:CXT:=fun _ _ _ _ _ _=>False
noncomputable abbrev E0:XK:=fun _ _ _=>False
theorem pass0 {X:Cx}:Passes CX0 X E0:=fun _ _ _ _ _ _ _ h=>h.elim
structure Fun (K:PySem.W.Frag) (x qual:Str) (st:Stmt) (f:Addr) (fd:FuncData):Prop where
 ex:∃ (oc:Value) (od:Option Addr) (kV doc pm:Value) (an:Option Addr) (cdv ct:Value) (osl:Array (Option Value)),
  fd=PySem.W.fnOf x qual (defArgs st) (defBody st) (defScope st) .none kV doc pm an cdv ct/\K.lookup f=some ⟨oc,od,.func fd,osl⟩/\PySem.W.codeIn K cdv qual=true
 kp:PySem.W.keepIn K (.ref f)=true
section
variable {P:Program} {w:World} {K:PySem.W.Frag} {mg:Str->Option Value} {base:Heap}
theorem Fun.ok {x qual:Str} {st:Stmt} {f:Addr} {fd:FuncData} {N ps:List Str} {k:Nat} {sp:Sp} (F:Fun K x qual st f fd) (S:FnScope N ps (defScope st)) (len:∀ vs H Q E,sp vs H Q E->vs.length=ps.length)
  (hbody:∀ (cdv:Value) (A:Around) (outer:List Env) (s:Shared) (H:Hp) (vs:List V) (Q:VK) (E:XK),Room k (A.deeper (envOfC qual (defScope st) s.heap.objs.size f cdv))->sp vs H Q E ->
   ∃ t,PSs (cxOf CX0 P w K mg base N qual (defScope st) f cdv A outer s H E).nox (defBody st) t/\t { nx:=fun _ H'=>Q .non H',rt:=Q } (start N vs) H):FnOk P w K mg base CX0 (k+1) f fd ps sp:=by
 obtain ⟨oc,od,kV,doc,pm,an,cdv,ct,osl,rfl,lk,hcd⟩:=F.ex
 refine fn_of lk hcd S len fun A outer s H vs Q E hr hsp=>?_
 obtain ⟨t,h,q⟩:=hbody cdv A outer s H vs Q E hr hsp
 exact ⟨t,h.nox,q⟩
theorem Fun.binds {x qual:Str} {st:Stmt} {f:Addr} {fd:FuncData} {ps:List Str} (F:Fun K x qual st f fd)
  (h:∀ (kV doc pm:Value) (an:Option Addr) (cdv ct:Value) (us:List Value),us.length=ps.length->bindArgs (PySem.W.fnOf x qual (defArgs st) (defBody st) (defScope st) .none kV doc pm an cdv ct) ⟨us,[]⟩=pure (ps.zip us)):Binds K fd ps []:=by
 obtain ⟨oc,od,kV,doc,pm,an,cdv,ct,osl,rfl,lk,hcd⟩:=F.ex
 exact .all (h kV doc pm an cdv ct)
theorem fun_mk {x qual:Str} {st:Stmt} {f:Addr} {oc:Value} {od an:Option Addr} {osl:Array (Option Value)} {kV doc pm cdv ct:Value} (l:K.lookup f=some ⟨oc,od,.func (PySem.W.fnOf x qual (defArgs st) (defBody st) (defScope st) .none kV doc pm an cdv ct),osl⟩)
  (c:PySem.W.codeIn K cdv qual=true) (k:PySem.W.keepIn K (.ref f)=true):Fun K x qual st f (PySem.W.fnOf x qual (defArgs st) (defBody st) (defScope st) .none kV doc pm an cdv ct):=⟨⟨oc,od,kV,doc,pm,an,cdv,ct,osl,rfl,l,c⟩,k⟩
end
theorem small1000 {n:Nat} (h:n<=1000):n < sizeLine:=Nat.lt_of_le_of_lt h (by decide)
section
variable {X:Cx}
theorem pv (i:Nat) {x:Str} {pos:Pos} (hN:X.N[i]?=some x:=by rfl) (hv:Vis X.env.scope x:=by first | exact Or.inl rfl | exact Or.inr (Or.inl rfl) | exact Or.inr (Or.inr rfl)) (hd:(x == ("__debug__" : Str))=false:=by decide)
  (hcd:(x == ("__classdict__" : Str))=false:=by decide):PE X (.Name x pos) (tVar i):=pe_var hN hv hd hcd
end
theorem iteF {A B:Prop} (h:B):if false=true then A else B:=by
 rw [if_neg Bool.false_ne_true]
 exact h
theorem iteT {A B:Prop} (h:A):if true=true then A else B:=by
 rw [if_pos rfl]
 exact h
theorem ite2 {c A B:Prop} [Decidable c] (h1:c->A) (h2:¬ c->B):if c then A else B:=by
 by_cases h:c
 ·rw [if_pos h]
  exact h1 h
 ·rw [if_neg h]
  exact h2 h
noncomputable def Same (H H':Hp):Prop:=∀ b o,H b=some o->H' b=some o
theorem Same.refl (H:Hp):Same H H:=fun _ _ h=>h
theorem Same.trans {H H1 H2:Hp} (a:Same H H1) (b:Same H1 H2):Same H H2:=fun c o h=>b c o (a c o h)
theorem Same.free {H H':Hp} (e:Same H H') {l:Addr} (h:H' l=Option.none):H l=Option.none:=by
 cases q:H l with
 | none=>rfl
 | some o =>
  rw [e l o q] at h
  cases h
theorem Same.seq {K:PySem.W.Frag} {H H':Hp} {a:Addr} {xs:List V} (e:Same H H') (h:SqL K H a xs):SqL K H' a xs:=by
 rcases h with (h | ⟨o,h⟩) | h
 ·exact .inl (.inl (e _ _ h))
 ·exact .inl (.inr ⟨o,e _ _ h⟩)
 ·exact .inr h
end L2
set_option maxHeartbeats 4000000
namespace Ma
theorem split (d x:Int) (hd:0 < d):∃ q,x=d * q+x % d/\0<=x % d/\x % d < d :=
 ⟨x / d,by have:=Int.mul_ediv_add_emod x d; omega,Int.emod_nonneg x (by omega),Int.emod_lt_of_pos x hd⟩
theorem mul_lt_step {d k m:Int} (hd:0 < d) (h:k < m):d * k+d<=d * m:=by
 have:=Int.mul_le_mul_of_nonneg_left (show k+1<=m by omega) (Int.le_of_lt hd)
 rw [Int.mul_add,Int.mul_one] at this
 exact this
noncomputable def nextO (d a b t:Int):Int:=if b < t % d then t - t % d+d+a else t - t % d+(if a > t % d then a else t % d)
noncomputable def lastO (d a b t:Int):Int:=if t % d < a then t - t % d - d+b else t - t % d+(if b < t % d then b else t % d)
section
variable {d a b t:Int}
theorem next_spec (hd:0 < d) (h0:0<=a) (h1:a<=b) (h2:b < d) :
  ∃ k,d * k+a<=nextO d a b t/\nextO d a b t<=d * k+b/\t<=nextO d a b t/\nextO d a b t < t+d /\
   ∀ k' x,d * k'+a<=x->x<=d * k'+b->t<=x->nextO d a b t<=x:=by
 obtain ⟨q,hq,r0,r1⟩:=split d t hd
 unfold nextO
 generalize t % d=r at *
 split
 ·refine ⟨q+1,?_⟩
  have e:d * (q+1)=d * q+d:=by rw [Int.mul_add,Int.mul_one]
  refine ⟨by omega,by omega,by omega,by omega,fun k' x x1 x2 x3=>?_⟩
  rcases Int.lt_or_le q k' with hk | hk
  ·have:=mul_lt_step hd hk
   omega
  ·have:=Int.mul_le_mul_of_nonneg_left hk (Int.le_of_lt hd)
   omega
 ·refine ⟨q,?_⟩
  refine ⟨by split <;> omega,by split <;> omega,by split <;> omega,by split <;> omega,fun k' x x1 x2 x3=>?_⟩
  rcases (by omega:q < k'\/q=k'\/k' < q) with hk | hk | hk
  ·have:=mul_lt_step hd hk
   split <;> omega
  ·subst hk
   split <;> omega
  ·have:=mul_lt_step hd hk
   omega
theorem last_spec (hd:0 < d) (h0:0<=a) (h1:a<=b) (h2:b < d) :
  ∃ k,d * k+a<=lastO d a b t/\lastO d a b t<=d * k+b/\lastO d a b t<=t/\t < lastO d a b t+d /\
   ∀ k' x,d * k'+a<=x->x<=d * k'+b->x<=t->x<=lastO d a b t:=by
 obtain ⟨q,hq,r0,r1⟩:=split d t hd
 unfold lastO
 generalize t % d=r at *
 split
 ·refine ⟨q - 1,?_⟩
  have e:d * (q - 1)=d * q - d:=by rw [Int.mul_sub,Int.mul_one]
  refine ⟨by omega,by omega,by omega,by omega,fun k' x x1 x2 x3=>?_⟩
  rcases Int.lt_or_le k' q with hk | hk
  ·have:=mul_lt_step hd hk
   omega
  ·have:=Int.mul_le_mul_of_nonneg_left hk (Int.le_of_lt hd)
   omega
 ·refine ⟨q,?_⟩
  refine ⟨by split <;> omega,by split <;> omega,by split <;> omega,by split <;> omega,fun k' x x1 x2 x3=>?_⟩
  rcases (by omega:q < k'\/q=k'\/k' < q) with hk | hk | hk
  ·have:=mul_lt_step hd hk
   omega
  ·subst hk
   split <;> omega
  ·have:=mul_lt_step hd hk
   split <;> omega
end
structure Clk (d:Int) (n:Nat) (A B C:Nat->Int):Prop where
 d0:0 < d
 a0:∀ i,i < n->0<=A i
 ab:∀ i,i < n->A i<=B i
 bd:∀ i,i < n->B i < d
 c0:∀ i,i < n->0<=C i
 lt:∀ i j,i < j->j < n->B i < A j
 yl:∀ i j,i < j->j < n->B i+C i < A j+C j
 wr:∀ i j,i < n->j < n->B i+C i < d+(A j+C j)
noncomputable def Dep (d:Int) (n:Nat) (A B C:Nat->Int) (x y:Int):Prop:=∃ i k,i < n/\d * k+A i<=x/\x<=d * k+B i/\y=x+C i
section
variable {d:Int} {n:Nat} {A B C:Nat->Int}
theorem dep_mono (K:Clk d n A B C) {x y x' y':Int} (h:Dep d n A B C x y) (h':Dep d n A B C x' y') (l:x < x'):y < y':=by
 obtain ⟨i,k,hi,x1,x2,rfl⟩:=h
 obtain ⟨j,m,hj,z1,z2,rfl⟩:=h'
 have d0:=K.d0
 have wr:=K.wr i j hi hj
 have a1:=K.a0 i hi
 have a2:=K.a0 j hj
 have b1:=K.bd i hi
 have b2:=K.bd j hj
 rcases (by omega:k < m\/k=m\/m < k) with hk | hk | hk
 ·have:=mul_lt_step d0 hk
  omega
 ·subst hk
  rcases (by omega:i < j\/i=j\/j < i) with e | e | e
  ·have:=K.yl i j e hj
   omega
  ·subst e
   omega
  ·have:=K.lt j i e hi
   omega
 ·have:=mul_lt_step d0 hk
  omega
theorem dep_fun (K:Clk d n A B C) {x y y':Int} (h:Dep d n A B C x y) (h':Dep d n A B C x y'):y=y':=by
 obtain ⟨i,k,hi,x1,x2,rfl⟩:=h
 obtain ⟨j,m,hj,z1,z2,rfl⟩:=h'
 have d0:=K.d0
 have a1:=K.a0 i hi
 have a2:=K.a0 j hj
 have b1:=K.bd i hi
 have b2:=K.bd j hj
 rcases (by omega:k < m\/k=m\/m < k) with hk | hk | hk
 ·have:=mul_lt_step d0 hk
  omega
 ·subst hk
  rcases (by omega:i < j\/i=j\/j < i) with e | e | e
  ·have:=K.lt i j e hj
   omega
  ·rw [e]
  ·have:=K.lt j i e hi
   omega
 ·have:=mul_lt_step d0 hk
  omega
structure First (d:Int) (n:Nat) (A B C:Nat->Int) (t x y:Int):Prop where
 dep:Dep d n A B C x y
 le:t<=x
 least:∀ x' y',Dep d n A B C x' y'->t<=x'->x<=x'
structure Last (d:Int) (n:Nat) (A B C:Nat->Int) (s x:Int):Prop where
 dep:∃ y,Dep d n A B C x y/\y<=s
 most:∀ x' y',Dep d n A B C x' y'->y'<=s->x'<=x
theorem first_of (K:Clk d n A B C) (hn:0 < n) {t:Int} {m:Nat} (hm:m<=n) (h1:∀ i,i < m->¬ t % d<=B i) (h2:m < n->t % d<=B m) {i:Nat} (hi:i=m % n) :
  First d n A B C t (nextO d (A i) (B i) t) (nextO d (A i) (B i) t+C i):=by
 have hin:i < n:=by rw [hi]; exact Nat.mod_lt _ hn
 obtain ⟨k,k1,k2,k3,k4,k5⟩:=next_spec (t:=t) K.d0 (K.a0 i hin) (K.ab i hin) (K.bd i hin)
 refine ⟨⟨i,k,hin,k1,k2,rfl⟩,k3,?_⟩
 intro x' y' z9 hx;obtain ⟨j,k',hj,x1,x2,rfl⟩ := z9
 obtain ⟨q,hq,r0,r1⟩:=split d t K.d0
 have d0:=K.d0
 have aj:=K.a0 j hj
 have bj:=K.bd j hj
 have abj:=K.ab j hj
 have ai:=K.a0 i hin
 have bi:=K.bd i hin
 have abi:=K.ab i hin
 by_cases hmn:m < n
 ·have ei:i=m:=by rw [hi,Nat.mod_eq_of_lt hmn]
  subst ei
  have hb:=h2 hmn
  have en:nextO d (A i) (B i) t=t - t % d+(if A i > t % d then A i else t % d):=by
   unfold nextO
   rw [if_neg (by omega)]
  rw [en]
  rcases (by omega:j=i\/j < i\/i < j) with e | e | e
  ·subst e
   have:=k5 k' x' x1 x2 hx
   rw [en] at this
   exact this
  ·have hjb:=h1 j e
   rcases (by omega:k'<=q\/q < k') with hk | hk
   ·have:=Int.mul_le_mul_of_nonneg_left hk (Int.le_of_lt d0)
    omega
   ·have:=mul_lt_step d0 hk
    split <;> omega
  ·have:=K.lt i j e hj
   rcases (by omega:k' < q\/k'=q\/q < k') with hk | hk | hk
   ·have:=mul_lt_step d0 hk
    omega
   ·subst hk
    split <;> omega
   ·have:=mul_lt_step d0 hk
    split <;> omega
 ·have em:m=n:=by omega
  have ei:i=0:=by rw [hi,em,Nat.mod_self]
  subst ei
  have hb:=h1 0 (by omega)
  have en:nextO d (A 0) (B 0) t=t - t % d+d+A 0:=by
   unfold nextO
   rw [if_pos (by omega)]
  rw [en]
  have hjb:=h1 j (by omega)
  have a0j:A 0<=A j:=by
   rcases Nat.eq_zero_or_pos j with e | e
   ·rw [e]
    exact Int.le_refl _
   ·have:=K.lt 0 j e hj
    omega
  rcases (by omega:k'<=q\/q < k') with hk | hk
  ·have:=Int.mul_le_mul_of_nonneg_left hk (Int.le_of_lt d0)
   omega
  ·have:=mul_lt_step d0 hk
   omega
theorem First.uniq (K:Clk d n A B C) {t x y x' y':Int} (h:First d n A B C t x y) (h':First d n A B C t x' y'):x=x'/\y=y':=by
 have a:=h.least _ _ h'.dep h'.le
 have b:=h'.least _ _ h.dep h.le
 have e:x=x':=by omega
 subst e
 exact ⟨rfl,dep_fun K h.dep h'.dep⟩
theorem last_of (K:Clk d n A B C) (hn:0 < n) {s:Int} {m:Nat} (hm:m<=n)
  (h1:∀ i,i < m->¬ (A 0+C 0+(s - (A 0+C 0)) % d < A i+C i)) (h2:m < n->A 0+C 0+(s - (A 0+C 0)) % d < A m+C m) :
  0 < m/\Last d n A B C s (lastO d (A (m - 1)) (B (m - 1)) (s - C (m - 1))):=by
 obtain ⟨q,hq,r0,r1⟩:=split d (s - (A 0+C 0)) K.d0
 have d0:=K.d0
 generalize hh:(s - (A 0+C 0)) % d=r at *
 have m0:0 < m:=by
  rcases Nat.eq_zero_or_pos m with e | e
  ·subst e
   have:=h2 hn
   omega
  ·exact e
 refine ⟨m0,?_⟩
 have hin:m - 1 < n:=by omega
 generalize ei:m - 1=i at *
 obtain ⟨k,k1,k2,k3,k4,k5⟩:=last_spec (t:=s - C i) d0 (K.a0 i hin) (K.ab i hin) (K.bd i hin)
 have ge:A i+C i<=A 0+C 0+r:=Int.not_lt.mp (h1 i (by omega))
 have abi:=K.ab i hin
 have ai:=K.a0 i hin
 have lo:d * q+A i<=lastO d (A i) (B i) (s - C i):=k5 q (d * q+A i) (Int.le_refl _) (by omega) (by omega)
 refine ⟨⟨_,⟨i,k,hin,k1,k2,rfl⟩,by omega⟩,?_⟩
 intro x' y' z9 hy;obtain ⟨j,k',hj,x1,x2,rfl⟩ := z9
 have aj:=K.a0 j hj
 have bj:=K.bd j hj
 have abj:=K.ab j hj
 have lo0:A 0+C 0<=A j+C j:=by
  rcases Nat.eq_zero_or_pos j with e | e
  ·rw [e]
   exact Int.le_refl _
  ·have:=K.yl 0 j e hj
   have:=K.ab 0 hn
   omega
 rcases (by omega:k' < q\/k'=q\/q < k') with hk | hk | hk
 ·have:=mul_lt_step d0 hk
  omega
 ·subst hk
  rcases (by omega:j=i\/j < i\/i < j) with e | e | e
  ·subst e
   exact k5 k' x' x1 x2 (by omega)
  ·have:=K.lt j i e hin
   omega
  ·exfalso
   have hmn:m < n:=by omega
   have h3:=h2 hmn
   rcases (by omega:j=m\/m < j) with e' | e'
   ·rw [e'] at x1 x2 hy
    omega
   ·have:=K.yl m j e' hj
    have:=K.ab m hmn
    omega
 ·have:=mul_lt_step d0 hk
  omega
end
end Ma
namespace Ma
noncomputable abbrev T3:=Int × Int × Int
noncomputable def rA (R:List T3) (i:Nat):Int:=(R.getD i (0,0,0)).1
noncomputable def rB (R:List T3) (i:Nat):Int:=(R.getD i (0,0,0)).2.1
noncomputable def rC (R:List T3) (i:Nat):Int:=(R.getD i (0,0,0)).2.2
theorem r_at {R:List T3} {i:Nat} (h:i < R.length):R[i]?=some (rA R i,rB R i,rC R i):=by
 unfold rA rB rC
 rw [List.getD_eq_getElem?_getD,List.getElem?_eq_getElem h]
 rfl
theorem r_of {R:List T3} {i:Nat} {a b c:Int} (h:R[i]?=some (a,b,c)):rA R i=a/\rB R i=b/\rC R i=c:=by
 unfold rA rB rC
 rw [List.getD_eq_getElem?_getD,h]
 exact ⟨rfl,rfl,rfl⟩
section
variable {d:Int} {n:Nat} {A B C:Nat->Int}
theorem first_min (K:Clk d n A B C) {t:Int} {j:Nat} (hj:j < n) (hm:∀ i,i < n->nextO d (A j) (B j) t<=nextO d (A i) (B i) t):First d n A B C t (nextO d (A j) (B j) t) (nextO d (A j) (B j) t+C j):=by
 obtain ⟨k,k1,k2,k3,k4,k5⟩:=next_spec (t:=t) K.d0 (K.a0 j hj) (K.ab j hj) (K.bd j hj)
 refine ⟨⟨j,k,hj,k1,k2,rfl⟩,k3,?_⟩
 intro x' y' z9 hx;obtain ⟨i,k',hi,x1,x2,rfl⟩ := z9
 obtain ⟨k',a1,a2,a3,a4,a5⟩:=next_spec (t:=t) K.d0 (K.a0 i hi) (K.ab i hi) (K.bd i hi)
 have:=a5 _ x' x1 x2 hx
 have:=hm i hi
 omega
theorem leaveT (K:Clk d n A B C) {s x t xt yt:Int} (h:Last d n A B C s x) (ft:First d n A B C t xt yt):yt<=s↔t<=x:=by
 obtain ⟨y,h1,h2⟩:=h.dep
 constructor
 ·intro z
  have:=h.most _ _ ft.dep z
  have:=ft.le
  omega
 ·intro z
  have q:=ft.least _ _ h1 z
  rcases (by omega:xt < x\/xt=x) with e | e
  ·have:=dep_mono K ft.dep h1 e
   omega
  ·subst e
   have:=dep_fun K ft.dep h1
   omega
end
end Ma
namespace L2
open PySem PySem.Spec PyProof.Rows
theorem bt_max:bootBuiltins "max" = some (.builtin "max"):=by decide +kernel
theorem bt_min:bootBuiltins "min" = some (.builtin "min"):=by decide +kernel
theorem bt_len:bootBuiltins "len" = some (.builtin "len"):=by decide +kernel
theorem bt_all:bootBuiltins "all" = some (.builtin "all"):=by decide +kernel
theorem bt_isinstance:bootBuiltins "isinstance" = some (.builtin "isinstance"):=by decide +kernel
theorem bt_int:bootBuiltins "int" = some (.type "int"):=by decide +kernel
theorem bt_bool:bootBuiltins "bool" = some (.type "bool"):=by decide +kernel
theorem bt_tuple:bootBuiltins "tuple" = some (.type "tuple"):=by decide +kernel
theorem bt_list:bootBuiltins "list" = some (.type "list"):=by decide +kernel
noncomputable def notStar:Expr->Bool
 | .Starred ..=>false
 | _=>true
theorem se_of {e:Expr} {es:List Expr} {env:Env} (h:notStar e=true):starEach (e :: es) env=(false,eval e env) :: starEach es env:=by
 cases e <;> first | rfl | cases h
theorem any_of {pos:Pos} {env:Env}:∀ {es:List Expr},es.all notStar=true->(backTo pos (starEach es env)).any (·.1)=false
 | [],_=>rfl
 | e :: es,h=>by
  rw [List.all_cons,Bool.and_eq_true] at h
  rw [se_of h.1]
  show (false || (backTo pos (starEach es env)).any (·.1))=false
  rw [any_of h.2]
  rfl
section
variable {X:Cx} {e:Expr} {es:List Expr} {te:TE} {t:TA}
theorem pa_c (ha:PE X e te) (hr:PA X es t) (h:notStar e=true:=by rfl):PA X (e :: es) (tCons te t):=pa_cons ha hr (se_of h)
end
section
variable {X:Cx} {x:Str} {p pos:Pos} {e:Expr} {es:List Expr} {t:TA} {id T:String} {r:List V->Hp->VK->Prop}
theorem pe_cb (hc:CallR X (.builtin id) r) (hg:Gl X x) (hm:X.mg x=none) (hv:bootBuiltins x=some (.builtin id)) (ha:PA X (e :: es) t) (hn:x ≠ "__name__" := by decide) (hdb:(x == ("__debug__" : Str))=false:=by decide)
  (he:notStar e=true:=by rfl) (hpl:es.all notStar=true:=by rfl):PE X (.Call (.Name x p) (e :: es) [] pos) (tCB r t):=pe_callB hc hg hm hv ha hn hdb (se_of he) (any_of hpl)
theorem pe_ct (hc:CallR X (.type T) r) (hg:Gl X x) (hm:X.mg x=none) (hv:bootBuiltins x=some (.type T)) (ha:PA X (e :: es) t) (hn:x ≠ "__name__" := by decide) (hdb:(x == ("__debug__" : Str))=false:=by decide)
  (he:notStar e=true:=by rfl) (hpl:es.all notStar=true:=by rfl):PE X (.Call (.Name x p) (e :: es) [] pos) (tCB r t):=pe_callTy hc hg hm hv ha hn hdb (se_of he) (any_of hpl)
end
structure Callee (P:Program) (w:World) (K:PySem.W.Frag) (mg:Str->Option Value) (base:Heap) (k:Nat) (x:Str) (ps:List Str) (sp:Sp):Prop where
 ex:∃ (f:Addr) (fd:FuncData),FnOk P w K mg base CX0 k f fd ps sp/\Binds K fd ps []/\PySem.W.keepIn K (.ref f)=true/\mg x=some (.ref f)
theorem Callee.up {P:Program} {w:World} {K:PySem.W.Frag} {mg:Str->Option Value} {base:Heap} {j k:Nat} {x:Str} {ps:List Str} {sp:Sp} (C:Callee P w K mg base j x ps sp) (h:j<=k):Callee P w K mg base k x ps sp:=by
 obtain ⟨f,fd,G,b,kp,m⟩:=C.ex
 exact ⟨f,fd,G.mono h,b,kp,m⟩
theorem Callee.mk' {P:Program} {w:World} {K:PySem.W.Frag} {mg:Str->Option Value} {base:Heap} {k:Nat} {x:Str} {ps:List Str} {sp:Sp} {f:Addr} {fd:FuncData} (G:FnOk P w K mg base CX0 k f fd ps sp) (b:Binds K fd ps []) (kp:PySem.W.keepIn K (.ref f)=true) (m:mg x=some (.ref f)):Callee P w K mg base k x ps sp:=⟨f,fd,G,b,kp,m⟩
section
variable {X:Cx} {k:Nat} {x:Str} {ps:List Str} {sp:Sp} {e:Expr} {es:List Expr} {t:TA} {p pos:Pos}
theorem pe_fn (C:Callee X.prog X.w X.K X.mg X.base k x ps sp) (hr:Room k X.A) (hg:Gl X x) (ha:PA X (e :: es) t) (hdb:(x == ("__debug__" : Str))=false:=by decide)
  (he:notStar e=true:=by rfl) (hpl:es.all notStar=true:=by rfl) :
  PE X (.Call (.Name x p) (e :: es) [] pos) (tCall sp [] E0 t):=by
 obtain ⟨f,fd,G,b,kp,m⟩:=C.ex
 exact pe_call G hr hg m kp b .nil pass0 ha hdb (se_of he) (any_of hpl)
end
noncomputable def CDivB (_ j:Int):Prop:=0 < j/\j < 1606938044258990275541962092341162602522202993782792835301376
section
variable {X:Cx}
theorem op_fdivB:OpR X (binaryOp .FloorDiv) (rI CDivB fun i j=>.int (i / j)):=opI fun i j _ _ _ _ _ hc q=>by
 have h1:(0:Int) < j:=hc.1
 have h2:=hc.2
 refine floordiv_int (by omega) (by rw [Int.fdiv_eq_ediv_of_nonneg i (by omega)]; exact q) (.inl (PyProof.noPylong_of_log2 ?_))
 have h0:j.natAbs ≠ 0:=by omega
 have h3:j.natAbs < 2 ^ 200:=by
  have e:(2:Nat) ^ 200=1606938044258990275541962092341162602522202993782792835301376:=by decide +kernel
  rw [e]
  omega
 have:=(Nat.log2_lt h0).mpr h3
 omega
theorem call_isi:CallR X (.builtin "isinstance") (fun xs H Q=>∃ x T t b,xs=[x,.ty T]/\TyOf X.K H x t/\PySem.W.kitOne X.K t (.type T)=some b/\Q (.bl b) H):=by
 intro pins s σ H xs us Q I r h
 obtain ⟨x,T,t,b,rfl,ty,hk,q⟩:=h
 obtain ⟨u,v,rfl,r1,r2⟩:=Vals.two r
 cases (show v=Value.type T from r2)
 exact isinst_ok I r1 ty hk fun tk=>⟨.bl b,H,I.tok tk,rfl,q⟩
end
noncomputable def blk (X:Cx) (N':List Str) (scope:Scope) (cl:List (Str × Addr)) (C:Addr) (s0:Shared) (H0:Hp) (fp:List Addr):Cx :=
 { X with N:=N',s₀:=s0,H₀:=H0,env:=compEnvC scope cl C X.env,outer:=X.stack,ex:=fp,fn:=fun _=>false,pn:=[],xe:=fun _ _=>False }
noncomputable def seen (caps:List (Option Nat)) (σ:St):St:=caps.map fun o=>o.bind fun j=>(σ[j]?).join
structure BlkOk (X:Cx) (N':List Str) (scope:Scope) (cl:List (Str × Addr)) (caps:List (Option Nat)):Prop where
 clos:closureFor scope X.env=pure cl
 nocell:∀ y∈scope.names,y.2 ≠ .cell
 kind:scope.kind=.function
 names:∀ y∈scope.names,y.2=.local->scope.names.lookup y.1=some .local
 sub:∀ x c,cl.lookup x=some c->X.env.cells.lookup x=some c
 has:∀ x,((relabel scope X.env).names.lookup x=some .cell\/(relabel scope X.env).names.lookup x=some .free)->∃ c,cl.lookup x=some c
 len:caps.length=N'.length
 cap:∀ (i j:Nat) (x:Str),caps[i]?=some (some j)->N'[i]?=some x->X.N[j]?=some x/\(X.env.kindOf x=some .cell\/X.env.kindOf x=some .free)/\((relabel scope X.env).names.lookup x=some .cell\/(relabel scope X.env).names.lookup x=some .free)
theorem sameBut_ne {a:Addr} {h h':Heap} (x:Heap.SameBut a h h') {b:Addr} {o:Obj} (n:b ≠ a) (e:h.get? b=some o):h'.get? b=some o:=x.extBut b o n e
section
variable {X:Cx} {N':List Str} {scope:Scope} {cl:List (Str × Addr)} {caps:List (Option Nat)} {pins:List (Addr × Obj)} {σ:St} {H:Hp} {s:Shared} {fp:List Addr}
theorem blk_inv (B:BlkOk X N' scope cl caps) (I:Inv X pins σ H s) (hf:∀ b∈fp,FpOk X pins H b) {h1:Heap} {m:Str->Option Value} (hn:h1.Ns s.heap.objs.size m) (hk:∀ b o,s.heap.get? b=some o->h1.get? b=some o) {tk:Nat}
  (hfp:∀ b∈fp,b < s.heap.objs.size):Inv (blk X N' scope cl s.heap.objs.size s H fp) [] (seen caps σ) H { s with heap:=h1,toks:=tk }:=by
 have bsz:X.base.objs.size<=s.heap.objs.size:=Nat.le_trans I.ok.bsz I.sz
 refine ⟨⟨I.ok.mod,B.kind,I.ok.glob,I.ok.blt,Nat.le_refl _,fun x y c e1 e2=>I.ok.inj x y c (B.sub x c e1) (B.sub y c e2),B.has,fun _ _ z=>(nomatch z),I.ok.hd,I.ok.frames,.inl rfl,fun b hb=>⟨Nat.ne_of_lt (hfp b hb),fun x c e=>(hf b hb).2.2.2.2.1 x c (B.sub x c e)⟩,
   I.bs,bsz,fun b o e hb=>?_,fun b hb z=>?_,I.stack,I.stkFree⟩,rfl,I.bare,Un.kept hk,⟨m,hn,fun i x v e1 e2 _=>?_⟩,fun x c e=>?_,I.hok.fresh (Nat.le_refl _),fun x c e=>I.freeC x c (B.sub x c e),fun p hp=>absurd (show p∈([]:List (Addr × Obj)) from hp) (by simp),I.hok.kept hk,?_⟩
 ·obtain ⟨_,_,_,z,_⟩:=hf b hb
  rcases z with z | z
  ·exact I.ok.noex b o e z
  ·exact absurd (Nat.lt_of_lt_of_le (Heap.lt_size e) (Nat.le_trans I.ok.bsz z)) (Nat.lt_irrefl _)
 ·obtain ⟨_,z1,z2,_⟩:=hf b hb
  rcases List.mem_cons.mp (I.stkSub b z) with e | e
  ·exact z1 e
  ·exact z2 e
 ·have e2':(seen caps σ)[i]?=some (some v):=e2
  unfold seen at e2'
  rw [List.getElem?_map] at e2'
  cases ec:caps[i]? with
  | none=>rw [ec] at e2'; cases e2'
  | some oj =>
   rw [ec] at e2'
   have e3:(oj.bind fun j=>(σ[j]?).join)=some v:=Option.some.inj e2'
   cases oj with
   | none=>cases e3
   | some j =>
    obtain ⟨c1,c2,c3⟩:=B.cap i j x ec e1
    have e4:σ[j]?=some (some v):=by
     have e5:(σ[j]?).join=some v:=e3
     cases ej:σ[j]? with
     | none=>rw [ej] at e5; cases e5
     | some ov =>
      rw [ej] at e5
      cases ov with
      | none=>cases e5
      | some v'=>exact congrArg some e5
    obtain ⟨m0,hn0,hl⟩:=I.loc
    obtain ⟨u,ru,lk⟩:=hl j x v c1 e4 (by
     rcases c2 with z | z
     ·exact .inr (.inl z)
     ·exact .inr (.inr z))
    refine ⟨u,ru,.inr ⟨c3,?_⟩⟩
    obtain ⟨c,ecl⟩:=B.has x c3
    refine ⟨c,ecl,?_⟩
    rcases lk with ⟨z,_⟩ | ⟨_,c',e',⟨oc,q1,q2⟩⟩
    ·rcases c2 with y | y
     ·rw [y] at z; cases z
     ·rw [y] at z; cases z
    ·have ee:c'=c:=Option.some.inj (e'.symm.trans (B.sub x c ecl))
     subst ee
     exact ⟨oc,hk _ _ q1,q2⟩
 ·obtain ⟨v,o,q1,q2⟩:=I.cell x c (B.sub x c e)
  exact ⟨v,o,hk _ _ q1,q2⟩
 ·show (seen caps σ).length=N'.length
  unfold seen
  rw [List.length_map]
  exact B.len
theorem blk_end (I:Inv X pins σ H s) (hf:∀ b∈fp,FpOk X pins H b) (hfp:∀ b∈fp,b < s.heap.objs.size) {σ':St} {H':Hp} {s':Shared} (J:Inv (blk X N' scope cl s.heap.objs.size s H fp) [] σ' H' s') {h':Heap}
  (sb:Heap.SameBut s.heap.objs.size s'.heap h'):Inv X pins σ H' { s' with heap:=h' }:=by
 have hC:∀ b o,s.heap.get? b=some o->b ≠ s.heap.objs.size:=fun b o e=>Nat.ne_of_lt (Heap.lt_size e)
 have u:=J.base
 have u':Un (frs X.stack) fp H H' s.heap h':=by
  refine ⟨fun b o e n hb hx=>sameBut_ne sb (hC b o e) (u.keep b o e n hb hx),fun b o e n hb hx=>?_,u.free,fun b o e hx=>?_,u.tups,u.frzs,u.tbls⟩
  ·obtain ⟨sl,q⟩:=u.slot b o e n hb hx
   exact ⟨sl,sameBut_ne sb (hC b o e) q⟩
  ·obtain ⟨o',q⟩:=u.there b o e hx
   exact ⟨o',sameBut_ne sb (hC b o e) q⟩
 have nC:H' s.heap.objs.size=none:=J.free
 have hok:HOk X.prog X.w H' h':=fun b o e=>by
  refine (J.hok b o e).stay (fun c v hc q=>sameBut_ne sb ?_ q) (fun _ q=>q) fun _ _ q=>q
  rcases hc with z | z
  ·intro z'
   rw [z] at z'
   rw [z',nC] at e
   cases e
  ·intro z'
   rw [z',nC] at z
   cases z
 obtain ⟨hh,g,d,t,os'⟩:=s'
 obtain rfl:os'=s.os:=J.os
 show Inv X pins σ H' { s with heap:=h',gens:=g,drawn:=d,toks:=t }
 refine Inv.call (s:=s) (h':=h') (g':=g) (d':=d) (t':=t) (ch:=fp) I u' hok J.bare fun b hb=>?_
 obtain ⟨_,z1,_,z3,z4,z5⟩:=hf b hb
 exact ⟨z3,z1,z4,z5⟩
noncomputable def cBody (caps:List (Option Nat)) (g:TG) (tt:TT) (te:TE) (σ:St) (Q:VK) (J:It) (H1:Hp):Prop:=∀ D,H1 D=none->∃ W:Nat->Nat->Hp->Prop,(∃ m,W 0 m (upd H1 D (.lst [])))/\∀ i m H2,W i m H2 ->
 (J.stop i H2/\Q (.ref D) H2)\/(J.go i H2/\∃ N:Hp->Prop,(∀ H',N H'->∃ m',m' < m/\W (i+1) m' H')/\∀ x H3,J.yld i H2 x H3->g x (seen caps σ) H3 fun σ4 H4=>(∀ (k:Nat) v,(seen caps σ)[k]?=some (some v)->σ4[k]?=some (some v))/\tt σ4 H4 fun b H5 =>
  if b=true then te σ4 H5 fun y H6=>∃ ys,H6 D=some (.lst ys)/\ys.length < sizeLine/\N (upd H6 D (.lst (ys ++ [y]))) else N H5)
noncomputable def tComp (wi:TI) (caps:List (Option Nat)) (g:TG) (tt:TT) (te:TE):TE:=fun σ H Q=>wi σ H (cBody caps g tt te σ Q)
noncomputable def tTrue:TT:=fun _ H Q=>Q true H
section
variable {tg iter elt:Expr} {wi:TI} {g:TG} {te:TE} {tt:TT} {pos:Pos} {Q:VK}
theorem comp_again {J:It} {it:Addr} {tn:Nat->Heap->Prop} {H0:Hp} {C:Addr} (T:Turn X.prog X.w X.K tg J fp it tn) {s7 s9:Shared} {i n:Nat} {W:Nat->Nat->Hp->Prop} {N:Hp->Prop} (hN:∀ H',N H'->∃ m',m' < n/\W (i+1) m' H')
  (st7:tn (i+1) s7.heap) {σ8:St} {H9:Hp} (I9:Inv (blk X N' scope cl C s H0 fp) ([] ++ pinsAt fp s7.heap) σ8 H9 s9) (kp:∀ (k:Nat) v,(seen caps σ)[k]?=some (some v)->σ8[k]?=some (some v)) (hl:(seen caps σ).length=σ8.length) (n9:N H9) :
  ∃ m,m < n/\∃ j H',Inv (blk X N' scope cl C s H0 fp) [] (seen caps σ) H' s9/\tn j s9.heap/\(∀ b∈fp,H' b=none)/\W j m H':=by
 obtain ⟨m',hm,w7⟩:=hN H9 n9
 refine ⟨m',hm,i+1,H9,(I9.unpinned).weak hl kp,T.keep _ _ _ st7 fun b hb o e=>(I9.pin (b,o) (List.mem_append_right _ (List.mem_append_right _ (mem_pinsAt hb e)))).1,fun b hb=>?_,w7⟩
 obtain ⟨o,e,d⟩:=T.obj _ _ st7 b hb
 exact (I9.pin (b,o) (List.mem_append_right _ (List.mem_append_right _ (mem_pinsAt hb e)))).2.1
theorem pe_comp (B:BlkOk X N' scope cl caps) (hc:X.calm=true) (hi:PI X tg iter wi) (hg:∀ C s0 H0 fp,PG (blk X N' scope cl C s0 H0 fp) tg g) (he:∀ C s0 H0 fp,PE (blk X N' scope cl C s0 H0 fp) elt te)
  (hs:∀ x,foldedSetIterable iter X.env x=pure x:=by intro _; rfl):PE X (.ListComp elt [⟨tg,iter,[],0⟩] scope pos) (tComp wi caps g tTrue te):=by
 intro pins s σ H Q I h
 rw [eval_ListComp]
 refine wpAny_comprehension_free (use:=none) rfl hs B.clos B.kind B.names ?_
 refine thn (hi pins s σ H _ I h) fun v s1 h1=>thn h1 fun itv s2 h2=>?_
 obtain ⟨it,fp,tn,J,H2,rfl,I2,T,st2,f2,q2⟩:=h2
 have fpl:∀ b∈fp,b < s2.heap.objs.size:=fun b hb=>by
  obtain ⟨o,e,_⟩:=T.obj _ _ st2 b hb
  exact Heap.lt_size e
 obtain ⟨W,⟨m0,w0⟩,turn⟩:=q2 s2.heap.objs.size (I2.hok.fresh (Nat.le_refl _))
 refine wpAny_newObj_type ?_
 have I3:Inv X pins σ (upd H2 s2.heap.objs.size (.lst [])) { s2 with heap:=s2.heap.push { cls:=.type "list",data:=.seq ([]:List Value).toArray } } :=
  I2.laid (t':=s2.toks) (fun b u e=>Heap.get?_push_of_some _ e) (Nat.le_refl _) ⟨Nat.zero_le _,[],0,.nil,Heap.get?_push_size _ rfl⟩
 generalize hs3:({ s2 with heap:=s2.heap.push { cls:=.type "list",data:=.seq ([]:List Value).toArray } }:Shared)=s3 at I3
 have k23:∀ b o,s2.heap.get? b=some o->s3.heap.get? b=some o:=fun b o e=>by rw [<- hs3]; exact Heap.get?_push_of_some _ e
 have fpl3:∀ b∈fp,b < s3.heap.objs.size:=fun b hb=>by
  obtain ⟨o,e,_⟩:=T.obj _ _ st2 b hb
  exact Heap.lt_size (k23 b o e)
 have f3:∀ b∈fp,FpOk X pins (upd H2 s2.heap.objs.size (.lst [])) b:=fun b hb=>⟨by rw [upd_ne (Nat.ne_of_lt (fpl b hb))]; exact (f2 b hb).1,(f2 b hb).2⟩
 refine wpAny_newFunctionEnv B.nocell (by intro y hy; simp at hy) (fun h1 hn1 sb1=>?_) B.kind
 have k31:∀ b o,s3.heap.get? b=some o->h1.get? b=some o:=fun b o e=>sb1.extBut b o (Nat.ne_of_lt (Heap.lt_size e)) (Heap.get?_push_of_some _ e)
 have J0:=blk_inv (fp:=fp) (tk:=s3.toks+([]:List (Str × Value)).length) B I3 f3 hn1 k31 fpl3
 have st1:tn 0 h1:=T.keep _ _ _ st2 fun b _ o e=>k31 b o (k23 b o e)
 have loop:codeAny (model X.prog X.w) X.A (.compLoop (.ListComp elt [⟨tg,iter,[],0⟩] scope pos) 0 (.ref it) (.ref s2.heap.objs.size) (blk X N' scope cl s3.heap.objs.size s3 (upd H2 s2.heap.objs.size (.lst [])) fp).env)
   (compPost (model X.prog X.w) X.A X.xe none (EP X pins σ Q) (.ref s2.heap.objs.size) s3.heap.objs.size) { s3 with heap:=h1,toks:=s3.toks+([]:List (Str × Value)).length }:=by
  refine codeAny_loop rfl (fun n s'=>∃ i H',Inv (blk X N' scope cl s3.heap.objs.size s3 (upd H2 s2.heap.objs.size (.lst [])) fp) [] (seen caps σ) H' s'/\tn i s'.heap/\(∀ b∈fp,H' b=none)/\W i n H') (fun n s5 hI=>?_) m0
   ⟨0,_,J0,st1,fun b hb=>(f3 b hb).1,w0⟩
  obtain ⟨i,H5,I5,st5,fr5,w5⟩:=hI
  show wpAny _ _ ((compTurn (.ListComp elt [⟨tg,iter,[],0⟩] scope pos) 0 (.ref it) (.ref s2.heap.objs.size) (blk X N' scope cl s3.heap.objs.size s3 (upd H2 s2.heap.objs.size (.lst [])) fp).env).onRaise (fun x=>do noteFrame x (blk X N' scope cl s3.heap.objs.size s3 (upd H2 s2.heap.objs.size (.lst [])) fp).env; theTreesLotGoes x)) _ _ s5
  refine wpAny_noted ?_
  rw [compTurn_list1]
  have ff:∀ {H':Hp},(∀ b∈fp,H' b=none)->∀ b∈fp,FpOk (blk X N' scope cl s3.heap.objs.size s3 (upd H2 s2.heap.objs.size (.lst [])) fp) [] H' b:=fun {H'} hn b hb =>
   ⟨hn b hb,(J0.ok.exf b hb).1,J0.ok.exfs b hb,.inl hb,fun x c e=>(J0.ok.exf b hb).2 x c e,fun p hp=>absurd (show p∈([]:List (Addr × Obj)) from hp) (by simp)⟩
  rcases turn i n H5 w5 with ⟨stop,qn⟩ | ⟨go,N,hN,step⟩
  ·refine wpAny_bind (wpAny_standAt (wpAny_bind (thn (T.done (blk X N' scope cl s3.heap.objs.size s3 (upd H2 s2.heap.objs.size (.lst [])) fp) rfl rfl rfl hc i [] s5 _ H5 _ I5 (ff fr5) st5 stop) fun r s6 ⟨hr,I6⟩=>?_)))
   subst hr
   refine wpAny_pure ?_
   obtain ⟨m,hn,_⟩:=id I6.loc
   exact ⟨m,hn,fun h' sb=>⟨.ref s2.heap.objs.size,H5,blk_end I3 f3 fpl3 I6 sb,rfl,qn⟩⟩
  ·refine wpAny_bind (wpAny_standAt (wpAny_bind (thn (T.item (blk X N' scope cl s3.heap.objs.size s3 (upd H2 s2.heap.objs.size (.lst [])) fp) rfl rfl rfl hc i [] s5 _ H5 _ I5 (ff fr5) st5 go) fun r s6 ⟨u,hr,h6⟩=>?_)))
   subst hr
   refine wpAny_bind (thn h6 fun _ s7 ⟨x,H7,I7,r7,y7,st7,fr7⟩=>?_)
   have I7':=I7.pinned (ff fr7) (T.obj _ _ st7)
   refine wpAny_bind (wpAny_mono (hg _ _ _ _ _ s7 _ H7 x u _ I7' r7 (step x H7 y7)) (fun _ s8 ⟨σ8,H8,I8,kp,q8⟩=>?_) fun _ _ f=>f.elim)
   have q8':te σ8 H8 fun y H6=>∃ ys,H6 s2.heap.objs.size=some (.lst ys)/\ys.length < sizeLine/\N (upd H6 s2.heap.objs.size (.lst (ys ++ [y]))):=by
    have z:=q8
    unfold tTrue at z
    dsimp only at z
    rw [if_pos rfl] at z
    exact z
   refine wpAny_bind (wpAny_bind (wpAny_mono (he _ _ _ _ _ s8 σ8 H8 _ I8 q8') (fun y s9 ⟨y',H9,I9,r9,ys,hD,hl,n9⟩=>?_) fun _ _ f=>f.elim))
   refine wpAny_bind (wpAny_mono (mt_append (X:=blk X N' scope cl s3.heap.objs.size s3 (upd H2 s2.heap.objs.size (.lst [])) fp) _ s9 σ8 H9 (.ref s2.heap.objs.size) [y'] (.ref s2.heap.objs.size) [y] (fun _ H'=>N H') I9 rfl (.cons r9 .nil) ⟨_,ys,y',rfl,rfl,hD,hl,n9⟩) (fun _ s10 ⟨_,H10,I10,_,n10⟩=>?_) fun _ _ f=>f.elim)
   exact wpAny_pure (wpAny_pure ⟨rfl,comp_again T hN st7 I10 kp (I5.len.trans I10.len.symm) n10⟩)
 exact codeAny_compStart_list loop (T.self X.A 0 _ _ _ st1 loop)
theorem pe_compIf {c:Expr} (B:BlkOk X N' scope cl caps) (hc:X.calm=true) (hi:PI X tg iter wi) (hg:∀ C s0 H0 fp,PG (blk X N' scope cl C s0 H0 fp) tg g) (ht:∀ C s0 H0 fp,PT (blk X N' scope cl C s0 H0 fp) c tt)
  (he:∀ C s0 H0 fp,PE (blk X N' scope cl C s0 H0 fp) elt te) (hs:∀ x,foldedSetIterable iter X.env x=pure x:=by intro _; rfl):PE X (.ListComp elt [⟨tg,iter,[c],0⟩] scope pos) (tComp wi caps g tt te):=by
 intro pins s σ H Q I h
 rw [eval_ListComp]
 refine wpAny_comprehension_free (use:=none) rfl hs B.clos B.kind B.names ?_
 refine thn (hi pins s σ H _ I h) fun v s1 h1=>thn h1 fun itv s2 h2=>?_
 obtain ⟨it,fp,tn,J,H2,rfl,I2,T,st2,f2,q2⟩:=h2
 have fpl:∀ b∈fp,b < s2.heap.objs.size:=fun b hb=>by
  obtain ⟨o,e,_⟩:=T.obj _ _ st2 b hb
  exact Heap.lt_size e
 obtain ⟨W,⟨m0,w0⟩,turn⟩:=q2 s2.heap.objs.size (I2.hok.fresh (Nat.le_refl _))
 refine wpAny_newObj_type ?_
 have I3:Inv X pins σ (upd H2 s2.heap.objs.size (.lst [])) { s2 with heap:=s2.heap.push { cls:=.type "list",data:=.seq ([]:List Value).toArray } } :=
  I2.laid (t':=s2.toks) (fun b u e=>Heap.get?_push_of_some _ e) (Nat.le_refl _) ⟨Nat.zero_le _,[],0,.nil,Heap.get?_push_size _ rfl⟩
 generalize hs3:({ s2 with heap:=s2.heap.push { cls:=.type "list",data:=.seq ([]:List Value).toArray } }:Shared)=s3 at I3
 have k23:∀ b o,s2.heap.get? b=some o->s3.heap.get? b=some o:=fun b o e=>by rw [<- hs3]; exact Heap.get?_push_of_some _ e
 have fpl3:∀ b∈fp,b < s3.heap.objs.size:=fun b hb=>by
  obtain ⟨o,e,_⟩:=T.obj _ _ st2 b hb
  exact Heap.lt_size (k23 b o e)
 have f3:∀ b∈fp,FpOk X pins (upd H2 s2.heap.objs.size (.lst [])) b:=fun b hb=>⟨by rw [upd_ne (Nat.ne_of_lt (fpl b hb))]; exact (f2 b hb).1,(f2 b hb).2⟩
 refine wpAny_newFunctionEnv B.nocell (by intro y hy; simp at hy) (fun h1 hn1 sb1=>?_) B.kind
 have k31:∀ b o,s3.heap.get? b=some o->h1.get? b=some o:=fun b o e=>sb1.extBut b o (Nat.ne_of_lt (Heap.lt_size e)) (Heap.get?_push_of_some _ e)
 have J0:=blk_inv (fp:=fp) (tk:=s3.toks+([]:List (Str × Value)).length) B I3 f3 hn1 k31 fpl3
 have st1:tn 0 h1:=T.keep _ _ _ st2 fun b _ o e=>k31 b o (k23 b o e)
 have loop:codeAny (model X.prog X.w) X.A (.compLoop (.ListComp elt [⟨tg,iter,[c],0⟩] scope pos) 0 (.ref it) (.ref s2.heap.objs.size) (blk X N' scope cl s3.heap.objs.size s3 (upd H2 s2.heap.objs.size (.lst [])) fp).env)
   (compPost (model X.prog X.w) X.A X.xe none (EP X pins σ Q) (.ref s2.heap.objs.size) s3.heap.objs.size) { s3 with heap:=h1,toks:=s3.toks+([]:List (Str × Value)).length }:=by
  refine codeAny_loop rfl (fun n s'=>∃ i H',Inv (blk X N' scope cl s3.heap.objs.size s3 (upd H2 s2.heap.objs.size (.lst [])) fp) [] (seen caps σ) H' s'/\tn i s'.heap/\(∀ b∈fp,H' b=none)/\W i n H') (fun n s5 hI=>?_) m0
   ⟨0,_,J0,st1,fun b hb=>(f3 b hb).1,w0⟩
  obtain ⟨i,H5,I5,st5,fr5,w5⟩:=hI
  show wpAny _ _ ((compTurn (.ListComp elt [⟨tg,iter,[c],0⟩] scope pos) 0 (.ref it) (.ref s2.heap.objs.size) (blk X N' scope cl s3.heap.objs.size s3 (upd H2 s2.heap.objs.size (.lst [])) fp).env).onRaise (fun x=>do noteFrame x (blk X N' scope cl s3.heap.objs.size s3 (upd H2 s2.heap.objs.size (.lst [])) fp).env; theTreesLotGoes x)) _ _ s5
  refine wpAny_noted ?_
  rw [compTurn_list]
  have ff:∀ {H':Hp},(∀ b∈fp,H' b=none)->∀ b∈fp,FpOk (blk X N' scope cl s3.heap.objs.size s3 (upd H2 s2.heap.objs.size (.lst [])) fp) [] H' b:=fun {H'} hn b hb =>
   ⟨hn b hb,(J0.ok.exf b hb).1,J0.ok.exfs b hb,.inl hb,fun x c e=>(J0.ok.exf b hb).2 x c e,fun p hp=>absurd (show p∈([]:List (Addr × Obj)) from hp) (by simp)⟩
  rcases turn i n H5 w5 with ⟨stop,qn⟩ | ⟨go,N,hN,step⟩
  ·refine wpAny_bind (wpAny_standAt (wpAny_bind (thn (T.done (blk X N' scope cl s3.heap.objs.size s3 (upd H2 s2.heap.objs.size (.lst [])) fp) rfl rfl rfl hc i [] s5 _ H5 _ I5 (ff fr5) st5 stop) fun r s6 ⟨hr,I6⟩=>?_)))
   subst hr
   refine wpAny_pure ?_
   obtain ⟨m,hn,_⟩:=id I6.loc
   exact ⟨m,hn,fun h' sb=>⟨.ref s2.heap.objs.size,H5,blk_end I3 f3 fpl3 I6 sb,rfl,qn⟩⟩
  ·refine wpAny_bind (wpAny_standAt (wpAny_bind (thn (T.item (blk X N' scope cl s3.heap.objs.size s3 (upd H2 s2.heap.objs.size (.lst [])) fp) rfl rfl rfl hc i [] s5 _ H5 _ I5 (ff fr5) st5 go) fun r s6 ⟨u,hr,h6⟩=>?_)))
   subst hr
   refine wpAny_bind (thn h6 fun _ s7 ⟨x,H7,I7,r7,y7,st7,fr7⟩=>?_)
   have I7':=I7.pinned (ff fr7) (T.obj _ _ st7)
   refine wpAny_bind (wpAny_mono (hg _ _ _ _ _ s7 _ H7 x u _ I7' r7 (step x H7 y7)) (fun _ s8 ⟨σ8,H8,I8,kp,q8⟩=>?_) fun _ _ f=>f.elim)
   refine wpAny_bind (wpAny_tests_one (wpAny_mono (ht _ _ _ _ _ s8 σ8 H8 _ I8 q8) (fun b s9 ⟨H9,I9,q9⟩=>?_) fun _ _ f=>f.elim))
   cases b with
   | false =>
    rw [if_neg Bool.false_ne_true] at q9
    exact wpAny_pure ⟨rfl,comp_again T hN st7 I9 kp (I5.len.trans I9.len.symm) q9⟩
   | true =>
    rw [if_pos rfl] at q9
    refine wpAny_bind (wpAny_bind (wpAny_mono (he _ _ _ _ _ s9 σ8 H9 _ I9 q9) (fun y s10 ⟨y',H10,I10,r10,ys,hD,hl,n10⟩=>?_) fun _ _ f=>f.elim))
    refine wpAny_bind (wpAny_mono (mt_append (X:=blk X N' scope cl s3.heap.objs.size s3 (upd H2 s2.heap.objs.size (.lst [])) fp) _ s10 σ8 H10 (.ref s2.heap.objs.size) [y'] (.ref s2.heap.objs.size) [y] (fun _ H'=>N H') I10 rfl (.cons r10 .nil) ⟨_,ys,y',rfl,rfl,hD,hl,n10⟩) (fun _ s11 ⟨_,H11,I11,_,n11⟩=>?_) fun _ _ f=>f.elim)
    exact wpAny_pure (wpAny_pure ⟨rfl,comp_again T hN st7 I11 kp (I5.len.trans I11.len.symm) n11⟩)
 exact codeAny_compStart_list loop (T.self X.A 0 _ _ _ st1 loop)
end
end
end L2
namespace L2
open PySem PySem.Spec PyProof.Rows
section
variable {X:Cx} {a b c d:Expr} {ta tb tc td:TE} {pos:Pos}
noncomputable def tChain3 (r r' r'':R2) (ta tb tc td:TE):TE:=fun σ H Q=>ta σ H fun x H1=>tb σ H1 fun y H2=>r x y H2 fun z H3=>∃ k,z=.bl k /\
 (if k=true then tc σ H3 fun w' H4=>r' y w' H4 fun z' H5=>∃ k',z'=.bl k'/\(if k'=true then td σ H5 fun w2 H6=>r'' w' w2 H6 Q else Q (.bl false) H5) else Q (.bl false) H3)
theorem pe_chain3 {op op' op'':CmpOp} {r r' r'':R2} (ho:OpR X (compareOp op) r) (ho':OpR X (compareOp op') r') (ho'':OpR X (compareOp op'') r'') (ha:PE X a ta) (hb:PE X b tb) (hc:PE X c tc) (hd:PE X d td)
  (hm:lastMarks [op,op',op''] [b,c,d]=false:=by with_unfolding_all rfl):PE X (.Compare a [op,op',op''] [b,c,d] pos) (tChain3 r r' r'' ta tb tc td):=by
 intro pins s σ H Q I h
 refine Compare_chain (thn (ha pins s σ H _ I h) fun v s1 ⟨x,H1,I1,r1,q1⟩=>chain_link (thn (hb pins s1 σ H1 _ I1 q1) fun u s2 ⟨y,H2,I2,r2,q2⟩ =>
  thn (ho pins s2 σ H2 x y v u _ I2 r1 r2 q2) fun d s3 ⟨z,H3,I3,r3,k,e,q3⟩=>?_)) hm
 subst e
 cases r3
 refine wpAny_truthy_bool ?_
 cases k with
 | false=>exact ite_ff ⟨.bl false,H3,I3,rfl,q3⟩
 | true =>
  refine ite_tt (chain_link (thn (hc pins s3 σ H3 _ I3 q3) fun w' s4 ⟨z',H4,I4,r4,q4⟩=>thn (ho' pins s4 σ H4 y z' u w' _ I4 r2 r4 q4) fun d' s5 ⟨z2,H5,I5,r5,k2,e2,q5⟩=>?_))
  subst e2
  cases r5
  refine wpAny_truthy_bool ?_
  cases k2 with
  | false=>exact ite_ff ⟨.bl false,H5,I5,rfl,q5⟩
  | true=>exact ite_tt (chain_last (thn (hd pins s5 σ H5 _ I5 q5) fun w2 s6 ⟨z3,H6,I6,r6,q6⟩=>ho'' pins s6 σ H6 z' z3 w' w2 Q I6 r4 r6 q6))
theorem vals_bl {bs:List Bool} {its:List Value} (r:Vals (bs.map V.bl) its) {i:Nat} {v:Value} (h:its[i]?=some v):∃ k,bs[i]?=some k/\v=.bool k:=by
 have hl:=r.length
 rw [List.length_map] at hl
 have hi:i < bs.length:=by
  have:=(List.getElem?_eq_some_iff.mp h).1
  omega
 obtain ⟨u,hu,ru⟩:=r.get (i:=i) (x:=.bl bs[i]) (by rw [List.getElem?_map,List.getElem?_eq_getElem hi]; rfl)
 rw [h] at hu
 cases hu
 exact ⟨bs[i],List.getElem?_eq_getElem hi,ru⟩
theorem all_range (bs:List Bool):((List.range bs.length).all fun i=>(bs[i]?).getD true)=bs.all id:=by
 rw [Bool.eq_iff_iff,List.all_eq_true,List.all_eq_true]
 constructor
 ·intro h x hx
  obtain ⟨i,hi,e⟩:=List.mem_iff_getElem.mp hx
  have:=h i (List.mem_range.mpr hi)
  rw [List.getElem?_eq_getElem hi,e] at this
  exact this
 ·intro h i hi
  have hi':=List.mem_range.mp hi
  rw [List.getElem?_eq_getElem hi']
  exact h _ (List.getElem_mem hi')
theorem call_all (hc:X.calm=true):CallR X (.builtin "all") (fun xs H Q=>∃ (p:Addr) (bs:List Bool),xs=[.ref p]/\SqL X.K H p (bs.map V.bl)/\Q (.bl (bs.all id)) H):=by
 intro pins s σ H xs us Q I r h
 obtain ⟨p,bs,rfl,hS,q⟩:=h
 obtain ⟨u,rfl,ru⟩:=vals1 r
 cases ru
 obtain ⟨its,rv,pl,hz⟩:=I.list hS
 have hl:=pl.isList
 have hlt:p < s.heap.objs.size:=by obtain ⟨_,e,_⟩:=hl; exact Heap.lt_size e
 refine call_all_walk (wpAny_pyIter_list hl ?_)
 refine ⟨s.heap.objs.size,[s.heap.objs.size,p],[s.heap.objs.size],its.toArray.size,_,_,fun i=>(bs[i]?).getD true,rfl,Walks.list (A:=X.A.in1) (I.ok.hd hc) _ p (Nat.ne_of_lt hlt) its.toArray,
  ⟨⟨_,Heap.get?_push_size _ rfl,rfl,rfl⟩,hl.push _⟩,fun i v s' Q' E' hP hQ=>?_,fun h' tk hk=>?_⟩
 ·obtain ⟨k,e,rfl⟩:=vals_bl rv (i:=i) (v:=v) (by simpa using hP)
  simp only [e,Option.getD_some] at hQ
  exact wpAny_truthy_bool hQ
 ·have e:((List.range its.toArray.size).all fun i=>(bs[i]?).getD true)=bs.all id:=by
   have hl2:=rv.length
   rw [List.length_map] at hl2
   rw [List.size_toArray,<- hl2]
   exact all_range bs
  rw [e]
  have keep:∀ b x,s.heap.get? b=some x->h'.get? b=some x:=fun b x e=>hk b x (fun hm=>by rw [List.mem_singleton.mp hm] at e; exact Nat.lt_irrefl _ (Heap.lt_size e)) (Heap.get?_push_of_some _ e)
  exact ⟨.bl (bs.all id),H,I.kept (t':=tk) keep,rfl,q⟩
end
section
variable {X:Cx} {st:Stmt} {rest:List Stmt} {t u:TS} {e:Expr} {te:TE} {tt:TT}
noncomputable def tCut (t u:TS):TS:=fun D σ H=>∃ M:St->Hp->Prop,t { D with nx:=M } σ H/\∀ σ' H',M σ' H'->u D σ' H'
theorem pss_cut (h1:PS X st t) (h2:PSs X rest u):PSs X (st :: rest) (tCut t u):=by
 intro pins s σ H D I h
 obtain ⟨M,h,hM⟩:=h
 refine wpAny_execs_cons (thn (h1 pins s σ H { D with nx:=M } I h) fun f s1 q=>?_)
 cases f with
 | next =>
  obtain ⟨σ',H',I',q⟩:=q
  exact h2 pins s1 σ' H' D I' (hM σ' H' q)
 | ret v=>exact q
 | brk=>exact q
 | cont=>exact q
noncomputable def tCutE (t:TE):TE:=fun σ H Q=>∃ M:V->Hp->Prop,t σ H M/\∀ v H',M v H'->Q v H'
theorem pe_cut (h:PE X e te):PE X e (tCutE te):=by
 intro pins s σ H Q I q
 obtain ⟨M,q,hM⟩:=q
 exact thn (h pins s σ H M I q) fun u s1 ⟨v,H1,I1,r1,q1⟩=>⟨v,H1,I1,r1,hM v H1 q1⟩
noncomputable def tCutT (t:TT):TT:=fun σ H Q=>∃ M:Bool->Hp->Prop,t σ H M/\∀ b H',M b H'->Q b H'
theorem pt_cut (h:PT X e tt):PT X e (tCutT tt):=by
 intro pins s σ H Q I q
 obtain ⟨M,q,hM⟩:=q
 exact thn (h pins s σ H M I q) fun b s1 ⟨H1,I1,q1⟩=>⟨H1,I1,hM b H1 q1⟩
end
noncomputable def blkCheck (X:Cx) (N':List Str) (scope:Scope) (cl:List (Str × Addr)) (caps:List (Option Nat)):Bool :=
 (scope.names.all fun y=>y.2 != .cell) && (scope.names.all fun y=>y.2 != .local || scope.names.lookup y.1 == some .local) &&
 ((relabel scope X.env).names.all fun y=>!(y.2 == .cell || y.2 == .free) || (cl.lookup y.1).isSome) && (caps.length == N'.length) &&
 ((List.range caps.length).all fun i=>match caps[i]?,N'[i]? with
  | some (some j),some x=>(X.N[j]? == some x) && (X.env.kindOf x == some .cell || X.env.kindOf x == some .free) && ((relabel scope X.env).names.lookup x == some .cell || (relabel scope X.env).names.lookup x == some .free)
  | _,_=>true)
theorem BlkOk.of {X:Cx} {N':List Str} {scope:Scope} {cl:List (Str × Addr)} {caps:List (Option Nat)} (clos:closureFor scope X.env=pure cl) (kind:scope.kind=.function) (sub:∀ x c,cl.lookup x=some c->X.env.cells.lookup x=some c)
  (h:blkCheck X N' scope cl caps=true):BlkOk X N' scope cl caps:=by
 unfold blkCheck at h
 simp only [Bool.and_eq_true] at h
 obtain ⟨⟨⟨⟨h1,h2⟩,h3⟩,h4⟩,h5⟩:=h
 have ok3:∀ x k,(relabel scope X.env).names.lookup x=some k->(k=.cell\/k=.free)->∃ c,cl.lookup x=some c:=fun x k e hk=>by
  have:=List.all_eq_true.mp h3 _ (PySem.mem_of_lookup e)
  have hb:(k == NameKind.cell || k == NameKind.free)=true:=by
   rcases hk with rfl | rfl <;> rfl
  simp only [hb,Bool.not_true,Bool.false_or] at this
  exact Option.isSome_iff_exists.mp this
 refine ⟨clos,fun y hy=>?_,kind,fun y hy e=>?_,sub,fun x hx=>?_,by simpa using h4,fun i j x e1 e2=>?_⟩
 ·have:=List.all_eq_true.mp h1 y hy
  simpa using this
 ·have:=List.all_eq_true.mp h2 y hy
  rw [e] at this
  simpa using this
 ·rcases hx with hx | hx
  ·exact ok3 x _ hx (.inl rfl)
  ·exact ok3 x _ hx (.inr rfl)
 ·have hi:i < caps.length:=(List.getElem?_eq_some_iff.mp e1).1
  have:=List.all_eq_true.mp h5 i (List.mem_range.mpr hi)
  rw [e1,e2] at this
  simp only [Bool.and_eq_true,Bool.or_eq_true,beq_iff_eq] at this
  exact ⟨this.1.1,this.1.2,this.2⟩
section
variable {K:PySem.W.Frag} {a:Addr} {xs:List V} {caps:List (Option Nat)} {g:TG} {tt:TT} {te:TE} {σ:St} {H:Hp} {Q:VK}
theorem comp_list (Pv:Addr->Nat->Hp->Prop) (h0:∀ D,H D=none->Pv D 0 (upd H D (.lst []))) (hl:∀ D i H',H D=none->i<=xs.length->Pv D i H'->SqL K H' a xs)
  (hs:∀ D i x H',H D=none->xs[i]?=some x->Pv D i H'->g x (seen caps σ) H' fun σ4 H4=>(∀ (k:Nat) v,(seen caps σ)[k]?=some (some v)->σ4[k]?=some (some v))/\tt σ4 H4 fun b H5 =>
   if b=true then te σ4 H5 fun y H6=>∃ ys,H6 D=some (.lst ys)/\ys.length < sizeLine/\Pv D (i+1) (upd H6 D (.lst (ys ++ [y]))) else Pv D (i+1) H5)
  (hd:∀ D H',H D=none->Pv D xs.length H'->Q (.ref D) H'):cBody caps g tt te σ Q (Itl K a) H:=by
 intro D hD
 refine ⟨fun i m H'=>m=xs.length - i/\i<=xs.length/\Pv D i H',⟨xs.length,by simp,Nat.zero_le _,h0 D hD⟩,?_⟩
 intro i m H2 z9;obtain ⟨rfl,hi,p⟩ := z9
 have q:=hl D i H2 hD hi p
 by_cases hlt:i < xs.length
 ·refine .inr ⟨⟨xs,xs[i],q,by simp [hlt]⟩,Pv D (i+1),fun H' p'=>⟨xs.length - (i+1),by omega,rfl,hlt,p'⟩,fun x H3 y=>?_⟩
  obtain ⟨e,y⟩:=y
  subst e
  exact hs D i x _ hD (y xs q) p
 ·have e:i=xs.length:=by omega
  subst e
  exact .inl ⟨⟨xs,q,Nat.le_refl _⟩,hd D H2 hD p⟩
theorem comp_list0 (Pv:Addr->Nat->Hp->Prop) (h0:∀ D,H D=none->Pv D 0 (upd H D (.lst []))) (hl:∀ D i H',H D=none->i<=xs.length->Pv D i H'->SqL K H' a xs)
  (hs:∀ D i x H',H D=none->xs[i]?=some x->Pv D i H'->g x (seen caps σ) H' fun σ4 H4=>(∀ (k:Nat) v,(seen caps σ)[k]?=some (some v)->σ4[k]?=some (some v)) /\
   te σ4 H4 fun y H6=>∃ ys,H6 D=some (.lst ys)/\ys.length < sizeLine/\Pv D (i+1) (upd H6 D (.lst (ys ++ [y]))))
  (hd:∀ D H',H D=none->Pv D xs.length H'->Q (.ref D) H'):cBody caps g tTrue te σ Q (Itl K a) H:=comp_list Pv h0 hl hs hd
theorem comp_tup (Pv:Addr->Nat->Hp->Prop) (h0:∀ D,H D=none->Pv D 0 (upd H D (.lst []))) (hl:∀ D i H',H D=none->i<=xs.length->Pv D i H'->SqT K H' a xs)
  (hs:∀ D i x H',H D=none->xs[i]?=some x->Pv D i H'->g x (seen caps σ) H' fun σ4 H4=>(∀ (k:Nat) v,(seen caps σ)[k]?=some (some v)->σ4[k]?=some (some v))/\tt σ4 H4 fun b H5 =>
   if b=true then te σ4 H5 fun y H6=>∃ ys,H6 D=some (.lst ys)/\ys.length < sizeLine/\Pv D (i+1) (upd H6 D (.lst (ys ++ [y]))) else Pv D (i+1) H5)
  (hd:∀ D H',H D=none->Pv D xs.length H'->Q (.ref D) H'):cBody caps g tt te σ Q (Itt K a) H:=by
 intro D hD
 refine ⟨fun i m H'=>m=xs.length - i/\i<=xs.length/\Pv D i H',⟨xs.length,by simp,Nat.zero_le _,h0 D hD⟩,?_⟩
 intro i m H2 z9;obtain ⟨rfl,hi,p⟩ := z9
 have q:=hl D i H2 hD hi p
 by_cases hlt:i < xs.length
 ·refine .inr ⟨⟨xs,xs[i],q,by simp [hlt]⟩,Pv D (i+1),fun H' p'=>⟨xs.length - (i+1),by omega,rfl,hlt,p'⟩,fun x H3 y=>?_⟩
  obtain ⟨e,y⟩:=y
  subst e
  exact hs D i x _ hD (y xs q) p
 ·have e:i=xs.length:=by omega
  subst e
  exact .inl ⟨⟨xs,q,Nat.le_refl _⟩,hd D H2 hD p⟩
theorem comp_tup0 (Pv:Addr->Nat->Hp->Prop) (h0:∀ D,H D=none->Pv D 0 (upd H D (.lst []))) (hl:∀ D i H',H D=none->i<=xs.length->Pv D i H'->SqT K H' a xs)
  (hs:∀ D i x H',H D=none->xs[i]?=some x->Pv D i H'->g x (seen caps σ) H' fun σ4 H4=>(∀ (k:Nat) v,(seen caps σ)[k]?=some (some v)->σ4[k]?=some (some v)) /\
   te σ4 H4 fun y H6=>∃ ys,H6 D=some (.lst ys)/\ys.length < sizeLine/\Pv D (i+1) (upd H6 D (.lst (ys ++ [y]))))
  (hd:∀ D H',H D=none->Pv D xs.length H'->Q (.ref D) H'):cBody caps g tTrue te σ Q (Itt K a) H:=comp_tup Pv h0 hl hs hd
end
mutual
inductive RdV (K:PySem.W.Frag) (H:Hp):V->PyData->Prop
 | non:RdV K H .non .none
 | bl (b:Bool):RdV K H (.bl b) (.bool b)
 | int (i:Int):RdV K H (.int i) (.int i)
 | str (x:Str):RdV K H (.str x) (.str x)
 | lst {a:Addr} {xs:List V} {ds:List PyData}:SqL K H a xs->RdAll K H xs ds->RdV K H (.ref a) (.list ds)
 | tup {a:Addr} {xs:List V} {ds:List PyData}:SqT K H a xs->RdAll K H xs ds->RdV K H (.ref a) (.tuple ds)
inductive RdAll (K:PySem.W.Frag) (H:Hp):List V->List PyData->Prop
 | nil:RdAll K H [] []
 | cons {x:V} {d:PyData} {xs:List V} {ds:List PyData}:RdV K H x d->RdAll K H xs ds->RdAll K H (x :: xs) (d :: ds)
end
section
variable {X:Cx} {pins:List (Addr × Obj)} {σ:St} {H:Hp} {s:Shared}
mutual
theorem Inv.rd (I:Inv X pins σ H s):∀ {x:V} {d:PyData},RdV X.K H x d->∀ u,RelV x u->∃ as,Reads s.heap u d as
 | _,_,.non,u,r=>by cases (show u=Value.none from r); exact ⟨_,.none⟩
 | _,_,.bl b,u,r=>by cases (show u=Value.bool b from r); exact ⟨_,.bool b⟩
 | _,_,.int i,u,r=>by obtain ⟨t,q⟩:=(show ∃ t,u=Value.int i t from r); cases q; exact ⟨_,.int i t⟩
 | _,_,.str x,u,r=>by obtain ⟨t,q⟩:=(show ∃ t,u=Value.str x t from r); cases q; exact ⟨_,.str x t⟩
 | _,_,.lst (a:=a) hS hA,u,r=>by
  cases (show u=Value.ref a from r)
  obtain ⟨its,rv,p,hz⟩:=I.list hS
  obtain ⟨as,q⟩:=Inv.rdAll I hA its rv
  obtain ⟨o,e,hc,n,hd⟩:=p.isList
  exact ⟨_,.list e hc hd (by simpa using q)⟩
 | _,_,.tup (a:=a) hS hA,u,r=>by
  cases (show u=Value.ref a from r)
  obtain ⟨its,rv,p,hz⟩:=I.tuple hS
  obtain ⟨as,q⟩:=Inv.rdAll I hA its rv
  obtain ⟨o,e,hc,n,hd⟩:=p
  exact ⟨_,.tuple e hc hd (by simpa using q)⟩
theorem Inv.rdAll (I:Inv X pins σ H s):∀ {xs:List V} {ds:List PyData},RdAll X.K H xs ds->∀ us,Vals xs us->∃ as,ReadsAll s.heap us ds as
 | _,_,.nil,us,r=>by cases r; exact ⟨_,.nil⟩
 | _,_,.cons h1 h2,us,r=>by
  cases r with
  | cons r1 r2 =>
   obtain ⟨as,q1⟩:=Inv.rd I h1 _ r1
   obtain ⟨bs,q2⟩:=Inv.rdAll I h2 _ r2
   exact ⟨_,.cons q1 q2⟩
end
end
section
variable {X:Cx}
noncomputable def rEqD (K:PySem.W.Frag):R2:=fun x y H Q=>∃ d e,RdV K H x d/\RdV K H y e/\SeqAt.shaped d=true/\SeqAt.shaped e=true/\Q (.bl (PyData.eqv d e)) H
noncomputable def rNeD (K:PySem.W.Frag):R2:=fun x y H Q=>∃ d e,RdV K H x d/\RdV K H y e/\SeqAt.shaped d=true/\SeqAt.shaped e=true/\Q (.bl (!PyData.eqv d e)) H
theorem op_eqD (hu:X.A.units+64 < cLine):OpR X (compareOp .Eq) (rEqD X.K):=by
 intro pins s σ H x y v u Q I rx ry h
 obtain ⟨d,e,hd,he,sd,se,q⟩:=h
 obtain ⟨as,ra⟩:=I.rd hd v rx
 obtain ⟨bs,rb⟩:=I.rd he u ry
 exact eq_dataH ra rb sd se hu ⟨.bl _,H,I,rfl,q⟩
theorem op_neD (hu:X.A.units+64 < cLine):OpR X (compareOp .NotEq) (rNeD X.K):=by
 intro pins s σ H x y v u Q I rx ry h
 obtain ⟨d,e,hd,he,sd,se,q⟩:=h
 obtain ⟨as,ra⟩:=I.rd hd v rx
 obtain ⟨bs,rb⟩:=I.rd he u ry
 exact ne_dataH ra rb sd se hu ⟨.bl _,H,I,rfl,q⟩
end
end L2
namespace L2
open PySem PySem.Spec PyProof.Rows
structure QE (X:Cx) (e:Expr) (t:TE):Prop where
 run:PE X e t
structure QT (X:Cx) (e:Expr) (t:TT):Prop where
 run:PT X e t
structure QW (X:Cx) (e:Expr) (t:TT):Prop where
 run:PW X e t
structure QA (X:Cx) (es:List Expr) (t:TA):Prop where
 run:PA X es t
structure QS (X:Cx) (st:Stmt) (t:TS):Prop where
 run:PS X st t
structure QSs (X:Cx) (st:List Stmt) (t:TS):Prop where
 run:PSs X st t
structure QG (X:Cx) (e:Expr) (t:TG):Prop where
 run:PG X e t
structure QGs (X:Cx) (es:List Expr) (t:TGs):Prop where
 run:PGs X es t
structure QI (X:Cx) (tg it:Expr) (w:TI):Prop where
 run:PI X tg it w
structure QO (X:Cx) (e:Option Expr) (t:TO):Prop where
 run:PO X e t
structure QOp (X:Cx) (f:Value->Value->Sem Value) (r:R2):Prop where
 run:OpR X f r
structure QCall (X:Cx) (f:Value) (r:List V->Hp->VK->Prop):Prop where
 run:CallR X f r
structure QIx (X:Cx) (r:R2):Prop where
 run:IxR X r
section
variable {X:Cx} {st:Stmt} {rest:List Stmt} {t u:TS} {a b c d e:Expr} {ta tb tc td te:TE} {tA tB' tt:TT} {pos p:Pos}
theorem qss_nil:QSs X [] tNext:=⟨pss_nil⟩
theorem qss_one (h1:QS X st t):QSs X [st] t:=⟨pss_one h1.run⟩
theorem qss_cons (h1:QS X st t) (h2:QSs X rest u):QSs X (st :: rest) (tSeq t u):=⟨pss_cons h1.run h2.run⟩
theorem qss_cut (h1:QS X st t) (h2:QSs X rest u):QSs X (st :: rest) (tCut t u):=⟨pss_cut h1.run h2.run⟩
theorem qs_set {i:Nat} {x:Str} {pos':Pos} (hN:X.N.Nodup) (hi:X.N[i]?=some x) (hx:Loc X.env.scope x) (he:QE X e te) (hs:swapsWith e (some (.Name x pos')) pos.line X.env=pure false:=by rfl) (hf:X.fn x=true\/X.env.scope.names.lookup x=some .local:=by first | exact .inl rfl | exact .inr rfl | assumption) :
  QS X (.Assign [.Name x pos'] e pos) (tAsg te (gName i)):=⟨ps_set hN hi hx he.run hs hf⟩
theorem qs_asg {tg:Expr} {g:TG} (he:QE X e te) (hg:QG X tg g) (hs:swapsWithSole [tg] e pos.line X.env=pure false:=by rfl) (hw:swappedStores [tg] e X.env=pure none:=by rfl)
  (h1:(assignEach [tg] X.env).map (·.2)=[assign tg X.env]:=by rfl):QS X (.Assign [tg] e pos) (tAsg te g):=⟨ps_asg he.run hg.run hs hw h1⟩
theorem qs_if {a b:List Stmt} {tc:TT} (hc:QT X c tc) (ha:QSs X a t) (hb:QSs X b u):QS X (.If c a b pos) (tIfS tc t u):=⟨ps_if hc.run ha.run hb.run⟩
theorem qs_ret (he:QE X e te):QS X (.Return (some e) pos) (tRet te):=⟨ps_ret he.run⟩
theorem qs_retN:QS X (.Return none pos) tRetN:=⟨ps_retN⟩
theorem qs_expr (he:QE X e te) (hs:swapsWith e none pos.line X.env=pure false:=by rfl):QS X (.Expr e pos) (tDrop te):=⟨ps_expr he.run hs⟩
theorem qs_while {body:List Stmt} {tb:TS} (hp:PassesOwn (model X.prog X.w) X.A X.env X.xe) (hc:QT X c tt) (hb:QSs X body tb):QS X (.While c body [] pos) (tWhile tt tb):=⟨ps_while hp hc.run hb.run⟩
theorem qs_for {tg iter:Expr} {body:List Stmt} {wi:TI} {g:TG} {tb:TS} (hp:PassesOwn (model X.prog X.w) X.A X.env X.xe) (hc:X.calm=true) (hi:QI X tg iter wi) (hg:QG X tg g) (hb:QSs X body tb)
  (hs:∀ x,foldedSetIterable iter X.env x=pure x:=by intro _; rfl):QS X (.For tg iter body [] pos) (tFor wi g tb):=⟨ps_for hp hc hi.run hg.run hb.run hs⟩
theorem qg_name {i:Nat} {x:Str} (hN:X.N.Nodup) (hi:X.N[i]?=some x) (hx:Loc X.env.scope x) (hf:X.fn x=true\/X.env.scope.names.lookup x=some .local:=by first | exact .inl rfl | exact .inr rfl | assumption):QG X (.Name x pos) (gName i):=⟨pg_name hN hi hx hf⟩
theorem qgs_nil:QGs X [] gNil:=⟨pgs_nil⟩
theorem qgs_cons {es:List Expr} {t:TG} {u:TGs} (h1:QG X e t) (h2:QGs X es u) (hs:(assignEach (e :: es) X.env).map (·.2)=assign e X.env :: (assignEach es X.env).map (·.2):=by rfl):QGs X (e :: es) (gCons t u):=⟨pgs_cons h1.run h2.run hs⟩
theorem qg_tup {es:List Expr} {k:Nat} {t:TGs} {n:Nat} (hc:X.calm=true) (h:QGs X es t)
  (hn:(assignEach es X.env).length=n:=by rfl) (hst:(assignEach es X.env).findIdx? (·.1)=none:=by rfl):QG X (.Tuple es k pos) (gTup X.K n t):=⟨pg_tup hc h.run hn hst⟩
theorem qg_sub {o i:Expr} {to ti:TE} {t:TSet} (ho:QE X o to) (hi:QE X i ti) (hs:PSet X t)
  (ha:∀ v,assign (.Subscript o i pos) X.env v=(do
   let ov <- holding [v] (eval o X.env)
   let iv <- holding [v,ov] (eval i X.env)
   standAt pos
   holding [v,ov,iv] (setItem ov iv v)
   release [v,ov,iv] []):=by intro _; rfl):QG X (.Subscript o i pos) (gSub to ti t):=⟨pg_sub ho.run hi.run hs ha⟩
theorem qi_list {tg l:Expr} {tl:TE} (hl:QE X l tl):QI X tg l (iList X.K tl):=⟨pi_list hl.run⟩
theorem qi_tup {tg l:Expr} {tl:TE} (hl:QE X l tl):QI X tg l (iTup X.K tl):=⟨pi_tup hl.run⟩
theorem qi_range1 {tg:Expr} {ta:TA} (hg:Gl X "range") (hm:X.mg "range" = none) (ha:QA X [a] ta) (h:notStar a=true:=by rfl):QI X tg (.Call (.Name "range" p) [a] [] pos) (iRng1 ta):=⟨pi_range1 hg hm ha.run (se_of h)⟩
theorem qa_nil:QA X [] tNil:=⟨pa_nil⟩
theorem qa_c {es:List Expr} {t:TA} (ha:QE X e te) (hr:QA X es t) (h:notStar e=true:=by rfl):QA X (e :: es) (tCons te t):=⟨pa_c ha.run hr.run h⟩
theorem qv (i:Nat) {x:Str} (hN:X.N[i]?=some x:=by rfl) (hv:Vis X.env.scope x:=by first | exact Or.inl rfl | exact Or.inr (Or.inl rfl) | exact Or.inr (Or.inr rfl)) (hd:(x == ("__debug__" : Str))=false:=by decide)
  (hcd:(x == ("__classdict__" : Str))=false:=by decide):QE X (.Name x pos) (tVar i):=⟨pe_var hN hv hd hcd⟩
theorem qe_bltn {x:Str} {v:V} {u:Value} (hg:Gl X x) (hm:X.mg x=none) (hv:bootBuiltins x=some u) (r:RelV v u) (hn:x ≠ "__name__" := by decide) (hd:(x == ("__debug__" : Str))=false:=by decide):QE X (.Name x pos) (tC v):=⟨pe_bltn hg hm hv r hn hd⟩
theorem qe_int {i:Int} {j:Nat}:QE X (.Constant (.int i) j pos) (tC (.int i)):=⟨pe_int⟩
theorem qe_bl {b:Bool} {j:Nat}:QE X (.Constant (.bool b) j pos) (tC (.bl b)):=⟨pe_bl⟩
theorem qe_non {j:Nat}:QE X (.Constant .none j pos) (tC .non):=⟨pe_non⟩
theorem qe_str {x:Str} {j:Nat}:QE X (.Constant (.str x) j pos) (tC (.str x)):=⟨pe_str⟩
theorem qe_op {op:Operator} {r:R2} (ho:QOp X (binaryOp op) r) (ha:QE X a ta) (hb:QE X b tb):QE X (.BinOp a op b pos) (tOp r ta tb):=⟨pe_op ho.run ha.run hb.run⟩
theorem qe_neg (ha:QE X a ta):QE X (.UnaryOp .USub a pos) (tUn (rU fun i=>.int (-i)) ta):=⟨pe_un un_neg ha.run⟩
theorem qe_not (ha:QE X a ta):QE X (.UnaryOp .Not a pos) (tNotV ta):=⟨pe_not ha.run⟩
theorem qe_notN {j:Nat} {pos':Pos} (ha:QE X a ta):QE X (.Compare a [.IsNot] [.Constant .none j pos'] pos) (tNotN ta):=⟨pe_cmp (pc_notN ha.run)⟩
theorem qt_isN {j:Nat} {pos':Pos} (ha:QE X a ta):QT X (.Compare a [.Is] [.Constant .none j pos'] pos) (tB (tIsN ta)):=⟨pt_cmp (pc_isN ha.run)⟩
theorem qe_cmpR {op:CmpOp} {r:R2} (ho:QOp X (compareOp op) r) (ha:QE X a ta) (hb:QE X b tb) (hm:behindInMarks op b=false):QE X (.Compare a [op] [b] pos) (tOp r ta tb):=⟨pe_cmpR ho.run ha.run hb.run hm⟩
theorem qt_cmpR {op:CmpOp} {r:R2} (ho:QOp X (compareOp op) r) (ha:QE X a ta) (hb:QE X b tb) (hm:behindInMarks op b=false):QT X (.Compare a [op] [b] pos) (tTest (tOp r ta tb)):=⟨pt_cmpR ho.run ha.run hb.run hm⟩
theorem qe_chain {op op':CmpOp} {r r':R2} (ho:QOp X (compareOp op) r) (ho':QOp X (compareOp op') r') (ha:QE X a ta) (hb:QE X b tb) (hc:QE X c tc) (hm:lastMarks [op,op'] [b,c]=false:=by with_unfolding_all rfl) :
  QE X (.Compare a [op,op'] [b,c] pos) (tChain r r' ta tb tc):=⟨pe_chain ho.run ho'.run ha.run hb.run hc.run hm⟩
theorem qe_chain3 {op op' op'':CmpOp} {r r' r'':R2} (ho:QOp X (compareOp op) r) (ho':QOp X (compareOp op') r') (ho'':QOp X (compareOp op'') r'') (ha:QE X a ta) (hb:QE X b tb) (hc:QE X c tc) (hd:QE X d td) (hm:lastMarks [op,op',op''] [b,c,d]=false:=by with_unfolding_all rfl) :
  QE X (.Compare a [op,op',op''] [b,c,d] pos) (tChain3 r r' r'' ta tb tc td):=⟨pe_chain3 ho.run ho'.run ho''.run ha.run hb.run hc.run hd.run hm⟩
theorem qe_one {op:BoolOp} (h:QE X a ta):QE X (.BoolOp op [a] pos) ta:=⟨pe_one h.run⟩
theorem qe_and {rest:List Expr} (ha:QE X a ta) (hb:QE X (.BoolOp .And (b :: rest) pos) tb):QE X (.BoolOp .And (a :: b :: rest) pos) (tAndV ta tb):=⟨pe_and ha.run hb.run⟩
theorem qw_and1 (ha:QT X a tA):QW X (.BoolOp .And [a] pos) tA:=⟨pw_and1 ha.run⟩
theorem qw_or1 (ha:QT X a tA):QW X (.BoolOp .Or [a] pos) tA:=⟨pw_or1 ha.run⟩
theorem qw_and {rest:List Expr} (ha:QT X a tA) (hb:QW X (.BoolOp .And (b :: rest) pos) tB'):QW X (.BoolOp .And (a :: b :: rest) pos) (tAnd tA tB'):=⟨pw_and ha.run hb.run⟩
theorem qw_or {rest:List Expr} (ha:QT X a tA) (hb:QW X (.BoolOp .Or (b :: rest) pos) tB'):QW X (.BoolOp .Or (a :: b :: rest) pos) (tOr tA tB'):=⟨pw_or ha.run hb.run⟩
theorem QW.pt (h:QW X e tt):QT X e tt:=⟨h.run.pt⟩
theorem qt_not (ha:QT X a tA):QT X (.UnaryOp .Not a pos) (tNot tA):=⟨pt_not ha.run⟩
theorem qt_val (h:QE X e te) (he:∀ whole,isTrue e X.env whole=(do let v <- whole; standAt e.pos; holding [v] (truthy v)):=by intro _; rfl):QT X e (tB te):=⟨pt_val h.run he⟩
theorem qt_cut (h:QT X e tt):QT X e (tCutT tt):=⟨pt_cut h.run⟩
theorem qe_cut (h:QE X e te):QE X e (tCutE te):=⟨pe_cut h.run⟩
theorem qe_ifExp (hc:QT X c tA) (ha:QE X a ta) (hb:QE X b tb):QE X (.IfExp c a b pos) (tIf tA ta tb):=⟨pe_ifExp hc.run ha.run hb.run⟩
theorem qe_tup {es:List Expr} {t:TA} {x1:Nat} (h:QA X es t):QE X (.Tuple es x1 pos) (tTup t):=⟨pe_tup h.run⟩
theorem qe_lst {es:List Expr} {t:TA} (h:QA X es t):QE X (.List es pos) (tLst t):=⟨pe_lst h.run⟩
theorem qe_ix {r:R2} (hr:QIx X r) (ha:QE X a ta) (hb:QE X b tb) (hs:PlainIx b):QE X (.Subscript a b pos) (tOp r ta tb):=⟨pe_ix hr.run ha.run hb.run hs⟩
theorem qo_none:QO X none tNoPart:=⟨po_none⟩
theorem qo_some (h:QE X e te):QO X (some e) (tPart te):=⟨po_some h.run⟩
theorem qe_slL {lo hi:Option Expr} {tl th:TO} {p2:Pos} (he:QE X e te) (hl:QO X lo tl) (hu:QO X hi th):QE X (.Subscript e (.Slice lo hi none p2) pos) (tSl (rSlL X.K) te tl th):=⟨pe_slice sl_list he.run hl.run hu.run⟩
theorem qe_cb {x:Str} {es:List Expr} {t:TA} {id:String} {r:List V->Hp->VK->Prop} (hc:QCall X (.builtin id) r) (hg:Gl X x) (hm:X.mg x=none) (hv:bootBuiltins x=some (.builtin id)) (ha:QA X (e :: es) t) (hn:x ≠ "__name__" := by decide) (hdb:(x == ("__debug__" : Str))=false:=by decide)
  (he:notStar e=true:=by rfl) (hpl:es.all notStar=true:=by rfl):QE X (.Call (.Name x p) (e :: es) [] pos) (tCB r t):=⟨pe_cb hc.run hg hm hv ha.run hn hdb he hpl⟩
theorem qe_ct {x:Str} {es:List Expr} {t:TA} {T:String} {r:List V->Hp->VK->Prop} (hc:QCall X (.type T) r) (hg:Gl X x) (hm:X.mg x=none) (hv:bootBuiltins x=some (.type T)) (ha:QA X (e :: es) t) (hn:x ≠ "__name__" := by decide) (hdb:(x == ("__debug__" : Str))=false:=by decide)
  (he:notStar e=true:=by rfl) (hpl:es.all notStar=true:=by rfl):QE X (.Call (.Name x p) (e :: es) [] pos) (tCB r t):=⟨pe_ct hc.run hg hm hv ha.run hn hdb he hpl⟩
theorem qe_fn {k:Nat} {x:Str} {ps:List Str} {sp:Sp} {es:List Expr} {t:TA} (C:Callee X.prog X.w X.K X.mg X.base k x ps sp) (hr:Room k X.A) (hg:Gl X x) (ha:QA X (e :: es) t) (hdb:(x == ("__debug__" : Str))=false:=by decide)
  (he:notStar e=true:=by rfl) (hpl:es.all notStar=true:=by rfl):QE X (.Call (.Name x p) (e :: es) [] pos) (tCall sp [] E0 t):=⟨pe_fn C hr hg ha.run hdb he hpl⟩
theorem qe_append {o:Expr} {to:TE} {t:TA} {apos:Pos} (ho:QE X o to) (ha:QA X [e] t) (h:notStar e=true:=by rfl) (hbase:attributeBase o "append" X.env (eval o X.env)=eval o X.env:=by rfl) (hline:(apos.endLine == pos.line)=true:=by rfl) :
  QE X (.Call (.Attribute o "append" apos) [e] [] pos) (tBM X.K "list" rAppend to t) :=
 ⟨pe_bm PySem.F.plainAttrs_list PySem.F.slot_list_append PySem.F.type_list_append mt_append ho.run ha.run hbase (by rw [se_of h]; rfl) hline (se_of h) rfl⟩
end
section
variable {X:Cx}
theorem qop_add:QOp X (binaryOp .Add) (rI0 fun i j=>.int (i+j)):=⟨op_add⟩
theorem qop_sub:QOp X (binaryOp .Sub) (rI0 fun i j=>.int (i - j)):=⟨op_sub⟩
theorem qop_mul:QOp X (binaryOp .Mult) (rI CMul fun i j=>.int (i * j)):=⟨op_mul⟩
theorem qop_fdivB:QOp X (binaryOp .FloorDiv) (rI CDivB fun i j=>.int (i / j)):=⟨op_fdivB⟩
theorem qop_mod:QOp X (binaryOp .Mod) (rI (fun _ j=>0 < j) fun i j=>.int (i % j)):=⟨op_mod⟩
theorem qop_pow:QOp X (binaryOp .Pow) (rI CPow fun i j=>.int (i ^ j.toNat)):=⟨op_pow⟩
theorem qop_eq:QOp X (compareOp .Eq) rEq:=⟨op_eq⟩
theorem qop_ne:QOp X (compareOp .NotEq) rNe:=⟨op_ne⟩
theorem qop_lt:QOp X (compareOp .Lt) (rI0 fun i j=>.bl (decide (i < j))):=⟨op_lt⟩
theorem qop_le:QOp X (compareOp .LtE) (rI0 fun i j=>.bl (decide (i<=j))):=⟨op_le⟩
theorem qop_gt:QOp X (compareOp .Gt) (rI0 fun i j=>.bl (decide (j < i))):=⟨op_gt⟩
theorem qop_ge:QOp X (compareOp .GtE) (rI0 fun i j=>.bl (decide (j<=i))):=⟨op_ge⟩
theorem qop_eqD (hu:X.A.units+64 < cLine):QOp X (compareOp .Eq) (rEqD X.K):=⟨op_eqD hu⟩
theorem qop_neD (hu:X.A.units+64 < cLine):QOp X (compareOp .NotEq) (rNeD X.K):=⟨op_neD hu⟩
theorem qix_list:QIx X (rIxL X.K):=⟨ix_list⟩
theorem qix_tup:QIx X (rIxT X.K):=⟨ix_tup⟩
theorem qcall_len:QCall X (.builtin "len") (fun xs H Q=>∃ p ys,xs=[.ref p]/\(SqL X.K H p ys\/SqT X.K H p ys)/\Q (.int ys.length) H):=⟨call_len_seq⟩
theorem qcall_max (hc:X.calm=true):QCall X (.builtin "max") (fun xs H Q=>∃ i j,xs=[.int i,.int j]/\Q (.int (if j > i then j else i)) H):=⟨call_max2 hc⟩
theorem qcall_min (hc:X.calm=true):QCall X (.builtin "min") (fun xs H Q=>∃ i j,xs=[.int i,.int j]/\Q (.int (if j < i then j else i)) H):=⟨call_min2 hc⟩
theorem qcall_isi:QCall X (.builtin "isinstance") (fun xs H Q=>∃ x T t b,xs=[x,.ty T]/\TyOf X.K H x t/\PySem.W.kitOne X.K t (.type T)=some b/\Q (.bl b) H):=⟨call_isi⟩
theorem qcall_all (hc:X.calm=true):QCall X (.builtin "all") (fun xs H Q=>∃ (p:Addr) (bs:List Bool),xs=[.ref p]/\SqL X.K H p (bs.map V.bl)/\Q (.bl (bs.all id)) H):=⟨call_all hc⟩
theorem qcall_list:QCall X (.type "list") (fun xs H Q=>∃ p ys,xs=[.ref p]/\(SqL X.K H p ys\/SqT X.K H p ys)/\∀ l,H l=none->Q (.ref l) (upd H l (.lst ys))):=⟨call_list_of⟩
theorem qcall_tuple:QCall X (.type "tuple") (fun xs H Q=>∃ p ys,xs=[.ref p]/\((SqL X.K H p ys/\∀ l,H l=none->Q (.ref l) (upd H l (.tup ys)))\/(SqT X.K H p ys/\Q (.ref p) H))):=⟨call_tuple_of⟩
end
section
variable {P:Program} {w:World} {K:PySem.W.Frag} {mg:Str->Option Value} {base:Heap}
theorem Fun.okQ {x qual:Str} {st:Stmt} {f:Addr} {fd:FuncData} {N ps:List Str} {k:Nat} {sp:Sp} (F:Fun K x qual st f fd) (S:FnScope N ps (defScope st)) (len:∀ vs H Q E,sp vs H Q E->vs.length=ps.length)
  (hbody:∀ (cdv:Value) (A:Around) (outer:List Env) (s:Shared) (H:Hp) (vs:List V) (Q:VK) (E:XK),Room k (A.deeper (envOfC qual (defScope st) s.heap.objs.size f cdv))->sp vs H Q E ->
   ∃ t,QSs (cxOf CX0 P w K mg base N qual (defScope st) f cdv A outer s H E).nox (defBody st) t/\t { nx:=fun _ H'=>Q .non H',rt:=Q } (start N vs) H):FnOk P w K mg base CX0 (k+1) f fd ps sp:=by
 refine F.ok S len fun cdv A outer s H vs Q E hr h=>?_
 obtain ⟨t,h1,h2⟩:=hbody cdv A outer s H vs Q E hr h
 exact ⟨t,h1.run,h2⟩
end
structure SubL (cl cells:List (Str × Addr)):Prop where
 to:∀ x c,cl.lookup x=some c->cells.lookup x=some c
theorem subN {cells:List (Str × Addr)}:SubL [] cells:=⟨fun _ _ e=>nomatch e⟩
theorem subC {x:Str} {c:Addr} {cl cells:List (Str × Addr)} (h:cells.lookup x=some c) (r:SubL cl cells):SubL ((x,c) :: cl) cells:=⟨fun y d e=>by
 rw [List.lookup_cons] at e
 cases q:y == x with
 | true=>rw [q] at e; cases e; rw [eq_of_beq q]; exact h
 | false=>rw [q] at e; exact r.to y d e⟩
section
variable {X:Cx} {scope:Scope} {cl:List (Str × Addr)} {tg iter elt:Expr} {wi:TI} {g:TG} {te:TE} {tt:TT} {pos:Pos}
theorem qe_comp (N':List Str) (caps:List (Option Nat)) (B:BlkOk X N' scope cl caps) (hc:X.calm=true) (hi:QI X tg iter wi) (hg:∀ C s0 H0 fp,QG (blk X N' scope cl C s0 H0 fp) tg g) (he:∀ C s0 H0 fp,QE (blk X N' scope cl C s0 H0 fp) elt te)
  (hs:∀ x,foldedSetIterable iter X.env x=pure x:=by intro _; rfl):QE X (.ListComp elt [⟨tg,iter,[],0⟩] scope pos) (tComp wi caps g tTrue te):=⟨pe_comp B hc hi.run (fun C s0 H0 fp=>(hg C s0 H0 fp).run) (fun C s0 H0 fp=>(he C s0 H0 fp).run) hs⟩
theorem qe_compIf {c:Expr} (N':List Str) (caps:List (Option Nat)) (B:BlkOk X N' scope cl caps) (hc:X.calm=true) (hi:QI X tg iter wi) (hg:∀ C s0 H0 fp,QG (blk X N' scope cl C s0 H0 fp) tg g) (ht:∀ C s0 H0 fp,QT (blk X N' scope cl C s0 H0 fp) c tt)
  (he:∀ C s0 H0 fp,QE (blk X N' scope cl C s0 H0 fp) elt te) (hs:∀ x,foldedSetIterable iter X.env x=pure x:=by intro _; rfl):QE X (.ListComp elt [⟨tg,iter,[c],0⟩] scope pos) (tComp wi caps g tt te) :=
 ⟨pe_compIf B hc hi.run (fun C s0 H0 fp=>(hg C s0 H0 fp).run) (fun C s0 H0 fp=>(ht C s0 H0 fp).run) (fun C s0 H0 fp=>(he C s0 H0 fp).run) hs⟩
end
section
variable {X:Cx} {pos:Pos}
theorem qg_tupK (K:PySem.W.Frag) (hK:X.K=K) {es:List Expr} {k:Nat} {t:TGs} {n:Nat} (hc:X.calm=true) (h:QGs X es t)
  (hn:(assignEach es X.env).length=n:=by rfl) (hst:(assignEach es X.env).findIdx? (·.1)=none:=by rfl):QG X (.Tuple es k pos) (gTup K n t):=by
 subst hK
 exact qg_tup hc h hn hst
theorem qix_tupK (K:PySem.W.Frag) (hK:X.K=K):QIx X (rIxT K):=by subst hK; exact qix_tup
end
end L2
namespace L2
open PySem PySem.Spec PyProof.Rows
noncomputable def tClo (i:Nat) (f:Addr) (sp:Sp) (t:TA):TE:=fun σ H Q=>σ[i]?=some (some (.ref f))/\t σ H fun vs H1=>sp (vs ++ []) H1 Q E0
section
variable {X:Cx} {k:Nat} {f:Addr} {fd:FuncData} {ps:List Str} {sp:Sp} {e:Expr} {es:List Expr} {t:TA} {p pos:Pos} {x:Str}
theorem pe_clo (i:Nat) (G:FnOk X.prog X.w X.K X.mg X.base CX0 k f fd ps sp) (hr:Room k X.A) (hb:Binds X.K fd ps []) (ho:PySem.W.FnAt f X.base) (ha:PA X (e :: es) t) (hN:X.N[i]?=some x:=by rfl)
  (hv:Vis X.env.scope x:=by first | exact Or.inl rfl | exact Or.inr (Or.inl rfl) | exact Or.inr (Or.inr rfl)) (hd:(x == ("__debug__" : Str))=false:=by decide) (hcd:(x == ("__classdict__" : Str))=false:=by decide)
  (he:starEach (e :: es) X.env=(false,eval e X.env) :: starEach es X.env:=by rfl) (hpl:(backTo pos (starEach es X.env)).any (·.1)=false:=by rfl) :
  PE X (.Call (.Name x p) (e :: es) [] pos) (tClo i f sp t):=by
 intro pins s σ H Q I h
 obtain ⟨hσ,h⟩:=h
 have fa:∀ {H':Hp} {s':Shared},Inv X pins σ H' s'->PySem.W.FnAt f s'.heap:=fun {H' s'} J=>by
  obtain ⟨oc,od,fd',sl,e0⟩:=ho
  exact ⟨oc,od,fd',sl,J.bk _ _ e0⟩
 refine wpAny_Call_Name_kw (thn (pe_var (pos:=p) hN hv hd hcd pins s σ H (fun v H'=>v=.ref f/\H'=H) I ⟨_,hσ,rfl,rfl⟩) fun u s1 ⟨v,H',I1,r,e1,e2⟩=>?_)
 subst e1 e2
 cases r
 refine PySem.W.callWith_F (fa I1) (thn (ha pos pins s1 σ H' _ I1 h) fun us s2 ⟨vs,H2,I2,r2,q⟩=>⟨fa I2,?_⟩) he hpl
 exact run_fn G hr hb .nil pass0 I2 r2 q
end
noncomputable def CodeQ (c:Addr) (qual:Str):Heap->Prop:=fun h=>h.CodeRec (.ref c) qual
noncomputable def cxLam (P:Program) (w:World) (K:PySem.W.Frag) (mg:Str->Option Value) (base:Heap) (N:List Str) (qual:Str) (scope:Scope) (f:Addr) (cd:Value) (clos:List (Str × Addr)) (A:Around) (outer:List Env) (s:Shared) (H:Hp):Cx where
 prog:=P
 w:=w
 K:=K
 mg:=mg
 base:=base
 A:=A.deeper (PySem.W.envX qual scope s.heap.objs.size f cd clos)
 N:=N
 s₀:=s
 H₀:=H
 env:=PySem.W.envX qual scope s.heap.objs.size f cd clos
 outer:=outer
 stack:=PySem.W.envX qual scope s.heap.objs.size f cd clos :: outer
 ex:=[]
 calm:=true
 fn:=fun _=>false
 pn:=[]
 xe:=fun _ _=>False
structure LamScope (N ps:List Str) (sc:Scope) (clos:List (Str × Addr)):Prop where
 kind:sc.kind=.function
 co:sc.isCoroutine=false
 gen:sc.isGenerator=false
 nd:ps.Nodup
 pre:N.take ps.length=ps
 par:∀ x∈ps,sc.names.lookup x=some .local
 nocell:∀ y∈sc.names,y.2 ≠ .cell
 has:∀ x,sc.names.lookup x=some .free->∃ c,clos.lookup x=some c
 inj:∀ x y c,clos.lookup x=some c->clos.lookup y=some c->x=y
noncomputable def Caught (base:Heap) (sc:Scope) (clos:List (Str × Addr)) (N ps:List Str) (cs:List V):Prop :=
 N.length=ps.length+cs.length/\(∀ x c,clos.lookup x=some c->∃ v,base.IsCell c v) /\
 ∀ i x v,N[ps.length+i]?=some x->cs[i]?=some v->sc.names.lookup x=some .free/\∃ c u,clos.lookup x=some c/\base.IsCell c (some u)/\RelV v u
theorem lookup_zip_rev:∀ {ps:List Str} {us:List Value} {i:Nat} {x:Str} {u:Value},ps.Nodup->ps[i]?=some x->us[i]?=some u->((ps.zip us).reverse.lookup x)=some u:=by
 intro ps
 induction ps with
 | nil=>intro us i x u _ h; cases i <;> cases h
 | cons p ps ih =>
  intro us i x u nd h1 h2
  cases us with
  | nil=>cases i <;> cases h2
  | cons w us =>
   rw [List.zip_cons_cons,List.reverse_cons,List.lookup_append]
   cases i with
   | zero =>
    have e1:p=x:=Option.some.inj h1
    have e2:w=u:=Option.some.inj h2
    subst e1 e2
    have hn:(ps.zip us).reverse.lookup p=none:=by
     rw [List.lookup_eq_none_iff]
     intro q hq
     have hq':=List.mem_reverse.mp hq
     have:=(List.of_mem_zip (a:=q.1) (b:=q.2) hq').1
     exact bne_iff_ne.mpr fun e=>(List.nodup_cons.mp nd).1 (by rw [e]; exact this)
    rw [hn]
    simp
   | succ i =>
    have q:=ih (List.nodup_cons.mp nd).2 (by simpa using h1) (by simpa using h2)
    rw [q]
    rfl
theorem lam_ok {P:Program} {w:World} {K:PySem.W.Frag} {mg:Str->Option Value} {base:Heap} {k:Nat} {f:Addr} {name qual:Str} {params:Arguments} {body:Expr} {sc:Scope} {clos:List (Str × Addr)} {pm ctv:Value} {c':Addr} {N ps:List Str} {sp:Sp} {cs:List V}
  (ho:base.get? f=some (PySem.W.kla_obj name qual params body sc clos pm c' ctv)) (hcd:∀ vs H Q E,sp vs H Q E->H c'=some (.ext (CodeQ c' qual))) (S:LamScope N ps sc clos) (C:Caught base sc clos N ps cs) (len:∀ vs H Q E,sp vs H Q E->vs.length=ps.length)
  (hbody:∀ (A:Around) (outer:List Env) (s:Shared) (H:Hp) (vs:List V) (Q:VK) (E:XK),Room k (A.deeper (PySem.W.envX qual sc s.heap.objs.size f (.ref c') clos))->sp vs H Q E ->
   ∃ t,PE (cxLam P w K mg base N qual sc f (.ref c') clos A outer s H) body t/\t (vs.map some ++ cs.map some) H Q) :
  FnOk P w K mg base CX0 (k+1) f (PySem.W.kla_fn name qual params body sc clos pm (.ref c') ctv) ps sp:=by
 refine ⟨len,fun A outer s H args us vs Q E hr e0 hb r hsp=>?_⟩
 have hl:=len _ _ _ _ hsp
 have bk:∀ b o,base.get? b=some o->s.heap.get? b=some o:=fun b o e=>(e0.bs b o e).1
 have lim:s.heap.NoLimit:=e0.mod.nolimit.keeps bk
 refine PySem.W.kla_callFunE hr.depth (bk _ _ ho) rfl S.co S.gen rfl (e0.hok c' _ (hcd _ _ _ _ hsp)).1 (hb _ _ _ _ ?_)
 refine wpAny_newFunctionEnv S.nocell (fun y hy=>S.par y.1 (List.of_mem_zip (a:=y.1) (b:=y.2) hy).1) (fun h1 hn1 sb1=>?_) S.kind
 have k1:∀ b o,s.heap.get? b=some o->h1.get? b=some o:=fun b o e=>sb1.extBut b o (Nat.ne_of_lt (Heap.lt_size e)) (Heap.get?_push_of_some _ e)
 refine ⟨lim.keeps k1,PySem.W.kla_codeExpr ?_⟩
 obtain ⟨t,ht,hq⟩:=hbody A outer s H vs Q E (hr.deeper _) hsp
 have ul:us.length=ps.length:=by rw [<- r.length]; exact hl
 have I:Inv (cxLam P w K mg base N qual sc f (.ref c') clos A outer s H) [] (vs.map some ++ cs.map some) H { s with heap:=h1,toks:=s.toks+(ps.zip us).length }:=by
  have noA:∀ b:Addr,b ∉ (cxLam P w K mg base N qual sc f (.ref c') clos A outer s H).ex:=fun b z=>absurd (show b∈([]:List Addr) from z) (by simp)
  have cl:∀ x c,clos.lookup x=some c->∃ v,base.IsCell c v:=C.2.1
  refine ⟨⟨e0.mod,S.kind,rfl,rfl,Nat.le_refl _,S.inj,fun y hy=>?_,fun _ _ z=>(nomatch z),fun _=>hr.hd,Around.frames_deeper e0.frames,.inr ⟨rfl,rfl⟩,fun b z=>absurd z (noA b),e0.bs,e0.bsz,fun b _ _=>noA b,fun b z=>absurd z (noA b),e0.funs,e0.frf⟩,
   rfl,e0.bare,Un.kept k1,⟨_,hn1,fun i y v h1' h2 h3=>?_⟩,fun y c h=>?_,e0.hok.fresh (Nat.le_refl _),fun y c h=>?_,fun p hp=>absurd (show p∈([]:List (Addr × Obj)) from hp) (by simp),e0.hok.kept k1,?_⟩
  ·have hy:sc.names.lookup y=some .cell\/sc.names.lookup y=some .free:=hy
   rcases hy with hy | hy
   ·exact absurd rfl (S.nocell _ (PySem.mem_of_lookup hy))
   ·exact S.has y hy
  ·by_cases hi:i < vs.length
   ·rw [List.getElem?_append_left (by simpa using hi),List.getElem?_map] at h2
    have ha:vs[i]?=some v:=by
     cases e:vs[i]? with
     | none=>rw [e] at h2; cases h2
     | some a=>rw [e] at h2; cases h2; rfl
    obtain ⟨u,hu,rv⟩:=r.get ha
    have hp:ps[i]?=some y:=by
     rw [<- S.pre,List.getElem?_take_of_lt (by omega)]
     exact h1'
    exact ⟨u,rv,.inl ⟨S.par y (List.mem_of_getElem? hp),lookup_zip_rev S.nd hp hu⟩⟩
   ·rw [List.getElem?_append_right (by simpa using hi),List.getElem?_map,List.length_map] at h2
    have ha:cs[i - vs.length]?=some v:=by
     cases e:cs[i - vs.length]? with
     | none=>rw [e] at h2; cases h2
     | some a=>rw [e] at h2; cases h2; rfl
    have hN:N[ps.length+(i - vs.length)]?=some y:=by
     rw [<- hl,show vs.length+(i - vs.length)=i by omega]
     exact h1'
    obtain ⟨fr,c,u,e1,e2,rv⟩:=C.2.2 _ y v hN ha
    exact ⟨u,rv,.inr ⟨.inr fr,c,e1,(e2.keeps bk).keeps k1⟩⟩
  ·obtain ⟨v,q⟩:=cl y c h
   exact ⟨v,(q.keeps bk).keeps k1⟩
  ·obtain ⟨v,o,q,_⟩:=cl y c h
   exact (e0.bs _ _ q).2
  ·show (vs.map some ++ cs.map some).length=N.length
   rw [List.length_append,List.length_map,List.length_map,C.1,hl]
 refine wpAny_mono (ht [] _ _ H Q I hq) (fun u s' hs=>?_) fun _ _ z=>z.elim
 obtain ⟨v,H',J,rv,q⟩:=hs
 exact ⟨v,H',J.os,J.bare,J.base,J.hok,rv,q⟩
noncomputable def TabOk (H:Hp) (P:Addr) (pos:Pos) (qual:Str):Prop :=
 ∃ ps:Array Value,H P=some (.tbl ps)/\TriplesOk ps.toList/\(codeAmong pos ps.toList=none\/∃ c,codeAmong pos ps.toList=some (.ref c)/\H c=some (.ext (CodeQ c qual)))
noncomputable def SameT (P:Addr) (H H':Hp):Prop:=∀ b o,H b=some o->b ≠ P->H' b=some o
noncomputable def BMain (mg:Str->Option Value) (base:Heap):Prop:=∃ bm ob,mg "__builtins__" = some (.ref bm)/\bm ≠ builtinsNs/\base.get? bm=some ob/\ob.cls=.type "module" /\ ob.dict=some builtinsNs/\ob.data=.plain
noncomputable def fixed (X:Cx) (H:Hp) (h:Heap):Heap:=PySem.W.hideAll h (trk h H ++ frs X.stack)
theorem mem_trk {h:Heap} {H:Hp} {b:Addr}:b∈trk h H↔b < h.objs.size/\(H b).isSome=true:=by
 unfold trk
 rw [List.mem_filter,List.mem_range]
section
variable {X:Cx} {pins:List (Addr × Obj)} {σ:St} {H:Hp} {s:Shared}
theorem fixed_get {b:Addr} {o:Obj} (e:s.heap.get? b=some o) (n:H b=none) (nf:b ∉ frs X.stack):(fixed X H s.heap).get? b=some o :=
 PySem.W.hideAll_get _ e fun z=>by
  rcases List.mem_append.mp z with z | z
  ·have:=(mem_trk.mp z).2
   rw [n] at this
   cases this
  ·exact nf z
theorem of_fixed {b:Addr} {o:Obj} (e:(fixed X H s.heap).get? b=some o):s.heap.get? b=some o/\H b=none:=by
 have e1:=PySem.W.of_hideAll _ e
 refine ⟨e1,?_⟩
 cases q:H b with
 | none=>rfl
 | some u =>
  have:(fixed X H s.heap).get? b=none:=PySem.W.hideAll_none _ (List.mem_append_left _ (mem_trk.mpr ⟨Heap.lt_size e1,by rw [q]; rfl⟩))
  rw [this] at e
  cases e
theorem Inv.base_fixed (I:Inv X pins σ H s):∀ b o,X.base.get? b=some o->(fixed X H s.heap).get? b=some o:=fun b o e=>by
 obtain ⟨e1,n⟩:=I.bs b o e
 refine fixed_get e1 n fun z=>?_
 have:=(I.stack.mem z).1
 rw [this] at e
 cases e
theorem Inv.env_fixed (I:Inv X pins σ H s):Env0 X.prog X.w X.K X.mg (fixed X H s.heap) X.A X.stack s H:=by
 have k:=I.base_fixed
 obtain ⟨mb,h1,h2⟩:=I.mod.blt
 refine ⟨I.ok.frames,⟨I.mod.kin.keeps k,I.mod.glob.keeps k,⟨mb,h1.keeps k,h2⟩,I.mod.nolimit.keeps k⟩,fun b o e=>of_fixed e,Nat.le_of_eq (PySem.W.hideAll_size _ _),?_,I.stkFree,I.hok,I.bare⟩
 refine PySem.W.funFrames_hide I.stack fun env he a ha=>List.mem_append_right _ ?_
 exact List.mem_filterMap.mpr ⟨env,he,ha⟩
end
noncomputable def tLam (i:Nat) (P:Addr) (pos:Pos) (qual:Str) (te:TE) (spG:V->Addr->Addr->Sp):TE:=fun σ H Q=>∃ v,σ[i]?=some (some v)/\te σ H fun w H1=>TabOk H1 P pos qual /\
 ∀ fl c' H2,SameT P H1 H2->TabOk H2 P pos qual->H2 c'=some (.ext (CodeQ c' qual))->spG v fl c' [w,.ref fl] H2 Q E0
section
variable {X:Cx} {k:Nat} {x y:Str} {g c P cy:Addr} {gd:FuncData} {ps2 N ps:List Str} {spG:V->Addr->Addr->Sp} {e1 body:Expr} {te:TE} {params:Arguments} {sc:Scope} {lpos p pos:Pos} {clos:List (Str × Addr)}
theorem pe_lamcall (i:Nat) (hr:Room k X.A) (hg:Gl X x) (hm:X.mg x=some (.ref g)) (hk:PySem.W.keepIn X.K (.ref g)=true) (hbG:Binds X.K gd ps2 []) (hl2:ps2.length=2) (hcode:X.env.code=.ref c) (hC:PySem.W.CodeHd X.base c P) (hB:BMain X.mg X.base)
  (hcl:closureFor sc X.env=pure clos) (hN:X.N[i]?=some y) (hky:X.env.kindOf y=some .cell) (hvy:Vis X.env.scope y) (hcy:X.env.cells.lookup y=some cy) (hfy:X.fn y=true) (hcly:clos.lookup y=some cy) (honly:∀ z d,clos.lookup z=some d->z=y/\d=cy) (hNp:N=ps ++ [y]) (hsy:sc.names.lookup y=some .free)
  (h1:PE X e1 te)
  (G:∀ (base':Heap) (fl c':Addr) (v:V) (pm ctv:Value),base'.get? fl=some (PySem.W.kla_obj "<lambda>" (X.env.qual ++ "<lambda>") params body sc clos pm c' ctv)->Caught base' sc clos N ps [v]->FnOk X.prog X.w X.K X.mg base' CX0 k g gd ps2 (spG v fl c'))
  (hdb:(x == ("__debug__" : Str))=false:=by decide) (hdef:defaultsOf params X.env=([],[]):=by rfl)
  (he:starEach [e1,.Lambda params body sc lpos] X.env=(false,eval e1 X.env) :: starEach [.Lambda params body sc lpos] X.env:=by rfl) (he2:starEach [.Lambda params body sc lpos] X.env=(false,eval (.Lambda params body sc lpos) X.env) :: starEach [] X.env:=by rfl)
  (hpl:(backTo pos (starEach [.Lambda params body sc lpos] X.env)).any (·.1)=false:=by rfl) :
  PE X (.Call (.Name x p) [e1,.Lambda params body sc lpos] [] pos) (tLam i P lpos (X.env.qual ++ "<lambda>") te spG):=by
 intro pins s σ H Q I h
 obtain ⟨v,hv,h⟩:=h
 refine wpAny_Call_Name_kw (ld_glob I hg hm ?_ hdb)
 refine PySem.W.callWith_K (h₀:=X.base) I.ok.mod.kin hk ?_ he hpl
 rw [he]
 show wpAny _ _ (spliced ((false,eval e1 X.env) :: backTo pos (starEach [.Lambda params body sc lpos] X.env))) _ _ s
 refine Calls.spliced_cons (thn (h1 pins s σ H _ I h) fun u1 s1 ⟨w1,H1,I1,r1,tab,q1⟩=>?_)
 rw [he2]
 show wpAny _ _ (spliced ((false,eval (.Lambda params body sc lpos) X.env) :: backTo pos (starEach [] X.env))) _ _ s1
 refine Calls.spliced_cons (PySem.W.kla_eval hdef ?_)
 have cellAt:∀ {H2:Hp} {s2:Shared},Inv X pins σ H2 s2->∃ u,RelV v u/\s2.heap.IsCell cy (some u):=fun {H2 s2} J=>by
  obtain ⟨m,_,hl⟩:=J.loc
  obtain ⟨u,ru,lk⟩:=hl i y v hN hv hvy
  rcases lk with ⟨z,_⟩ | ⟨_,d,e',q⟩
  ·rw [hky] at z; cases z
  ·rw [hcy] at e'
   cases e'
   exact ⟨u,ru,q⟩
 have fin:∀ (fl c':Addr) (pm ctv:Value) (H2:Hp) (s2:Shared),Inv X pins σ H2 s2->SameT P H1 H2->TabOk H2 P lpos (X.env.qual ++ "<lambda>")->H2 c'=some (.ext (CodeQ c' (X.env.qual ++ "<lambda>"))) ->
   s2.heap.get? fl=some (PySem.W.kla_obj "<lambda>" (X.env.qual ++ "<lambda>") params body sc clos pm c' ctv)->H2 fl=none->fl ∉ frs X.stack ->
   wpAny (model X.prog X.w) X.A (spliced (backTo pos (starEach [] X.env))) (fun vs s3=>X.K.In s3.heap/\wpAny (model X.prog X.w) X.A (call (.ref g) ([] ++ (u1 :: .ref fl :: vs))) (EP X pins σ Q) X.xe s3) X.xe s2:=by
  intro fl c' pm ctv H2 s2 I2 sm tb hc' hfl nfl nfs
  refine Calls.spliced_nil ⟨I2.kIn,?_⟩
  have hb1:=fixed_get (X:=X) hfl nfl nfs
  obtain ⟨u,ru,oc,q1c,q2c⟩:=cellAt I2
  have nc:cy ∉ frs X.stack:=fun z=>by
   rcases List.mem_cons.mp (I2.stkSub cy z) with e | e
   ·exact I2.cne y cy hcy e
   ·have lo:=I2.ok.cab y cy hfy hcy
    obtain ⟨_,o,eo,_⟩:=I2.ok.funs.mem e
    exact absurd (Nat.lt_of_lt_of_le (Heap.lt_size eo) lo) (Nat.lt_irrefl _)
  have hb2:=fixed_get (X:=X) q1c (I2.freeC y cy hcy) nc
  have ca:Caught (fixed X H2 s2.heap) sc clos N ps [v]:=by
   refine ⟨by rw [hNp,List.length_append]; rfl,fun z d e=>?_,fun j z v' e1 e2=>?_⟩
   ·obtain ⟨rfl,rfl⟩:=honly z d e
    exact ⟨some u,oc,hb2,q2c⟩
   ·cases j with
    | zero =>
     have e3:v=v':=Option.some.inj e2
     subst e3
     have e4:y=z:=by
      rw [hNp,Nat.add_zero,List.getElem?_append_right (Nat.le_refl _),Nat.sub_self] at e1
      exact Option.some.inj e1
     subst e4
     exact ⟨hsy,cy,u,hcly,⟨oc,hb2,q2c⟩,ru⟩
    | succ j=>cases e2
  have F:=G _ fl c' v pm ctv hb1 ca
  have hsp:=q1 fl c' H2 sm tb hc'
  have bnd:BindsTo s2 gd ⟨[u1,.ref fl],[]⟩ (ps2.zip [u1,.ref fl]):=by
   have:=hbG s2 [u1,.ref fl] I2.kIn (by rw [hl2]; rfl)
   simpa using this
  refine wpAny_call (codeAny_mono (F.run X.A X.stack s2 H2 ⟨[u1,.ref fl],[]⟩ [u1,.ref fl] [w1,.ref fl] Q E0 hr I2.env_fixed bnd (.cons r1 (.cons rfl .nil)) hsp) fun r s' hq=>?_)
  cases r with
  | error e=>exact False.elim hq
  | ok fl' =>
   cases fl' with
   | ret u=>exact I2.after hq
   | next=>exact False.elim hq
   | brk=>exact False.elim hq
   | cont=>exact False.elim hq
 obtain ⟨bm,ob,b1,b2,b3,b4,b5,b6⟩:=hB
 obtain ⟨ps0,hP,ht,hor⟩:=tab
 have hPo:s1.heap.get? P=some (PySem.W.tabObj ps0):=I1.hok P _ hP
 have notP:∀ b o,X.base.get? b=some o->b ≠ P:=fun b o e z=>by
  have:=(I1.bs b o e).2
  rw [z,hP] at this
  cases this
 obtain ⟨og,esg,epg,eg,dg,rg⟩:=I1.mod.glob
 have hbA:s1.heap.BuiltinsAt X.mg P:=⟨bm,ob,b1,b2,(fun z=>by rw [z,eg] at b3; cases b3; rw [b6] at dg; cases dg),notP _ _ b3,I1.bk _ _ b3,b4,b5,b6⟩
 have gl:s1.heap.Ns mainGlobals X.mg:=I1.mod.glob.keeps I1.bk
 rcases hor with hnf | ⟨c',hf,hc'⟩
 ·refine PySem.W.kla_makeFunction (mg:=X.mg) hcl I1.ok.glob gl hcode (hC.keeps I1.bk) hPo ht hnf (notP _ _ eg) hbA fun c' ctv h' tk hx hge hlt hrec htb=>?_
  have ltP:P < s1.heap.objs.size:=Heap.lt_size hPo
  have neP:P ≠ c':=Nat.ne_of_lt (Nat.lt_of_lt_of_le ltP hge)
  have nc':H1 c'=none:=I1.hok.fresh hge
  have old:∀ b o,b ≠ P->s1.heap.get? b=some o->(h'.push (PySem.W.kla_obj "<lambda>" (X.env.qual ++ "<lambda>") params body sc clos ((X.mg "__name__").getD .none) c' ctv)).get? b=some o:=fun b o n e=>Heap.get?_push_of_some _ (hx b o n e)
  have kP:∀ b o,H1 b=some o->(∀ z,o ≠ .tbl z)->b ≠ P:=fun b o e n z=>by rw [z,hP] at e; exact n ps0 (Option.some.inj e).symm
  have up:∀ b o,H1 b=some o->b ≠ P->upd (upd H1 c' (.ext (CodeQ c' (X.env.qual ++ "<lambda>")))) P (.tbl (ps0 ++ #[rawInt lpos.line,rawInt lpos.col,.ref c'])) b=some o:=fun b o e n=>by
   rw [upd_ne n,upd_ne (ne_of_none e nc')]
   exact e
  have upN:∀ b,H1 b=none->b ≠ c'->upd (upd H1 c' (.ext (CodeQ c' (X.env.qual ++ "<lambda>")))) P (.tbl (ps0 ++ #[rawInt lpos.line,rawInt lpos.col,.ref c'])) b=none:=fun b e n=>by
   rw [upd_ne (fun z=>by rw [z,hP] at e; cases e),upd_ne n]
   exact e
  have u:Un X.fs [] H1 (upd (upd H1 c' (.ext (CodeQ c' (X.env.qual ++ "<lambda>")))) P (.tbl (ps0 ++ #[rawInt lpos.line,rawInt lpos.col,.ref c']))) s1.heap (h'.push (PySem.W.kla_obj "<lambda>" (X.env.qual ++ "<lambda>") params body sc clos ((X.mg "__name__").getD .none) c' ctv)):=by
   have nP:∀ b,H1 b=none->b ≠ P:=fun b n z=>by rw [z,hP] at n; cases n
   refine ⟨fun b o e n _ _=>old b o (nP b n) e,fun b o e n _ _=>⟨o.slots,old b o (nP b n) e⟩,fun b o e n _=>upN b n (Nat.ne_of_lt (Nat.lt_of_lt_of_le (Heap.lt_size e) hge)),fun b o e _=>?_,fun b xs e=>up b _ e (kP b _ e fun _ z=>nomatch z),fun b o w e=>up b _ e (kP b _ e fun _ z=>nomatch z),fun b pz e=>?_⟩
   ·by_cases hb:b=P
    ·rw [hb]
     exact ⟨_,Heap.get?_push_of_some _ htb⟩
    ·exact ⟨o,old b o hb e⟩
   ·by_cases hb:b=P
    ·rw [hb] at e ⊢
     rw [hP] at e
     cases e
     exact ⟨_,upd_same⟩
    ·exact ⟨#[],by rw [up b _ e hb]; simp⟩
  have hok:HOk X.prog X.w (upd (upd H1 c' (.ext (CodeQ c' (X.env.qual ++ "<lambda>")))) P (.tbl (ps0 ++ #[rawInt lpos.line,rawInt lpos.col,.ref c']))) (h'.push (PySem.W.kla_obj "<lambda>" (X.env.qual ++ "<lambda>") params body sc clos ((X.mg "__name__").getD .none) c' ctv)):=by
   intro b o e
   by_cases hb:b=P
   ·rw [hb,upd_same] at e
    cases e
    rw [hb]
    exact Heap.get?_push_of_some _ htb
   ·rw [upd_ne hb] at e
    by_cases hb2:b=c'
    ·rw [hb2,upd_same] at e
     cases e
     rw [hb2]
     obtain ⟨c2,oc,vs,tq,ee,hoc,rest⟩:=hrec
     cases ee
     refine ⟨⟨_,oc,vs,tq,rfl,Heap.get?_push_of_some _ hoc,rest⟩,⟨oc,Heap.get?_push_of_some _ hoc⟩,fun h1 h2 hq hk=>?_⟩
     obtain ⟨c3,o3,v3,t3,e3,g3,r3⟩:=hq
     cases e3
     exact ⟨_,o3,v3,t3,rfl,hk _ g3,r3⟩
    ·rw [upd_ne hb2] at e
     refine (I1.hok b o e).stay (fun d z hd q=>old d z ?_ q) (fun d q=>up d _ q (kP d _ q fun _ z=>nomatch z)) fun d xs q=>up d _ q (kP d _ q fun _ z=>nomatch z)
     rcases hd with hd | hd
     ·rw [hd]; exact hb
     ·exact kP d _ hd fun _ z=>nomatch z
  have I2:=I1.un (t':=tk) u hok
  refine fin h'.objs.size c' _ ctv _ _ I2 (fun b o e n=>up b o e n) ⟨_,upd_same,?_,.inr ⟨c',?_,?_⟩⟩ ?_ (Heap.get?_push_size _ rfl) ?_ ?_
  ·have:=TriplesOk_snoc lpos.line lpos.col (.ref c') ps0.toList ht
   simpa using this
  ·have:=codeAmong_snoc (pos:=lpos) (c:=.ref c') ps0.toList ht hnf
   simpa using this
  ·rw [upd_ne neP.symm,upd_same]
  ·rw [upd_ne neP.symm,upd_same]
  ·refine upN _ (I1.hok.fresh (Nat.le_trans hge (Nat.le_of_lt hlt))) (Nat.ne_of_gt hlt)
  ·exact fun z=>by
    rcases List.mem_cons.mp (I1.stkSub _ z) with e | e
    ·exact absurd (I1.lt) (by rw [<- e]; exact Nat.not_lt.mpr (Nat.le_trans hge (Nat.le_of_lt hlt)))
    ·exact I1.nofs (Nat.le_trans hge (Nat.le_of_lt hlt)) e
 ·refine PySem.W.kla_makeFunctionHit (mg:=X.mg) hcl I1.ok.glob gl hcode (hC.keeps I1.bk) hPo ht hf hbA fun ctv h' tk hk hsz=>?_
  have I2:Inv X pins σ H1 { s1 with heap:=h'.push { cls:=.type "function",data:=.func (PySem.W.kla_fn "<lambda>" (X.env.qual ++ "<lambda>") params body sc clos ((X.mg "__name__").getD .none) (.ref c') ctv) },toks:=tk }:=I1.kept (t':=tk) fun b o e=>Heap.get?_push_of_some _ (hk b o e)
  refine fin h'.objs.size c' _ ctv H1 _ I2 (fun b o e _=>e) ⟨ps0,hP,ht,.inr ⟨c',hf,hc'⟩⟩ hc' (Heap.get?_push_size _ rfl) (I1.hok.fresh hsz) ?_
  exact fun z=>by
   rcases List.mem_cons.mp (I1.stkSub _ z) with e | e
   ·exact absurd (I1.lt) (by rw [<- e]; exact Nat.not_lt.mpr hsz)
   ·exact I1.nofs hsz e
end
end L2
namespace L2
open PySem PySem.Spec PyProof.Rows
theorem law_callT {P:Program} {w:World} {K:PySem.W.Frag} {mg mb:Str->Option Value} {k:Nat} {fa a:Addr} {fd:FuncData} {x:Str} {sp:Sp} {s₁:Shared} {vs:List Value} {ns:List Int} {tabs:List (Addr × Addr)}
  (KX:K.In s₁.heap) (hns:s₁.heap.Ns mainGlobals mg) (hb:s₁.heap.Ns builtinsNs mb) (hbb:∀ x:Str,x ≠ "__name__" -> mb x=bootBuiltins x) (hlim:s₁.heap.NoLimit) (hg:s₁.gens=#[])
  (ha:s₁.heap.get? a=some { cls:=.type "list",data:=.seq vs.toArray }) (hi:IntsAre vs ns) (hl:ns.length<=sizeLine) (hr:Room k callerA) (hBM:BMain mg s₁.heap)
  (hT:∀ q∈tabs,PySem.W.CodeHd s₁.heap q.1 q.2/\s₁.heap.get? q.2=some (PySem.W.tabObj #[])/\K.lookup q.2=none)
  (F:∀ base:Heap,K.In base->base.Ns mainGlobals mg->BMain mg base->(∀ q∈tabs,PySem.W.CodeHd base q.1 q.2)->FnOk P w K mg base CX0 k fa fd [x] sp) (hbind:∀ (s:Shared) (u:Value),BindsTo s fd ⟨[u],[]⟩ [(x,u)])
  (hsp:∀ H:Hp,(∀ q∈tabs,H q.2=some (.tbl #[]))->SqL K H a (ns.map V.int)->sp [.ref a] H (fun v _=>v=.bl true) fun _ _ _=>False) :
  codeAny (model P w) callerA (.call (.ref fa) ⟨[.ref a],[]⟩) (fun r s'=>r=.ok (.ret (.bool true))/\OldK s₁.heap s'.heap/\s'.os=s₁.os/\AllBare s'.gens) s₁:=by
 have rv:=vals_ints hi
 have lenV:=hi.length
 have aT:∀ q∈tabs,q.2 ≠ a:=fun q hq z=>by
  have:=(hT q hq).2.1
  rw [z,ha] at this
  cases this
 have core:∀ H:Hp,(∀ b,H b=none\/(b=a/\K.lookup a=none/\H b=some (.frz { cls:=.type "list",data:=.seq vs.toArray } (.lst (ns.map V.int))))\/∃ q∈tabs,b=q.2/\H b=some (.tbl #[]))->(∀ q∈tabs,H q.2=some (.tbl #[]))->SqL K H a (ns.map V.int) ->
   codeAny (model P w) callerA (.call (.ref fa) ⟨[.ref a],[]⟩) (fun r s'=>r=.ok (.ret (.bool true))/\OldK s₁.heap s'.heap/\s'.os=s₁.os/\AllBare s'.gens) s₁:=by
  intro H hO hTb hS
  have hok:HOk P w H s₁.heap:=fun b u z=>by
   rcases hO b with e | ⟨e,_,e2⟩ | ⟨q,hq,e,e2⟩
   ·rw [e] at z; cases z
   ·rw [e2] at z
    cases z
    subst e
    exact ⟨ha,by rw [List.length_map]; exact hl,vs,_,rv,ha⟩
   ·rw [e2] at z
    cases z
    rw [e]
    exact (hT q hq).2.1
  have base_of:∀ {b:Addr} {o:Obj},s₁.heap.get? b=some o->H b=none->(hidT s₁.heap H).get? b=some o:=fun e n=>hidT_get e n
  have unt:∀ {b:Addr} {o:Obj},s₁.heap.get? b=some o->o.cls ≠ .type "list" -> o.cls ≠ .none->H b=none:=fun {b o} e n1 n2=>by
   rcases hO b with z | ⟨z,_,_⟩ | ⟨q,hq,z,_⟩
   ·exact z
   ·rw [z,ha] at e; cases e; exact absurd rfl n1
   ·rw [z,(hT q hq).2.1] at e; cases e; exact absurd rfl n2
  have noA:∀ {b:Addr} {o:Obj} {es:Array DictEntry} {ep:Nat},s₁.heap.get? b=some o->o.data=.dict es ep->H b=none:=fun {b o es ep} e d=>by
   rcases hO b with z | ⟨z,_,_⟩ | ⟨q,hq,z,_⟩
   ·exact z
   ·rw [z,ha] at e; cases e; cases (show Data.seq vs.toArray _=Data.dict es ep from d)
   ·rw [z,(hT q hq).2.1] at e; cases e; cases (show Data.fields _=Data.dict es ep from d)
  have nsK:∀ {b:Addr} {m:Str->Option Value},s₁.heap.Ns b m->(hidT s₁.heap H).Ns b m:=fun {b m} ⟨o,es,ep,e,d,r⟩=>⟨o,es,ep,base_of e (noA e d),d,r⟩
  have hKb:K.In (hidT s₁.heap H):=fun b o e=>base_of (KX b o e) (by
   rcases hO b with z | ⟨z,zk,_⟩ | ⟨q,hq,z,_⟩
   ·exact z
   ·rw [z,zk] at e; cases e
   ·rw [z,(hT q hq).2.2] at e; cases e)
  have hM:Mod K mg (hidT s₁.heap H):=⟨hKb,nsK hns,⟨mb,nsK hb,hbb⟩,let ⟨mc,h1,h2⟩:=hlim; ⟨mc,nsK h1,h2⟩⟩
  have hB2:BMain mg (hidT s₁.heap H):=by
   obtain ⟨bm,ob,b1,b2,b3,b4,b5,b6⟩:=hBM
   exact ⟨bm,ob,b1,b2,base_of b3 (unt b3 (by rw [b4]; decide) (by rw [b4]; intro z; cases z)),b4,b5,b6⟩
  have hC2:∀ q∈tabs,PySem.W.CodeHd (hidT s₁.heap H) q.1 q.2:=fun q hq=>by
   obtain ⟨o,vs',file,tf,flags,tg,inF,text,tt,e1,r1,r⟩:=(hT q hq).1
   exact ⟨o,vs',file,tf,flags,tg,inF,text,tt,base_of e1 (unt e1 (by rw [r1]; decide) (by rw [r1]; intro z; cases z)),r1,r⟩
  have e0:Env0 P w K mg (hidT s₁.heap H) callerA [] s₁ H:=⟨rfl,hM,fun b o e=>of_hidT e,Nat.le_of_eq (hidT_size _ _),trivial,fun b hb=>absurd (show b∈([]:List Addr) from hb) (by simp),hok,.of_eq hg⟩
  refine codeAny_mono ((F _ hKb (nsK hns) hB2 hC2).run callerA [] s₁ H ⟨[.ref a],[]⟩ [.ref a] [.ref a] _ _ hr e0 (hbind s₁ (.ref a)) (.cons rfl .nil) (hsp H hTb hS)) fun r s' h=>?_
  cases r with
  | error e=>exact False.elim h
  | ok fl =>
   cases fl with
   | next=>exact False.elim h
   | brk=>exact False.elim h
   | cont=>exact False.elim h
   | ret u =>
    obtain ⟨v,H',os,bare,un,hok',r',q⟩:=h
    have q':v=.bl true:=q
    subst q'
    obtain rfl:u=Value.bool true:=r'
    have at_:∀ b o,s₁.heap.get? b=some o->s'.heap.get? b=some o\/∃ q∈tabs,b=q.2/\∃ more,s'.heap.get? b=some (PySem.W.tabObj (#[] ++ more)):=fun b o e=>by
     rcases hO b with z | ⟨z,_,z2⟩ | ⟨q,hq,z,z2⟩
     ·exact .inl (un.keep b o e z (by intro z; exact absurd (show b∈([]:List Addr) from z) (by simp)) (by simp))
     ·have z3:=un.frzs b _ _ z2
      obtain ⟨e2,_⟩:=hok' b _ z3
      rw [z,ha] at e
      cases e
      exact .inl e2
     ·obtain ⟨more,z3⟩:=un.tbls b _ z2
      exact .inr ⟨q,hq,z,more,hok' b _ z3⟩
    refine ⟨rfl,⟨fun b o e=>?_,fun b o e=>?_⟩,os,bare⟩
    ·rcases at_ b o e with z | ⟨q,hq,z,more,z2⟩
     ·exact .inl z
     ·have e2:=(hT q hq).2.1
      rw [<- z,e] at e2
      cases e2
      refine .inr (.inl ⟨?_,rfl,#[],more,rfl,z2⟩)
      rw [z]
      exact ((hT q hq).1.tab (hT q hq).2.1).isCodeTable
    ·rcases at_ b o e with z | ⟨q,hq,z,more,z2⟩
     ·exact ⟨_,z⟩
     ·exact ⟨_,z2⟩
 cases hk:K.lookup a with
 | some o =>
  have e:=KX a o hk
  rw [ha] at e
  cases e
  refine core (fun b=>if b∈tabs.map (·.2) then some (.tbl #[]) else none) (fun b=>?_) (fun q hq=>if_pos (List.mem_map_of_mem hq)) (.inr ⟨_,vs.toArray,_,hk,rfl,rfl,rfl,by rw [List.size_toArray,lenV]; exact hl,by simpa using rv⟩)
  by_cases hb:b∈tabs.map (·.2)
  ·obtain ⟨q,hq,e⟩:=List.mem_map.mp hb
   exact .inr (.inr ⟨q,hq,e.symm,if_pos hb⟩)
  ·exact .inl (if_neg hb)
 | none =>
  have na:a ∉ tabs.map (·.2):=fun z=>by
   obtain ⟨q,hq,e⟩:=List.mem_map.mp z
   exact aT q hq e
  refine core (fun b=>if b∈tabs.map (·.2) then some (.tbl #[]) else if b=a then some (.frz { cls:=.type "list",data:=.seq vs.toArray } (.lst (ns.map V.int))) else none) (fun b=>?_) (fun q hq=>if_pos (List.mem_map_of_mem hq)) (.inl (.inr ⟨{ cls:=.type "list",data:=.seq vs.toArray },?_⟩))
  ·by_cases hb:b∈tabs.map (·.2)
   ·obtain ⟨q,hq,e⟩:=List.mem_map.mp hb
    exact .inr (.inr ⟨q,hq,e.symm,if_pos hb⟩)
   ·by_cases hb2:b=a
    ·exact .inr (.inl ⟨hb2,hk,by rw [if_neg hb,if_pos hb2]⟩)
    ·exact .inl (by rw [if_neg hb,if_neg hb2])
  ·show (if a∈tabs.map (·.2) then _ else _)=_
   rw [if_neg na,if_pos rfl]
theorem walk_ofT {l:PySem.W.OpenLaw} {n k:Nat} {q:Program} {loose:List Str} {XP:(Str->Option Value)->Heap->Prop} {YP:World->Heap->Prop} {d:DefRec} {K:Params->PySem.W.Frag} {sp:PySem.W.Frag->List (Addr × Addr)->Sp} {x:Str}
  (hn:l.most=some n) (hn2:n<=sizeLine) (hdf:d.params.defaults=[]) (hr:Room k callerA)
  (hY:∀ (w:World) (h:Heap),YP w h->(K w.params).In h)
  (F:∀ (w:World) (mg mb:Str->Option Value) (mean:ExcName->Option Value) (fa:Addr) (h:Heap),(K w.params).In h->Top q (PySem.W.looseW q loose) mean mg mb h->mg d.name=some (.ref fa) ->
   ∃ (fd:FuncData) (tabs:List (Addr × Addr)),(∀ (s:Shared) (u:Value),BindsTo s fd ⟨[u],[]⟩ [(x,u)])/\(∀ t∈tabs,PySem.W.CodeHd h t.1 t.2/\h.get? t.2=some (PySem.W.tabObj #[])/\(K w.params).lookup t.2=none) /\
    ∀ base:Heap,(K w.params).In base->base.Ns mainGlobals mg->BMain mg base->(∀ t∈tabs,PySem.W.CodeHd base t.1 t.2)->FnOk l.prog w (K w.params) mg base CX0 k fa fd [x] (sp (K w.params) tabs))
  (hsp:∀ (K:PySem.W.Frag) (tabs:List (Addr × Addr)) (H:Hp) (a:Addr) (ns:List Int),ns.length<=n->(∀ t∈tabs,H t.2=some (.tbl #[]))->SqL K H a (ns.map V.int)->sp K tabs [.ref a] H (fun v _=>v=.bl true) fun _ _ _=>False) :
  PySem.W.WalkO q loose XP YP l.row.toRowW d [] (fun f vs=>PySem.call f vs):=by
 refine Att.attach_call hn hdf fun w s₀ s₁ mg mb fa o pm cd doc a vs ns G Y ho hd hcd hmg hobj hints hlen hg=>?_
 have KX:=hY w _ Y
 obtain ⟨fd,tabs,hb,hT,hF⟩:=F w mg mb _ fa _ KX G.T hmg
 obtain ⟨bm,ob,b1,b2,b3,b4,b5,b6⟩:=G.T.bmain
 exact law_callT KX G.T.g G.T.b G.T.builtins G.T.nolimit hg hobj hints (Nat.le_trans hlen hn2) hr ⟨bm,ob,b1,b2,b3,b4,b5,b6⟩ hT hF hb (fun H hTb hS=>hsp _ _ H a ns hlen hTb hS)
end L2
namespace L2
open PySem PySem.Spec PyProof.Rows
theorem Inv.turnedL {X:Cx} {pins:List (Addr × Obj)} {σ:St} {H H':Hp} {s:Shared} {h':Heap} {ch:List Addr} (I:Inv X pins σ H s) (hf:∀ b∈ch,FpOk X pins H b) (k:∀ b o,b ∉ ch->s.heap.get? b=some o->h'.get? b=some o)
  (up:∀ b o,H b=some o->H' b=some o) (no:∀ b o,s.heap.get? b=some o->H b=none->H' b=none) (new:∀ b o,H b=none->H' b=some o->ObjOk X.prog X.w H' h' b o):Inv X pins σ H' { s with heap:=h' }:=by
 have tr:∀ b o,H b=some o->b ∉ ch:=fun b o e z=>by rw [(hf b z).1] at e; cases e
 refine I.call (s:=s) (h':=h') (g':=s.gens) (d':=s.drawn) (t':=s.toks) (ch:=ch) ⟨fun b o e _ _ hx=>k b o hx e,fun b o e _ _ hx=>⟨o.slots,k b o hx e⟩,fun b o e n _=>no b o e n,fun b o e hx=>⟨o,k b o hx e⟩,fun b xs e=>up b _ e,fun b o u e=>up b _ e,fun b ps e=>⟨#[],by rw [up b _ e]; simp⟩⟩ (fun b o e=>?_) I.bare fun b hb=>?_
 ·cases q:H b with
  | none=>exact new b o q e
  | some o2 =>
   have e2:=up b o2 q
   rw [e] at e2
   cases e2
   refine (I.hok b o q).stay (fun c v hc q2=>k c v ?_ q2) (fun c q2=>up c _ q2) fun c xs q2=>up c _ q2
   rcases hc with hc | hc
   ·rw [hc]; exact tr b o q
   ·exact tr c _ hc
 ·obtain ⟨_,f1,_,f3,f4,f5⟩:=hf b hb
  exact ⟨f3,f1,f4,f5⟩
section
variable {X:Cx}
end
section
variable {K:PySem.W.Frag} {a b:Addr} {xs ys:List V} {caps:List (Option Nat)} {g:TG} {tt:TT} {te:TE} {σ:St} {H:Hp} {Q:VK}
end
end L2
namespace L2
open PySem PySem.Spec PyProof.Rows
section
variable {X:Cx}
variable {e o a:Expr} {es:List Expr} {to:TE} {t:TA} {apos pos:Pos}
end
end L2
namespace Ma
noncomputable abbrev T4:=Int × Int × Bool × Int
noncomputable def btS (d t:Int) (best:Option Int) (w:T3):Option Int :=
 match best with
 | none=>some (nextO d w.1 w.2.1 t+w.2.2)
 | some b=>if nextO d w.1 w.2.1 t+w.2.2 < b then some (nextO d w.1 w.2.1 t+w.2.2) else some b
noncomputable def bt (d:Int) (R:List T3) (t:Int):Option Int:=R.foldl (btS d t) none
theorem bt_nil (d t:Int):bt d [] t=none:=rfl
theorem bt_snoc (d:Int) (R:List T3) (w:T3) (t:Int):bt d (R ++ [w]) t=btS d t (bt d R t) w:=by
 unfold bt
 rw [List.foldl_append]
 rfl
structure IsMin (d t:Int) (R:List T3) (y:Int):Prop where
 at_:∃ w∈R,y=nextO d w.1 w.2.1 t+w.2.2
 le:∀ w∈R,y<=nextO d w.1 w.2.1 t+w.2.2
theorem IsMin.uniq {d t:Int} {R:List T3} {y y':Int} (h:IsMin d t R y) (h':IsMin d t R y'):y=y':=by
 obtain ⟨w,hw,e⟩:=h.at_
 obtain ⟨w',hw',e'⟩:=h'.at_
 have:=h.le w' hw'
 have:=h'.le w hw
 omega
theorem fold_bt (d t:Int):∀ (R:List T3) (best:Option Int),(best=none/\R=[]/\R.foldl (btS d t) best=none) \/
  ∃ y,R.foldl (btS d t) best=some y/\(best=some y\/∃ w∈R,y=nextO d w.1 w.2.1 t+w.2.2)/\(∀ b,best=some b->y<=b)/\∀ w∈R,y<=nextO d w.1 w.2.1 t+w.2.2
 | [],none=>.inl ⟨rfl,rfl,rfl⟩
 | [],some b=>.inr ⟨b,rfl,.inl rfl,fun b' e=>by cases e; exact Int.le_refl _,fun w hw=>by cases hw⟩
 | w :: R,best=>by
  rw [List.foldl_cons]
  rcases fold_bt d t R (btS d t best w) with ⟨e,_⟩ | ⟨y,e1,e2,e3,e4⟩
  ·cases best with
   | none=>cases e
   | some b =>
    simp only [btS] at e
    split at e <;> cases e
  ·refine .inr ⟨y,e1,?_,fun b hb=>?_,fun u hu=>?_⟩
   ·rcases e2 with e2 | ⟨u,hu,e2⟩
    ·cases best with
     | none =>
      cases e2
      exact .inr ⟨w,List.mem_cons_self ..,rfl⟩
     | some b =>
      simp only [btS] at e2
      split at e2
      ·cases e2
       exact .inr ⟨w,List.mem_cons_self ..,rfl⟩
      ·cases e2
       exact .inl rfl
    ·exact .inr ⟨u,List.mem_cons_of_mem _ hu,e2⟩
   ·subst hb
    by_cases c:nextO d w.1 w.2.1 t+w.2.2 < b
    ·have:=e3 _ (by simp only [btS]; rw [if_pos c])
     omega
    ·exact e3 _ (by simp only [btS]; rw [if_neg c])
   ·rcases List.mem_cons.mp hu with rfl | hu
    ·cases best with
     | none=>exact e3 _ rfl
     | some b =>
      by_cases c:nextO d u.1 u.2.1 t+u.2.2 < b
      ·exact e3 _ (by simp only [btS]; rw [if_pos c])
      ·have:=e3 b (by simp only [btS]; rw [if_neg c])
       omega
    ·exact e4 u hu
theorem bt_spec (d t:Int) (R:List T3):(R=[]/\bt d R t=none)\/∃ y,bt d R t=some y/\IsMin d t R y:=by
 rcases fold_bt d t R none with ⟨_,e,e2⟩ | ⟨y,e1,e2,_,e4⟩
 ·exact .inl ⟨e,e2⟩
 ·refine .inr ⟨y,e1,?_,e4⟩
  rcases e2 with e2 | e2
  ·cases e2
  ·exact e2
theorem IsMin.bt {d t:Int} {R:List T3} {y:Int} (h:IsMin d t R y):bt d R t=some y:=by
 rcases bt_spec d t R with ⟨rfl,_⟩ | ⟨y',e,h'⟩
 ·obtain ⟨w,hw,_⟩:=h.at_
  cases hw
 ·rw [e,h.uniq h']
theorem bt_min {d t:Int} {R:List T3} {y:Int} (h:bt d R t=some y):IsMin d t R y:=by
 rcases bt_spec d t R with ⟨rfl,e⟩ | ⟨y',e,h'⟩
 ·rw [e] at h; cases h
 ·rw [e] at h
  cases h
  exact h'
noncomputable def Tells (d:Int) (R:List T3) (f:Int->Int):Prop:=∀ t,bt d R t=some (f t)
noncomputable def bf (d:Int) (R:List T3) (t:Int):Int:=(bt d R t).getD 0
theorem tells_bf {d:Int} {R:List T3} (h:R ≠ []):Tells d R (bf d R):=fun t=>by
 unfold bf
 rcases bt_spec d t R with ⟨e,_⟩ | ⟨y,e,_⟩
 ·exact absurd e h
 ·rw [e]; rfl
theorem Tells.ne {d:Int} {R:List T3} {f:Int->Int} (h:Tells d R f):R ≠ []:=fun e=>by
 have:=h 0
 rw [e,bt_nil] at this
 cases this
structure Rise (d:Int) (f:Int->Int):Prop where
 ge:∀ t,t<=f t
 mono:∀ t u,t<=u->f t<=f u
 per:∀ t,f (t+d)=f t+d
theorem Rise.mul {d:Int} {f:Int->Int} (r:Rise d f) (t:Int):∀ k:Int,f (t+d * k)=f t+d * k:=by
 have up:∀ (t:Int) (n:Nat),f (t+d * (n:Int))=f t+d * (n:Int):=fun t n=>by
  induction n with
  | zero=>simp
  | succ n ih =>
   have e:d * ((n+1:Nat):Int)=d * (n:Int)+d:=by
    rw [Int.natCast_add,Int.mul_add]
    simp
   rw [e,<- Int.add_assoc,r.per,ih]
   omega
 intro k
 rcases Int.le_total 0 k with h | h
 ·have e:k=((k.toNat:Nat):Int):=by omega
  rw [e]
  exact up t _
 ·obtain ⟨m,e⟩:∃ m:Nat,k=-(m:Int):=⟨(-k).toNat,by omega⟩
  subst e
  have:=up (t+d * -(m:Int)) m
  rw [Int.mul_neg] at this ⊢
  have e2:t+-(d * (m:Int))+d * (m:Int)=t:=by omega
  rw [e2] at this
  omega
noncomputable def Wins (d:Int) (R:List T3):Prop:=∀ w∈R,0<=w.1/\w.1<=w.2.1/\w.2.1 < d/\0<=w.2.2
theorem next_mono {d a b t u:Int} (hd:0 < d) (h0:0<=a) (h1:a<=b) (h2:b < d) (l:t<=u):nextO d a b t<=nextO d a b u:=by
 obtain ⟨k,k1,k2,k3,k4,k5⟩:=next_spec (t:=u) hd h0 h1 h2
 obtain ⟨k',_,_,_,_,m5⟩:=next_spec (t:=t) hd h0 h1 h2
 exact m5 k _ k1 k2 (by omega)
theorem next_per {d a b t:Int}:nextO d a b (t+d)=nextO d a b t+d:=by
 unfold nextO
 rw [Int.add_emod_right]
 split <;> omega
theorem board_rise {d:Int} {R:List T3} {f:Int->Int} (hd:0 < d) (W:Wins d R) (T:Tells d R f):Rise d f:=by
 have m:∀ t,IsMin d t R (f t):=fun t=>bt_min (T t)
 refine ⟨fun t=>?_,fun t u l=>?_,fun t=>?_⟩
 ·obtain ⟨w,hw,e⟩:=(m t).at_
  obtain ⟨w0,w1,w2,w3⟩:=W w hw
  obtain ⟨_,_,_,k3,_⟩:=next_spec (t:=t) hd w0 w1 w2
  omega
 ·obtain ⟨w,hw,e⟩:=(m u).at_
  obtain ⟨w0,w1,w2,w3⟩:=W w hw
  have:=(m t).le w hw
  have:=next_mono hd w0 w1 w2 l
  omega
 ·refine IsMin.uniq (m (t+d)) ⟨?_,fun w hw=>?_⟩
  ·obtain ⟨w,hw,e⟩:=(m t).at_
   exact ⟨w,hw,by rw [next_per]; omega⟩
  ·have:=(m t).le w hw
   rw [next_per]
   omega
structure CK (d:Int) (R:List T3):Prop where
 d0:0 < d
 win:Wins d R
 srt:R.Pairwise fun u v=>u.2.1 < v.1/\u.2.1+u.2.2 < v.1+v.2.2/\(u.2.1+1=v.1->u.2.2 ≠ v.2.2)
 wr:∀ u∈R,∀ v∈R,u.2.1+u.2.2 < d+(v.1+v.2.2)
theorem ck_nil {d:Int} (h:0 < d):CK d []:=⟨h,(fun w hw=>by cases hw),List.Pairwise.nil,(fun w hw=>by cases hw)⟩
theorem get_mem {R:List T3} {i:Nat} (h:i < R.length):(rA R i,rB R i,rC R i)∈R:=List.mem_of_getElem? (r_at h)
theorem mem_get {R:List T3} {w:T3} (h:w∈R):∃ i,i < R.length/\rA R i=w.1/\rB R i=w.2.1/\rC R i=w.2.2:=by
 obtain ⟨i,hi,e⟩:=List.mem_iff_getElem.mp h
 have e2:R[i]?=some (w.1,w.2.1,w.2.2):=by rw [List.getElem?_eq_getElem hi,e]
 exact ⟨i,hi,r_of e2⟩
theorem pw_get {R:List T3} {p:T3->T3->Prop} (h:R.Pairwise p) {i j:Nat} (hij:i < j) (hj:j < R.length):p (rA R i,rB R i,rC R i) (rA R j,rB R j,rC R j):=by
 have e1:=r_at (R:=R) (i:=i) (by omega)
 have e2:=r_at (R:=R) hj
 rw [List.getElem?_eq_getElem (by omega)] at e1
 rw [List.getElem?_eq_getElem hj] at e2
 have:=List.pairwise_iff_getElem.mp h i j (by omega) hj hij
 rw [Option.some.inj e1,Option.some.inj e2] at this
 exact this
theorem CK.clk {d:Int} {R:List T3} (h:CK d R):Clk d R.length (rA R) (rB R) (rC R) :=
 ⟨h.d0,fun i hi=>(h.win _ (get_mem hi)).1,fun i hi=>(h.win _ (get_mem hi)).2.1,fun i hi=>(h.win _ (get_mem hi)).2.2.1,fun i hi=>(h.win _ (get_mem hi)).2.2.2,
  fun i j hij hj=>(pw_get h.srt hij hj).1,fun i j hij hj=>(pw_get h.srt hij hj).2.1,fun i j hi hj=>h.wr _ (get_mem hi) _ (get_mem hj)⟩
theorem ex_min (g:Nat->Int):∀ n:Nat,0 < n->∃ j,j < n/\∀ i,i < n->g j<=g i
 | 0,h=>absurd h (Nat.lt_irrefl _)
 | 1,_=>⟨0,by omega,fun i hi=>by have:i=0:=(by omega); rw [this]; exact Int.le_refl _⟩
 | n+2,_=>by
  obtain ⟨j,hj,h⟩:=ex_min g (n+1) (by omega)
  rcases Int.le_total (g j) (g (n+1)) with c | c
  ·refine ⟨j,by omega,fun i hi=>?_⟩
   rcases (by omega:i < n+1\/i=n+1) with z | z
   ·exact h i z
   ·rw [z]; exact c
  ·refine ⟨n+1,by omega,fun i hi=>?_⟩
   rcases (by omega:i < n+1\/i=n+1) with z | z
   ·have:=h i z
    omega
   ·rw [z]; exact Int.le_refl _
theorem clk_first {d:Int} {R:List T3} (K:Clk d R.length (rA R) (rB R) (rC R)) (n0:R.length ≠ 0) (t:Int):∃ x y,First d R.length (rA R) (rB R) (rC R) t x y/\bt d R t=some y:=by
 obtain ⟨j,hj,hm⟩:=ex_min (fun i=>nextO d (rA R i) (rB R i) t) R.length (by omega)
 have F:=first_min K hj hm
 refine ⟨_,_,F,IsMin.bt ⟨⟨_,get_mem hj,rfl⟩,fun w hw=>?_⟩⟩
 obtain ⟨i,hi,e1,e2,e3⟩:=mem_get hw
 obtain ⟨k,k1,k2,k3,k4,k5⟩:=next_spec (t:=t) K.d0 (K.a0 i hi) (K.ab i hi) (K.bd i hi)
 have D:Dep d R.length (rA R) (rB R) (rC R) (nextO d (rA R i) (rB R i) t) (nextO d (rA R i) (rB R i) t+rC R i):=⟨i,k,hi,k1,k2,rfl⟩
 have le:=F.least _ _ D k3
 rw [<- e1,<- e2,<- e3]
 rcases (by omega:nextO d (rA R j) (rB R j) t < nextO d (rA R i) (rB R i) t\/nextO d (rA R j) (rB R j) t=nextO d (rA R i) (rB R i) t) with z | z
 ·have:=dep_mono K F.dep D z
  omega
 ·rw [<- z] at D
  have:=dep_fun K F.dep D
  omega
theorem first_bt {d:Int} {R:List T3} (K:Clk d R.length (rA R) (rB R) (rC R)) {t x y:Int} (h:First d R.length (rA R) (rB R) (rC R) t x y):bt d R t=some y:=by
 have n0:R.length ≠ 0:=by
  obtain ⟨i,_,hi,_⟩:=h.dep
  omega
 obtain ⟨x',y',h',e⟩:=clk_first K n0 t
 rw [e,(h.uniq K h').2]
structure Can (lo P:Int) (f:Int->Int) (R:List T3):Prop where
 srt:R.Pairwise fun u v=>u.2.1 < v.1/\(u.2.1+1=v.1->u.2.2 ≠ v.2.2)
 mem:∀ w∈R,lo<=w.1/\w.1<=w.2.1/\w.2.1 < P/\∀ x,w.1<=x->x<=w.2.1->f x=x+w.2.2/\f x < f (x+1)
 cov:∀ x,lo<=x->x < P->f x < f (x+1)->∃ w∈R,w.1<=x/\x<=w.2.1
theorem Can.tail {lo P:Int} {f:Int->Int} {w:T3} {R:List T3} (h:Can lo P f (w :: R)):Can (w.2.1+1) P f R:=by
 have s:=List.pairwise_cons.mp h.srt
 have hw:=h.mem w (List.mem_cons_self ..)
 refine ⟨s.2,fun u hu=>?_,fun x x0 x1 x2=>?_⟩
 ·have a:=h.mem u (List.mem_cons_of_mem _ hu)
  have b:=(s.1 u hu).1
  exact ⟨by omega,a.2⟩
 ·obtain ⟨u,hu,u1,u2⟩:=h.cov x (by omega) x1 x2
  rcases List.mem_cons.mp hu with rfl | hu
  ·omega
  ·exact ⟨u,hu,u1,u2⟩
theorem Can.head_le {lo P:Int} {f:Int->Int} {w:T3} {R:List T3} (h:Can lo P f (w :: R)) {x:Int} (x0:lo<=x) (x1:x < P) (x2:f x < f (x+1)):w.1<=x:=by
 have s:=List.pairwise_cons.mp h.srt
 obtain ⟨u,hu,u1,u2⟩:=h.cov x x0 x1 x2
 rcases List.mem_cons.mp hu with rfl | hu
 ·exact u1
 ·have:=(s.1 u hu).1
  have:=(h.mem w (List.mem_cons_self ..)).2.1
  omega
theorem Can.end_le {lo P:Int} {f:Int->Int} {w w':T3} {R R':List T3} (h:Can lo P f (w :: R)) (h':Can lo P f (w' :: R')) (ea:w.1=w'.1) (ec:w.2.2=w'.2.2):w'.2.1<=w.2.1:=by
 rcases Int.lt_or_le w.2.1 w'.2.1 with z | z
 ·exfalso
  have m:=h.mem w (List.mem_cons_self ..)
  have m':=h'.mem w' (List.mem_cons_self ..)
  have q:=m'.2.2.2 (w.2.1+1) (by omega) (by omega)
  obtain ⟨u,hu,u1,u2⟩:=h.cov (w.2.1+1) (by omega) (by omega) q.2
  rcases List.mem_cons.mp hu with rfl | hu
  ·omega
  ·have s:=(List.pairwise_cons.mp h.srt).1 u hu
   have r:=((h.mem u (List.mem_cons_of_mem _ hu)).2.2.2 (w.2.1+1) u1 u2).1
   exact s.2 (by omega) (by omega)
 ·exact z
theorem Can.uniq {P:Int} {f:Int->Int}:∀ {R R':List T3} {lo:Int},Can lo P f R->Can lo P f R'->R=R'
 | [],[],_,_,_=>rfl
 | [],w :: R,lo,h,h'=>by
  have m:=h'.mem w (List.mem_cons_self ..)
  obtain ⟨u,hu,_⟩:=h.cov w.1 m.1 (by omega) (m.2.2.2 w.1 (Int.le_refl _) m.2.1).2
  cases hu
 | w :: R,[],lo,h,h'=>by
  have m:=h.mem w (List.mem_cons_self ..)
  obtain ⟨u,hu,_⟩:=h'.cov w.1 m.1 (by omega) (m.2.2.2 w.1 (Int.le_refl _) m.2.1).2
  cases hu
 | w :: R,w' :: R',lo,h,h'=>by
  have m:=h.mem w (List.mem_cons_self ..)
  have m':=h'.mem w' (List.mem_cons_self ..)
  have q:=m.2.2.2 w.1 (Int.le_refl _) m.2.1
  have q':=m'.2.2.2 w'.1 (Int.le_refl _) m'.2.1
  have l1:=h.head_le (x:=w'.1) m'.1 (by omega) q'.2
  have l2:=h'.head_le (x:=w.1) m.1 (by omega) q.2
  have ea:w.1=w'.1:=by omega
  have ec:w.2.2=w'.2.2:=by
   have:=q.1
   have:=q'.1
   rw [ea] at *
   omega
  have b1:=h.end_le h' ea ec
  have b2:=h'.end_le h ea.symm ec.symm
  have eb:w.2.1=w'.2.1:=by omega
  have ew:w=w':=by
   obtain ⟨x,y,z⟩:=w
   obtain ⟨x',y',z'⟩:=w'
   cases ea
   cases eb
   cases ec
   rfl
  subst ew
  rw [Can.uniq h.tail h'.tail]
theorem const_of {f:Int->Int} (mono:∀ t u,t<=u->f t<=f u) {x:Int}:∀ (n:Nat),(∀ y,x<=y->y < x+n->¬ f y < f (y+1))->f x=f (x+n)
 | 0,_=>by simp
 | n+1,h=>by
  have e:=const_of mono (x:=x) n fun y y0 y1=>h y y0 (by omega)
  have a:=h (x+n) (by omega) (by omega)
  have b:=mono (x+n) (x+n+1) (by omega)
  have e2:x+((n+1:Nat):Int)=x+n+1:=by omega
  rw [e2]
  omega
theorem const_to {f:Int->Int} (mono:∀ t u,t<=u->f t<=f u) {x z:Int} (hz:x<=z) (h:∀ y,x<=y->y < z->¬ f y < f (y+1)):f x=f z:=by
 have e:z=x+((z - x).toNat:Int):=by omega
 have:=const_of mono (x:=x) (z - x).toNat fun y y0 y1=>h y y0 (by omega)
 rw [<- e] at this
 exact this
theorem next_dep {d:Int} {f:Int->Int} (hd:0 < d) (r:Rise d f) (t:Int):∃ x,t<=x/\x < t+d/\f x=f t/\f x < f (x+1):=by
 have go:∀ n:Nat,f t < f (t+n)->∃ x,t<=x/\x < t+n/\f x=f t/\f x < f (x+1):=by
  intro n
  induction n with
  | zero=>intro h; simp at h
  | succ n ih =>
   intro h
   by_cases c:f t < f (t+n)
   ·obtain ⟨x,x1,x2,x3,x4⟩:=ih c
    exact ⟨x,x1,by omega,x3,x4⟩
   ·have b:=r.mono t (t+n) (by omega)
    have e:t+((n+1:Nat):Int)=t+n+1:=by omega
    rw [e] at h
    exact ⟨t+n,by omega,by omega,by omega,by omega⟩
 have e:d=((d.toNat:Nat):Int):=by omega
 have:=go d.toNat (by rw [<- e,r.per]; omega)
 rw [<- e] at this
 exact this
theorem Can.tells {d:Int} {f:Int->Int} {R:List T3} (hd:0 < d) (r:Rise d f) (h:Can 0 d f R):Tells d R f:=by
 intro t
 have lo:∀ w∈R,f t<=nextO d w.1 w.2.1 t+w.2.2:=fun w hw=>by
  obtain ⟨m0,m1,m2,m3⟩:=h.mem w hw
  obtain ⟨k,k1,k2,k3,k4,k5⟩:=next_spec (t:=t) hd m0 m1 m2
  generalize nextO d w.1 w.2.1 t=x at *
  have q:=(m3 (x - d * k) (by omega) (by omega)).1
  have q2:=r.mul (x - d * k) k
  have e:x - d * k+d * k=x:=by omega
  rw [e] at q2
  have:=r.mono t x k3
  omega
 refine IsMin.bt ⟨?_,lo⟩
 obtain ⟨x,x1,x2,x3,x4⟩:=next_dep hd r t
 obtain ⟨q,e,e0,e1⟩:=split d x hd
 have p0:=r.mul (x % d) q
 have p1:=r.mul (x % d+1) q
 have e2:x % d+d * q=x:=by omega
 have e3:x % d+1+d * q=x+1:=by omega
 rw [e2] at p0
 rw [e3] at p1
 obtain ⟨w,hw,w1,w2⟩:=h.cov (x % d) e0 e1 (by omega)
 obtain ⟨m0,m1,m2,m3⟩:=h.mem w hw
 have c:=(m3 (x % d) w1 w2).1
 obtain ⟨k,k1,k2,k3,k4,k5⟩:=next_spec (t:=t) hd m0 m1 m2
 have u:=k5 q x (by omega) (by omega) x1
 have v:=lo w hw
 exact ⟨w,hw,by omega⟩
theorem Can.ck {d:Int} {f:Int->Int} {R:List T3} (hd:0 < d) (r:Rise d f) (h:Can 0 d f R):CK d R:=by
 have at_:∀ w∈R,f w.1=w.1+w.2.2/\f w.2.1=w.2.1+w.2.2/\f w.2.1 < f (w.2.1+1):=fun w hw=>by
  obtain ⟨m0,m1,m2,m3⟩:=h.mem w hw
  exact ⟨(m3 _ (Int.le_refl _) m1).1,m3 _ m1 (Int.le_refl _)⟩
 refine ⟨hd,fun w hw=>?_,?_,fun u hu v hv=>?_⟩
 ·obtain ⟨m0,m1,m2,m3⟩:=h.mem w hw
  have:=at_ w hw
  have:=r.ge w.1
  exact ⟨m0,m1,m2,by omega⟩
 ·refine List.Pairwise.imp_of_mem (fun {u v} hu hv p=>?_) h.srt
  refine ⟨p.1,?_,p.2⟩
  have a:=at_ u hu
  have b:=at_ v hv
  have:=r.mono (u.2.1+1) v.1 (by omega)
  omega
 ·have a:=at_ u hu
  have b:=at_ v hv
  obtain ⟨m0,m1,m2,m3⟩:=h.mem u hu
  obtain ⟨n0,_⟩:=h.mem v hv
  have:=r.mono (u.2.1+1) (v.1+d) (by omega)
  have:=r.per v.1
  omega
theorem CK.can {d:Int} {R:List T3} {f:Int->Int} (h:CK d R) (T:Tells d R f):Can 0 d f R:=by
 have K:=h.clk
 have n0:R.length ≠ 0:=fun e=>T.ne (List.length_eq_zero_iff.mp e)
 have F:∀ t,∃ x,First d R.length (rA R) (rB R) (rC R) t x (f t):=fun t=>by
  obtain ⟨x,y,h1,h2⟩:=clk_first K n0 t
  rw [T t] at h2
  cases h2
  exact ⟨x,h1⟩
 refine ⟨h.srt.imp fun p=>⟨p.1,p.2.2⟩,fun w hw=>?_,fun x x0 x1 x2=>?_⟩
 ·obtain ⟨w0,w1,w2,w3⟩:=h.win w hw
  refine ⟨w0,w1,w2,fun x a b=>?_⟩
  obtain ⟨i,hi,e1,e2,e3⟩:=mem_get hw
  have D:Dep d R.length (rA R) (rB R) (rC R) x (x+w.2.2):=⟨i,0,hi,by omega,by omega,by omega⟩
  obtain ⟨x',F1⟩:=F x
  have l:=F1.least _ _ D (Int.le_refl _)
  have l2:=F1.le
  have e:x'=x:=by omega
  subst e
  have ey:=dep_fun K F1.dep D
  obtain ⟨x2,F2⟩:=F (x'+1)
  have:=dep_mono K F1.dep F2.dep (by have:=F2.le; omega)
  exact ⟨ey,this⟩
 ·obtain ⟨x',F1⟩:=F x
  rcases (by have:=F1.le; omega:x'=x\/x+1<=x') with e | e
  ·subst e
   obtain ⟨i,k,hi,k1,k2,_⟩:=F1.dep
   have a0:=K.a0 i hi
   have bd:=K.bd i hi
   have d0:=K.d0
   have:k=0:=by
    rcases (by omega:k < 0\/k=0\/0 < k) with z | z | z
    ·have:=mul_lt_step d0 z
     omega
    ·exact z
    ·have:=mul_lt_step d0 z
     omega
   subst this
   exact ⟨_,get_mem hi,by simpa using k1,by simpa using k2⟩
  ·obtain ⟨x2',F2⟩:=F (x+1)
   have F3:First d R.length (rA R) (rB R) (rC R) (x+1) x' (f x):=⟨F1.dep,e,fun u v h1 h2=>F1.least u v h1 (by omega)⟩
   have:=(F2.uniq K F3).2
   omega
theorem CK.uniq {d:Int} {R R':List T3} (h:CK d R) (h':CK d R') (e:∀ t,bt d R t=bt d R' t):R=R':=by
 by_cases n:R=[]
 ·subst n
  by_cases n':R'=[]
  ·exact n'.symm
  ·have:=e 0
   rw [bt_nil,tells_bf n' 0] at this
   cases this
 ·have T:=tells_bf (d:=d) n
  have T':Tells d R' (bf d R):=fun t=>by rw [<- e t]; exact T t
  exact Can.uniq (h.can T) (h'.can T')
theorem CK.rise {d:Int} {R:List T3} {f:Int->Int} (h:CK d R) (T:Tells d R f):Rise d f:=board_rise h.d0 h.win T
end Ma
namespace Ma
theorem snoc_ind {α:Type} {p:List α->Prop} (h0:p []) (hs:∀ l x,p l->p (l ++ [x])) (l:List α):p l:=by
 rw [<- List.reverse_reverse l]
 induction l.reverse with
 | nil=>exact h0
 | cons x r ih =>
  rw [List.reverse_cons]
  exact hs _ _ ih
noncomputable def putW (R:List T3) (a b c:Int):List T3 :=
 if b < a then R else match R.getLast? with
  | some l=>if l.2.1+1=a/\l.2.2=c then R.dropLast ++ [(l.1,b,c)] else R ++ [(a,b,c)]
  | none=>R ++ [(a,b,c)]
theorem putW_len (R:List T3) (a b c:Int):(putW R a b c).length<=R.length+1:=by
 unfold putW
 split
 ·omega
 ·split
  ·split
   ·rw [List.length_append,List.length_dropLast,List.length_singleton]; omega
   ·simp
  ·simp
section
variable {lo P P':Int} {f:Int->Int} {R:List T3} {a b c:Int}
theorem Can.app (h:Can lo P f R) (l0:lo<=P) (pa:P<=a) (ab:a<=b) (bp:b < P') (dep:∀ x,P<=x->x < P'->(f x < f (x+1)↔a<=x/\x<=b)) (ride:∀ x,a<=x->x<=b->f x=x+c)
  (un:∀ u∈R,u.2.1+1=a->u.2.2 ≠ c):Can lo P' f (R ++ [(a,b,c)]):=by
 refine ⟨List.pairwise_append.mpr ⟨h.srt,List.pairwise_singleton _ _,fun u hu v hv=>?_⟩,fun w hw=>?_,fun x x0 x1 x2=>?_⟩
 ·rw [List.mem_singleton] at hv
  subst hv
  have m:=h.mem u hu
  exact ⟨by show u.2.1 < a; omega,un u hu⟩
 ·rcases List.mem_append.mp hw with hw | hw
  ·obtain ⟨m0,m1,m2,m3⟩:=h.mem w hw
   exact ⟨m0,m1,by omega,m3⟩
  ·rw [List.mem_singleton] at hw
   subst hw
   exact ⟨by show lo<=a; omega,ab,bp,fun x x1 x2=>by
    have x1':a<=x:=x1
    have x2':x<=b:=x2
    exact ⟨ride x x1 x2,(dep x (by omega) (by omega)).mpr ⟨x1,x2⟩⟩⟩
 ·rcases Int.lt_or_le x P with z | z
  ·obtain ⟨w,hw,w1⟩:=h.cov x x0 z x2
   exact ⟨w,List.mem_append_left _ hw,w1⟩
  ·exact ⟨(a,b,c),List.mem_append_right _ (List.mem_singleton.mpr rfl),(dep x z x1).mp x2⟩
theorem Can.step (h:Can lo P f R) (l0:lo<=P) (pa:P<=a) (bp:b < P') (hp:P<=P') (dep:∀ x,P<=x->x < P'->(f x < f (x+1)↔a<=x/\x<=b)) (ride:∀ x,a<=x->x<=b->f x=x+c):Can lo P' f (putW R a b c):=by
 unfold putW
 split
 ·rename_i ba
  refine ⟨h.srt,fun w hw=>?_,fun x x0 x1 x2=>?_⟩
  ·obtain ⟨m0,m1,m2,m3⟩:=h.mem w hw
   exact ⟨m0,m1,by omega,m3⟩
  ·rcases Int.lt_or_le x P with z | z
   ·exact h.cov x x0 z x2
   ·have:=(dep x z x1).mp x2
    omega
 ·rename_i ab
  split
  ·rename_i l hl
   obtain ⟨R0,rfl⟩:∃ R0,R=R0 ++ [l]:=by
    obtain ⟨R0,e⟩:=List.getLast?_eq_some_iff.mp hl
    exact ⟨R0,e⟩
   have s:=List.pairwise_append.mp h.srt
   split
   ·rename_i tc
    rw [List.dropLast_concat]
    have ml:=h.mem l (List.mem_append_right _ (List.mem_singleton.mpr rfl))
    refine ⟨List.pairwise_append.mpr ⟨s.1,List.pairwise_singleton _ _,fun u hu v hv=>?_⟩,fun w hw=>?_,fun x x0 x1 x2=>?_⟩
    ·rw [List.mem_singleton] at hv
     subst hv
     have q:=s.2.2 u hu l (List.mem_singleton.mpr rfl)
     rw [<- tc.2]
     exact q
    ·rcases List.mem_append.mp hw with hw | hw
     ·obtain ⟨m0,m1,m2,m3⟩:=h.mem w (List.mem_append_left _ hw)
      exact ⟨m0,m1,by omega,m3⟩
     ·rw [List.mem_singleton] at hw
      subst hw
      obtain ⟨m0,m1,m2,m3⟩:=ml
      refine ⟨m0,by show l.1<=b; omega,bp,fun x x1 x2=>?_⟩
      have x1':l.1<=x:=x1
      have x2':x<=b:=x2
      show f x=x+c/\f x < f (x+1)
      rcases Int.lt_or_le l.2.1 x with z | z
      ·exact ⟨ride x (by omega) x2',(dep x (by omega) (by omega)).mpr ⟨by omega,x2'⟩⟩
      ·rw [<- tc.2]
       exact m3 x x1' z
    ·rcases Int.lt_or_le x P with z | z
     ·obtain ⟨w,hw,w1,w2⟩:=h.cov x x0 z x2
      rcases List.mem_append.mp hw with hw | hw
      ·exact ⟨w,List.mem_append_left _ hw,w1,w2⟩
      ·rw [List.mem_singleton] at hw
       subst hw
       exact ⟨_,List.mem_append_right _ (List.mem_singleton.mpr rfl),w1,by show x<=b; omega⟩
     ·have q:=(dep x z x1).mp x2
      exact ⟨_,List.mem_append_right _ (List.mem_singleton.mpr rfl),by show l.1<=x; have:=ml.2.1; omega,q.2⟩
   ·rename_i tc
    refine h.app l0 pa (by omega) bp dep ride fun u hu e=>?_
    rcases List.mem_append.mp hu with hu | hu
    ·have q:=s.2.2 u hu l (List.mem_singleton.mpr rfl)
     have ml:=h.mem l (List.mem_append_right _ (List.mem_singleton.mpr rfl))
     omega
    ·rw [List.mem_singleton] at hu
     subst hu
     exact fun e2=>tc ⟨e,e2⟩
  ·rename_i hl
   have e:=List.getLast?_eq_none_iff.mp hl
   subst e
   exact h.app l0 pa (by omega) bp dep ride fun u hu=>by cases hu
end
noncomputable def tell (r:T4) (x:Int):Int:=if r.2.2.1=true then r.2.2.2 else x+r.2.2.2
noncomputable def ftold (r:T4):Int:=if r.2.2.1=true then r.2.2.2 else r.1+r.2.2.2
theorem ftold_eq (r:T4):ftold r=tell r r.1:=rfl
noncomputable def cfStep (fo:Int) (r:T4) (R:List T3):List T3 :=
 if r.2.2.1=true then putW R r.2.1 (if r.2.2.2 < fo then r.2.1 else r.2.1 - 1) (r.2.2.2 - r.2.1)
 else putW R r.1 (if r.2.1+r.2.2.2 < fo then r.2.1 else r.2.1 - 1) r.2.2.2
theorem cfStep_len (fo:Int) (r:T4) (R:List T3):(cfStep fo r R).length<=R.length+1:=by
 unfold cfStep
 split <;> exact putW_len ..
theorem Can.row {lo P:Int} {f:Int->Int} {R:List T3} (h:Can lo P f R) (l0:lo<=P) (r:T4) (e:r.1=P) (le:r.1<=r.2.1) (tl:∀ x,r.1<=x->x<=r.2.1->f x=tell r x) :
  Can lo (r.2.1+1) f (cfStep (f (r.2.1+1)) r R):=by
 obtain ⟨p,q,s,v⟩:=r
 have e':p=P:=e
 subst e'
 have le':p<=q:=le
 have tl':∀ x,p<=x->x<=q->f x=if s=true then v else x+v:=tl
 unfold cfStep
 show Can lo (q+1) f (if s=true then putW R q (if v < f (q+1) then q else q - 1) (v - q) else putW R p (if q+v < f (q+1) then q else q - 1) v)
 cases s with
 | true =>
  rw [if_pos rfl]
  have t0:∀ x,p<=x->x<=q->f x=v:=fun x h1 h2=>by have:=tl' x h1 h2; rw [if_pos rfl] at this; exact this
  refine h.step l0 le' (by split <;> omega) (by omega) (fun x x0 x1=>?_) fun x x0 x1=>?_
  ·rcases (by omega:x < q\/x=q) with z | z
   ·have:=t0 x x0 (by omega)
    have:=t0 (x+1) (by omega) (by omega)
    constructor
    ·intro; omega
    ·rintro ⟨h1,h2⟩; omega
   ·subst z
    rw [t0 x x0 (Int.le_refl _)]
    constructor
    ·intro z
     rw [if_pos z]
     exact ⟨Int.le_refl _,Int.le_refl _⟩
    ·intro z9;obtain ⟨_,z⟩ := z9
     split at z
     ·assumption
     ·omega
  ·have x1':x<=q:=by split at x1 <;> omega
   have:=t0 x (by omega) x1'
   omega
 | false =>
  rw [if_neg (by decide)]
  have t0:∀ x,p<=x->x<=q->f x=x+v:=fun x h1 h2=>by have:=tl' x h1 h2; rw [if_neg (by decide)] at this; exact this
  refine h.step l0 (Int.le_refl _) (by split <;> omega) (by omega) (fun x x0 x1=>?_) fun x x0 x1=>?_
  ·rcases (by omega:x < q\/x=q) with z | z
   ·have:=t0 x x0 (by omega)
    have:=t0 (x+1) (by omega) (by omega)
    constructor
    ·intro
     refine ⟨x0,?_⟩
     split <;> omega
    ·intro; omega
   ·subst z
    rw [t0 x x0 (Int.le_refl _)]
    constructor
    ·intro z
     rw [if_pos z]
     exact ⟨x0,Int.le_refl _⟩
    ·intro z9;obtain ⟨_,z⟩ := z9
     split at z
     ·assumption
     ·omega
  ·exact t0 x x0 (by split at x1 <;> omega)
noncomputable def Cov (f:Int->Int):Int->List T4->Int->Prop
 | lo,[],hi=>lo=hi
 | lo,r :: S,hi=>r.1=lo/\r.1<=r.2.1/\(∀ x,r.1<=x->x<=r.2.1->f x=tell r x)/\Cov f (r.2.1+1) S hi
theorem Cov.le {f:Int->Int}:∀ {S:List T4} {lo hi:Int},Cov f lo S hi->lo<=hi
 | [],lo,hi,h=>by have:lo=hi:=h; omega
 | r :: S,lo,hi,⟨h1,h2,_,h4⟩=>by have:=Cov.le h4; omega
theorem Cov.append {f:Int->Int}:∀ {S S':List T4} {lo mid hi:Int},Cov f lo S mid->Cov f mid S' hi->Cov f lo (S ++ S') hi
 | [],S',lo,mid,hi,h,h'=>by
  have:lo=mid:=h
  subst this
  exact h'
 | r :: S,S',lo,mid,hi,⟨h1,h2,h3,h4⟩,h'=>⟨h1,h2,h3,Cov.append h4 h'⟩
theorem Cov.one {f:Int->Int} {r:T4} (h:r.1<=r.2.1) (t:∀ x,r.1<=x->x<=r.2.1->f x=tell r x):Cov f r.1 [r] (r.2.1+1):=⟨rfl,h,t,rfl⟩
theorem Cov.get {f:Int->Int}:∀ {S:List T4} {lo hi:Int} {k:Nat} {r:T4},Cov f lo S hi->S[k]?=some r->lo<=r.1/\r.1<=r.2.1/\r.2.1 < hi/\(∀ x,r.1<=x->x<=r.2.1->f x=tell r x) /\
  (k=0->r.1=lo)/\(∀ r',S[k+1]?=some r'->r'.1=r.2.1+1)/\(k+1=S.length->r.2.1+1=hi)
 | [],_,_,_,_,_,e=>by simp at e
 | r0 :: S,lo,hi,0,r,⟨h1,h2,h3,h4⟩,e=>by
  have e':r0=r:=by simpa using e
  subst e'
  have l:=Cov.le h4
  refine ⟨by omega,h2,by omega,h3,fun _=>h1,fun r' e'=>?_,fun e'=>?_⟩
  ·have e2:S[0]?=some r':=by simpa using e'
   exact (Cov.get h4 e2).2.2.2.2.1 rfl
  ·have:S=[]:=by
    simp at e'
    exact e'
   subst this
   exact h4
 | r0 :: S,lo,hi,k+1,r,⟨h1,h2,h3,h4⟩,e=>by
  have e2:S[k]?=some r:=by simpa using e
  obtain ⟨g1,g2,g3,g4,g5,g6,g7⟩:=Cov.get h4 e2
  refine ⟨by omega,g2,g3,g4,fun z=>by omega,fun r' e'=>g6 r' (by simpa using e'),fun e'=>g7 (by simp at e'; omega)⟩
theorem Cov.find {f:Int->Int}:∀ {S:List T4} {lo hi x:Int},Cov f lo S hi->lo<=x->x < hi->∃ (k:Nat) (r:T4),S[k]?=some r/\r.1<=x/\x<=r.2.1
 | [],lo,hi,x,h,h1,h2=>by have:lo=hi:=h; omega
 | r :: S,lo,hi,x,⟨h1,h2,h3,h4⟩,x0,x1=>by
  rcases Int.lt_or_le r.2.1 x with z | z
  ·obtain ⟨k,r',e,e1⟩:=Cov.find h4 (by omega) x1
   exact ⟨k+1,r',by simpa using e,e1⟩
  ·exact ⟨0,r,rfl,by omega,z⟩
noncomputable def cfo (d:Int) (S:List T4) (k:Nat):Int:=match S[k+1]? with
 | some r=>ftold r
 | none=>d+(match S[0]? with
  | some r=>ftold r
  | none=>0)
theorem cfo_eq {d:Int} {f:Int->Int} {S:List T4} {k:Nat} {r:T4} (h:Cov f 0 S d) (per:∀ t,f (t+d)=f t+d) (e:S[k]?=some r):cfo d S k=f (r.2.1+1):=by
 obtain ⟨g1,g2,g3,g4,g5,g6,g7⟩:=h.get e
 have hk:=(List.getElem?_eq_some_iff.mp e).1
 unfold cfo
 cases e1:S[k+1]? with
 | some r' =>
  have q:=g6 r' e1
  obtain ⟨_,g2',_,g4',_⟩:=h.get e1
  show ftold r'=_
  rw [ftold_eq,<- g4' r'.1 (Int.le_refl _) g2',q]
 | none =>
  have el:k+1=S.length:=by
   have:=List.getElem?_eq_none_iff.mp e1
   omega
  have q:=g7 el
  have h0:0 < S.length:=by omega
  obtain ⟨_,g2',_,g4',g5',_⟩:=h.get (List.getElem?_eq_getElem h0)
  rw [List.getElem?_eq_getElem h0]
  show d+ftold S[0]=_
  rw [ftold_eq,<- g4' _ (Int.le_refl _) g2',g5' rfl,q]
  have:=per 0
  rw [Int.zero_add] at this
  omega
noncomputable def stStep (acc:List T4 × Int) (w:T3):List T4 × Int:=((if acc.2 < w.1 then acc.1 ++ [(acc.2,w.1 - 1,true,w.1+w.2.2)] else acc.1) ++ [(w.1,w.2.1,false,w.2.2)],w.2.1+1)
noncomputable def stPre (R:List T3):List T4 × Int:=R.foldl stStep ([],0)
theorem stPre_snoc (R:List T3) (w:T3):stPre (R ++ [w])=stStep (stPre R) w:=by
 unfold stPre
 rw [List.foldl_append]
 rfl
noncomputable def strOf (d:Int) (R:List T3):List T4:=if 0 < (stPre R).1.length/\(stPre R).2 < d then (stPre R).1 ++ [((stPre R).2,d - 1,true,d+rA R 0+rC R 0)] else (stPre R).1
theorem stPre_len (R:List T3):(stPre R).1.length<=2 * R.length/\(R ≠ []->0 < (stPre R).1.length):=by
 refine snoc_ind (p:=fun R=>(stPre R).1.length<=2 * R.length/\(R ≠ []->0 < (stPre R).1.length)) ⟨by simp [stPre],fun h=>absurd rfl h⟩ (fun R w ih=>?_) R
 rw [stPre_snoc]
 unfold stStep
 refine ⟨?_,fun _=>by simp⟩
 simp only [List.length_append,List.length_singleton]
 split
 ·simp only [List.length_append,List.length_singleton]; omega
 ·omega
theorem strOf_len (d:Int) (R:List T3):(strOf d R).length<=2 * R.length+1:=by
 have:=(stPre_len R).1
 unfold strOf
 split
 ·simp only [List.length_append,List.length_singleton]; omega
 ·omega
section
variable {d:Int} {R:List T3} {f:Int->Int}
theorem st_cov (h:CK d R) (T:Tells d R f):∀ R1 R2,R=R1 ++ R2->Cov f 0 (stPre R1).1 (stPre R1).2/\0<=(stPre R1).2/\(stPre R1).2<=d/\(∀ u∈R1,u.2.1 < (stPre R1).2)/\(∀ v∈R2,(stPre R1).2<=v.1):=by
 have C:=h.can T
 have r:=h.rise T
 have d0:=h.d0
 refine snoc_ind (p:=fun R1=>∀ R2,R=R1 ++ R2->Cov f 0 (stPre R1).1 (stPre R1).2/\0<=(stPre R1).2/\(stPre R1).2<=d/\(∀ u∈R1,u.2.1 < (stPre R1).2)/\(∀ v∈R2,(stPre R1).2<=v.1)) (fun R2 e=>?_) fun R1 w ih R2 e=>?_
 ·refine ⟨rfl,Int.le_refl _,by show (0:Int)<=d; omega,(fun u hu=>by cases hu),fun v hv=>?_⟩
  exact (h.win v (by rw [e]; exact hv)).1
 ·have e':R=R1 ++ (w :: R2):=by rw [e]; simp
  obtain ⟨c,p0,pd,pu,pv⟩:=ih (w :: R2) e'
  have hw:w∈R:=by rw [e']; simp
  obtain ⟨w0,w1,w2,w3⟩:=h.win w hw
  have pw:=pv w (List.mem_cons_self ..)
  have srt:=h.srt
  rw [e'] at srt
  have s2:=List.pairwise_cons.mp (List.pairwise_append.mp srt).2.1
  rw [stPre_snoc]
  unfold stStep
  generalize (stPre R1).1=S at *
  generalize (stPre R1).2=p at *
  have mw:=(C.mem w hw).2.2.2
  have fa:=(mw w.1 (Int.le_refl _) w1).1
  refine ⟨?_,by show 0<=w.2.1+1; omega,by show w.2.1+1<=d; omega,fun u hu=>?_,fun v hv=>?_⟩
  ·have last:Cov f w.1 [(w.1,w.2.1,false,w.2.2)] (w.2.1+1):=Cov.one (r:=(w.1,w.2.1,false,w.2.2)) w1 fun x x0 x1=>by
    rw [(mw x x0 x1).1]
    rfl
   show Cov f 0 ((if p < w.1 then S ++ [(p,w.1 - 1,true,w.1+w.2.2)] else S) ++ [(w.1,w.2.1,false,w.2.2)]) (w.2.1+1)
   split
   ·rename_i z
    refine Cov.append (Cov.append c (mid:=p) (hi:=w.1) ?_) last
    have e1:w.1 - 1+1=w.1:=by omega
    have:=Cov.one (f:=f) (r:=(p,w.1 - 1,true,w.1+w.2.2)) (by show p<=w.1 - 1; omega) fun x x0 x1=>?_
    ·rw [e1] at this
     exact this
    ·have x0':p<=x:=x0
     have x1':x<=w.1 - 1:=x1
     show f x=w.1+w.2.2
     rw [<- fa]
     refine const_to r.mono (by omega) fun y y0 y1 yd=>?_
     obtain ⟨u,hu,u1,u2⟩:=C.cov y (by omega) (by omega) yd
     rw [e'] at hu
     rcases List.mem_append.mp hu with hu | hu
     ·have:=pu u hu
      omega
     ·rcases List.mem_cons.mp hu with rfl | hu
      ·omega
      ·have:=(s2.1 u hu).1
       omega
   ·rename_i z
    have:p=w.1:=by omega
    subst this
    exact Cov.append c last
  ·show u.2.1 < w.2.1+1
   rcases List.mem_append.mp hu with hu | hu
   ·have:=pu u hu
    omega
   ·rw [List.mem_singleton] at hu
    subst hu
    omega
  ·have:=(s2.1 v hv).1
   show w.2.1+1<=v.1
   omega
theorem str_cov (h:CK d R) (T:Tells d R f):Cov f 0 (strOf d R) d:=by
 obtain ⟨c,p0,pd,pu,pv⟩:=st_cov h T R [] (by simp)
 have C:=h.can T
 have r:=h.rise T
 have ne:=(stPre_len R).2 T.ne
 unfold strOf
 generalize (stPre R).1=S at *
 generalize (stPre R).2=p at *
 split
 ·rename_i z
  refine Cov.append c ?_
  have e1:d - 1+1=d:=by omega
  have:=Cov.one (f:=f) (r:=(p,d - 1,true,d+rA R 0+rC R 0)) (by show p<=d - 1; omega) fun x x0 x1=>?_
  ·rw [e1] at this
   exact this
  ·have x0':p<=x:=x0
   have x1':x<=d - 1:=x1
   show f x=d+rA R 0+rC R 0
   have hn:0 < R.length:=List.length_pos_iff.mpr T.ne
   have m0:=C.mem _ (get_mem hn)
   have f0:f (rA R 0)=rA R 0+rC R 0:=(m0.2.2.2 (rA R 0) (Int.le_refl _) m0.2.1).1
   have a0:(0:Int)<=rA R 0:=m0.1
   have z0:f 0=f (rA R 0):=const_to r.mono a0 fun y y0 y1 yd=>by
    have q:=m0.2.2.1
    have q1:=m0.2.1
    obtain ⟨u,hu,u1,u2⟩:=C.cov y y0 (by omega) yd
    obtain ⟨i,hi,e1,e2,e3⟩:=mem_get hu
    rcases Nat.eq_zero_or_pos i with e | e
    ·subst e; omega
    ·have:=(pw_get h.srt e hi).1
     omega
   have z1:f x=f d:=const_to r.mono (by omega) fun y y0 y1 yd=>by
    obtain ⟨u,hu,u1,u2⟩:=C.cov y (by omega) y1 yd
    have:=pu u hu
    omega
   have:=r.per 0
   rw [Int.zero_add] at this
   omega
 ·rename_i z
  have:p=d:=by omega
  subst this
  exact c
end
end Ma
namespace Ma
noncomputable abbrev T6:=Int × Int × Bool × Int × Bool × Int
noncomputable def tl (s:Bool) (v x:Int):Int:=if s=true then v else x+v
noncomputable def Cov2 (f g:Int->Int):Int->List T6->Int->Prop
 | lo,[],hi=>lo=hi
 | lo,r :: S,hi=>r.1=lo/\r.1<=r.2.1/\(∀ x,r.1<=x->x<=r.2.1->f x=tl r.2.2.1 r.2.2.2.1 x/\g x=tl r.2.2.2.2.1 r.2.2.2.2.2 x)/\Cov2 f g (r.2.1+1) S hi
theorem Cov2.le {f g:Int->Int}:∀ {S:List T6} {lo hi:Int},Cov2 f g lo S hi->lo<=hi
 | [],lo,hi,h=>by have:lo=hi:=h; omega
 | r :: S,lo,hi,⟨h1,h2,_,h4⟩=>by have:=Cov2.le h4; omega
theorem Cov2.snoc {f g:Int->Int} {r:T6} (h2:r.1<=r.2.1) (h3:∀ x,r.1<=x->x<=r.2.1->f x=tl r.2.2.1 r.2.2.2.1 x/\g x=tl r.2.2.2.2.1 r.2.2.2.2.2 x):∀ {S:List T6} {lo:Int},Cov2 f g lo S r.1->Cov2 f g lo (S ++ [r]) (r.2.1+1)
 | [],lo,h=>by
  have:lo=r.1:=h
  subst this
  exact ⟨rfl,h2,h3,rfl⟩
 | r0 :: S,lo,⟨a1,a2,a3,a4⟩=>⟨a1,a2,a3,Cov2.snoc h2 h3 a4⟩
theorem Cov2.get {f g:Int->Int}:∀ {S:List T6} {lo hi:Int} {k:Nat} {r:T6},Cov2 f g lo S hi->S[k]?=some r->lo<=r.1/\r.1<=r.2.1/\r.2.1 < hi/\(∀ x,r.1<=x->x<=r.2.1->f x=tl r.2.2.1 r.2.2.2.1 x/\g x=tl r.2.2.2.2.1 r.2.2.2.2.2 x) /\
  (k=0->r.1=lo)/\(∀ r',S[k+1]?=some r'->r'.1=r.2.1+1)/\(k+1=S.length->r.2.1+1=hi)
 | [],_,_,_,_,_,e=>by simp at e
 | r0 :: S,lo,hi,0,r,⟨h1,h2,h3,h4⟩,e=>by
  have e':r0=r:=by simpa using e
  subst e'
  have l:=Cov2.le h4
  refine ⟨by omega,h2,by omega,h3,fun _=>h1,fun r' e'=>?_,fun e'=>?_⟩
  ·have e2:S[0]?=some r':=by simpa using e'
   exact (Cov2.get h4 e2).2.2.2.2.1 rfl
  ·have:S=[]:=by
    simp at e'
    exact e'
   subst this
   exact h4
 | r0 :: S,lo,hi,k+1,r,⟨h1,h2,h3,h4⟩,e=>by
  have e2:S[k]?=some r:=by simpa using e
  obtain ⟨g1,g2,g3,g4,g5,g6,g7⟩:=Cov2.get h4 e2
  refine ⟨by omega,g2,g3,g4,fun z=>by omega,fun r' e'=>g6 r' (by simpa using e'),fun e'=>g7 (by simp at e'; omega)⟩
noncomputable def jn (late:Bool) (x y:Int):Int:=if late=true then (if y > x then y else x) else (if y < x then y else x)
theorem jn_comm (late:Bool) (x y:Int):jn late x y=jn late y x:=by
 unfold jn
 split
 ·split <;> split <;> omega
 ·split <;> split <;> omega
theorem jn_add (late:Bool) (x y d:Int):jn late (x+d) (y+d)=jn late x y+d:=by
 unfold jn
 split
 ·split <;> split <;> omega
 ·split <;> split <;> omega
theorem rise_jn {d:Int} {f g:Int->Int} (late:Bool) (rf:Rise d f) (rg:Rise d g):Rise d fun x=>jn late (f x) (g x):=by
 refine ⟨fun t=>?_,fun t u l=>?_,fun t=>?_⟩
 ·have:=rf.ge t
  have:=rg.ge t
  unfold jn
  split <;> split <;> omega
 ·have:=rf.mono t u l
  have:=rg.mono t u l
  unfold jn
  split
  ·split <;> split <;> omega
  ·split <;> split <;> omega
 ·show jn late (f (t+d)) (g (t+d))=_
  rw [rf.per,rg.per,jn_add]
noncomputable def pickL (p q wt rd:Int) (late:Bool):List T4 :=
 (if p<=(if wt - rd < q then wt - rd else q) then [(p,(if wt - rd < q then wt - rd else q),late,if late=true then wt else rd)] else []) ++
 (if (if wt - rd+1 > p then wt - rd+1 else p)<=q then [((if wt - rd+1 > p then wt - rd+1 else p),q,!late,if late=true then rd else wt)] else [])
theorem pick_cov {p q wt rd:Int} {late:Bool} {h:Int->Int} (pq:p<=q) (hh:∀ x,p<=x->x<=q->h x=jn late wt (x+rd)):Cov h p (pickL p q wt rd late) (q+1):=by
 have lo:∀ x,p<=x->x<=q->x<=wt - rd->h x=tl late (if late=true then wt else rd) x:=fun x x0 x1 x2=>by
  rw [hh x x0 x1]
  unfold jn tl
  cases late
  ·simp only [Bool.false_eq_true,if_false]; split <;> omega
  ·simp only [if_true]; split <;> omega
 have hi:∀ x,p<=x->x<=q->wt - rd < x->h x=tl (!late) (if late=true then rd else wt) x:=fun x x0 x1 x2=>by
  rw [hh x x0 x1]
  unfold jn tl
  cases late
  ·simp only [Bool.false_eq_true,if_false,Bool.not_false,if_true]; split <;> omega
  ·simp only [if_true,Bool.not_true,Bool.false_eq_true,if_false]; split <;> omega
 unfold pickL
 rcases (by omega:wt - rd < p\/(p<=wt - rd/\wt - rd < q)\/q<=wt - rd) with z | z | z
 ·rw [if_pos (show wt - rd < q by omega),if_neg (show ¬ p<=wt - rd by omega),if_neg (show ¬ wt - rd+1 > p by omega),if_pos pq,List.nil_append]
  exact Cov.one (r:=(p,q,!late,if late=true then rd else wt)) pq fun x x0 x1=>hi x x0 x1 (by have:p<=x:=x0; omega)
 ·rw [if_pos z.2,if_pos z.1]
  have hm:(if wt - rd+1 > p then wt - rd+1 else p)=wt - rd+1:=if_pos (by omega)
  rw [hm,if_pos (show wt - rd+1<=q by omega)]
  refine Cov.append (mid:=wt - rd+1) ?_ ?_
  ·exact Cov.one (r:=(p,wt - rd,late,if late=true then wt else rd)) z.1 fun x x0 x1=>lo x x0 (by have:x<=wt - rd:=x1; omega) x1
  ·exact Cov.one (r:=(wt - rd+1,q,!late,if late=true then rd else wt)) (by show wt - rd+1<=q; omega) fun x x0 x1=>hi x (by have:wt - rd+1<=x:=x0; omega) x1 (by have:wt - rd+1<=x:=x0; omega)
 ·rw [if_neg (show ¬ wt - rd < q by omega),if_pos pq]
  have hm:¬ (if wt - rd+1 > p then wt - rd+1 else p)<=q:=by split <;> omega
  rw [if_neg hm,List.append_nil]
  exact Cov.one (r:=(p,q,late,if late=true then wt else rd)) pq fun x x0 x1=>lo x x0 x1 (by have:x<=q:=x1; omega)
theorem pick_len (p q wt rd:Int) (late:Bool):(pickL p q wt rd late).length<=2:=by
 unfold pickL
 rw [List.length_append]
 have one:∀ (c:Prop) [Decidable c] (x:T4),(if c then [x] else []).length<=1:=fun c _ x=>by split <;> simp
 exact Nat.add_le_add (one _ _) (one _ _)
noncomputable def joinRow (late:Bool) (r:T6):List T4 :=
 if r.2.2.1=r.2.2.2.2.1 then [(r.1,r.2.1,r.2.2.1,jn late r.2.2.2.1 r.2.2.2.2.2)]
 else if r.2.2.1=true then pickL r.1 r.2.1 r.2.2.2.1 r.2.2.2.2.2 late else pickL r.1 r.2.1 r.2.2.2.2.2 r.2.2.2.1 late
theorem joinRow_len (late:Bool) (r:T6):(joinRow late r).length<=2:=by
 unfold joinRow
 split
 ·simp
 ·split <;> exact pick_len ..
theorem joinRow_cov {late:Bool} {r:T6} {f g:Int->Int} (pq:r.1<=r.2.1) (h:∀ x,r.1<=x->x<=r.2.1->f x=tl r.2.2.1 r.2.2.2.1 x/\g x=tl r.2.2.2.2.1 r.2.2.2.2.2 x) :
  Cov (fun x=>jn late (f x) (g x)) r.1 (joinRow late r) (r.2.1+1):=by
 obtain ⟨p,q,s,v,s',v'⟩:=r
 have h':∀ x,p<=x->x<=q->f x=tl s v x/\g x=tl s' v' x:=h
 unfold joinRow
 show Cov _ p (if s=s' then [(p,q,s,jn late v v')] else if s=true then pickL p q v v' late else pickL p q v' v late) (q+1)
 by_cases e:s=s'
 ·rw [if_pos e]
  subst e
  refine Cov.one (r:=(p,q,s,jn late v v')) pq fun x x0 x1=>?_
  obtain ⟨e1,e2⟩:=h' x x0 x1
  show jn late (f x) (g x)=tl s (jn late v v') x
  rw [e1,e2]
  unfold tl
  cases s
  ·simp only [Bool.false_eq_true,if_false]
   have:=jn_add late v v' x
   rw [Int.add_comm v x,Int.add_comm v' x] at this
   omega
  ·simp
 ·rw [if_neg e]
  cases s with
  | true =>
   have e':s'=false:=by cases s' with | true=>exact absurd rfl e | false=>rfl
   subst e'
   rw [if_pos rfl]
   refine pick_cov pq fun x x0 x1=>?_
   obtain ⟨e1,e2⟩:=h' x x0 x1
   show jn late (f x) (g x)=_
   rw [e1,e2]
   rfl
  | false =>
   have e':s'=true:=by cases s' with | false=>exact absurd rfl e | true=>rfl
   subst e'
   rw [if_neg (by decide)]
   refine pick_cov pq fun x x0 x1=>?_
   obtain ⟨e1,e2⟩:=h' x x0 x1
   show jn late (f x) (g x)=_
   rw [e1,e2,jn_comm]
   rfl
noncomputable def omin:Option Int->Option Int->Option Int
 | none,b=>b
 | a,none=>a
 | some x,some y=>some (jn false x y)
theorem bt_append (d:Int) (R R':List T3) (t:Int):bt d (R ++ R') t=omin (bt d R t) (bt d R' t):=by
 rcases bt_spec d t R with ⟨rfl,e⟩ | ⟨y,e,m⟩
 ·rw [e,List.nil_append]
  cases bt d R' t <;> rfl
 ·rcases bt_spec d t R' with ⟨rfl,e'⟩ | ⟨y',e',m'⟩
  ·rw [e',e,List.append_nil,e]
   rfl
  ·rw [e,e']
   show _=some (jn false y y')
   refine IsMin.bt ⟨?_,fun w hw=>?_⟩
   ·unfold jn
    rw [if_neg (by decide)]
    split
    ·obtain ⟨w,hw,q⟩:=m'.at_
     exact ⟨w,List.mem_append_right _ hw,q⟩
    ·obtain ⟨w,hw,q⟩:=m.at_
     exact ⟨w,List.mem_append_left _ hw,q⟩
   ·unfold jn
    rw [if_neg (by decide)]
    rcases List.mem_append.mp hw with hw | hw
    ·have:=m.le w hw
     split <;> omega
    ·have:=m'.le w hw
     split <;> omega
theorem Tells.min {d:Int} {R R':List T3} {f g:Int->Int} (h:Tells d R f) (h':Tells d R' g) (t:Int):omin (bt d R t) (bt d R' t)=some (jn false (f t) (g t)):=by rw [h t,h' t]; rfl
theorem ck_one {d:Int} (hd:0 < d) {w:T3} (h:0<=w.1/\w.1<=w.2.1/\w.2.1 < d/\0<=w.2.2):CK d [w]:=by
 refine ⟨hd,fun u hu=>?_,List.pairwise_singleton _ _,fun u hu v hv=>?_⟩
 ·rw [List.mem_singleton] at hu
  subst hu
  exact h
 ·rw [List.mem_singleton] at hu hv
  subst hu hv
  omega
end Ma
namespace Ma
theorem nodup_le {α:Type} [DecidableEq α]:∀ {l L:List α},l.Nodup->(∀ x∈l,x∈L)->l.length<=L.length
 | [],_,_,_=>Nat.zero_le _
 | x :: l,L,h,s=>by
  obtain ⟨L1,L2,rfl⟩:=List.append_of_mem (s x (List.mem_cons_self ..))
  have h':=List.nodup_cons.mp h
  have:=nodup_le (L:=L1 ++ L2) h'.2 fun y hy=>by
   have q:=s y (List.mem_cons_of_mem _ hy)
   rcases List.mem_append.mp q with q | q
   ·exact List.mem_append_left _ q
   ·rcases List.mem_cons.mp q with rfl | q
    ·exact absurd hy h'.1
    ·exact List.mem_append_right _ q
  simp only [List.length_cons,List.length_append] at *
  omega
theorem CK.starts {d:Int} {R:List T3} (h:CK d R):(R.map (·.1)).Nodup:=by
 refine List.pairwise_map.mpr (h.srt.imp_of_mem fun {u v} hu hv p=>?_)
 have:=(h.win u hu).2.1
 omega
section
variable {d:Int} {R R':List T3}
theorem at_open {f:Int->Int} {t:Int} (hd:0 < d) (W:Wins d R) (T:Tells d R f) (t0:0<=t) (t1:t < d) (lt:f t < f (t+1)):∃ u∈R,u.1<=t/\t<=u.2.1/\f t=t+u.2.2:=by
 obtain ⟨u,hu,e⟩:=(bt_min (T t)).at_
 obtain ⟨w0,w1,w2,w3⟩:=W u hu
 obtain ⟨k,k1,k2,k3,k4,k5⟩:=next_spec (t:=t) hd w0 w1 w2
 obtain ⟨k',m1,m2,m3,m4,m5⟩:=next_spec (t:=t+1) hd w0 w1 w2
 have le:=(bt_min (T (t+1))).le u hu
 rcases (by omega:nextO d u.1 u.2.1 t=t\/t+1<=nextO d u.1 u.2.1 t) with z | z
 ·rw [z] at k1 k2 e
  have:k=0:=by
   rcases (by omega:k < 0\/k=0\/0 < k) with y | y | y
   ·have:=mul_lt_step hd y
    omega
   ·exact y
   ·have:=mul_lt_step hd y
    omega
  subst this
  exact ⟨u,hu,by omega,by omega,e⟩
 ·have:=m5 k _ k1 k2 z
  omega
theorem start_at (h:CK d R') (W:Wins d R) {f:Int->Int} (T:Tells d R f) (T':Tells d R' f):∀ w∈R',w.1∈0 :: (R.map (·.1) ++ R.map (·.2.1+1)):=by
 intro w hw
 have C:=h.can T'
 obtain ⟨m0,m1,m2,m3⟩:=C.mem w hw
 have d0:=h.d0
 by_cases z:w.1=0
 ·rw [z]; exact List.mem_cons_self ..
 refine List.mem_cons_of_mem _ ?_
 obtain ⟨fa,fl⟩:=m3 w.1 (Int.le_refl _) m1
 obtain ⟨u,hu,u1,u2,u3⟩:=at_open d0 W T m0 (by omega) fl
 by_cases ea:w.1=u.1
 ·exact List.mem_append_left _ (List.mem_map.mpr ⟨u,hu,ea.symm⟩)
 refine List.mem_append_right _ ?_
 have r:=h.rise T'
 have open_le:∀ v∈R,∀ x,v.1<=x->x<=v.2.1->f x<=x+v.2.2:=fun v hv x x1 x2=>by
  obtain ⟨w0,w1,w2,w3⟩:=W v hv
  obtain ⟨k,k1,k2,k3,k4,k5⟩:=next_spec (t:=x) d0 w0 w1 w2
  have:=k5 0 x (by omega) (by omega) (Int.le_refl _)
  have:=(bt_min (T x)).le v hv
  omega
 have l1:=open_le u hu (w.1 - 1) (by omega) (by omega)
 have e1:w.1 - 1+1=w.1:=by omega
 have lt:f (w.1 - 1) < f (w.1 - 1+1):=by rw [e1]; omega
 have ne:f (w.1 - 1) ≠ w.1 - 1+u.2.2:=fun e=>by
  obtain ⟨w',hw',y1,y2⟩:=C.cov (w.1 - 1) (by omega) (by omega) lt
  obtain ⟨n0,n1,n2,n3⟩:=C.mem w' hw'
  have c':=(n3 _ y1 y2).1
  have apart:w'.2.1 < w.1:=by
   rcases (by omega:w'.2.1 < w.1\/w.1<=w'.2.1) with y | y
   ·exact y
   ·exfalso
    obtain ⟨i,hi,a1,a2,a3⟩:=mem_get hw
    obtain ⟨j,hj,b1,b2,b3⟩:=mem_get hw'
    rcases (by omega:i < j\/i=j\/j < i) with q | q | q
    ·have:rB R' i < rA R' j:=(pw_get h.srt q hj).1
     omega
    ·subst q
     omega
    ·have:rB R' j < rA R' i:=(pw_get h.srt q hi).1
     omega
  obtain ⟨i,hi,a1,a2,a3⟩:=mem_get hw
  obtain ⟨j,hj,b1,b2,b3⟩:=mem_get hw'
  rcases (by omega:i < j\/i=j\/j < i) with q | q | q
  ·have:rB R' i < rA R' j:=(pw_get h.srt q hj).1
   omega
  ·subst q
   omega
  ·have:=(pw_get h.srt q hi).2.2
   exact this (by show rB R' j+1=rA R' i; omega) (by show rC R' j=rC R' i; omega)
 obtain ⟨v,hv,v1,v2,v3⟩:=at_open d0 W T (by omega) (by omega) lt
 rcases (by omega:v.2.1=w.1 - 1\/w.1<=v.2.1) with y | y
 ·exact List.mem_map.mpr ⟨v,hv,by omega⟩
 ·have:=open_le v hv w.1 (by omega) y
  omega
theorem ck_len (h:CK d R') (W:Wins d R) (e:∀ t,bt d R' t=bt d R t):R'.length<=2 * R.length+1:=by
 by_cases n:R'=[]
 ·rw [n]; simp
 ·have T':=tells_bf (d:=d) n
  have T:Tells d R (bf d R'):=fun t=>by rw [<- e t]; exact T' t
  have:=nodup_le h.starts (L:=0 :: (R.map (·.1) ++ R.map (·.2.1+1))) fun x hx=>by
   obtain ⟨w,hw,rfl⟩:=List.mem_map.mp hx
   exact start_at h W T T' w hw
  simp only [List.length_map,List.length_cons,List.length_append] at this
  omega
end
end Ma
namespace Ma
theorem Cov.lt {f:Int->Int}:∀ {S:List T4} {lo hi:Int} {i j:Nat} {r r':T4},Cov f lo S hi->S[i]?=some r->S[j]?=some r'->i < j->r.2.1 < r'.1
 | [],_,_,_,_,_,_,_,e,_,_=>by simp at e
 | r0 :: S,lo,hi,0,j+1,r,r',⟨_,h2,h3,h4⟩,e,e',_=>by
  have e1:r0=r:=by simpa using e
  subst e1
  have e2:S[j]?=some r':=by simpa using e'
  have:=(Cov.get h4 e2).1
  omega
 | r0 :: S,lo,hi,i+1,j+1,r,r',⟨_,h2,h3,h4⟩,e,e',l=>Cov.lt h4 (by simpa using e) (by simpa using e') (by omega)
 | r0 :: S,lo,hi,i,0,r,r',_,_,_,l=>by omega
theorem Cov.congr {f g:Int->Int}:∀ {S:List T4} {lo hi:Int},(∀ x,lo<=x->x < hi->f x=g x)->Cov f lo S hi->Cov g lo S hi
 | [],_,_,_,h=>h
 | r :: S,lo,hi,e,⟨h1,h2,h3,h4⟩=>⟨h1,h2,fun x a b=>by
  have:=Cov.le h4
  rw [<- e x (by omega) (by omega)]; exact h3 x a b,Cov.congr (fun x a b=>e x (by omega) b) h4⟩
theorem rise_comp {d:Int} {f g:Int->Int} (rf:Rise d f) (rg:Rise d g):Rise d fun x=>g (f x):=by
 refine ⟨fun t=>?_,fun t u l=>rg.mono _ _ (rf.mono t u l),fun t=>?_⟩
 ·have:=rf.ge t
  have:=rg.ge (f t)
  show t<=g (f t)
  omega
 ·show g (f (t+d))=g (f t)+d
  rw [rf.per,rg.per]
noncomputable def rideRow (p e m ride:Int) (r:T4):T4:=if r.2.2.1=true then (p,e,true,m+r.2.2.2) else (p,e,false,ride+r.2.2.2)
theorem ride_cov {d:Int} {g:Int->Int} (rg:Rise d g) {r:T4} {p e m k ride:Int} (hm:m=d * k) (pe:p<=e) (h1:m+r.1<=p+ride) (h2:e+ride<=m+r.2.1) (t:∀ x,r.1<=x->x<=r.2.1->g x=tell r x) :
  Cov (fun x=>g (x+ride)) p [rideRow p e m ride r] (e+1):=by
 have gx:∀ x,p<=x->x<=e->g (x+ride)=m+tell r (x+ride - m):=fun x x0 x1=>by
  have q:=rg.mul (x+ride - m) k
  rw [<- hm] at q
  have e1:x+ride - m+m=x+ride:=by omega
  rw [e1] at q
  rw [q,t _ (by omega) (by omega)]
  omega
 unfold rideRow
 unfold tell at gx
 by_cases s:r.2.2.1=true
 ·rw [if_pos s]
  refine Cov.one (r:=(p,e,true,m+r.2.2.2)) pe fun x x0 x1=>?_
  show g (x+ride)=m+r.2.2.2
  rw [gx x x0 x1,if_pos s]
 ·rw [if_neg s]
  refine Cov.one (r:=(p,e,false,ride+r.2.2.2)) pe fun x x0 x1=>?_
  show g (x+ride)=x+(ride+r.2.2.2)
  rw [gx x x0 x1,if_neg s]
  omega
noncomputable def obind (a b:Int->Option Int) (t:Int):Option Int:=(a t).bind b
end Ma
namespace Ma
end Ma
namespace Ma
section
variable {d a b c:Int}
end
section
variable {d:Int} {R:List T3} {f:Int->Int}
end
end Ma
namespace Ma
section
variable {f g:Int->Int}
end
end Ma
namespace Ma
theorem nextO_eq (d a b t:Int) (h1:a<=b):nextO d a b t=if b < t % d then t+d+a - t % d else if t % d < a then t+a - t % d else t:=by
 unfold nextO
 split
 ·omega
 ·split <;> omega
end Ma
namespace L2
open PySem PySem.Spec PyProof.Rows
noncomputable def Ite (K:PySem.W.Frag) (a:Addr):It :=
 ⟨fun i H=>∃ xs x,SqL K H a xs/\xs[i]?=some x,
  fun i H v H'=>∃ p x,v=.ref p/\H p=none/\H'=upd H p (.tup [.int i,x])/\(∀ xs,SqL K H a xs->xs[i]?=some x),
  fun i H=>∃ xs,SqL K H a xs/\xs.length<=i⟩
theorem turn_enum {P:Program} {w:World} {K:PySem.W.Frag} {es:List Expr} {kk:Nat} {tp:Pos} {e it a:Addr} (D:e ≠ it):Turn P w K (.Tuple es kk tp) (Ite K a) [e,it] e
  (fun i h=>(∃ old,IsEnum h e it (i:Int) old)/\h.IsListIter it a i) where
 mem:=by simp
 obj:=fun i h st c hc=>by
  obtain ⟨⟨old,he⟩,⟨o1,e1,c1,d1⟩⟩:=st
  simp only [List.mem_cons,List.not_mem_nil,or_false] at hc
  rcases hc with rfl | rfl
  ·exact ⟨_,he,fun v q=>by cases (show Data.fields _=Data.cell v from q)⟩
  ·exact ⟨o1,e1,fun v q=>by rw [d1] at q; cases q⟩
 keep:=fun i h h' st k=>by
  obtain ⟨⟨old,he⟩,h1⟩:=st
  exact ⟨⟨old,k e (by simp) _ he⟩,h1.at fun o e=>k it (by simp) o e⟩
 item:=by
  intro X hP hw hK hc i pins s σ H E I hf st hg
  subst hP hw hK
  obtain ⟨xs,x,hq1,hx⟩:=hg
  obtain ⟨t1,rv1,p1,hz1⟩:=I.list hq1
  obtain ⟨u,hu,ru⟩:=rv1.get hx
  obtain ⟨⟨old,he⟩,h1⟩:=st
  refine wpAny_pyNext_enum_item he h1 p1.isList (x:=u) (by simpa using hu) D fun h' a1 a3 a5 a6 k=>?_
  have fresh:H s.heap.objs.size=none:=I.hok.fresh (Nat.le_refl _)
  have szn:∀ c o,s.heap.get? c=some o->c ≠ s.heap.objs.size:=fun c o e=>Nat.ne_of_lt (Heap.lt_size e)
  have I1:Inv X pins σ (upd H s.heap.objs.size (.tup [.int i,x])) { s with heap:=h' }:=by
   refine I.turnedL (ch:=[e,it]) (fun c hc=>hf c hc) (fun c o hc e=>?_) (fun c o e=>by rw [upd_ne (ne_of_none e fresh)]; exact e) (fun c o e n=>by rw [upd_ne (szn c o e)]; exact n) fun c o n e=>?_
   ·simp only [List.mem_cons,List.not_mem_nil,or_false,not_or] at hc
    exact k c o hc.1 hc.2 e
   ·by_cases ec:c=s.heap.objs.size
    ·rw [ec,upd_same] at e
     cases e
     rw [ec]
     exact ⟨by show 2<=sizeLine; decide,[.int i s.toks,u],.cons ⟨_,rfl⟩ (.cons ru .nil),_,a5,rfl,_,rfl⟩
    ·rw [upd_ne ec,n] at e
     cases e
  have I1':Inv X pins σ (upd H s.heap.objs.size (.tup [.int i,x])) { s with heap:=h',toks:=s.toks+1 }:=I1.tok _
  refine ⟨_,rfl,wpAny_letOwnedTupleGo_enum a1 fun h'' hz'' sb=>?_⟩
  have zf:=hf e (by simp)
  have zs:e ≠ s.heap.objs.size:=szn e _ he
  have I2:Inv X pins σ (upd H s.heap.objs.size (.tup [.int i,x])) { s with heap:=h'',toks:=s.toks+1 }:=Inv.turned (s:={ s with heap:=h',toks:=s.toks+1 }) (h':=h'') (t':=s.toks+1) (it:=e) I1' (fun c o hc e=>sb.extBut c o hc e) (by rw [upd_ne zs]; exact zf.1) zf.2.1 zf.2.2.2.1 zf.2.2.2.2.1 zf.2.2.2.2.2
  refine ⟨.ref s.heap.objs.size,_,I2,rfl,⟨_,x,rfl,fresh,rfl,fun xs' h=>by rw [I.list_inj h hq1]; exact hx⟩,?_,fun c hc=>?_⟩
  ·exact ⟨⟨_,hz''⟩,a3.extBut sb.extBut D.symm⟩
  ·have q:c ≠ s.heap.objs.size:=by
    obtain ⟨o1,e1,_⟩:=h1
    simp only [List.mem_cons,List.not_mem_nil,or_false] at hc
    rcases hc with rfl | rfl
    ·exact zs
    ·exact szn _ _ e1
   rw [upd_ne q]
   exact (hf c hc).1
 done:=by
  intro X hP hw hK hc i pins s σ H E I hf st hg
  subst hP hw hK
  obtain ⟨xs,hq1,hl⟩:=hg
  obtain ⟨t1,rv1,p1,hz1⟩:=I.list hq1
  have l1:=rv1.length
  obtain ⟨⟨old,he⟩,h1⟩:=st
  refine wpAny_pyNext_enum_end (I.ok.hd hc) he h1 p1.isList (by simp; omega) fun h' k=>⟨rfl,?_⟩
  refine I.turnedL (ch:=[e,it]) (fun c hc=>hf c hc) (fun c o hc e=>?_) (fun c o e=>e) (fun c o e n=>n) fun c o n e=>by rw [n] at e; cases e
  simp only [List.mem_cons,List.not_mem_nil,or_false,not_or] at hc
  exact k c o hc.2 e
 self:=fun _ _ _ _ _ st h=>by
  obtain ⟨⟨old,he⟩,_⟩:=st
  exact wpAny_pyIter_enum he h
noncomputable def iEnum (K:PySem.W.Frag) (ta:TA):TI:=fun σ H R=>ta σ H fun vs H1=>∃ l1,vs=[.ref l1]/\(∃ xs,SqL K H1 l1 xs)/\R (Ite K l1) H1
theorem boot_enum:bootBuiltins "enumerate" = some (.type "enumerate"):=by decide +kernel
section
variable {X:Cx}
theorem pi_enum {a:Expr} {ta:TA} {p pos tp:Pos} {es:List Expr} {kk:Nat} (hg:Gl X "enumerate") (hm:X.mg "enumerate" = none) (ha:PA X [a] ta) (hs:starEach [a] X.env=[(false,eval a X.env)]) :
  PI X (.Tuple es kk tp) (.Call (.Name "enumerate" p) [a] [] pos) (iEnum X.K ta):=by
 intro pins s σ H R I h
 refine Call_ (ld_blt I hg hm boot_enum (PyProof.Rows.callWith_type1 (thn (ha pos pins s σ H _ I h) fun us s1 ⟨vs,H1,I1,r1,q1⟩=>?_) (by rw [hs]; rfl) (by rfl)))
 obtain ⟨l1,e,⟨xs,hq1⟩,q⟩:=q1
 subst e
 cases r1 with
 | cons r rr =>
  cases rr
  cases r
  obtain ⟨t1,rv1,p1,hz1⟩:=I1.list hq1
  refine call_enumerate_list p1.isList fun h' hz hit1 hsz k=>wpAny_pyIter_enum hz ?_
  refine ⟨s1.heap.objs.size+1,[s1.heap.objs.size+1,s1.heap.objs.size],_,_,H1,rfl,I1.kept (t':=s1.toks) k,turn_enum (Nat.succ_ne_self _),⟨⟨_,hz⟩,hit1⟩,fun c hc=>?_,q⟩
  have ge:s1.heap.objs.size<=c:=by
   simp only [List.mem_cons,List.not_mem_nil,or_false] at hc
   rcases hc with rfl | rfl <;> omega
  exact I1.fpOk ge (I1.hok.fresh ge)
theorem qi_enum {a:Expr} {ta:TA} {p pos tp:Pos} {es:List Expr} {kk:Nat} (hg:Gl X "enumerate") (hm:X.mg "enumerate" = none) (ha:QA X [a] ta) (h:notStar a=true:=by rfl) :
  QI X (.Tuple es kk tp) (.Call (.Name "enumerate" p) [a] [] pos) (iEnum X.K ta):=⟨pi_enum hg hm ha.run (by rw [se_of h]; rfl)⟩
end
theorem for_enum {K:PySem.W.Frag} {a:Addr} {xs:List V} {g:TG} {tb:TS} {D:Ends} {σ:St} {H:Hp} (Pv:Nat->St->Hp->Prop) (h0:Pv 0 σ H) (hl:∀ i σ H,i<=xs.length->Pv i σ H->SqL K H a xs)
  (hs:∀ i x p σ H,xs[i]?=some x->Pv i σ H->H p=none->g (.ref p) σ (upd H p (.tup [.int i,x])) fun σ2 H2=>tb { D with nx:=Pv (i+1),ct:=Pv (i+1),bk:=D.nx } σ2 H2) (hd:∀ σ H,Pv xs.length σ H->D.nx σ H) :
  ∃ W:Nat->Nat->St->Hp->Prop,(∃ m,W 0 m σ H)/\∀ i m σ H,W i m σ H ->
   ((Ite K a).stop i H/\D.nx σ H)\/((Ite K a).go i H/\∃ N:St->Hp->Prop,(∀ σ' H',N σ' H'->∃ m',m' < m/\W (i+1) m' σ' H')/\∀ x H',(Ite K a).yld i H x H'->g x σ H' fun σ2 H2=>tb { D with nx:=N,ct:=N,bk:=D.nx } σ2 H2):=by
 refine ⟨fun i m σ H=>m=xs.length - i/\i<=xs.length/\Pv i σ H,⟨xs.length,by simp,Nat.zero_le _,h0⟩,?_⟩
 intro i m σ H z9;obtain ⟨rfl,hi,p⟩ := z9
 have q:=hl i σ H hi p
 by_cases hlt:i < xs.length
 ·refine .inr ⟨⟨xs,xs[i],q,by simp [hlt]⟩,Pv (i+1),fun σ' H' p'=>⟨xs.length - (i+1),by omega,rfl,hlt,p'⟩,fun x H' y=>?_⟩
  obtain ⟨c,x,e,fr,e2,y⟩:=y
  subst e e2
  exact hs i x c σ _ (y xs q) p fr
 ·have e:i=xs.length:=by omega
  subst e
  exact .inl ⟨⟨xs,q,Nat.le_refl _⟩,hd σ H p⟩
section
variable {X:Cx} {e o a:Expr} {es:List Expr} {to te:TE} {t:TA} {apos pos:Pos}
theorem qs_aug {i:Nat} {x:Str} {op:Operator} {ti:TIp} {pos':Pos} (hN:X.N.Nodup) (hi:X.N[i]?=some x) (hx:Loc X.env.scope x) (ho:PIp X op ti) (he:QE X e te) (hf:X.fn x=true\/X.env.scope.names.lookup x=some .local:=by first | exact .inl rfl | exact .inr rfl | assumption) :
  QS X (.AugAssign (.Name x pos') op e pos) (tAug i te ti):=⟨ps_aug hN hi hx he.run ho hf⟩
theorem qs_never {st:Stmt}:QS X st tNever:=⟨ps_never⟩
theorem qss_never {sts:List Stmt}:QSs X sts tNever:=⟨pss_never⟩
theorem qop_cat:QOp X (binaryOp .Add) rCat:=⟨op_cat⟩
theorem qe_extend (ho:QE X o to) (ha:QA X [e] t) (h:notStar e=true:=by rfl) (hbase:attributeBase o "extend" X.env (eval o X.env)=eval o X.env:=by rfl) (hline:(apos.endLine == pos.line)=true:=by rfl) :
  QE X (.Call (.Attribute o "extend" apos) [e] [] pos) (tBM X.K "list" rExtend to t) :=
 ⟨pe_bm PySem.F.plainAttrs_list PySem.F.slot_list_extend PySem.F.type_list_extend mt_extend ho.run ha.run hbase (by rw [se_of h]; rfl) hline (se_of h) rfl⟩
end
section
variable {lo:Int} {n:Nat} {caps:List (Option Nat)} {g:TG} {tt:TT} {te:TE} {σ:St} {H:Hp} {Q:VK}
theorem comp_range (Pv:Addr->Nat->Hp->Prop) (h0:∀ D,H D=none->Pv D 0 (upd H D (.lst [])))
  (hs:∀ D i H',H D=none->i < n->Pv D i H'->g (.int (lo+(i:Nat))) (seen caps σ) H' fun σ4 H4=>(∀ (k:Nat) v,(seen caps σ)[k]?=some (some v)->σ4[k]?=some (some v))/\tt σ4 H4 fun b H5 =>
   if b=true then te σ4 H5 fun y H6=>∃ ys,H6 D=some (.lst ys)/\ys.length < sizeLine/\Pv D (i+1) (upd H6 D (.lst (ys ++ [y]))) else Pv D (i+1) H5)
  (hd:∀ D H',H D=none->Pv D n H'->Q (.ref D) H'):cBody caps g tt te σ Q (Itr lo n) H:=by
 intro D hD
 refine ⟨fun i m H'=>m=n - i/\i<=n/\Pv D i H',⟨n,by simp,Nat.zero_le _,h0 D hD⟩,?_⟩
 intro i m H2 z9;obtain ⟨rfl,hi,p⟩ := z9
 by_cases hlt:i < n
 ·refine .inr ⟨hlt,Pv D (i+1),fun H' p'=>⟨n - (i+1),by omega,rfl,hlt,p'⟩,fun x H3 y=>?_⟩
  obtain ⟨e,y⟩:=y
  subst e y
  exact hs D i _ hD hlt p
 ·have e:i=n:=by omega
  subst e
  exact .inl ⟨Nat.le_refl _,hd D H2 hD p⟩
theorem comp_range0 (Pv:Addr->Nat->Hp->Prop) (h0:∀ D,H D=none->Pv D 0 (upd H D (.lst [])))
  (hs:∀ D i H',H D=none->i < n->Pv D i H'->g (.int (lo+(i:Nat))) (seen caps σ) H' fun σ4 H4=>(∀ (k:Nat) v,(seen caps σ)[k]?=some (some v)->σ4[k]?=some (some v)) /\
   te σ4 H4 fun y H6=>∃ ys,H6 D=some (.lst ys)/\ys.length < sizeLine/\Pv D (i+1) (upd H6 D (.lst (ys ++ [y]))))
  (hd:∀ D H',H D=none->Pv D n H'->Q (.ref D) H'):cBody caps g tTrue te σ Q (Itr lo n) H:=comp_range Pv h0 hs hd
end
noncomputable def It3 (lo st:Int) (n:Nat):It:=⟨fun i _=>i < n,fun i H x H'=>H'=H/\x=.int (lo+(i:Nat) * st),fun i _=>n<=i⟩
theorem turn_range3 {P:Program} {w:World} {K:PySem.W.Frag} {tg:Expr} (it:Addr) (lo stp:Int) (n:Nat):Turn P w K tg (It3 lo stp n) [it] it (fun i h=>IsRangeIter h it (lo+(i:Nat) * stp) ((n:Int) - (i:Nat)) stp) where
 mem:=by simp
 obj:=fun i h st b hb=>by
  have e:b=it:=by simpa using hb
  subst e
  exact ⟨_,st,fun v z=>by
   have z':Data.fields _=Data.cell v:=z
   cases z'⟩
 keep:=fun i h h' st k=>k it (by simp) _ st
 item:=by
  intro X hP hw hK hc i pins s σ H E I hf st hg
  subst hP hw hK
  obtain ⟨f0,f1,f2,f3,f4,f5⟩:=hf it (by simp)
  have hg':i < n:=hg
  refine wpAny_pyNext_range_item st (by omega) fun h' st' sb=>?_
  have I1:Inv X pins σ H { s with heap:=h',toks:=s.toks+1 }:=I.turned (fun b o hb e=>sb.extBut b o hb e) f0 f1 f3 f4 f5
  refine ⟨_,rfl,go_of (s:={ s with heap:=h',toks:=s.toks+1 }) (n := "range_iterator") st' rfl rfl (by decide) ⟨.int _,H,I1,⟨_,rfl⟩,⟨rfl,rfl⟩,?_,fun b hb=>(hf b hb).1⟩⟩
  show IsRangeIter h' it (lo+((i+1:Nat):Int) * stp) ((n:Int) - ((i+1:Nat):Int)) stp
  have e1:lo+((i+1:Nat):Int) * stp=lo+(i:Int) * stp+stp:=by
   rw [Int.natCast_add,Int.add_mul]
   simp
   omega
  have e2:(n:Int) - ((i+1:Nat):Int)=(n:Int) - (i:Int) - 1:=by omega
  rw [e1,e2]
  exact st'
 done:=by
  intro X hP hw hK hc i pins s σ H E I hf st hg
  subst hP hw hK
  obtain ⟨f0,f1,f2,f3,f4,f5⟩:=hf it (by simp)
  exact wpAny_pyNext_range_end (I.ok.hd hc) st (by have:n<=i:=hg; omega) fun h' eb=>⟨rfl,I.turned (t':=s.toks) (fun b o hb e=>eb b o hb e) f0 f1 f3 f4 f5⟩
 self:=fun _ _ _ _ _ st h=>wpAny_pyIter_rangeiter st h
noncomputable def cnt3 (a b c:Int):Nat:=if a < b then ((b - a - 1) / c+1).toNat else 0
theorem size3 {a b c:Int} (hc:0 < c):Builtin.Range.rangeSize a b c=((cnt3 a b c:Nat):Int):=by
 unfold Builtin.Range.rangeSize cnt3
 rw [if_pos (by omega)]
 split
 ·have:0<=(b - a - 1) / c:=Int.ediv_nonneg (by omega) (by omega)
  omega
 ·rfl
theorem cnt3_lt {a b c:Int} (hc:0 < c) {i:Nat} (h:i < cnt3 a b c):a+(i:Int) * c < b:=by
 unfold cnt3 at h
 split at h
 ·have h1:(i:Int)<=(b - a - 1) / c:=by omega
  have h2:=Int.mul_le_mul_of_nonneg_right h1 (Int.le_of_lt hc)
  have h3:=Int.ediv_mul_le (b - a - 1) (b:=c) (by omega)
  omega
 ·omega
theorem small3 {a b c:Int} (ha:-(2 ^ 60)<=a) (ha':a < 2 ^ 60) (hb:-(2 ^ 60)<=b) (hb':b < 2 ^ 60) (hc:0 < c) (hc':c < 1000):Builtin.Range.small a b c=true:=by
 have hn:0<=Builtin.Range.rangeSize a b c/\Builtin.Range.rangeSize a b c < 2 ^ 62:=by
  unfold Builtin.Range.rangeSize
  rw [if_pos (by omega)]
  split
  ·have h1:0<=(b - a - 1) / c:=Int.ediv_nonneg (by omega) (by omega)
   have h2:(b - a - 1) / c<=b - a - 1:=Int.ediv_le_self _ (by omega)
   omega
  ·omega
 unfold Builtin.Range.small Builtin.Range.rangeFitsLong
 generalize Builtin.Range.rangeSize a b c=k at *
 simp only [Bool.and_eq_true,Bool.or_eq_true,decide_eq_true_eq,beq_iff_eq]
 refine ⟨⟨⟨⟨?_,?_⟩,?_⟩,?_⟩,.inr ?_⟩
 ·omega
 ·omega
 ·omega
 ·omega
 ·rw [if_pos (by omega)]
  simp only [Bool.and_eq_true,decide_eq_true_eq]
  omega
noncomputable def iRng3 (ta:TA):TI:=fun σ H R=>ta σ H fun vs H1=>∃ i j c:Int,vs=[.int i,.int j,.int c]/\(-(2 ^ 60)<=i/\i < 2 ^ 60/\-(2 ^ 60)<=j/\j < 2 ^ 60/\0 < c/\c < 1000)/\R (It3 i c (cnt3 i j c)) H1
section
variable {X:Cx} {tg:Expr}
theorem pi_range3 {a b c:Expr} {ta:TA} {p pos:Pos} (hg:Gl X "range") (hm:X.mg "range" = none) (ha:PA X [a,b,c] ta) (hs:starEach [a,b,c] X.env=(false,eval a X.env) :: starEach [b,c] X.env) (hs2:(backTo pos (starEach [b,c] X.env)).any (·.1)=false) :
  PI X tg (.Call (.Name "range" p) [a,b,c] [] pos) (iRng3 ta):=by
 intro pins s σ H R I h
 refine Call_ (ld_blt I hg hm boot_range (PyProof.Rows.callWith_type1 (thn (ha pos pins s σ H _ I h) fun us s1 ⟨vs,H1,I1,r1,q1⟩=>?_) hs hs2))
 obtain ⟨i,j,k,e,⟨q1,q2,q3,q4,q5,q6⟩,q⟩:=q1
 subst e
 cases r1 with
 | cons r rr =>
  cases rr with
  | cons r' rr =>
   cases rr with
   | cons r'' rr =>
    cases rr
    obtain ⟨t,rfl⟩:=r
    obtain ⟨t',rfl⟩:=r'
    obtain ⟨t'',rfl⟩:=r''
    refine call_range_3 (by omega) ?_ (.inl (PyProof.noPylong_small (by omega)))
    refine wpAny_pyIter_range (IsRange.new ..) (small3 q1 q2 q3 q4 q5 q6) ?_
    have I2:Inv X pins σ H1 { s1 with heap:=s1.heap.push { cls:=.type "range",data:=.fields #[.int i t,.int j t',.int k t''] } }:=I1.kept (t':=s1.toks) fun b o e=>Heap.get?_push_of_some _ e
    refine ⟨(s1.heap.push { cls:=.type "range",data:=.fields #[.int i t,.int j t',.int k t''] }).objs.size,[(s1.heap.push { cls:=.type "range",data:=.fields #[.int i t,.int j t',.int k t''] }).objs.size],_,_,H1,rfl,
     I2.kept (t':=s1.toks) fun b o e=>Heap.get?_push_of_some _ e,turn_range3 _ i k (cnt3 i j k),?_,fun b hb=>?_,q⟩
    ·show IsRangeIter _ _ (i+((0:Nat):Int) * k) (((cnt3 i j k:Nat):Int) - ((0:Nat):Int)) k
     have e1:i+((0:Nat):Int) * k=i:=by simp
     have e2:((cnt3 i j k:Nat):Int) - ((0:Nat):Int)=Builtin.Range.rangeSize i j k:=by rw [size3 q5]; simp
     rw [e1,e2]
     exact Heap.get?_push_size _ rfl
    ·have e:b=(s1.heap.push { cls:=.type "range",data:=.fields #[.int i t,.int j t',.int k t''] }).objs.size:=by simpa using hb
     subst e
     exact I2.fpOk (Nat.le_refl _) (I2.hok.fresh (Nat.le_refl _))
theorem qi_range3 {a b c:Expr} {ta:TA} {p pos:Pos} (hg:Gl X "range") (hm:X.mg "range" = none) (ha:QA X [a,b,c] ta) (h:notStar a=true:=by rfl) (h2:[b,c].all notStar=true:=by rfl):QI X tg (.Call (.Name "range" p) [a,b,c] [] pos) (iRng3 ta) :=
 ⟨pi_range3 hg hm ha.run (se_of h) (any_of h2)⟩
end
theorem for_range3 {lo st:Int} {n:Nat} {g:TG} {tb:TS} {D:Ends} {σ:St} {H:Hp} (Pv:Nat->St->Hp->Prop) (h0:Pv 0 σ H)
  (hs:∀ i σ H,i < n->Pv i σ H->g (.int (lo+(i:Nat) * st)) σ H fun σ2 H2=>tb { D with nx:=Pv (i+1),ct:=Pv (i+1),bk:=D.nx } σ2 H2) (hd:∀ σ H,Pv n σ H->D.nx σ H) :
  ∃ W:Nat->Nat->St->Hp->Prop,(∃ m,W 0 m σ H)/\∀ i m σ H,W i m σ H ->
   ((It3 lo st n).stop i H/\D.nx σ H)\/((It3 lo st n).go i H/\∃ N:St->Hp->Prop,(∀ σ' H',N σ' H'->∃ m',m' < m/\W (i+1) m' σ' H')/\∀ x H',(It3 lo st n).yld i H x H'->g x σ H' fun σ2 H2=>tb { D with nx:=N,ct:=N,bk:=D.nx } σ2 H2):=by
 refine ⟨fun i m σ H=>m=n - i/\i<=n/\Pv i σ H,⟨n,by simp,Nat.zero_le _,h0⟩,?_⟩
 intro i m σ H z9;obtain ⟨rfl,hi,p⟩ := z9
 by_cases hlt:i < n
 ·refine .inr ⟨hlt,Pv (i+1),fun σ' H' p'=>⟨n - (i+1),by omega,rfl,hlt,p'⟩,fun x H' y=>?_⟩
  obtain ⟨e,y⟩:=y
  subst e y
  exact hs i σ _ hlt p
 ·have e:i=n:=by omega
  subst e
  exact .inl ⟨Nat.le_refl _,hd σ H p⟩
end L2
namespace L2
open PySem PySem.Spec PyProof.Rows
section
variable {X:Cx} {N':List Str} {scope:Scope} {cl:List (Str × Addr)} {caps:List (Option Nat)} {tg iter elt:Expr} {wi:TI} {g:TG} {te:TE} {tt:TT} {pos:Pos}
end
end L2
namespace L2
open PySem PySem.Spec PyProof.Rows
section
variable {X:Cx}
end
end L2
namespace My
open PySem L2
noncomputable def Tup3 (H:Hp) (r:Addr) (a b c:Int):Prop:=H r=some (.tup [.int a,.int b,.int c])
theorem same_new {H:Hp} {p:Addr} (h:H p=none) (o:HO):Same H (upd H p o):=fun b u q=>by rw [upd_ne (ne_of_none q h)]; exact q
theorem fresh_of {H H':Hp} {p:Addr} {o:HO} (hp:H p=none) (hg:upd H p o=H'):Same H H'/\H' p=some o:=by
 subst hg
 exact ⟨same_new hp o,upd_same⟩
theorem at_int {ns:List Int} {k:Int} (h0:0<=k) (h:k < (ns.length:Int)):∃ v:Int,atI (ns.map V.int) k=some (.int v):=by
 have hk:k.toNat < ns.length:=by omega
 have ek:k=((k.toNat:Nat):Int):=by omega
 have q:atI (ns.map V.int) ((k.toNat:Nat):Int)=some (.int ns[k.toNat]):=atI_nat (by rw [List.getElem?_map,List.getElem?_eq_getElem hk] <;> rfl)
 rw [<- ek] at q
 exact ⟨_,q⟩
theorem iteP {c A B:Prop} [Decidable c] (h:c) (x:A):if c then A else B:=by
 rw [if_pos h]
 exact x
theorem iteN {c A B:Prop} [Decidable c] (h:¬ c) (x:B):if c then A else B:=by
 rw [if_neg h]
 exact x
theorem pow15:((10:Int) ^ (15:Int).toNat)=1000000000000000:=by decide +kernel
noncomputable def spCell (K:PySem.W.Frag):Sp:=fun vs H Q _=>∃ (a:Addr) (ns:List Int) (k:Int),vs=[.ref a,.int k]/\SqL K H a (ns.map V.int)/\0<=k/\∀ c:Int,Q (.int c) H
noncomputable def spDay:Sp:=fun vs H Q _=>∃ c:Int,vs=[.int c]/\∀ (d:Int) (H':Hp),1<=d->d<=1000000000000000->Same H H'->Q (.int d) H'
open Ma (T3 rA rB rC)
noncomputable def tup3 (R:List T3) (i:Nat):HO:=.tup [.int (rA R i),.int (rB R i),.int (rC R i)]
structure RowsAt (H:Hp) (p:Addr) (R:List T3):Prop where
 ex:∃ rs:List Addr,H p=some (.lst (rs.map V.ref))/\rs.length=R.length/\∀ (i:Nat) r,rs[i]?=some r->H r=some (tup3 R i)
theorem RowsAt.mono {H H':Hp} {p:Addr} {R:List T3} (h:RowsAt H p R) (s:∀ b o,H b=some o->(∀ z,o ≠ .tbl z)->H' b=some o):RowsAt H' p R:=by
 obtain ⟨rs,h1,h2,h3⟩:=h.ex
 exact ⟨rs,s _ _ h1 (fun _ z=>nomatch z),h2,fun i r e=>s _ _ (h3 i r e) (fun _ z=>nomatch z)⟩
theorem RowsAt.at {K:PySem.W.Frag} {H:Hp} {p:Addr} {R:List T3} (h:RowsAt H p R):∃ xs:List V,SqL K H p xs/\xs.length=R.length/\∀ k:Int,0<=k->k < (R.length:Int)->∃ r,atI xs k=some (.ref r)/\H r=some (tup3 R k.toNat):=by
 obtain ⟨rs,h1,h2,h3⟩:=h.ex
 refine ⟨rs.map V.ref,SqL.of h1,by rw [List.length_map,h2],fun k k0 k1=>?_⟩
 have hk:k.toNat < rs.length:=by omega
 have ek:k=((k.toNat:Nat):Int):=by omega
 have q:atI (rs.map V.ref) ((k.toNat:Nat):Int)=some (.ref rs[k.toNat]):=atI_nat (by rw [List.getElem?_map]; simp [hk])
 rw [<- ek] at q
 exact ⟨rs[k.toNat],q,h3 _ _ (List.getElem?_eq_getElem hk)⟩
theorem map_ref {rs:List Addr} {i:Nat} {y:V} (h:(rs.map V.ref)[i]?=some y):∃ r,y=V.ref r/\rs[i]?=some r:=by
 rw [List.getElem?_map] at h
 cases e:rs[i]? with
 | none=>rw [e] at h; cases h
 | some z=>rw [e] at h; exact ⟨z,(Option.some.inj h).symm,rfl⟩
theorem cut_ints {ns:List Int} (lo hi:Option Int):∃ ms:List Int,cutV (ns.map V.int) lo hi=ms.map V.int/\ms.length<=ns.length:=by
 unfold cutV
 rw [List.length_map,<- List.map_drop,<- List.map_take]
 exact ⟨_,rfl,by rw [List.length_take,List.length_drop]; omega⟩
theorem tab_nil {H:Hp} {P:Addr} {pos:Pos} {q:Str} (h:H P=some (.tbl #[])):TabOk H P pos q:=⟨#[],h,trivial,.inl rfl⟩
structure LA {α:Type} (enc:α->List V) (H:Hp) (p:Addr) (xs:List α):Prop where
 ex:∃ rs:List Addr,H p=some (.lst (rs.map V.ref))/\rs.length=xs.length/\∀ (i:Nat) r x,rs[i]?=some r->xs[i]?=some x->H r=some (.tup (enc x))
section
variable {α:Type} {enc:α->List V} {H H':Hp} {p q r:Addr} {xs ys:List α} {vs ws:List V}
theorem LA.nil (h:H p=some (.lst [])):LA enc H p []:=⟨[],h,rfl,fun i r x e=>by cases i <;> cases e⟩
theorem LA.mono (h:LA enc H p xs) (s:∀ b o,H b=some o->(∀ z,o ≠ .tbl z)->H' b=some o):LA enc H' p xs:=by
 obtain ⟨rs,h1,h2,h3⟩:=h.ex
 exact ⟨rs,s _ _ h1 (fun _ z=>nomatch z),h2,fun i r x e e'=>s _ _ (h3 i r x e e') (fun _ z=>nomatch z)⟩
theorem LA.same (h:LA enc H p xs) (s:Same H H'):LA enc H' p xs:=h.mono fun b o e _=>s b o e
theorem LA.lst (h:LA enc H p xs):∃ vs,H p=some (.lst vs)/\vs.length=xs.length/\∀ (i:Nat) y,vs[i]?=some y->∃ r x,y=.ref r/\xs[i]?=some x/\H r=some (.tup (enc x)):=by
 obtain ⟨rs,h1,h2,h3⟩:=h.ex
 refine ⟨_,h1,by rw [List.length_map,h2],fun i y e=>?_⟩
 obtain ⟨r,rfl,er⟩:=map_ref e
 have hi:i < xs.length:=by
  have:=(List.getElem?_eq_some_iff.mp er).1
  omega
 exact ⟨r,xs[i],rfl,List.getElem?_eq_getElem hi,h3 i r _ er (List.getElem?_eq_getElem hi)⟩
theorem LA.of (h:H p=some (.lst vs)) (l:vs.length=xs.length) (g:∀ (i:Nat) y,vs[i]?=some y->∃ r,y=.ref r/\∀ x,xs[i]?=some x->H r=some (.tup (enc x))):LA enc H p xs:=by
 have go:∀ (vs:List V),(∀ (i:Nat) y,vs[i]?=some y->∃ r,y=V.ref r)->∃ rs:List Addr,vs=rs.map V.ref:=by
  intro vs
  induction vs with
  | nil=>intro _; exact ⟨[],rfl⟩
  | cons v vs ih =>
   intro g
   obtain ⟨r,e⟩:=g 0 v rfl
   obtain ⟨rs,e2⟩:=ih fun i y e=>g (i+1) y (by simpa using e)
   exact ⟨r :: rs,by rw [e,e2]; rfl⟩
 obtain ⟨rs,e⟩:=go vs fun i y e=>by
  obtain ⟨r,e1,_⟩:=g i y e
  exact ⟨r,e1⟩
 subst e
 refine ⟨rs,h,by rw [List.length_map] at l; exact l,fun i r x e1 e2=>?_⟩
 obtain ⟨r',e3,e4⟩:=g i (.ref r) (by rw [List.getElem?_map,e1]; rfl)
 cases e3
 exact e4 x e2
theorem LA.append {x:α} (h:LA enc H p xs) (hx:H p=some (.lst vs)) (hr:H r=some (.tup (enc x))):LA enc (upd H p (.lst (vs ++ [.ref r]))) p (xs ++ [x]):=by
 obtain ⟨vs',h1,h2,h3⟩:=h.lst
 rw [h1] at hx
 cases hx
 have ne:∀ q (ys:List V),H q=some (.tup ys)->q ≠ p:=fun q ys e z=>by rw [z,h1] at e; cases e
 refine LA.of upd_same (by simp [h2]) fun i y e=>?_
 rcases (by omega:i < vs.length\/vs.length<=i) with hi | hi
 ·rw [List.getElem?_append_left hi] at e
  obtain ⟨r',x',e1,e2,e3⟩:=h3 i y e
  refine ⟨r',e1,fun x2 e4=>?_⟩
  rw [List.getElem?_append_left (by omega),e2] at e4
  cases e4
  rw [upd_ne (ne r' _ e3)]
  exact e3
 ·rw [List.getElem?_append_right hi] at e
  have ei:i - vs.length=0:=by
   have:=(List.getElem?_eq_some_iff.mp e).1
   simp at this
   omega
  rw [ei] at e
  have e':V.ref r=y:=by simpa using e
  refine ⟨r,e'.symm,fun x2 e4=>?_⟩
  rw [List.getElem?_append_right (by omega),show i - xs.length=0 by omega] at e4
  have e5:x=x2:=by simpa using e4
  subst e5
  rw [upd_ne (ne r _ hr)]
  exact hr
theorem LA.extend (h:LA enc H p xs) (h':LA enc H q ys) (hx:H p=some (.lst vs)) (hy:H q=some (.lst ws)):LA enc (upd H p (.lst (vs ++ ws))) p (xs ++ ys):=by
 obtain ⟨vs',h1,h2,h3⟩:=h.lst
 obtain ⟨ws',k1,k2,k3⟩:=h'.lst
 rw [h1] at hx
 cases hx
 rw [k1] at hy
 cases hy
 have ne:∀ q (ys:List V),H q=some (.tup ys)->q ≠ p:=fun q ys e z=>by rw [z,h1] at e; cases e
 refine LA.of upd_same (by simp [h2,k2]) fun i y e=>?_
 rcases (by omega:i < vs.length\/vs.length<=i) with hi | hi
 ·rw [List.getElem?_append_left hi] at e
  obtain ⟨r',x',e1,e2,e3⟩:=h3 i y e
  refine ⟨r',e1,fun x2 e4=>?_⟩
  rw [List.getElem?_append_left (by omega),e2] at e4
  cases e4
  rw [upd_ne (ne r' _ e3)]
  exact e3
 ·rw [List.getElem?_append_right hi] at e
  obtain ⟨r',x',e1,e2,e3⟩:=k3 _ y e
  refine ⟨r',e1,fun x2 e4=>?_⟩
  rw [List.getElem?_append_right (by omega),show i - xs.length=i - vs.length by omega,e2] at e4
  cases e4
  rw [upd_ne (ne r' _ e3)]
  exact e3
theorem LA.cat (h:LA enc H p xs) (h':LA enc H q ys) (hx:H p=some (.lst vs)) (hy:H q=some (.lst ws)) (hr:H r=none):LA enc (upd H r (.lst (vs ++ ws))) r (xs ++ ys):=by
 obtain ⟨vs',h1,h2,h3⟩:=h.lst
 obtain ⟨ws',k1,k2,k3⟩:=h'.lst
 rw [h1] at hx
 cases hx
 rw [k1] at hy
 cases hy
 have ne:∀ q o,H q=some o->q ≠ r:=fun q o e=>ne_of_none e hr
 refine LA.of upd_same (by simp [h2,k2]) fun i y e=>?_
 rcases (by omega:i < vs.length\/vs.length<=i) with hi | hi
 ·rw [List.getElem?_append_left hi] at e
  obtain ⟨r',x',e1,e2,e3⟩:=h3 i y e
  refine ⟨r',e1,fun x2 e4=>?_⟩
  rw [List.getElem?_append_left (by omega),e2] at e4
  cases e4
  rw [upd_ne (ne r' _ e3)]
  exact e3
 ·rw [List.getElem?_append_right hi] at e
  obtain ⟨r',x',e1,e2,e3⟩:=k3 _ y e
  refine ⟨r',e1,fun x2 e4=>?_⟩
  rw [List.getElem?_append_right (by omega),show i - xs.length=i - vs.length by omega,e2] at e4
  cases e4
  rw [upd_ne (ne r' _ e3)]
  exact e3
theorem LA.setAt {x:α} {j:Nat} (h:LA enc H p xs) (hx:H p=some (.lst vs)) (hr:H r=some (.tup (enc x))):LA enc (upd H p (.lst (vs.set j (.ref r)))) p (xs.set j x):=by
 obtain ⟨vs',h1,h2,h3⟩:=h.lst
 rw [h1] at hx
 cases hx
 have ne:∀ q (ys:List V),H q=some (.tup ys)->q ≠ p:=fun q ys e z=>by rw [z,h1] at e; cases e
 refine LA.of upd_same (by simp [h2]) fun i y e=>?_
 rw [List.getElem?_set] at e
 by_cases c:j=i
 ·rw [if_pos c] at e
  split at e
  ·have e':V.ref r=y:=by simpa using e
   refine ⟨r,e'.symm,fun x2 e4=>?_⟩
   rw [List.getElem?_set,if_pos c] at e4
   split at e4
   ·have e5:x=x2:=by simpa using e4
    subst e5
    rw [upd_ne (ne r _ hr)]
    exact hr
   ·cases e4
  ·cases e
 ·rw [if_neg c] at e
  obtain ⟨r',x',e1,e2,e3⟩:=h3 i y e
  refine ⟨r',e1,fun x2 e4=>?_⟩
  rw [List.getElem?_set,if_neg c,e2] at e4
  cases e4
  rw [upd_ne (ne r' _ e3)]
  exact e3
theorem LA.copy (h:LA enc H p xs) (s:Same H H') (hx:H p=some (.lst vs)) (e:H' q=some (.lst vs)):LA enc H' q xs:=by
 obtain ⟨rs,h1,h2,h3⟩:=h.ex
 rw [h1] at hx
 cases hx
 exact ⟨rs,e,h2,fun i r x e1 e2=>s _ _ (h3 i r x e1 e2)⟩
theorem LA.at {K:PySem.W.Frag} (h:LA enc H p xs):∃ vs:List V,H p=some (.lst vs)/\vs.length=xs.length/\∀ (k:Nat) x,xs[k]?=some x->∃ r,atI vs (k:Int)=some (.ref r)/\H r=some (.tup (enc x)):=by
 obtain ⟨vs,h1,h2,h3⟩:=h.lst
 refine ⟨vs,h1,h2,fun k x e=>?_⟩
 have hk:k < vs.length:=by
  have:=(List.getElem?_eq_some_iff.mp e).1
  omega
 obtain ⟨r,x',e1,e2,e3⟩:=h3 k _ (List.getElem?_eq_getElem hk)
 rw [e] at e2
 cases e2
 exact ⟨r,atI_nat (by rw [List.getElem?_eq_getElem hk,e1]),e3⟩
end
theorem atI_last {vs:List V} (h:vs ≠ []):atI vs (-1)=vs[vs.length - 1]?:=by
 have hl:0 < vs.length:=List.length_pos_iff.mpr h
 unfold atI ixN
 rw [if_neg (by omega),if_pos (by omega)]
 show vs[(-1+(vs.length:Int)).toNat]?=_
 congr 1
 omega
section
variable {α:Type} {D:α->PyData}
theorem eqvAll_map [DecidableEq α] (hD:∀ x y,PyData.eqv (D x) (D y)=decide (x=y)):∀ xs ys:List α,PyData.eqvAll (xs.map D) (ys.map D)=decide (xs=ys)
 | [],[]=>by simp [PyData.eqvAll]
 | [],y :: ys=>by simp [PyData.eqvAll]
 | x :: xs,[]=>by simp [PyData.eqvAll]
 | x :: xs,y :: ys=>by
  have ih:=eqvAll_map hD xs ys
  simp only [List.map_cons,PyData.eqvAll,ih,hD]
  by_cases c:x=y <;> by_cases c':xs=ys <;> simp [c,c']
theorem eqv_list [DecidableEq α] (hD:∀ x y,PyData.eqv (D x) (D y)=decide (x=y)) (xs ys:List α):PyData.eqv (.list (xs.map D)) (.list (ys.map D))=decide (xs=ys):=by
 simp only [PyData.eqv]
 exact eqvAll_map hD xs ys
theorem canLay_map (h:∀ x,PyData.canLay0 (D x)=true):∀ xs:List α,PyData.canLayAll0 (xs.map D)=true
 | []=>by simp [PyData.canLayAll0]
 | x :: xs=>by
  have:=canLay_map h xs
  simp [PyData.canLayAll0,h,this]
theorem depth_map {n:Nat} (h:∀ x,PyData.depth (D x)<=n):∀ xs:List α,PyData.depthAll (xs.map D)<=n
 | []=>by simp [PyData.depthAll]
 | x :: xs=>by
  have:=depth_map h xs
  have:=h x
  simp only [List.map_cons,PyData.depthAll]
  omega
theorem shaped_map {n:Nat} (h:∀ x,PyData.canLay0 (D x)=true) (h2:∀ x,PyData.depth (D x)<=n) (hn:n<=60) (xs:List α):SeqAt.shaped (.list (xs.map D))=true:=by
 have h3:=depth_map h2 xs
 show (PyData.canLay0 (.list (xs.map D)) && decide (PyData.depth (.list (xs.map D))<=64))=true
 rw [Bool.and_eq_true]
 exact ⟨by simp only [PyData.canLay0]; exact canLay_map h xs,decide_eq_true (by simp only [PyData.depth]; omega)⟩
theorem LA.rd {K:PySem.W.Frag} {enc:α->List V} {ds:α->List PyData} {H:Hp} {p:Addr} {xs:List α} (h:LA enc H p xs) (hd:∀ x,RdAll K H (enc x) (ds x)):RdV K H (.ref p) (.list (xs.map fun x=>.tuple (ds x))):=by
 obtain ⟨rs,h1,h2,h3⟩:=h.ex
 refine .lst (SqL.of h1) ?_
 have go:∀ (rs:List Addr) (xs:List α),rs.length=xs.length->(∀ (i:Nat) r x,rs[i]?=some r->xs[i]?=some x->H r=some (.tup (enc x)))->RdAll K H (rs.map V.ref) (xs.map fun x=>.tuple (ds x)):=by
  intro rs
  induction rs with
  | nil =>
   intro xs hl _
   cases xs with
   | nil=>exact .nil
   | cons x xs=>cases hl
  | cons r rs ih =>
   intro xs hl g
   cases xs with
   | nil=>cases hl
   | cons x xs=>exact .cons (.tup (SqT.of (g 0 r x rfl rfl)) (hd x)) (ih xs (by simpa using hl) fun i r' x' e1 e2=>g (i+1) r' x' (by simpa using e1) (by simpa using e2))
 exact go rs xs h2 h3
end
open Ma (T4)
noncomputable def enc3 (t:T3):List V:=[.int t.1,.int t.2.1,.int t.2.2]
noncomputable def enc4 (t:T4):List V:=[.int t.1,.int t.2.1,.bl t.2.2.1,.int t.2.2.2]
noncomputable def dat3 (t:T3):PyData:=.tuple [.int t.1,.int t.2.1,.int t.2.2]
theorem eqv3 (x y:T3):PyData.eqv (dat3 x) (dat3 y)=decide (x=y):=by
 obtain ⟨a,b,c⟩:=x
 obtain ⟨a',b',c'⟩:=y
 simp only [dat3,PyData.eqv,PyData.eqvAll,Prod.mk.injEq]
 by_cases c1:a=a' <;> by_cases c2:b=b' <;> by_cases c3:c=c' <;> simp [c1,c2,c3]
section
variable {K:PySem.W.Frag} {H H':Hp} {p:Addr} {R:List T3}
theorem rd3 (h:LA enc3 H p R):RdV K H (.ref p) (.list (R.map dat3)):=h.rd fun x=>.cons (.int _) (.cons (.int _) (.cons (.int _) .nil))
theorem LA.rows (h:LA enc3 H p R):RowsAt H p R:=by
 obtain ⟨rs,h1,h2,h3⟩:=h.ex
 refine ⟨rs,h1,h2,fun i r e1=>?_⟩
 have hi:i < R.length:=by
  have:=(List.getElem?_eq_some_iff.mp e1).1
  omega
 exact h3 i r _ e1 (Ma.r_at hi)
end
inductive Dv (H:Hp):V->Prop
 | non:Dv H .non
 | bl (b:Bool):Dv H (.bl b)
 | int (i:Int):Dv H (.int i)
 | str (x:Str):Dv H (.str x)
 | lst {a:Addr} {xs:List V}:H a=some (.lst xs)->Dv H (.ref a)
 | tup {a:Addr} {xs:List V}:H a=some (.tup xs)->Dv H (.ref a)
noncomputable def isWh:V->Bool
 | .int _=>true
 | _=>false
noncomputable def tupV (H:Hp):V->Option (List V)
 | .ref a=>match H a with
  | some (.tup xs)=>some xs
  | _=>none
 | _=>none
noncomputable def lstV (H:Hp):V->Option (List V)
 | .ref a=>match H a with
  | some (.lst xs)=>some xs
  | _=>none
 | _=>none
theorem tupV_of {H:Hp} {a:Addr} {xs:List V} (h:H a=some (.tup xs)):tupV H (.ref a)=some xs:=by simp [tupV,h]
theorem lstV_of {H:Hp} {a:Addr} {xs:List V} (h:H a=some (.lst xs)):lstV H (.ref a)=some xs:=by simp [lstV,h]
theorem tupV_at {H:Hp} {x:V} {xs:List V} (h:tupV H x=some xs):∃ a,x=.ref a/\H a=some (.tup xs):=by
 unfold tupV at h
 split at h
 ·rename_i a
  split at h
  ·rename_i ys e
   cases h
   exact ⟨a,rfl,e⟩
  ·cases h
 ·cases h
theorem lstV_at {H:Hp} {x:V} {xs:List V} (h:lstV H x=some xs):∃ a,x=.ref a/\H a=some (.lst xs):=by
 unfold lstV at h
 split at h
 ·rename_i a
  split at h
  ·rename_i ys e
   cases h
   exact ⟨a,rfl,e⟩
  ·cases h
 ·cases h
section
variable {H H':Hp} {x:V}
theorem Dv.same (h:Dv H x) (s:Same H H'):Dv H' x:=by
 cases h with
 | non=>exact .non
 | bl b=>exact .bl b
 | int i=>exact .int i
 | str x=>exact .str x
 | lst e=>exact .lst (s _ _ e)
 | tup e=>exact .tup (s _ _ e)
theorem Dv.tupV_same (h:Dv H x) (s:Same H H'):tupV H' x=tupV H x:=by
 cases h with
 | non=>rfl
 | bl b=>rfl
 | int i=>rfl
 | str x=>rfl
 | lst e=>simp [tupV,e,s _ _ e]
 | tup e=>simp [tupV,e,s _ _ e]
theorem Dv.lstV_same (h:Dv H x) (s:Same H H'):lstV H' x=lstV H x:=by
 cases h with
 | non=>rfl
 | bl b=>rfl
 | int i=>rfl
 | str x=>rfl
 | lst e=>simp [lstV,e,s _ _ e]
 | tup e=>simp [lstV,e,s _ _ e]
theorem Dv.isTup {K:PySem.W.Frag} (h:Dv H x):∃ t,TyOf K H x t/\PySem.W.kitOne K t (.type "tuple")=some (tupV H x).isSome:=by
 cases h with
 | non=>exact ⟨_,.non,rfl⟩
 | bl b=>exact ⟨_,.bl b,rfl⟩
 | int i=>exact ⟨_,.int i,rfl⟩
 | str x=>exact ⟨_,.str x,rfl⟩
 | lst e=>exact ⟨_,.lst e,by simp only [tupV,e]; rfl⟩
 | tup e=>exact ⟨_,.tup e,by simp only [tupV,e]; rfl⟩
theorem Dv.isLst {K:PySem.W.Frag} (h:Dv H x):∃ t,TyOf K H x t/\PySem.W.kitOne K t (.type "list")=some (lstV H x).isSome:=by
 cases h with
 | non=>exact ⟨_,.non,rfl⟩
 | bl b=>exact ⟨_,.bl b,rfl⟩
 | int i=>exact ⟨_,.int i,rfl⟩
 | str x=>exact ⟨_,.str x,rfl⟩
 | lst e=>exact ⟨_,.lst e,by simp only [lstV,e]; rfl⟩
 | tup e=>exact ⟨_,.tup e,by simp only [lstV,e]; rfl⟩
end
noncomputable def Dv2 (H:Hp) (x:V):Prop:=Dv H x/\∀ zs,tupV H x=some zs->∀ z∈zs,Dv H z
theorem Dv2.same {H H':Hp} {x:V} (h:Dv2 H x) (s:Same H H'):Dv2 H' x:=⟨h.1.same s,fun zs e z hz=>(h.2 zs (by rw [<- h.1.tupV_same s]; exact e) z hz).same s⟩
noncomputable def winL (day:Int):List V->Bool
 | [.int a,.int b,.int c]=>decide (0<=a) && (decide (a<=b) && (decide (b < day) && decide (0<=c)))
 | _=>false
noncomputable def winV (H:Hp) (day:Int) (x:V):Bool:=match tupV H x with
 | some xs=>winL day xs
 | none=>false
theorem Dv.winV_same {H H':Hp} {x:V} (h:Dv H x) (s:Same H H') (day:Int):winV H' day x=winV H day x:=by
 unfold winV
 rw [h.tupV_same s]
noncomputable def boardV (H:Hp) (day:Int) (x:V):Bool:=match lstV H x with
 | some xs=>xs.all (winV H day)
 | none=>false
noncomputable def spIsWhole:Sp:=fun vs H Q _=>∃ x:V,vs=[x]/\Dv H x/\Q (.bl (isWh x)) H
noncomputable def spWindow:Sp:=fun vs H Q _=>∃ (day:Int) (x:V),vs=[.int day,x]/\Dv2 H x/\∀ H',Same H H'->Q (.bl (winV H day x)) H'
noncomputable def Dv3 (H:Hp) (x:V):Prop:=Dv H x/\∀ xs,lstV H x=some xs->xs.length<=1000/\∀ y∈xs,Dv2 H y
noncomputable def spBoard:Sp:=fun vs H Q _=>∃ (day:Int) (x:V),vs=[.int day,x]/\Dv3 H x/\∀ H',Same H H'->Q (.bl (boardV H day x)) H'
theorem take_snoc {α β:Type} {xs:List α} {i:Nat} {y:α} (f:α->β) (h:xs[i]?=some y):(xs.take (i+1)).map f=(xs.take i).map f ++ [f y]:=by
 rw [List.take_add_one,h,List.map_append]
 rfl
theorem three {α:Type}:∀ {xs:List α},xs.length=3->∃ u v w,xs=[u,v,w]
 | [u,v,w],_=>⟨u,v,w,rfl⟩
theorem isWh_int {x:V} (h:isWh x=true):∃ i,x=.int i:=by
 cases x <;> first | exact ⟨_,rfl⟩ | cases h
inductive Ev (H:Hp):Nat->V->Prop
 | non {n:Nat}:Ev H n .non
 | bl {n:Nat} (b:Bool):Ev H n (.bl b)
 | int {n:Nat} (i:Int):Ev H n (.int i)
 | str {n:Nat} {x:Str}:PyData.strOk x=true->Ev H n (.str x)
 | lst {n:Nat} {a:Addr} {xs:List V}:H a=some (.lst xs)->(∀ y∈xs,Ev H n y)->Ev H (n+1) (.ref a)
 | tup {n:Nat} {a:Addr} {xs:List V}:H a=some (.tup xs)->(∀ y∈xs,Ev H n y)->Ev H (n+1) (.ref a)
theorem Ev.dv {H:Hp} {n:Nat} {x:V} (h:Ev H n x):Dv H x:=by
 cases h with
 | non=>exact .non
 | bl b=>exact .bl b
 | int i=>exact .int i
 | str h=>exact .str _
 | lst e _=>exact .lst e
 | tup e _=>exact .tup e
theorem Ev.parts {H:Hp} {n:Nat} {x:V} {zs:List V} (h:Ev H (n+1) x) (e:tupV H x=some zs):∀ z∈zs,Ev H n z:=by
 obtain ⟨a,rfl,ea⟩:=tupV_at e
 cases h with
 | lst e2 _=>rw [ea] at e2; cases e2
 | tup e2 p=>rw [ea] at e2; cases e2; exact p
theorem Ev.items {H:Hp} {n:Nat} {x:V} {zs:List V} (h:Ev H (n+1) x) (e:lstV H x=some zs):∀ z∈zs,Ev H n z:=by
 obtain ⟨a,rfl,ea⟩:=lstV_at e
 cases h with
 | tup e2 _=>rw [ea] at e2; cases e2
 | lst e2 p=>rw [ea] at e2; cases e2; exact p
theorem Ev.d2 {H:Hp} {n:Nat} {x:V} (h:Ev H (n+1) x):Dv2 H x:=⟨h.dv,fun zs e z hz=>(h.parts e z hz).dv⟩
theorem Ev.d3 {H:Hp} {n:Nat} {x:V} (h:Ev H (n+2) x) (l:∀ zs,lstV H x=some zs->zs.length<=1000):Dv3 H x:=⟨h.dv,fun zs e=>⟨l zs e,fun z hz=>(h.items e z hz).d2⟩⟩
theorem eqvAll_nil (ds:List PyData):PyData.eqv (.list ds) (.list [])=decide (ds.length=0):=by
 cases ds with
 | nil=>simp [PyData.eqv,PyData.eqvAll]
 | cons t r=>simp [PyData.eqv,PyData.eqvAll]
theorem shaped_nil0:SeqAt.shaped (.list [])=true:=by simp [SeqAt.shaped,PyData.canLay0,PyData.canLayAll0,PyData.depth,PyData.depthAll]
theorem Same.seqT {K:PySem.W.Frag} {H H':Hp} {a:Addr} {xs:List V} (e:Same H H') (h:SqT K H a xs):SqT K H' a xs:=by
 rcases h with (h | ⟨o,h⟩) | h
 ·exact .inl (.inl (e _ _ h))
 ·exact .inl (.inr ⟨o,e _ _ h⟩)
 ·exact .inr h
mutual
theorem rdv_same {K:PySem.W.Frag} {H H':Hp} (s:Same H H'):∀ {x:V} {d:PyData},RdV K H x d->RdV K H' x d
 | _,_,.non=>.non
 | _,_,.bl b=>.bl b
 | _,_,.int i=>.int i
 | _,_,.str x=>.str x
 | _,_,.lst h a=>.lst (s.seq h) (rda_same s a)
 | _,_,.tup h a=>.tup (Same.seqT s h) (rda_same s a)
theorem rda_same {K:PySem.W.Frag} {H H':Hp} (s:Same H H'):∀ {xs:List V} {ds:List PyData},RdAll K H xs ds->RdAll K H' xs ds
 | _,_,.nil=>.nil
 | _,_,.cons h1 h2=>.cons (rdv_same s h1) (rda_same s h2)
end
noncomputable def optV:Option Int->V
 | none=>.non
 | some y=>.int y
theorem line_of {n:Nat} (h:n<=16000000):n < sizeLine:=by
 have e:sizeLine=16777216:=by decide +kernel
 omega
theorem same_wr {H H1:Hp} {p:Addr} {o:HO} (hp:H p=none) (s:Same H H1):Same H (upd H1 p o):=fun b u e=>by
 rw [upd_ne (ne_of_none e hp)]
 exact s _ _ e
theorem SameT.trans {P:Addr} {H H1 H2:Hp} (a:SameT P H H1) (b:SameT P H1 H2):SameT P H H2:=fun c o e n=>b c o (a c o e n) n
theorem SameT.same {P:Addr} {H H1:Hp} (a:Same H H1):SameT P H H1:=fun c o e _=>a c o e
noncomputable def SameU (H H':Hp):Prop:=(∀ b o,H b=some o->(∀ z,o ≠ .tbl z)->H' b=some o)/\∀ b o,H b=some o->∃ o',H' b=some o'
theorem SameU.refl (H:Hp):SameU H H:=⟨fun _ _ e _=>e,fun _ o e=>⟨o,e⟩⟩
theorem SameU.trans {H H1 H2:Hp} (a:SameU H H1) (b:SameU H1 H2):SameU H H2:=⟨fun c o e n=>b.1 c o (a.1 c o e n) n,fun c o e=>by
 obtain ⟨o1,e1⟩:=a.2 c o e
 exact b.2 c o1 e1⟩
theorem SameU.of {H H1:Hp} (a:Same H H1):SameU H H1:=⟨fun c o e _=>a c o e,fun c o e=>⟨o,a c o e⟩⟩
theorem SameU.tab {H H1:Hp} {P:Addr} {pos pos':Pos} {q q':Str} (a:SameT P H H1) (t:TabOk H P pos q) (t':TabOk H1 P pos' q'):SameU H H1:=⟨fun c o e n=>a c o e fun z=>by
 obtain ⟨ps,hp,_⟩:=t
 rw [z,hp] at e
 exact n ps (Option.some.inj e).symm,fun c o e=>by
 by_cases z:c=P
 ·obtain ⟨ps,hp,_⟩:=t'
  exact ⟨_,by rw [z]; exact hp⟩
 ·exact ⟨o,a c o e z⟩⟩
theorem SameU.free {H H1:Hp} {p:Addr} (a:SameU H H1) (h:H1 p=none):H p=none:=by
 cases e:H p with
 | none=>rfl
 | some o =>
  obtain ⟨o',e'⟩:=a.2 p o e
  rw [h] at e'
  cases e'
theorem SameU.lst {H H1:Hp} {p:Addr} {xs:List V} (a:SameU H H1) (e:H p=some (.lst xs)):H1 p=some (.lst xs):=a.1 _ _ e fun _ z=>nomatch z
theorem SameU.tup {H H1:Hp} {p:Addr} {xs:List V} (a:SameU H H1) (e:H p=some (.tup xs)):H1 p=some (.tup xs):=a.1 _ _ e fun _ z=>nomatch z
theorem SameU.wr {H H1:Hp} {p:Addr} {o:HO} (hp:H p=none) (s:SameU H H1):SameU H (upd H1 p o):=⟨fun b u e n=>by
 rw [upd_ne (ne_of_none e hp)]
 exact s.1 _ _ e n,fun b u e=>by
 rw [upd_ne (ne_of_none e hp)]
 exact s.2 _ _ e⟩
theorem LA.u {α:Type} {enc:α->List V} {H H':Hp} {p:Addr} {xs:List α} (h:LA enc H p xs) (s:SameU H H'):LA enc H' p xs:=h.mono s.1
theorem Callee.imp {P:Program} {w:World} {K:PySem.W.Frag} {mg:Str->Option Value} {base:Heap} {k:Nat} {x:Str} {ps:List Str} {sp sp':Sp} (C:Callee P w K mg base k x ps sp) (h:∀ vs H Q E,sp' vs H Q E->sp vs H Q E):Callee P w K mg base k x ps sp':=by
 obtain ⟨f,fd,G,b,kp,m⟩:=C.ex
 exact ⟨f,fd,G.imp h,b,kp,m⟩
structure TB (T:Hp->Prop):Prop where
 same:∀ H H',T H->Same H H'->T H'
 wr:∀ H p xs ys,T H->H p=some (.lst xs)->T (upd H p (.lst ys))
section
variable {H H':Hp} {p:Addr} {R:List T3} {d:Int}
theorem la_mem {y:V} {vs:List V} (h:LA enc3 H p R) (hv:H p=some (.lst vs)) (hy:y∈vs):∃ r x,y=.ref r/\x∈R/\H r=some (.tup (enc3 x)):=by
 obtain ⟨vs',h1,h2,h3⟩:=h.lst
 rw [h1] at hv
 cases hv
 obtain ⟨i,hi⟩:=List.getElem?_of_mem hy
 obtain ⟨r,x,e1,e2,e3⟩:=h3 i y hi
 exact ⟨r,x,e1,List.mem_of_getElem? e2,e3⟩
theorem la_ev (h:LA enc3 H p R):Ev H 3 (.ref p):=by
 obtain ⟨vs,h1,h2,h3⟩:=h.lst
 refine .lst h1 fun y hy=>?_
 obtain ⟨r,x,rfl,_,e⟩:=la_mem h h1 hy
 refine .tup e fun z hz=>?_
 simp only [enc3,List.mem_cons,List.not_mem_nil,or_false] at hz
 rcases hz with rfl | rfl | rfl <;> exact .int _
theorem la_lst {vs:List V} (h:LA enc3 H p R) (e:lstV H (.ref p)=some vs):vs.length=R.length:=by
 obtain ⟨ws,h1,h2,h3⟩:=h.lst
 rw [lstV_of h1] at e
 cases e
 exact h2
theorem la_dv3 (h:LA enc3 H p R) (hl:R.length<=1000):Dv3 H (.ref p):=Ev.d3 (n:=1) (la_ev h) fun zs e=>by rw [la_lst h e]; exact hl
theorem la_board (h:LA enc3 H p R) (W:Ma.Wins d R):boardV H d (.ref p)=true:=by
 obtain ⟨vs,h1,h2,h3⟩:=h.lst
 unfold boardV
 rw [lstV_of h1]
 refine List.all_eq_true.mpr fun y hy=>?_
 obtain ⟨r,x,rfl,hx,e⟩:=la_mem h h1 hy
 obtain ⟨w0,w1,w2,w3⟩:=W x hx
 unfold winV
 rw [tupV_of e]
 simp [enc3,winL,w0,w1,w2,w3]
end
theorem cut_take (vs:List V) (h:Nat) (hh:h<=vs.length):cutV vs none (some (h:Int))=vs.take h:=by
 unfold cutV HT.sIx
 have h0:¬ (h:Int) < 0:=by omega
 simp only [if_neg h0,Int.toNat_natCast,List.drop_zero,Nat.sub_zero]
 rw [Nat.min_eq_left hh]
theorem cut_drop (vs:List V) (h:Nat) (hh:h<=vs.length):cutV vs (some (h:Int)) none=vs.drop h:=by
 unfold cutV HT.sIx
 have h0:¬ (h:Int) < 0:=by omega
 simp only [if_neg h0,Int.toNat_natCast]
 rw [Nat.min_eq_left hh,List.take_of_length_le]
 rw [List.length_drop]
 exact Nat.le_refl _
theorem LA.part {α:Type} {enc:α->List V} {H H':Hp} {p l:Addr} {xs:List α} {vs:List V} (h:LA enc H p xs) (s:Same H H') (hv:H p=some (.lst vs)) (lo hi:Nat) (e:H' l=some (.lst ((vs.drop lo).take hi))):LA enc H' l ((xs.drop lo).take hi):=by
 obtain ⟨rs,h1,h2,h3⟩:=h.ex
 rw [h1] at hv
 cases hv
 refine ⟨(rs.drop lo).take hi,by rw [e,<- List.map_drop,<- List.map_take],by simp [h2],fun i r x e1 e2=>?_⟩
 rw [List.getElem?_take] at e1 e2
 split at e1
 ·rw [List.getElem?_drop] at e1
  rename_i c
  rw [if_pos c,List.getElem?_drop] at e2
  exact s _ _ (h3 _ r x e1 e2)
 ·cases e1
noncomputable def datB (R:List T3):PyData:=.list (R.map dat3)
theorem eqvB (x y:List T3):PyData.eqv (datB x) (datB y)=decide (x=y):=eqv_list eqv3 x y
theorem canB (R:List T3):PyData.canLay0 (datB R)=true:=by
 simp only [datB,PyData.canLay0]
 exact canLay_map (fun x=>by simp [dat3,PyData.canLay0,PyData.canLayAll0]) R
theorem depB (R:List T3):PyData.depth (datB R)<=3:=by
 have:=depth_map (D:=dat3) (n:=2) (fun x=>by simp [dat3,PyData.depth,PyData.depthAll]) R
 simp only [datB,PyData.depth]
 omega
theorem shapedB (xs:List (List T3)):SeqAt.shaped (.list (xs.map datB))=true:=shaped_map (n:=3) canB depB (by decide) xs
theorem la_clear {α:Type} {enc:α->List V} {H:Hp} {q l:Addr} {xs:List α} {zs ys:List V} (h:LA enc H q xs) (hz:H l=some (.lst zs)) (nq:q ≠ l):LA enc (upd H l (.lst ys)) q xs:=by
 obtain ⟨rs,h1,h2,h3⟩:=h.ex
 refine ⟨rs,by rw [upd_ne nq]; exact h1,h2,fun i r x e e'=>?_⟩
 have h4:=h3 i r x e e'
 have nr:r ≠ l:=fun z=>by rw [z,hz] at h4; cases h4
 rw [upd_ne nr]
 exact h4
theorem la_ne {α β:Type} {enc:α->List V} {enc':β->List V} {H:Hp} {p l:Addr} {xs:List α} (h:LA enc H p xs) (hl:H l=none):p ≠ l:=fun e=>by
 obtain ⟨vs,h1,_⟩:=h.lst
 rw [e,hl] at h1
 cases h1
end My
namespace L2
open PySem PySem.Spec PyProof.Rows
section
variable {P:Program} {w:World} {H H':Hp} {h h1 h2:Heap} {a:Addr} {o:HO}
theorem ObjOk.there (x:ObjOk P w H h a o):∃ ob,h.get? a=some ob:=by
 cases o with
 | lst xs=>obtain ⟨_,_,_,_,e⟩:=x; exact ⟨_,e⟩
 | tup xs=>obtain ⟨_,_,_,ob,e,_⟩:=x; exact ⟨_,e⟩
 | dK kvs=>obtain ⟨_,_,_,_,o,_,_,e,_⟩:=x; exact ⟨_,e⟩
 | dT kvs=>obtain ⟨_,_,_,_,o,_,_,e,_⟩:=x; exact ⟨_,e⟩
 | set S n=>obtain ⟨o,_,_,_,e,_⟩:=x; exact ⟨_,e⟩
 | ins C dx fs=>obtain ⟨_,_,_,e,_⟩:=x; exact ⟨_,e⟩
 | own y=>exact x
 | xd fs=>obtain ⟨_,⟨_,_,_,e,_⟩,_⟩:=x; exact ⟨_,e⟩
 | rng lo hi=>obtain ⟨_,_,_,e⟩:=x; exact ⟨_,e⟩
 | frz ob u=>obtain ⟨e,_⟩:=x; exact ⟨_,e⟩
 | tbl ps=>exact ⟨_,show h.get? a=some _ from x⟩
 | met f y=>exact ⟨_,show h.get? a=some _ from x⟩
 | ext φ=>obtain ⟨_,e,_⟩:=x; exact e
theorem HOk.gone (x:HOk P w H h) (e:h.get? a=none):H a=none:=by
 cases q:H a with
 | none=>rfl
 | some o =>
  obtain ⟨ob,z⟩:=(x a o q).there
  rw [e] at z
  cases z
end
noncomputable def hides:List Addr->Heap->Heap
 | [],h=>h
 | a :: l,h=>(hides l h).hide a
theorem hides_in {b:Addr} {h:Heap}:∀ {l:List Addr},b∈l->(hides l h).get? b=none
 | a :: l,hb=>by
  show ((hides l h).hide a).get? b=none
  by_cases e:b=a
  ·rw [e]; exact Heap.hide_self _ _
  ·rw [Heap.hide_ne _ e]
   exact hides_in ((List.mem_cons.mp hb).resolve_left e)
theorem hides_out {b:Addr} {h:Heap}:∀ {l:List Addr},b ∉ l->(hides l h).get? b=h.get? b
 | [],_=>rfl
 | a :: l,hb=>by
  show ((hides l h).hide a).get? b=_
  have ne:b ≠ a:=fun e=>hb (by rw [e]; exact List.mem_cons_self)
  rw [Heap.hide_ne _ ne]
  exact hides_out fun z=>hb (List.mem_cons_of_mem _ z)
theorem hides_stays {h:Heap} {l:List Addr}:Heap.StaysIn (hides l h) h:=fun b o e=>by
 by_cases hb:b∈l
 ·rw [hides_in hb] at e; cases e
 ·rw [hides_out hb] at e; exact e
theorem frames_hid {h h1 base:Heap} {L:List Addr}:∀ {l:List Env},h.FunFrames base l->(∀ b∈frs l,b∈L)->(∀ b o,b∈frs l->h.get? b=some o->∃ sl,h1.get? b=some { o with slots:=sl })->h1.FunFrames (hides L h1) l
 | [],_,_,_=>trivial
 | env :: r,hl,hs,k=>by
  obtain ⟨hk,⟨L',o,hf,hn,ho,hd⟩,hr⟩:=hl
  have hL:L'∈frs (env :: r):=by unfold frs; rw [List.filterMap_cons,hf]; exact List.mem_cons_self
  have sub:∀ b∈frs r,b∈frs (env :: r):=fun b hb=>by unfold frs; rw [List.filterMap_cons,hf]; exact List.mem_cons_of_mem _ hb
  obtain ⟨sl,e⟩:=k L' o hL ho
  exact ⟨hk,⟨L',_,hf,hides_in (hs L' hL),e,hd⟩,frames_hid hr (fun b hb=>hs b (sub b hb)) fun b o hb=>k b o (sub b hb)⟩
noncomputable def Fly (h:Heap) (H':Hp) (h1:Heap) (a:Addr) (cls:Value):Prop:=h.get? a=none/\H' a=none/\∃ oe vs T oT ts a0,h1.get? a=some oe/\oe.cls=cls/\vs[0]?=some a0/\oe.data=.fields vs/\vs[1]?=some (.ref T)/\T ≠ a/\h1.get? T=some oT/\oT.data=.fields ts/\ts[3]?=some .none/\H' T=none/\h.get? T=none
noncomputable def CXE (P:Program) (w:World):CXT:=fun stk H s E e s'=>∃ a cls H',e=.ref a/\s'.os=s.os/\AllBare s'.gens/\Un (frs stk) [] H H' s.heap s'.heap/\HOk P w H' s'.heap/\Fly s.heap H' s'.heap a cls/\E cls none H'
section
variable {P:Program} {w:World} {H H':Hp} {h h1 h2 base:Heap} {a:Addr} {stk:List Env} {l:List Addr} {cls:Value}
theorem left_un (u:Un (frs stk) [] H H' h h1) (ok:HOk P w H' h1) (st:Heap.StaysIn (hides l h1) h2) (sl:∀ b o,h1.get? b=some o->(∀ vs,o.data ≠ .fields vs)->∃ sl,h2.get? b=some { o with slots:=sl })
  (fr:h.FunFrames base stk) (ff:∀ b∈frs stk,H b=none) (hl:∀ b∈l,b∈frs stk\/(h.get? b=none/\H' b=none)):Un (frs stk) [] H H' h h2/\HOk P w H' h2:=by
 have fk:∀ b∈frs stk,∃ o,h.get? b=some o/\∀ vs,o.data ≠ .fields vs:=fun b hb=>(fr.mem hb).2
 have ff':∀ b∈frs stk,H' b=none:=fun b hb=>by
  obtain ⟨o,ho,_⟩:=fk b hb
  exact u.free b o ho (ff b hb) (by simp)
 have stay:∀ b o,b ∉ l->h1.get? b=some o->h2.get? b=some o:=fun b o hb e=>st b o (by rw [hides_out hb]; exact e)
 refine ⟨⟨fun b o e n hb _=>?_,fun b o e n hb _=>?_,u.free,fun b o e hx=>?_,u.tups,u.frzs,u.tbls⟩,fun b o e=>?_⟩
 ·refine stay b o (fun z=>?_) (u.keep b o e n hb (by simp))
  rcases hl b z with z | z
  ·exact hb z
  ·rw [z.1] at e; cases e
 ·obtain ⟨s1,e1⟩:=u.slot b o e n hb (by simp)
  obtain ⟨o',e',d'⟩:=fk b hb
  rw [e] at e'
  cases e'
  obtain ⟨s2,e2⟩:=sl b _ e1 d'
  exact ⟨s2,e2⟩
 ·obtain ⟨o',e'⟩:=u.there b o e hx
  by_cases hb:b∈l
  ·rcases hl b hb with z | z
   ·obtain ⟨s1,e1⟩:=u.slot b o e (ff b z) z (by simp)
    obtain ⟨o2,e2,d2⟩:=fk b z
    rw [e] at e2
    cases e2
    obtain ⟨s2,e2⟩:=sl b _ e1 d2
    exact ⟨_,e2⟩
   ·rw [z.1] at e; cases e
  ·exact ⟨_,stay b o' hb e'⟩
 ·refine (ok b o e).stay (fun c v hc q=>stay c v (fun z=>?_) q) (fun _ q=>q) fun _ _ q=>q
  have hn:H' c=none:=by
   rcases hl c z with z | z
   ·exact ff' c z
   ·exact z.2
  rcases hc with rfl | hc
  ·rw [hn] at e; cases e
  ·rw [hn] at hc; cases hc
theorem left_fly {a0:Value} (ok:HOk P w H' h1) (hn:h.get? a=none) (hn':H' a=none) (sl:∀ b o,h1.get? b=some o->(∀ vs,o.data ≠ .fields vs)->∃ sl,h2.get? b=some { o with slots:=sl })
  (hl:∀ b∈l,(∃ o,h1.get? b=some o/\∀ vs,o.data ≠ .fields vs)\/(h.get? b=none/\H' b=none)) (th:∀ b o,h.get? b=some o->∃ o',h1.get? b=some o')
  (tr:Heap.TracedW h2 (hides l h1) a cls a0):Fly h H' h2 a cls:=by
 obtain ⟨oe,vs,T,oT,ts,e1,⟨e2,e3⟩,e4,e5,e6,e7,e8,e9,e10⟩:=tr
 have key:h.get? T=none/\H' T=none:=by
  by_cases hT:T∈l
  ·rcases hl T hT with ⟨o,z1,z2⟩ | z
   ·obtain ⟨s1,q⟩:=sl T o z1 z2
    rw [e8] at q
    cases q
    exact absurd e9 (z2 ts)
   ·exact z
  ·rw [hides_out hT] at e6
   refine ⟨?_,ok.gone e6⟩
   cases q:h.get? T with
   | none=>rfl
   | some o =>
    obtain ⟨o',q'⟩:=th T o q
    rw [e6] at q'
    cases q'
 exact ⟨hn,hn',oe,vs,T,oT,ts,a0,e1,e2,e3,e4,e5,e7,e8,e9,e10,key.2,key.1⟩
end
section
variable {X:Cx} {pins:List (Addr × Obj)} {σ:St} {H:Hp} {s:Shared} {E:XK} {e:Value} {s':Shared}
structure Own (X:Cx):Prop where
 stk:X.stack=X.env :: X.outer
 fr:X.env.frame=some X.env.locals
 ex:X.ex=[]
theorem leave_again {E':Value->Shared->Prop} (I:Inv X pins σ H s) (c:CXE X.prog X.w X.stack H s E e s') (O:Own X) (A:Around) (hA:A.frames=some X.stack) :
  wpAny (model X.prog X.w) A (leaving X.env e) (fun _ s''=>CXE X.prog X.w X.stack H s E e s'') E' s':=by
 obtain ⟨a,cls,H',rfl,os,bare,un,ok,⟨hn,hn',oe,vs,T,oT,ts,a0,e1,e2,e3,e4,e5,e6,e7,e8,e9,e10,e11⟩,q⟩:=c
 have fr:=I.stack
 have fk:∀ b∈frs X.stack,∃ o,s.heap.get? b=some o/\∀ vs,o.data ≠ .fields vs:=fun b hb=>(fr.mem hb).2
 have fs:∀ b o,b∈frs X.stack->s.heap.get? b=some o->∃ sl,s'.heap.get? b=some { o with slots:=sl }:=fun b o hb e=>un.slot b o e (I.stkFree b hb) hb (by simp)
 have fr':s'.heap.FunFrames (hides (a :: T :: frs X.stack) s'.heap) X.stack:=frames_hid fr (fun b hb=>by simp [hb]) fs
 refine wpAny_leaving_nextW (base:=hides (a :: T :: frs X.stack) s'.heap) (cls:=cls) (a0:=a0) (by rw [hA,O.stk]) (by rw [<- O.stk]; exact fr') O.fr ⟨oe,vs,T,oT,ts,e1,⟨e2,e3⟩,e4,e5,hides_in (by simp),e6,e7,e8,e9⟩ hides_stays (hides_in (by simp)) fun h2 L=>?_
 obtain ⟨st,_,tr,sl⟩:=L
 have hl:∀ b∈a :: T :: frs X.stack,b∈frs X.stack\/(s.heap.get? b=none/\H' b=none):=fun b hb=>by
  rcases List.mem_cons.mp hb with rfl | hb
  ·exact .inr ⟨hn,hn'⟩
  ·rcases List.mem_cons.mp hb with rfl | hb
   ·exact .inr ⟨e11,e10⟩
   ·exact .inl hb
 obtain ⟨u2,ok2⟩:=left_un un ok st sl fr I.stkFree hl
 refine ⟨a,cls,H',rfl,os,bare,u2,ok2,left_fly ok hn hn' sl (fun b hb=>?_) (fun b o e=>un.there b o e (by simp)) tr,q⟩
 rcases hl b hb with z | z
 ·obtain ⟨o,z1,z2⟩:=fk b z
  obtain ⟨s1,z3⟩:=fs b o z z1
  exact .inl ⟨_,z3,z2⟩
 ·exact .inr z
theorem leave_made {E':Value->Shared->Prop} {C:Value} {us:List Value} {x:Addr} {h':Heap} (I:Inv X pins σ H s) (m:Heap.MadeExcOf s.heap h' x C us) (O:Own X) (A:Around) (hA:A.frames=some X.stack) (q:E C none H) :
  wpAny (model X.prog X.w) A (leaving X.env (.ref x)) (fun _ s''=>CXE X.prog X.w X.stack H s E (.ref x) s'') E' { s with heap:=h' }:=by
 obtain ⟨t,e1,e2,e3⟩:=m.there
 have hn:=m.new
 have fr:=I.stack
 have hn':H x=none:=I.hok.gone hn
 have fk:∀ b∈frs X.stack,∃ o,s.heap.get? b=some o/\∀ vs,o.data ≠ .fields vs:=fun b hb=>(fr.mem hb).2
 have un:Un (frs X.stack) [] H H s.heap h':=Un.kept m.keeps
 have ok:HOk X.prog X.w H h':=I.hok.kept m.keeps
 have fs:∀ b o,b∈frs X.stack->s.heap.get? b=some o->∃ sl,h'.get? b=some { o with slots:=sl }:=fun b o hb e=>⟨o.slots,m.keeps b o e⟩
 have fr':h'.FunFrames (hides (x :: frs X.stack) h') X.stack:=frames_hid fr (fun b hb=>by simp [hb]) fs
 refine wpAny_leaving_firstW (base:=hides (x :: frs X.stack) h') (by rw [hA,O.stk]) (by rw [<- O.stk]; exact fr') O.fr e1 hides_stays (hides_in (by simp)) rfl rfl rfl fun h2 L=>?_
 obtain ⟨st,_,tr,sl⟩:=L
 have hl:∀ b∈x :: frs X.stack,b∈frs X.stack\/(s.heap.get? b=none/\H b=none):=fun b hb=>by
  rcases List.mem_cons.mp hb with rfl | hb
  ·exact .inr ⟨hn,hn'⟩
  ·exact .inl hb
 obtain ⟨u2,ok2⟩:=left_un un ok st sl fr I.stkFree hl
 refine ⟨x,C,H,rfl,rfl,I.bare,u2,ok2,left_fly ok hn hn' sl (fun b hb=>?_) (fun b o e=>⟨o,m.keeps b o e⟩) tr,q⟩
 rcases hl b hb with z | z
 ·obtain ⟨o,z1,z2⟩:=fk b z
  exact .inl ⟨_,m.keeps _ _ z1,z2⟩
 ·exact .inr z
theorem cx_drop (I:Inv X pins σ H s) (c:CXE X.prog X.w X.stack H s E e s') (O:Own X):CXE X.prog X.w X.outer X.H₀ X.s₀ E e s':=by
 obtain ⟨a,cls,H',rfl,os,bare,un,ok,⟨hn,hn',oe,vs,T,oT,ts,a0,e1,e2,e3,e4,e5,e6,e7,e8,e9,e10,e11⟩,q⟩:=c
 have J:Inv X pins σ H' s':=I.call' os un ok bare fun b z=>absurd z (by simp)
 have b:=J.base
 rw [O.ex] at b
 have old:∀ b,s.heap.get? b=none->X.s₀.heap.get? b=none:=fun b z=>by
  cases q:X.s₀.heap.get? b with
  | none=>rfl
  | some o =>
   obtain ⟨o',q'⟩:=I.base.there b o q (by rw [O.ex]; simp)
   rw [z] at q'
   cases q'
 exact ⟨a,cls,H',rfl,J.os,bare,b,ok,⟨old a hn,hn',oe,vs,T,oT,ts,a0,e1,e2,e3,e4,e5,e6,e7,e8,e9,e10,old T e11⟩,q⟩
end
noncomputable abbrev cxE (P:Program) (w:World) (K:PySem.W.Frag) (mg:Str->Option Value) (base:Heap) (N:List Str) (qual:Str) (scope:Scope) (f:Addr) (cd:Value) (A:Around) (outer:List Env) (s:Shared) (H:Hp) (E:XK):Cx:=cxOf (CXE P w) P w K mg base N qual scope f cd A outer s H E
section
variable {P:Program} {w:World} {K:PySem.W.Frag} {mg:Str->Option Value} {base:Heap} {N:List Str} {qual:Str} {scope:Scope} {f:Addr} {cd:Value} {A:Around} {outer:List Env} {s:Shared} {H:Hp} {E:XK}
theorem own_cxE:Own (cxE P w K mg base N qual scope f cd A outer s H E):=⟨rfl,rfl,rfl⟩
theorem passE:Passes (CXE P w) (cxE P w K mg base N qual scope f cd A outer s H E) E:=fun pins σ H1 s1 e s' I c =>
 wpAny_mono (leave_again (E':=fun _ _=>False) I c own_cxE _ I.ok.frames) (fun _ _ c2=>cx_drop I c2 own_cxE) fun _ _ z=>z.elim
noncomputable def Makes (X:Cx) (E:XK):Prop:=∀ (pins:List (Addr × Obj)) (σ:St) (H:Hp) (s:Shared) (C:Value) (us:List Value) (x:Addr) (h':Heap),Inv X pins σ H s->Heap.MadeExcOf s.heap h' x C us->E C none H->X.xe (.ref x) { s with heap:=h' }
theorem makeE:Makes (cxE P w K mg base N qual scope f cd A outer s H E) E:=fun pins σ H1 s1 C us x h' I m q =>
 wpAny_mono (leave_made (E':=fun _ _=>False) I m own_cxE _ I.ok.frames q) (fun _ _ c2=>cx_drop I c2 own_cxE) fun _ _ z=>z.elim
end
section
variable {X:Cx} {pins:List (Addr × Obj)} {σ:St} {H:Hp} {s:Shared} {E:XK} {e:Value} {s':Shared}
theorem flight_none {E':Value->Shared->Prop} {Q:Unit->Shared->Prop} {A:Around} (I:Inv X pins σ H s) (c:CXE X.prog X.w X.stack H s E e s') (q:∀ s'',CXE X.prog X.w X.stack H s E e s''->Q () s'') :
  wpAny (model X.prog X.w) A (setFlight e none) Q E' s':=by
 obtain ⟨a,cls,H',rfl,os,bare,un,ok,⟨hn,hn',oe,vs,T,oT,ts,a0,e1,e2,e3,e4,e5,e6,e7,e8,e9,e10,e11⟩,z⟩:=c
 have fr:=I.stack
 have fk:∀ b∈frs X.stack,∃ o,s.heap.get? b=some o/\∀ vs,o.data ≠ .fields vs:=fun b hb=>(fr.mem hb).2
 have fs:∀ b o,b∈frs X.stack->s.heap.get? b=some o->∃ sl,s'.heap.get? b=some { o with slots:=sl }:=fun b o hb e=>un.slot b o e (I.stkFree b hb) hb (by simp)
 have fr':s'.heap.FunFrames (hides (a :: T :: frs X.stack) s'.heap) X.stack:=frames_hid fr (fun b hb=>by simp [hb]) fs
 have hl:∀ b∈a :: T :: frs X.stack,b∈frs X.stack\/(s.heap.get? b=none/\H' b=none):=fun b hb=>by
  rcases List.mem_cons.mp hb with rfl | hb
  ·exact .inr ⟨hn,hn'⟩
  ·rcases List.mem_cons.mp hb with rfl | hb
   ·exact .inr ⟨e11,e10⟩
   ·exact .inl hb
 refine wpAny_setFlight_noneW (base:=hides (a :: T :: frs X.stack) s'.heap) (cls:=cls) (a0:=a0) (fl:=.none) hides_stays fr' ⟨oe,vs,T,oT,ts,e1,⟨e2,e3⟩,e4,e5,hides_in (by simp),e6,e7,e8,e9⟩ fun h2 st _ tr k=>q _ ?_
 have sl:∀ b o,s'.heap.get? b=some o->(∀ vs,o.data ≠ .fields vs)->∃ sl,h2.get? b=some { o with slots:=sl }:=fun b o z1 z2=>⟨o.slots,k b o z1 z2⟩
 obtain ⟨u2,ok2⟩:=left_un un ok st sl fr I.stkFree hl
 refine ⟨a,cls,H',rfl,os,bare,u2,ok2,left_fly ok hn hn' sl (fun b hb=>?_) (fun b o e=>un.there b o e (by simp)) tr,z⟩
 rcases hl b hb with z | z
 ·obtain ⟨o,z1,z2⟩:=fk b z
  obtain ⟨s1,z3⟩:=fs b o z z1
  exact .inl ⟨_,z3,z2⟩
 ·exact .inr z
theorem noted_here {E' E'':Value->Shared->Prop} {Q:Shared->Prop} {A:Around} (I:Inv X pins σ H s) (c:CXE X.prog X.w X.stack H s E e s') (O:Own X) (hA:A.frames=some X.stack) (q:∀ s'',CXE X.prog X.w X.stack H s E e s''->Q s'') :
  wpAny (model X.prog X.w) A (noteFrame e X.env) (fun _ s2=>wpAny (model X.prog X.w) A (setFlight e none) (fun _ s3=>Q s3) E' s2) E'' s':=by
 obtain ⟨a,cls,H',rfl,os,bare,un,ok,⟨hn,hn',oe,vs,T,oT,ts,a0,e1,e2,e3,e4,e5,e6,e7,e8,e9,e10,e11⟩,z⟩:=c
 have fr:=I.stack
 have fk:∀ b∈frs X.stack,∃ o,s.heap.get? b=some o/\∀ vs,o.data ≠ .fields vs:=fun b hb=>(fr.mem hb).2
 have fs:∀ b o,b∈frs X.stack->s.heap.get? b=some o->∃ sl,s'.heap.get? b=some { o with slots:=sl }:=fun b o hb e=>un.slot b o e (I.stkFree b hb) hb (by simp)
 have fr':s'.heap.FunFrames (hides (a :: T :: frs X.stack) s'.heap) X.stack:=frames_hid fr (fun b hb=>by simp [hb]) fs
 have hl:∀ b∈a :: T :: frs X.stack,b∈frs X.stack\/(s.heap.get? b=none/\H' b=none):=fun b hb=>by
  rcases List.mem_cons.mp hb with rfl | hb
  ·exact .inr ⟨hn,hn'⟩
  ·rcases List.mem_cons.mp hb with rfl | hb
   ·exact .inr ⟨e11,e10⟩
   ·exact .inl hb
 refine wpAny_noteFrame_onW (base:=hides (a :: T :: frs X.stack) s'.heap) (cls:=cls) (a0:=a0) (by rw [hA,O.stk]) (by rw [<- O.stk]; exact fr') O.fr ⟨oe,vs,T,oT,ts,e1,⟨e2,e3⟩,e4,e5,hides_in (by simp),e6,e7,e8,e9⟩ hides_stays (hides_in (by simp)) fun h1 N=>?_
 obtain ⟨st1,fr1,tr1,sl1⟩:=N
 refine wpAny_setFlight_noneW (base:=hides (a :: T :: frs X.stack) s'.heap) (cls:=cls) (a0:=a0) (l:=X.env :: X.outer) st1 fr1 tr1 fun h2 st _ tr k=>q _ ?_
 have sl:∀ b o,s'.heap.get? b=some o->(∀ vs,o.data ≠ .fields vs)->∃ sl,h2.get? b=some { o with slots:=sl }:=fun b o z1 z2=>by
  obtain ⟨sl,z3⟩:=sl1 b o z1 z2
  exact ⟨sl,k b _ z3 z2⟩
 obtain ⟨u2,ok2⟩:=left_un un ok st sl fr I.stkFree hl
 refine ⟨a,cls,H',rfl,os,bare,u2,ok2,left_fly ok hn hn' sl (fun b hb=>?_) (fun b o e=>un.there b o e (by simp)) tr,z⟩
 rcases hl b hb with z | z
 ·obtain ⟨o,z1,z2⟩:=fk b z
  obtain ⟨s1,z3⟩:=fs b o z z1
  exact .inl ⟨_,z3,z2⟩
 ·exact .inr z
end
noncomputable def bmV:List Value:=[.type "ValueError",.type "Exception",.type "BaseException",.type "object"]
structure ExC (K:PySem.W.Frag) (C:Addr) (bm:List Value):Prop where
 ex:∃ nm q N bs hdct sn sub ab col dd k0 k1 k2 k3 k5,K.lookup C=some (excClassObj nm q C N bs bm hdct sn sub ab col dd k0 k1 k2 k3 k5 "ValueError.__new__")/\PySem.W.nsOkIn K N=true/\PySem.W.nsIn K N "__init__" = some none
 tl:PySem.W.tailIn K bmV bm=true
 bx:bm.contains (.type "BaseException")=true
section
variable {X:Cx} {C:Addr} {bm:List Value} {E:XK} {x:Str} {np cpos pos:Pos} {e:Expr} {es:List Expr} {t:TA}
noncomputable def tRaise (C:Addr) (E:XK) (t:TA):TS:=fun _ σ H=>t σ H fun vs H1=>vs.length<=1000/\E (.ref C) none H1
theorem ps_raise (M:Makes X E) (c:ExC X.K C bm) (hg:Gl X x) (hm:X.mg x=some (.ref C)) (ha:PA X (e :: es) t) (hc:X.calm=true:=by rfl) (hdb:(x == ("__debug__" : Str))=false:=by decide)
  (he:starEach (e :: es) X.env=(false,eval e X.env) :: starEach es X.env:=by rfl) (hpl:(backTo cpos (starEach (e :: es) X.env)).any (·.1)=false:=by rfl) :
  PS X (.Raise (some (.Call (.Name x np) (e :: es) [] cpos)) none pos) (tRaise C E t):=by
 intro pins s σ H D I h
 obtain ⟨nm,q,N,bs,hdct,sn,sub,ab,col,dd,k0,k1,k2,k3,k5,l1,l2,l3⟩:=c.ex
 refine wpAny_Raise_call_subU (nm:=nm) (q:=q) (C:=C) (N:=N) (bs:=bs) (hdct:=hdct) (sn:=sn) (sub:=sub) (ab:=ab) (col:=col) (dd:=dd) (k0:=k0) (k1:=k1) (k2:=k2) (k3:=k3) (k5:=k5) (bm:=bm) (bmB:=bmV) (mN:=Heap.nsMap X.base N) PySem.F.excBase_ValueError (by decide) PySem.F.excBase_ValueError c.bx (I.ok.hd hc) hpl (PySem.W.nsMap_none_of_in I.ok.mod.kin l2 l3) ?_
 refine ld_glob I hg hm ⟨rfl,?_⟩ hdb
 have key:=thn (ha cpos pins s σ H _ I h) (Q':=fun us s1=>(us.length<=sizeLine)/\s1.heap.get? C=some (excClassObj nm q C N bs bm hdct sn sub ab col dd k0 k1 k2 k3 k5 "ValueError.__new__")/\s1.heap.Ns N (Heap.nsMap X.base N)/\OwnTail s1.heap bmV bm/\∀ (h':Heap) (e:Addr),Heap.MadeExcOf s1.heap h' e (.ref C) us->X.xe (.ref e) { s1 with heap:=h' }) fun us s1 ⟨vs,H1,I1,r,z,q1⟩=>?_
 ·rw [he] at key ⊢
  exact PySem.Calls.evalArgs_plain (wpAny_mono key (fun us s1 ⟨a1,a2,a3,a4,a5⟩=>⟨rfl,a1,a2,a3,a4,a5⟩) fun _ _ z=>z)
 ·refine ⟨?_,I1.kIn _ _ l1,(Heap.Ns.of_isNs (PySem.W.isNs_of_in I.ok.mod.kin l2)).keeps I1.bk,PySem.W.tail_of_in I1.kIn c.tl,fun h' e m=>M pins σ H1 s1 _ us e h' I1 m q1⟩
  rw [<- r.length]
  exact Nat.le_trans z (by decide)
end
structure CalleeX (P:Program) (w:World) (K:PySem.W.Frag) (mg:Str->Option Value) (base:Heap) (k:Nat) (x:Str) (ps:List Str) (sp:Sp):Prop where
 ex:∃ (f:Addr) (fd:FuncData),FnOk P w K mg base (CXE P w) k f fd ps sp/\Binds K fd ps []/\PySem.W.keepIn K (.ref f)=true/\mg x=some (.ref f)
section
variable {X:Cx} {k:Nat} {ps:List Str} {sp:Sp} {E:XK} {x:Str} {p pos pos':Pos} {e:Expr} {es:List Expr} {t:TA}
theorem CalleeX.up {P:Program} {w:World} {K:PySem.W.Frag} {mg:Str->Option Value} {base:Heap} {j:Nat} (c:CalleeX P w K mg base k x ps sp) (h:k<=j):CalleeX P w K mg base j x ps sp:=by
 obtain ⟨f,fd,F,b,kp,m⟩:=c.ex
 exact ⟨f,fd,F.mono h,b,kp,m⟩
theorem CalleeX.mk' {P:Program} {w:World} {K:PySem.W.Frag} {mg:Str->Option Value} {base:Heap} {f:Addr} {fd:FuncData} (G:FnOk P w K mg base (CXE P w) k f fd ps sp) (b:Binds K fd ps []) (kp:PySem.W.keepIn K (.ref f)=true) (m:mg x=some (.ref f)):CalleeX P w K mg base k x ps sp:=⟨f,fd,G,b,kp,m⟩
theorem pe_fnX (c:CalleeX X.prog X.w X.K X.mg X.base k x ps sp) (hr:Room k X.A) (hg:Gl X x) (hx:Passes (CXE X.prog X.w) X E) (ha:PA X (e :: es) t) (hdb:(x == ("__debug__" : Str))=false:=by decide)
  (he:starEach (e :: es) X.env=(false,eval e X.env) :: starEach es X.env:=by rfl) (hpl:(backTo pos (starEach es X.env)).any (·.1)=false:=by rfl):PE X (.Call (.Name x p) (e :: es) [] pos) (tCall sp [] E t):=by
 obtain ⟨f,fd,F,b,kp,m⟩:=c.ex
 exact pe_call F hr hg m kp b .nil hx ha hdb he hpl
noncomputable def CaughtX (X:Cx) (pins:List (Addr × Obj)) (σ:St) (E:XK) (e:Value) (s':Shared):Prop:=∃ H s,Inv X pins σ H s/\CXE X.prog X.w X.stack H s E e s'
noncomputable def PSx (X:Cx) (st:List Stmt) (t:XK->TS):Prop:=∀ (E:XK) (pins:List (Addr × Obj)) (s:Shared) (σ:St) (H:Hp) (D:Ends),Inv X pins σ H s->t E D σ H->wpAny (model X.prog X.w) X.A (execs st X.env) (SP X pins D) (CaughtX X pins σ E) s
noncomputable def PEx (X:Cx) (e:Expr) (t:XK->TE):Prop:=∀ (E:XK) (pins:List (Addr × Obj)) (s:Shared) (σ:St) (H:Hp) (Q:VK),Inv X pins σ H s->t E σ H Q->wpAny (model X.prog X.w) X.A (eval e X.env) (EP X pins σ Q) (CaughtX X pins σ E) s
theorem run_fnX {f:Addr} {fd:FuncData} {pins:List (Addr × Obj)} {σ:St} {H:Hp} {s:Shared} {Q:VK} {us:List Value} {vs:List V} (F:FnOk X.prog X.w X.K X.mg X.base (CXE X.prog X.w) k f fd ps sp) (hr:Room k X.A) (hb:Binds X.K fd ps [])
  (I:Inv X pins σ H s) (r:Vals vs us) (h:sp (vs ++ []) H Q E):wpAny (model X.prog X.w) X.A (call (.ref f) us) (EP X pins σ Q) (CaughtX X pins σ E) s:=by
 have r2:Vals (vs ++ []) (us ++ []):=r.append .nil
 have hl:(us ++ []).length=ps.length:=by rw [<- r2.length]; exact F.len _ _ _ _ h
 refine wpAny_call (codeAny_mono (F.run X.A X.stack s H ⟨us,[]⟩ (us ++ []) (vs ++ []) Q E hr I.env0 (hb s us I.kIn hl) r2 h) fun r s' hq=>?_)
 cases r with
 | error e=>exact ⟨H,s,I,hq⟩
 | ok fl =>
  cases fl with
  | ret u=>exact I.after hq
  | next=>exact False.elim hq
  | brk=>exact False.elim hq
  | cont=>exact False.elim hq
theorem pex_fn (c:CalleeX X.prog X.w X.K X.mg X.base k x ps sp) (hr:Room k X.A) (hg:Gl X x) (ha:PA X.nox (e :: es) t) (hdb:(x == ("__debug__" : Str))=false:=by decide)
  (he:starEach (e :: es) X.env=(false,eval e X.env) :: starEach es X.env:=by rfl) (hpl:(backTo pos (starEach es X.env)).any (·.1)=false:=by rfl) :
  PEx X (.Call (.Name x p) (e :: es) [] pos) (fun E=>tCall sp [] E t):=by
 obtain ⟨f,fd,F,b,kp,m⟩:=c.ex
 intro E pins s σ H Q I h
 refine wpAny_Call_Name_kw (ld_glob I hg m ?_ hdb)
 refine PySem.W.callWith_K (h₀:=X.base) I.ok.mod.kin kp (wpAny_mono (ha pos pins s σ H _ (I.wish _) h) (fun us s1 ⟨vs,H1,I1,r,q⟩=>⟨I1.kIn,?_⟩) fun _ _ z=>z.elim) he hpl
 exact run_fnX F hr b I1.unwish r q
theorem psx_expr {te:XK->TE} (he:PEx X e te) (hs:swapsWith e none pos.line X.env=pure false:=by rfl):PSx X [.Expr e pos] (fun E=>tDrop (te E)):=by
 intro E pins s σ H D I h
 have key:wpAny (model X.prog X.w) X.A (exec (.Expr e pos) X.env) (SP X pins D) (CaughtX X pins σ E) s:=wpAny_Expr_any (thn (he E pins s σ H _ I h) fun v s1 ⟨x,H1,I1,r1,q1⟩=>⟨σ,H1,I1,q1⟩) I.quiet hs
 refine wpAny_execs_cons (thn key fun f s1 q=>?_)
 cases f with
 | next=>exact wpAny_execs_nil q
 | ret v=>exact q
 | brk=>exact q
 | cont=>exact q
end
section
variable {M:Model} {A:Around} {E:Value->Shared->Prop} {h:Heap} {g:Array GenState} {d:Drawn} {t:Nat} {os:OsState} {a C C':Addr} {oe:Obj} {Q:Bool->Shared->Prop}
theorem exc_matches {nm q N bs bm hdct sn sub ab col dd k0 k1 k2 k3 k5 nw nm' q' N' bs' bm' hdct' sn' sub' ab' col' dd' k0' k1' k2' k3' k5' nw'} (hC:h.get? C=some (excClassObj nm q C N bs bm hdct sn sub ab col dd k0 k1 k2 k3 k5 nw)) (hC':h.get? C'=some (excClassObj nm' q' C' N' bs' bm' hdct' sn' sub' ab' col' dd' k0' k1' k2' k3' k5' nw'))
  (he:h.get? a=some oe) (hc:oe.cls=.ref C') (hb:bm.contains (.type "BaseException")=true) (z:Q ((Value.ref C' :: bm').contains (.ref C)) ⟨h,g,d,t,os⟩):wpAny M A (excMatches (.ref a) (.ref C)) Q E ⟨h,g,d,t,os⟩:=by
 have isX:∀ {Q':Bool->Shared->Prop},Q' true ⟨h,g,d,t,os⟩->wpAny M A (isExcClass (.ref C)) Q' E ⟨h,g,d,t,os⟩:=fun {Q'} q1=>by
  unfold isExcClass
  refine wpAny_bind ?_
  simp only [isType,loadHead]
  refine wpAny_bind (wpAny_loadPart_at hC (wpAny_pure (wpAny_ite_true rfl (wpAny_isSubtype_exc hC ?_))))
  rw [show (Value.ref C :: bm).contains (.type "BaseException")=true by rw [List.contains_cons,hb]; simp]
  exact q1
 unfold excMatches isInstance
 simp only [typeOf]
 refine wpAny_bind (wpAny_bind (wpAny_bind (wpAny_loadPart_at hC (wpAny_pure ?_))))
 refine wpAny_of_eq tc_notTuple (wpAny_ite_false rfl (wpAny_bind (wpAny_pure ?_)))
 refine wpAny_bind ?_
 simp only [List.forIn_cons,List.forIn_nil]
 refine wpAny_bind (wpAny_bind (isX (wpAny_ite_false rfl (wpAny_pure (wpAny_pure ?_)))))
 refine wpAny_bind (wpAny_bind (wpAny_loadPart_at he (wpAny_pure ?_)))
 rw [hc]
 refine wpAny_bind (wpAny_bind (wpAny_bind (wpAny_isSubtype_exc hC' ?_)))
 cases b:(Value.ref C' :: bm').contains (.ref C) with
 | true =>
  rw [b] at z
  exact wpAny_ite_true rfl (wpAny_pure (wpAny_pure (wpAny_pure z)))
 | false =>
  rw [b] at z
  exact wpAny_ite_false rfl (wpAny_pure (wpAny_pure (wpAny_pure z)))
end
noncomputable abbrev Cx.inH (X:Cx) (a:Addr):Cx:={ X with A:=X.A.mark (some (.ref a)),calm:=false,xe:=fun _ _=>False }
section
variable {X:Cx} {pins:List (Addr × Obj)} {σ:St} {H:Hp} {s:Shared} {a:Addr}
theorem Inv.inH (I:Inv X pins σ H s) (a:Addr):Inv (X.inH a) pins σ H s :=
 ⟨⟨I.ok.mod,I.ok.kind,I.ok.glob,I.ok.blt,I.ok.above,I.ok.inj,I.ok.has,I.ok.cab,(fun z=>nomatch z),I.ok.frames,I.ok.stk,I.ok.exf,I.ok.bs,I.ok.bsz,I.ok.noex,I.ok.exfs,I.ok.funs,I.ok.frf⟩,I.os,I.bare,I.base,I.loc,I.cell,I.free,I.freeC,I.pin,I.hok,I.len⟩
theorem Inv.outH (ok:X.Ok) (I:Inv (X.inH a) pins σ H s):Inv X pins σ H s:=⟨ok,I.os,I.bare,I.base,I.loc,I.cell,I.free,I.freeC,I.pin,I.hok,I.len⟩
theorem CXE.inv {E:XK} {e:Value} {s':Shared} (I:Inv X pins σ H s) (c:CXE X.prog X.w X.stack H s E e s'):∃ a cls H',e=.ref a/\Inv X pins σ H' s'/\(∃ oe,s'.heap.get? a=some oe/\oe.cls=cls)/\E cls none H':=by
 obtain ⟨a,cls,H',rfl,os,bare,un,ok,⟨hn,hn',oe,vs,T,oT,ts,a0,e1,e2,_⟩,z⟩:=c
 exact ⟨a,cls,H',rfl,I.call' os un ok bare fun b z=>absurd z (by simp),⟨oe,e1,e2⟩,z⟩
end
section
variable {X:Cx} {body suite:List Stmt} {b0:Stmt} {tb:XK->TS} {th:TS} {C:Addr} {bm:List Value} {x:Str} {np hpos pos:Pos}
end
end L2
namespace L2
open PySem PySem.W PySem.Calls PyProof.Rows
noncomputable def ExQ (a D:Addr):Heap->Prop:=fun h=>∃ ox:Obj,h.get? a=some ox/\ox.cls=.ref D
structure ExK (K:Frag) (D:Addr):Prop where
 cl:(clsIn K D).isSome=true
 ga:findIn K (.ref D) "__getattribute__" = some (some (.builtin "BaseException.__getattribute__"))
 gt:findIn K (.ref D) "__getattr__" = some none
 ca:findIn K (.ref D) "__class__" = some (some (.builtin "object.__class__"))
 gg:specialIn K (.builtin "object.__class__") "__get__" = some (some (.builtin "getset_descriptor.__get__"))
 tk:takesIn K (.builtin "object.__class__")=some true
 mo:mroIn K D (.type "object")=some true
 mb:mroIn K D (.type "BaseException")=some true
section
variable {prog:Program} {w:World} {A:Around} {E:Value->Shared->Prop} {s:Shared} {K:Frag} {a D:Addr}
theorem ExQ.type {M:Model} {h:Heap} (I:ExQ a D h):Looks M h (typeOf (.ref a)) (.ref D):=by
 obtain ⟨ox,e1,e2⟩:=I
 exact e2 ▸ (Looks.ld e1).andThen .now
theorem looks_findD {M:Model} {h:Heap} (X:K.In h) (c:ExK K D):Looks M h (Builtin.ObjectAttr.find (.ref a) (.ref D) "__class__") (.bind (.builtin "getset_descriptor.__get__") (.builtin "object.__class__")):=by
 have L1:=looks_findIn (M:=M) X c.ca
 have L2:Looks M h (Builtin.ObjectAttr.getOf (some (.builtin "object.__class__"))) (some (.builtin "getset_descriptor.__get__")):=looks_specialIn X c.gg
 have L3:=looks_takesIn (M:=M) X c.tk
 exact L1.andThen (L2.andThen ((show Looks M h (Builtin.ObjectAttr.dataDescriptor? (some (.builtin "object.__class__")) (some (.builtin "getset_descriptor.__get__"))) (some (.builtin "getset_descriptor.__get__",.builtin "object.__class__")) from L3.andThen .now).andThen (Looks.tag .now)))
theorem class_getX {R:Result->Shared->Prop} {tp:Value} (X:K.In s.heap) (I:ExQ a D s.heap) (c:ExK K D) (h:R (.ok (.ret (.ref D))) s):codeAny (model prog w) A (.call (.builtin "getset_descriptor.__get__") ⟨[.builtin "object.__class__",.ref a,tp],[]⟩) R s:=by
 obtain ⟨hh,g,dr,t,os⟩:=s
 have L0:=I.type (M:=model prog w)
 have L1:=looks_mroIn (M:=model prog w) X c.mo
 refine codeAny_call_builtin KF.slot_gs.plain KF.entry_gs (KF.slot_gs.check _ _ _ _ _ _ _ _ KF.type_class (KF.args_gs _ _ _) ?_)
 unfold Builtin.«getset_descriptor.__get__» Builtin.Getset_descriptor.descrGet
 rw [dga_obj]
 refine wpAny_bind (wpAny_pure ?_)
 unfold Builtin.Getset_descriptor.descrGetter Builtin.Getset_descriptor.descrCheckInstance Builtin.Getset_descriptor.descrNameAndClass isInstance
 simp only [KF.owner_class]
 repeat lk
 refine ⟨Code.quiet_builtin _ (by decide +kernel),codeAny_builtin KF.entry_class ?_⟩
 unfold Builtin.«object.__class__» shownTypeOf
 repeat lk
 exact h
theorem check_ga {M:Model} {nameV:Value} {Q:Unit->Shared->Prop} (X:K.In s.heap) (I:ExQ a D s.heap) (c:ExK K D) (hq:Q () s):wpAny M A (checkBuiltinCall "BaseException.__getattribute__" ⟨[.ref a,nameV],[]⟩) Q E s:=by
 obtain ⟨hh,g,d,t,os⟩:=s
 have L0:=I.type (M:=M)
 have L3:=looks_mroIn (M:=M) X c.mb
 have hk:builtinKind "BaseException.__getattribute__" = some .slot:=by decide +kernel
 have hsplit:splitId "BaseException.__getattribute__" = some ("BaseException","__getattribute__"):=by decide +kernel
 have ha:=PySem.F.args_bexc_ga (.ref a) nameV
 simp only [checkBuiltinCall,hk,hsplit]
 refine wpAny_bind ?_
 unfold isInstance
 repeat (first | lk | wp_step)
 exact hq
theorem exc_class {Q:Option Value->Shared->Prop} (X:K.In s.heap) (I:ExQ a D s.heap) (c:ExK K D) (h:Q (some (.ref D)) { s with toks:=s.toks+1 }):wpAny (model prog w) A (getAttr? (.ref a) "__class__") Q E s:=by
 obtain ⟨hh,g,d,t,os⟩:=s
 have L0:=I.type (M:=model prog w)
 have L1:=looks_findIn (M:=model prog w) X c.ga
 have L2:=looks_findIn (M:=model prog w) X c.gt
 have L3:=looks_mroIn (M:=model prog w) X c.mb
 have L4:=looks_findD (M:=model prog w) (a:=a) X c
 unfold getAttr? getAttrBy? getAttrBy
 refine wpAny_bind (wpAny_mkText (wpAny_bind (wpAny_attempt (wpAny_holding (wpAny_bind (L0.at (wpAny_bind (L1.at ?_))))))))
 have hx2:(Value.builtin "BaseException.__getattribute__" == Value.builtin "object.__getattribute__")=false:=by decide +kernel
 refine wpAny_ite_false (by rw [hx2]; rfl) ?_
 unfold getAttrByItsOwn hookBefore
 refine wpAny_bind (wpAny_ite_true rfl (L2.at ?_))
 refine wpAny_bind (wpAny_attempt (wpAny_holding ?_))
 unfold callGetattribute
 refine wpAny_ite_false rfl ?_
 unfold boundAndCalled
 refine wpAny_bind (wpAny_of_eq (PySem.F.attrBase_ValueError.ga.bind (.ref a)) ?_)
 refine wpAny_call (codeAny_call_builtin PySem.F.attrBase_ValueError.ga.plain PySem.F.entry_bexc_ga (check_ga X I c ?_))
 unfold Builtin.«object.__getattribute__»
 refine wpAny_bind (wpAny_pure ?_)
 refine wpAny_bind (wpAny_pure (wpAny_bind (L0.at (wpAny_bind (L4.at ?_)))))
 show wpAny _ _ (holding [Value.builtin "object.__class__"] (call (.builtin "getset_descriptor.__get__") [.builtin "object.__class__",.ref a,.ref D]) >>= ret) _ _ _
 refine wpAny_bind (wpAny_holding (wpAny_call (class_getX X I c ?_)))
 exact wpAny_pure (wpAny_pure (wpAny_pure h))
theorem kitx_exc (c:ExK K D):KitX K (.ref a) (.ref D) (ExQ a D) where
 ty:=fun _ _ _ I=>I.type
 it:=fun _ _ X _=>by
  obtain ⟨cdD,hcD⟩:=Option.isSome_iff_exists.mp c.cl
  unfold clsIn at hcD
  split at hcD
  ·rename_i c' d' cd' sl' ho
   intro A' Q' E' s' k q
   unfold isType loadHead
   exact wpAny_bind (wpAny_loadPart (k _ _ (X _ _ ho)) (wpAny_pure q))
  ·cases hcD
 ne:=fun h tp dd its n sl X htp=>by
  obtain ⟨cdD,hcD⟩:=Option.isSome_iff_exists.mp c.cl
  refine Bool.eq_false_iff.mpr fun q=>?_
  have e:D=tp:=Value.ref.inj (beq_iff_eq.mp q)
  subst e
  unfold clsIn at hcD
  split at hcD
  ·rename_i c' d' cd' sl' ho
   have z:=(X _ _ ho).symm.trans htp
   cases z
  ·cases hcD
 ca:=fun X I k=>exc_class X I c k
end
section
variable {X:Cx} {pins:List (Addr × Obj)} {σ:St} {H:Hp} {s:Shared}
theorem unbind_ok {M:Model} {A:Around} {E:Value->Shared->Prop} {i:Nat} {x:Str} {v:V} {Q:Unit->Shared->Prop} (I:Inv X pins σ H s) (hN:X.N.Nodup) (hi:X.N[i]?=some x) (hk:X.env.scope.names.lookup x=some .local) (hv:σ[i]?=some (some v))
  (h:∀ s',Inv X pins (σ.set i none) H s'->Q () s'):wpAny M A (unbindName X.env x) Q E s:=by
 obtain ⟨m,hn,hl⟩:=id I.loc
 have hcls:(X.env.scope.kind == .class || (X.env.scope.kind == .module && X.env.locals != X.env.globals))=false:=by rw [I.ok.kind]; rfl
 have hiσ:i < σ.length:=by rw [I.len]; exact (List.getElem?_eq_some_iff.mp hi).1
 have cne:=I.cne
 obtain ⟨u0,_,lk⟩:=hl i x v hi hv (.inl hk)
 have mx:m x=some u0:=by
  rcases lk with ⟨_,z⟩ | ⟨z,_⟩
  ·exact z
  ·have z:X.env.scope.names.lookup x=some .cell\/X.env.scope.names.lookup x=some .free:=z
   rw [hk] at z
   rcases z with z | z <;> cases z
 refine wpAny_unbindName_local hk hn mx hcls fun h' u hn' hs=>?_
 obtain ⟨oL,_,_,hoL,_⟩:=id hn
 refine h _ ⟨I.ok,I.os,I.bare,⟨fun b o e n hb hx=>?_,fun b o e n hb hx=>?_,I.base.free,fun b o e hx=>?_,I.base.tups,I.base.frzs,I.base.tbls⟩,⟨_,hn',fun j y v' e1 e2 e3=>?_⟩,fun y c e=>?_,I.free,I.freeC,fun p hp=>?_,fun b ob e=>?_,by simpa using I.len⟩
 ·exact (hs.2 b (Nat.ne_of_lt (Nat.lt_of_lt_of_le (Heap.lt_size e) I.ok.above))).trans (I.base.keep b o e n hb hx)
 ·obtain ⟨sl,e1⟩:=I.base.slot b o e n hb hx
  exact ⟨sl,(hs.2 b (Nat.ne_of_lt (Nat.lt_of_lt_of_le (Heap.lt_size e) I.ok.above))).trans e1⟩
 ·obtain ⟨o',e1⟩:=I.base.there b o e hx
  exact ⟨o',(hs.2 b (Nat.ne_of_lt (Nat.lt_of_lt_of_le (Heap.lt_size e) I.ok.above))).trans e1⟩
 ·by_cases hj:j=i
  ·subst hj
   rw [List.getElem?_set_self hiσ] at e2
   cases e2
  ·rw [List.getElem?_set_ne (Ne.symm hj)] at e2
   obtain ⟨u',r',q⟩:=hl j y v' e1 e2 e3
   refine ⟨u',r',?_⟩
   rcases q with ⟨k,e⟩ | ⟨k,c,e,z⟩
   ·refine .inl ⟨k,?_⟩
    have:y ≠ x:=fun e=>hj (nodup_ix hN e1 (e ▸ hi))
    simp [this,e]
   ·exact .inr ⟨k,c,e,z.sameBut hs (cne y c e)⟩
 ·obtain ⟨w',z⟩:=I.cell y c e
  exact ⟨w',z.sameBut hs (cne y c e)⟩
 ·obtain ⟨e,n,ne,nf,d⟩:=I.pin p hp
  exact ⟨(hs.2 p.1 ne).trans e,n,ne,nf,d⟩
 ·refine (I.hok b ob e).stay (fun c w' hc q=>(hs.2 c ?_).trans q) (fun _ q=>q) fun _ _ q=>q
  rintro rfl
  rcases hc with rfl | hc
  ·rw [I.free] at e; cases e
  ·rw [I.free] at hc; cases hc
theorem CXE.track {E:XK} {e:Value} {s':Shared} {D:Addr} (hD:∀ cls H',E cls none H'->cls=.ref D) (I:Inv X pins σ H s) (c:CXE X.prog X.w X.stack H s E e s') :
  ∃ a H',e=.ref a/\H' a=none/\Inv X pins σ (upd H' a (.ext (ExQ a D))) s'/\E (.ref D) none H':=by
 obtain ⟨a,cls,H',rfl,os,bare,un,ok,⟨hn,hn',oe,vs,T,oT,ts,a0,e1,e2,_⟩,z⟩:=c
 have hc:=hD cls H' z
 subst hc
 have ne:∀ b o,H' b=some o->b ≠ a:=fun b o q z=>by rw [z,hn'] at q; cases q
 have ne0:∀ b o,s.heap.get? b=some o->b ≠ a:=fun b o q z=>by rw [z,hn] at q; cases q
 refine ⟨a,H',rfl,hn',I.call' os ⟨un.keep,un.slot,fun b o e n hx=>?_,un.there,fun b xs q=>?_,fun b o u q=>?_,fun b ps q=>?_⟩ (fun b o q=>?_) bare (fun b z=>absurd z (by simp)),z⟩
 ·rw [upd_ne (ne0 b o e)]; exact un.free b o e n hx
 ·have:=un.tups b xs q
  rw [upd_ne (ne b _ this)]; exact this
 ·have:=un.frzs b o u q
  rw [upd_ne (ne b _ this)]; exact this
 ·obtain ⟨m,this⟩:=un.tbls b ps q
  exact ⟨m,by rw [upd_ne (ne b _ this)]; exact this⟩
 ·by_cases hb:b=a
  ·subst hb
   rw [upd_same] at q
   cases q
   exact ⟨⟨oe,e1,e2⟩,⟨oe,e1⟩,fun h1 h2 ⟨ox,q1,q2⟩ k=>⟨ox,k ox q1,q2⟩⟩
  ·rw [upd_ne hb] at q
   refine (ok b o q).stay (fun _ _ _ z=>z) (fun c z=>?_) fun c xs z=>?_
   ·rw [upd_ne (ne c _ z)]; exact z
   ·rw [upd_ne (ne c _ z)]; exact z
noncomputable def clsV:V->Option Value
 | .ref C=>some (.ref C)
 | .ty T=>some (.type T)
 | _=>none
theorem clsV_rel {v:V} {u c:Value} (r:RelV v u) (h:clsV v=some c):u=c:=by
 cases v <;> cases h
 ·exact r
 ·exact r
theorem call_isiX:CallR X (.builtin "isinstance") (fun xs H Q=>∃ (a D:Addr) (c:V) (b:Bool),xs=[.ref a,c]/\H a=some (.ext (ExQ a D))/\ExK X.K D /\
  ((∃ v,clsV c=some v/\PySem.W.kitOne X.K (.ref D) v=some b)\/∃ tp vs its,c=.ref tp/\SqT X.K H tp vs/\vs.map clsV=its.map some/\PySem.W.kitAny X.K (.ref D) its=some b)/\Q (.bl b) H):=by
 intro pins s σ H xs us Q I r h
 obtain ⟨a,D,c,b,rfl,ea,ck,alt,q⟩:=h
 obtain ⟨u,v,rfl,r1,r2⟩:=Vals.two r
 cases (show u=Value.ref a from r1)
 obtain ⟨ex,_⟩:=(show ObjOk X.prog X.w H s.heap a (.ext (ExQ a D)) from I.hok a _ ea)
 rcases alt with ⟨w',h1,h2⟩ | ⟨tp,vs,its,rfl,h1,h2,h3⟩
 ·cases clsV_rel r2 h1
  exact PySem.W.kia_one (kitx_exc ck) I.kIn ex h2 (fun z=>nomatch z) fun tk=>⟨.bl b,H,I.tok tk,rfl,q⟩
 ·cases (show v=Value.ref tp from r2)
  obtain ⟨its',r3,⟨o,o1,o2,n,o3⟩,hz⟩:=I.tuple h1
  have e:its'=its:=by
   clear h3 o3 h1 hz
   induction r3 generalizing its with
   | nil=>cases its with | nil=>rfl | cons _ _=>cases h2
   | cons ra _ ih =>
    cases its with
    | nil=>cases h2
    | cons y ys =>
     rw [List.map_cons,List.map_cons,List.cons.injEq] at h2
     rw [clsV_rel ra h2.1,ih _ h2.2]
  subst e
  obtain ⟨oc,od,odt,osl⟩:=o
  cases o2
  cases o3
  exact PySem.W.kia_tup (kitx_exc ck) I.kIn ex o1 h3 (fun z=>nomatch z) fun tk=>⟨.bl b,H,I.tok tk,rfl,q⟩
end
section
variable {X:Cx} {body suite:List Stmt} {b0:Stmt} {tb:XK->TS} {th:TS} {C:Addr} {bm:List Value} {x n:Str} {i:Nat} {np hpos pos:Pos}
end
structure QEx (X:Cx) (e:Expr) (t:XK->TE):Prop where
 run:PEx X e t
structure QSx (X:Cx) (st:List Stmt) (t:XK->TS):Prop where
 run:PSx X st t
section
variable {X:Cx} {E:XK} {x n:Str} {p np cpos hpos pos:Pos} {e:Expr} {es:List Expr} {t:TA} {k i:Nat} {ps:List Str} {sp:Sp} {body suite:List Stmt} {b0:Stmt} {tb:XK->TS} {th:TS} {C:Addr} {bm:List Value}
theorem qs_raise (M:Makes X E) (c:ExC X.K C bm) (hg:Gl X x) (hm:X.mg x=some (.ref C)) (ha:QA X (e :: es) t) (hc:X.calm=true:=by rfl) (hdb:(x == ("__debug__" : Str))=false:=by decide)
  (he:notStar e=true:=by rfl) (hpl:(backTo cpos (starEach (e :: es) X.env)).any (·.1)=false:=by rfl):QS X (.Raise (some (.Call (.Name x np) (e :: es) [] cpos)) none pos) (tRaise C E t):=⟨ps_raise M c hg hm ha.run hc hdb (se_of he) hpl⟩
theorem qe_fnX (c:CalleeX X.prog X.w X.K X.mg X.base k x ps sp) (hr:Room k X.A) (hg:Gl X x) (hx:Passes (CXE X.prog X.w) X E) (ha:QA X (e :: es) t) (hdb:(x == ("__debug__" : Str))=false:=by decide)
  (he:notStar e=true:=by rfl) (hpl:(backTo pos (starEach es X.env)).any (·.1)=false:=by rfl):QE X (.Call (.Name x p) (e :: es) [] pos) (tCall sp [] E t):=⟨pe_fnX c hr hg hx ha.run hdb (se_of he) hpl⟩
theorem qex_fn (c:CalleeX X.prog X.w X.K X.mg X.base k x ps sp) (hr:Room k X.A) (hg:Gl X x) (ha:QA X.nox (e :: es) t) (hdb:(x == ("__debug__" : Str))=false:=by decide)
  (he:notStar e=true:=by rfl) (hpl:(backTo pos (starEach es X.env)).any (·.1)=false:=by rfl):QEx X (.Call (.Name x p) (e :: es) [] pos) (fun E=>tCall sp [] E t):=⟨pex_fn c hr hg ha.run hdb (se_of he) hpl⟩
theorem qsx_expr {te:XK->TE} (he:QEx X e te) (hs:swapsWith e none pos.line X.env=pure false:=by rfl):QSx X [.Expr e pos] (fun E=>tDrop (te E)):=⟨psx_expr he.run hs⟩
theorem qe_cls (hg:Gl X x) (hm:X.mg x=some (.ref C)) (hd:(x == ("__debug__" : Str))=false:=by decide):QE X (.Name x pos) (tC (.ref C)):=⟨pe_glob hg hm rfl hd⟩
theorem qe_tyB {T:String} (hg:Gl X x) (hm:X.mg x=none) (hv:bootBuiltins x=some (.type T)) (hn:x ≠ "__name__" := by decide) (hd:(x == ("__debug__" : Str))=false:=by decide):QE X (.Name x pos) (tC (.ty T)):=⟨pe_bltn hg hm hv rfl hn hd⟩
theorem qcall_isiX:QCall X (.builtin "isinstance") (fun xs H Q=>∃ (a D:Addr) (c:V) (b:Bool),xs=[.ref a,c]/\H a=some (.ext (ExQ a D))/\ExK X.K D /\
  ((∃ v,clsV c=some v/\PySem.W.kitOne X.K (.ref D) v=some b)\/∃ tp vs its,c=.ref tp/\SqT X.K H tp vs/\vs.map clsV=its.map some/\PySem.W.kitAny X.K (.ref D) its=some b)/\Q (.bl b) H):=⟨call_isiX⟩
theorem qcall_isiXK (K:PySem.W.Frag) (hK:X.K=K):QCall X (.builtin "isinstance") (fun xs H Q=>∃ (a D:Addr) (c:V) (b:Bool),xs=[.ref a,c]/\H a=some (.ext (ExQ a D))/\ExK K D /\
  ((∃ v,clsV c=some v/\PySem.W.kitOne K (.ref D) v=some b)\/∃ tp vs its,c=.ref tp/\SqT K H tp vs/\vs.map clsV=its.map some/\PySem.W.kitAny K (.ref D) its=some b)/\Q (.bl b) H):=by subst hK; exact qcall_isiX
end
section
variable {P:Program} {w:World} {K:PySem.W.Frag} {mg:Str->Option Value} {base:Heap} {N:List Str} {qual:Str} {scope:Scope} {f:Addr} {cd:Value} {A:Around} {outer:List Env} {s:Shared} {H:Hp} {E:XK}
theorem own0 {CX:CXT}:Own (cxOf CX P w K mg base N qual scope f cd A outer s H E).nox:=⟨rfl,rfl,rfl⟩
theorem Fun.okX {x:Str} {st:Stmt} {fd:FuncData} {ps:List Str} {k:Nat} {sp:Sp} (F:Fun K x qual st f fd) (S:FnScope N ps (defScope st)) (len:∀ vs H Q E,sp vs H Q E->vs.length=ps.length)
  (hbody:∀ (cdv:Value) (A:Around) (outer:List Env) (s:Shared) (H:Hp) (vs:List V) (Q:VK) (E:XK),Room k (A.deeper (envOfC qual (defScope st) s.heap.objs.size f cdv))->sp vs H Q E ->
   ∃ t,QSs (cxE P w K mg base N qual (defScope st) f cdv A outer s H E) (defBody st) t/\t { nx:=fun _ H'=>Q .non H',rt:=Q } (start N vs) H):FnOk P w K mg base (CXE P w) (k+1) f fd ps sp:=by
 obtain ⟨oc,od,kV,doc,pm,an,cdv,ct,osl,rfl,lk,hcd⟩:=F.ex
 refine fn_of lk hcd S len fun A outer s H vs Q E hr hsp=>?_
 obtain ⟨t,h1,h2⟩:=hbody cdv A outer s H vs Q E hr hsp
 exact ⟨t,h1.run,h2⟩
end
section
variable {K:PySem.W.Frag} {C D:Addr}
theorem exc_of {nm q N bs bm hdct sn sub ab col dd k0 k1 k2 k3 k5} (l:K.lookup C=some (excClassObj nm q C N bs bm hdct sn sub ab col dd k0 k1 k2 k3 k5 "ValueError.__new__"))
  (e:PySem.W.excIn K C [.type "ValueError",.type "Exception",.type "BaseException",.type "object"] "ValueError.__new__" = true) (b:bm.contains (.type "BaseException")=true):ExC K C bm:=by
 unfold PySem.W.excIn at e
 rw [l] at e
 simp only [excClassObj,Bool.and_eq_true,beq_iff_eq] at e
 obtain ⟨⟨⟨_,ht⟩,hok⟩,hni⟩:=e
 exact ⟨⟨nm,q,N,bs,hdct,sn,sub,ab,col,dd,k0,k1,k2,k3,k5,l,hok,hni⟩,ht,b⟩
theorem kit_no {cd:ClassData} (c:PySem.W.clsIn K C=some cd) (t:PySem.W.typeIn K (.ref C)=some (.type "type")) (s:PySem.W.subIn K (.ref D) (.ref C)=some false) (ne:D ≠ C):PySem.W.kitOne K (.ref D) (.ref C)=some false:=by
 unfold PySem.W.kitOne
 rw [if_neg (by simp [ne])]
 unfold PySem.W.kitCls
 dsimp only
 rw [c,t]
 simp only [Option.isSome_some,Bool.true_and,beq_self_eq_true,if_true]
 exact s
theorem kit_yes {cd:ClassData} (c:PySem.W.clsIn K C=some cd) (t:PySem.W.typeIn K (.ref C)=some (.type "type")) (s:PySem.W.subIn K (.ref D) (.ref C)=some true) (ne:D ≠ C):PySem.W.kitOne K (.ref D) (.ref C)=some true:=by
 unfold PySem.W.kitOne
 rw [if_neg (by simp [ne])]
 unfold PySem.W.kitCls
 dsimp only
 rw [c,t]
 simp only [Option.isSome_some,Bool.true_and,beq_self_eq_true,if_true]
 exact s
theorem kit_ty {T:String} (m:PySem.W.kitMeta T=true) (s:PySem.W.subIn K (.ref D) (.type T)=some true):PySem.W.kitOne K (.ref D) (.type T)=some true:=by
 unfold PySem.W.kitOne
 rw [if_neg (by simp)]
 unfold PySem.W.kitCls
 dsimp only
 rw [if_pos m]
 exact s
theorem kit_none:∀ {l:List Value},(∀ c∈l,PySem.W.kitOne K (.ref D) c=some false)->PySem.W.kitAny K (.ref D) l=some false
 | [],_=>rfl
 | c :: l,h=>by
  show (match PySem.W.kitOne K (.ref D) c with | some true=>some true | some false=>PySem.W.kitAny K (.ref D) l | none=>none)=_
  rw [h c List.mem_cons_self]
  exact kit_none fun x hx=>h x (List.mem_cons_of_mem _ hx)
end
theorem CXE.fix {P:Program} {w:World} {stk:List Env} {H:Hp} {s s':Shared} {E:XK} {e:Value} (c:CXE P w stk H s E e s'):∃ cls,(∃ H',E cls none H')/\CXE P w stk H s (fun c' _ H'=>c'=cls/\E c' none H') e s':=by
 obtain ⟨a,cls,H',h1,h2,h3,h4,h5,h6,z⟩:=c
 exact ⟨cls,⟨H',z⟩,a,cls,H',h1,h2,h3,h4,h5,h6,rfl,z⟩
noncomputable def offAt (i:Nat) (D:Ends):Ends:={ nx:=fun σ' H2=>D.nx (σ'.set i none) H2,rt:=D.rt,bk:=fun σ' H2=>D.bk (σ'.set i none) H2,ct:=fun σ' H2=>D.ct (σ'.set i none) H2 }
noncomputable def tTryAs2 (K:PySem.W.Frag) (C1 C2:Addr) (i:Nat) (tb:XK->TS) (th1 th2:TS):TS:=fun D σ H=>∃ E:XK,tb E D σ H/\∀ cls,(∃ H',E cls none H')->∃ G bm',cls=.ref G/\ExC K G bm' /\
 (((Value.ref G :: bm').contains (.ref C1)=true/\∀ (a:Addr) (H':Hp),E cls none H'->H' a=none->th1 (offAt i D) (σ.set i (some (.ref a))) (upd H' a (.ext (ExQ a G)))) \/
  ((Value.ref G :: bm').contains (.ref C1)=false/\(Value.ref G :: bm').contains (.ref C2)=true/\∀ (a:Addr) (H':Hp),E cls none H'->H' a=none->th2 (offAt i D) (σ.set i (some (.ref a))) (upd H' a (.ext (ExQ a G)))))
section
variable {X:Cx} {body suite1 suite2:List Stmt} {b1 b2:Stmt} {tb:XK->TS} {th1 th2:TS} {C1 C2:Addr} {bm1 bm2:List Value} {x1 x2 n:Str} {i:Nat} {np1 hpos1 np2 hpos2 pos:Pos}
theorem ps_tryAs2 (hb:PSx X body tb) (c1:ExC X.K C1 bm1) (hg1:Gl X x1) (hm1:X.mg x1=some (.ref C1)) (c2:ExC X.K C2 bm2) (hg2:Gl X x2) (hm2:X.mg x2=some (.ref C2)) (O:Own X) (hs1:∀ a,PSs (X.inH a) (b1 :: suite1) th1) (hs2:∀ a,PSs (X.inH a) (b2 :: suite2) th2)
  (hN:X.N.Nodup) (hi:X.N[i]?=some n) (hk:X.env.scope.names.lookup n=some .local) (hdb1:(x1 == ("__debug__" : Str))=false:=by decide) (hdb2:(x2 == ("__debug__" : Str))=false:=by decide) :
  PS X (.Try body [.ExceptHandler (some (.Name x1 np1)) (some n) (b1 :: suite1) hpos1,.ExceptHandler (some (.Name x2 np2)) (some n) (b2 :: suite2) hpos2] [] [] pos) (tTryAs2 X.K C1 C2 i tb th1 th2):=by
 intro pins s σ H D I ⟨E,h1,h2⟩
 refine wpAny_Try_except (wpAny_mono (hb E pins s σ H D I h1) (fun f s1 q=>?_) (fun e s1 ce=>?_))
 ·cases f with
  | next=>exact wpAny_execs_nil q
  | ret v=>exact q
  | brk=>exact q
  | cont=>exact q
 obtain ⟨H1,s0,I1,ce⟩:=ce
 obtain ⟨cls,hex,ce⟩:=ce.fix
 obtain ⟨G,bm',rfl,c',alt⟩:=h2 cls hex
 have hG:∀ (c':Value) (H':Hp),(c'=Value.ref G/\E c' none H')->c'=.ref G:=fun _ _ z=>z.1
 have go:∀ {b0:Stmt} {suite:List Stmt} {th:TS} {hpos:Pos} {s3:Shared} {e:Value},(∀ a,PSs (X.inH a) (b0 :: suite) th)->CXE X.prog X.w X.stack H1 s0 (fun c' _ H'=>c'=.ref G/\E c' none H') e s3 ->
   (∀ (a:Addr) (H':Hp),E (.ref G) none H'->H' a=none->th (offAt i D) (σ.set i (some (.ref a))) (upd H' a (.ext (ExQ a G)))) ->
   codeAny (model X.prog X.w) (X.A.mark (some e)) (.handlers e [.ExceptHandler none (some n) (b0 :: suite) hpos] X.env) (fun r s₂=>match r with
    | .ok f=>wpAny (model X.prog X.w) X.A (do bindName X.env n .none; unbindBehindTheSuite X.env n hpos) (fun _ s₃=>SP X pins D f s₃) X.xe s₂
    | .error x=>cameBackBy (model X.prog X.w) X.A X.env X.xe x s₂) s3:=by
  intro b0 suite th hpos s3 e hs c3 hth
  refine codeAny_handlers_suite_as (flight_none I1 c3 fun s4 c4=>?_)
  obtain ⟨a,H4,e4,n4,J4,z4⟩:=c4.track hG I1
  cases e4
  refine store_ok J4 hN hi (.inl hk) (v:=.ref a) rfl (fun s5 J5=>?_) (.inr hk)
  refine wpAny_mono (hs a pins s5 _ _ _ (J5.inH a) (hth a H4 z4.2 n4)) (fun f s6 q6=>?_) fun _ _ z=>z.elim
  have fin:∀ {σ':St} {H2:Hp} {Q':Shared->Prop},Inv (X.inH a) pins σ' H2 s6->(∀ s7,Inv X pins (σ'.set i none) H2 s7->Q' s7)->wpAny (model X.prog X.w) X.A (do bindName X.env n .none; unbindBehindTheSuite X.env n hpos) (fun _ s7=>Q' s7) X.xe s6:=fun {σ' H2 Q'} J6 qq=>by
   have J6:=J6.outH I.ok
   refine wpAny_bind (wpAny_bindName (store_ok J6 hN hi (.inl hk) (v:=.non) rfl (fun s7 J7=>?_) (.inr hk)))
   unfold unbindBehindTheSuite
   have hl:i < σ'.length:=by rw [J6.len]; exact (List.getElem?_eq_some_iff.mp hi).1
   refine wpAny_onRaise (unbind_ok J7 hN hi hk (List.getElem?_set_self hl) fun s8 J8=>qq s8 ?_)
   rw [List.set_set] at J8
   exact J8
  cases f with
  | next =>
   obtain ⟨σ',H2,J6,q7⟩:=q6
   exact fin J6 fun s7 J7=>⟨_,H2,J7,q7⟩
  | brk =>
   obtain ⟨σ',H2,J6,q7⟩:=q6
   exact fin J6 fun s7 J7=>⟨_,H2,J7,q7⟩
  | cont =>
   obtain ⟨σ',H2,J6,q7⟩:=q6
   exact fin J6 fun s7 J7=>⟨_,H2,J7,q7⟩
  | ret u =>
   obtain ⟨v,σ',H2,J6,r,q7⟩:=q6
   exact fin J6 fun s7 J7=>⟨v,_,H2,J7,r,q7⟩
 refine noted_here I1 ce O I.ok.frames fun s3 c3=>?_
 obtain ⟨a,cls,H',rfl,J,⟨oe,e1,e2⟩,z,_⟩:=c3.inv I1
 subst z
 obtain ⟨nm,q,N,bs,hdct,sn,sub,ab,col,dd,k0,k1,k2,k3,k5,l1,_⟩:=c1.ex
 obtain ⟨nm2,q2,N2,bs2,hdct2,sn2,sub2,ab2,col2,dd2,k02,k12,k22,k32,k52,l2,_⟩:=c2.ex
 obtain ⟨nm',q',N',bs',hdct',sn',sub',ab',col',dd',k0',k1',k2',k3',k5',l1',_⟩:=c'.ex
 refine wpAny_handleBy_cons (codeAny_handlers_test ?_) (fun z=>nomatch z)
 refine Calls.Name_function_global I.ok.kind hg1 (Calls.loadGlobal_global (by rw [I.ok.glob]; exact I.mod.glob.keeps J.bk) hm1 ?_) hdb1
 obtain ⟨h,g,d,t,os⟩:=s3
 refine exc_matches (J.kIn _ _ l1) (J.kIn _ _ l1') e1 e2 c1.bx ?_
 rcases alt with ⟨hc,hth⟩ | ⟨hc,hc2,hth⟩
 ·rw [hc]
  exact go hs1 c3 hth
 ·rw [hc]
  show wpAny (model X.prog X.w) X.A (handleBy (.ref a) X.env _) _ _ _
  refine wpAny_handleBy_cons (codeAny_handlers_test ?_) (fun z=>nomatch z)
  refine Calls.Name_function_global I.ok.kind hg2 (Calls.loadGlobal_global (by rw [I.ok.glob]; exact I.mod.glob.keeps J.bk) hm2 ?_) hdb2
  refine exc_matches (J.kIn _ _ l2) (J.kIn _ _ l1') e1 e2 c2.bx ?_
  rw [hc2]
  exact go hs2 c3 hth
theorem qs_tryAs2 (hb:QSx X body tb) (c1:ExC X.K C1 bm1) (hg1:Gl X x1) (hm1:X.mg x1=some (.ref C1)) (c2:ExC X.K C2 bm2) (hg2:Gl X x2) (hm2:X.mg x2=some (.ref C2)) (O:Own X) (hs1:∀ a,QSs (X.inH a) (b1 :: suite1) th1) (hs2:∀ a,QSs (X.inH a) (b2 :: suite2) th2)
  (hN:X.N.Nodup) (hi:X.N[i]?=some n) (hk:X.env.scope.names.lookup n=some .local) (hdb1:(x1 == ("__debug__" : Str))=false:=by decide) (hdb2:(x2 == ("__debug__" : Str))=false:=by decide) :
  QS X (.Try body [.ExceptHandler (some (.Name x1 np1)) (some n) (b1 :: suite1) hpos1,.ExceptHandler (some (.Name x2 np2)) (some n) (b2 :: suite2) hpos2] [] [] pos) (tTryAs2 X.K C1 C2 i tb th1 th2) :=
 ⟨ps_tryAs2 hb.run c1 hg1 hm1 c2 hg2 hm2 O (fun a=>(hs1 a).run) (fun a=>(hs2 a).run) hN hi hk hdb1 hdb2⟩
end
section
variable {P:Program} {w:World} {K:PySem.W.Frag} {mg:Str->Option Value} {base:Heap} {k:Nat} {f:Addr} {fd:FuncData} {ps:List Str} {sp sp1 sp2:Sp} {x:Str}
theorem FnOk.toX (F:FnOk P w K mg base CX0 k f fd ps sp):FnOk P w K mg base (CXE P w) k f fd ps sp:=⟨F.len,fun A outer s H args us vs Q E hr he hb hv hs=>codeAny_mono (F.run A outer s H args us vs Q E hr he hb hv hs) fun r s' h=>by
 cases r with
 | error e=>exact False.elim h
 | ok fl=>cases fl <;> exact h⟩
theorem FnOk.or {CX:CXT} (F1:FnOk P w K mg base CX k f fd ps sp1) (F2:FnOk P w K mg base CX k f fd ps sp2):FnOk P w K mg base CX k f fd ps (fun vs H Q E=>sp1 vs H Q E\/sp2 vs H Q E) :=
 ⟨fun vs H Q E h=>h.elim (F1.len vs H Q E) (F2.len vs H Q E),fun A outer s H args us vs Q E hr he hb hv hs=>hs.elim (F1.run A outer s H args us vs Q E hr he hb hv) (F2.run A outer s H args us vs Q E hr he hb hv)⟩
end
end L2
namespace Ma
noncomputable def Mu (d:Int) (f:Int->Int) (m:Nat):Prop :=
 ∃ J V:List Int,J.length+V.length<=m/\(∀ b,0<=b->b < d->f b+2<=f (b+1)->b∈J)/\∀ t,0<=t->t < d->f t=f (t+1)->f t % d∈V
theorem pw_mem {R:List T3} {p:T3->T3->Prop} (h:R.Pairwise p):∀ u∈R,∀ v∈R,u=v\/p u v\/p v u:=by
 induction R with
 | nil=>intro u hu; cases hu
 | cons x l ih =>
  have h':=List.pairwise_cons.mp h
  intro u hu v hv
  rcases List.mem_cons.mp hu with rfl | hu'
  ·rcases List.mem_cons.mp hv with rfl | hv'
   ·exact .inl rfl
   ·exact .inr (.inl (h'.1 v hv'))
  ·rcases List.mem_cons.mp hv with rfl | hv'
   ·exact .inr (.inr (h'.1 u hu'))
   ·exact ih h'.2 u hu' v hv'
theorem CK.end_at {d:Int} {R:List T3} {f:Int->Int} (h:CK d R) (T:Tells d R f):∀ w∈R,0<=w.2.1/\w.2.1 < d/\f w.2.1 < f (w.2.1+1)/\(w.2.1+1 < d->f (w.2.1+1)=f w.2.1+1->f (w.2.1+1)=f (w.2.1+1+1)):=by
 intro w hw
 have C:=h.can T
 obtain ⟨m0,m1,m2,m3⟩:=C.mem w hw
 obtain ⟨e1,e2⟩:=m3 w.2.1 m1 (Int.le_refl _)
 refine ⟨by omega,m2,e2,fun k1 k2=>?_⟩
 have mo:=(h.rise T).mono (w.2.1+1) (w.2.1+1+1) (by omega)
 rcases (by omega:f (w.2.1+1)=f (w.2.1+1+1)\/f (w.2.1+1) < f (w.2.1+1+1)) with z | k3
 ·exact z
 exfalso
 obtain ⟨v,hv,v1,v2⟩:=C.cov (w.2.1+1) (by omega) k1 k3
 obtain ⟨e3,_⟩:=(C.mem v hv).2.2.2 _ v1 v2
 rcases pw_mem C.srt w hw v hv with rfl | ⟨p,q⟩ | ⟨p,q⟩
 ·omega
 ·exact q (by omega) (by omega)
 ·omega
theorem mod_ne {d x y:Int} (l:x < y) (l2:y < x+d):x % d ≠ y % d:=fun e=>by
 have a1:=Int.emod_add_mul_ediv x d
 have a2:=Int.emod_add_mul_ediv y d
 have k1:0 < d * (y / d) - d * (x / d):=by omega
 have k2:d * (y / d) - d * (x / d) < d:=by omega
 rw [<- Int.mul_sub] at k1 k2
 generalize y / d - x / d=k at k1 k2
 rcases (by omega:k<=0\/1<=k) with y | y
 ·have:=Int.mul_nonpos_of_nonneg_of_nonpos (show 0<=d by omega) y
  omega
 ·have:=Int.mul_le_mul_of_nonneg_left y (show 0<=d by omega)
  omega
theorem mu_len {d:Int} {R:List T3} {f:Int->Int} {m:Nat} (h:CK d R) (T:Tells d R f) (M:Mu d f m):R.length<=m+1:=by
 obtain ⟨J,V,hm,hJ,hV⟩:=M
 have hd:=h.d0
 have rf:=h.rise T
 let key:T3->Nat × Int:=fun w=>if w.2.1+1=d then (0,0) else if f w.2.1+2<=f (w.2.1+1) then (1,w.2.1) else (2,f (w.2.1+1) % d)
 have nd:(R.map key).Nodup:=by
  refine List.pairwise_map.mpr (h.srt.imp_of_mem fun {u v} hu hv p=>?_)
  obtain ⟨u0,u1,u2,u3⟩:=h.end_at T u hu
  obtain ⟨v0,v1,v2,v3⟩:=h.end_at T v hv
  have vl:=(h.win v hv).2.1
  intro z
  dsimp only [key] at z
  rw [if_neg (by omega)] at z
  split at z
  ·split at z
   ·cases (Prod.mk.inj z).1
   ·split at z
    ·have:=(Prod.mk.inj z).2
     omega
    ·cases (Prod.mk.inj z).1
  ·split at z
   ·cases (Prod.mk.inj z).1
   ·split at z
    ·cases (Prod.mk.inj z).1
    ·have m1:=rf.mono (u.2.1+1) v.2.1 (by omega)
     have m2:=rf.mono (v.2.1+1) (u.2.1+d) (by omega)
     have m3:=rf.mul u.2.1 1
     rw [Int.mul_one] at m3
     exact mod_ne (d:=d) (show f (u.2.1+1) < f (v.2.1+1) by omega) (by omega) (Prod.mk.inj z).2
 have:=nodup_le (l:=R.map key) (L:=(0,0) :: (J.map (fun b=>(1,b)) ++ V.map (fun b=>(2,b)))) nd fun x hx=>by
  obtain ⟨w,hw,rfl⟩:=List.mem_map.mp hx
  obtain ⟨b0,b1,e1,e2⟩:=h.end_at T w hw
  show (if w.2.1+1=d then (0,0) else if f w.2.1+2<=f (w.2.1+1) then (1,w.2.1) else (2,f (w.2.1+1) % d))∈_
  split
  ·exact List.mem_cons_self ..
  ·refine List.mem_cons_of_mem _ ?_
   split
   ·exact List.mem_append_left _ (List.mem_map.mpr ⟨_,hJ _ b0 b1 (by assumption),rfl⟩)
   ·exact List.mem_append_right _ (List.mem_map.mpr ⟨_,hV (w.2.1+1) (by omega) (by omega) (e2 (by omega) (by omega)),rfl⟩)
 simp only [List.length_map,List.length_cons,List.length_append] at this
 omega
theorem jn_cases (late:Bool) (x y:Int):(late=true/\x<=jn late x y/\y<=jn late x y/\(jn late x y=x\/jn late x y=y))\/(late=false/\jn late x y<=x/\jn late x y<=y/\(jn late x y=x\/jn late x y=y)):=by
 unfold jn
 cases late
 ·refine .inr ⟨rfl,?_⟩
  simp only [Bool.false_eq_true,if_false]
  split <;> omega
 ·refine .inl ⟨rfl,?_⟩
  simp only [if_true]
  split <;> omega
theorem mu_jn {d:Int} {late:Bool} {f g:Int->Int} {m1 m2:Nat} (rf:Rise d f) (rg:Rise d g) (M1:Mu d f m1) (M2:Mu d g m2):Mu d (fun x=>jn late (f x) (g x)) (m1+m2):=by
 obtain ⟨J1,V1,h1,j1,v1⟩:=M1
 obtain ⟨J2,V2,h2,j2,v2⟩:=M2
 refine ⟨J1 ++ J2,V1 ++ V2,by simp only [List.length_append]; omega,fun b b0 b1 e=>?_,fun t t0 t1 e=>?_⟩
 ·have f1:=rf.mono b (b+1) (by omega)
  have g1:=rg.mono b (b+1) (by omega)
  have c0:=jn_cases late (f b) (g b)
  have c1:=jn_cases late (f (b+1)) (g (b+1))
  dsimp only at e
  have:f b+2<=f (b+1)\/g b+2<=g (b+1):=by
   rcases c0 with ⟨a0,a1,a2,a3⟩ | ⟨a0,a1,a2,a3⟩ <;> rcases c1 with ⟨b0,b1,b2,b3⟩ | ⟨b0,b1,b2,b3⟩
   ·omega
   ·rw [a0] at b0; cases b0
   ·rw [a0] at b0; cases b0
   ·omega
  rcases this with z | z
  ·exact List.mem_append_left _ (j1 b b0 b1 z)
  ·exact List.mem_append_right _ (j2 b b0 b1 z)
 ·have f1:=rf.mono t (t+1) (by omega)
  have g1:=rg.mono t (t+1) (by omega)
  have c0:=jn_cases late (f t) (g t)
  have c1:=jn_cases late (f (t+1)) (g (t+1))
  dsimp only at e ⊢
  have:(f t=f (t+1)/\jn late (f t) (g t)=f t)\/(g t=g (t+1)/\jn late (f t) (g t)=g t):=by
   rcases c0 with ⟨a0,a1,a2,a3⟩ | ⟨a0,a1,a2,a3⟩ <;> rcases c1 with ⟨b0,b1,b2,b3⟩ | ⟨b0,b1,b2,b3⟩
   ·omega
   ·rw [a0] at b0; cases b0
   ·rw [a0] at b0; cases b0
   ·omega
  rcases this with ⟨z,w⟩ | ⟨z,w⟩
  ·rw [w]; exact List.mem_append_left _ (v1 t t0 t1 z)
  ·rw [w]; exact List.mem_append_right _ (v2 t t0 t1 z)
theorem Rise.at_mod {d:Int} {g:Int->Int} (rg:Rise d g) (x:Int):g (x % d)=g x - d * (x / d)/\g (x % d+1)=g (x+1) - d * (x / d):=by
 have ed:=Int.emod_add_mul_ediv x d
 have p0:=rg.mul (x % d) (x / d)
 have p1:=rg.mul (x % d+1) (x / d)
 rw [ed] at p0
 rw [show x % d+1+d * (x / d)=x+1 by omega] at p1
 omega
theorem sub_mod {d x k:Int}:(x - d * k) % d=x % d:=by
 rw [Int.sub_eq_add_neg,<- Int.mul_neg,Int.add_mul_emod_self_left]
theorem mu_comp {d:Int} (hd:0 < d) {f g:Int->Int} {m1 m2:Nat} (rf:Rise d f) (rg:Rise d g) (M1:Mu d f m1) (M2:Mu d g m2):Mu d (fun x=>g (f x)) (m1+m2):=by
 obtain ⟨J1,V1,h1,j1,v1⟩:=M1
 obtain ⟨J2,V2,h2,j2,v2⟩:=M2
 classical
 let back:Int->Int:=fun x=>if h:∃ b,0<=b/\b < d/\f b % d=x/\f b < f (b+1) then h.choose else 0
 have hback:∀ b,0<=b->b < d->f b < f (b+1)->back (f b % d)=b:=fun b b0 b1 l=>by
  have ex:∃ c,0<=c/\c < d/\f c % d=f b % d/\f c < f (c+1):=⟨b,b0,b1,rfl,l⟩
  simp only [back]
  rw [dif_pos ex]
  obtain ⟨c0,c1,c2,c3⟩:=ex.choose_spec
  generalize ex.choose=c at *
  rcases (by omega:c < b\/c=b\/b < c) with z | z | z
  ·have n1:=rf.mono (c+1) b (by omega)
   have n2:=rf.mono (b+1) (c+d) (by omega)
   have n3:=rf.mul c 1
   rw [Int.mul_one] at n3
   exact absurd c2 (mod_ne (by omega) (by omega))
  ·exact z
  ·have n1:=rf.mono (b+1) c (by omega)
   have n2:=rf.mono (c+1) (b+d) (by omega)
   have n3:=rf.mul b 1
   rw [Int.mul_one] at n3
   exact absurd c2.symm (mod_ne (by omega) (by omega))
 refine ⟨J1 ++ J2.map back,V1.map (fun u=>g u % d) ++ V2,by simp only [List.length_append,List.length_map]; omega,fun b b0 b1 e=>?_,fun t t0 t1 e=>?_⟩
 ·dsimp only at e
  have fm:=rf.mono b (b+1) (by omega)
  rcases (by omega:f b+2<=f (b+1)\/f (b+1)=f b+1\/f (b+1)=f b) with z | z | z
  ·exact List.mem_append_left _ (j1 b b0 b1 z)
  ·refine List.mem_append_right _ (List.mem_map.mpr ⟨f b % d,?_,hback b b0 b1 (by omega)⟩)
   have p:=rg.at_mod (f b)
   rw [z] at e
   exact j2 _ (Int.emod_nonneg _ (by omega)) (Int.emod_lt_of_pos _ hd) (by omega)
  ·rw [z] at e
   omega
 ·dsimp only at e ⊢
  have fm:=rf.mono t (t+1) (by omega)
  by_cases z:f t=f (t+1)
  ·refine List.mem_append_left _ (List.mem_map.mpr ⟨f t % d,v1 t t0 t1 z,?_⟩)
   rw [(rg.at_mod (f t)).1,sub_mod]
  ·refine List.mem_append_right _ ?_
   have p:=rg.at_mod (f t)
   have q1:=rg.mono (f t) (f t+1) (by omega)
   have q2:=rg.mono (f t+1) (f (t+1)) (by omega)
   have:=v2 _ (Int.emod_nonneg (f t) (by omega)) (Int.emod_lt_of_pos (f t) hd) (by omega)
   rw [p.1,sub_mod] at this
   exact this
theorem mu_of {d:Int} {R:List T3} {f:Int->Int} (h:CK d R) (T:Tells d R f):Mu d f (2 * R.length):=by
 have C:=h.can T
 have hd:=h.d0
 have rf:=h.rise T
 refine ⟨R.map (·.2.1),R.map (fun w=>(w.1+w.2.2) % d),by simp only [List.length_map]; omega,fun b b0 b1 e=>?_,fun t t0 t1 e=>?_⟩
 ·obtain ⟨w,hw,w1,w2⟩:=C.cov b b0 b1 (by omega)
  obtain ⟨_,_,_,m3⟩:=C.mem w hw
  refine List.mem_map.mpr ⟨w,hw,?_⟩
  rcases (by omega:w.2.1=b\/b+1<=w.2.1) with z | z
  ·exact z
  ·have a1:=(m3 b w1 w2).1
   have a2:=(m3 (b+1) (by omega) z).1
   omega
 ·obtain ⟨x,x0,x1,x2,x3⟩:=next_dep hd rf t
  have ne:t ≠ x:=fun z=>by subst z; omega
  have fx:=rf.mono t (x - 1) (by omega)
  have fx':=rf.mono (x - 1) x (by omega)
  have p:=rf.at_mod x
  have pm:=rf.at_mod (x - 1)
  obtain ⟨w,hw,w1,w2⟩:=C.cov (x % d) (Int.emod_nonneg _ (by omega)) (Int.emod_lt_of_pos _ hd) (by omega)
  obtain ⟨m0,_,_,m3⟩:=C.mem w hw
  have a1:=(m3 _ w1 w2).1
  refine List.mem_map.mpr ⟨w,hw,?_⟩
  rcases (by omega:w.1=x % d\/w.1<=x % d - 1) with z | z
  ·rw [z,<- a1,p.1,sub_mod,x2]
  ·have a2:=(m3 (x % d - 1) z (by omega)).1
   have:=rf.mul (x % d - 1) (x / d)
   have ed:=Int.emod_add_mul_ediv x d
   rw [show x % d - 1+d * (x / d)=x - 1 by omega] at this
   omega
noncomputable def MuR (d:Int) (R:List T3) (m:Nat):Prop:=CK d R/\(R ≠ []->Mu d (bf d R) m)
theorem Mu.congr {d:Int} {f g:Int->Int} {m:Nat} (M:Mu d f m) (e:∀ t,f t=g t):Mu d g m:=by
 have:f=g:=funext e
 exact this ▸ M
theorem Mu.le {d:Int} {f:Int->Int} {m m':Nat} (M:Mu d f m) (l:m<=m'):Mu d f m':=by
 obtain ⟨J,V,h,a,b⟩:=M
 exact ⟨J,V,by omega,a,b⟩
theorem MuR.len {d:Int} {R:List T3} {m:Nat} (h:MuR d R m):R.length<=m+1:=by
 by_cases z:R=[]
 ·rw [z]; exact Nat.zero_le _
 ·exact mu_len h.1 (tells_bf z) (h.2 z)
theorem mur_nil {d:Int} (hd:0 < d) {m:Nat}:MuR d [] m:=⟨ck_nil hd,fun z=>absurd rfl z⟩
theorem mur_one {d:Int} {w:T3} (h:CK d [w]):MuR d [w] 2:=⟨h,fun z=>mu_of h (tells_bf z)⟩
theorem MuR.le {d:Int} {R:List T3} {m m':Nat} (h:MuR d R m) (l:m<=m'):MuR d R m':=⟨h.1,fun z=>(h.2 z).le l⟩
theorem MuR.min {d:Int} {R R1 R2:List T3} {m1 m2:Nat} (h:CK d R) (h1:MuR d R1 m1) (h2:MuR d R2 m2) (e:∀ t,bt d R t=omin (bt d R1 t) (bt d R2 t)):MuR d R (m1+m2):=by
 by_cases z1:R1=[]
 ·subst z1
  have:R=R2:=h.uniq h2.1 fun t=>by rw [e t,bt_nil]; cases bt d R2 t <;> rfl
  rw [this]
  exact h2.le (by omega)
 by_cases z2:R2=[]
 ·subst z2
  have:R=R1:=h.uniq h1.1 fun t=>by rw [e t,bt_nil]; cases bt d R1 t <;> rfl
  rw [this]
  exact h1.le (by omega)
 refine ⟨h,fun z=>(mu_jn (late:=false) (h1.1.rise (tells_bf (d:=d) z1)) (h2.1.rise (tells_bf (d:=d) z2)) (h1.2 z1) (h2.2 z2)).congr fun t=>?_⟩
 have a:=tells_bf (d:=d) z t
 rw [e t,(tells_bf (d:=d) z1).min (tells_bf (d:=d) z2) t] at a
 exact Option.some.inj a
theorem MuR.bind {d:Int} {R R1 R2:List T3} {m1 m2:Nat} (h:CK d R) (h1:MuR d R1 m1) (h2:MuR d R2 m2) (e:∀ t,bt d R t=obind (bt d R1) (bt d R2) t):MuR d R (m1+m2):=by
 by_cases z1:R1=[]
 ·subst z1
  have:R=[]:=h.uniq (ck_nil h.d0) fun t=>by rw [e t]; rfl
  rw [this]
  exact mur_nil h.d0
 by_cases z2:R2=[]
 ·subst z2
  have:R=[]:=h.uniq (ck_nil h.d0) fun t=>by rw [e t]; unfold obind; cases bt d R1 t <;> rfl
  rw [this]
  exact mur_nil h.d0
 refine ⟨h,fun z=>(mu_comp h.d0 (h1.1.rise (tells_bf (d:=d) z1)) (h2.1.rise (tells_bf (d:=d) z2)) (h1.2 z1) (h2.2 z2)).congr fun t=>?_⟩
 have a:=tells_bf (d:=d) z t
 rw [e t] at a
 unfold obind at a
 rw [tells_bf (d:=d) z1 t] at a
 exact Option.some.inj ((tells_bf (d:=d) z2 _).symm.trans a)
end Ma
namespace L2
open PySem PySem.Spec PyProof.Rows
theorem frames_thin {h base base':Heap} (k:∀ b o,base.get? b=some o->base'.get? b=some o):∀ {l:List Env},h.FunFrames base' l->h.FunFrames base l
 | [],_=>trivial
 | env :: rest,⟨hk,⟨L,o,hf,hn,ho,hd⟩,hr⟩=>⟨hk,⟨L,o,hf,(by
   cases e:base.get? L with
   | none=>rfl
   | some x =>
    rw [k L x e] at hn
    cases hn),ho,hd⟩,frames_thin k hr⟩
theorem FnOk.widen {P:Program} {w:World} {K:PySem.W.Frag} {mg:Str->Option Value} {base base':Heap} {CX:CXT} {k:Nat} {f:Addr} {fd:FuncData} {ps:List Str} {sp:Sp} (F:FnOk P w K mg base CX k f fd ps sp) (m:Mod K mg base) (hk:∀ b o,base.get? b=some o->base'.get? b=some o) (hz:base.objs.size<=base'.objs.size) :
  FnOk P w K mg base' CX k f fd ps sp:=⟨F.len,fun A outer s H args us vs Q E hr e0 hb r hsp=>F.run A outer s H args us vs Q E hr ⟨e0.frames,m,fun b o e=>e0.bs b o (hk b o e),Nat.le_trans hz e0.bsz,frames_thin hk e0.funs,e0.frf,e0.hok,e0.bare⟩ hb r hsp⟩
theorem Callee.widen {P:Program} {w:World} {K:PySem.W.Frag} {mg:Str->Option Value} {base base':Heap} {k:Nat} {x:Str} {ps:List Str} {sp:Sp} (C:Callee P w K mg base k x ps sp) (m:Mod K mg base) (hk:∀ b o,base.get? b=some o->base'.get? b=some o) (hz:base.objs.size<=base'.objs.size) :
  Callee P w K mg base' k x ps sp:=by
 obtain ⟨f,fd,G,b,kp,m'⟩:=C.ex
 exact ⟨f,fd,G.widen m hk hz,b,kp,m'⟩
noncomputable def tLam4 (i1 i2:Nat) (P:Addr) (pos:Pos) (qual:Str) (te1 te2 te3:TE) (spG:V->V->Addr->Addr->Sp):TE:=fun σ H Q=>∃ v1 v2,σ[i1]?=some (some v1)/\σ[i2]?=some (some v2)/\te1 σ H fun w1 H1=>te2 σ H1 fun w2 H2=>te3 σ H2 fun w3 H3=>TabOk H3 P pos qual /\
 ∀ fl c' H4,SameT P H3 H4->TabOk H4 P pos qual->H4 c'=some (.ext (CodeQ c' qual))->spG v1 v2 fl c' [w1,w2,w3,.ref fl] H4 Q E0
section
variable {X:Cx} {k:Nat} {x y1 y2:Str} {g c P cy1 cy2:Addr} {gd:FuncData} {ps2 N ps:List Str} {spG:V->V->Addr->Addr->Sp} {e1 e2 e3 body:Expr} {te1 te2 te3:TE} {params:Arguments} {sc:Scope} {lpos p pos:Pos} {clos:List (Str × Addr)}
theorem pe_lamcall4 (i1 i2:Nat) (hr:Room k X.A) (hg:Gl X x) (hm:X.mg x=some (.ref g)) (hk:PySem.W.keepIn X.K (.ref g)=true) (hbG:Binds X.K gd ps2 []) (hl2:ps2.length=4) (hcode:X.env.code=.ref c) (hC:PySem.W.CodeHd X.base c P) (hB:BMain X.mg X.base)
  (hcl:closureFor sc X.env=pure clos)
  (hN1:X.N[i1]?=some y1) (hky1:X.env.kindOf y1=some .cell) (hvy1:Vis X.env.scope y1) (hcy1:X.env.cells.lookup y1=some cy1) (hfy1:X.fn y1=true) (hcly1:clos.lookup y1=some cy1)
  (hN2:X.N[i2]?=some y2) (hky2:X.env.kindOf y2=some .cell) (hvy2:Vis X.env.scope y2) (hcy2:X.env.cells.lookup y2=some cy2) (hfy2:X.fn y2=true) (hcly2:clos.lookup y2=some cy2)
  (honly:∀ z d,clos.lookup z=some d->(z=y1/\d=cy1)\/(z=y2/\d=cy2)) (hNp:N=ps ++ [y1,y2]) (hsy1:sc.names.lookup y1=some .free) (hsy2:sc.names.lookup y2=some .free)
  (h1:PE X e1 te1) (h2:PE X e2 te2) (h3:PE X e3 te3)
  (G:∀ (base':Heap) (fl c':Addr) (v1 v2:V) (pm ctv:Value),Mod X.K X.mg X.base->(∀ b o,X.base.get? b=some o->base'.get? b=some o)->X.base.objs.size<=base'.objs.size->base'.get? fl=some (PySem.W.kla_obj "<lambda>" (X.env.qual ++ "<lambda>") params body sc clos pm c' ctv)->Caught base' sc clos N ps [v1,v2]->FnOk X.prog X.w X.K X.mg base' CX0 k g gd ps2 (spG v1 v2 fl c'))
  (hdb:(x == ("__debug__" : Str))=false:=by decide) (hdef:defaultsOf params X.env=([],[]):=by rfl)
  (he:starEach [e1,e2,e3,.Lambda params body sc lpos] X.env=(false,eval e1 X.env) :: starEach [e2,e3,.Lambda params body sc lpos] X.env:=by rfl) (he2:starEach [e2,e3,.Lambda params body sc lpos] X.env=(false,eval e2 X.env) :: starEach [e3,.Lambda params body sc lpos] X.env:=by rfl)
  (he3:starEach [e3,.Lambda params body sc lpos] X.env=(false,eval e3 X.env) :: starEach [.Lambda params body sc lpos] X.env:=by rfl) (he4:starEach [.Lambda params body sc lpos] X.env=(false,eval (.Lambda params body sc lpos) X.env) :: starEach [] X.env:=by rfl)
  (hpl:(backTo pos (starEach [e2,e3,.Lambda params body sc lpos] X.env)).any (·.1)=false:=by rfl) :
  PE X (.Call (.Name x p) [e1,e2,e3,.Lambda params body sc lpos] [] pos) (tLam4 i1 i2 P lpos (X.env.qual ++ "<lambda>") te1 te2 te3 spG):=by
 intro pins s σ H Q I h
 obtain ⟨v1,v2,hv1,hv2,h⟩:=h
 refine wpAny_Call_Name_kw (ld_glob I hg hm ?_ hdb)
 refine PySem.W.callWith_K (h₀:=X.base) I.ok.mod.kin hk ?_ he hpl
 rw [he]
 show wpAny _ _ (spliced ((false,eval e1 X.env) :: backTo pos (starEach [e2,e3,.Lambda params body sc lpos] X.env))) _ _ s
 refine Calls.spliced_cons (thn (h1 pins s σ H _ I h) fun u1 sa ⟨w1,Ha,Ia,r1,ha⟩=>?_)
 rw [he2]
 show wpAny _ _ (spliced ((false,eval e2 X.env) :: backTo pos (starEach [e3,.Lambda params body sc lpos] X.env))) _ _ sa
 refine Calls.spliced_cons (thn (h2 pins sa σ Ha _ Ia ha) fun u2 sb ⟨w2,Hb,Ib,r2,hb⟩=>?_)
 rw [he3]
 show wpAny _ _ (spliced ((false,eval e3 X.env) :: backTo pos (starEach [.Lambda params body sc lpos] X.env))) _ _ sb
 refine Calls.spliced_cons (thn (h3 pins sb σ Hb _ Ib hb) fun u3 s1 ⟨w3,H1,I1,r3,tab,q1⟩=>?_)
 rw [he4]
 show wpAny _ _ (spliced ((false,eval (.Lambda params body sc lpos) X.env) :: backTo pos (starEach [] X.env))) _ _ s1
 refine Calls.spliced_cons (PySem.W.kla_eval hdef ?_)
 have cellAt:∀ {i:Nat} {y:Str} {cy:Addr} {v:V},X.N[i]?=some y->X.env.kindOf y=some .cell->Vis X.env.scope y->X.env.cells.lookup y=some cy->σ[i]?=some (some v)->∀ {H2:Hp} {s2:Shared},Inv X pins σ H2 s2->∃ u,RelV v u/\s2.heap.IsCell cy (some u):=fun {i y cy v} hN hky hvy hcy hv {H2 s2} J=>by
  obtain ⟨m,_,hl⟩:=J.loc
  obtain ⟨u,ru,lk⟩:=hl i y v hN hv hvy
  rcases lk with ⟨z,_⟩ | ⟨_,d,e',q⟩
  ·rw [hky] at z; cases z
  ·rw [hcy] at e'
   cases e'
   exact ⟨u,ru,q⟩
 have fin:∀ (fl c':Addr) (pm ctv:Value) (H2:Hp) (s2:Shared),Inv X pins σ H2 s2->SameT P H1 H2->TabOk H2 P lpos (X.env.qual ++ "<lambda>")->H2 c'=some (.ext (CodeQ c' (X.env.qual ++ "<lambda>"))) ->
   s2.heap.get? fl=some (PySem.W.kla_obj "<lambda>" (X.env.qual ++ "<lambda>") params body sc clos pm c' ctv)->H2 fl=none->fl ∉ frs X.stack ->
   wpAny (model X.prog X.w) X.A (spliced (backTo pos (starEach [] X.env))) (fun vs s3=>X.K.In s3.heap/\wpAny (model X.prog X.w) X.A (call (.ref g) ([] ++ (u1 :: u2 :: u3 :: .ref fl :: vs))) (EP X pins σ Q) X.xe s3) X.xe s2:=by
  intro fl c' pm ctv H2 s2 I2 sm tb hc' hfl nfl nfs
  refine Calls.spliced_nil ⟨I2.kIn,?_⟩
  have hb1:=fixed_get (X:=X) hfl nfl nfs
  have nc:∀ {y:Str} {cy:Addr},X.env.cells.lookup y=some cy->X.fn y=true->cy ∉ frs X.stack:=fun {y cy} hcy hfy z=>by
   rcases List.mem_cons.mp (I2.stkSub cy z) with e | e
   ·exact I2.cne y cy hcy e
   ·have lo:=I2.ok.cab y cy hfy hcy
    obtain ⟨_,o,eo,_⟩:=I2.ok.funs.mem e
    exact absurd (Nat.lt_of_lt_of_le (Heap.lt_size eo) lo) (Nat.lt_irrefl _)
  obtain ⟨ua,ra,oa,qa1,qa2⟩:=cellAt hN1 hky1 hvy1 hcy1 hv1 I2
  obtain ⟨ub,rb,ob,qb1,qb2⟩:=cellAt hN2 hky2 hvy2 hcy2 hv2 I2
  have hba:=fixed_get (X:=X) qa1 (I2.freeC y1 cy1 hcy1) (nc hcy1 hfy1)
  have hbb:=fixed_get (X:=X) qb1 (I2.freeC y2 cy2 hcy2) (nc hcy2 hfy2)
  have ca:Caught (fixed X H2 s2.heap) sc clos N ps [v1,v2]:=by
   refine ⟨by rw [hNp,List.length_append]; rfl,fun z d e=>?_,fun j z v' e1 e2=>?_⟩
   ·rcases honly z d e with ⟨rfl,rfl⟩ | ⟨rfl,rfl⟩
    ·exact ⟨some ua,oa,hba,qa2⟩
    ·exact ⟨some ub,ob,hbb,qb2⟩
   ·rw [hNp,List.getElem?_append_right (Nat.le_add_right _ _),Nat.add_sub_cancel_left] at e1
    match j,e1,e2 with
    | 0,e1,e2 =>
     cases e1
     cases e2
     exact ⟨hsy1,cy1,ua,hcly1,⟨oa,hba,qa2⟩,ra⟩
    | 1,e1,e2 =>
     cases e1
     cases e2
     exact ⟨hsy2,cy2,ub,hcly2,⟨ob,hbb,qb2⟩,rb⟩
    | j+2,e1,e2=>cases e2
  have F:=G _ fl c' v1 v2 pm ctv I2.ok.mod I2.base_fixed (Nat.le_trans I2.env0.bsz (Nat.le_of_eq (PySem.W.hideAll_size _ _).symm)) hb1 ca
  have hsp:=q1 fl c' H2 sm tb hc'
  have bnd:BindsTo s2 gd ⟨[u1,u2,u3,.ref fl],[]⟩ (ps2.zip [u1,u2,u3,.ref fl]):=by
   have:=hbG s2 [u1,u2,u3,.ref fl] I2.kIn (by rw [hl2]; rfl)
   simpa using this
  refine wpAny_call (codeAny_mono (F.run X.A X.stack s2 H2 ⟨[u1,u2,u3,.ref fl],[]⟩ [u1,u2,u3,.ref fl] [w1,w2,w3,.ref fl] Q E0 hr I2.env_fixed bnd (.cons r1 (.cons r2 (.cons r3 (.cons rfl .nil)))) hsp) fun r s' hq=>?_)
  cases r with
  | error e=>exact False.elim hq
  | ok fl' =>
   cases fl' with
   | ret u=>exact I2.after hq
   | next=>exact False.elim hq
   | brk=>exact False.elim hq
   | cont=>exact False.elim hq
 obtain ⟨bm,ob,b1,b2,b3,b4,b5,b6⟩:=hB
 obtain ⟨ps0,hP,ht,hor⟩:=tab
 have hPo:s1.heap.get? P=some (PySem.W.tabObj ps0):=I1.hok P _ hP
 have notP:∀ b o,X.base.get? b=some o->b ≠ P:=fun b o e z=>by
  have:=(I1.bs b o e).2
  rw [z,hP] at this
  cases this
 obtain ⟨og,esg,epg,eg,dg,rg⟩:=I1.mod.glob
 have hbA:s1.heap.BuiltinsAt X.mg P:=⟨bm,ob,b1,b2,(fun z=>by rw [z,eg] at b3; cases b3; rw [b6] at dg; cases dg),notP _ _ b3,I1.bk _ _ b3,b4,b5,b6⟩
 have gl:s1.heap.Ns mainGlobals X.mg:=I1.mod.glob.keeps I1.bk
 rcases hor with hnf | ⟨c',hf,hc'⟩
 ·refine PySem.W.kla_makeFunction (mg:=X.mg) hcl I1.ok.glob gl hcode (hC.keeps I1.bk) hPo ht hnf (notP _ _ eg) hbA fun c' ctv h' tk hx hge hlt hrec htb=>?_
  have ltP:P < s1.heap.objs.size:=Heap.lt_size hPo
  have neP:P ≠ c':=Nat.ne_of_lt (Nat.lt_of_lt_of_le ltP hge)
  have nc':H1 c'=none:=I1.hok.fresh hge
  have old:∀ b o,b ≠ P->s1.heap.get? b=some o->(h'.push (PySem.W.kla_obj "<lambda>" (X.env.qual ++ "<lambda>") params body sc clos ((X.mg "__name__").getD .none) c' ctv)).get? b=some o:=fun b o n e=>Heap.get?_push_of_some _ (hx b o n e)
  have kP:∀ b o,H1 b=some o->(∀ z,o ≠ .tbl z)->b ≠ P:=fun b o e n z=>by rw [z,hP] at e; exact n ps0 (Option.some.inj e).symm
  have up:∀ b o,H1 b=some o->b ≠ P->upd (upd H1 c' (.ext (CodeQ c' (X.env.qual ++ "<lambda>")))) P (.tbl (ps0 ++ #[rawInt lpos.line,rawInt lpos.col,.ref c'])) b=some o:=fun b o e n=>by
   rw [upd_ne n,upd_ne (ne_of_none e nc')]
   exact e
  have upN:∀ b,H1 b=none->b ≠ c'->upd (upd H1 c' (.ext (CodeQ c' (X.env.qual ++ "<lambda>")))) P (.tbl (ps0 ++ #[rawInt lpos.line,rawInt lpos.col,.ref c'])) b=none:=fun b e n=>by
   rw [upd_ne (fun z=>by rw [z,hP] at e; cases e),upd_ne n]
   exact e
  have u:Un X.fs [] H1 (upd (upd H1 c' (.ext (CodeQ c' (X.env.qual ++ "<lambda>")))) P (.tbl (ps0 ++ #[rawInt lpos.line,rawInt lpos.col,.ref c']))) s1.heap (h'.push (PySem.W.kla_obj "<lambda>" (X.env.qual ++ "<lambda>") params body sc clos ((X.mg "__name__").getD .none) c' ctv)):=by
   have nP:∀ b,H1 b=none->b ≠ P:=fun b n z=>by rw [z,hP] at n; cases n
   refine ⟨fun b o e n _ _=>old b o (nP b n) e,fun b o e n _ _=>⟨o.slots,old b o (nP b n) e⟩,fun b o e n _=>upN b n (Nat.ne_of_lt (Nat.lt_of_lt_of_le (Heap.lt_size e) hge)),fun b o e _=>?_,fun b xs e=>up b _ e (kP b _ e fun _ z=>nomatch z),fun b o w e=>up b _ e (kP b _ e fun _ z=>nomatch z),fun b pz e=>?_⟩
   ·by_cases hb:b=P
    ·rw [hb]
     exact ⟨_,Heap.get?_push_of_some _ htb⟩
    ·exact ⟨o,old b o hb e⟩
   ·by_cases hb:b=P
    ·rw [hb] at e ⊢
     rw [hP] at e
     cases e
     exact ⟨_,upd_same⟩
    ·exact ⟨#[],by rw [up b _ e hb]; simp⟩
  have hok:HOk X.prog X.w (upd (upd H1 c' (.ext (CodeQ c' (X.env.qual ++ "<lambda>")))) P (.tbl (ps0 ++ #[rawInt lpos.line,rawInt lpos.col,.ref c']))) (h'.push (PySem.W.kla_obj "<lambda>" (X.env.qual ++ "<lambda>") params body sc clos ((X.mg "__name__").getD .none) c' ctv)):=by
   intro b o e
   by_cases hb:b=P
   ·rw [hb,upd_same] at e
    cases e
    rw [hb]
    exact Heap.get?_push_of_some _ htb
   ·rw [upd_ne hb] at e
    by_cases hb2:b=c'
    ·rw [hb2,upd_same] at e
     cases e
     rw [hb2]
     obtain ⟨c2,oc,vs,tq,ee,hoc,rest⟩:=hrec
     cases ee
     refine ⟨⟨_,oc,vs,tq,rfl,Heap.get?_push_of_some _ hoc,rest⟩,⟨oc,Heap.get?_push_of_some _ hoc⟩,fun h1 h2 hq hk=>?_⟩
     obtain ⟨c3,o3,v3,t3,e3,g3,r3⟩:=hq
     cases e3
     exact ⟨_,o3,v3,t3,rfl,hk _ g3,r3⟩
    ·rw [upd_ne hb2] at e
     refine (I1.hok b o e).stay (fun d z hd q=>old d z ?_ q) (fun d q=>up d _ q (kP d _ q fun _ z=>nomatch z)) fun d xs q=>up d _ q (kP d _ q fun _ z=>nomatch z)
     rcases hd with hd | hd
     ·rw [hd]; exact hb
     ·exact kP d _ hd fun _ z=>nomatch z
  have I2:=I1.un (t':=tk) u hok
  refine fin h'.objs.size c' _ ctv _ _ I2 (fun b o e n=>up b o e n) ⟨_,upd_same,?_,.inr ⟨c',?_,?_⟩⟩ ?_ (Heap.get?_push_size _ rfl) ?_ ?_
  ·have:=TriplesOk_snoc lpos.line lpos.col (.ref c') ps0.toList ht
   simpa using this
  ·have:=codeAmong_snoc (pos:=lpos) (c:=.ref c') ps0.toList ht hnf
   simpa using this
  ·rw [upd_ne neP.symm,upd_same]
  ·rw [upd_ne neP.symm,upd_same]
  ·refine upN _ (I1.hok.fresh (Nat.le_trans hge (Nat.le_of_lt hlt))) (Nat.ne_of_gt hlt)
  ·exact fun z=>by
    rcases List.mem_cons.mp (I1.stkSub _ z) with e | e
    ·exact absurd (I1.lt) (by rw [<- e]; exact Nat.not_lt.mpr (Nat.le_trans hge (Nat.le_of_lt hlt)))
    ·exact I1.nofs (Nat.le_trans hge (Nat.le_of_lt hlt)) e
 ·refine PySem.W.kla_makeFunctionHit (mg:=X.mg) hcl I1.ok.glob gl hcode (hC.keeps I1.bk) hPo ht hf hbA fun ctv h' tk hk hsz=>?_
  have I2:Inv X pins σ H1 { s1 with heap:=h'.push { cls:=.type "function",data:=.func (PySem.W.kla_fn "<lambda>" (X.env.qual ++ "<lambda>") params body sc clos ((X.mg "__name__").getD .none) (.ref c') ctv) },toks:=tk }:=I1.kept (t':=tk) fun b o e=>Heap.get?_push_of_some _ (hk b o e)
  refine fin h'.objs.size c' _ ctv H1 _ I2 (fun b o e _=>e) ⟨ps0,hP,ht,.inr ⟨c',hf,hc'⟩⟩ hc' (Heap.get?_push_size _ rfl) (I1.hok.fresh hsz) ?_
  exact fun z=>by
   rcases List.mem_cons.mp (I1.stkSub _ z) with e | e
   ·exact absurd (I1.lt) (by rw [<- e]; exact Nat.not_lt.mpr hsz)
   ·exact I1.nofs hsz e
end
theorem qcall_listK {X:Cx} (K:PySem.W.Frag) (hK:X.K=K):QCall X (.type "list") (fun xs H Q=>∃ p ys,xs=[.ref p]/\(SqL K H p ys\/SqT K H p ys)/\∀ l,H l=none->Q (.ref l) (upd H l (.lst ys))):=by
 subst hK
 exact qcall_list
end L2
namespace My
open PySem L2
open Ma (T3 T4 rA rB rC)
theorem sc_is_whole:FnScope ["thing"] ["thing"] (defScope st_is_whole):=⟨rfl,rfl,rfl,by decide +kernel,rfl,by decide +kernel,by decide +kernel⟩
theorem sc_is_window:FnScope ["day","thing"] ["day","thing"] (defScope st_is_window):=⟨rfl,rfl,rfl,by decide +kernel,rfl,by decide +kernel,by decide +kernel⟩
theorem sc_is_board:FnScope ["day","thing"] ["day","thing"] (defScope st_is_board):=⟨rfl,rfl,rfl,by decide +kernel,rfl,by decide +kernel,by decide +kernel⟩
theorem sc_next_open:FnScope ["day","window","t","hour","midnight"] ["day","window","t"] (defScope st_next_open):=⟨rfl,rfl,rfl,by decide +kernel,rfl,by decide +kernel,by decide +kernel⟩
theorem sc_last_open:FnScope ["day","window","t","hour","midnight"] ["day","window","t"] (defScope st_last_open):=⟨rfl,rfl,rfl,by decide +kernel,rfl,by decide +kernel,by decide +kernel⟩
theorem sc_first_where:FnScope ["clock","holds","low","high","middle"] ["clock","holds"] (defScope st_first_where):=⟨rfl,rfl,rfl,by decide +kernel,rfl,by decide +kernel,by decide +kernel⟩
theorem sc_set_off:FnScope ["day","clock","t","hour","number","found","x"] ["day","clock","t"] (defScope st_set_off):=⟨rfl,rfl,rfl,by decide +kernel,rfl,by decide +kernel,by decide +kernel⟩
theorem sc_come:FnScope ["day","clock","t","departure"] ["day","clock","t"] (defScope st_come):=⟨rfl,rfl,rfl,by decide +kernel,rfl,by decide +kernel,by decide +kernel⟩
theorem sc_leave:FnScope ["day","clock","s","start","hour","number","found"] ["day","clock","s"] (defScope st_leave):=⟨rfl,rfl,rfl,by decide +kernel,rfl,by decide +kernel,by decide +kernel⟩
theorem sc_standing:FnScope ["day"] ["day"] (defScope st_standing):=⟨rfl,rfl,rfl,by decide +kernel,rfl,by decide +kernel,by decide +kernel⟩
theorem sc_is_number:FnScope ["count","thing"] ["count","thing"] (defScope st_is_number):=⟨rfl,rfl,rfl,by decide +kernel,rfl,by decide +kernel,by decide +kernel⟩
theorem sc_is_road:FnScope ["day","size","thing"] ["day","size","thing"] (defScope st_is_road):=⟨rfl,rfl,rfl,by decide +kernel,rfl,by decide +kernel,by decide +kernel⟩
theorem sc_is_net:FnScope ["day","size","roads"] ["day","size","roads"] (defScope st_is_net):=⟨rfl,rfl,rfl,by decide +kernel,rfl,by decide +kernel,by decide +kernel⟩
theorem sc_need_net:FnScope ["day","size","roads"] ["day","size","roads"] (defScope st_need_net):=⟨rfl,rfl,rfl,by decide +kernel,rfl,by decide +kernel,by decide +kernel⟩
theorem sc_need_place:FnScope ["size","thing"] ["size","thing"] (defScope st_need_place):=⟨rfl,rfl,rfl,by decide +kernel,rfl,by decide +kernel,by decide +kernel⟩
theorem sc_stretches:FnScope ["day","clock","rows","p","a","b","c"] ["day","clock"] (defScope st_stretches):=⟨rfl,rfl,rfl,by decide +kernel,rfl,by decide +kernel,by decide +kernel⟩
theorem sc_first_told:FnScope ["row"] ["row"] (defScope st_first_told):=⟨rfl,rfl,rfl,by decide +kernel,rfl,by decide +kernel,by decide +kernel⟩
theorem sc_overlay:FnScope ["day","one","other","ones","others","rows","k","j","p","q"] ["day","one","other"] (defScope st_overlay):=⟨rfl,rfl,rfl,by decide +kernel,rfl,by decide +kernel,by decide +kernel⟩
theorem sc_put_window:FnScope ["clock","a","b","c"] ["clock","a","b","c"] (defScope st_put_window):=⟨rfl,rfl,rfl,by decide +kernel,rfl,by decide +kernel,by decide +kernel⟩
theorem sc_clock_from:FnScope ["day","rows","clock","k","row","following","q","v"] ["day","rows"] (defScope st_clock_from):=⟨rfl,rfl,rfl,by decide +kernel,rfl,by decide +kernel,by decide +kernel⟩
theorem sc_picked:FnScope ["p","q","waiting","riding","late","cut","ahead","then"] ["p","q","waiting","riding","late"] (defScope st_picked):=⟨rfl,rfl,rfl,by decide +kernel,rfl,by decide +kernel,by decide +kernel⟩
theorem sc_joined:FnScope ["day","one","other","late","rows","p","q","still","v","other_still","other_v"] ["day","one","other","late"] (defScope st_joined):=⟨rfl,rfl,rfl,by decide +kernel,rfl,by decide +kernel,by decide +kernel⟩
theorem sc_sooner:FnScope ["day","one","other"] ["day","one","other"] (defScope st_sooner):=⟨rfl,rfl,rfl,by decide +kernel,rfl,by decide +kernel,by decide +kernel⟩
theorem sc_ridden:FnScope ["day","p","q","ride","others","hour","midnight","k","rows","end"] ["day","p","q","ride","others"] (defScope st_ridden):=⟨rfl,rfl,rfl,by decide +kernel,rfl,by decide +kernel,by decide +kernel⟩
theorem sc_behind:FnScope ["day","one","other","others","rows","p","q","still","v"] ["day","one","other"] (defScope st_behind):=⟨rfl,rfl,rfl,by decide +kernel,rfl,by decide +kernel,by decide +kernel⟩
theorem sc_clock_within:FnScope ["day","board","half"] ["day","board"] (defScope st_clock_within):=⟨rfl,rfl,rfl,by decide +kernel,rfl,by decide +kernel,by decide +kernel⟩
theorem sc_clock_of:FnScope ["day","board"] ["day","board"] (defScope st_clock_of):=⟨rfl,rfl,rfl,by decide +kernel,rfl,by decide +kernel,by decide +kernel⟩
theorem sc_fords_of:FnScope ["day","roads"] ["day","roads"] (defScope st_fords_of):=⟨rfl,rfl,rfl,by decide +kernel,rfl,by decide +kernel,by decide +kernel⟩
theorem sc_staying:FnScope ["day","size","place"] ["day","size","place"] (defScope st_staying):=⟨rfl,rfl,rfl,by decide +kernel,rfl,by decide +kernel,by decide +kernel⟩
theorem sc_copied_table:FnScope ["told"] ["told"] (defScope st_copied_table):=⟨rfl,rfl,rfl,by decide +kernel,rfl,by decide +kernel,by decide +kernel⟩
theorem sc_grown:FnScope ["day","size","place","step","found"] ["day","size","place","step"] (defScope st_grown):=⟨rfl,rfl,rfl,by decide +kernel,rfl,by decide +kernel,by decide +kernel⟩
theorem sc_ride_first:FnScope ["day","fords","told","found","start","end","ford"] ["day","fords","told"] (defScope st_ride_first):=⟨rfl,rfl,rfl,by decide +kernel,rfl,by decide +kernel,by decide +kernel⟩
theorem sc_rounds_to:FnScope ["day","size","roads","goal","fords"] ["day","size","roads","goal"] (defScope st_rounds_to):=⟨rfl,rfl,rfl,by decide +kernel,rfl,by decide +kernel,by decide +kernel⟩
theorem sc_rounds:FnScope ["day","size","roads","goal"] ["day","size","roads","goal"] (defScope st_rounds):=⟨rfl,rfl,rfl,by decide +kernel,rfl,by decide +kernel,by decide +kernel⟩
theorem sc_comes_by:FnScope ["day","clock","t","s","y"] ["day","clock","t","s"] (defScope st_comes_by):=⟨rfl,rfl,rfl,by decide +kernel,rfl,by decide +kernel,by decide +kernel⟩
theorem sc_least_round:FnScope ["day","tables","place","t","s","number","told"] ["day","tables","place","t","s"] (defScope st_least_round):=⟨rfl,rfl,rfl,by decide +kernel,rfl,by decide +kernel,by decide +kernel⟩
theorem sc_ask_by:FnScope ["day","roads","told","guard","place","t","s","number","road","window_number","window","x","z"] ["day","roads","told","guard","place","t","s"] (defScope st_ask_by):=⟨rfl,rfl,rfl,by decide +kernel,rfl,by decide +kernel,by decide +kernel⟩
theorem sc_walk:FnScope ["day","roads","tables","guard","place","t","s","left","row","ask"] ["day","roads","tables","guard","place","t"] (defScope st_walk):=⟨rfl,rfl,rfl,by decide +kernel,rfl,by decide +kernel,by decide +kernel⟩
theorem sc_journey:FnScope ["day","size","roads","goal","place","t","tables"] ["day","size","roads","goal","place","t"] (defScope st_journey):=⟨rfl,rfl,rfl,by decide +kernel,rfl,by decide +kernel,by decide +kernel⟩
theorem sc_last_journey:FnScope ["day","size","roads","goal","place","s","tables","t"] ["day","size","roads","goal","place","s"] (defScope st_last_journey):=⟨rfl,rfl,rfl,by decide +kernel,rfl,by decide +kernel,by decide +kernel⟩
theorem sc_fewest_rides:FnScope ["day","size","roads","goal","place","t","s","tables"] ["day","size","roads","goal","place","t","s"] (defScope st_fewest_rides):=⟨rfl,rfl,rfl,by decide +kernel,rfl,by decide +kernel,by decide +kernel⟩
theorem sc__law_cell:FnScope ["script","k"] ["script","k"] (defScope st__law_cell):=⟨rfl,rfl,rfl,by decide +kernel,rfl,by decide +kernel,by decide +kernel⟩
theorem sc__law_day:FnScope ["cell","rest"] ["cell"] (defScope st__law_day):=⟨rfl,rfl,rfl,by decide +kernel,rfl,by decide +kernel,by decide +kernel⟩
theorem sc__law_size:FnScope ["cell"] ["cell"] (defScope st__law_size):=⟨rfl,rfl,rfl,by decide +kernel,rfl,by decide +kernel,by decide +kernel⟩
theorem sc__law_road_window:FnScope ["day","one","two","three","a","rest","b","c"] ["day","one","two","three"] (defScope st__law_road_window):=⟨rfl,rfl,rfl,by decide +kernel,rfl,by decide +kernel,by decide +kernel⟩
theorem sc__law_net:FnScope ["day","size","goal","cells","roads","k","head","start"] ["day","size","goal","cells"] (defScope st__law_net):=⟨rfl,rfl,rfl,by decide +kernel,rfl,by decide +kernel,by decide +kernel⟩
theorem sc__law_odd_place:FnScope ["size","cell"] ["size","cell"] (defScope st__law_odd_place):=⟨rfl,rfl,rfl,by decide +kernel,rfl,by decide +kernel,by decide +kernel⟩
theorem sc__law_asked:FnScope ["which","day","size","roads","goal","place"] ["which","day","size","roads","goal","place"] (defScope st__law_asked):=⟨rfl,rfl,rfl,by decide +kernel,rfl,by decide +kernel,by decide +kernel⟩
theorem sc__law_named:FnScope ["which","day","size","roads","goal","place","named","e"] ["which","day","size","roads","goal","place"] (defScope st__law_named):=⟨rfl,rfl,rfl,by decide +kernel,rfl,by decide +kernel,by decide +kernel⟩
theorem sc__law_bent:FnScope ["day","size","road","cell","odd","bad","at"] ["day","size","road","cell"] (defScope st__law_bent):=⟨rfl,rfl,rfl,by decide +kernel,rfl,by decide +kernel,by decide +kernel⟩
theorem sc_law:FnScope ["script","day","size","places","roads","cell","due","odd","k","at","which"] ["script"] (defScope st_law):=⟨rfl,rfl,rfl,by decide +kernel,rfl,by decide +kernel,by decide +kernel⟩
theorem bl_1 {us:List Value} (h:us.length=1):∃ a0:Value,us=[a0]:=match us,h with | [_],_=>⟨_,rfl⟩
theorem bl_2 {us:List Value} (h:us.length=2):∃ a0 a1:Value,us=[a0,a1]:=match us,h with | [_,_],_=>⟨_,_,rfl⟩
theorem bl_3 {us:List Value} (h:us.length=3):∃ a0 a1 a2:Value,us=[a0,a1,a2]:=match us,h with | [_,_,_],_=>⟨_,_,_,rfl⟩
theorem bl_4 {us:List Value} (h:us.length=4):∃ a0 a1 a2 a3:Value,us=[a0,a1,a2,a3]:=match us,h with | [_,_,_,_],_=>⟨_,_,_,_,rfl⟩
theorem bl_5 {us:List Value} (h:us.length=5):∃ a0 a1 a2 a3 a4:Value,us=[a0,a1,a2,a3,a4]:=match us,h with | [_,_,_,_,_],_=>⟨_,_,_,_,_,rfl⟩
theorem bl_6 {us:List Value} (h:us.length=6):∃ a0 a1 a2 a3 a4 a5:Value,us=[a0,a1,a2,a3,a4,a5]:=match us,h with | [_,_,_,_,_,_],_=>⟨_,_,_,_,_,_,rfl⟩
theorem bl_7 {us:List Value} (h:us.length=7):∃ a0 a1 a2 a3 a4 a5 a6:Value,us=[a0,a1,a2,a3,a4,a5,a6]:=match us,h with | [_,_,_,_,_,_,_],_=>⟨_,_,_,_,_,_,_,rfl⟩
noncomputable def spLaw (K:PySem.W.Frag) (tabs:List (Addr × Addr)):Sp:=fun vs H Q _=>∃ (a:Addr) (ns:List Int),vs=[.ref a]/\SqL K H a (ns.map V.int)/\ns.length<=63/\(∀ t∈tabs,H t.2=some (.tbl #[]))/\∀ H',Q (.bl true) H'
structure Bl (mg:Str->Option Value):Prop where
 len:mg "len" = none
 max:mg "max" = none
 min:mg "min" = none
 all:mg "all" = none
 range:mg "range" = none
 enumerate:mg "enumerate" = none
 isinstance:mg "isinstance" = none
 bool_:mg "bool" = none
 int_:mg "int" = none
 tuple_:mg "tuple" = none
 list_:mg "list" = none
theorem emod_b (x:Int) {m:Int} (h:0 < m):0<=x % m/\x % m < m:=⟨Int.emod_nonneg x (by omega),Int.emod_lt_of_pos x h⟩
section
variable {P:Program} {w:World} {K:PySem.W.Frag} {mg:Str->Option Value} {base:Heap} {f:Addr} {fd:FuncData} {n:Nat}
end
theorem menu4b {a b c d j:Int} {ok:Int->Prop} (ha:ok a) (hb:ok b) (hc:ok c) (hd:ok d) (h0:0<=j) (h1:j < 4):∃ v:Int,atI [V.int a,V.int b,V.int c,V.int d] j=some (.int v)/\ok v:=by
 rcases (by omega:j=0\/j=1\/j=2\/j=3) with rfl | rfl | rfl | rfl
 ·exact ⟨a,rfl,ha⟩
 ·exact ⟨b,rfl,hb⟩
 ·exact ⟨c,rfl,hc⟩
 ·exact ⟨d,rfl,hd⟩
section
variable {P:Program} {w:World} {K:PySem.W.Frag} {mg:Str->Option Value} {base:Heap} {f:Addr} {fd:FuncData} {n:Nat}
theorem ok_cellA (F:Fun K "_law_cell" "_law_cell" st__law_cell f fd) (B:Bl mg):FnOk P w K mg base CX0 (n+1) f fd ["script","k"] (spCell K):=by
 refine F.okQ sc__law_cell (fun vs H Q E h=>?_) (fun cdv A outer s H vs Q E hr h=>?_)
 ·obtain ⟨_,_,_,rfl,_⟩:=h
  rfl
 obtain ⟨a,ns,k,rfl,hS,h0,q⟩:=h
 refine ⟨_,(qss_cons (qs_if (qt_cmpR qop_lt (qv 1) (qe_cb qcall_len rfl B.len bt_len (qa_c (qv 0) qa_nil)) (nomark _)) (qss_one (qs_ret (qe_ix qix_list (qv 0) (qv 1) (fun _ _=>rfl)))) qss_nil) (qss_one (qs_ret qe_int))),?_⟩
 try dsimp only [cx_k,cx_kn,as_nil,as_name,Nat.reduceAdd]
 have hl:(ns.map V.int).length=ns.length:=List.length_map _
 refine ⟨_,rfl,_,rfl,a,_,rfl,.inl hS,_,_,rfl,rfl,_,rfl,?_⟩
 refine ite2 (fun c=>?_) (fun c=>?_)
 ·have c':k < (((ns.map V.int).length:Nat):Int):=of_decide_eq_true c
  rw [hl] at c'
  obtain ⟨v,hv⟩:=at_int (ns:=ns) h0 (by omega)
  exact ⟨_,rfl,_,rfl,a,_,_,_,rfl,rfl,hS,hv,q v⟩
 ·exact q 0
theorem ok_dayA (F:Fun K "_law_day" "_law_day" st__law_day f fd):FnOk P w K mg base CX0 (n+1) f fd ["cell"] spDay:=by
 refine F.okQ sc__law_day (fun vs H Q E h=>?_) (fun cdv A outer s H vs Q E hr h=>?_)
 ·obtain ⟨_,rfl,_⟩:=h
  rfl
 obtain ⟨c,rfl,q⟩:=h
 refine ⟨_,(qss_cons (qs_set (i:=1) sc__law_day.nd rfl (Or.inl rfl) (qe_op qop_fdivB (qv 0) qe_int)) (qss_cons (qs_if (qt_cmpR qop_eq (qe_op qop_mod (qv 0) qe_int) qe_int (nomark _)) (qss_one (qs_ret (qe_op qop_add qe_int (qe_op qop_mod (qv 1) (qe_op qop_pow qe_int qe_int))))) qss_nil) (qss_cons (qs_if (qt_cmpR qop_eq (qe_op qop_mod (qv 0) qe_int) qe_int (nomark _)) (qss_one (qs_ret (qe_op qop_add qe_int (qe_op qop_mod (qv 1) qe_int)))) qss_nil) (qss_cons (qs_if (qt_cmpR qop_eq (qe_op qop_mod (qv 0) qe_int) qe_int (nomark _)) (qss_one (qs_ret (qe_op qop_add qe_int (qe_op qop_mod (qv 1) qe_int)))) qss_nil) (qss_one (qs_ret (qe_ix qix_list (qe_lst (qa_c qe_int (qa_c qe_int (qa_c (qe_op qop_add (qe_op qop_pow qe_int qe_int) qe_int) (qa_c (qe_op qop_pow qe_int qe_int) qa_nil))))) (qe_op qop_mod (qv 1) qe_int) (fun _ _=>rfl)))))))),?_⟩
 try dsimp only [cx_k,cx_kn,as_nil,as_name,Nat.reduceAdd]
 refine ⟨_,rfl,_,_,rfl,rfl,⟨by decide,by decide⟩,?_⟩
 dsimp only
 generalize c / 4=rest
 refine ⟨_,rfl,_,_,rfl,rfl,(by show (0:Int) < 4; decide),rfl,_,rfl,?_⟩
 refine ite2 (fun z=>?_) (fun z=>?_)
 ·refine ⟨_,rfl,_,_,rfl,rfl,⟨by decide,by decide,by decide⟩,_,_,rfl,rfl,(by show (0:Int) < 10 ^ (15:Int).toNat; rw [pow15]; decide),_,_,rfl,rfl,?_⟩
  have e15:=emod_b rest (show (0:Int) < 10 ^ (15:Int).toNat by rw [pow15]; decide)
  have:rest % 10 ^ (15:Int).toNat < 1000000000000000:=by
   have:=e15.2
   generalize rest % 10 ^ (15:Int).toNat=u at *
   rw [pow15] at this
   exact this
  exact q _ H (by omega) (by omega) (Same.refl H)
 refine ⟨_,rfl,_,_,rfl,rfl,(by show (0:Int) < 4; decide),rfl,_,rfl,?_⟩
 refine ite2 (fun z=>?_) (fun z=>?_)
 ·have em:=emod_b rest (show (0:Int) < 7 by decide)
  exact ⟨_,rfl,_,_,rfl,rfl,(by show (0:Int) < 7; decide),_,_,rfl,rfl,q _ H (by omega) (by omega) (Same.refl H)⟩
 refine ⟨_,rfl,_,_,rfl,rfl,(by show (0:Int) < 4; decide),rfl,_,rfl,?_⟩
 refine ite2 (fun z=>?_) (fun z=>?_)
 ·have em:=emod_b rest (show (0:Int) < 100 by decide)
  exact ⟨_,rfl,_,_,rfl,rfl,(by show (0:Int) < 100; decide),_,_,rfl,rfl,q _ H (by omega) (by omega) (Same.refl H)⟩
 ·refine ⟨_,_,rfl,rfl,⟨by decide,by decide,by decide⟩,_,_,rfl,rfl,_,_,rfl,rfl,⟨by decide,by decide,by decide⟩,(by show 4<=sizeLine; decide),fun p hp=>?_⟩
  generalize hgH1:upd _ p _=H1
  obtain ⟨s1,e1⟩:=fresh_of hp hgH1
  clear hgH1
  obtain ⟨v,hv,v1,v2⟩:=menu4b (ok:=fun v=>1<=v/\v<=1000000000000000) (a:=24) (b:=1440) (c:=10 ^ (9:Int).toNat+7) (d:=10 ^ (15:Int).toNat) (j:=rest % 4) (by decide) (by decide) (by decide +kernel) (by decide +kernel) (Int.emod_nonneg _ (by decide)) (Int.emod_lt_of_pos _ (by decide))
  exact ⟨_,rfl,_,_,rfl,rfl,(by show (0:Int) < 4; decide),p,_,_,.int v,rfl,rfl,SqL.of e1,hv,q v H1 v1 v2 s1⟩
end
section
variable {P:Program} {w:World} {K:PySem.W.Frag} {mg:Str->Option Value} {base:Heap} {f:Addr} {fd:FuncData} {n:Nat}
theorem ok_is_whole (F:Fun K "is_whole" "is_whole" st_is_whole f fd) (B:Bl mg):FnOk P w K mg base CX0 (n+1) f fd ["thing"] spIsWhole:=by
 refine F.okQ sc_is_whole (fun vs H Q E h=>?_) (fun cdv A outer s H vs Q E hr h=>?_)
 ·obtain ⟨_,rfl,_⟩:=h
  rfl
 obtain ⟨x,rfl,dv,q⟩:=h
 refine ⟨_,(qss_one (qs_ret (qe_and (qe_cb qcall_isi rfl B.isinstance bt_isinstance (qa_c (qv 0) (qa_c (qe_bltn (v:=.ty "int") rfl B.int_ bt_int rfl) qa_nil))) (qe_one (qe_not (qe_cb qcall_isi rfl B.isinstance bt_isinstance (qa_c (qv 0) (qa_c (qe_bltn (v:=.ty "bool") rfl B.bool_ bt_bool rfl) qa_nil)))))))),?_⟩
 try dsimp only [cx_k,cx_kn,as_nil,as_name,Nat.reduceAdd]
 cases dv with
 | non=>exact ⟨_,rfl,_,"int",_,_,rfl,.non,rfl,_,rfl,iteF q⟩
 | bl b=>exact ⟨_,rfl,_,"int",_,_,rfl,.bl _,rfl,_,rfl,iteT ⟨_,rfl,_,"bool",_,_,rfl,.bl _,rfl,_,rfl,q⟩⟩
 | int i=>exact ⟨_,rfl,_,"int",_,_,rfl,.int _,rfl,_,rfl,iteT ⟨_,rfl,_,"bool",_,_,rfl,.int _,rfl,_,rfl,q⟩⟩
 | str z=>exact ⟨_,rfl,_,"int",_,_,rfl,.str _,rfl,_,rfl,iteF q⟩
 | lst e=>exact ⟨_,rfl,_,"int",_,_,rfl,.lst e,rfl,_,rfl,iteF q⟩
 | tup e=>exact ⟨_,rfl,_,"int",_,_,rfl,.tup e,rfl,_,rfl,iteF q⟩
theorem ok_is_window (F:Fun K "is_window" "is_window" st_is_window f fd) (B:Bl mg) (C_is_whole:Callee P w K mg base n "is_whole" ["thing"] spIsWhole):FnOk P w K mg base CX0 (n+1) f fd ["day","thing"] spWindow:=by
 refine F.okQ sc_is_window (fun vs H Q E h=>?_) (fun cdv A outer s H vs Q E hr h=>?_)
 ·obtain ⟨_,_,rfl,_⟩:=h
  rfl
 obtain ⟨day,x,rfl,dv,q⟩:=h
 refine ⟨_,(qss_cons (qs_if (QW.pt (qw_or (qt_not (qt_val (qe_cb qcall_isi rfl B.isinstance bt_isinstance (qa_c (qv 1) (qa_c (qe_bltn (v:=.ty "tuple") rfl B.tuple_ bt_tuple rfl) qa_nil))))) (qw_or1 (qt_cmpR qop_ne (qe_cb qcall_len rfl B.len bt_len (qa_c (qv 1) qa_nil)) qe_int (nomark _))))) (qss_one (qs_ret qe_bl)) qss_nil) (qss_cons (qs_if (qt_not (qt_val (qe_cb (qcall_all rfl) rfl B.all bt_all (qa_c (qe_comp ["part"] [none] (BlkOk.of rfl rfl (SubL.to subN) rfl) rfl (qi_tup (qv 1)) (fun _ _ _ _=>(qg_name (i:=0) (show (["part"]:List Str).Nodup by decide) rfl (Or.inl rfl))) (fun _ _ _ _=>(qe_fn C_is_whole hr rfl (qa_c (qv 0) qa_nil)))) qa_nil)))) (qss_one (qs_ret qe_bl)) qss_nil) (qss_one (qs_ret (qe_and (qe_chain3 qop_le qop_le qop_lt qe_int (qe_ix qix_tup (qv 1) qe_int (fun _ _=>rfl)) (qe_ix qix_tup (qv 1) qe_int (fun _ _=>rfl)) (qv 0)) (qe_one (qe_cmpR qop_ge (qe_ix qix_tup (qv 1) qe_int (fun _ _=>rfl)) qe_int (nomark _)))))))),?_⟩
 try dsimp only [cx_k,cx_kn,as_nil,as_name,Nat.reduceAdd]
 obtain ⟨t,hty,hk⟩:=dv.1.isTup (K:=K)
 have q0:winV H day x=false->∀ H',Same H H'->Q (.bl false) H':=fun e H' s=>by
  have:=q H' s
  rw [e] at this
  exact this
 cases ht:tupV H x with
 | none =>
  rw [ht] at hk
  have hw:winV H day x=false:=by unfold winV; rw [ht]
  exact ⟨_,rfl,_,"tuple",t,_,rfl,hty,hk,_,rfl,iteT (iteT (q0 hw _ (Same.refl H)))⟩
 | some xs =>
  rw [ht] at hk
  have hwl:winV H day x=winL day xs:=by unfold winV; rw [ht]
  have dz:=dv.2 xs ht
  obtain ⟨r,rfl,er⟩:=tupV_at ht
  refine ⟨_,rfl,_,"tuple",t,_,rfl,hty,hk,_,rfl,iteF ?_⟩
  refine ⟨_,rfl,r,xs,rfl,.inr (SqT.of er),rfl,_,rfl,?_⟩
  by_cases hl:xs.length=3
  ·obtain ⟨u,v,w',rfl⟩:=three hl
   refine iteN (by simp) ?_
   refine ⟨_,rfl,r,rfl,⟨_,SqT.of er⟩,?_⟩
   refine comp_tup0 (K:=K) (a:=r) (xs:=[u,v,w']) (fun D i H'=>Same H H'/\H' D=some (.lst ((([u,v,w']:List V).take i).map fun y=>V.bl (isWh y)))) (fun D hD=>⟨same_new hD _,upd_same⟩) (fun D i H' _ _ h=>SqT.of (h.1 _ _ er)) ?_ ?_
   ·intro D i y H' hD hi z9;obtain ⟨s2,hD2⟩ := z9
    refine ⟨fun k v' e=>?_,_,rfl,y,rfl,(dz y (List.mem_of_getElem? hi)).same s2,_,hD2,(by rw [List.length_map,List.length_take]; exact small1000 (by simp; omega)),fun b o eb=>?_,?_⟩
    ·match k,e with
     | 0,e=>cases e
     | k+1,e=>cases e
    ·rw [upd_ne (ne_of_none eb hD)]
     exact s2 _ _ eb
    ·rw [upd_same,take_snoc _ hi]
   ·intro D H' hD z9;obtain ⟨s2,hD2⟩ := z9
    have eD:H' D=some (.lst (([isWh u,isWh v,isWh w']:List Bool).map V.bl)):=hD2
    refine ⟨D,_,rfl,SqL.of eD,_,rfl,?_⟩
    refine ite2 (fun c=>?_) (fun c=>?_)
    ·refine q0 ?_ H' s2
     rw [hwl]
     have c':(isWh u && (isWh v && isWh w'))=false:=by cases hu:isWh u <;> cases hv:isWh v <;> cases hw:isWh w' <;> simp [hu,hv,hw] at c ⊢
     unfold winL
     split
     ·rename_i a b c e
      cases e
      exact absurd c' (by simp [isWh])
     ·rfl
    ·have c':isWh u=true/\isWh v=true/\isWh w'=true:=by simpa using c
     obtain ⟨a,rfl⟩:=isWh_int c'.1
     obtain ⟨b,rfl⟩:=isWh_int c'.2.1
     obtain ⟨c3,rfl⟩:=isWh_int c'.2.2
     have q1:=q H' s2
     rw [hwl] at q1
     have er':=s2 _ _ er
     unfold winL at q1
     dsimp only at q1
     refine ⟨_,rfl,r,_,_,_,rfl,rfl,SqT.of er',rfl,_,_,rfl,rfl,_,rfl,?_⟩
     refine ite2 (fun c1=>?_) (fun c1=>?_)
     ·rw [c1,Bool.true_and] at q1
      refine ⟨_,rfl,r,_,_,_,rfl,rfl,SqT.of er',rfl,_,_,rfl,rfl,_,rfl,?_⟩
      refine ite2 (fun c2=>?_) (fun c2=>?_)
      ·rw [c2,Bool.true_and] at q1
       refine ⟨_,rfl,_,_,rfl,rfl,_,rfl,?_⟩
       refine ite2 (fun c3=>?_) (fun c3=>?_)
       ·rw [c3,Bool.true_and] at q1
        exact ⟨_,rfl,r,_,_,_,rfl,rfl,SqT.of er',rfl,_,_,rfl,rfl,q1⟩
       ·rw [Bool.eq_false_iff.mpr c3,Bool.false_and] at q1
        exact q1
      ·rw [Bool.eq_false_iff.mpr c2,Bool.false_and] at q1
       exact ⟨_,rfl,iteF q1⟩
     ·rw [Bool.eq_false_iff.mpr c1,Bool.false_and] at q1
      exact ⟨_,rfl,iteF q1⟩
  ·refine iteP (by simp; omega) (q0 ?_ _ (Same.refl H))
   rw [hwl]
   unfold winL
   split
   ·rename_i e
    exact absurd rfl hl
   ·rfl
theorem ok_is_board (F:Fun K "is_board" "is_board" st_is_board f fd) (B:Bl mg) (C_is_window:Callee P w K mg base n "is_window" ["day","thing"] spWindow):FnOk P w K mg base CX0 (n+1) f fd ["day","thing"] spBoard:=by
 refine F.okQ sc_is_board (fun vs H Q E h=>?_) (fun cdv A outer s H vs Q E hr h=>?_)
 ·obtain ⟨_,_,rfl,_⟩:=h
  rfl
 obtain ⟨day,x,rfl,dv,q⟩:=h
 refine ⟨_,(qss_one (qs_ret (qe_and (qe_cb qcall_isi rfl B.isinstance bt_isinstance (qa_c (qv 1) (qa_c (qe_bltn (v:=.ty "list") rfl B.list_ bt_list rfl) qa_nil))) (qe_one (qe_cb (qcall_all rfl) rfl B.all bt_all (qa_c (qe_comp ["part","day"] [none,some 0] (BlkOk.of rfl rfl (SubL.to (subC rfl subN)) rfl) rfl (qi_list (qv 1)) (fun _ _ _ _=>(qg_name (i:=0) (show (["part","day"]:List Str).Nodup by decide) rfl (Or.inl rfl))) (fun _ _ _ _=>(qe_fn C_is_window hr rfl (qa_c (qv 1) (qa_c (qv 0) qa_nil))))) qa_nil)))))),?_⟩
 try dsimp only [cx_k,cx_kn,as_nil,as_name,Nat.reduceAdd]
 obtain ⟨t,hty,hk⟩:=dv.1.isLst (K:=K)
 unfold boardV at q
 cases ht:lstV H x with
 | none =>
  rw [ht] at hk q
  exact ⟨_,rfl,_,"list",t,_,rfl,hty,hk,_,rfl,iteF (q _ (Same.refl H))⟩
 | some xs =>
  rw [ht] at hk q
  obtain ⟨hlen,dz⟩:=dv.2 xs ht
  obtain ⟨p,rfl,ep⟩:=lstV_at ht
  refine ⟨_,rfl,_,"list",t,_,rfl,hty,hk,_,rfl,iteT ?_⟩
  refine ⟨_,rfl,p,rfl,⟨_,SqL.of ep⟩,?_⟩
  refine comp_list0 (K:=K) (a:=p) (xs:=xs) (fun D i H'=>Same H H'/\H' D=some (.lst ((xs.take i).map fun y=>V.bl (winV H day y)))) (fun D hD=>⟨same_new hD _,upd_same⟩) (fun D i H' _ _ h=>SqL.of (h.1 _ _ ep)) ?_ ?_
  ·intro D i y H' hD hi z9;obtain ⟨s2,hD2⟩ := z9
   have d2:=dz y (List.mem_of_getElem? hi)
   refine ⟨fun k v' e=>?_,_,rfl,_,rfl,day,y,rfl,d2.same s2,fun H3 s3=>⟨_,s3 _ _ hD2,(by rw [List.length_map,List.length_take]; exact small1000 (by omega)),fun b o eb=>?_,?_⟩⟩
   ·match k,e with
    | 0,e=>cases e
    | 1,e=>exact e
    | k+2,e=>cases e
   ·rw [upd_ne (ne_of_none eb hD)]
    exact s3 _ _ (s2 _ _ eb)
   ·rw [upd_same,take_snoc _ hi,d2.1.winV_same s2]
  ·intro D H' hD z9;obtain ⟨s2,hD2⟩ := z9
   have eD:H' D=some (.lst ((xs.map (winV H day)).map V.bl)):=by
    rw [hD2,List.take_length,List.map_map]
    rfl
   refine ⟨D,_,rfl,SqL.of eD,?_⟩
   have e1:(xs.map (winV H day)).all id=xs.all (winV H day):=by rw [List.all_map]; rfl
   rw [e1]
   exact q H' s2
end
noncomputable def spStretches:Sp:=fun vs H Q _=>∃ (day:Int) (p:Addr) (R:List T3),vs=[.int day,.ref p]/\LA enc3 H p R/\R.length<=4000000/\∀ (l:Addr) (H':Hp),Same H H'->H l=none->LA enc4 H' l (Ma.strOf day R)->Q (.ref l) H'
section
variable {P:Program} {w:World} {K:PySem.W.Frag} {mg:Str->Option Value} {base:Heap} {f:Addr} {fd:FuncData} {n:Nat}
theorem ok_stretches (F:Fun K "stretches" "stretches" st_stretches f fd) (B:Bl mg):FnOk P w K mg base CX0 (n+1) f fd ["day","clock"] spStretches:=by
 refine F.okQ sc_stretches (fun vs H Q E h=>?_) (fun cdv A outer s H vs Q E hr h=>?_)
 ·obtain ⟨_,_,_,rfl,_⟩:=h
  rfl
 obtain ⟨day,p,R,rfl,hR,hlen,q⟩:=h
 refine ⟨_,(qss_cons (qs_set (i:=2) sc_stretches.nd rfl (Or.inl rfl) (qe_lst qa_nil)) (qss_cons (qs_set (i:=3) sc_stretches.nd rfl (Or.inl rfl) qe_int) (qss_cons (qs_for PassesOwn.never rfl (qi_list (qv 1)) (qg_tup rfl (qgs_cons (qg_name (i:=4) sc_stretches.nd rfl (Or.inl rfl)) (qgs_cons (qg_name (i:=5) sc_stretches.nd rfl (Or.inl rfl)) (qgs_cons (qg_name (i:=6) sc_stretches.nd rfl (Or.inl rfl)) qgs_nil)))) (qss_cut (qs_if (qt_cmpR qop_lt (qv 3) (qv 4) (nomark _)) (qss_one (qs_expr (qe_append (qv 2) (qa_c (qe_tup (qa_c (qv 3) (qa_c (qe_op qop_sub (qv 4) qe_int) (qa_c qe_bl (qa_c (qe_op qop_add (qv 4) (qv 6)) qa_nil))))) qa_nil)))) qss_nil) (qss_cons (qs_expr (qe_append (qv 2) (qa_c (qe_tup (qa_c (qv 4) (qa_c (qv 5) (qa_c qe_bl (qa_c (qv 6) qa_nil))))) qa_nil))) (qss_one (qs_set (i:=3) sc_stretches.nd rfl (Or.inl rfl) (qe_op qop_add (qv 5) qe_int)))))) (qss_cut (qs_if (qt_cut (QW.pt (qw_and (qt_cmpR qop_gt (qe_cb qcall_len rfl B.len bt_len (qa_c (qv 2) qa_nil)) qe_int (nomark _)) (qw_and1 (qt_cmpR qop_lt (qv 3) (qv 0) (nomark _)))))) (qss_one (qs_expr (qe_append (qv 2) (qa_c (qe_tup (qa_c (qv 3) (qa_c (qe_op qop_sub (qv 0) qe_int) (qa_c qe_bl (qa_c (qe_op qop_add (qe_op qop_add (qv 0) (qe_ix qix_tup (qe_ix qix_list (qv 1) qe_int (fun _ _=>rfl)) qe_int (fun _ _=>rfl))) (qe_ix qix_tup (qe_ix qix_list (qv 1) qe_int (fun _ _=>rfl)) qe_int (fun _ _=>rfl))) qa_nil))))) qa_nil)))) qss_nil) (qss_one (qs_ret (qv 2))))))),?_⟩
 try dsimp only [cx_k,cx_kn,as_nil,as_name,Nat.reduceAdd]
 refine ⟨(by show 0<=sizeLine; decide),fun pr hpr=>?_⟩
 have s0:Same H (upd H pr (.lst [])):=same_new hpr _
 obtain ⟨ws,hw1,hw2,hw3⟩:=hR.lst
 refine ⟨_,rfl,p,rfl,⟨_,SqL.of (s0 _ _ hw1)⟩,for_list (K:=K) (a:=p) (xs:=ws)
  (fun i σ H'=>∃ (v1 v2 v3:Option V),σ=[some (.int day),some (.ref p),some (.ref pr),some (.int (Ma.stPre (R.take i)).2),v1,v2,v3]/\Same H H'/\LA enc4 H' pr (Ma.stPre (R.take i)).1)
  ⟨_,_,_,rfl,s0,LA.nil upd_same⟩ (fun i σ H' _ ⟨_,_,_,_,s1,_⟩=>SqL.of (s1 _ _ hw1)) ?_ ?_⟩
 ·intro i y σ H1 hi z9;obtain ⟨v1,v2,v3,rfl,s1,hL⟩ := z9
  obtain ⟨r,x,rfl,ex,er⟩:=hw3 i y hi
  obtain ⟨a,b,c⟩:=x
  have er1:=s1 _ _ er
  have hi2:i < R.length:=(List.getElem?_eq_some_iff.mp ex).1
  have et:R.take (i+1)=R.take i ++ [(a,b,c)]:=by rw [List.take_add_one,ex]; rfl
  have ln:(Ma.stPre (R.take i)).1.length<=2 * i:=by
   have:=(Ma.stPre_len (R.take i)).1
   rw [List.length_take] at this
   omega
  rw [et,Ma.stPre_snoc]
  unfold Ma.stStep
  generalize (Ma.stPre (R.take i)).1=S at *
  generalize (Ma.stPre (R.take i)).2=pp at *
  refine ⟨r,_,rfl,SqT.of er1,rfl,_,_,rfl,_,_,rfl,_,_,rfl,rfl,?_⟩
  refine ⟨fun σ' H2=>σ'=[some (.int day),some (.ref p),some (.ref pr),some (.int pp),some (.int a),some (.int b),some (.int c)]/\Same H H2/\LA enc4 H2 pr (if pp < a then S ++ [(pp,a - 1,true,a+c)] else S),?_,?_⟩
  ·refine ⟨_,rfl,_,rfl,_,_,rfl,rfl,_,rfl,?_⟩
   refine ite2 (fun z=>?_) (fun z=>?_)
   ·rw [if_pos (of_decide_eq_true z)]
    obtain ⟨us,hu1,hu2,hu3⟩:=hL.lst
    refine ⟨_,rfl,.inl ⟨rfl,_,SqL.of hu1⟩,_,rfl,_,rfl,_,_,rfl,rfl,_,rfl,_,rfl,_,_,rfl,rfl,(by show 4<=sizeLine; decide),fun r2 hr2=>?_⟩
    have s2:=same_new hr2 (.tup [.int pp,.int (a - 1),.bl true,.int (a+c)])
    refine ⟨pr,us,.ref r2,rfl,rfl,s2 _ _ hu1,line_of (by omega),rfl,same_wr hpr (s1.trans s2),?_⟩
    exact (hL.same s2).append (x:=(pp,a - 1,true,a+c)) (s2 _ _ hu1) upd_same
   ·rw [if_neg (fun y=>z (decide_eq_true y))]
    exact ⟨rfl,s1,hL⟩
  intro σ' H2 z9;obtain ⟨rfl,s2,hL2⟩ := z9
  have ln2:(if pp < a then S ++ [(pp,a - 1,true,a+c)] else S).length<=2 * i+1:=by
   split
   ·simp; omega
   ·omega
  generalize (if pp < a then S ++ [(pp,a - 1,true,a+c)] else S)=S2 at *
  obtain ⟨us,hu1,hu2,hu3⟩:=hL2.lst
  refine ⟨_,rfl,.inl ⟨rfl,_,SqL.of hu1⟩,_,rfl,_,rfl,_,rfl,(by show 4<=sizeLine; decide),fun r2 hr2=>?_⟩
  have s3:=same_new hr2 (.tup [.int a,.int b,.bl false,.int c])
  refine ⟨pr,us,.ref r2,rfl,rfl,s3 _ _ hu1,line_of (by omega),?_⟩
  refine ⟨_,rfl,_,_,rfl,rfl,_,_,_,rfl,same_wr hpr (s2.trans s3),?_⟩
  exact (hL2.same s3).append (x:=(a,b,false,c)) (s3 _ _ hu1) upd_same
 ·intro σ H1 z9;obtain ⟨v1,v2,v3,rfl,s1,hL⟩ := z9
  rw [hw2,List.take_length] at hL ⊢
  have ln:=Ma.stPre_len R
  obtain ⟨us,hu1,hu2,hu3⟩:=hL.lst
  refine ⟨fun σ' H2=>∃ u1 u2 u3 u4,σ'=[some (.int day),some (.ref p),some (.ref pr),u1,u2,u3,u4]/\Same H H2/\LA enc4 H2 pr (Ma.strOf day R),?_,?_⟩
  ·unfold Ma.strOf
   refine ⟨fun c H2=>H2=H1/\c=decide (0 < (Ma.stPre R).1.length/\(Ma.stPre R).2 < day),?_,?_⟩
   ·refine ⟨_,rfl,pr,_,rfl,.inl (SqL.of hu1),_,_,rfl,rfl,_,rfl,?_⟩
    refine ite2 (fun z=>?_) (fun z=>?_)
    ·have z':(0:Int) < ((us.length:Nat):Int):=of_decide_eq_true z
     refine ⟨_,rfl,_,rfl,_,_,rfl,rfl,_,rfl,rfl,?_⟩
     have z2:0 < (Ma.stPre R).1.length:=by omega
     by_cases c:(Ma.stPre R).2 < day <;> simp [c,z2]
    ·refine ⟨rfl,?_⟩
     have z':¬ (0:Int) < ((us.length:Nat):Int):=fun y=>z (decide_eq_true y)
     exact (decide_eq_false (by omega)).symm
   intro c H2 z9;obtain ⟨rfl,rfl⟩ := z9
   refine ite2 (fun z=>?_) (fun z=>?_)
   ·have z':=of_decide_eq_true z
    rw [if_pos z']
    have n0:0 < R.length:=by
     rcases Nat.eq_zero_or_pos R.length with e | e
     ·have:=ln.1
      omega
     ·exact e
    obtain ⟨ws',k1,k2,k3⟩:=(hR.same s1).at (K:=K)
    obtain ⟨r0,ka,kb⟩:=k3 0 _ (Ma.r_at n0)
    refine ⟨_,rfl,.inl ⟨rfl,_,SqL.of hu1⟩,_,rfl,_,rfl,_,_,rfl,rfl,_,rfl,_,rfl,p,_,_,_,rfl,rfl,SqL.of k1,ka,r0,_,_,_,rfl,rfl,SqT.of kb,rfl,_,_,rfl,rfl,_,rfl,p,_,_,_,rfl,rfl,SqL.of k1,ka,r0,_,_,_,rfl,rfl,SqT.of kb,rfl,_,_,rfl,rfl,
     (by show 4<=sizeLine; decide),fun r2 hr2=>?_⟩
    have s3:=same_new hr2 (.tup [.int (Ma.stPre R).2,.int (day - 1),.bl true,.int (day+Ma.rA R 0+Ma.rC R 0)])
    refine ⟨pr,us,.ref r2,rfl,rfl,s3 _ _ hu1,line_of (by omega),_,_,_,_,rfl,same_wr hpr (s1.trans s3),?_⟩
    exact (hL.same s3).append (x:=((Ma.stPre R).2,day - 1,true,day+Ma.rA R 0+Ma.rC R 0)) (s3 _ _ hu1) upd_same
   ·rw [if_neg (fun y=>z (decide_eq_true y))]
    exact ⟨_,_,_,_,rfl,s1,hL⟩
  intro σ' H2 z9;obtain ⟨u1,u2,u3,u4,rfl,s2,hL2⟩ := z9
  exact ⟨_,rfl,q pr H2 s2 hpr hL2⟩
end
open Ma (T6)
noncomputable def enc6 (r:T6):List V:=[.int r.1,.int r.2.1,.bl r.2.2.1,.int r.2.2.2.1,.bl r.2.2.2.2.1,.int r.2.2.2.2.2]
noncomputable def spFirstTold:Sp:=fun vs H Q _=>∃ (r:Addr) (x:T4),vs=[.ref r]/\H r=some (.tup (enc4 x))/\Q (.int (Ma.ftold x)) H
noncomputable def spPut:Sp:=fun vs H Q _=>∃ (p:Addr) (a b c:Int) (R:List T3),vs=[.ref p,.int a,.int b,.int c]/\LA enc3 H p R/\R.length<=16000000/\∀ H',SameT p H H'->LA enc3 H' p (Ma.putW R a b c)->Q .non H'
noncomputable def spClockFrom:Sp:=fun vs H Q _=>∃ (day:Int) (p:Addr) (S:List T4) (g:Int->Int),vs=[.int day,.ref p]/\LA enc4 H p S/\S.length<=16000000/\0 < day/\Ma.Rise day g/\Ma.Cov g 0 S day /\
 ∀ (l:Addr) (R:List T3) (H':Hp),Same H H'->H l=none->LA enc3 H' l R->R.length<=S.length->Ma.Can 0 day g R->Q (.ref l) H'
noncomputable def spOverlay:Sp:=fun vs H Q _=>∃ (day:Int) (p1 p2:Addr) (R1 R2:List T3) (f1 f2:Int->Int),vs=[.int day,.ref p1,.ref p2]/\LA enc3 H p1 R1/\LA enc3 H p2 R2/\R1.length<=1900000/\R2.length<=1900000/\Ma.CK day R1/\Ma.CK day R2/\Ma.Tells day R1 f1/\Ma.Tells day R2 f2 /\
 ∀ (l:Addr) (O:List T6) (H':Hp),Same H H'->H l=none->LA enc6 H' l O->O.length<=2 * R1.length+2 * R2.length+2->Ma.Cov2 f1 f2 0 O day->Q (.ref l) H'
noncomputable def spPicked:Sp:=fun vs H Q _=>∃ (p q wt rd:Int) (late:Bool),vs=[.int p,.int q,.int wt,.int rd,.bl late]/\∀ (l:Addr) (H':Hp),Same H H'->H l=none->LA enc4 H' l (Ma.pickL p q wt rd late)->Q (.ref l) H'
noncomputable def spJoined:Sp:=fun vs H Q _=>∃ (day:Int) (p1 p2:Addr) (late:Bool) (R1 R2:List T3) (f1 f2:Int->Int),vs=[.int day,.ref p1,.ref p2,.bl late]/\LA enc3 H p1 R1/\LA enc3 H p2 R2/\R1.length<=1900000/\R2.length<=1900000/\Ma.CK day R1/\Ma.CK day R2/\Ma.Tells day R1 f1/\Ma.Tells day R2 f2 /\
 ∀ (l:Addr) (R:List T3) (H':Hp),Same H H'->H l=none->LA enc3 H' l R->R.length<=4 * R1.length+4 * R2.length+4->Ma.Can 0 day (fun x=>Ma.jn late (f1 x) (f2 x)) R->Q (.ref l) H'
noncomputable def spTwo (op:Option Int->Option Int->Option Int):Sp:=fun vs H Q _=>∃ (day:Int) (p1 p2:Addr) (R1 R2:List T3),vs=[.int day,.ref p1,.ref p2]/\LA enc3 H p1 R1/\LA enc3 H p2 R2/\R1.length<=1900000/\R2.length<=1900000/\Ma.CK day R1/\Ma.CK day R2 /\
 ∀ (l:Addr) (R:List T3) (H':Hp),Same H H'->H l=none->LA enc3 H' l R->R.length<=4 * R1.length+4 * R2.length+4->Ma.CK day R->(∀ t,Ma.bt day R t=op (Ma.bt day R1 t) (Ma.bt day R2 t))->Q (.ref l) H'
section
variable {P:Program} {w:World} {K:PySem.W.Frag} {mg:Str->Option Value} {base:Heap} {f:Addr} {fd:FuncData} {n:Nat}
theorem ok_first_told (F:Fun K "first_told" "first_told" st_first_told f fd):FnOk P w K mg base CX0 (n+1) f fd ["row"] spFirstTold:=by
 refine F.okQ sc_first_told (fun vs H Q E h=>?_) (fun cdv A outer s H vs Q E hr h=>?_)
 ·obtain ⟨_,_,rfl,_⟩:=h
  rfl
 obtain ⟨r,x,rfl,hx,q⟩:=h
 refine ⟨_,(qss_one (qs_ret (qe_ifExp (qt_val (qe_ix qix_tup (qv 0) qe_int (fun _ _=>rfl))) (qe_ix qix_tup (qv 0) qe_int (fun _ _=>rfl)) (qe_op qop_add (qe_ix qix_tup (qv 0) qe_int (fun _ _=>rfl)) (qe_ix qix_tup (qv 0) qe_int (fun _ _=>rfl)))))),?_⟩
 try dsimp only [cx_k,cx_kn,as_nil,as_name,Nat.reduceAdd]
 refine ⟨_,rfl,r,_,_,_,rfl,rfl,SqT.of hx,rfl,_,rfl,?_⟩
 unfold Ma.ftold at q
 refine ite2 (fun c=>?_) (fun c=>?_)
 ·rw [if_pos c] at q
  exact ⟨_,rfl,r,_,_,_,rfl,rfl,SqT.of hx,rfl,q⟩
 ·rw [if_neg c] at q
  exact ⟨_,rfl,r,_,_,_,rfl,rfl,SqT.of hx,rfl,_,rfl,r,_,_,_,rfl,rfl,SqT.of hx,rfl,_,_,rfl,rfl,q⟩
theorem ok_put (F:Fun K "put_window" "put_window" st_put_window f fd) (B:Bl mg):FnOk P w K mg base CX0 (n+1) f fd ["clock","a","b","c"] spPut:=by
 refine F.okQ sc_put_window (fun vs H Q E h=>?_) (fun cdv A outer s H vs Q E hr h=>?_)
 ·obtain ⟨_,_,_,_,_,rfl,_⟩:=h
  rfl
 obtain ⟨p,a,b,c,R,rfl,hR,hlen,q⟩:=h
 refine ⟨_,(qss_cons (qs_if (qt_cmpR qop_gt (qv 1) (qv 2) (nomark _)) (qss_one qs_retN) qss_nil) (qss_one (qs_if (qt_cut (QW.pt (qw_and (qt_cmpR qop_gt (qe_cb qcall_len rfl B.len bt_len (qa_c (qv 0) qa_nil)) qe_int (nomark _)) (qw_and (qt_cmpR qop_eq (qe_op qop_add (qe_ix qix_tup (qe_ix qix_list (qv 0) (qe_neg qe_int) (fun _ _=>rfl)) qe_int (fun _ _=>rfl)) qe_int) (qv 1) (nomark _)) (qw_and1 (qt_cmpR qop_eq (qe_ix qix_tup (qe_ix qix_list (qv 0) (qe_neg qe_int) (fun _ _=>rfl)) qe_int (fun _ _=>rfl)) (qv 3) (nomark _))))))) (qss_one (qs_asg (qe_tup (qa_c (qe_ix qix_tup (qe_ix qix_list (qv 0) (qe_neg qe_int) (fun _ _=>rfl)) qe_int (fun _ _=>rfl)) (qa_c (qv 2) (qa_c (qv 3) qa_nil)))) (qg_sub (qv 0) (qe_neg qe_int) set_list))) (qss_one (qs_expr (qe_append (qv 0) (qa_c (qe_tup (qa_c (qv 1) (qa_c (qv 2) (qa_c (qv 3) qa_nil)))) qa_nil))))))),?_⟩
 try dsimp only [cx_k,cx_kn,as_nil,as_name,Nat.reduceAdd]
 obtain ⟨vs,hv1,hv2,hv3⟩:=hR.lst
 have neg1:∀ (i:Int) ,(-1:Int)=-i->i=1:=fun i e=>by omega
 refine ⟨_,rfl,_,rfl,_,_,rfl,rfl,_,rfl,?_⟩
 unfold Ma.putW at q
 refine ite2 (fun z=>?_) (fun z=>?_)
 ·rw [if_pos (of_decide_eq_true z)] at q
  exact q H (fun b o e _=>e) hR
 rw [if_neg (fun y=>z (decide_eq_true y))] at q
 have app:∀ H1:Hp,H1=H->(∀ H',SameT p H H'->LA enc3 H' p (R ++ [(a,b,c)])->Q .non H')->∀ r2,H1 r2=none->Q .non (upd (upd H1 r2 (.tup [.int a,.int b,.int c])) p (.lst (vs ++ [.ref r2]))):=by
  rintro H1 rfl q' r2 hr2
  have s2:=same_new hr2 (.tup [.int a,.int b,.int c])
  refine q' _ (fun x o e nx=>?_) ((hR.same s2).append (x:=(a,b,c)) (s2 _ _ hv1) upd_same)
  rw [upd_ne nx]
  exact s2 _ _ e
 cases hl:R.getLast? with
 | none =>
  rw [hl] at q
  have e0:=List.getLast?_eq_none_iff.mp hl
  subst e0
  have v0:vs=[]:=List.length_eq_zero_iff.mp hv2
  subst v0
  refine ⟨fun k H'=>k=false/\H'=H,?_,?_⟩
  ·exact ⟨_,rfl,p,_,rfl,.inl (SqL.of hv1),_,_,rfl,rfl,_,rfl,iteN (by simp) ⟨rfl,rfl⟩⟩
  intro k H1 z9;obtain ⟨rfl,rfl⟩ := z9
  refine iteF ⟨_,rfl,.inl ⟨rfl,_,SqL.of hv1⟩,_,rfl,_,rfl,_,rfl,(by show 3<=sizeLine; decide),fun r2 hr2=>?_⟩
  refine ⟨p,_,.ref r2,rfl,rfl,(same_new hr2 _) _ _ hv1,line_of (by simp),app H1 rfl q r2 hr2⟩
 | some l =>
  rw [hl] at q
  obtain ⟨R0,rfl⟩:=List.getLast?_eq_some_iff.mp hl
  have vl:vs.length=R0.length+1:=by rw [hv2]; simp
  have vne:vs ≠ []:=fun e=>by rw [e] at vl; simp at vl
  obtain ⟨r,x,e1,e2,e3⟩:=hv3 R0.length _ (List.getElem?_eq_getElem (by omega))
  have e2':l=x:=by simpa using e2
  subst e2'
  have at1:atI vs (-1)=some (.ref r):=by
   rw [atI_last vne,show vs.length - 1=R0.length by omega,List.getElem?_eq_getElem (by omega),e1]
  obtain ⟨la,lb,lc⟩:=l
  refine ⟨fun k H'=>k=decide (lb+1=a/\lc=c)/\H'=H,?_,?_⟩
  ·refine ⟨_,rfl,p,_,rfl,.inl (SqL.of hv1),_,_,rfl,rfl,_,rfl,iteP (decide_eq_true (by show (0:Int) < ((vs.length:Nat):Int); omega)) ?_⟩
   refine ⟨_,rfl,_,rfl,p,_,_,_,rfl,rfl,SqL.of hv1,at1,r,_,_,_,rfl,rfl,SqT.of e3,rfl,_,_,rfl,rfl,_,rfl,rfl,_,rfl,?_⟩
   refine ite2 (fun y=>?_) (fun y=>?_)
   ·have y':lb+1=a:=by
     have:=of_decide_eq_true y
     simpa [enc3] using this
    refine ⟨_,rfl,_,rfl,p,_,_,_,rfl,rfl,SqL.of hv1,at1,r,_,_,_,rfl,rfl,SqT.of e3,rfl,_,rfl,rfl,_,rfl,?_,rfl⟩
    by_cases c0:lc=c <;> simp [y',c0]
   ·have y':¬ lb+1=a:=fun e=>y (decide_eq_true (by rw [<- e]))
    exact ⟨by simp [y'],rfl⟩
  intro k H1 z9;obtain ⟨rfl,rfl⟩ := z9
  dsimp only at q
  refine ite2 (fun y=>?_) (fun y=>?_)
  ·have y':=of_decide_eq_true y
   rw [if_pos y',List.dropLast_concat] at q
   refine ⟨_,rfl,_,rfl,p,_,_,_,rfl,rfl,SqL.of hv1,at1,r,_,_,_,rfl,rfl,SqT.of e3,rfl,_,rfl,_,rfl,(by show 3<=sizeLine; decide),fun r2 hr2=>?_⟩
   have s2:=same_new hr2 (.tup [.int la,.int b,.int c])
   have ix:ixN vs.length (-1)=some R0.length:=by
    unfold ixN
    rw [if_neg (by omega),if_pos (by omega)]
    congr 1
    omega
   refine ⟨_,rfl,_,rfl,p,vs,-1,R0.length,rfl,rfl,s2 _ _ hv1,ix,?_⟩
   refine q _ (fun x o e nx=>?_) ?_
   ·rw [upd_ne nx]
    exact s2 _ _ e
   ·have h:=(hR.same s2).setAt (x:=(la,b,c)) (j:=R0.length) (s2 _ _ hv1) upd_same
    have e:(R0 ++ [(la,lb,lc)]).set R0.length (la,b,c)=R0 ++ [(la,b,c)]:=by simp
    rw [e] at h
    exact h
  ·rw [if_neg (fun z=>y (decide_eq_true z))] at q
   refine ⟨_,rfl,.inl ⟨rfl,_,SqL.of hv1⟩,_,rfl,_,rfl,_,rfl,(by show 3<=sizeLine; decide),fun r2 hr2=>?_⟩
   exact ⟨p,_,.ref r2,rfl,rfl,(same_new hr2 _) _ _ hv1,line_of (by omega),app H1 rfl q r2 hr2⟩
theorem ok_clock_from (F:Fun K "clock_from" "clock_from" st_clock_from f fd) (B:Bl mg) (C_first_told:Callee P w K mg base n "first_told" ["row"] spFirstTold) (C_put_window:Callee P w K mg base n "put_window" ["clock","a","b","c"] spPut) :
  FnOk P w K mg base CX0 (n+1) f fd ["day","rows"] spClockFrom:=by
 refine F.okQ sc_clock_from (fun vs H Q E h=>?_) (fun cdv A outer s H vs Q E hr h=>?_)
 ·obtain ⟨_,_,_,_,rfl,_⟩:=h
  rfl
 obtain ⟨day,p,S,g,rfl,hS,hlen,hd,rg,hC,q⟩:=h
 refine ⟨_,(qss_cons (qs_set (i:=2) sc_clock_from.nd rfl (Or.inl rfl) (qe_lst qa_nil)) (qss_cons (qs_for PassesOwn.never rfl (qi_enum rfl B.enumerate (qa_c (qv 1) qa_nil)) (qg_tup rfl (qgs_cons (qg_name (i:=3) sc_clock_from.nd rfl (Or.inl rfl)) (qgs_cons (qg_name (i:=4) sc_clock_from.nd rfl (Or.inl rfl)) qgs_nil))) (qss_cons (qs_set (i:=5) sc_clock_from.nd rfl (Or.inl rfl) (qe_cut (qe_ifExp (qt_cmpR qop_lt (qe_op qop_add (qv 3) qe_int) (qe_cb qcall_len rfl B.len bt_len (qa_c (qv 1) qa_nil)) (nomark _)) (qe_fn C_first_told hr rfl (qa_c (qe_ix qix_list (qv 1) (qe_op qop_add (qv 3) qe_int) (fun _ _=>rfl)) qa_nil)) (qe_op qop_add (qv 0) (qe_fn C_first_told hr rfl (qa_c (qe_ix qix_list (qv 1) qe_int (fun _ _=>rfl)) qa_nil)))))) (qss_cons (qs_set (i:=6) sc_clock_from.nd rfl (Or.inl rfl) (qe_ix qix_tup (qv 4) qe_int (fun _ _=>rfl))) (qss_cons (qs_set (i:=7) sc_clock_from.nd rfl (Or.inl rfl) (qe_ix qix_tup (qv 4) qe_int (fun _ _=>rfl))) (qss_one (qs_if (qt_val (qe_ix qix_tup (qv 4) qe_int (fun _ _=>rfl))) (qss_one (qs_expr (qe_fn C_put_window hr rfl (qa_c (qv 2) (qa_c (qv 6) (qa_c (qe_cut (qe_ifExp (qt_cmpR qop_lt (qv 7) (qv 5) (nomark _)) (qv 6) (qe_op qop_sub (qv 6) qe_int))) (qa_c (qe_op qop_sub (qv 7) (qv 6)) qa_nil))))))) (qss_one (qs_expr (qe_fn C_put_window hr rfl (qa_c (qv 2) (qa_c (qe_ix qix_tup (qv 4) qe_int (fun _ _=>rfl)) (qa_c (qe_cut (qe_ifExp (qt_cmpR qop_lt (qe_op qop_add (qv 6) (qv 7)) (qv 5) (nomark _)) (qv 6) (qe_op qop_sub (qv 6) qe_int))) (qa_c (qv 7) qa_nil))))))))))))) (qss_one (qs_ret (qv 2))))),?_⟩
 try dsimp only [cx_k,cx_kn,as_nil,as_name,Nat.reduceAdd]
 refine ⟨(by show 0<=sizeLine; decide),fun pc hpc=>?_⟩
 have s0:Same H (upd H pc (.lst [])):=same_new hpc _
 obtain ⟨ws,hw1,hw2,hw3⟩:=hS.lst
 refine ⟨_,rfl,p,rfl,⟨_,SqL.of (s0 _ _ hw1)⟩,for_enum (K:=K) (a:=p) (xs:=ws)
  (fun i σ H'=>∃ (R:List T3) (at_:Int) (v1 v2 v3 v4 v5:Option V),σ=[some (.int day),some (.ref p),some (.ref pc),v1,v2,v3,v4,v5]/\Same H H'/\LA enc3 H' pc R/\R.length<=i/\0<=at_/\Ma.Can 0 at_ g R/\(∀ r,S[i]?=some r->r.1=at_)/\(i=S.length->at_=day))
  ⟨[],0,_,_,_,_,_,rfl,s0,LA.nil upd_same,Nat.le_refl _,Int.le_refl _,⟨List.Pairwise.nil,(fun w hw=>by cases hw),fun x x0 x1=>by omega⟩,fun r e=>(hC.get e).2.2.2.2.1 rfl,fun e=>?_⟩
  (fun i σ H' _ ⟨_,_,_,_,_,_,_,_,s1,_⟩=>SqL.of (s1 _ _ hw1)) ?_ ?_⟩
 ·have:S=[]:=List.length_eq_zero_iff.mp e.symm
  rw [this] at hC
  exact hC
 ·intro i y pe σ H1 hi z9 hpe;obtain ⟨R,at_,v1,v2,v3,v4,v5,rfl,s1,hR,hRl,a0,hCan,hat,_⟩ := z9
  obtain ⟨r,x,rfl,ex,er⟩:=hw3 i y hi
  have e1:=hat x ex
  obtain ⟨g1,g2,g3,g4,g5,g6,g7⟩:=hC.get ex
  have hi2:i < S.length:=(List.getElem?_eq_some_iff.mp ex).1
  have s2:=same_new hpe (.tup [.int i,.ref r])
  generalize hg2:upd H1 pe (.tup [.int i,.ref r])=H2 at *
  have ep:H2 pe=some (.tup [.int i,.ref r]):=by rw [<- hg2]; exact upd_same
  clear hg2
  have s02:=s1.trans s2
  have er2:=s02 _ _ er
  have hw12:=s02 _ _ hw1
  have fo:=Ma.cfo_eq hC rg.per ex
  have step:=hCan.row a0 x e1 g2 g4
  rw [<- fo] at step
  refine ⟨pe,_,rfl,SqT.of ep,rfl,_,_,rfl,_,_,rfl,rfl,?_⟩
  refine ⟨fun v H'=>H'=H2/\v=.int (Ma.cfo day S i),?_,?_⟩
  ·refine ⟨_,rfl,_,_,rfl,rfl,_,rfl,p,_,rfl,.inl (SqL.of hw12),_,_,rfl,rfl,_,rfl,?_⟩
   obtain ⟨ws',k1,k2,k3⟩:=(hS.same s02).at (K:=K)
   rw [hw12] at k1
   cases k1
   unfold Ma.cfo
   refine ite2 (fun c=>?_) (fun c=>?_)
   ·have c':(i:Int)+1 < ((ws.length:Nat):Int):=of_decide_eq_true c
    have hi3:i+1 < S.length:=by omega
    obtain ⟨r3,ka,kb⟩:=k3 (i+1) _ (List.getElem?_eq_getElem hi3)
    rw [List.getElem?_eq_getElem hi3]
    exact ⟨_,rfl,_,rfl,_,_,rfl,rfl,p,_,_,_,rfl,rfl,SqL.of hw12,ka,r3,_,rfl,kb,rfl,rfl⟩
   ·have c':¬ (i:Int)+1 < ((ws.length:Nat):Int):=fun z=>c (decide_eq_true z)
    have hi3:S.length<=i+1:=by omega
    obtain ⟨r3,ka,kb⟩:=k3 0 _ (List.getElem?_eq_getElem (by omega:0 < S.length))
    rw [List.getElem?_eq_none_iff.mpr hi3,List.getElem?_eq_getElem (by omega:0 < S.length)]
    exact ⟨_,rfl,_,rfl,p,_,_,_,rfl,rfl,SqL.of hw12,ka,r3,_,rfl,kb,_,_,rfl,rfl,rfl,rfl⟩
  intro v H3 z9;obtain ⟨rfl,rfl⟩ := z9
  generalize Ma.cfo day S i=fol at *
  obtain ⟨xp,xq,xs,xv⟩:=x
  refine ⟨_,rfl,r,_,_,_,rfl,rfl,SqT.of er2,rfl,?_⟩
  refine ⟨_,rfl,r,_,_,_,rfl,rfl,SqT.of er2,rfl,?_⟩
  have hR2:=hR.same s2
  have fin:∀ (H4:Hp) (u1 u2 u3 u4 u5:Option V),SameT pc H3 H4->LA enc3 H4 pc (Ma.cfStep fol (xp,xq,xs,xv) R)->∃ (R:List T3) (at_:Int) (v1 v2 v3 v4 v5:Option V),[some (.int day),some (.ref p),some (.ref pc),u1,u2,u3,u4,u5]=[some (.int day),some (.ref p),some (.ref pc),v1,v2,v3,v4,v5]/\Same H H4/\LA enc3 H4 pc R/\R.length<=i+1/\0<=at_/\Ma.Can 0 at_ g R/\(∀ r,S[i+1]?=some r->r.1=at_)/\(i+1=S.length->at_=day):=by
   intro H4 u1 u2 u3 u4 u5 s4 h4
   refine ⟨_,xq+1,u1,u2,u3,u4,u5,rfl,fun b o e=>s4 b o (s02 _ _ e) (ne_of_none e hpc),h4,?_,?_,step,fun r' e'=>g6 r' e',fun e=>g7 e⟩
   ·have:=Ma.cfStep_len fol (xp,xq,xs,xv) R
    omega
   ·have g1':0<=xp:=g1
    have g2':xp<=xq:=g2
    omega
  unfold Ma.cfStep at fin
  dsimp only at fin
  refine ⟨_,rfl,r,_,_,_,rfl,rfl,SqT.of er2,rfl,_,rfl,?_⟩
  refine ite2 (fun c=>?_) (fun c=>?_)
  ·have c':xs=true:=c
   rw [if_pos c'] at fin
   refine ⟨_,rfl,_,rfl,?_⟩
   refine ⟨fun v H'=>H'=H3/\v=.int (if xv < fol then xq else xq - 1),?_,?_⟩
   ·refine ⟨_,rfl,_,rfl,_,_,rfl,rfl,_,rfl,?_⟩
    refine ite2 (fun z=>?_) (fun z=>?_)
    ·exact ⟨_,rfl,rfl,by rw [if_pos (of_decide_eq_true z)]⟩
    ·exact ⟨_,rfl,_,_,rfl,rfl,rfl,by rw [if_neg (fun y=>z (decide_eq_true y))]⟩
   intro v H4 z9;obtain ⟨rfl,rfl⟩ := z9
   exact ⟨_,rfl,_,rfl,_,_,rfl,rfl,pc,_,_,_,R,rfl,hR2,by omega,fun H5 s5 h5=>fin H5 _ _ _ _ _ s5 h5⟩
  ·have c':¬ xs=true:=c
   rw [if_neg c'] at fin
   refine ⟨_,rfl,_,rfl,r,_,_,_,rfl,rfl,SqT.of er2,rfl,?_⟩
   refine ⟨fun v H'=>H'=H3/\v=.int (if xq+xv < fol then xq else xq - 1),?_,?_⟩
   ·refine ⟨_,rfl,_,rfl,_,_,rfl,rfl,_,rfl,_,_,rfl,rfl,_,rfl,?_⟩
    refine ite2 (fun z=>?_) (fun z=>?_)
    ·exact ⟨_,rfl,rfl,by rw [if_pos (of_decide_eq_true z)]⟩
    ·exact ⟨_,rfl,_,_,rfl,rfl,rfl,by rw [if_neg (fun y=>z (decide_eq_true y))]⟩
   intro v H4 z9;obtain ⟨rfl,rfl⟩ := z9
   exact ⟨_,rfl,pc,_,_,_,R,rfl,hR2,by omega,fun H5 s5 h5=>fin H5 _ _ _ _ _ s5 h5⟩
 ·intro σ H1 z9;obtain ⟨R,at_,v1,v2,v3,v4,v5,rfl,s1,hR,hRl,a0,hCan,hat,hend⟩ := z9
  have e:=hend hw2
  subst e
  exact ⟨_,rfl,q pc R H1 s1 hpc hR (by omega) hCan⟩
theorem ok_overlay (F:Fun K "overlay" "overlay" st_overlay f fd) (B:Bl mg) (C_stretches:Callee P w K mg base n "stretches" ["day","clock"] spStretches):FnOk P w K mg base CX0 (n+1) f fd ["day","one","other"] spOverlay:=by
 refine F.okQ sc_overlay (fun vs H Q E h=>?_) (fun cdv A outer s H vs Q E hr h=>?_)
 ·obtain ⟨_,_,_,_,_,_,_,rfl,_⟩:=h
  rfl
 obtain ⟨day,p1,p2,R1,R2,f1,f2,rfl,hR1,hR2,hl1,hl2,ck1,ck2,T1,T2,q⟩:=h
 refine ⟨_,(qss_cons (qs_set (i:=3) sc_overlay.nd rfl (Or.inl rfl) (qe_fn C_stretches hr rfl (qa_c (qv 0) (qa_c (qv 1) qa_nil)))) (qss_cons (qs_set (i:=4) sc_overlay.nd rfl (Or.inl rfl) (qe_fn C_stretches hr rfl (qa_c (qv 0) (qa_c (qv 2) qa_nil)))) (qss_cons (qs_set (i:=5) sc_overlay.nd rfl (Or.inl rfl) (qe_lst qa_nil)) (qss_cons (qs_set (i:=6) sc_overlay.nd rfl (Or.inl rfl) qe_int) (qss_cons (qs_set (i:=7) sc_overlay.nd rfl (Or.inl rfl) qe_int) (qss_cons (qs_set (i:=8) sc_overlay.nd rfl (Or.inl rfl) qe_int) (qss_cons (qs_while PassesOwn.never (qt_cmpR qop_lt (qv 8) (qv 0) (nomark _)) (qss_cons (qs_set (i:=9) sc_overlay.nd rfl (Or.inl rfl) (qe_cb (qcall_min rfl) rfl B.min bt_min (qa_c (qe_ix qix_tup (qe_ix qix_list (qv 3) (qv 6) (fun _ _=>rfl)) qe_int (fun _ _=>rfl)) (qa_c (qe_ix qix_tup (qe_ix qix_list (qv 4) (qv 7) (fun _ _=>rfl)) qe_int (fun _ _=>rfl)) qa_nil)))) (qss_cons (qs_expr (qe_append (qv 5) (qa_c (qe_tup (qa_c (qv 8) (qa_c (qv 9) (qa_c (qe_ix qix_tup (qe_ix qix_list (qv 3) (qv 6) (fun _ _=>rfl)) qe_int (fun _ _=>rfl)) (qa_c (qe_ix qix_tup (qe_ix qix_list (qv 3) (qv 6) (fun _ _=>rfl)) qe_int (fun _ _=>rfl)) (qa_c (qe_ix qix_tup (qe_ix qix_list (qv 4) (qv 7) (fun _ _=>rfl)) qe_int (fun _ _=>rfl)) (qa_c (qe_ix qix_tup (qe_ix qix_list (qv 4) (qv 7) (fun _ _=>rfl)) qe_int (fun _ _=>rfl)) qa_nil))))))) qa_nil))) (qss_cut (qs_if (qt_cmpR qop_eq (qe_ix qix_tup (qe_ix qix_list (qv 3) (qv 6) (fun _ _=>rfl)) qe_int (fun _ _=>rfl)) (qv 9) (nomark _)) (qss_one (qs_aug (i:=6) sc_overlay.nd rfl (Or.inl rfl) ip_add qe_int)) qss_nil) (qss_cut (qs_if (qt_cmpR qop_eq (qe_ix qix_tup (qe_ix qix_list (qv 4) (qv 7) (fun _ _=>rfl)) qe_int (fun _ _=>rfl)) (qv 9) (nomark _)) (qss_one (qs_aug (i:=7) sc_overlay.nd rfl (Or.inl rfl) ip_add qe_int)) qss_nil) (qss_one (qs_set (i:=8) sc_overlay.nd rfl (Or.inl rfl) (qe_op qop_add (qv 9) qe_int)))))))) (qss_one (qs_ret (qv 5)))))))))),?_⟩
 try dsimp only [cx_k,cx_kn,as_nil,as_name,Nat.reduceAdd]
 refine ⟨_,rfl,_,rfl,day,p1,R1,rfl,hR1,by omega,fun l1 H1 s1 fr1 hS1=>?_⟩
 refine ⟨_,rfl,_,rfl,day,p2,R2,rfl,hR2.same s1,by omega,fun l2 H2 s2 fr2 hS2=>?_⟩
 have C1:=Ma.str_cov ck1 T1
 have C2:=Ma.str_cov ck2 T2
 have b1:=Ma.strOf_len day R1
 have b2:=Ma.strOf_len day R2
 have hS1:=hS1.same s2
 generalize Ma.strOf day R1=S1 at *
 generalize Ma.strOf day R2=S2 at *
 have s02:=s1.trans s2
 have hd:=ck1.d0
 refine ⟨(by show 0<=sizeLine; decide),fun pr hpr=>?_⟩
 have sr:Same H2 (upd H2 pr (.lst [])):=same_new hpr _
 refine while_by (fun σ H'=>∃ (O:List T6) (k j:Nat) (p:Int) (v:Option V),σ=[some (.int day),some (.ref p1),some (.ref p2),some (.ref l1),some (.ref l2),some (.ref pr),some (.int k),some (.int j),some (.int p),v] /\
   Same H2 H'/\LA enc6 H' pr O/\Ma.Cov2 f1 f2 0 O p/\0<=p/\p<=day/\O.length<=k+j/\k<=S1.length/\j<=S2.length/\(p < day->∃ r1 r2,S1[k]?=some r1/\r1.1<=p/\p<=r1.2.1/\S2[j]?=some r2/\r2.1<=p/\p<=r2.2.1))
  (fun σ _=>match σ with | [_,_,_,_,_,_,_,_,some (.int p),_]=>(day - p).toNat | _=>0) ?_ ?_ ?_
 ·refine ⟨[],0,0,0,none,rfl,sr,LA.nil upd_same,rfl,Int.le_refl _,by omega,by simp,Nat.zero_le _,Nat.zero_le _,fun h=>?_⟩
  have n1:0 < S1.length:=by
   rcases Nat.eq_zero_or_pos S1.length with e | e
   ·rw [List.length_eq_zero_iff.mp e] at C1
    have:(0:Int)=day:=C1
    omega
   ·exact e
  have n2:0 < S2.length:=by
   rcases Nat.eq_zero_or_pos S2.length with e | e
   ·rw [List.length_eq_zero_iff.mp e] at C2
    have:(0:Int)=day:=C2
    omega
   ·exact e
  have e1:=List.getElem?_eq_getElem n1
  have e2:=List.getElem?_eq_getElem n2
  obtain ⟨g1,g2,g3,g4,g5,g6,g7⟩:=C1.get e1
  obtain ⟨h1,h2,h3,h4,h5,h6,h7⟩:=C2.get e2
  have:=g5 rfl
  have:=h5 rfl
  exact ⟨_,_,e1,by omega,by omega,e2,by omega,by omega⟩
 ·intro σ H3 z9;obtain ⟨O,k,j,p,v,rfl,s3,hO,cv,p0,pd,ol,kl,jl,hin⟩ := z9
  refine ⟨_,rfl,_,rfl,_,_,rfl,rfl,_,rfl,?_⟩
  refine ite2 (fun c=>?_) (fun c=>?_)
  ·have c':p < day:=of_decide_eq_true c
   obtain ⟨r1,r2,e1,x1,x2,e2,y1,y2⟩:=hin c'
   obtain ⟨g1,g2,g3,g4,g5,g6,g7⟩:=C1.get e1
   obtain ⟨h1,h2,h3,h4,h5,h6,h7⟩:=C2.get e2
   obtain ⟨us1,u1,u2,u3⟩:=(hS1.same s3).at (K:=K)
   obtain ⟨us2,w1,w2,w3⟩:=(hS2.same s3).at (K:=K)
   obtain ⟨a1,ua,ub⟩:=u3 k _ e1
   obtain ⟨a2,wa,wb⟩:=w3 j _ e2
   obtain ⟨q1p,q1q,q1s,q1v⟩:=r1
   obtain ⟨q2p,q2q,q2s,q2v⟩:=r2
   have x2':p<=q1q:=x2
   have y2':p<=q2q:=y2
   refine ⟨_,rfl,_,rfl,l1,_,_,_,rfl,rfl,SqL.of u1,ua,a1,_,_,_,rfl,rfl,SqT.of ub,rfl,_,rfl,_,rfl,l2,_,_,_,rfl,rfl,SqL.of w1,wa,a2,_,_,_,rfl,rfl,SqT.of wb,rfl,_,_,rfl,?_⟩
   generalize hq:(if q2q < q1q then q2q else q1q)=qq
   have qp:p<=qq:=by rw [<- hq]; split <;> omega
   have qa:qq<=q1q:=by rw [<- hq]; split <;> omega
   have qb:qq<=q2q:=by rw [<- hq]; split <;> omega
   have qe:qq=q1q\/qq=q2q:=by rw [<- hq]; split <;> simp
   obtain ⟨vs,v1,v2,v3⟩:=hO.lst
   refine ⟨_,rfl,.inl ⟨rfl,_,SqL.of v1⟩,_,rfl,_,rfl,_,rfl,_,rfl,l1,_,_,_,rfl,rfl,SqL.of u1,ua,a1,_,_,_,rfl,rfl,SqT.of ub,rfl,_,rfl,_,rfl,l1,_,_,_,rfl,rfl,SqL.of u1,ua,a1,_,_,_,rfl,rfl,SqT.of ub,rfl,
    _,rfl,_,rfl,l2,_,_,_,rfl,rfl,SqL.of w1,wa,a2,_,_,_,rfl,rfl,SqT.of wb,rfl,_,rfl,_,rfl,l2,_,_,_,rfl,rfl,SqL.of w1,wa,a2,_,_,_,rfl,rfl,SqT.of wb,rfl,(by show 6<=sizeLine; decide),fun rn hrn=>?_⟩
   have s4:=same_new hrn (.tup [.int p,.int qq,.bl q1s,.int q1v,.bl q2s,.int q2v])
   refine ⟨pr,vs,.ref rn,rfl,rfl,s4 _ _ v1,line_of (by omega),?_⟩
   have hO5:=(hO.same s4).append (x:=(p,qq,q1s,q1v,q2s,q2v)) (s4 _ _ v1) upd_same
   have s5:=same_wr (o:=.lst (vs ++ [.ref rn])) hpr (s3.trans s4)
   have cv5:Ma.Cov2 f1 f2 0 (O ++ [(p,qq,q1s,q1v,q2s,q2v)]) (qq+1):=Ma.Cov2.snoc (r:=(p,qq,q1s,q1v,q2s,q2v)) qp (fun x a b=>by
    have a':p<=x:=a
    have b':x<=qq:=b
    exact ⟨g4 x (by show q1p<=x; have:q1p<=p:=x1; omega) (by show x<=q1q; omega),h4 x (by show q2p<=x; have:q2p<=p:=y1; omega) (by show x<=q2q; omega)⟩) cv
   generalize upd (upd H3 rn _) pr _=H5 at *
   have hS15:=hS1.same s5
   have hS25:=hS2.same s5
   obtain ⟨us1,u1,u2,u3⟩:=hS15.at (K:=K)
   obtain ⟨us2,w1,w2,w3⟩:=hS25.at (K:=K)
   obtain ⟨a1,ua,ub⟩:=u3 k _ e1
   obtain ⟨a2,wa,wb⟩:=w3 j _ e2
   refine ⟨fun σ' H'=>H'=H5/\∃ k':Nat,σ'=[some (.int day),some (.ref p1),some (.ref p2),some (.ref l1),some (.ref l2),some (.ref pr),some (.int k'),some (.int j),some (.int p),some (.int qq)]/\((qq=q1q/\k'=k+1)\/(qq < q1q/\k'=k)),?_,?_⟩
   ·refine ⟨_,rfl,_,rfl,l1,_,_,_,rfl,rfl,SqL.of u1,ua,a1,_,_,_,rfl,rfl,SqT.of ub,rfl,_,rfl,rfl,_,rfl,?_⟩
    refine ite2 (fun z=>?_) (fun z=>?_)
    ·have z':=of_decide_eq_true z
     injection z' with z'
     exact ⟨_,rfl,_,_,rfl,rfl,rfl,k+1,rfl,.inl ⟨z'.symm,rfl⟩⟩
    ·have z':¬ q1q=qq:=fun e=>z (decide_eq_true (by rw [e]))
     exact ⟨rfl,k,rfl,.inr ⟨by omega,rfl⟩⟩
   intro σ' H6 z9;obtain ⟨rfl,k',rfl,hk'⟩ := z9
   refine ⟨fun σ' H'=>H'=H6/\∃ j':Nat,σ'=[some (.int day),some (.ref p1),some (.ref p2),some (.ref l1),some (.ref l2),some (.ref pr),some (.int k'),some (.int j'),some (.int p),some (.int qq)]/\((qq=q2q/\j'=j+1)\/(qq < q2q/\j'=j)),?_,?_⟩
   ·refine ⟨_,rfl,_,rfl,l2,_,_,_,rfl,rfl,SqL.of w1,wa,a2,_,_,_,rfl,rfl,SqT.of wb,rfl,_,rfl,rfl,_,rfl,?_⟩
    refine ite2 (fun z=>?_) (fun z=>?_)
    ·have z':=of_decide_eq_true z
     injection z' with z'
     exact ⟨_,rfl,_,_,rfl,rfl,rfl,j+1,rfl,.inl ⟨z'.symm,rfl⟩⟩
    ·have z':¬ q2q=qq:=fun e=>z (decide_eq_true (by rw [e]))
     exact ⟨rfl,j,rfl,.inr ⟨by omega,rfl⟩⟩
   intro σ' H7 z9;obtain ⟨rfl,j',rfl,hj'⟩ := z9
   have kS:k < S1.length:=(List.getElem?_eq_some_iff.mp e1).1
   have jS:j < S2.length:=(List.getElem?_eq_some_iff.mp e2).1
   refine ⟨_,rfl,_,_,rfl,rfl,⟨_,k',j',qq+1,_,rfl,s5,hO5,cv5,by omega,?_,?_,by omega,by omega,fun lt=>?_⟩,?_⟩
   ·have:q1q < day:=g3
    omega
   ·rw [List.length_append,List.length_singleton]
    omega
   ·have A:∃ r1,S1[k']?=some r1/\r1.1<=qq+1/\qq+1<=r1.2.1:=by
     rcases hk' with ⟨z,rfl⟩ | ⟨z,rfl⟩
     ·have hk1:k+1 < S1.length:=by
       rcases (by omega:k+1 < S1.length\/k+1=S1.length) with y | y
       ·exact y
       ·have:=g7 y
        have:q1q+1=day:=this
        omega
      have e:=List.getElem?_eq_getElem hk1
      have:=g6 _ e
      have:=(C1.get e).2.1
      have:(S1[k+1]).1=q1q+1:=g6 _ e
      exact ⟨_,e,by omega,by omega⟩
     ·exact ⟨_,e1,by show q1p<=qq+1; have:q1p<=p:=x1; omega,by show qq+1<=q1q; omega⟩
    have A2:∃ r2,S2[j']?=some r2/\r2.1<=qq+1/\qq+1<=r2.2.1:=by
     rcases hj' with ⟨z,rfl⟩ | ⟨z,rfl⟩
     ·have hk1:j+1 < S2.length:=by
       rcases (by omega:j+1 < S2.length\/j+1=S2.length) with y | y
       ·exact y
       ·have:=h7 y
        have:q2q+1=day:=this
        omega
      have e:=List.getElem?_eq_getElem hk1
      have:=(C2.get e).2.1
      have:(S2[j+1]).1=q2q+1:=h6 _ e
      exact ⟨_,e,by omega,by omega⟩
     ·exact ⟨_,e2,by show q2p<=qq+1; have:q2p<=p:=y1; omega,by show qq+1<=q2q; omega⟩
    obtain ⟨r1',b1,b2,b3⟩:=A
    obtain ⟨r2',d1,d2,d3⟩:=A2
    exact ⟨r1',r2',b1,b2,b3,d1,d2,d3⟩
   ·show (day - (qq+1)).toNat < (day - p).toNat
    omega
  ·have c':¬ p < day:=fun z=>c (decide_eq_true z)
   have e:p=day:=by omega
   subst e
   refine ⟨_,rfl,q pr O H3 (s02.trans s3) (s02.free hpr) hO (by omega) cv⟩
 ·intro σ H' Q1 Q2 hq z9;obtain ⟨v,e1,v',e2,i,j,e3,e4,k,e5,q1⟩ := z9
  exact ⟨v,e1,v',e2,i,j,e3,e4,k,e5,hq _ _ q1⟩
end
section
variable {P:Program} {w:World} {K:PySem.W.Frag} {mg:Str->Option Value} {base:Heap} {f:Addr} {fd:FuncData} {n:Nat}
theorem ok_picked (F:Fun K "picked" "picked" st_picked f fd) (B:Bl mg):FnOk P w K mg base CX0 (n+1) f fd ["p","q","waiting","riding","late"] spPicked:=by
 refine F.okQ sc_picked (fun vs H Q E h=>?_) (fun cdv A outer s H vs Q E hr h=>?_)
 ·obtain ⟨_,_,_,_,_,rfl,_⟩:=h
  rfl
 obtain ⟨p,qq,wt,rd,late,rfl,q⟩:=h
 refine ⟨_,(qss_cons (qs_set (i:=5) sc_picked.nd rfl (Or.inl rfl) (qe_op qop_sub (qv 2) (qv 3))) (qss_cons (qs_set (i:=6) sc_picked.nd rfl (Or.inl rfl) (qe_tup (qa_c (qv 0) (qa_c (qe_cb (qcall_min rfl) rfl B.min bt_min (qa_c (qv 1) (qa_c (qv 5) qa_nil))) (qa_c (qv 4) (qa_c (qe_cut (qe_ifExp (qt_val (qv 4)) (qv 2) (qv 3))) qa_nil)))))) (qss_cons (qs_set (i:=7) sc_picked.nd rfl (Or.inl rfl) (qe_tup (qa_c (qe_cb (qcall_max rfl) rfl B.max bt_max (qa_c (qv 0) (qa_c (qe_op qop_add (qv 5) qe_int) qa_nil))) (qa_c (qv 1) (qa_c (qe_not (qv 4)) (qa_c (qe_cut (qe_ifExp (qt_val (qv 4)) (qv 3) (qv 2))) qa_nil)))))) (qss_one (qs_ret (qe_compIf ["part"] [none] (BlkOk.of rfl rfl (SubL.to subN) rfl) rfl (qi_tup (qe_tup (qa_c (qv 6) (qa_c (qv 7) qa_nil)))) (fun _ _ _ _=>(qg_name (i:=0) (show (["part"]:List Str).Nodup by decide) rfl (Or.inl rfl))) (fun _ _ _ _=>(qt_cmpR qop_le (qe_ix (qix_tupK K rfl) (qv 0) qe_int (fun _ _=>rfl)) (qe_ix (qix_tupK K rfl) (qv 0) qe_int (fun _ _=>rfl)) (nomark _))) (fun _ _ _ _=>(qv 0)))))))),?_⟩
 try dsimp only [cx_k,cx_kn,as_nil,as_name,Nat.reduceAdd]
 refine ⟨_,rfl,_,rfl,_,_,rfl,rfl,?_⟩
 refine ⟨_,rfl,_,rfl,_,rfl,_,_,rfl,_,rfl,?_⟩
 refine ⟨fun v H'=>H'=H/\v=.int (if late=true then wt else rd),?_,?_⟩
 ·refine ⟨_,rfl,_,rfl,?_⟩
  cases late
  ·exact iteF ⟨_,rfl,rfl,rfl⟩
  ·exact iteT ⟨_,rfl,rfl,rfl⟩
 intro v H1 z9;obtain ⟨rfl,rfl⟩ := z9
 refine ⟨(by show 4<=sizeLine; decide),fun ra hra=>?_⟩
 generalize hgH2:upd _ ra _=H2
 obtain ⟨s2,e2⟩:=fresh_of hra hgH2
 clear hgH2
 refine ⟨_,rfl,_,rfl,_,_,rfl,rfl,_,_,rfl,_,rfl,_,rfl,_,rfl,?_⟩
 refine ⟨fun v H'=>H'=H2/\v=.int (if late=true then rd else wt),?_,?_⟩
 ·refine ⟨_,rfl,_,rfl,?_⟩
  cases late
  ·exact iteF ⟨_,rfl,rfl,rfl⟩
  ·exact iteT ⟨_,rfl,rfl,rfl⟩
 intro v H2 z9;obtain ⟨rfl,rfl⟩ := z9
 refine ⟨(by show 4<=sizeLine; decide),fun rt hrt=>?_⟩
 generalize hgH3:upd _ rt _=H3
 obtain ⟨s3,e3⟩:=fresh_of hrt hgH3
 clear hgH3
 have e23:=s3 _ _ e2
 refine ⟨_,rfl,_,rfl,(by show 2<=sizeLine; decide),fun rp hrp=>?_⟩
 generalize hgH4:upd _ rp _=H4
 obtain ⟨s4,e4⟩:=fresh_of hrp hgH4
 clear hgH4
 have e24:=s4 _ _ e23
 have e34:=s4 _ _ e3
 have s14:=(s2.trans s3).trans s4
 unfold Ma.pickL at q
 generalize hx1:(if wt - rd < qq then wt - rd else qq)=x1 at *
 generalize hx2:(if wt - rd+1 > p then wt - rd+1 else p)=x2 at *
 generalize (if late=true then wt else rd)=v1 at *
 generalize (if late=true then rd else wt)=v2 at *
 refine ⟨rp,rfl,⟨_,SqT.of e4⟩,?_⟩
 refine comp_tup (K:=K) (a:=rp) (xs:=[.ref ra,.ref rt]) (fun D i H'=>Same H4 H'/\LA enc4 H' D (if i=0 then [] else if i=1 then (if p<=x1 then [(p,x1,late,v1)] else []) else (if p<=x1 then [(p,x1,late,v1)] else []) ++ (if x2<=qq then [(x2,qq,!late,v2)] else [])))
  (fun D hD=>⟨same_new hD _,LA.nil upd_same⟩) (fun D i H' _ _ h=>SqT.of (h.1 _ _ e4)) ?_ ?_
 ·intro D i y H' hD hi z9;obtain ⟨sD,hD2⟩ := z9
  obtain ⟨ds,hd1,hd2,hd3⟩:=hD2.lst
  refine ⟨fun k v e=>?_,?_⟩
  ·match k,e with
   | 0,e=>cases e
   | k+1,e=>cases e
  match i,hi with
  | 0,hi =>
   have ey:y=.ref ra:=by simpa using hi.symm
   subst ey
   have er:=sD _ _ e24
   refine ⟨_,rfl,ra,_,_,_,rfl,rfl,SqT.of er,rfl,_,rfl,ra,_,_,_,rfl,rfl,SqT.of er,rfl,_,_,rfl,rfl,_,rfl,?_⟩
   refine ite2 (fun c=>?_) (fun c=>?_)
   ·refine ⟨_,rfl,ds,hd1,line_of (by rw [hd2]; simp),same_wr hD sD,?_⟩
    have c':p<=x1:=of_decide_eq_true c
    have:=hD2.append (x:=(p,x1,late,v1)) hd1 er
    simpa [c'] using this
   ·have c':¬ p<=x1:=fun z=>c (decide_eq_true z)
    exact ⟨sD,by simpa [c'] using hD2⟩
  | 1,hi =>
   have ey:y=.ref rt:=by simpa using hi.symm
   subst ey
   have er:=sD _ _ e34
   refine ⟨_,rfl,rt,_,_,_,rfl,rfl,SqT.of er,rfl,_,rfl,rt,_,_,_,rfl,rfl,SqT.of er,rfl,_,_,rfl,rfl,_,rfl,?_⟩
   refine ite2 (fun c=>?_) (fun c=>?_)
   ·refine ⟨_,rfl,ds,hd1,line_of (by rw [hd2]; simp; split <;> simp),same_wr hD sD,?_⟩
    have c':x2<=qq:=of_decide_eq_true c
    have:=hD2.append (x:=(x2,qq,!late,v2)) hd1 er
    simpa [c'] using this
   ·have c':¬ x2<=qq:=fun z=>c (decide_eq_true z)
    exact ⟨sD,by simpa [c'] using hD2⟩
  | k+2,hi=>simp at hi
 ·intro D H' hD z9;obtain ⟨sD,hD2⟩ := z9
  exact q D H' (s14.trans sD) (s14.free hD) (by simpa using hD2)
theorem ok_joined (F:Fun K "joined" "joined" st_joined f fd) (B:Bl mg) (C_overlay:Callee P w K mg base n "overlay" ["day","one","other"] spOverlay) (C_picked:Callee P w K mg base n "picked" ["p","q","waiting","riding","late"] spPicked) (C_clock_from:Callee P w K mg base n "clock_from" ["day","rows"] spClockFrom) :
  FnOk P w K mg base CX0 (n+1) f fd ["day","one","other","late"] spJoined:=by
 refine F.okQ sc_joined (fun vs H Q E h=>?_) (fun cdv A outer s H vs Q E hr h=>?_)
 ·obtain ⟨_,_,_,_,_,_,_,_,rfl,_⟩:=h
  rfl
 obtain ⟨day,p1,p2,late,R1,R2,f1,f2,rfl,hR1,hR2,hl1,hl2,ck1,ck2,T1,T2,q⟩:=h
 refine ⟨_,(qss_cons (qs_set (i:=4) sc_joined.nd rfl (Or.inl rfl) (qe_lst qa_nil)) (qss_cons (qs_for PassesOwn.never rfl (qi_list (qe_fn C_overlay hr rfl (qa_c (qv 0) (qa_c (qv 1) (qa_c (qv 2) qa_nil))))) (qg_tup rfl (qgs_cons (qg_name (i:=5) sc_joined.nd rfl (Or.inl rfl)) (qgs_cons (qg_name (i:=6) sc_joined.nd rfl (Or.inl rfl)) (qgs_cons (qg_name (i:=7) sc_joined.nd rfl (Or.inl rfl)) (qgs_cons (qg_name (i:=8) sc_joined.nd rfl (Or.inl rfl)) (qgs_cons (qg_name (i:=9) sc_joined.nd rfl (Or.inl rfl)) (qgs_cons (qg_name (i:=10) sc_joined.nd rfl (Or.inl rfl)) qgs_nil))))))) (qss_one (qs_if (qt_cmpR qop_eq (qv 7) (qv 9) (nomark _)) (qss_one (qs_expr (qe_append (qv 4) (qa_c (qe_tup (qa_c (qv 5) (qa_c (qv 6) (qa_c (qv 7) (qa_c (qe_cut (qe_ifExp (qt_val (qv 3)) (qe_cb (qcall_max rfl) rfl B.max bt_max (qa_c (qv 8) (qa_c (qv 10) qa_nil))) (qe_cb (qcall_min rfl) rfl B.min bt_min (qa_c (qv 8) (qa_c (qv 10) qa_nil))))) qa_nil))))) qa_nil)))) (qss_one (qs_if (qt_val (qv 7)) (qss_one (qs_expr (qe_extend (qv 4) (qa_c (qe_fn C_picked hr rfl (qa_c (qv 5) (qa_c (qv 6) (qa_c (qv 8) (qa_c (qv 10) (qa_c (qv 3) qa_nil)))))) qa_nil)))) (qss_one (qs_expr (qe_extend (qv 4) (qa_c (qe_fn C_picked hr rfl (qa_c (qv 5) (qa_c (qv 6) (qa_c (qv 10) (qa_c (qv 8) (qa_c (qv 3) qa_nil)))))) qa_nil))))))))) (qss_one (qs_ret (qe_fn C_clock_from hr rfl (qa_c (qv 0) (qa_c (qv 4) qa_nil))))))),?_⟩
 try dsimp only [cx_k,cx_kn,as_nil,as_name,Nat.reduceAdd]
 refine ⟨(by show 0<=sizeLine; decide),fun pr hpr=>?_⟩
 have s0:Same H (upd H pr (.lst [])):=same_new hpr _
 refine ⟨_,rfl,_,rfl,_,rfl,day,p1,p2,R1,R2,f1,f2,rfl,hR1.same s0,hR2.same s0,hl1,hl2,ck1,ck2,T1,T2,fun lo O H1 s1 fr1 hO hOl cv=>?_⟩
 have er1:H1 pr=some (.lst []):=s1 _ _ upd_same
 have nlo:lo ≠ pr:=fun e=>by rw [e,upd_same] at fr1; cases fr1
 have s01:=s0.trans s1
 clear fr1 s1
 obtain ⟨ws,hw1,hw2,hw3⟩:=hO.lst
 have nws:∀ (i:Nat) r,ws[i]?=some (.ref r)->r ≠ pr:=fun i r e z=>by
  obtain ⟨r',x,e1,_,e2⟩:=hw3 i _ e
  cases e1
  rw [z,er1] at e2
  cases e2
 have rg:=Ma.rise_jn late (ck1.rise T1) (ck2.rise T2)
 refine ⟨lo,rfl,⟨_,SqL.of hw1⟩,for_list (K:=K) (a:=lo) (xs:=ws)
  (fun i σ H'=>∃ (S:List T4) (at_:Int) (v1 v2 v3 v4 v5 v6:Option V),σ=[some (.int day),some (.ref p1),some (.ref p2),some (.bl late),some (.ref pr),v1,v2,v3,v4,v5,v6]/\Same H H'/\SameT pr H1 H'/\LA enc4 H' pr S/\S.length<=2 * i/\Ma.Cov (fun x=>Ma.jn late (f1 x) (f2 x)) 0 S at_/\(∀ r,O[i]?=some r->r.1=at_)/\(i=O.length->at_=day))
  ⟨[],0,_,_,_,_,_,_,rfl,s01,fun b o e _=>e,LA.nil er1,by simp,rfl,fun r e=>(cv.get e).2.2.2.2.1 rfl,fun e=>?_⟩
  (fun i σ H' _ ⟨_,_,_,_,_,_,_,_,_,_,s1,_⟩=>SqL.of (s1 _ _ hw1 nlo)) ?_ ?_⟩
 ·rw [List.length_eq_zero_iff.mp e.symm] at cv
  exact cv
 ·intro i y σ H2 hi z9;obtain ⟨S,at_,v1,v2,v3,v4,v5,v6,rfl,sH,s2,hS,hSl,hC,hat,_⟩ := z9
  obtain ⟨r,x,rfl,ex,er⟩:=hw3 i y hi
  have e1:=hat x ex
  obtain ⟨g1,g2,g3,g4,g5,g6,g7⟩:=cv.get ex
  have er2:=s2 _ _ er (nws i r hi)
  have hi2:i < O.length:=(List.getElem?_eq_some_iff.mp ex).1
  have jr:=Ma.joinRow_cov (late:=late) g2 g4
  rw [e1] at jr
  have hC2:=hC.append jr
  have jl:=Ma.joinRow_len late x
  obtain ⟨us,hu1,hu2,hu3⟩:=hS.lst
  have fin:∀ (H4:Hp) (u1 u2 u3 u4 u5 u6:Option V),SameT pr H2 H4->LA enc4 H4 pr (S ++ Ma.joinRow late x)->∃ (S:List T4) (at_:Int) (v1 v2 v3 v4 v5 v6:Option V),[some (.int day),some (.ref p1),some (.ref p2),some (.bl late),some (.ref pr),u1,u2,u3,u4,u5,u6]=[some (.int day),some (.ref p1),some (.ref p2),some (.bl late),some (.ref pr),v1,v2,v3,v4,v5,v6]/\Same H H4/\SameT pr H1 H4/\LA enc4 H4 pr S/\S.length<=2 * (i+1)/\Ma.Cov (fun x=>Ma.jn late (f1 x) (f2 x)) 0 S at_/\(∀ r,O[i+1]?=some r->r.1=at_)/\(i+1=O.length->at_=day):=by
   intro H4 u1 u2 u3 u4 u5 u6 s4 h4
   refine ⟨_,_,u1,u2,u3,u4,u5,u6,rfl,fun b o e=>s4 _ _ (sH _ _ e) (ne_of_none e hpr),fun b o e nb=>s4 _ _ (s2 _ _ e nb) nb,h4,?_,hC2,fun r' e'=>g6 r' e',fun e=>g7 e⟩
   rw [List.length_append]
   omega
  obtain ⟨xp,xq,xs,xv,xs',xv'⟩:=x
  unfold Ma.joinRow at fin
  dsimp only at fin
  refine ⟨r,_,rfl,SqT.of er2,rfl,_,_,rfl,_,_,rfl,_,_,rfl,_,_,rfl,_,_,rfl,_,_,rfl,rfl,?_⟩
  refine ⟨_,rfl,_,rfl,rfl,_,rfl,?_⟩
  refine ite2 (fun c=>?_) (fun c=>?_)
  ·have c':xs=xs':=by
    have:=of_decide_eq_true c
    injection this
   rw [if_pos c'] at fin
   refine ⟨_,rfl,.inl ⟨rfl,_,SqL.of hu1⟩,_,rfl,_,rfl,_,rfl,?_⟩
   refine ⟨fun v H'=>H'=H2/\v=.int (Ma.jn late xv xv'),?_,?_⟩
   ·refine ⟨_,rfl,_,rfl,?_⟩
    unfold Ma.jn
    cases late
    ·exact iteF ⟨_,rfl,_,rfl,_,_,rfl,rfl,rfl⟩
    ·exact iteT ⟨_,rfl,_,rfl,_,_,rfl,rfl,rfl⟩
   intro v H3 z9;obtain ⟨rfl,rfl⟩ := z9
   refine ⟨(by show 4<=sizeLine; decide),fun rn hrn=>?_⟩
   have s4:=same_new hrn (.tup [.int xp,.int xq,.bl xs,.int (Ma.jn late xv xv')])
   refine ⟨pr,us,.ref rn,rfl,rfl,s4 _ _ hu1,line_of (by omega),?_⟩
   refine fin _ _ _ _ _ _ _ (fun b o e nb=>?_) ((hS.same s4).append (x:=(xp,xq,xs,Ma.jn late xv xv')) (s4 _ _ hu1) upd_same)
   rw [upd_ne nb]
   exact s4 _ _ e
  ·have c':¬ xs=xs':=fun e=>c (decide_eq_true (by rw [e]))
   rw [if_neg c'] at fin
   refine ⟨_,rfl,_,rfl,?_⟩
   have ext:∀ (L:List T4),L.length<=2->(∀ (H4:Hp) (u1 u2 u3 u4 u5 u6:Option V),SameT pr H2 H4->LA enc4 H4 pr (S ++ L)->∃ (S:List T4) (at_:Int) (v1 v2 v3 v4 v5 v6:Option V),[some (.int day),some (.ref p1),some (.ref p2),some (.bl late),some (.ref pr),u1,u2,u3,u4,u5,u6]=[some (.int day),some (.ref p1),some (.ref p2),some (.bl late),some (.ref pr),v1,v2,v3,v4,v5,v6]/\Same H H4/\SameT pr H1 H4/\LA enc4 H4 pr S/\S.length<=2 * (i+1)/\Ma.Cov (fun x=>Ma.jn late (f1 x) (f2 x)) 0 S at_/\(∀ r,O[i+1]?=some r->r.1=at_)/\(i+1=O.length->at_=day)) ->
     ∀ (l:Addr) (H3:Hp),Same H2 H3->LA enc4 H3 l L->∀ (u1 u2 u3 u4 u5 u6:Option V),∃ (l2 b:Addr) (ys zs:List V),V.ref pr=.ref l2/\[V.ref l]=[.ref b]/\H3 l2=some (.lst ys)/\H3 b=some (.lst zs)/\ys.length+zs.length<=sizeLine/\∃ (S:List T4) (at_:Int) (v1 v2 v3 v4 v5 v6:Option V),[some (.int day),some (.ref p1),some (.ref p2),some (.bl late),some (.ref pr),u1,u2,u3,u4,u5,u6]=[some (.int day),some (.ref p1),some (.ref p2),some (.bl late),some (.ref pr),v1,v2,v3,v4,v5,v6]/\Same H (upd H3 l2 (.lst (ys ++ zs)))/\SameT pr H1 (upd H3 l2 (.lst (ys ++ zs)))/\LA enc4 (upd H3 l2 (.lst (ys ++ zs))) pr S/\S.length<=2 * (i+1)/\Ma.Cov (fun x=>Ma.jn late (f1 x) (f2 x)) 0 S at_/\(∀ r,O[i+1]?=some r->r.1=at_)/\(i+1=O.length->at_=day):=by
    intro L hL fin' l H3 s3 hl u1 u2 u3 u4 u5 u6
    obtain ⟨zs,z1,z2,z3⟩:=hl.lst
    refine ⟨pr,l,us,zs,rfl,rfl,s3 _ _ hu1,z1,?_,fin' _ _ _ _ _ _ _ (fun b o e nb=>?_) ((hS.same s3).extend hl (s3 _ _ hu1) z1)⟩
    ·have:=line_of (n:=us.length+zs.length) (by omega)
     omega
    ·rw [upd_ne nb]
     exact s3 _ _ e
   cases xs with
   | true =>
    rw [if_pos rfl] at fin
    refine iteT ⟨_,rfl,.inl ⟨rfl,_,SqL.of hu1⟩,_,rfl,_,rfl,_,rfl,_,rfl,_,rfl,xp,xq,xv,xv',late,rfl,fun l H3 s3 _ hl=>?_⟩
    exact ext _ (Ma.pick_len ..) fin l H3 s3 hl _ _ _ _ _ _
   | false =>
    rw [if_neg (by decide)] at fin
    refine iteF ⟨_,rfl,.inl ⟨rfl,_,SqL.of hu1⟩,_,rfl,_,rfl,_,rfl,_,rfl,_,rfl,xp,xq,xv',xv,late,rfl,fun l H3 s3 _ hl=>?_⟩
    exact ext _ (Ma.pick_len ..) fin l H3 s3 hl _ _ _ _ _ _
 ·intro σ H2 z9;obtain ⟨S,at_,v1,v2,v3,v4,v5,v6,rfl,sH,s2,hS,hSl,hC,hat,hend⟩ := z9
  have e:=hend hw2
  subst e
  refine ⟨_,rfl,_,rfl,at_,pr,S,_,rfl,hS,by omega,ck1.d0,rg,hC,fun l R H3 s3 fl hR hRl can=>?_⟩
  exact q l R H3 (sH.trans s3) (sH.free fl) hR (by omega) can
end
section
variable {P:Program} {w:World} {K:PySem.W.Frag} {mg:Str->Option Value} {base:Heap} {f:Addr} {fd:FuncData} {n:Nat}
theorem ok_sooner (F:Fun K "sooner" "sooner" st_sooner f fd) (B:Bl mg) (C_joined:Callee P w K mg base n "joined" ["day","one","other","late"] spJoined):FnOk P w K mg base CX0 (n+1) f fd ["day","one","other"] (spTwo Ma.omin):=by
 refine F.okQ sc_sooner (fun vs H Q E h=>?_) (fun cdv A outer s H vs Q E hr h=>?_)
 ·obtain ⟨_,_,_,_,_,rfl,_⟩:=h
  rfl
 obtain ⟨day,p1,p2,R1,R2,rfl,hR1,hR2,hl1,hl2,ck1,ck2,q⟩:=h
 refine ⟨_,(qss_cons (qs_if (qt_cut (QW.pt (qw_or (qt_cmpR qop_eq (qe_cb qcall_len rfl B.len bt_len (qa_c (qv 1) qa_nil)) qe_int (nomark _)) (qw_or1 (qt_cmpR qop_eq (qe_cb qcall_len rfl B.len bt_len (qa_c (qv 2) qa_nil)) qe_int (nomark _)))))) (qss_one (qs_ret (qe_op qop_cat (qv 1) (qv 2)))) qss_nil) (qss_one (qs_ret (qe_fn C_joined hr rfl (qa_c (qv 0) (qa_c (qv 1) (qa_c (qv 2) (qa_c qe_bl qa_nil)))))))),?_⟩
 try dsimp only [cx_k,cx_kn,as_nil,as_name,Nat.reduceAdd]
 obtain ⟨us,hu1,hu2,hu3⟩:=hR1.lst
 obtain ⟨ws,hw1,hw2,hw3⟩:=hR2.lst
 refine ⟨fun b H'=>H'=H/\b=decide (R1=[]\/R2=[]),?_,?_⟩
 ·refine ⟨_,rfl,p1,_,rfl,.inl (SqL.of hu1),rfl,_,rfl,?_⟩
  refine ite2 (fun c=>?_) (fun c=>?_)
  ·have c':=of_decide_eq_true c
   injection c' with c'
   have e:R1=[]:=List.length_eq_zero_iff.mp (by omega)
   exact ⟨rfl,by simp [e]⟩
  ·have n1:R1 ≠ []:=fun e=>c (decide_eq_true (by rw [hu2,e]; rfl))
   refine ⟨_,rfl,p2,_,rfl,.inl (SqL.of hw1),rfl,_,rfl,rfl,?_⟩
   rw [hw2]
   cases R2 with
   | nil=>simp
   | cons x r=>simp [n1]; omega
 intro b H1 z9;obtain ⟨rfl,rfl⟩ := z9
 refine ite2 (fun c=>?_) (fun c=>?_)
 ·have c':=of_decide_eq_true c
  refine ⟨_,rfl,_,rfl,p1,p2,us,ws,rfl,rfl,hu1,hw1,?_,fun l hl=>?_⟩
  ·have:=line_of (n:=us.length+ws.length) (by omega)
   omega
  refine q l (R1 ++ R2) _ (same_new hl _) hl (hR1.cat hR2 hu1 hw1 hl) (by rw [List.length_append]; omega) ?_ (fun t=>Ma.bt_append day R1 R2 t)
  rcases c' with e | e
  ·rw [e]; exact ck2
  ·rw [e,List.append_nil]; exact ck1
 ·have c':¬ (R1=[]\/R2=[]):=fun z=>c (decide_eq_true z)
  have n1:R1 ≠ []:=fun e=>c' (.inl e)
  have n2:R2 ≠ []:=fun e=>c' (.inr e)
  have T1:=Ma.tells_bf (d:=day) n1
  have T2:=Ma.tells_bf (d:=day) n2
  refine ⟨_,rfl,_,rfl,_,rfl,day,p1,p2,false,R1,R2,_,_,rfl,hR1,hR2,hl1,hl2,ck1,ck2,T1,T2,fun l R H2 s2 fl hR hRl can=>?_⟩
  have rg:=Ma.rise_jn false (ck1.rise T1) (ck2.rise T2)
  exact q l R H2 s2 fl hR hRl (can.ck ck1.d0 rg) fun t=>by rw [can.tells ck1.d0 rg t,T1.min T2 t]
end
noncomputable def spWithin (m:Nat):Sp:=fun vs H Q _=>∃ (day:Int) (p:Addr) (R:List T3),vs=[.int day,.ref p]/\LA enc3 H p R/\R.length<=2 ^ m/\R.length<=900000/\0 < day/\Ma.Wins day R /\
 ∀ (l:Addr) (R':List T3) (H':Hp),Same H H'->H l=none->LA enc3 H' l R'->R'.length<=2 * R.length+1->Ma.CK day R'->(∀ t,Ma.bt day R' t=Ma.bt day R t)->Q (.ref l) H'
section
variable {P:Program} {w:World} {K:PySem.W.Frag} {mg:Str->Option Value} {base:Heap} {f:Addr} {fd:FuncData} {n:Nat}
theorem ok_within (F:Fun K "clock_within" "clock_within" st_clock_within f fd) (B:Bl mg) (bd:Binds K fd ["day","board"] []) (kp:PySem.W.keepIn K (.ref f)=true) (mgf:mg "clock_within" = some (.ref f)) (C_s:Callee P w K mg base n "sooner" ["day","one","other"] (spTwo Ma.omin)) :
  ∀ m,FnOk P w K mg base CX0 (n+m+1) f fd ["day","board"] (spWithin m)
 | 0=>by
  refine F.okQ sc_clock_within (fun vs H Q E h=>?_) (fun cdv A outer s H vs Q E hr h=>?_)
  ·obtain ⟨_,_,_,rfl,_⟩:=h
   rfl
  obtain ⟨day,p,R,rfl,hR,hl,hl9,hd,hW,q⟩:=h
  have C_sooner:Callee P w K mg base (n+0) "sooner" ["day","one","other"] (fun _ _ _ _=>False):=by
   obtain ⟨f,fd,G,b,kp,m⟩:=C_s.ex
   exact ⟨f,fd,⟨fun _ _ _ _ h=>h.elim,fun _ _ _ _ _ _ _ _ _ _ _ _ _ h=>h.elim⟩,b,kp,m⟩
  have C_clock_within:Callee P w K mg base (n+0) "clock_within" ["day","board"] (fun _ _ _ _=>False):=⟨f,fd,⟨fun _ _ _ _ h=>h.elim,fun _ _ _ _ _ _ _ _ _ _ _ _ _ h=>h.elim⟩,bd,kp,mgf⟩
  refine ⟨_,(qss_cons (qs_if (qt_cmpR qop_lt (qe_cb qcall_len rfl B.len bt_len (qa_c (qv 1) qa_nil)) qe_int (nomark _)) (qss_one (qs_ret (qe_ct qcall_list rfl B.list_ bt_list (qa_c (qv 1) qa_nil)))) qss_nil) (qss_cons (qs_set (i:=2) sc_clock_within.nd rfl (Or.inl rfl) (qe_op qop_fdivB (qe_cb qcall_len rfl B.len bt_len (qa_c (qv 1) qa_nil)) qe_int)) (qss_one (qs_ret (qe_fn C_sooner hr rfl (qa_c (qv 0) (qa_c (qe_fn C_clock_within hr rfl (qa_c (qv 0) (qa_c (qe_slL (qv 1) qo_none (qo_some (qv 2))) qa_nil))) (qa_c (qe_fn C_clock_within hr rfl (qa_c (qv 0) (qa_c (qe_slL (qv 1) (qo_some (qv 2)) qo_none) qa_nil))) qa_nil)))))))),?_⟩
  try dsimp only [cx_k,cx_kn,as_nil,as_name,Nat.reduceAdd]
  obtain ⟨us,hu1,hu2,hu3⟩:=hR.lst
  have hl':R.length<=1:=hl
  refine ⟨_,rfl,p,_,rfl,.inl (SqL.of hu1),_,_,rfl,rfl,_,rfl,iteP (decide_eq_true (by show ((us.length:Nat):Int) < 2; omega)) ?_⟩
  refine ⟨_,rfl,p,_,rfl,.inl (SqL.of hu1),fun pl hpl=>?_⟩
  generalize hgH1:upd _ pl _=H1
  obtain ⟨s1,e1⟩:=fresh_of hpl hgH1
  clear hgH1
  have hR1:=hR.copy s1 hu1 e1
  refine q pl R H1 s1 hpl hR1 (by omega) ?_ fun t=>rfl
  match R,hl' with
  | [],_=>exact Ma.ck_nil hd
  | [x],_=>exact Ma.ck_one hd (hW x (List.mem_singleton.mpr rfl))
 | m+1=>by
  have C_clock_within:Callee P w K mg base (n+m+1) "clock_within" ["day","board"] (spWithin m):=Callee.mk' (ok_within F B bd kp mgf C_s m) bd kp mgf
  have C_sooner:=C_s.up (show n<=n+m+1 by omega)
  refine F.okQ sc_clock_within (fun vs H Q E h=>?_) (fun cdv A outer s H vs Q E hr h=>?_)
  ·obtain ⟨_,_,_,rfl,_⟩:=h
   rfl
  obtain ⟨day,p,R,rfl,hR,hl,hl9,hd,hW,q⟩:=h
  refine ⟨_,(qss_cons (qs_if (qt_cmpR qop_lt (qe_cb qcall_len rfl B.len bt_len (qa_c (qv 1) qa_nil)) qe_int (nomark _)) (qss_one (qs_ret (qe_ct qcall_list rfl B.list_ bt_list (qa_c (qv 1) qa_nil)))) qss_nil) (qss_cons (qs_set (i:=2) sc_clock_within.nd rfl (Or.inl rfl) (qe_op qop_fdivB (qe_cb qcall_len rfl B.len bt_len (qa_c (qv 1) qa_nil)) qe_int)) (qss_one (qs_ret (qe_fn C_sooner hr rfl (qa_c (qv 0) (qa_c (qe_fn C_clock_within hr rfl (qa_c (qv 0) (qa_c (qe_slL (qv 1) qo_none (qo_some (qv 2))) qa_nil))) (qa_c (qe_fn C_clock_within hr rfl (qa_c (qv 0) (qa_c (qe_slL (qv 1) (qo_some (qv 2)) qo_none) qa_nil))) qa_nil)))))))),?_⟩
  try dsimp only [cx_k,cx_kn,as_nil,as_name,Nat.reduceAdd]
  obtain ⟨us,hu1,hu2,hu3⟩:=hR.lst
  refine ⟨_,rfl,p,_,rfl,.inl (SqL.of hu1),_,_,rfl,rfl,_,rfl,?_⟩
  refine ite2 (fun c=>?_) (fun c=>?_)
  ·have c':((us.length:Nat):Int) < 2:=of_decide_eq_true c
   refine ⟨_,rfl,p,_,rfl,.inl (SqL.of hu1),fun pl hpl=>?_⟩
   generalize hgH1:upd _ pl _=H1
   obtain ⟨s1,e1⟩:=fresh_of hpl hgH1
   clear hgH1
   have hR1:=hR.copy s1 hu1 e1
   have hl':R.length<=1:=by omega
   refine q pl R H1 s1 hpl hR1 (by omega) ?_ fun t=>rfl
   match R,hl' with
   | [],_=>exact Ma.ck_nil hd
   | [x],_=>exact Ma.ck_one hd (hW x (List.mem_singleton.mpr rfl))
  have c':¬ ((us.length:Nat):Int) < 2:=fun z=>c (decide_eq_true z)
  refine ⟨_,rfl,p,_,rfl,.inl (SqL.of hu1),_,_,rfl,rfl,⟨by decide,by decide⟩,?_⟩
  have eh:((us.length:Nat):Int) / 2=((R.length / 2:Nat):Int):=by rw [hu2]; rfl
  dsimp only
  rw [eh]
  generalize hh:R.length / 2=h
  have h1:0 < h:=by omega
  have h2:h<=us.length:=by omega
  have pw:2 ^ (m+1)=2 * 2 ^ m:=by rw [Nat.pow_succ,Nat.mul_comm]
  refine ⟨_,rfl,_,rfl,_,rfl,_,rfl,_,rfl,p,us,rfl,SqL.of hu1,fun pa hpa=>?_⟩
  rw [cut_take us h h2]
  have ea:us.take h=(us.drop 0).take h:=by simp
  rw [ea]
  generalize hgH1:upd _ pa _=H1
  obtain ⟨s1,e1⟩:=fresh_of hpa hgH1
  clear hgH1
  have hA:=hR.part s1 hu1 0 h e1
  rw [List.drop_zero] at hA
  refine ⟨day,pa,R.take h,rfl,hA,by rw [List.length_take]; omega,by rw [List.length_take]; omega,hd,fun w hw=>hW w (List.mem_of_mem_take hw),fun la Ra H2 s2 fa ha hal cka bta=>?_⟩
  have hu12:=s2 _ _ (s1 _ _ hu1)
  have hR2:=(hR.same s1).same s2
  refine ⟨_,rfl,_,rfl,_,rfl,_,rfl,p,us,rfl,SqL.of hu12,fun pb hpb=>?_⟩
  rw [cut_drop us h h2]
  have eb:us.drop h=(us.drop h).take us.length:=by rw [List.take_of_length_le]; simp
  rw [eb]
  generalize hgH3:upd _ pb _=H3
  obtain ⟨s3,e3⟩:=fresh_of hpb hgH3
  clear hgH3
  have hB:=hR2.part s3 hu12 h us.length e3
  rw [List.take_of_length_le (by rw [List.length_drop]; omega)] at hB
  refine ⟨day,pb,R.drop h,rfl,hB,by rw [List.length_drop]; omega,by rw [List.length_drop]; omega,hd,fun w hw=>hW w (List.mem_of_mem_drop hw),fun lb Rb H4 s4 fb hb hbl ckb btb=>?_⟩
  have s34:=s3.trans s4
  rw [List.length_take] at hal
  rw [List.length_drop] at hbl
  refine ⟨day,la,lb,Ra,Rb,rfl,ha.same s34,hb,by omega,by omega,cka,ckb,fun l R' H5 s5 fl hR' hl' ck' bt'=>?_⟩
  have s05:=((s1.trans s2).trans s34).trans s5
  have eb:∀ t,Ma.bt day R' t=Ma.bt day R t:=fun t=>by rw [bt',bta,btb,<- Ma.bt_append,List.take_append_drop]
  exact q l R' H5 s05 (((s1.trans s2).trans s34).free fl) hR' (Ma.ck_len ck' hW eb) ck' eb
end
noncomputable def spClockOf:Sp:=fun vs H Q _=>∃ (day:Int) (p:Addr) (R:List T3),vs=[.int day,.ref p]/\LA enc3 H p R/\R.length<=1000/\0 < day/\Ma.Wins day R /\
 ∀ (l:Addr) (R':List T3) (H':Hp),Same H H'->H l=none->LA enc3 H' l R'->R'.length<=2 * R.length+1->Ma.CK day R'->(∀ t,Ma.bt day R' t=Ma.bt day R t)->Q (.ref l) H'
section
variable {P:Program} {w:World} {K:PySem.W.Frag} {mg:Str->Option Value} {base:Heap} {f:Addr} {fd:FuncData} {n:Nat}
theorem ok_clock_of (F:Fun K "clock_of" "clock_of" st_clock_of f fd) (C_is_board:Callee P w K mg base n "is_board" ["day","thing"] spBoard) (C_clock_within:Callee P w K mg base n "clock_within" ["day","board"] (spWithin 10)):FnOk P w K mg base CX0 (n+1) f fd ["day","board"] spClockOf:=by
 refine F.okQ sc_clock_of (fun vs H Q E h=>?_) (fun cdv A outer s H vs Q E hr h=>?_)
 ·obtain ⟨_,_,_,rfl,_⟩:=h
  rfl
 obtain ⟨day,p,R,rfl,hR,hl,hd,hW,q⟩:=h
 refine ⟨_,(qss_cons (qs_if (qt_not (qt_val (qe_fn C_is_board hr rfl (qa_c (qv 0) (qa_c (qv 1) qa_nil))))) (qss_one qs_never) qss_nil) (qss_one (qs_ret (qe_fn C_clock_within hr rfl (qa_c (qv 0) (qa_c (qv 1) qa_nil)))))),?_⟩
 try dsimp only [cx_k,cx_kn,as_nil,as_name,Nat.reduceAdd]
 refine ⟨_,rfl,_,rfl,day,.ref p,rfl,la_dv3 hR hl,fun H1 s1=>?_⟩
 rw [la_board hR hW]
 refine ⟨_,rfl,iteF ?_⟩
 exact ⟨_,rfl,_,rfl,day,p,R,rfl,hR.same s1,(by show R.length<=1024; omega),by omega,hd,hW,fun l R' H2 s2 fl h1 h2 h3 h4=>q l R' H2 (s1.trans s2) (s1.free fl) h1 h2 h3 h4⟩
end
noncomputable def spNext:Sp:=fun vs H Q _=>∃ (day:Int) (r:Addr) (a b c t:Int),vs=[.int day,.ref r,.int t]/\0 < day/\Tup3 H r a b c/\Q (.int (Ma.nextO day a b t)) H
noncomputable def spLast:Sp:=fun vs H Q _=>∃ (day:Int) (r:Addr) (a b c t:Int),vs=[.int day,.ref r,.int t]/\0 < day/\Tup3 H r a b c/\Q (.int (Ma.lastO day a b t)) H
section
variable {P:Program} {w:World} {K:PySem.W.Frag} {mg:Str->Option Value} {base:Heap} {f:Addr} {fd:FuncData} {n:Nat}
theorem ok_next (F:Fun K "next_open" "next_open" st_next_open f fd) (B:Bl mg):FnOk P w K mg base CX0 (n+1) f fd ["day","window","t"] spNext:=by
 refine F.okQ sc_next_open (fun vs H Q E h=>?_) (fun cdv A outer s H vs Q E hr h=>?_)
 ·obtain ⟨_,_,_,_,_,_,rfl,_⟩:=h
  rfl
 obtain ⟨day,r,a,b,c,t,rfl,hd,hw,q⟩:=h
 refine ⟨_,(qss_cons (qs_set (i:=3) sc_next_open.nd rfl (Or.inl rfl) (qe_op qop_mod (qv 2) (qv 0))) (qss_cons (qs_set (i:=4) sc_next_open.nd rfl (Or.inl rfl) (qe_op qop_sub (qv 2) (qv 3))) (qss_cons (qs_if (qt_cmpR qop_gt (qv 3) (qe_ix qix_tup (qv 1) qe_int (fun _ _=>rfl)) (nomark _)) (qss_one (qs_ret (qe_op qop_add (qe_op qop_add (qv 4) (qv 0)) (qe_ix qix_tup (qv 1) qe_int (fun _ _=>rfl))))) qss_nil) (qss_one (qs_ret (qe_op qop_add (qv 4) (qe_cb (qcall_max rfl) rfl B.max bt_max (qa_c (qv 3) (qa_c (qe_ix qix_tup (qv 1) qe_int (fun _ _=>rfl)) qa_nil))))))))),?_⟩
 try dsimp only [cx_k,cx_kn,as_nil,as_name,Nat.reduceAdd]
 refine ⟨_,rfl,_,rfl,_,_,rfl,rfl,hd,?_⟩
 refine ⟨_,rfl,_,rfl,_,_,rfl,rfl,?_⟩
 refine ⟨_,rfl,_,rfl,r,_,_,_,rfl,rfl,SqT.of hw,rfl,_,_,rfl,rfl,_,rfl,?_⟩
 unfold Ma.nextO at q
 refine ite2 (fun c1=>?_) (fun c1=>?_)
 ·rw [if_pos (of_decide_eq_true c1)] at q
  exact ⟨_,rfl,_,rfl,_,_,rfl,rfl,_,rfl,r,_,_,_,rfl,rfl,SqT.of hw,rfl,_,_,rfl,rfl,q⟩
 ·rw [if_neg (fun z=>c1 (decide_eq_true z))] at q
  exact ⟨_,rfl,_,rfl,_,rfl,r,_,_,_,rfl,rfl,SqT.of hw,rfl,_,_,rfl,_,_,rfl,rfl,q⟩
theorem ok_last (F:Fun K "last_open" "last_open" st_last_open f fd) (B:Bl mg):FnOk P w K mg base CX0 (n+1) f fd ["day","window","t"] spLast:=by
 refine F.okQ sc_last_open (fun vs H Q E h=>?_) (fun cdv A outer s H vs Q E hr h=>?_)
 ·obtain ⟨_,_,_,_,_,_,rfl,_⟩:=h
  rfl
 obtain ⟨day,r,a,b,c,t,rfl,hd,hw,q⟩:=h
 refine ⟨_,(qss_cons (qs_set (i:=3) sc_last_open.nd rfl (Or.inl rfl) (qe_op qop_mod (qv 2) (qv 0))) (qss_cons (qs_set (i:=4) sc_last_open.nd rfl (Or.inl rfl) (qe_op qop_sub (qv 2) (qv 3))) (qss_cons (qs_if (qt_cmpR qop_lt (qv 3) (qe_ix qix_tup (qv 1) qe_int (fun _ _=>rfl)) (nomark _)) (qss_one (qs_ret (qe_op qop_add (qe_op qop_sub (qv 4) (qv 0)) (qe_ix qix_tup (qv 1) qe_int (fun _ _=>rfl))))) qss_nil) (qss_one (qs_ret (qe_op qop_add (qv 4) (qe_cb (qcall_min rfl) rfl B.min bt_min (qa_c (qv 3) (qa_c (qe_ix qix_tup (qv 1) qe_int (fun _ _=>rfl)) qa_nil))))))))),?_⟩
 try dsimp only [cx_k,cx_kn,as_nil,as_name,Nat.reduceAdd]
 refine ⟨_,rfl,_,rfl,_,_,rfl,rfl,hd,?_⟩
 refine ⟨_,rfl,_,rfl,_,_,rfl,rfl,?_⟩
 refine ⟨_,rfl,_,rfl,r,_,_,_,rfl,rfl,SqT.of hw,rfl,_,_,rfl,rfl,_,rfl,?_⟩
 unfold Ma.lastO at q
 refine ite2 (fun c1=>?_) (fun c1=>?_)
 ·rw [if_pos (of_decide_eq_true c1)] at q
  exact ⟨_,rfl,_,rfl,_,_,rfl,rfl,_,rfl,r,_,_,_,rfl,rfl,SqT.of hw,rfl,_,_,rfl,rfl,q⟩
 ·rw [if_neg (fun z=>c1 (decide_eq_true z))] at q
  exact ⟨_,rfl,_,rfl,_,rfl,r,_,_,_,rfl,rfl,SqT.of hw,rfl,_,_,rfl,_,_,rfl,rfl,q⟩
end
theorem RowsAt.sameT {H H':Hp} {p P:Addr} {R:List T3} {pos:Pos} {qual:Str} (h:RowsAt H p R) (s:SameT P H H') (t:TabOk H P pos qual):RowsAt H' p R:=h.mono fun b o e n=>s b o e fun z=>by
 obtain ⟨ps,hp,_⟩:=t
 rw [z,hp] at e
 exact n ps (Option.some.inj e).symm
noncomputable def pAt (p:T3->Bool) (R:List T3) (i:Nat):Bool:=p (rA R i,rB R i,rC R i)
noncomputable def spLam (p:T3->Bool) (c':Addr) (qual:Str):Sp:=fun vs H Q _=>∃ (r:Addr) (t:T3),vs=[.ref r]/\H c'=some (.ext (CodeQ c' qual))/\H r=some (.tup [.int t.1,.int t.2.1,.int t.2.2])/\Q (.bl (p t)) H
noncomputable def spFW (p:T3->Bool) (fl c':Addr) (qual:Str):Sp:=fun vs H Q _=>∃ (pc:Addr) (R:List T3),vs=[.ref pc,.ref fl]/\H c'=some (.ext (CodeQ c' qual))/\RowsAt H pc R/\(∀ i j,i < j->j < R.length->pAt p R i=true->pAt p R j=true) /\
 ∀ m:Nat,m<=R.length->(∀ i,i < m->pAt p R i=false)->(m < R.length->pAt p R m=true)->Q (.int m) H
section
variable {P:Program} {w:World} {K:PySem.W.Frag} {mg:Str->Option Value} {base:Heap} {f:Addr} {fd:FuncData} {n:Nat}
theorem ok_first_where {p:T3->Bool} {fl c':Addr} {fdl:FuncData} {qual:Str} (F:Fun K "first_where" "first_where" st_first_where f fd) (B:Bl mg) (G:FnOk P w K mg base CX0 n fl fdl ["window"] (spLam p c' qual)) (bG:Binds K fdl ["window"] []) (ho:PySem.W.FnAt fl base) :
  FnOk P w K mg base CX0 (n+1) f fd ["clock","holds"] (spFW p fl c' qual):=by
 refine F.okQ sc_first_where (fun vs H Q E h=>?_) (fun cdv A outer s H vs Q E hr h=>?_)
 ·obtain ⟨_,_,rfl,_⟩:=h
  rfl
 obtain ⟨pc,R,rfl,hc,hR,hmono,q⟩:=h
 refine ⟨_,(qss_cons (qs_set (i:=2) sc_first_where.nd rfl (Or.inl rfl) qe_int) (qss_cons (qs_set (i:=3) sc_first_where.nd rfl (Or.inl rfl) (qe_cb qcall_len rfl B.len bt_len (qa_c (qv 0) qa_nil))) (qss_cons (qs_while PassesOwn.never (qt_cmpR qop_lt (qv 2) (qv 3) (nomark _)) (qss_cons (qs_set (i:=4) sc_first_where.nd rfl (Or.inl rfl) (qe_op qop_fdivB (qe_op qop_add (qv 2) (qv 3)) qe_int)) (qss_one (qs_if (qt_val ⟨pe_clo 1 G hr bG ho (qa_c (qe_ix qix_list (qv 0) (qv 4) (fun _ _=>rfl)) qa_nil).run⟩) (qss_one (qs_set (i:=3) sc_first_where.nd rfl (Or.inl rfl) (qv 4))) (qss_one (qs_set (i:=2) sc_first_where.nd rfl (Or.inl rfl) (qe_op qop_add (qv 4) qe_int))))))) (qss_one (qs_ret (qv 2)))))),?_⟩
 try dsimp only [cx_k,cx_kn,as_nil,as_name,Nat.reduceAdd]
 obtain ⟨xs,hS,hlen,hat⟩:=hR.at (K:=K)
 refine ⟨_,rfl,pc,_,rfl,.inl hS,?_⟩
 refine while_by (fun σ H'=>H'=H/\∃ (lo hi:Nat) (v:Option V),σ=[some (.ref pc),some (.ref fl),some (.int lo),some (.int hi),v]/\lo<=hi/\hi<=R.length/\(∀ i,i < lo->pAt p R i=false)/\(∀ i,hi<=i->i < R.length->pAt p R i=true))
  (fun σ _=>match σ with | [_,_,some (.int l),some (.int h),_]=>(h - l).toNat | _=>0) ⟨rfl,0,R.length,none,by rw [hlen]; rfl,Nat.zero_le _,Nat.le_refl _,fun i hi=>absurd hi (Nat.not_lt_zero _),fun i h1 h2=>absurd h2 (Nat.not_lt.mpr h1)⟩ ?_ ?_
 ·intro σ H' z9;obtain ⟨rfl,lo,hi,v,rfl,l1,l2,l3,l4⟩ := z9
  refine ⟨_,rfl,_,rfl,_,_,rfl,rfl,_,rfl,?_⟩
  refine ite2 (fun c1=>?_) (fun c1=>?_)
  ·have c2:(lo:Int) < (hi:Int):=of_decide_eq_true c1
   refine ⟨_,rfl,_,rfl,_,_,rfl,rfl,_,_,rfl,rfl,⟨by decide,by decide⟩,?_⟩
   have m1:(lo:Int)<=((lo:Int)+hi) / 2:=by omega
   have m2:((lo:Int)+hi) / 2 < (hi:Int):=by omega
   obtain ⟨r,ha,hr'⟩:=hat (((lo:Int)+hi) / 2) (by omega) (by omega)
   refine ⟨rfl,_,rfl,_,rfl,pc,_,_,_,rfl,rfl,hS,ha,r,(rA R (((lo:Int)+hi) / 2).toNat,rB R (((lo:Int)+hi) / 2).toNat,rC R (((lo:Int)+hi) / 2).toNat),rfl,hc,hr',_,rfl,?_⟩
   refine ite2 (fun c3=>?_) (fun c3=>?_)
   ·refine ⟨_,rfl,⟨rfl,lo,(((lo:Int)+hi) / 2).toNat,some (.int (((lo:Int)+hi) / 2)),?_,by omega,by omega,l3,fun i h1 h2=>?_⟩,?_⟩
    ·show _=([some (.ref pc),some (.ref fl),some (.int lo),some (.int (((((lo:Int)+hi) / 2).toNat:Nat):Int)),some (.int (((lo:Int)+hi) / 2))]:List (Option V))
     rw [show (((((lo:Int)+hi) / 2).toNat:Nat):Int)=(((lo:Int)+hi) / 2) by omega]
     rfl
    ·rcases (by omega:i=(((lo:Int)+hi) / 2).toNat\/(((lo:Int)+hi) / 2).toNat < i) with e | e
     ·rw [e]; exact c3
     ·exact hmono _ _ e h2 c3
    ·show ((((lo:Int)+hi) / 2) - (lo:Int)).toNat < ((hi:Int) - (lo:Int)).toNat
     omega
   ·refine ⟨_,rfl,_,_,rfl,rfl,⟨rfl,(((lo:Int)+hi) / 2).toNat+1,hi,some (.int (((lo:Int)+hi) / 2)),?_,by omega,l2,fun i h1=>?_,l4⟩,?_⟩
    ·show _=([some (.ref pc),some (.ref fl),some (.int (((((lo:Int)+hi) / 2).toNat+1:Nat):Int)),some (.int hi),some (.int (((lo:Int)+hi) / 2))]:List (Option V))
     rw [show (((((lo:Int)+hi) / 2).toNat+1:Nat):Int)=(((lo:Int)+hi) / 2)+1 by omega]
     rfl
    ·have c4:pAt p R (((lo:Int)+hi) / 2).toNat=false:=Bool.eq_false_iff.mpr c3
     rcases (by omega:i=(((lo:Int)+hi) / 2).toNat\/i < (((lo:Int)+hi) / 2).toNat) with e | e
     ·rw [e]; exact c4
     ·refine Bool.eq_false_iff.mpr fun z=>?_
      have:=hmono _ _ e (by omega) z
      rw [c4] at this
      cases this
    ·show ((hi:Int) - ((((lo:Int)+hi) / 2)+1)).toNat < ((hi:Int) - (lo:Int)).toNat
     omega
  ·have c2:¬ (lo:Int) < (hi:Int):=fun z=>c1 (decide_eq_true z)
   have e:lo=hi:=by omega
   subst e
   exact ⟨_,rfl,q lo l2 l3 fun h=>l4 lo (Nat.le_refl _) h⟩
 ·intro σ H' Q1 Q2 hq z9;obtain ⟨v,e1,v',e2,i,j,e3,e4,k,e5,q1⟩ := z9
  exact ⟨v,e1,v',e2,i,j,e3,e4,k,e5,hq _ _ q1⟩
end
noncomputable def lamQ (x:Str):Str:=(x ++ ".<locals>.") ++ "<lambda>"
noncomputable def lamIn:Stmt->Expr
 | .Assign _ (.Call _ [_,l] _ _) _=>l
 | _=>.Constant .none 0 ⟨0,0,0,0⟩
noncomputable def lamSc:Expr->Scope
 | .Lambda _ _ sc _=>sc
 | _=>{ kind:=.function,names:=[],isGenerator:=false,isCoroutine:=false }
noncomputable def lamBody:Expr->Expr
 | .Lambda _ b _ _=>b
 | e=>e
noncomputable def lamArgs:Expr->Arguments
 | .Lambda a _ _ _=>a
 | _=>{ posonlyargs:=[],args:=[],vararg:=none,kwonlyargs:=[],kw_defaults:=[],kwarg:=none,defaults:=[] }
theorem only_one {y:Str} {c:Addr} (z:Str) (d:Addr) (e:([(y,c)]:List (Str × Addr)).lookup z=some d):z=y/\d=c:=by
 rw [List.lookup_cons] at e
 cases h:z == y with
 | true=>rw [h] at e; cases e; exact ⟨eq_of_beq h,rfl⟩
 | false=>rw [h] at e; cases e
theorem two_names {a b x:Str} {c:Addr} (h:([(a,NameKind.local),(b,NameKind.free)]:List (Str × NameKind)).lookup x=some .free):∃ d,([(b,c)]:List (Str × Addr)).lookup x=some d:=by
 rw [List.lookup_cons] at h
 cases h1:x == a with
 | true=>rw [h1] at h; cases h
 | false =>
  rw [h1] at h
  have h':([(b,NameKind.free)]:List (Str × NameKind)).lookup x=some .free:=h
  rw [List.lookup_cons] at h'
  cases h2:x == b with
  | true=>exact ⟨c,by rw [List.lookup_cons,h2]⟩
  | false=>rw [h2] at h'; cases h'
noncomputable def spSetOff (P0:Addr) (pos:Pos):Sp:=fun vs H Q _=>∃ (day:Int) (pc:Addr) (t:Int) (R:List T3),vs=[.int day,.ref pc,.int t]/\RowsAt H pc R/\TabOk H P0 pos (lamQ "set_off")/\Ma.Clk day R.length (rA R) (rB R) (rC R) /\
 (R.length=0->Q .non H)/\(R.length ≠ 0->∀ (x y:Int) (r:Addr) (H':Hp),Ma.First day R.length (rA R) (rB R) (rC R) t x y->SameT P0 H H'->TabOk H' P0 pos (lamQ "set_off")->H' r=some (.tup [.int x,.int y])->Q (.ref r) H')
noncomputable def spCome (P0:Addr) (pos:Pos):Sp:=fun vs H Q _=>∃ (day:Int) (pc:Addr) (t:Int) (R:List T3),vs=[.int day,.ref pc,.int t]/\RowsAt H pc R/\TabOk H P0 pos (lamQ "set_off")/\Ma.Clk day R.length (rA R) (rB R) (rC R) /\
 (R.length=0->Q .non H)/\(R.length ≠ 0->∀ (x y:Int) (H':Hp),Ma.First day R.length (rA R) (rB R) (rC R) t x y->SameT P0 H H'->TabOk H' P0 pos (lamQ "set_off")->Q (.int y) H')
theorem TabOk.same {H H1:Hp} {P:Addr} {pos:Pos} {q:Str} (t:TabOk H P pos q) (a:Same H H1):TabOk H1 P pos q:=by
 obtain ⟨ps,h1,h2,h3⟩:=t
 refine ⟨ps,a _ _ h1,h2,?_⟩
 rcases h3 with h3 | ⟨c,h3,h4⟩
 ·exact .inl h3
 ·exact .inr ⟨c,h3,a _ _ h4⟩
noncomputable abbrev lamS:Expr:=lamIn ((defBody st_set_off).getD 2 (.Pass ⟨0,0,0,0⟩))
theorem sc_lamS (c:Addr):LamScope ["window","hour"] ["window"] (lamSc lamS) [("hour",c)]:=⟨rfl,rfl,rfl,by decide,rfl,by decide +kernel,by decide +kernel,fun _ h=>two_names h,fun x y d h1 h2=>(only_one x d h1).1.trans (only_one y d h2).1.symm⟩
noncomputable def spGS (v:V) (fl c':Addr):Sp:=match v with
 | .int hour=>spFW (fun t=>decide (hour<=t.2.1)) fl c' (lamQ "set_off")
 | _=>fun _ _ _ _=>False
section
variable {P:Program} {w:World} {K:PySem.W.Frag} {mg:Str->Option Value} {base:Heap} {f g:Addr} {fd gd:FuncData} {n:Nat}
theorem none_ok {k:Nat} {ps:List Str} {f:Addr} {fd:FuncData}:FnOk P w K mg base CX0 k f fd ps (fun _ _ _ _=>False):=⟨fun _ _ _ _ h=>h.elim,fun _ _ _ _ _ _ _ _ _ _ _ _ _ h=>h.elim⟩
theorem ok_lamS {v:V} {fl c' cy:Addr} {pm ctv:Value} (FW:Fun K "first_where" "first_where" st_first_where g gd) (B:Bl mg)
  (hfl:base.get? fl=some (PySem.W.kla_obj "<lambda>" (lamQ "set_off") (lamArgs lamS) (lamBody lamS) (lamSc lamS) [("hour",cy)] pm c' ctv)) (hca:Caught base (lamSc lamS) [("hour",cy)] ["window","hour"] ["window"] [v]) :
  FnOk P w K mg base CX0 2 g gd ["clock","holds"] (spGS v fl c'):=by
 cases v with
 | int hour =>
  refine ok_first_where (n:=1) FW B (lam_ok (k:=0) (N:=["window","hour"]) (cs:=[.int hour]) hfl (fun vs H Q E h=>?_) (sc_lamS cy) hca (fun vs H Q E h=>?_) (fun A outer s H vs Q E hr h=>?_)) (Binds.all fun us hl=>match us,hl with | [_],_=>rfl) ⟨_,_,_,_,hfl⟩
  ·obtain ⟨_,_,_,h,_⟩:=h
   exact h
  ·obtain ⟨_,_,rfl,_⟩:=h
   rfl
  ·obtain ⟨r,t,rfl,hc,hr',q⟩:=h
   refine ⟨_,pe_cmpR op_le (pv 1) (pe_ix ix_tup (pv 0) pe_int (fun _ _=>rfl)) (nomark _),?_⟩
   exact ⟨_,rfl,_,rfl,r,_,_,_,rfl,rfl,SqT.of hr',rfl,_,_,rfl,rfl,q⟩
 | non=>exact none_ok
 | bl b=>exact none_ok
 | str x=>exact none_ok
 | byt b=>exact none_ok
 | flt b=>exact none_ok
 | ref a=>exact none_ok
 | ty n=>exact none_ok
theorem K0 {d:Int} {n:Nat} {A B C:Nat->Int} (h:Ma.Clk d n A B C):0 < d:=h.d0
theorem ok_set_off {c P0:Addr} {oc kV doc pm ct:Value} {od an:Option Addr} {osl:Array (Option Value)} (lk:K.lookup f=some ⟨oc,od,.func (PySem.W.fnOf "set_off" "set_off" (defArgs st_set_off) (defBody st_set_off) (defScope st_set_off) .none kV doc pm an (.ref c) ct),osl⟩) (hcd:PySem.W.codeIn K (.ref c) "set_off" = true)
  (B:Bl mg) (hC:PySem.W.CodeHd base c P0) (hB:BMain mg base) (FW:Fun K "first_where" "first_where" st_first_where g gd) (bW:Binds K gd ["clock","holds"] []) (mW:mg "first_where" = some (.ref g)) (C_next_open:Callee P w K mg base 2 "next_open" ["day","window","t"] spNext) :
  FnOk P w K mg base CX0 3 f (PySem.W.fnOf "set_off" "set_off" (defArgs st_set_off) (defBody st_set_off) (defScope st_set_off) .none kV doc pm an (.ref c) ct) ["day","clock","t"] (spSetOff P0 ⟨39,32,39,64⟩):=by
 refine fn_of lk hcd sc_set_off (fun vs H Q E h=>?_) (fun A outer s H vs Q E hr h=>?_)
 ·obtain ⟨_,_,_,_,rfl,_⟩:=h
  rfl
 obtain ⟨day,pc,t,R,rfl,hR,tab,hK,q0,q1⟩:=h
 refine ⟨_,PSs.nox (QSs.run (qss_cons (qs_if (qt_cmpR qop_eq (qe_cb qcall_len rfl B.len bt_len (qa_c (qv 1) qa_nil)) qe_int (nomark _)) (qss_one (qs_ret qe_non)) qss_nil) (qss_cons (qs_set (i:=3) sc_set_off.nd rfl (Or.inr rfl) (qe_op qop_mod (qv 2) (qv 0))) (qss_cons (qs_set (i:=4) sc_set_off.nd rfl (Or.inl rfl) ⟨pe_lamcall (N:=["window","hour"]) (ps:=["window"]) 3 hr rfl mW FW.kp bW rfl rfl hC hB rfl rfl rfl (Or.inr (Or.inl rfl)) rfl rfl rfl only_one rfl rfl (pv 1) (fun base' fl c' v pm ctv hfl hca=>ok_lamS FW B hfl hca)⟩) (qss_cons (qs_set (i:=5) sc_set_off.nd rfl (Or.inl rfl) (qe_ix qix_list (qv 1) (qe_op qop_mod (qv 4) (qe_cb qcall_len rfl B.len bt_len (qa_c (qv 1) qa_nil))) (fun _ _=>rfl))) (qss_cons (qs_set (i:=6) sc_set_off.nd rfl (Or.inl rfl) (qe_fn C_next_open hr rfl (qa_c (qv 0) (qa_c (qv 5) (qa_c (qv 2) qa_nil))))) (qss_one (qs_ret (qe_tup (qa_c (qv 6) (qa_c (qe_op qop_add (qv 6) (qe_ix qix_tup (qv 5) qe_int (fun _ _=>rfl))) qa_nil))))))))))),?_⟩
 try dsimp only [cx_k,cx_kn,as_nil,as_name,Nat.reduceAdd]
 obtain ⟨xs,hS,hlen,hat⟩:=hR.at (K:=K)
 refine ⟨_,rfl,pc,_,rfl,.inl hS,rfl,_,rfl,?_⟩
 refine ite2 (fun c1=>?_) (fun c1=>?_)
 ·have c2:V.int ((xs.length:Nat):Int)=V.int 0:=of_decide_eq_true c1
  injection c2 with c3
  exact q0 (by omega)
 have n0:R.length ≠ 0:=fun z=>c1 (decide_eq_true (by rw [hlen,z]; rfl))
 refine ⟨_,rfl,_,rfl,_,_,rfl,rfl,K0 hK,?_⟩
 refine ⟨_,rfl,_,rfl,tab,fun fl c' H2 sm tb hc'=>?_⟩
 refine ⟨pc,R,rfl,hc',hR.sameT sm tab,fun i j hij hj hp=>?_,fun m m1 m2 m3=>?_⟩
 ·have a1:=of_decide_eq_true hp
  have:=hK.lt i j hij hj
  have:=hK.ab j hj
  exact decide_eq_true (by show t % day<=rB R j; have a2:t % day<=rB R i:=a1; omega)
 have hR2:=hR.sameT sm tab
 obtain ⟨xs2,hS2,hlen2,hat2⟩:=hR2.at (K:=K)
 have hm:((m:Int) % ((xs2.length:Nat):Int))=((m % R.length:Nat):Int):=by rw [hlen2]; rfl
 have hml:m % R.length < R.length:=Nat.mod_lt _ (by omega)
 obtain ⟨r,ha,hr'⟩:=hat2 ((m % R.length:Nat):Int) (Int.natCast_nonneg _) (by omega)
 refine ⟨_,rfl,_,rfl,_,rfl,pc,_,rfl,.inl hS2,_,_,rfl,rfl,(by show 0 < ((xs2.length:Nat):Int); omega),pc,_,_,.ref r,rfl,rfl,hS2,by rw [hm]; exact ha,?_⟩
 refine ⟨_,rfl,_,rfl,_,rfl,day,r,_,_,_,t,rfl,hK.d0,hr',?_⟩
 refine ⟨_,rfl,_,rfl,_,rfl,r,_,_,_,rfl,rfl,SqT.of hr',rfl,_,_,rfl,rfl,(by show 2<=sizeLine; decide),fun r2 hr2=>?_⟩
 refine q1 n0 _ _ r2 _ (Ma.first_of hK (by omega) m1 (fun i hi=>?_) (fun hi=>?_) (i:=m % R.length) rfl) (SameT.trans sm (SameT.same (same_new hr2 _))) (TabOk.same tb (same_new hr2 _)) upd_same
 ·have z:=m2 i hi
  exact of_decide_eq_false z
 ·exact of_decide_eq_true (m3 hi)
theorem ok_come {P0:Addr} {pos:Pos} (F:Fun K "come" "come" st_come f fd) (C_set_off:Callee P w K mg base n "set_off" ["day","clock","t"] (spSetOff P0 pos)):FnOk P w K mg base CX0 (n+1) f fd ["day","clock","t"] (spCome P0 pos):=by
 refine F.okQ sc_come (fun vs H Q E h=>?_) (fun cdv A outer s H vs Q E hr h=>?_)
 ·obtain ⟨_,_,_,_,rfl,_⟩:=h
  rfl
 obtain ⟨day,pc,t,R,rfl,hR,tab,hK,q0,q1⟩:=h
 refine ⟨_,(qss_cons (qs_set (i:=3) sc_come.nd rfl (Or.inl rfl) (qe_fn C_set_off hr rfl (qa_c (qv 0) (qa_c (qv 1) (qa_c (qv 2) qa_nil))))) (qss_cons (qs_if (qt_isN (qv 3)) (qss_one (qs_ret qe_non)) qss_nil) (qss_one (qs_ret (qe_ix qix_tup (qv 3) qe_int (fun _ _=>rfl)))))),?_⟩
 try dsimp only [cx_k,cx_kn,as_nil,as_name,Nat.reduceAdd]
 refine ⟨_,rfl,_,rfl,_,rfl,day,pc,t,R,rfl,hR,tab,hK,fun e0=>?_,fun n0 x y r H' hF sm tb hr'=>?_⟩
 ·refine ⟨_,rfl,_,rfl,iteP (decide_eq_true rfl) (q0 e0)⟩
 ·refine ⟨_,rfl,_,rfl,iteN (by simp) ?_⟩
  exact ⟨_,rfl,r,_,_,_,rfl,rfl,SqT.of hr',rfl,q1 n0 x y H' hF sm tb⟩
end
noncomputable def spLeave (P0:Addr) (pos:Pos):Sp:=fun vs H Q _=>∃ (day:Int) (pc:Addr) (t:Int) (R:List T3),vs=[.int day,.ref pc,.int t]/\RowsAt H pc R/\TabOk H P0 pos (lamQ "leave")/\Ma.Clk day R.length (rA R) (rB R) (rC R) /\
 (R.length=0->Q .non H)/\(R.length ≠ 0->∀ (x:Int) (H':Hp),Ma.Last day R.length (rA R) (rB R) (rC R) t x->SameT P0 H H'->TabOk H' P0 pos (lamQ "leave")->Q (.int x) H')
noncomputable abbrev lamL:Expr:=lamIn ((defBody st_leave).getD 3 (.Pass ⟨0,0,0,0⟩))
theorem sc_lamL (c:Addr):LamScope ["window","hour"] ["window"] (lamSc lamL) [("hour",c)]:=⟨rfl,rfl,rfl,by decide,rfl,by decide +kernel,by decide +kernel,fun _ h=>two_names h,fun x y d h1 h2=>(only_one x d h1).1.trans (only_one y d h2).1.symm⟩
noncomputable def spGL (v:V) (fl c':Addr):Sp:=match v with
 | .int hour=>spFW (fun t=>decide (hour < t.1+t.2.2)) fl c' (lamQ "leave")
 | _=>fun _ _ _ _=>False
section
variable {P:Program} {w:World} {K:PySem.W.Frag} {mg:Str->Option Value} {base:Heap} {f g:Addr} {fd gd:FuncData} {n:Nat}
theorem ok_lamL {v:V} {fl c' cy:Addr} {pm ctv:Value} (FW:Fun K "first_where" "first_where" st_first_where g gd) (B:Bl mg)
  (hfl:base.get? fl=some (PySem.W.kla_obj "<lambda>" (lamQ "leave") (lamArgs lamL) (lamBody lamL) (lamSc lamL) [("hour",cy)] pm c' ctv)) (hca:Caught base (lamSc lamL) [("hour",cy)] ["window","hour"] ["window"] [v]) :
  FnOk P w K mg base CX0 2 g gd ["clock","holds"] (spGL v fl c'):=by
 cases v with
 | int hour =>
  refine ok_first_where (n:=1) FW B (lam_ok (k:=0) (N:=["window","hour"]) (cs:=[.int hour]) hfl (fun vs H Q E h=>?_) (sc_lamL cy) hca (fun vs H Q E h=>?_) (fun A outer s H vs Q E hr h=>?_)) (Binds.all fun us hl=>match us,hl with | [_],_=>rfl) ⟨_,_,_,_,hfl⟩
  ·obtain ⟨_,_,_,h,_⟩:=h
   exact h
  ·obtain ⟨_,_,rfl,_⟩:=h
   rfl
  ·obtain ⟨r,t,rfl,hc,hr',q⟩:=h
   refine ⟨_,pe_cmpR op_lt (pv 1) (pe_op op_add (pe_ix ix_tup (pv 0) pe_int (fun _ _=>rfl)) (pe_ix ix_tup (pv 0) pe_int (fun _ _=>rfl))) (nomark _),?_⟩
   exact ⟨_,rfl,_,rfl,r,_,_,_,rfl,rfl,SqT.of hr',rfl,_,rfl,r,_,_,_,rfl,rfl,SqT.of hr',rfl,_,_,rfl,rfl,_,_,rfl,rfl,q⟩
 | non=>exact none_ok
 | bl b=>exact none_ok
 | str x=>exact none_ok
 | byt b=>exact none_ok
 | flt b=>exact none_ok
 | ref a=>exact none_ok
 | ty n=>exact none_ok
theorem ok_leave {c P0:Addr} {oc kV doc pm ct:Value} {od an:Option Addr} {osl:Array (Option Value)} (lk:K.lookup f=some ⟨oc,od,.func (PySem.W.fnOf "leave" "leave" (defArgs st_leave) (defBody st_leave) (defScope st_leave) .none kV doc pm an (.ref c) ct),osl⟩) (hcd:PySem.W.codeIn K (.ref c) "leave" = true)
  (B:Bl mg) (hC:PySem.W.CodeHd base c P0) (hB:BMain mg base) (FW:Fun K "first_where" "first_where" st_first_where g gd) (bW:Binds K gd ["clock","holds"] []) (mW:mg "first_where" = some (.ref g)) (C_last_open:Callee P w K mg base 2 "last_open" ["day","window","t"] spLast) :
  FnOk P w K mg base CX0 3 f (PySem.W.fnOf "leave" "leave" (defArgs st_leave) (defBody st_leave) (defScope st_leave) .none kV doc pm an (.ref c) ct) ["day","clock","s"] (spLeave P0 ⟨53,32,53,75⟩):=by
 refine fn_of lk hcd sc_leave (fun vs H Q E h=>?_) (fun A outer s H vs Q E hr h=>?_)
 ·obtain ⟨_,_,_,_,rfl,_⟩:=h
  rfl
 obtain ⟨day,pc,t,R,rfl,hR,tab,hK,q0,q1⟩:=h
 refine ⟨_,PSs.nox (QSs.run (qss_cons (qs_if (qt_cmpR qop_eq (qe_cb qcall_len rfl B.len bt_len (qa_c (qv 1) qa_nil)) qe_int (nomark _)) (qss_one (qs_ret qe_non)) qss_nil) (qss_cons (qs_set (i:=3) sc_leave.nd rfl (Or.inl rfl) (qe_op qop_add (qe_ix qix_tup (qe_ix qix_list (qv 1) qe_int (fun _ _=>rfl)) qe_int (fun _ _=>rfl)) (qe_ix qix_tup (qe_ix qix_list (qv 1) qe_int (fun _ _=>rfl)) qe_int (fun _ _=>rfl)))) (qss_cons (qs_set (i:=4) sc_leave.nd rfl (Or.inr rfl) (qe_op qop_add (qv 3) (qe_op qop_mod (qe_op qop_sub (qv 2) (qv 3)) (qv 0)))) (qss_cons (qs_set (i:=5) sc_leave.nd rfl (Or.inl rfl) ⟨pe_lamcall (N:=["window","hour"]) (ps:=["window"]) 4 hr rfl mW FW.kp bW rfl rfl hC hB rfl rfl rfl (Or.inr (Or.inl rfl)) rfl rfl rfl only_one rfl rfl (pv 1) (fun base' fl c' v pm ctv hfl hca=>ok_lamL FW B hfl hca)⟩) (qss_cons (qs_set (i:=6) sc_leave.nd rfl (Or.inl rfl) (qe_ix qix_list (qv 1) (qe_op qop_sub (qv 5) qe_int) (fun _ _=>rfl))) (qss_one (qs_ret (qe_fn C_last_open hr rfl (qa_c (qv 0) (qa_c (qv 6) (qa_c (qe_op qop_sub (qv 2) (qe_ix qix_tup (qv 6) qe_int (fun _ _=>rfl))) qa_nil)))))))))))),?_⟩
 try dsimp only [cx_k,cx_kn,as_nil,as_name,Nat.reduceAdd]
 obtain ⟨xs,hS,hlen,hat⟩:=hR.at (K:=K)
 refine ⟨_,rfl,pc,_,rfl,.inl hS,rfl,_,rfl,?_⟩
 refine ite2 (fun c1=>?_) (fun c1=>?_)
 ·have c2:V.int ((xs.length:Nat):Int)=V.int 0:=of_decide_eq_true c1
  injection c2 with c3
  exact q0 (by omega)
 have n0:R.length ≠ 0:=fun z=>c1 (decide_eq_true (by rw [hlen,z]; rfl))
 obtain ⟨r0,ha0,hr0⟩:=hat 0 (by omega) (by omega)
 refine ⟨_,rfl,pc,_,_,_,rfl,rfl,hS,ha0,r0,_,_,_,rfl,rfl,SqT.of hr0,rfl,_,rfl,pc,_,_,_,rfl,rfl,hS,ha0,r0,_,_,_,rfl,rfl,SqT.of hr0,rfl,_,_,rfl,rfl,?_⟩
 refine ⟨_,rfl,_,rfl,_,rfl,_,_,rfl,rfl,_,rfl,_,_,rfl,rfl,K0 hK,_,_,rfl,rfl,?_⟩
 refine ⟨_,rfl,_,rfl,tab,fun fl c' H2 sm tb hc'=>?_⟩
 refine ⟨pc,R,rfl,hc',hR.sameT sm tab,fun i j hij hj hp=>?_,fun m m1 m2 m3=>?_⟩
 ·have a1:=of_decide_eq_true hp
  have:=hK.yl i j hij hj
  have:=hK.ab i (by omega)
  exact decide_eq_true (by
   show rA R 0+rC R 0+(t - (rA R 0+rC R 0)) % day < rA R j+rC R j
   have a2:rA R 0+rC R 0+(t - (rA R 0+rC R 0)) % day < rA R i+rC R i:=a1
   omega)
 obtain ⟨mp,hL⟩:=Ma.last_of hK (s:=t) (by omega) m1 (fun i hi=>of_decide_eq_false (m2 i hi)) (fun hi=>of_decide_eq_true (m3 hi))
 have hR2:=hR.sameT sm tab
 obtain ⟨xs2,hS2,hlen2,hat2⟩:=hR2.at (K:=K)
 obtain ⟨r,ha,hr'⟩:=hat2 ((m:Int) - 1) (by omega) (by omega)
 have e1:((m:Int) - 1).toNat=m - 1:=by omega
 rw [e1] at hr'
 refine ⟨_,rfl,_,rfl,_,_,rfl,rfl,pc,_,_,.ref r,rfl,rfl,hS2,ha,?_⟩
 refine ⟨_,rfl,_,rfl,_,rfl,_,rfl,r,_,_,_,rfl,rfl,SqT.of hr',rfl,_,_,rfl,rfl,day,r,_,_,_,_,rfl,K0 hK,hr',?_⟩
 exact q1 n0 _ _ hL sm tb
end
theorem tab_wr {H:Hp} {P p:Addr} {pos:Pos} {q:Str} {xs ys:List V} (t:TabOk H P pos q) (e:H p=some (.lst xs)):TabOk (upd H p (.lst ys)) P pos q:=by
 obtain ⟨ps,h1,h2,h3⟩:=t
 refine ⟨ps,by rw [upd_ne (fun z=>by rw [z,e] at h1; cases h1)]; exact h1,h2,?_⟩
 rcases h3 with h3 | ⟨c,h3,h4⟩
 ·exact .inl h3
 ·exact .inr ⟨c,h3,by rw [upd_ne (fun z=>by rw [z,e] at h4; cases h4)]; exact h4⟩
theorem tb_one (P:Addr) (pos:Pos) (q:Str):TB fun H=>TabOk H P pos q:=⟨fun _ _ t s=>TabOk.same t s,fun _ _ _ _ t e=>tab_wr t e⟩
theorem TB.and {T T':Hp->Prop} (h:TB T) (h':TB T'):TB fun H=>T H/\T' H:=⟨fun H H' t s=>⟨h.same H H' t.1 s,h'.same H H' t.2 s⟩,fun H p xs ys t e=>⟨h.wr H p xs ys t.1 e,h'.wr H p xs ys t.2 e⟩⟩
noncomputable def spComeT (T:Hp->Prop):Sp:=fun vs H Q _=>∃ (day:Int) (p:Addr) (t:Int) (R:List T3),vs=[.int day,.ref p,.int t]/\LA enc3 H p R/\T H/\Ma.CK day R/\∀ H',SameU H H'->T H'->Q (optV (Ma.bt day R t)) H'
theorem come_T {P:Program} {w:World} {K:PySem.W.Frag} {mg:Str->Option Value} {base:Heap} {n:Nat} {T:Hp->Prop} {P0:Addr} {pos:Pos} (C:Callee P w K mg base n "come" ["day","clock","t"] (spCome P0 pos)) (h1:∀ H,T H->TabOk H P0 pos (lamQ "set_off"))
  (h2:∀ H H',T H->SameT P0 H H'->TabOk H' P0 pos (lamQ "set_off")->T H'):Callee P w K mg base n "come" ["day","clock","t"] (spComeT T):=Callee.imp C fun vs H Q E h=>by
 obtain ⟨day,p,t,R,rfl,hR,hT,ck,q⟩:=h
 refine ⟨day,p,t,R,rfl,hR.rows,h1 H hT,ck.clk,fun e=>?_,fun n0 x y H' hF sm tb=>?_⟩
 ·have e':=List.length_eq_zero_iff.mp e
  subst e'
  exact q H (SameU.refl H) hT
 ·have:=q H' (SameU.tab sm (h1 H hT) tb) (h2 H H' hT sm tb)
  rw [Ma.first_bt ck.clk hF] at this
  exact this
theorem tab_other {H H':Hp} {P P0:Addr} {pos pos0:Pos} {q q0:Str} (t:TabOk H P pos q) (t0:TabOk H P0 pos0 q0) (s:SameT P0 H H') (ne:P ≠ P0):TabOk H' P pos q:=by
 obtain ⟨ps,h1,h2,h3⟩:=t
 refine ⟨ps,s _ _ h1 ne,h2,?_⟩
 rcases h3 with h3 | ⟨c,h3,h4⟩
 ·exact .inl h3
 ·refine .inr ⟨c,h3,s _ _ h4 fun z=>?_⟩
  obtain ⟨ps0,g1,_⟩:=t0
  rw [z,g1] at h4
  cases h4
noncomputable def spLamG {α:Type} (enc:α->List V) (p:α->Bool) (c':Addr) (qual:Str):Sp:=fun vs H Q _=>∃ (r:Addr) (x:α),vs=[.ref r]/\H c'=some (.ext (CodeQ c' qual))/\H r=some (.tup (enc x))/\Q (.bl (p x)) H
noncomputable def spFWG {α:Type} (enc:α->List V) (p:α->Bool) (fl c':Addr) (qual:Str):Sp:=fun vs H Q _=>∃ (pc:Addr) (xs:List α),vs=[.ref pc,.ref fl]/\H c'=some (.ext (CodeQ c' qual))/\LA enc H pc xs /\
 (∀ (i j:Nat) x y,i < j->xs[i]?=some x->xs[j]?=some y->p x=true->p y=true) /\
 ∀ m:Nat,m<=xs.length->(∀ (i:Nat) x,i < m->xs[i]?=some x->p x=false)->(∀ x,xs[m]?=some x->p x=true)->Q (.int m) H
section
variable {P:Program} {w:World} {K:PySem.W.Frag} {mg:Str->Option Value} {base:Heap} {f:Addr} {fd:FuncData} {n:Nat}
theorem ok_first_whereG {α:Type} {enc:α->List V} {p:α->Bool} {fl c':Addr} {fdl:FuncData} {qual:Str} {v0:Str} (F:Fun K "first_where" "first_where" st_first_where f fd) (B:Bl mg) (G:FnOk P w K mg base CX0 n fl fdl [v0] (spLamG enc p c' qual)) (bG:Binds K fdl [v0] []) (ho:PySem.W.FnAt fl base) :
  FnOk P w K mg base CX0 (n+1) f fd ["clock","holds"] (spFWG enc p fl c' qual):=by
 refine F.okQ sc_first_where (fun vs H Q E h=>?_) (fun cdv A outer s H vs Q E hr h=>?_)
 ·obtain ⟨_,_,rfl,_⟩:=h
  rfl
 obtain ⟨pc,xs,rfl,hc,hR,hmono,q⟩:=h
 refine ⟨_,(qss_cons (qs_set (i:=2) sc_first_where.nd rfl (Or.inl rfl) qe_int) (qss_cons (qs_set (i:=3) sc_first_where.nd rfl (Or.inl rfl) (qe_cb qcall_len rfl B.len bt_len (qa_c (qv 0) qa_nil))) (qss_cons (qs_while PassesOwn.never (qt_cmpR qop_lt (qv 2) (qv 3) (nomark _)) (qss_cons (qs_set (i:=4) sc_first_where.nd rfl (Or.inl rfl) (qe_op qop_fdivB (qe_op qop_add (qv 2) (qv 3)) qe_int)) (qss_one (qs_if (qt_val ⟨pe_clo 1 G hr bG ho (qa_c (qe_ix qix_list (qv 0) (qv 4) (fun _ _=>rfl)) qa_nil).run⟩) (qss_one (qs_set (i:=3) sc_first_where.nd rfl (Or.inl rfl) (qv 4))) (qss_one (qs_set (i:=2) sc_first_where.nd rfl (Or.inl rfl) (qe_op qop_add (qv 4) qe_int))))))) (qss_one (qs_ret (qv 2)))))),?_⟩
 try dsimp only [cx_k,cx_kn,as_nil,as_name,Nat.reduceAdd]
 obtain ⟨vs,hv,hlen,hat⟩:=hR.at (K:=K)
 refine ⟨_,rfl,pc,_,rfl,.inl (SqL.of hv),?_⟩
 refine while_by (fun σ H'=>H'=H/\∃ (lo hi:Nat) (v:Option V),σ=[some (.ref pc),some (.ref fl),some (.int lo),some (.int hi),v]/\lo<=hi/\hi<=xs.length/\(∀ (i:Nat) x,i < lo->xs[i]?=some x->p x=false)/\(∀ (i:Nat) x,hi<=i->xs[i]?=some x->p x=true))
  (fun σ _=>match σ with | [_,_,some (.int l),some (.int h),_]=>(h - l).toNat | _=>0) ⟨rfl,0,xs.length,none,by rw [hlen]; rfl,Nat.zero_le _,Nat.le_refl _,fun i x hi=>absurd hi (Nat.not_lt_zero _),fun i x h1 h2=>absurd (List.getElem?_eq_some_iff.mp h2).1 (Nat.not_lt.mpr h1)⟩ ?_ ?_
 ·intro σ H' z9;obtain ⟨rfl,lo,hi,v,rfl,l1,l2,l3,l4⟩ := z9
  refine ⟨_,rfl,_,rfl,_,_,rfl,rfl,_,rfl,?_⟩
  refine ite2 (fun c1=>?_) (fun c1=>?_)
  ·have c2:(lo:Int) < (hi:Int):=of_decide_eq_true c1
   refine ⟨_,rfl,_,rfl,_,_,rfl,rfl,_,_,rfl,rfl,⟨by decide,by decide⟩,?_⟩
   have m1:(lo:Int)<=((lo:Int)+hi) / 2:=by omega
   have m2:((lo:Int)+hi) / 2 < (hi:Int):=by omega
   have hk:(((lo:Int)+hi) / 2).toNat < xs.length:=by omega
   have ex:=List.getElem?_eq_getElem hk
   obtain ⟨r,ha,hr'⟩:=hat _ _ ex
   have ek:((((((lo:Int)+hi) / 2).toNat:Nat)):Int)=((lo:Int)+hi) / 2:=by omega
   rw [ek] at ha
   refine ⟨rfl,_,rfl,_,rfl,pc,_,_,_,rfl,rfl,SqL.of hv,ha,r,_,rfl,hc,hr',_,rfl,?_⟩
   refine ite2 (fun c3=>?_) (fun c3=>?_)
   ·refine ⟨_,rfl,⟨rfl,lo,(((lo:Int)+hi) / 2).toNat,some (.int (((lo:Int)+hi) / 2)),?_,by omega,by omega,l3,fun i x h1 h2=>?_⟩,?_⟩
    ·rw [ek]
     rfl
    ·rcases (by omega:i=(((lo:Int)+hi) / 2).toNat\/(((lo:Int)+hi) / 2).toNat < i) with e | e
     ·rw [e,ex] at h2
      cases h2
      exact c3
     ·exact hmono _ _ _ _ e ex h2 c3
    ·show ((((lo:Int)+hi) / 2) - (lo:Int)).toNat < ((hi:Int) - (lo:Int)).toNat
     omega
   ·refine ⟨_,rfl,_,_,rfl,rfl,⟨rfl,(((lo:Int)+hi) / 2).toNat+1,hi,some (.int (((lo:Int)+hi) / 2)),?_,by omega,l2,fun i x h1 h2=>?_,l4⟩,?_⟩
    ·rw [show (((((lo:Int)+hi) / 2).toNat+1:Nat):Int)=(((lo:Int)+hi) / 2)+1 by omega]
     rfl
    ·have c4:p xs[(((lo:Int)+hi) / 2).toNat]=false:=Bool.eq_false_iff.mpr c3
     rcases (by omega:i=(((lo:Int)+hi) / 2).toNat\/i < (((lo:Int)+hi) / 2).toNat) with e | e
     ·rw [e,ex] at h2
      cases h2
      exact c4
     ·refine Bool.eq_false_iff.mpr fun z=>?_
      have:=hmono _ _ _ _ e h2 ex z
      rw [c4] at this
      cases this
    ·show ((hi:Int) - ((((lo:Int)+hi) / 2)+1)).toNat < ((hi:Int) - (lo:Int)).toNat
     omega
  ·have c2:¬ (lo:Int) < (hi:Int):=fun z=>c1 (decide_eq_true z)
   have e:lo=hi:=by omega
   subst e
   exact ⟨_,rfl,q lo l2 l3 fun x h=>l4 lo x (Nat.le_refl _) h⟩
 ·intro σ H' Q1 Q2 hq z9;obtain ⟨v,e1,v',e2,i,j,e3,e4,k,e5,q1⟩ := z9
  exact ⟨v,e1,v',e2,i,j,e3,e4,k,e5,hq _ _ q1⟩
end
noncomputable def spRidden (P0:Addr) (pos:Pos):Sp:=fun vs H Q _=>∃ (day p qq ride:Int) (po:Addr) (S:List T4) (g:Int->Int),vs=[.int day,.int p,.int qq,.int ride,.ref po]/\LA enc4 H po S/\TabOk H P0 pos (lamQ "ridden")/\S.length<=4000000/\0 < day/\p<=qq/\qq < p+day/\Ma.Rise day g/\Ma.Cov g 0 S day /\
 ∀ (l:Addr) (S':List T4) (H':Hp),SameT P0 H H'->TabOk H' P0 pos (lamQ "ridden")->H l=none->LA enc4 H' l S'->S'.length<=S.length+1->Ma.Cov (fun x=>g (x+ride)) p S' (qq+1)->Q (.ref l) H'
noncomputable abbrev lamR:Expr:=lamIn ((defBody st_ridden).getD 2 (.Pass ⟨0,0,0,0⟩))
theorem sc_lamR (c:Addr):LamScope ["row","hour"] ["row"] (lamSc lamR) [("hour",c)]:=⟨rfl,rfl,rfl,by decide,rfl,by decide +kernel,by decide +kernel,fun _ h=>two_names h,fun x y d h1 h2=>(only_one x d h1).1.trans (only_one y d h2).1.symm⟩
noncomputable def spGR (v:V) (fl c':Addr):Sp:=match v with
 | .int hour=>spFWG enc4 (fun t=>decide (hour<=t.2.1)) fl c' (lamQ "ridden")
 | _=>fun _ _ _ _=>False
section
variable {P:Program} {w:World} {K:PySem.W.Frag} {mg:Str->Option Value} {base:Heap} {f g:Addr} {fd gd:FuncData} {n:Nat}
theorem ok_lamR {v:V} {fl c' cy:Addr} {pm ctv:Value} (FW:Fun K "first_where" "first_where" st_first_where g gd) (B:Bl mg)
  (hfl:base.get? fl=some (PySem.W.kla_obj "<lambda>" (lamQ "ridden") (lamArgs lamR) (lamBody lamR) (lamSc lamR) [("hour",cy)] pm c' ctv)) (hca:Caught base (lamSc lamR) [("hour",cy)] ["row","hour"] ["row"] [v]) :
  FnOk P w K mg base CX0 2 g gd ["clock","holds"] (spGR v fl c'):=by
 cases v with
 | int hour =>
  refine ok_first_whereG (n:=1) (v0 := "row") FW B (lam_ok (k:=0) (N:=["row","hour"]) (cs:=[.int hour]) hfl (fun vs H Q E h=>?_) (sc_lamR cy) hca (fun vs H Q E h=>?_) (fun A outer s H vs Q E hr h=>?_)) (Binds.all fun us hl=>match us,hl with | [_],_=>rfl) ⟨_,_,_,_,hfl⟩
  ·obtain ⟨_,_,_,h,_⟩:=h
   exact h
  ·obtain ⟨_,_,rfl,_⟩:=h
   rfl
  ·obtain ⟨r,t,rfl,hc,hr',q⟩:=h
   refine ⟨_,pe_cmpR op_le (pv 1) (pe_ix ix_tup (pv 0) pe_int (fun _ _=>rfl)) (nomark _),?_⟩
   exact ⟨_,rfl,_,rfl,r,_,_,_,rfl,rfl,SqT.of hr',rfl,_,_,rfl,rfl,q⟩
 | non=>exact none_ok
 | bl b=>exact none_ok
 | str x=>exact none_ok
 | byt b=>exact none_ok
 | flt b=>exact none_ok
 | ref a=>exact none_ok
 | ty n=>exact none_ok
theorem ok_ridden {c P0:Addr} {oc kV doc pm ct:Value} {od an:Option Addr} {osl:Array (Option Value)} (lk:K.lookup f=some ⟨oc,od,.func (PySem.W.fnOf "ridden" "ridden" (defArgs st_ridden) (defBody st_ridden) (defScope st_ridden) .none kV doc pm an (.ref c) ct),osl⟩) (hcd:PySem.W.codeIn K (.ref c) "ridden" = true)
  (B:Bl mg) (hC:PySem.W.CodeHd base c P0) (hB:BMain mg base) (FW:Fun K "first_where" "first_where" st_first_where g gd) (bW:Binds K gd ["clock","holds"] []) (mW:mg "first_where" = some (.ref g)) :
  FnOk P w K mg base CX0 3 f (PySem.W.fnOf "ridden" "ridden" (defArgs st_ridden) (defBody st_ridden) (defScope st_ridden) .none kV doc pm an (.ref c) ct) ["day","p","q","ride","others"] (spRidden P0 ⟨169,28,169,54⟩):=by
 refine fn_of lk hcd sc_ridden (fun vs H Q E h=>?_) (fun A outer s H vs Q E hr h=>?_)
 ·obtain ⟨_,_,_,_,_,_,_,rfl,_⟩:=h
  rfl
 obtain ⟨day,p0,qq,ride,po,S,gg,rfl,hS,tab,hSl,hd,pq,qd,rg,hCv,q⟩:=h
 refine ⟨_,PSs.nox (QSs.run (qss_cons (qs_set (i:=5) sc_ridden.nd rfl (Or.inr rfl) (qe_op qop_mod (qe_op qop_add (qv 1) (qv 3)) (qv 0))) (qss_cons (qs_set (i:=6) sc_ridden.nd rfl (Or.inl rfl) (qe_op qop_sub (qe_op qop_add (qv 1) (qv 3)) (qv 5))) (qss_cons (qs_set (i:=7) sc_ridden.nd rfl (Or.inl rfl) ⟨pe_lamcall (N:=["row","hour"]) (ps:=["row"]) 5 hr rfl mW FW.kp bW rfl rfl hC hB rfl rfl rfl (Or.inr (Or.inl rfl)) rfl rfl rfl only_one rfl rfl (pv 4) (fun base' fl c' v pm ctv hfl hca=>ok_lamR FW B hfl hca)⟩) (qss_cons (qs_set (i:=8) sc_ridden.nd rfl (Or.inl rfl) (qe_lst qa_nil)) (qss_cons (qs_while PassesOwn.never (qt_cmpR qop_le (qv 1) (qv 2) (nomark _)) (qss_cons (qs_set (i:=9) sc_ridden.nd rfl (Or.inl rfl) (qe_cb (qcall_min rfl) rfl B.min bt_min (qa_c (qv 2) (qa_c (qe_op qop_sub (qe_op qop_add (qv 6) (qe_ix qix_tup (qe_ix qix_list (qv 4) (qv 7) (fun _ _=>rfl)) qe_int (fun _ _=>rfl))) (qv 3)) qa_nil)))) (qss_cut (qs_if (qt_val (qe_ix qix_tup (qe_ix qix_list (qv 4) (qv 7) (fun _ _=>rfl)) qe_int (fun _ _=>rfl))) (qss_one (qs_expr (qe_append (qv 8) (qa_c (qe_tup (qa_c (qv 1) (qa_c (qv 9) (qa_c qe_bl (qa_c (qe_op qop_add (qv 6) (qe_ix qix_tup (qe_ix qix_list (qv 4) (qv 7) (fun _ _=>rfl)) qe_int (fun _ _=>rfl))) qa_nil))))) qa_nil)))) (qss_one (qs_expr (qe_append (qv 8) (qa_c (qe_tup (qa_c (qv 1) (qa_c (qv 9) (qa_c qe_bl (qa_c (qe_op qop_add (qv 3) (qe_ix qix_tup (qe_ix qix_list (qv 4) (qv 7) (fun _ _=>rfl)) qe_int (fun _ _=>rfl))) qa_nil))))) qa_nil))))) (qss_cons (qs_set (i:=1) sc_ridden.nd rfl (Or.inl rfl) (qe_op qop_add (qv 9) qe_int)) (qss_cons (qs_aug (i:=7) sc_ridden.nd rfl (Or.inl rfl) ip_add qe_int) (qss_one (qs_if (qt_cmpR qop_eq (qv 7) (qe_cb qcall_len rfl B.len bt_len (qa_c (qv 4) qa_nil)) (nomark _)) (qss_cons (qs_set (i:=7) sc_ridden.nd rfl (Or.inl rfl) qe_int) (qss_one (qs_aug (i:=6) sc_ridden.nd rfl (Or.inl rfl) ip_add (qv 0)))) qss_nil))))))) (qss_one (qs_ret (qv 8))))))))),?_⟩
 try dsimp only [cx_k,cx_kn,as_nil,as_name,Nat.reduceAdd]
 refine ⟨_,rfl,_,rfl,_,_,rfl,rfl,_,rfl,_,_,rfl,rfl,hd,?_⟩
 obtain ⟨qt,eq0,h0,h1⟩:=Ma.split day (p0+ride) hd
 dsimp only
 generalize (p0+ride) % day=hour at *
 refine ⟨_,rfl,_,rfl,_,_,rfl,rfl,_,rfl,_,_,rfl,rfl,?_⟩
 dsimp only
 generalize hm0:p0+ride - hour=mid0
 have em0:mid0=day * qt:=by omega
 refine ⟨_,rfl,_,rfl,tab,fun fl c' H2 sm tb hc'=>?_⟩
 have su:=SameU.tab sm tab tb
 have hS2:=hS.u su
 refine ⟨po,S,rfl,hc',hS2,fun i j x y hij ex ey hp=>?_,fun k0 m1 m2 m3=>?_⟩
 ·have a1:hour<=x.2.1:=of_decide_eq_true hp
  have:=hCv.lt ex ey hij
  have:=(hCv.get ey).2.1
  exact decide_eq_true (by show hour<=y.2.1; omega)
 have hk0:k0 < S.length:=by
  rcases Nat.lt_or_ge k0 S.length with z | z
  ·exact z
  ·exfalso
   obtain ⟨i,r,er,r1,r2⟩:=hCv.find h0 h1
   have hi:=(List.getElem?_eq_some_iff.mp er).1
   have:=of_decide_eq_false (m2 i r (by omega) er)
   omega
 have er0:=List.getElem?_eq_getElem hk0
 generalize hr0:S[k0]=r0 at *
 have r0b:hour<=r0.2.1:=of_decide_eq_true (m3 r0 er0)
 have r0a:r0.1<=hour:=by
  rcases Nat.eq_zero_or_pos k0 with z | z
  ·have:=(hCv.get er0).2.2.2.2.1 z
   omega
  ·have hk:k0 - 1 < S.length:=by omega
   have e1:=List.getElem?_eq_getElem hk
   have:=of_decide_eq_false (m2 (k0 - 1) _ (by omega) e1)
   have:=(hCv.get e1).2.2.2.2.2.1 r0 (by rw [show k0 - 1+1=k0 by omega]; exact er0)
   omega
 refine ⟨(by show 0<=sizeLine; decide),fun pr hpr=>?_⟩
 have sr:Same H2 (upd H2 pr (.lst [])):=same_new hpr _
 refine while_by (fun σ H'=>∃ (S':List T4) (p m:Int) (k:Nat) (v:Option V),σ=[some (.int day),some (.int p),some (.int qq),some (.int ride),some (.ref po),some (.int hour),some (.int m),some (.int k),some (.ref pr),v] /\
   Same H2 H'/\LA enc4 H' pr S'/\Ma.Cov (fun x=>gg (x+ride)) p0 S' p/\p<=qq+1/\S'.length<=S.length+1 /\
   (p<=qq->(∃ kk,m=day * kk)/\(∃ r,S[k]?=some r/\m+r.1<=p+ride/\p+ride<=m+r.2.1)/\((m=mid0/\S'.length+k0=k)\/(m=mid0+day/\S'.length+k0=S.length+k/\k<=k0))))
  (fun σ _=>match σ with | [_,some (.int p),_,_,_,_,_,_,_,_]=>(qq+1 - p).toNat | _=>0) ?_ ?_ ?_
 ·exact ⟨[],p0,mid0,k0,none,rfl,sr,LA.nil upd_same,rfl,by omega,by simp,fun _=>⟨⟨qt,em0⟩,⟨r0,er0,by omega,by omega⟩,.inl ⟨rfl,by simp⟩⟩⟩
 ·intro σ H3 z9;obtain ⟨S',p,m,k,v,rfl,s3,hS',cv,pl,sl,hin⟩ := z9
  refine ⟨_,rfl,_,rfl,_,_,rfl,rfl,_,rfl,?_⟩
  refine ite2 (fun c=>?_) (fun c=>?_)
  ·have c':p<=qq:=of_decide_eq_true c
   obtain ⟨⟨kk,em⟩,⟨r,er,x1,x2⟩,hw⟩:=hin c'
   obtain ⟨g1,g2,g3,g4,g5,g6,g7⟩:=hCv.get er
   have hkS:=(List.getElem?_eq_some_iff.mp er).1
   obtain ⟨us,u1,u2,u3⟩:=(hS2.same s3).at (K:=K)
   obtain ⟨ra,ua,ub⟩:=u3 k _ er
   refine ⟨_,rfl,_,rfl,_,rfl,_,rfl,po,_,_,_,rfl,rfl,SqL.of u1,ua,ra,_,_,_,rfl,rfl,SqT.of ub,rfl,_,_,rfl,rfl,_,rfl,_,_,rfl,rfl,_,_,rfl,?_⟩
   generalize he:(if m+r.2.1 - ride < qq then m+r.2.1 - ride else qq)=e
   have e1:p<=e:=by rw [<- he]; split <;> omega
   have e2:e<=qq:=by rw [<- he]; split <;> omega
   have e3:e+ride<=m+r.2.1:=by rw [<- he]; split <;> omega
   have e4:e < qq->e+ride=m+r.2.1:=by rw [<- he]; split <;> omega
   have rc:=Ma.ride_cov rg em e1 x1 e3 g4
   obtain ⟨vs,v1,v2,v3⟩:=hS'.lst
   refine ⟨fun σ' H'=>σ'=[some (.int day),some (.int p),some (.int qq),some (.int ride),some (.ref po),some (.int hour),some (.int m),some (.int k),some (.ref pr),some (.int e)]/\Same H2 H'/\LA enc4 H' pr (S' ++ [Ma.rideRow p e m ride r]),?_,?_⟩
   ·refine ⟨_,rfl,_,rfl,po,_,_,_,rfl,rfl,SqL.of u1,ua,ra,_,_,_,rfl,rfl,SqT.of ub,rfl,_,rfl,?_⟩
    unfold Ma.rideRow
    refine ite2 (fun z=>?_) (fun z=>?_)
    ·rw [if_pos z]
     refine ⟨_,rfl,.inl ⟨rfl,_,SqL.of v1⟩,_,rfl,_,rfl,_,rfl,_,rfl,_,rfl,po,_,_,_,rfl,rfl,SqL.of u1,ua,ra,_,_,_,rfl,rfl,SqT.of ub,rfl,_,_,rfl,rfl,(by show 4<=sizeLine; decide),fun rn hrn=>?_⟩
     have s4:=same_new hrn (.tup [.int p,.int e,.bl true,.int (m+r.2.2.2)])
     exact ⟨pr,vs,.ref rn,rfl,rfl,s4 _ _ v1,line_of (by omega),rfl,same_wr hpr (s3.trans s4),(hS'.same s4).append (x:=(p,e,true,m+r.2.2.2)) (s4 _ _ v1) upd_same⟩
    ·rw [if_neg z]
     refine ⟨_,rfl,.inl ⟨rfl,_,SqL.of v1⟩,_,rfl,_,rfl,_,rfl,_,rfl,_,rfl,po,_,_,_,rfl,rfl,SqL.of u1,ua,ra,_,_,_,rfl,rfl,SqT.of ub,rfl,_,_,rfl,rfl,(by show 4<=sizeLine; decide),fun rn hrn=>?_⟩
     have s4:=same_new hrn (.tup [.int p,.int e,.bl false,.int (ride+r.2.2.2)])
     exact ⟨pr,vs,.ref rn,rfl,rfl,s4 _ _ v1,line_of (by omega),rfl,same_wr hpr (s3.trans s4),(hS'.same s4).append (x:=(p,e,false,ride+r.2.2.2)) (s4 _ _ v1) upd_same⟩
   intro σ' H4 z9;obtain ⟨rfl,s4,hS4⟩ := z9
   refine ⟨_,rfl,_,_,rfl,rfl,?_⟩
   refine ⟨_,rfl,_,_,rfl,rfl,?_⟩
   obtain ⟨us,u1,u2,u3⟩:=(hS2.same s4).at (K:=K)
   have cv4:=cv.append rc
   have sl4:(S' ++ [Ma.rideRow p e m ride r]).length<=S.length+1:=by
    rw [List.length_append,List.length_singleton]
    rcases hw with ⟨_,z⟩ | ⟨_,z,z2⟩ <;> omega
   have ek:((k:Int)+1)=(((k+1:Nat)):Int):=by omega
   have nxt:∀ (m':Int) (k':Nat),(k+1 < S.length->m'=m/\k'=k+1)->(k+1=S.length->m'=m+day/\k'=0)->(e+1<=qq->(∃ kk,m'=day * kk)/\(∃ r,S[k']?=some r/\m'+r.1<=e+1+ride/\e+1+ride<=m'+r.2.1)/\((m'=mid0/\(S' ++ [Ma.rideRow p e m ride r]).length+k0=k')\/(m'=mid0+day/\(S' ++ [Ma.rideRow p e m ride r]).length+k0=S.length+k'/\k'<=k0))):=by
    intro m' k' ha hb lt
    have e5:=e4 (by omega)
    rw [List.length_append,List.length_singleton]
    rcases (by omega:k+1 < S.length\/k+1=S.length) with z | z
    ·obtain ⟨rfl,rfl⟩:=ha z
     have en:=List.getElem?_eq_getElem z
     have q1:=g6 _ en
     have q2:=(hCv.get en).2.1
     refine ⟨⟨kk,em⟩,⟨_,en,by omega,by omega⟩,?_⟩
     rcases hw with ⟨y1,y2⟩ | ⟨y1,y2,y3⟩
     ·exact .inl ⟨y1,by omega⟩
     ·refine .inr ⟨y1,by omega,?_⟩
      rcases (by omega:k < k0\/k=k0) with y | y
      ·omega
      ·exfalso
       have er':=er
       rw [y,er0] at er'
       cases er'
       omega
    ·obtain ⟨rfl,rfl⟩:=hb z
     have q1:=g7 z
     have hn0:0 < S.length:=by omega
     have en:=List.getElem?_eq_getElem hn0
     have q2:=(hCv.get en).2.2.2.2.1 rfl
     have q3:=(hCv.get en).2.1
     refine ⟨⟨kk+1,by rw [em,Int.mul_add,Int.mul_one]⟩,⟨_,en,by omega,by omega⟩,?_⟩
     rcases hw with ⟨y1,y2⟩ | ⟨y1,y2,y3⟩
     ·exact .inr ⟨by omega,by omega,Nat.zero_le _⟩
     ·exfalso
      have y:k=k0:=by omega
      have er':=er
      rw [y,er0] at er'
      cases er'
      omega
   dsimp only
   rw [ek]
   refine ⟨_,rfl,_,rfl,po,_,rfl,.inl (SqL.of u1),rfl,_,rfl,?_⟩
   refine ite2 (fun z=>?_) (fun z=>?_)
   ·have z':=of_decide_eq_true z
    injection z' with z'
    refine ⟨_,rfl,_,rfl,_,_,rfl,rfl,⟨_,e+1,m+day,0,_,rfl,s4,hS4,cv4,by omega,sl4,nxt (m+day) 0 (fun y=>by omega) fun _=>⟨rfl,rfl⟩⟩,?_⟩
    show (qq+1 - (e+1)).toNat < (qq+1 - p).toNat
    omega
   ·have z':¬ (((k+1:Nat)):Int)=((us.length:Nat):Int):=fun y=>z (decide_eq_true (by rw [y]))
    refine ⟨⟨_,e+1,m,k+1,_,rfl,s4,hS4,cv4,by omega,sl4,nxt m (k+1) (fun _=>⟨rfl,rfl⟩) fun y=>by omega⟩,?_⟩
    show (qq+1 - (e+1)).toNat < (qq+1 - p).toNat
    omega
  ·have c':¬ p<=qq:=fun z=>c (decide_eq_true z)
   have e:p=qq+1:=by omega
   subst e
   have fr:H pr=none:=by
    cases eh:H pr with
    | none=>rfl
    | some o =>
     by_cases zp:pr=P0
     ·obtain ⟨ps,hp,_⟩:=tb
      rw [zp,hp] at hpr
      cases hpr
     ·rw [sm _ _ eh zp] at hpr
      cases hpr
   exact ⟨_,rfl,q pr S' H3 (SameT.trans sm (SameT.same s3)) (TabOk.same tb s3) fr hS' sl cv⟩
 ·intro σ H' Q1 Q2 hq z9;obtain ⟨v,e1,v',e2,i,j,e3,e4,k,e5,q1⟩ := z9
  exact ⟨v,e1,v',e2,i,j,e3,e4,k,e5,hq _ _ q1⟩
end
noncomputable def spRiddenT (T:Hp->Prop):Sp:=fun vs H Q _=>∃ (day p qq ride:Int) (po:Addr) (S:List T4) (g:Int->Int),vs=[.int day,.int p,.int qq,.int ride,.ref po]/\LA enc4 H po S/\T H/\S.length<=4000000/\0 < day/\p<=qq/\qq < p+day/\Ma.Rise day g/\Ma.Cov g 0 S day /\
 ∀ (l:Addr) (S':List T4) (H':Hp),SameU H H'->T H'->H l=none->LA enc4 H' l S'->S'.length<=S.length+1->Ma.Cov (fun x=>g (x+ride)) p S' (qq+1)->Q (.ref l) H'
theorem ridden_T {P:Program} {w:World} {K:PySem.W.Frag} {mg:Str->Option Value} {base:Heap} {n:Nat} {T:Hp->Prop} {P0:Addr} {pos:Pos} (C:Callee P w K mg base n "ridden" ["day","p","q","ride","others"] (spRidden P0 pos)) (h1:∀ H,T H->TabOk H P0 pos (lamQ "ridden"))
  (h2:∀ H H',T H->SameT P0 H H'->TabOk H' P0 pos (lamQ "ridden")->T H'):Callee P w K mg base n "ridden" ["day","p","q","ride","others"] (spRiddenT T):=Callee.imp C fun vs H Q E h=>by
 obtain ⟨day,p,qq,ride,po,S,g,rfl,hS,hT,a1,a2,a3,a4,a5,a6,q⟩:=h
 exact ⟨day,p,qq,ride,po,S,g,rfl,hS,h1 H hT,a1,a2,a3,a4,a5,a6,fun l S' H' sm tb=>q l S' H' (SameU.tab sm (h1 H hT) tb) (h2 H H' hT sm tb)⟩
noncomputable def spBehind (T:Hp->Prop):Sp:=fun vs H Q _=>∃ (day:Int) (p1 p2:Addr) (R1 R2:List T3),vs=[.int day,.ref p1,.ref p2]/\LA enc3 H p1 R1/\LA enc3 H p2 R2/\T H/\R1.length<=1900000/\R2.length<=1900000/\(2 * R1.length+1) * (2 * R2.length+2)<=16000000/\Ma.CK day R1/\Ma.CK day R2 /\
 ∀ (l:Addr) (R:List T3) (H':Hp),SameU H H'->T H'->H l=none->LA enc3 H' l R->R.length<=(2 * R1.length+1) * (2 * R2.length+2)->Ma.CK day R->(∀ t,Ma.bt day R t=Ma.obind (Ma.bt day R1) (Ma.bt day R2) t)->Q (.ref l) H'
section
variable {P:Program} {w:World} {K:PySem.W.Frag} {mg:Str->Option Value} {base:Heap} {f:Addr} {fd:FuncData} {n:Nat} {T:Hp->Prop}
theorem ok_behind (hTB:TB T) (F:Fun K "behind" "behind" st_behind f fd) (B:Bl mg) (C_stretches:Callee P w K mg base n "stretches" ["day","clock"] spStretches) (C_come:Callee P w K mg base n "come" ["day","clock","t"] (spComeT T)) (C_ridden:Callee P w K mg base n "ridden" ["day","p","q","ride","others"] (spRiddenT T))
  (C_clock_from:Callee P w K mg base n "clock_from" ["day","rows"] spClockFrom):FnOk P w K mg base CX0 (n+1) f fd ["day","one","other"] (spBehind T):=by
 refine F.okQ sc_behind (fun vs H Q E h=>?_) (fun cdv A outer s H vs Q E hr h=>?_)
 ·obtain ⟨_,_,_,_,_,rfl,_⟩:=h
  rfl
 obtain ⟨day,p1,p2,R1,R2,rfl,hR1,hR2,hT,hl1,hl2,hl3,ck1,ck2,q⟩:=h
 refine ⟨_,(qss_cons (qs_if (qt_cut (QW.pt (qw_or (qt_cmpR qop_eq (qe_cb qcall_len rfl B.len bt_len (qa_c (qv 1) qa_nil)) qe_int (nomark _)) (qw_or1 (qt_cmpR qop_eq (qe_cb qcall_len rfl B.len bt_len (qa_c (qv 2) qa_nil)) qe_int (nomark _)))))) (qss_one (qs_ret (qe_lst qa_nil))) qss_nil) (qss_cons (qs_set (i:=3) sc_behind.nd rfl (Or.inl rfl) (qe_fn C_stretches hr rfl (qa_c (qv 0) (qa_c (qv 2) qa_nil)))) (qss_cons (qs_set (i:=4) sc_behind.nd rfl (Or.inl rfl) (qe_lst qa_nil)) (qss_cons (qs_for PassesOwn.never rfl (qi_list (qe_fn C_stretches hr rfl (qa_c (qv 0) (qa_c (qv 1) qa_nil)))) (qg_tup rfl (qgs_cons (qg_name (i:=5) sc_behind.nd rfl (Or.inl rfl)) (qgs_cons (qg_name (i:=6) sc_behind.nd rfl (Or.inl rfl)) (qgs_cons (qg_name (i:=7) sc_behind.nd rfl (Or.inl rfl)) (qgs_cons (qg_name (i:=8) sc_behind.nd rfl (Or.inl rfl)) qgs_nil))))) (qss_one (qs_if (qt_val (qv 7)) (qss_one (qs_expr (qe_append (qv 4) (qa_c (qe_tup (qa_c (qv 5) (qa_c (qv 6) (qa_c qe_bl (qa_c (qe_fn C_come hr rfl (qa_c (qv 0) (qa_c (qv 2) (qa_c (qv 8) qa_nil)))) qa_nil))))) qa_nil)))) (qss_one (qs_expr (qe_extend (qv 4) (qa_c (qe_fn C_ridden hr rfl (qa_c (qv 0) (qa_c (qv 5) (qa_c (qv 6) (qa_c (qv 8) (qa_c (qv 3) qa_nil)))))) qa_nil))))))) (qss_one (qs_ret (qe_fn C_clock_from hr rfl (qa_c (qv 0) (qa_c (qv 4) qa_nil))))))))),?_⟩
 try dsimp only [cx_k,cx_kn,as_nil,as_name,Nat.reduceAdd]
 obtain ⟨us,hu1,hu2,hu3⟩:=hR1.lst
 obtain ⟨ws,hw1,hw2,hw3⟩:=hR2.lst
 refine ⟨fun b H'=>H'=H/\b=decide (R1=[]\/R2=[]),?_,?_⟩
 ·refine ⟨_,rfl,p1,_,rfl,.inl (SqL.of hu1),rfl,_,rfl,?_⟩
  refine ite2 (fun c=>?_) (fun c=>?_)
  ·have c':=of_decide_eq_true c
   injection c' with c'
   have e:R1=[]:=List.length_eq_zero_iff.mp (by omega)
   exact ⟨rfl,by simp [e]⟩
  ·have n1:R1 ≠ []:=fun e=>c (decide_eq_true (by rw [hu2,e]; rfl))
   refine ⟨_,rfl,p2,_,rfl,.inl (SqL.of hw1),rfl,_,rfl,rfl,?_⟩
   rw [hw2]
   cases R2 with
   | nil=>simp
   | cons x r=>simp [n1]; omega
 intro b H1 z9;obtain ⟨rfl,rfl⟩ := z9
 refine ite2 (fun c=>?_) (fun c=>?_)
 ·have c':=of_decide_eq_true c
  refine ⟨(by show 0<=sizeLine; decide),fun l hl=>?_⟩
  refine q l [] _ (SameU.of (same_new hl _)) (hTB.same _ _ hT (same_new hl _)) hl (LA.nil upd_same) (by simp) (Ma.ck_nil ck1.d0) fun t=>?_
  unfold Ma.obind
  rcases c' with e | e
  ·rw [e]; rfl
  ·rw [e,Ma.bt_nil]; cases Ma.bt day R1 t <;> rfl
 have c':¬ (R1=[]\/R2=[]):=fun z=>c (decide_eq_true z)
 have T1:=Ma.tells_bf (d:=day) (fun e=>c' (.inl e))
 have T2:=Ma.tells_bf (d:=day) (fun e=>c' (.inr e))
 have rf:=ck1.rise T1
 have rg:=ck2.rise T2
 have C1:=Ma.str_cov ck1 T1
 have C2:=Ma.str_cov ck2 T2
 have b1:=Ma.strOf_len day R1
 have b2:=Ma.strOf_len day R2
 have hd:=ck1.d0
 refine ⟨_,rfl,_,rfl,day,p2,R2,rfl,hR2,by omega,fun l2 H2 s2 f2 hS2=>?_⟩
 refine ⟨(by show 0<=sizeLine; decide),fun pr hpr=>?_⟩
 have s3:Same H2 (upd H2 pr (.lst [])):=same_new hpr _
 have s13:=s2.trans s3
 refine ⟨_,rfl,_,rfl,day,p1,R1,rfl,hR1.same s13,by omega,fun l1 H4 s4 f4 hS1=>?_⟩
 have er4:H4 pr=some (.lst []):=s4 _ _ upd_same
 have n1:l1 ≠ pr:=fun e=>by rw [e,upd_same] at f4; cases f4
 have s14:=s13.trans s4
 have hS2:=(hS2.same s3).same s4
 have n2:l2 ≠ pr:=fun e=>by
  have h:=s2.free hpr
  obtain ⟨vs,z,_⟩:=hS2.lst
  rw [e,er4] at z
  cases z
  obtain ⟨vs',z',_⟩:=(show LA enc4 H2 l2 (Ma.strOf day R2) from by assumption).lst
  rw [e,hpr] at z'
  cases z'
 have hR2:=(hR2.same s14)
 have np2:p2 ≠ pr:=fun e=>by
  have z:=s2 _ _ hw1
  rw [e,hpr] at z
  cases z
 have hT4:=hTB.same _ _ hT s14
 have hfr:H1 pr=none:=s2.free hpr
 clear s3 f4 f2
 generalize Ma.strOf day R1=S1 at *
 generalize Ma.strOf day R2=S2 at *
 generalize Ma.bf day R1=f1 at *
 generalize Ma.bf day R2=f2 at *
 obtain ⟨xs,hx1,hx2,hx3⟩:=hS1.lst
 have hrow:∀ {α:Type} {enc:α->List V} {l:Addr} {ys:List α} {H':Hp},LA enc H4 l ys->l ≠ pr->(∀ b o,H4 b=some o->b ≠ pr->(∀ z,o ≠ .tbl z)->H' b=some o)->LA enc H' l ys:=fun {α enc l ys H'} h nl st=>by
  obtain ⟨rs,h1,h2,h3⟩:=h.ex
  refine ⟨rs,st _ _ h1 nl (fun _ z=>nomatch z),h2,fun i r x e e'=>?_⟩
  have h4:=h3 i r x e e'
  exact st _ _ h4 (fun z=>by rw [z,er4] at h4; cases h4) (fun _ z=>nomatch z)
 refine ⟨l1,rfl,⟨_,SqL.of hx1⟩,for_list (K:=K) (a:=l1) (xs:=xs)
  (fun i σ H'=>∃ (S:List T4) (at_:Int) (v1 v2 v3 v4:Option V),σ=[some (.int day),some (.ref p1),some (.ref p2),some (.ref l2),some (.ref pr),v1,v2,v3,v4]/\SameU H1 H'/\T H'/\(∀ b o,H4 b=some o->b ≠ pr->(∀ z,o ≠ .tbl z)->H' b=some o)/\LA enc4 H' pr S/\S.length<=i * (S2.length+1)/\Ma.Cov (fun x=>f2 (f1 x)) 0 S at_/\(∀ r,S1[i]?=some r->r.1=at_)/\(i=S1.length->at_=day))
  ⟨[],0,_,_,_,_,rfl,SameU.of s14,hT4,fun b o e _ _=>e,LA.nil er4,by simp,rfl,fun r e=>(C1.get e).2.2.2.2.1 rfl,fun e=>?_⟩
  (fun i σ H' _ ⟨_,_,_,_,_,_,_,_,_,s1,_⟩=>SqL.of (s1 _ _ hx1 n1 (fun _ z=>nomatch z))) ?_ ?_⟩
 ·rw [List.length_eq_zero_iff.mp e.symm] at C1
  exact C1
 ·intro i y σ H5 hi z9;obtain ⟨S,at_,v1,v2,v3,v4,rfl,sU,t5,st,hS,hSl,hC,hat,_⟩ := z9
  obtain ⟨r,x,rfl,ex,er⟩:=hx3 i y hi
  have e1:=hat x ex
  obtain ⟨g1,g2,g3,g4,g5,g6,g7⟩:=C1.get ex
  have nr:r ≠ pr:=fun z=>by rw [z,er4] at er; cases er
  have er5:=st _ _ er nr (fun _ z=>nomatch z)
  have hi2:i < S1.length:=(List.getElem?_eq_some_iff.mp ex).1
  obtain ⟨xp,xq,xs',xv⟩:=x
  have e1':xp=at_:=e1
  subst e1'
  have g2':xp<=xq:=g2
  have g3':xq < day:=g3
  have g1':0<=xp:=g1
  have g4':∀ x,xp<=x->x<=xq->f1 x=if xs'=true then xv else x+xv:=g4
  obtain ⟨vs,hv1,hv2,hv3⟩:=hS.lst
  have bnd:(i+1) * (S2.length+1)<=16000000:=by
   have:(i+1) * (S2.length+1)<=(2 * R1.length+1) * (2 * R2.length+2):=Nat.mul_le_mul (by omega) (by omega)
   omega
  rw [Nat.succ_mul] at bnd
  refine ⟨r,_,rfl,SqT.of er5,rfl,_,_,rfl,_,_,rfl,_,_,rfl,_,_,rfl,rfl,?_⟩
  refine ⟨_,rfl,_,rfl,?_⟩
  cases xs' with
  | true =>
   refine iteT ⟨_,rfl,.inl ⟨rfl,_,SqL.of hv1⟩,_,rfl,_,rfl,_,rfl,_,rfl,_,rfl,day,p2,xv,R2,rfl,hrow hR2 np2 st,t5,ck2,fun H6 u6 t6=>?_⟩
   rw [T2 xv]
   refine ⟨(by show 4<=sizeLine; decide),fun rn hrn=>?_⟩
   have s7:=same_new hrn (.tup [.int xp,.int xq,.bl true,.int (f2 xv)])
   have u7:=u6.trans (SameU.of s7)
   have hv7:=u7.lst hv1
   refine ⟨pr,vs,.ref rn,rfl,rfl,hv7,line_of (by omega),?_⟩
   have cr:Ma.Cov (fun x=>f2 (f1 x)) xp [(xp,xq,true,f2 xv)] (xq+1):=Ma.Cov.one (r:=(xp,xq,true,f2 xv)) g2' fun x x0 x1=>by
    have:=g4' x x0 x1
    rw [if_pos rfl] at this
    show f2 (f1 x)=f2 xv
    rw [this]
   refine ⟨_,_,_,_,_,_,rfl,SameU.wr hfr (sU.trans u7),hTB.wr _ _ _ _ (hTB.same _ _ t6 s7) hv7,fun b o e nb nt=>?_,((hS.u u6).same s7).append (x:=(xp,xq,true,f2 xv)) hv7 upd_same,?_,hC.append cr,fun r' e'=>g6 r' e',fun e=>g7 e⟩
   ·rw [upd_ne nb]
    exact u7.1 _ _ (st _ _ e nb nt) nt
   ·rw [List.length_append,List.length_singleton,Nat.succ_mul]
    omega
  | false =>
   refine iteF ⟨_,rfl,.inl ⟨rfl,_,SqL.of hv1⟩,_,rfl,_,rfl,_,rfl,_,rfl,_,rfl,day,xp,xq,xv,l2,S2,f2,rfl,hrow hS2 n2 st,t5,by omega,hd,g2',by omega,rg,C2,fun l S' H6 u6 t6 fl hS' hSl' cr=>?_⟩
   obtain ⟨zs,hz1,hz2,hz3⟩:=hS'.lst
   have hv6:=u6.lst hv1
   refine ⟨pr,l,vs,zs,rfl,rfl,hv6,hz1,Nat.le_of_lt (line_of (by omega)),?_⟩
   have cr':Ma.Cov (fun x=>f2 (f1 x)) xp S' (xq+1):=by
    refine Ma.Cov.congr (fun x x0 x1=>?_) cr
    have:=g4' x x0 (by omega)
    rw [if_neg (by decide)] at this
    show f2 (x+xv)=f2 (f1 x)
    rw [this]
   refine ⟨_,_,_,_,_,_,rfl,SameU.wr hfr (sU.trans u6),hTB.wr _ _ _ _ t6 hv6,fun b o e nb nt=>?_,(hS.u u6).extend hS' hv6 hz1,?_,hC.append cr',fun r' e'=>g6 r' e',fun e=>g7 e⟩
   ·rw [upd_ne nb]
    exact u6.1 _ _ (st _ _ e nb nt) nt
   ·rw [List.length_append,Nat.succ_mul]
    omega
 ·intro σ H5 z9;obtain ⟨S,at_,v1,v2,v3,v4,rfl,sU,t5,st,hS,hSl,hC,hat,hend⟩ := z9
  have e:=hend hx2
  subst e
  rw [hx2] at hSl
  have bnd:S1.length * (S2.length+1)<=(2 * R1.length+1) * (2 * R2.length+2):=Nat.mul_le_mul b1 (by omega)
  have rc:=Ma.rise_comp rf rg
  refine ⟨_,rfl,_,rfl,at_,pr,S,_,rfl,hS,by omega,hd,rc,hC,fun l R H6 s6 fl hR hRl can=>?_⟩
  refine q l R H6 (sU.trans (SameU.of s6)) (hTB.same _ _ t5 s6) (sU.free fl) hR (by omega) (can.ck hd rc) fun t=>?_
  rw [can.tells hd rc t]
  unfold Ma.obind
  rw [T1 t]
  exact (T2 _).symm
end
noncomputable abbrev RdT:=Int × Int × Addr × List T3
noncomputable def keyN (m:RdT):Int × Int × Addr:=(m.1,m.2.1,m.2.2.1)
noncomputable def encK (k:Int × Int × Addr):List V:=[.int k.1,.int k.2.1,.ref k.2.2]
noncomputable def datN (m:RdT):PyData:=.tuple [.int m.1,.int m.2.1,datB m.2.2.2]
structure NA (H:Hp) (p:Addr) (N:List RdT):Prop where
 la:LA encK H p (N.map keyN)
 bd:∀ m∈N,LA enc3 H m.2.2.1 m.2.2.2/\m.2.2.1 ≠ p
 nd:(N.map fun m=>m.2.2.1).Nodup
section
variable {K:PySem.W.Frag} {H H':Hp} {p r b:Addr} {N:List RdT} {s e:Int} {vs us:List V}
theorem NA.nil (h:H p=some (.lst [])):NA H p []:=⟨LA.nil h,(fun m hm=>by cases hm),List.Pairwise.nil⟩
theorem NA.mono (h:NA H p N) (s:∀ b o,H b=some o->(∀ z,o ≠ .tbl z)->H' b=some o):NA H' p N:=⟨h.la.mono s,fun m hm=>⟨(h.bd m hm).1.mono s,(h.bd m hm).2⟩,h.nd⟩
theorem NA.same (h:NA H p N) (s:Same H H'):NA H' p N:=h.mono fun b o e _=>s b o e
theorem NA.fresh (h:NA H p N) (fb:H b=none):b ≠ p/\b ∉ N.map fun m=>m.2.2.1:=by
 refine ⟨fun z=>?_,fun hm=>?_⟩
 ·obtain ⟨vs,h1,_⟩:=h.la.lst
  rw [<- z,fb] at h1
  cases h1
 ·obtain ⟨m,hm',e⟩:=List.mem_map.mp hm
  obtain ⟨vs,h1,_⟩:=(h.bd m hm').1.lst
  rw [e,fb] at h1
  cases h1
theorem NA.snoc (h:NA H p N) (fb:b ≠ p/\b ∉ N.map fun m=>m.2.2.1) (hx:H p=some (.lst vs)) (hb:H b=some (.lst [])) (hr:H r=some (.tup [.int s,.int e,.ref b])):NA (upd H p (.lst (vs ++ [.ref r]))) p (N ++ [(s,e,b,[])]):=by
 refine ⟨?_,fun m hm=>?_,?_⟩
 ·rw [List.map_append]
  exact h.la.append (x:=(s,e,b)) hx hr
 ·rcases List.mem_append.mp hm with hm | hm
  ·obtain ⟨h1,h2⟩:=h.bd m hm
   exact ⟨la_clear h1 hx h2,h2⟩
  ·rw [List.mem_singleton] at hm
   subst hm
   exact ⟨LA.nil (by rw [upd_ne fb.1]; exact hb),fb.1⟩
 ·rw [List.map_append]
  refine List.nodup_append.mpr ⟨h.nd,by simp,fun x hx y hy=>?_⟩
  simp only [List.map_cons,List.map_nil,List.mem_singleton] at hy
  subst hy
  exact fun z=>fb.2 (z ▸ hx)
theorem NA.push {x:T3} {R:List T3} (h:NA H p (N ++ [(s,e,b,R)])) (hb:H b=some (.lst us)) (hr:H r=some (.tup (enc3 x))):NA (upd H b (.lst (us ++ [.ref r]))) p (N ++ [(s,e,b,R ++ [x])]):=by
 have hl:=h.bd (s,e,b,R) (by simp)
 have nd:=h.nd
 rw [List.map_append] at nd
 obtain ⟨nd1,_,nd2⟩:=List.nodup_append.mp nd
 refine ⟨?_,fun m hm=>?_,?_⟩
 ·have:=la_clear (ys:=us ++ [.ref r]) h.la hb (Ne.symm hl.2)
  rw [List.map_append] at this ⊢
  exact this
 ·rcases List.mem_append.mp hm with hm | hm
  ·obtain ⟨h1,h2⟩:=h.bd m (List.mem_append_left _ hm)
   exact ⟨la_clear h1 hb (nd2 _ (List.mem_map.mpr ⟨m,hm,rfl⟩) _ (by simp)),h2⟩
  ·rw [List.mem_singleton] at hm
   subst hm
   exact ⟨hl.1.append (x:=x) hb hr,hl.2⟩
 ·have:=h.nd
  rw [List.map_append] at this ⊢
  exact this
theorem NA.rd (h:NA H p N):RdV K H (.ref p) (.list (N.map datN)):=by
 obtain ⟨rs,h1,h2,h3⟩:=h.la.ex
 refine .lst (SqL.of h1) ?_
 have go:∀ (rs:List Addr) (N:List RdT),rs.length=N.length->(∀ (i:Nat) r x,rs[i]?=some r->(N.map keyN)[i]?=some x->H r=some (.tup (encK x)))->(∀ m∈N,LA enc3 H m.2.2.1 m.2.2.2)->RdAll K H (rs.map V.ref) (N.map datN):=by
  intro rs
  induction rs with
  | nil =>
   intro N hl _ _
   cases N with
   | nil=>exact .nil
   | cons x N=>cases hl
  | cons r rs ih =>
   intro N hl g gb
   cases N with
   | nil=>cases hl
   | cons m N=>exact .cons (.tup (SqT.of (g 0 r (keyN m) rfl rfl)) (.cons (.int _) (.cons (.int _) (.cons (rd3 (gb m (by simp))) .nil)))) (ih N (by simpa using hl) (fun i r' x' e1 e2=>g (i+1) r' x' (by simpa using e1) (by simpa using e2)) fun m' hm'=>gb m' (List.mem_cons_of_mem _ hm'))
 exact go rs N (by rw [h2,List.length_map]) h3 fun m hm=>(h.bd m hm).1
theorem shapedN (N:List RdT):SeqAt.shaped (.list (N.map datN))=true:=shaped_map (n:=5) (fun x=>by
  have:=canB x.2.2.2
  simp [datN,PyData.canLay0,PyData.canLayAll0,this]) (fun x=>by
  have:=depB x.2.2.2
  simp only [datN,PyData.depth,PyData.depthAll]
  omega) (by decide) N
theorem NA.last {R:List T3} (h:NA H p (N ++ [(s,e,b,R)])):∃ (vs:List V) (r:Addr),H p=some (.lst vs)/\atI vs (-1)=some (.ref r)/\H r=some (.tup [.int s,.int e,.ref b]):=by
 obtain ⟨vs,hv1,hv2,hv3⟩:=h.la.lst
 have vl:vs.length=N.length+1:=by rw [hv2]; simp
 have vne:vs ≠ []:=fun e=>by rw [e] at vl; simp at vl
 obtain ⟨r,x,e1,e2,e3⟩:=hv3 N.length _ (List.getElem?_eq_getElem (by omega))
 have e2':(s,e,b)=x:=by simpa [keyN] using e2
 subst e2'
 exact ⟨vs,r,hv1,by rw [atI_last vne,show vs.length - 1=N.length by omega,List.getElem?_eq_getElem (by omega),e1],e3⟩
end
noncomputable def spSize:Sp:=fun vs H Q _=>∃ c:Int,vs=[.int c]/\∀ (v:Int) (H':Hp),1<=v->v<=4->Same H H'->Q (.int v) H'
noncomputable def spRoadWin:Sp:=fun vs H Q _=>∃ day one two three:Int,vs=[.int day,.int one,.int two,.int three]/\1<=day/\day<=1000000000000000 /\
 ∀ (r:Addr) (H':Hp) (a b c:Int),Same H H'->H' r=some (.tup (enc3 (a,b,c)))->0<=a->a<=b->b < day->1<=c->c<=1000000000000000->Q (.ref r) H'
noncomputable def RoadsIn (day size:Int) (N:List RdT):Prop:=∀ m∈N,(0<=m.1/\m.1 < size)/\(0<=m.2.1/\m.2.1 < size)/\m.2.2.2.length<=16/\∀ w∈m.2.2.2,0<=w.1/\w.1<=w.2.1/\w.2.1 < day/\1<=w.2.2/\w.2.2<=1000000000000000
noncomputable def NFr (H:Hp) (N:List RdT):Prop:=∀ m∈N,H m.2.2.1=none
theorem NFr.snoc {H:Hp} {N:List RdT} {m:RdT} (h:NFr H N) (e:H m.2.2.1=none):NFr H (N ++ [m]):=fun x hx=>by
 rcases List.mem_append.mp hx with hx | hx
 ·exact h x hx
 ·rw [List.mem_singleton] at hx
  subst hx
  exact e
noncomputable def spNet6 (K:PySem.W.Frag):Sp:=fun vs H Q _=>∃ (day size goal:Int) (pc:Addr) (ms:List Int),vs=[.int day,.int size,.int goal,.ref pc]/\SqL K H pc (ms.map V.int)/\ms.length<=63/\1<=day/\day<=1000000000000000/\1<=size /\
 ∀ (l:Addr) (N:List RdT) (H':Hp),Same H H'->H l=none->NA H' l N->NFr H N->RoadsIn day size N->N.length<=16->4 * N.length<=ms.length->(∀ m∈N,4 * m.2.2.2.length<=ms.length)->Q (.ref l) H'
theorem size4 {j:Int} (h0:0<=j) (h1:j < 4):∃ v:Int,atI [V.int 3,V.int 4,V.int 2,V.int 1] j=some (.int v)/\1<=v/\v<=4:=by
 rcases (by omega:j=0\/j=1\/j=2\/j=3) with rfl | rfl | rfl | rfl
 all_goals exact ⟨_,rfl,by decide,by decide⟩
theorem menu4 {a b c e j:Int} (h0:0<=j) (h1:j < 4):∃ v:Int,atI [V.int a,V.int b,V.int c,V.int e] j=some (.int v)/\(v=a\/v=b\/v=c\/v=e):=by
 rcases (by omega:j=0\/j=1\/j=2\/j=3) with rfl | rfl | rfl | rfl
 ·exact ⟨_,rfl,.inl rfl⟩
 ·exact ⟨_,rfl,.inr (.inl rfl)⟩
 ·exact ⟨_,rfl,.inr (.inr (.inl rfl))⟩
 ·exact ⟨_,rfl,.inr (.inr (.inr rfl))⟩
section
variable {P:Program} {w:World} {K:PySem.W.Frag} {mg:Str->Option Value} {base:Heap} {f:Addr} {fd:FuncData} {n:Nat}
theorem ok_size (F:Fun K "_law_size" "_law_size" st__law_size f fd):FnOk P w K mg base CX0 (n+1) f fd ["cell"] spSize:=by
 refine F.okQ sc__law_size (fun vs H Q E h=>?_) (fun cdv A outer s H vs Q E hr h=>?_)
 ·obtain ⟨_,rfl,_⟩:=h
  rfl
 obtain ⟨c,rfl,q⟩:=h
 refine ⟨_,(qss_one (qs_ret (qe_ix qix_list (qe_lst (qa_c qe_int (qa_c qe_int (qa_c qe_int (qa_c qe_int qa_nil))))) (qe_op qop_mod (qv 0) qe_int) (fun _ _=>rfl)))),?_⟩
 try dsimp only [cx_k,cx_kn,as_nil,as_name,Nat.reduceAdd]
 refine ⟨(by show 4<=sizeLine; decide),fun p hp=>?_⟩
 obtain ⟨v,hv,v1,v2⟩:=size4 (j:=c % 4) (Int.emod_nonneg _ (by decide)) (Int.emod_lt_of_pos _ (by decide))
 refine ⟨_,rfl,_,_,rfl,rfl,(by show (0:Int) < 4; decide),p,_,_,.int v,rfl,rfl,SqL.of upd_same,hv,?_⟩
 exact q v _ v1 v2 (same_new hp _)
theorem ok_roadwin (F:Fun K "_law_road_window" "_law_road_window" st__law_road_window f fd) (B:Bl mg):FnOk P w K mg base CX0 (n+1) f fd ["day","one","two","three"] spRoadWin:=by
 refine F.okQ sc__law_road_window (fun vs H Q E h=>?_) (fun cdv A outer s H vs Q E hr h=>?_)
 ·obtain ⟨_,_,_,_,rfl,_⟩:=h
  rfl
 obtain ⟨day,one,two,three,rfl,d1,d2,q⟩:=h
 refine ⟨_,(qss_cons (qs_set (i:=4) sc__law_road_window.nd rfl (Or.inl rfl) (qe_op qop_mod (qe_op qop_fdivB (qv 1) qe_int) (qv 0))) (qss_cut (qs_if (qt_cmpR qop_eq (qe_op qop_mod (qv 1) qe_int) qe_int (nomark _)) (qss_one (qs_set (i:=4) sc__law_road_window.nd rfl (Or.inl rfl) (qe_op qop_mod (qe_op qop_fdivB (qv 1) qe_int) (qe_cb (qcall_min rfl) rfl B.min bt_min (qa_c (qv 0) (qa_c qe_int qa_nil)))))) qss_nil) (qss_cons (qs_set (i:=5) sc__law_road_window.nd rfl (Or.inl rfl) (qe_op qop_fdivB (qv 2) qe_int)) (qss_cons (qs_set (i:=6) sc__law_road_window.nd rfl (Or.inl rfl) (qe_op qop_add (qv 4) (qe_ix qix_list (qe_lst (qa_c qe_int (qa_c (qe_cb (qcall_min rfl) rfl B.min bt_min (qa_c (qe_op qop_mod (qv 5) qe_int) (qa_c (qe_op qop_sub (qe_op qop_sub (qv 0) qe_int) (qv 4)) qa_nil))) (qa_c (qe_op qop_mod (qv 5) (qe_op qop_sub (qv 0) (qv 4))) (qa_c (qe_op qop_sub (qe_op qop_sub (qv 0) qe_int) (qv 4)) qa_nil))))) (qe_op qop_mod (qv 2) qe_int) (fun _ _=>rfl)))) (qss_cons (qs_set (i:=5) sc__law_road_window.nd rfl (Or.inl rfl) (qe_op qop_fdivB (qv 3) qe_int)) (qss_cons (qs_set (i:=7) sc__law_road_window.nd rfl (Or.inl rfl) (qe_ix qix_list (qe_lst (qa_c (qe_op qop_add qe_int (qe_op qop_mod (qv 5) qe_int)) (qa_c (qe_op qop_add qe_int (qe_op qop_mod (qv 5) (qv 0))) (qa_c (qe_op qop_add qe_int (qe_op qop_mod (qv 5) (qe_op qop_pow qe_int qe_int))) (qa_c (qe_cb (qcall_min rfl) rfl B.min bt_min (qa_c (qe_op qop_pow qe_int qe_int) (qa_c (qe_op qop_mul (qv 0) (qe_op qop_add qe_int (qe_op qop_mod (qv 5) qe_int))) qa_nil))) qa_nil))))) (qe_op qop_mod (qv 3) qe_int) (fun _ _=>rfl))) (qss_one (qs_ret (qe_tup (qa_c (qv 4) (qa_c (qv 6) (qa_c (qv 7) qa_nil)))))))))))),?_⟩
 try dsimp only [cx_k,cx_kn,as_nil,as_name,Nat.reduceAdd]
 have hd:0 < day:=by omega
 refine ⟨_,rfl,_,_,rfl,rfl,⟨by decide,by decide⟩,_,rfl,_,_,rfl,rfl,hd,?_⟩
 refine ⟨fun σ' H'=>H'=H/\∃ a:Int,0<=a/\a < day/\σ'=[some (.int day),some (.int one),some (.int two),some (.int three),some (.int a),none,none,none],?_,?_⟩
 ·refine ⟨_,rfl,_,_,rfl,rfl,(by show (0:Int) < 2; decide),rfl,_,rfl,ite2 (fun _=>?_) (fun _=>⟨rfl,_,(emod_b _ hd).1,(emod_b _ hd).2,rfl⟩)⟩
  have hm:0 < (if (3:Int) < day then (3:Int) else day)/\(if (3:Int) < day then (3:Int) else day)<=day:=by split <;> omega
  refine ⟨_,rfl,_,_,rfl,rfl,⟨by decide,by decide⟩,_,rfl,_,_,rfl,_,_,rfl,rfl,hm.1,rfl,_,(emod_b _ hm.1).1,?_,rfl⟩
  have:=(emod_b (one / 2) hm.1).2
  omega
 intro σ' H z9;obtain ⟨rfl,a,a0,a1,rfl⟩ := z9
 refine ⟨_,rfl,_,_,rfl,rfl,⟨by decide,by decide⟩,?_⟩
 dsimp only
 generalize two / 4=rest
 refine ⟨_,rfl,_,rfl,_,_,rfl,rfl,(by show (0:Int) < 4; decide),_,rfl,_,_,rfl,rfl,_,rfl,_,_,rfl,rfl,_,_,rfl,_,rfl,_,rfl,_,rfl,_,_,rfl,rfl,_,_,rfl,rfl,(by show 0 < day - a; omega),_,rfl,_,_,rfl,rfl,_,rfl,_,_,rfl,rfl,(by show 4<=sizeLine; decide),fun p hp=>?_⟩
 dsimp only
 have r4:=emod_b rest (show (0:Int) < 4 by decide)
 have rd:=emod_b rest (show (0:Int) < day - a by omega)
 have hx:0<=(if day - 1 - a < rest % 4 then day - 1 - a else rest % 4)/\(if day - 1 - a < rest % 4 then day - 1 - a else rest % 4)<=day - 1 - a:=by split <;> omega
 generalize (if day - 1 - a < rest % 4 then day - 1 - a else rest % 4)=x at *
 generalize rest % (day - a)=y at *
 generalize hgH1:upd _ p _=H1
 obtain ⟨s1,e1⟩:=fresh_of hp hgH1
 clear hgH1
 obtain ⟨v,hv,vv⟩:=menu4 (a:=0) (b:=x) (c:=y) (e:=day - 1 - a) (j:=two % 4) (Int.emod_nonneg _ (by decide)) (Int.emod_lt_of_pos _ (by decide))
 refine ⟨_,rfl,_,_,rfl,rfl,(by show (0:Int) < 4; decide),p,_,_,.int v,rfl,rfl,SqL.of e1,hv,_,_,rfl,rfl,?_⟩
 dsimp only
 have hb:a<=a+v/\a+v < day:=by omega
 generalize a+v=b at *
 refine ⟨_,rfl,_,_,rfl,rfl,⟨by decide,by decide⟩,?_⟩
 dsimp only
 generalize three / 4=rest3
 refine ⟨_,rfl,_,_,rfl,rfl,(by show (0:Int) < 3; decide),_,_,rfl,rfl,_,rfl,_,rfl,_,_,rfl,rfl,hd,_,_,rfl,rfl,_,rfl,_,_,rfl,rfl,⟨by decide,by decide,by decide⟩,_,_,rfl,rfl,(by show (0:Int) < 10 ^ (15:Int).toNat; decide),_,_,rfl,rfl,_,_,rfl,rfl,⟨by decide,by decide,by decide⟩,_,rfl,_,rfl,_,_,rfl,rfl,(by show (0:Int) < 3; decide),_,_,rfl,rfl,_,_,rfl,rfl,.inl ⟨by omega,by omega⟩,_,_,rfl,(by show 4<=sizeLine; decide),fun p2 hp2=>?_⟩
 dsimp only
 have t3:=emod_b rest3 (show (0:Int) < 3 by decide)
 have td:=emod_b rest3 hd
 have tb:=emod_b rest3 (show (0:Int) < 10 ^ (15:Int).toNat by decide)
 have hm:1<=day * (1+rest3 % 3):=by
  have:=Int.mul_le_mul d1 (show 1<=1+rest3 % 3 by omega) (by decide) (by omega)
  omega
 have hw:1<=(if day * (1+rest3 % 3) < (10:Int) ^ (15:Int).toNat then day * (1+rest3 % 3) else (10:Int) ^ (15:Int).toNat)/\(if day * (1+rest3 % 3) < (10:Int) ^ (15:Int).toNat then day * (1+rest3 % 3) else (10:Int) ^ (15:Int).toNat)<=1000000000000000:=by
  split
  ·rename_i z
   exact ⟨hm,Int.le_of_lt (by rw [pow15] at z; exact z)⟩
  ·rw [pow15]; decide
 generalize (if day * (1+rest3 % 3) < (10:Int) ^ (15:Int).toNat then day * (1+rest3 % 3) else (10:Int) ^ (15:Int).toNat)=x4 at *
 generalize rest3 % (10:Int) ^ (15:Int).toNat=x3 at *
 rw [pow15] at tb
 generalize rest3 % 3=x1 at *
 generalize rest3 % day=x2 at *
 generalize hgH2:upd _ p2 _=H2
 obtain ⟨s2,e2⟩:=fresh_of hp2 hgH2
 clear hgH2
 obtain ⟨c,hc,cc⟩:=menu4 (a:=1+x1) (b:=1+x2) (c:=1+x3) (e:=x4) (j:=three % 4) (Int.emod_nonneg _ (by decide)) (Int.emod_lt_of_pos _ (by decide))
 refine ⟨_,rfl,_,_,rfl,rfl,(by show (0:Int) < 4; decide),p2,_,_,.int c,rfl,rfl,SqL.of e2,hc,?_⟩
 refine ⟨_,rfl,_,rfl,_,rfl,(by show 3<=sizeLine; decide),fun rr hrr=>?_⟩
 generalize hgH3:upd _ rr _=H3
 obtain ⟨s3,e3⟩:=fresh_of hrr hgH3
 clear hgH3
 exact q rr H3 a b c ((s1.trans s2).trans s3) e3 a0 hb.1 hb.2 (by omega) (by omega)
theorem ok_net6 (F:Fun K "_law_net" "_law_net" st__law_net f fd) (B:Bl mg) (C_law_road_window:Callee P w K mg base n "_law_road_window" ["day","one","two","three"] spRoadWin):FnOk P w K mg base CX0 (n+1) f fd ["day","size","goal","cells"] (spNet6 K):=by
 refine F.okQ sc__law_net (fun vs H Q E h=>?_) (fun cdv A outer s H vs Q E hr h=>?_)
 ·obtain ⟨_,_,_,_,_,rfl,_⟩:=h
  rfl
 obtain ⟨day,size,goal,pc,ms,rfl,hS,h63,d1,d2,sz,q⟩:=h
 refine ⟨_,(qss_cons (qs_set (i:=4) sc__law_net.nd rfl (Or.inl rfl) (qe_lst qa_nil)) (qss_cons (qs_for PassesOwn.never rfl (qi_range3 rfl B.range (qa_c qe_int (qa_c (qe_op qop_sub (qe_cb qcall_len rfl B.len bt_len (qa_c (qv 3) qa_nil)) qe_int) (qa_c qe_int qa_nil)))) (qg_name (i:=5) sc__law_net.nd rfl (Or.inl rfl)) (qss_cons (qs_set (i:=6) sc__law_net.nd rfl (Or.inl rfl) (qe_ix qix_list (qv 3) (qv 5) (fun _ _=>rfl))) (qss_cut (qs_if (qt_cut (QW.pt (qw_and (qt_cmpR qop_lt (qe_op qop_fdivB (qv 5) qe_int) (qe_op qop_sub (qv 1) qe_int) (nomark _)) (qw_and1 (qt_cmpR qop_gt (qe_op qop_mod (qv 6) qe_int) qe_int (nomark _)))))) (qss_one (qs_expr (qe_append (qv 4) (qa_c (qe_tup (qa_c (qe_op qop_mod (qe_op qop_add (qe_op qop_add (qv 2) (qe_op qop_fdivB (qv 5) qe_int)) qe_int) (qv 1)) (qa_c (qe_op qop_mod (qe_op qop_add (qv 2) (qe_op qop_fdivB (qv 5) qe_int)) (qv 1)) (qa_c (qe_lst qa_nil) qa_nil)))) qa_nil)))) (qss_one (qs_if (qt_cut (QW.pt (qw_or (qt_cmpR (qop_eqD hr.units) (qv 4) (qe_lst qa_nil) (nomark _)) (qw_or1 (qt_cmpR qop_lt (qe_op qop_mod (qv 6) qe_int) qe_int (nomark _)))))) (qss_cons (qs_set (i:=7) sc__law_net.nd rfl (Or.inl rfl) (qe_op qop_mod (qe_op qop_fdivB (qv 6) qe_int) (qv 1))) (qss_one (qs_expr (qe_append (qv 4) (qa_c (qe_tup (qa_c (qv 7) (qa_c (qe_op qop_mod (qe_op qop_add (qe_op qop_add (qv 7) qe_int) (qe_op qop_fdivB (qv 6) qe_int)) (qv 1)) (qa_c (qe_lst qa_nil) qa_nil)))) qa_nil))))) qss_nil))) (qss_one (qs_if (qt_cmpR qop_ne (qe_op qop_mod (qe_op qop_fdivB (qv 6) qe_int) qe_int) qe_int (nomark _)) (qss_one (qs_expr (qe_append (qe_ix qix_tup (qe_ix qix_list (qv 4) (qe_neg qe_int) (fun _ _=>rfl)) qe_int (fun _ _=>rfl)) (qa_c (qe_fn C_law_road_window hr rfl (qa_c (qv 0) (qa_c (qe_ix qix_list (qv 3) (qe_op qop_add (qv 5) qe_int) (fun _ _=>rfl)) (qa_c (qe_ix qix_list (qv 3) (qe_op qop_add (qv 5) qe_int) (fun _ _=>rfl)) (qa_c (qe_ix qix_list (qv 3) (qe_op qop_add (qv 5) qe_int) (fun _ _=>rfl)) qa_nil))))) qa_nil)))) qss_nil))))) (qss_one (qs_ret (qv 4))))),?_⟩
 try dsimp only [cx_k,cx_kn,as_nil,as_name,Nat.reduceAdd]
 have hsz:0 < size:=by omega
 refine ⟨(by show 0<=sizeLine; decide),fun pr hpr=>?_⟩
 generalize hgH1:upd _ pr _=H1
 obtain ⟨s1,e1⟩:=fresh_of hpr hgH1
 clear hgH1
 have hl:(ms.map V.int).length=ms.length:=List.length_map _
 refine ⟨_,rfl,pc,_,rfl,.inl (s1.seq hS),_,_,rfl,rfl,?_⟩
 have hcn:∀ i,i < cnt3 0 ((((ms.map V.int).length:Nat):Int) - 3) 4->0+(i:Int) * 4 < (((ms.map V.int).length:Nat):Int) - 3:=fun i hi'=>cnt3_lt (by decide) hi'
 have hcl:cnt3 0 ((((ms.map V.int).length:Nat):Int) - 3) 4<=16:=by
  rcases Nat.eq_zero_or_pos (cnt3 0 ((((ms.map V.int).length:Nat):Int) - 3) 4) with z | z
  ·omega
  ·have:=hcn (cnt3 0 ((((ms.map V.int).length:Nat):Int) - 3) 4 - 1) (by omega)
   omega
 have hc4:4 * cnt3 0 ((((ms.map V.int).length:Nat):Int) - 3) 4<=ms.length:=by
  rcases Nat.eq_zero_or_pos (cnt3 0 ((((ms.map V.int).length:Nat):Int) - 3) 4) with z | z
  ·omega
  ·have:=hcn (cnt3 0 ((((ms.map V.int).length:Nat):Int) - 3) 4 - 1) (by omega)
   omega
 refine ⟨0,(((ms.map V.int).length:Nat):Int) - 3,4,rfl,⟨by decide,by decide,by omega,by omega,by decide,by decide⟩,for_range3 (lo:=0) (st:=4) (n:=cnt3 0 ((((ms.map V.int).length:Nat):Int) - 3) 4)
  (fun i σ H'=>∃ (N:List RdT) (v1 v2 v3:Option V),σ=[some (.int day),some (.int size),some (.int goal),some (.ref pc),some (.ref pr),v1,v2,v3]/\Same H H'/\NA H' pr N/\NFr H N/\RoadsIn day size N/\N.length<=i/\∀ m∈N,m.2.2.2.length<=i)
  ⟨[],_,_,_,rfl,s1,NA.nil e1,(fun m hm=>by cases hm),(fun m hm=>by cases hm),Nat.le_refl _,fun m hm=>by cases hm⟩ ?_ ?_⟩
 ·intro i σ H2 hi z9;obtain ⟨N,v1,v2,v3,rfl,s2,hN,hfr,hIn,hl2,hl3⟩ := z9
  have hk:=hcn i hi
  obtain ⟨k,hkk⟩:∃ k:Nat,0+(i:Int) * 4=(k:Int):=⟨i * 4,by omega⟩
  rw [hkk] at hk ⊢
  obtain ⟨c0,hc0⟩:=at_int (ns:=ms) (k:=(k:Int)) (by omega) (by omega)
  refine ⟨_,rfl,_,rfl,pc,_,_,_,rfl,rfl,s2.seq hS,hc0,?_⟩
  refine ⟨fun σ' H'=>∃ (N:List RdT) (s e:Int) (b:Addr) (R:List T3) (v3:Option V),σ'=[some (.int day),some (.int size),some (.int goal),some (.ref pc),some (.ref pr),some (.int (k:Int)),some (.int c0),v3]/\Same H H'/\NA H' pr (N ++ [(s,e,b,R)])/\NFr H (N ++ [(s,e,b,R)])/\RoadsIn day size (N ++ [(s,e,b,R)])/\N.length<=i/\∀ m∈N ++ [(s,e,b,R)],m.2.2.2.length<=i,?_,?_⟩
  ·have addR:∀ (H3:Hp) (vs:List V) (s e:Int) (b r:Addr),Same H H3->NA H3 pr N->(b ≠ pr/\b ∉ N.map fun m=>m.2.2.1)->H3 pr=some (.lst vs)->H3 b=some (.lst [])->H b=none->H3 r=some (.tup [.int s,.int e,.ref b])->0<=s->s < size->0<=e->e < size->∀ v3,∃ (N:List RdT) (s e:Int) (b':Addr) (R:List T3) (v3':Option V),
     [some (V.int day),some (.int size),some (.int goal),some (.ref pc),some (.ref pr),some (.int (k:Int)),some (.int c0),v3]=[some (.int day),some (.int size),some (.int goal),some (.ref pc),some (.ref pr),some (.int (k:Int)),some (.int c0),v3']/\Same H (upd H3 pr (.lst (vs ++ [.ref r])))/\NA (upd H3 pr (.lst (vs ++ [.ref r]))) pr (N ++ [(s,e,b',R)])/\NFr H (N ++ [(s,e,b',R)])/\RoadsIn day size (N ++ [(s,e,b',R)])/\N.length<=i/\∀ m∈N ++ [(s,e,b',R)],m.2.2.2.length<=i:=by
    intro H3 vs s e b r s3 hN3 fb hx hb hb0 hr' s0 s1 e0 e1 v3
    refine ⟨N,s,e,b,[],v3,rfl,same_wr hpr s3,hN3.snoc fb hx hb hr',hfr.snoc hb0,fun m hm=>?_,hl2,fun m hm=>?_⟩
    ·rcases List.mem_append.mp hm with hm | hm
     ·exact hIn m hm
     ·rw [List.mem_singleton] at hm
      subst hm
      exact ⟨⟨s0,s1⟩,⟨e0,e1⟩,by simp,fun w hw=>by cases hw⟩
    ·rcases List.mem_append.mp hm with hm | hm
     ·exact hl3 m hm
     ·rw [List.mem_singleton] at hm
      subst hm
      simp
   obtain ⟨vs,hv1,hv2,_⟩:=hN.la.lst
   rw [List.length_map] at hv2
   refine ⟨fun b H'=>H'=H2,?_,?_⟩
   ·refine ⟨_,rfl,_,_,rfl,rfl,⟨by decide,by decide⟩,_,rfl,_,_,rfl,rfl,_,_,rfl,rfl,_,rfl,ite2 (fun _=>?_) (fun _=>rfl)⟩
    exact ⟨_,rfl,_,_,rfl,rfl,(by show (0:Int) < 5; decide),_,_,rfl,rfl,_,rfl,rfl⟩
   rintro b H2 rfl
   refine ite2 (fun _=>?_) (fun _=>?_)
   ·refine ⟨_,rfl,.inl ⟨rfl,_,SqL.of hv1⟩,_,rfl,_,rfl,_,_,rfl,rfl,⟨by decide,by decide⟩,_,_,rfl,rfl,_,_,rfl,rfl,_,rfl,_,_,rfl,rfl,hsz,_,rfl,_,rfl,_,_,rfl,rfl,⟨by decide,by decide⟩,_,_,rfl,rfl,_,rfl,_,_,rfl,rfl,hsz,(by show 0<=sizeLine; decide),fun pb hpb=>?_⟩
    have fb:=hN.fresh hpb
    generalize hgH3:upd _ pb _=H3
    obtain ⟨s3,e3⟩:=fresh_of hpb hgH3
    clear hgH3
    refine ⟨(by show 3<=sizeLine; decide),fun rr hrr=>?_⟩
    generalize hgH4:upd _ rr _=H4
    obtain ⟨s4,e4⟩:=fresh_of hrr hgH4
    clear hgH4
    refine ⟨pr,_,.ref rr,rfl,rfl,s4 _ _ (s3 _ _ hv1),line_of (by omega),?_⟩
    exact addR H4 vs _ _ pb rr ((s2.trans s3).trans s4) ((hN.same s3).same s4) fb (s4 _ _ (s3 _ _ hv1)) (s4 _ _ e3) (s2.free hpb) e4 (emod_b _ hsz).1 (emod_b _ hsz).2 (emod_b _ hsz).1 (emod_b _ hsz).2 _
   refine ⟨fun b H'=>Same H2 H'/\(b=false->N ≠ []),?_,?_⟩
   ·refine ⟨_,rfl,(by show 0<=sizeLine; decide),fun p3 hp3=>?_⟩
    generalize hgH3:upd _ p3 _=H3
    obtain ⟨s3,e3⟩:=fresh_of hp3 hgH3
    clear hgH3
    refine ⟨_,_,(hN.same s3).rd,.lst (SqL.of e3) .nil,shapedN _,shaped_nil0,_,rfl,?_⟩
    rw [eqvAll_nil,List.length_map]
    refine ite2 (fun _=>⟨s3,fun e=>by cases e⟩) (fun z=>?_)
    refine ⟨_,rfl,_,_,rfl,rfl,(by show (0:Int) < 3; decide),_,_,rfl,rfl,_,rfl,s3,fun _ e=>z (decide_eq_true (by rw [e]; rfl))⟩
   intro b H3 z9;obtain ⟨s3,hb⟩ := z9
   have hN3:=hN.same s3
   have hv3:=s3 _ _ hv1
   refine ite2 (fun _=>?_) (fun z=>?_)
   ·refine ⟨_,rfl,_,_,rfl,rfl,⟨by decide,by decide⟩,_,rfl,_,_,rfl,rfl,hsz,?_⟩
    dsimp only
    have st:=emod_b (c0 / 3) hsz
    generalize c0 / 3 % size=start at *
    refine ⟨_,rfl,.inl ⟨rfl,_,SqL.of hv3⟩,_,rfl,_,rfl,_,_,rfl,rfl,_,rfl,_,_,rfl,rfl,⟨by decide,by decide⟩,_,_,rfl,rfl,_,rfl,_,_,rfl,rfl,hsz,(by show 0<=sizeLine; decide),fun pb hpb=>?_⟩
    have fb:=hN3.fresh hpb
    generalize hgH4:upd _ pb _=H4
    obtain ⟨s4,e4⟩:=fresh_of hpb hgH4
    clear hgH4
    refine ⟨(by show 3<=sizeLine; decide),fun rr hrr=>?_⟩
    generalize hgH5:upd _ rr _=H5
    obtain ⟨s5,e5⟩:=fresh_of hrr hgH5
    clear hgH5
    refine ⟨pr,_,.ref rr,rfl,rfl,s5 _ _ (s4 _ _ hv3),line_of (by omega),?_⟩
    exact addR H5 vs _ _ pb rr (((s2.trans s3).trans s4).trans s5) ((hN3.same s4).same s5) fb (s5 _ _ (s4 _ _ hv3)) (s5 _ _ e4) ((s2.trans s3).free hpb) e5 st.1 st.2 (emod_b _ hsz).1 (emod_b _ hsz).2 _
   ·have n0:=hb (by cases b with
     | false=>rfl
     | true=>exact absurd rfl z)
    rcases List.eq_nil_or_concat N with e | ⟨N0,⟨s,e,b',R⟩,rfl⟩
    ·exact absurd e n0
    ·rw [List.concat_eq_append] at hN3 hIn hl2 hl3 hfr
     exact ⟨N0,s,e,b',R,_,rfl,s2.trans s3,hN3,hfr,hIn,by simp at hl2; omega,hl3⟩
  clear hN hIn hl2 hl3 s2 v3 hfr
  intro σ' H2 z9;obtain ⟨N,s,e,b,R,v3,rfl,s2,hN,hfr,hIn,hl2,hl3⟩ := z9
  have done:∀ H3,Same H H3->NA H3 pr (N ++ [(s,e,b,R)])->∃ (N:List RdT) (v1 v2 v3':Option V),[some (V.int day),some (.int size),some (.int goal),some (.ref pc),some (.ref pr),some (.int (k:Int)),some (.int c0),v3]=[some (.int day),some (.int size),some (.int goal),some (.ref pc),some (.ref pr),v1,v2,v3']/\Same H H3/\NA H3 pr N/\NFr H N/\RoadsIn day size N/\N.length<=i+1/\∀ m∈N,m.2.2.2.length<=i+1:=fun H3 s3 h3 =>
   ⟨_,_,_,_,rfl,s3,h3,hfr,hIn,by simp; omega,fun m hm=>Nat.le_succ_of_le (hl3 m hm)⟩
  refine ⟨_,rfl,_,_,rfl,rfl,⟨by decide,by decide⟩,_,_,rfl,rfl,(by show (0:Int) < 7; decide),rfl,_,rfl,ite2 (fun _=>?_) (fun _=>done H2 s2 hN)⟩
  obtain ⟨vs,r,hv1,at1,er⟩:=hN.last
  have hb:=hN.bd (s,e,b,R) (by simp)
  obtain ⟨us,hu1,hu2,_⟩:=hb.1.lst
  obtain ⟨c1,hc1⟩:=at_int (ns:=ms) (k:=(k:Int)+1) (by omega) (by omega)
  obtain ⟨c2,hc2⟩:=at_int (ns:=ms) (k:=(k:Int)+2) (by omega) (by omega)
  obtain ⟨c3,hc3⟩:=at_int (ns:=ms) (k:=(k:Int)+3) (by omega) (by omega)
  have hS2:=s2.seq hS
  refine ⟨_,rfl,_,rfl,pr,_,_,_,rfl,rfl,SqL.of hv1,at1,r,_,_,_,rfl,rfl,SqT.of er,rfl,.inl ⟨rfl,_,SqL.of hu1⟩,_,rfl,_,rfl,_,rfl,_,_,rfl,rfl,pc,_,_,_,rfl,rfl,hS2,hc1,_,rfl,_,rfl,_,_,rfl,rfl,pc,_,_,_,rfl,rfl,hS2,hc2,_,rfl,_,rfl,_,_,rfl,rfl,pc,_,_,_,rfl,rfl,hS2,hc3,day,c1,c2,c3,rfl,d1,d2,fun r2 H3 wa wb wc s3 tw w0 w1 w2 w3 w4=>?_⟩
  have hl4:=hl3 (s,e,b,R) (by simp)
  dsimp only at hl4 hu2
  refine ⟨b,us,.ref r2,rfl,rfl,s3 _ _ hu1,line_of (by omega),?_⟩
  have fb:H b=none:=hfr (s,e,b,R) (by simp)
  refine ⟨N ++ [(s,e,b,R ++ [(wa,wb,wc)])],_,_,_,rfl,same_wr fb (s2.trans s3),(hN.same s3).push (s3 _ _ hu1) tw,fun m hm=>?_,fun m hm=>?_,by simp; omega,fun m hm=>?_⟩
  ·rcases List.mem_append.mp hm with hm | hm
   ·exact hfr m (List.mem_append_left _ hm)
   ·rw [List.mem_singleton] at hm
    subst hm
    exact fb
  ·rcases List.mem_append.mp hm with hm | hm
   ·exact hIn m (List.mem_append_left _ hm)
   ·rw [List.mem_singleton] at hm
    subst hm
    obtain ⟨i1,i2,i3,i4⟩:=hIn (s,e,b,R) (by simp)
    refine ⟨i1,i2,by simp; omega,fun w hw=>?_⟩
    rcases List.mem_append.mp hw with hw | hw
    ·exact i4 w hw
    ·rw [List.mem_singleton] at hw
     subst hw
     exact ⟨w0,w1,w2,w3,w4⟩
  ·rcases List.mem_append.mp hm with hm | hm
   ·exact Nat.le_succ_of_le (hl3 m (List.mem_append_left _ hm))
   ·rw [List.mem_singleton] at hm
    subst hm
    simp
    omega
 ·intro σ H2 z9;obtain ⟨N,v1,v2,v3,rfl,s2,hN,hfr,hIn,hl2,hl3⟩ := z9
  exact ⟨_,rfl,q pr N H2 s2 hpr hN hfr hIn (by omega) (by omega) fun m hm=>by have:=hl3 m hm; omega⟩
end
noncomputable def numV (count:Int):V->Bool
 | .int i=>decide (0<=i) && decide (i < count)
 | _=>false
noncomputable def posW (H:Hp) (x:V):Bool:=match tupV H x with
 | some [_,_,.int c]=>decide (0 < c)
 | _=>false
noncomputable def posB (H:Hp) (x:V):Bool:=match lstV H x with
 | some ws=>ws.all (posW H)
 | none=>false
noncomputable def roadL (H:Hp) (day size:Int):List V->Bool
 | [s,e,b]=>numV size s && (numV size e && (boardV H day b && posB H b))
 | _=>false
noncomputable def roadV (H:Hp) (day size:Int) (x:V):Bool:=match tupV H x with
 | some xs=>roadL H day size xs
 | none=>false
noncomputable def netV (H:Hp) (day:Int) (size roads:V):Bool:=match size with
 | .int n=>decide (1<=n) && (match lstV H roads with
  | some xs=>xs.all (roadV H day n)
  | none=>false)
 | _=>false
noncomputable def DvR (H:Hp) (x:V):Prop:=Dv H x/\∀ zs,tupV H x=some zs->∀ z∈zs,Dv3 H z
noncomputable def DvN (H:Hp) (x:V):Prop:=Dv H x/\∀ xs,lstV H x=some xs->xs.length<=1000/\∀ y∈xs,DvR H y
theorem Dv3.same {H H':Hp} {x:V} (h:Dv3 H x) (s:Same H H'):Dv3 H' x:=⟨h.1.same s,fun xs e=>by
 rw [h.1.lstV_same s] at e
 exact ⟨(h.2 xs e).1,fun y hy=>((h.2 xs e).2 y hy).same s⟩⟩
theorem DvR.same {H H':Hp} {x:V} (h:DvR H x) (s:Same H H'):DvR H' x:=⟨h.1.same s,fun xs e=>by
 rw [h.1.tupV_same s] at e
 exact fun y hy=>(h.2 xs e y hy).same s⟩
theorem Dv3.boardV_same {H H':Hp} {x:V} (h:Dv3 H x) (s:Same H H') (day:Int):boardV H' day x=boardV H day x:=by
 unfold boardV
 rw [h.1.lstV_same s]
 cases e:lstV H x with
 | none=>rfl
 | some xs =>
  rw [Bool.eq_iff_iff,List.all_eq_true,List.all_eq_true]
  exact ⟨fun z y hy=>by rw [<- ((h.2 xs e).2 y hy).1.winV_same s day]; exact z y hy,fun z y hy=>by rw [((h.2 xs e).2 y hy).1.winV_same s day]; exact z y hy⟩
theorem Dv2.posW_same {H H':Hp} {x:V} (h:Dv2 H x) (s:Same H H'):posW H' x=posW H x:=by
 unfold posW
 rw [h.1.tupV_same s]
theorem Dv3.posB_same {H H':Hp} {x:V} (h:Dv3 H x) (s:Same H H'):posB H' x=posB H x:=by
 unfold posB
 rw [h.1.lstV_same s]
 cases e:lstV H x with
 | none=>rfl
 | some xs =>
  rw [Bool.eq_iff_iff,List.all_eq_true,List.all_eq_true]
  exact ⟨fun z y hy=>by rw [<- ((h.2 xs e).2 y hy).posW_same s]; exact z y hy,fun z y hy=>by rw [((h.2 xs e).2 y hy).posW_same s]; exact z y hy⟩
theorem DvR.roadV_same {H H':Hp} {x:V} (h:DvR H x) (s:Same H H') (day size:Int):roadV H' day size x=roadV H day size x:=by
 unfold roadV
 rw [h.1.tupV_same s]
 cases e:tupV H x with
 | none=>rfl
 | some xs =>
  have hz:=h.2 xs e
  show roadL H' day size xs=roadL H day size xs
  unfold roadL
  split
  ·rw [(hz _ (by simp)).boardV_same s,(hz _ (by simp)).posB_same s]
  ·rfl
theorem winV_three {H:Hp} {day:Int} {x:V} (h:winV H day x=true):∃ (r:Addr) (a b c:Int),x=.ref r/\H r=some (.tup [.int a,.int b,.int c]):=by
 unfold winV at h
 split at h
 ·rename_i xs e
  obtain ⟨r,rfl,er⟩:=tupV_at e
  unfold winL at h
  split at h
  ·exact ⟨r,_,_,_,rfl,er⟩
  ·cases h
 ·cases h
noncomputable def spNumber:Sp:=fun vs H Q _=>∃ (count:Int) (x:V),vs=[.int count,x]/\Dv H x/\Q (.bl (numV count x)) H
noncomputable def spRoad:Sp:=fun vs H Q _=>∃ (day size:Int) (x:V),vs=[.int day,.int size,x]/\DvR H x/\∀ H',Same H H'->Q (.bl (roadV H day size x)) H'
noncomputable def spIsNet:Sp:=fun vs H Q _=>∃ (day:Int) (size x:V),vs=[.int day,size,x]/\Dv H size/\DvN H x/\∀ H',Same H H'->Q (.bl (netV H day size x)) H'
section
variable {P:Program} {w:World} {K:PySem.W.Frag} {mg:Str->Option Value} {base:Heap} {f:Addr} {fd:FuncData} {n:Nat}
theorem ok_is_number (F:Fun K "is_number" "is_number" st_is_number f fd) (C_is_whole:Callee P w K mg base n "is_whole" ["thing"] spIsWhole):FnOk P w K mg base CX0 (n+1) f fd ["count","thing"] spNumber:=by
 refine F.okQ sc_is_number (fun vs H Q E h=>?_) (fun cdv A outer s H vs Q E hr h=>?_)
 ·obtain ⟨_,_,rfl,_⟩:=h
  rfl
 obtain ⟨count,x,rfl,dv,q⟩:=h
 refine ⟨_,(qss_one (qs_ret (qe_and (qe_fn C_is_whole hr rfl (qa_c (qv 1) qa_nil)) (qe_one (qe_chain qop_le qop_lt qe_int (qv 1) (qv 0)))))),?_⟩
 try dsimp only [cx_k,cx_kn,as_nil,as_name,Nat.reduceAdd]
 refine ⟨_,rfl,x,rfl,dv,_,rfl,?_⟩
 cases hw:isWh x with
 | false =>
  refine iteF ?_
  have e:numV count x=false:=by
   unfold numV
   split
   ·cases hw
   ·rfl
  rw [e] at q
  exact q
 | true =>
  obtain ⟨i,rfl⟩:=isWh_int hw
  unfold numV at q
  dsimp only at q
  refine iteT ⟨_,rfl,_,_,rfl,rfl,_,rfl,ite2 (fun c=>?_) (fun c=>?_)⟩
  ·rw [c,Bool.true_and] at q
   exact ⟨_,rfl,_,_,rfl,rfl,q⟩
  ·rw [Bool.eq_false_iff.mpr c,Bool.false_and] at q
   exact q
theorem ok_is_road (F:Fun K "is_road" "is_road" st_is_road f fd) (B:Bl mg) (C_is_number:Callee P w K mg base n "is_number" ["count","thing"] spNumber) (C_is_board:Callee P w K mg base n "is_board" ["day","thing"] spBoard):FnOk P w K mg base CX0 (n+1) f fd ["day","size","thing"] spRoad:=by
 refine F.okQ sc_is_road (fun vs H Q E h=>?_) (fun cdv A outer s H vs Q E hr h=>?_)
 ·obtain ⟨_,_,_,rfl,_⟩:=h
  rfl
 obtain ⟨day,size,x,rfl,dv,q⟩:=h
 refine ⟨_,(qss_cons (qs_if (QW.pt (qw_or (qt_not (qt_val (qe_cb qcall_isi rfl B.isinstance bt_isinstance (qa_c (qv 2) (qa_c (qe_bltn (v:=.ty "tuple") rfl B.tuple_ bt_tuple rfl) qa_nil))))) (qw_or1 (qt_cmpR qop_ne (qe_cb qcall_len rfl B.len bt_len (qa_c (qv 2) qa_nil)) qe_int (nomark _))))) (qss_one (qs_ret qe_bl)) qss_nil) (qss_cons (qs_if (QW.pt (qw_or (qt_not (qt_val (qe_fn C_is_number hr rfl (qa_c (qv 1) (qa_c (qe_ix qix_tup (qv 2) qe_int (fun _ _=>rfl)) qa_nil))))) (qw_or1 (qt_not (qt_val (qe_fn C_is_number hr rfl (qa_c (qv 1) (qa_c (qe_ix qix_tup (qv 2) qe_int (fun _ _=>rfl)) qa_nil)))))))) (qss_one (qs_ret qe_bl)) qss_nil) (qss_one (qs_ret (qe_and (qe_fn C_is_board hr rfl (qa_c (qv 0) (qa_c (qe_ix qix_tup (qv 2) qe_int (fun _ _=>rfl)) qa_nil))) (qe_one (qe_cb (qcall_all rfl) rfl B.all bt_all (qa_c (qe_comp ["window"] [none] (BlkOk.of rfl rfl (SubL.to subN) rfl) rfl (qi_list (qe_ix qix_tup (qv 2) qe_int (fun _ _=>rfl))) (fun _ _ _ _=>(qg_name (i:=0) (show (["window"]:List Str).Nodup by decide) rfl (Or.inl rfl))) (fun _ _ _ _=>(qe_cmpR qop_gt (qe_ix (qix_tupK K rfl) (qv 0) qe_int (fun _ _=>rfl)) qe_int (nomark _)))) qa_nil)))))))),?_⟩
 try dsimp only [cx_k,cx_kn,as_nil,as_name,Nat.reduceAdd]
 obtain ⟨t,hty,hk⟩:=dv.1.isTup (K:=K)
 have q0:roadV H day size x=false->∀ H',Same H H'->Q (.bl false) H':=fun e H' s=>by
  have:=q H' s
  rw [e] at this
  exact this
 cases ht:tupV H x with
 | none =>
  rw [ht] at hk
  have hw:roadV H day size x=false:=by unfold roadV; rw [ht]
  exact ⟨_,rfl,_,"tuple",t,_,rfl,hty,hk,_,rfl,iteT (iteT (q0 hw _ (Same.refl H)))⟩
 | some xs =>
  rw [ht] at hk
  have hwl:roadV H day size x=roadL H day size xs:=by unfold roadV; rw [ht]
  have dz:=dv.2 xs ht
  obtain ⟨r,rfl,er⟩:=tupV_at ht
  refine ⟨_,rfl,_,"tuple",t,_,rfl,hty,hk,_,rfl,iteF ?_⟩
  refine ⟨_,rfl,r,xs,rfl,.inr (SqT.of er),rfl,_,rfl,?_⟩
  by_cases hl:xs.length=3
  ·obtain ⟨u,v,b,rfl⟩:=three hl
   refine iteN (by simp) ?_
   have eL:roadL H day size [u,v,b]=(numV size u && (numV size v && (boardV H day b && posB H b))):=rfl
   rw [eL] at hwl
   refine ⟨_,rfl,_,rfl,r,_,_,_,rfl,rfl,SqT.of er,rfl,size,u,rfl,(dz u (by simp)).1,_,rfl,?_⟩
   cases hu:numV size u with
   | false=>exact iteT (iteT (q0 (by rw [hwl,hu]; rfl) _ (Same.refl H)))
   | true =>
    refine iteF ⟨_,rfl,_,rfl,r,_,_,_,rfl,rfl,SqT.of er,rfl,size,v,rfl,(dz v (by simp)).1,_,rfl,?_⟩
    cases hv:numV size v with
    | false=>exact iteT (q0 (by rw [hwl,hu,hv]; rfl) _ (Same.refl H))
    | true =>
     refine iteF ?_
     have db:=dz b (by simp)
     refine ⟨_,rfl,_,rfl,r,_,_,_,rfl,rfl,SqT.of er,rfl,day,b,rfl,db,fun H1 s1=>⟨_,rfl,?_⟩⟩
     cases hb:boardV H day b with
     | false=>exact iteF (q0 (by rw [hwl,hu,hv,hb]; rfl) _ s1)
     | true =>
      refine iteT ?_
      rw [hwl,hu,hv,hb] at q
      simp only [Bool.true_and] at q
      unfold boardV at hb
      split at hb
      ·rename_i ws hws
       obtain ⟨hlen,_⟩:=db.2 ws hws
       obtain ⟨p,rfl,ep⟩:=lstV_at hws
       rw [List.all_eq_true] at hb
       have ep1:=s1 _ _ ep
       refine ⟨_,rfl,r,_,_,_,rfl,rfl,SqT.of (s1 _ _ er),rfl,p,rfl,⟨_,SqL.of ep1⟩,?_⟩
       refine comp_list0 (K:=K) (a:=p) (xs:=ws) (fun D i H'=>Same H1 H'/\H' D=some (.lst ((ws.take i).map fun y=>V.bl (posW H y)))) (fun D hD=>⟨same_new hD _,upd_same⟩) (fun D i H' _ _ h=>SqL.of (h.1 _ _ ep1)) ?_ ?_
       ·intro D i y H' hD hi z9;obtain ⟨s2,hD2⟩ := z9
        obtain ⟨r2,a,b,c,rfl,e2⟩:=winV_three (hb y (List.mem_of_getElem? hi))
        refine ⟨fun k v' e=>?_,?_⟩
        ·match k,e with
         | 0,e=>cases e
         | k+1,e=>cases e
        refine ⟨_,rfl,r2,_,_,_,rfl,rfl,SqT.of (s2 _ _ (s1 _ _ e2)),rfl,_,_,rfl,rfl,_,hD2,(by rw [List.length_map,List.length_take]; exact small1000 (by omega)),fun b o eb=>?_,?_⟩
        ·rw [upd_ne (ne_of_none eb hD)]
         exact s2 _ _ eb
        ·rw [upd_same,take_snoc _ hi]
         simp [posW,tupV,e2]
       ·intro D H' hD z9;obtain ⟨s2,hD2⟩ := z9
        have eD:H' D=some (.lst ((ws.map (posW H)).map V.bl)):=by
         rw [hD2,List.take_length,List.map_map]
         rfl
        refine ⟨D,_,rfl,SqL.of eD,?_⟩
        have e1:(ws.map (posW H)).all id=ws.all (posW H):=by rw [List.all_map]; rfl
        rw [e1]
        have:=q H' (s1.trans s2)
        unfold posB at this
        rw [hws] at this
        exact this
      ·cases hb
  ·refine iteP (by simp; omega) (q0 ?_ _ (Same.refl H))
   rw [hwl]
   unfold roadL
   split
   ·rename_i e
    exact absurd rfl hl
   ·rfl
theorem ok_is_net (F:Fun K "is_net" "is_net" st_is_net f fd) (B:Bl mg) (C_is_whole:Callee P w K mg base n "is_whole" ["thing"] spIsWhole) (C_is_road:Callee P w K mg base n "is_road" ["day","size","thing"] spRoad):FnOk P w K mg base CX0 (n+1) f fd ["day","size","roads"] spIsNet:=by
 refine F.okQ sc_is_net (fun vs H Q E h=>?_) (fun cdv A outer s H vs Q E hr h=>?_)
 ·obtain ⟨_,_,_,rfl,_⟩:=h
  rfl
 obtain ⟨day,size,x,rfl,ds,dv,q⟩:=h
 refine ⟨_,(qss_cons (qs_if (QW.pt (qw_or (qt_not (qt_val (qe_fn C_is_whole hr rfl (qa_c (qv 1) qa_nil)))) (qw_or (qt_cmpR qop_lt (qv 1) qe_int (nomark _)) (qw_or1 (qt_not (qt_val (qe_cb qcall_isi rfl B.isinstance bt_isinstance (qa_c (qv 2) (qa_c (qe_bltn (v:=.ty "list") rfl B.list_ bt_list rfl) qa_nil))))))))) (qss_one (qs_ret qe_bl)) qss_nil) (qss_one (qs_ret (qe_cb (qcall_all rfl) rfl B.all bt_all (qa_c (qe_comp ["road","day","size"] [none,some 0,some 1] (BlkOk.of rfl rfl (SubL.to (subC rfl (subC rfl subN))) rfl) rfl (qi_list (qv 2)) (fun _ _ _ _=>(qg_name (i:=0) (show (["road","day","size"]:List Str).Nodup by decide) rfl (Or.inl rfl))) (fun _ _ _ _=>(qe_fn C_is_road hr rfl (qa_c (qv 1) (qa_c (qv 2) (qa_c (qv 0) qa_nil)))))) qa_nil))))),?_⟩
 try dsimp only [cx_k,cx_kn,as_nil,as_name,Nat.reduceAdd]
 refine ⟨_,rfl,size,rfl,ds,_,rfl,?_⟩
 cases hw:isWh size with
 | false =>
  have e:netV H day size x=false:=by
   unfold netV
   split
   ·cases hw
   ·rfl
  have q':=q H (Same.refl H)
  rw [e] at q'
  exact iteT (iteT q')
 | true =>
  obtain ⟨m,rfl⟩:=isWh_int hw
  unfold netV at q
  dsimp only at q
  refine iteF ⟨_,rfl,_,_,rfl,rfl,_,rfl,ite2 (fun c=>?_) (fun c=>?_)⟩
  ·have c':m < 1:=of_decide_eq_true c
   have q':=q H (Same.refl H)
   rw [decide_eq_false (show ¬ 1<=m by omega)] at q'
   exact iteT q'
  have c':1<=m:=by
   have:¬ m < 1:=fun z=>c (decide_eq_true z)
   omega
  rw [decide_eq_true c',Bool.true_and] at q
  obtain ⟨t,hty,hk⟩:=dv.1.isLst (K:=K)
  cases ht:lstV H x with
  | none =>
   rw [ht] at hk q
   exact ⟨_,rfl,_,"list",t,_,rfl,hty,hk,_,rfl,iteT (q _ (Same.refl H))⟩
  | some xs =>
   rw [ht] at hk q
   obtain ⟨hlen,dz⟩:=dv.2 xs ht
   obtain ⟨p,rfl,ep⟩:=lstV_at ht
   refine ⟨_,rfl,_,"list",t,_,rfl,hty,hk,_,rfl,iteF ?_⟩
   refine ⟨_,rfl,p,rfl,⟨_,SqL.of ep⟩,?_⟩
   refine comp_list0 (K:=K) (a:=p) (xs:=xs) (fun D i H'=>Same H H'/\H' D=some (.lst ((xs.take i).map fun y=>V.bl (roadV H day m y)))) (fun D hD=>⟨same_new hD _,upd_same⟩) (fun D i H' _ _ h=>SqL.of (h.1 _ _ ep)) ?_ ?_
   ·intro D i y H' hD hi z9;obtain ⟨s2,hD2⟩ := z9
    have d2:=dz y (List.mem_of_getElem? hi)
    refine ⟨fun k v' e=>?_,_,rfl,_,rfl,_,rfl,day,m,y,rfl,d2.same s2,fun H3 s3=>⟨_,s3 _ _ hD2,(by rw [List.length_map,List.length_take]; exact small1000 (by omega)),fun b o eb=>?_,?_⟩⟩
    ·match k,e with
     | 0,e=>cases e
     | 1,e=>exact e
     | 2,e=>exact e
     | k+3,e=>cases e
    ·rw [upd_ne (ne_of_none eb hD)]
     exact s3 _ _ (s2 _ _ eb)
    ·rw [upd_same,take_snoc _ hi,d2.roadV_same s2]
   ·intro D H' hD z9;obtain ⟨s2,hD2⟩ := z9
    have eD:H' D=some (.lst ((xs.map (roadV H day m)).map V.bl)):=by
     rw [hD2,List.take_length,List.map_map]
     rfl
    refine ⟨D,_,rfl,SqL.of eD,?_⟩
    have e1:(xs.map (roadV H day m)).all id=xs.all (roadV H day m):=by rw [List.all_map]; rfl
    rw [e1]
    exact q H' s2
end
inductive Ew (H:Hp):Nat->V->Prop
 | non {n:Nat}:Ew H n .non
 | bl {n:Nat} (b:Bool):Ew H n (.bl b)
 | int {n:Nat} (i:Int):Ew H n (.int i)
 | str {n:Nat} (x:Str):Ew H n (.str x)
 | lst {n:Nat} {a:Addr} {xs:List V}:H a=some (.lst xs)->xs.length<=1000->(∀ y∈xs,Ew H n y)->Ew H (n+1) (.ref a)
 | tup {n:Nat} {a:Addr} {xs:List V}:H a=some (.tup xs)->(∀ y∈xs,Ew H n y)->Ew H (n+1) (.ref a)
theorem Ew.same {H H':Hp} (s:Same H H'):∀ {n:Nat} {x:V},Ew H n x->Ew H' n x:=by
 intro n x h
 induction h with
 | non=>exact .non
 | bl b=>exact .bl b
 | int i=>exact .int i
 | str x=>exact .str x
 | lst e l _ ih=>exact .lst (s _ _ e) l ih
 | tup e _ ih=>exact .tup (s _ _ e) ih
theorem Ew.dv {H:Hp} {n:Nat} {x:V} (h:Ew H n x):Dv H x:=by
 cases h with
 | non=>exact .non
 | bl b=>exact .bl b
 | int i=>exact .int i
 | str x=>exact .str x
 | lst e _ _=>exact .lst e
 | tup e _=>exact .tup e
theorem Ew.parts {H:Hp} {n:Nat} {x:V} {zs:List V} (h:Ew H (n+1) x) (e:tupV H x=some zs):∀ z∈zs,Ew H n z:=by
 obtain ⟨a,rfl,ea⟩:=tupV_at e
 cases h with
 | lst e2 _ _=>rw [ea] at e2; cases e2
 | tup e2 p=>rw [ea] at e2; cases e2; exact p
theorem Ew.items {H:Hp} {n:Nat} {x:V} {zs:List V} (h:Ew H (n+1) x) (e:lstV H x=some zs):zs.length<=1000/\∀ z∈zs,Ew H n z:=by
 obtain ⟨a,rfl,ea⟩:=lstV_at e
 cases h with
 | tup e2 _=>rw [ea] at e2; cases e2
 | lst e2 l p=>rw [ea] at e2; cases e2; exact ⟨l,p⟩
theorem Ew.up {H:Hp}:∀ {n:Nat} {x:V},Ew H n x->Ew H (n+1) x:=by
 intro n x h
 induction h with
 | non=>exact .non
 | bl b=>exact .bl b
 | int i=>exact .int i
 | str x=>exact .str x
 | lst e l _ ih=>exact .lst e l ih
 | tup e _ ih=>exact .tup e ih
theorem Ew.d2 {H:Hp} {n:Nat} {x:V} (h:Ew H (n+1) x):Dv2 H x:=⟨h.dv,fun zs e z hz=>(h.parts e z hz).dv⟩
theorem Ew.d3 {H:Hp} {n:Nat} {x:V} (h:Ew H (n+2) x):Dv3 H x:=⟨h.dv,fun zs e=>⟨(h.items e).1,fun z hz=>((h.items e).2 z hz).d2⟩⟩
theorem Ew.dr {H:Hp} {n:Nat} {x:V} (h:Ew H (n+3) x):DvR H x:=⟨h.dv,fun zs e z hz=>(h.parts e z hz).d3⟩
theorem Ew.dn {H:Hp} {n:Nat} {x:V} (h:Ew H (n+4) x):DvN H x:=⟨h.dv,fun zs e=>⟨(h.items e).1,fun z hz=>((h.items e).2 z hz).dr⟩⟩
noncomputable def hide (p:Addr) (H:Hp):Hp:=fun b=>if b=p then none else H b
theorem hide_at {p b:Addr} {H:Hp} {o:HO} (e:H b=some o) (n:b ≠ p):hide p H b=some o:=by
 unfold hide
 rw [if_neg n]
 exact e
theorem hide_to {p:Addr} {H:Hp}:Same (hide p H) H:=fun b o e=>by
 unfold hide at e
 split at e
 ·cases e
 ·exact e
theorem hide_upd {p:Addr} {H:Hp} {o:HO}:Same (hide p H) (upd H p o):=fun b u e=>by
 unfold hide at e
 split at e
 ·cases e
 ·rename_i n
  rw [upd_ne n]
  exact e
noncomputable def since (H H':Hp):Hp:=fun b=>match H b with
 | none=>H' b
 | some _=>none
theorem since_at {H H':Hp} {b:Addr} {o:HO} (h:H b=none) (e:H' b=some o):since H H' b=some o:=by
 unfold since
 rw [h]
 exact e
theorem since_of {H H':Hp} {b:Addr} {o:HO} (h:since H H' b=some o):H b=none/\H' b=some o:=by
 unfold since at h
 split at h
 ·rename_i e
  exact ⟨e,h⟩
 ·cases h
noncomputable def Nw (H H':Hp) (n:Nat) (v:V):Prop:=Ew (since H H') n v
section
variable {H H1 H2:Hp} {n:Nat} {q:Addr} {xs:List V} {v:V}
theorem Nw.same (h:Nw H H1 n v) (s:Same H1 H2):Nw H H2 n v:=Ew.same (fun b o e=>since_at (since_of e).1 (s _ _ (since_of e).2)) h
theorem Nw.ew (h:Nw H H1 n v):Ew H1 n v:=Ew.same (fun b o e=>(since_of e).2) h
theorem Nw.hide {p:Addr} (h:Nw H H1 n v) (hp:H p ≠ none):Ew (hide p H1) n v:=Ew.same (fun b o e=>hide_at (since_of e).2 fun z=>hp (by rw [<- z]; exact (since_of e).1)) h
theorem Nw.int (i:Int):Nw H H1 n (.int i):=Ew.int i
theorem Nw.bl (b:Bool):Nw H H1 n (.bl b):=Ew.bl b
theorem Nw.str (x:Str):Nw H H1 n (.str x):=Ew.str x
theorem Nw.non:Nw H H1 n .non:=Ew.non
end
theorem la_ew {H:Hp} {p b:Addr} {R:List T3} {zs:List V} (h:LA enc3 H b R) (hp:H p=some (.lst zs)) (nb:b ≠ p) (l:R.length<=1000):Ew (hide p H) 2 (.ref b):=by
 obtain ⟨vs,h1,h2,h3⟩:=h.lst
 refine .lst (hide_at h1 nb) (by omega) fun y hy=>?_
 obtain ⟨i,hi⟩:=List.mem_iff_getElem?.mp hy
 obtain ⟨r,x,rfl,_,er⟩:=h3 i y hi
 refine .tup (hide_at er fun z=>by rw [z,hp] at er; cases er) fun y hy=>?_
 simp only [enc3,List.mem_cons,List.not_mem_nil,or_false] at hy
 rcases hy with rfl | rfl | rfl <;> exact .int _
theorem at_any {xs:List V} {j:Int} (h0:0<=j) (h1:j < (xs.length:Int)):∃ v,atI xs j=some v/\v∈xs:=by
 obtain ⟨k,rfl⟩:=Int.eq_ofNat_of_zero_le h0
 have hk:k < xs.length:=by omega
 exact ⟨xs[k],atI_nat (List.getElem?_eq_getElem hk),List.getElem_mem hk⟩
theorem NA.item {H:Hp} {p:Addr} {N:List RdT} {vs:List V} {y:V} (h:NA H p N) (l:∀ m∈N,m.2.2.2.length<=1000) (e:H p=some (.lst vs)) (hy:y∈vs):Ew (hide p H) 3 y:=by
 obtain ⟨vs',h1,h2,h3⟩:=h.la.lst
 rw [h1] at e
 cases e
 obtain ⟨i,hi⟩:=List.mem_iff_getElem?.mp hy
 obtain ⟨r,x,rfl,ex,er⟩:=h3 i y hi
 obtain ⟨m,hm,rfl⟩:=List.mem_map.mp (List.mem_of_getElem? ex)
 refine .tup (hide_at er fun z=>by rw [z,h1] at er; cases er) fun y hy=>?_
 simp only [encK,keyN,List.mem_cons,List.not_mem_nil,or_false] at hy
 rcases hy with rfl | rfl | rfl
 ·exact .int _
 ·exact .int _
 ·exact la_ew (h.bd m hm).1 h1 (h.bd m hm).2 (l m hm)
theorem NA.ew {H:Hp} {p:Addr} {N:List RdT} (h:NA H p N) (l:∀ m∈N,m.2.2.2.length<=1000) (l2:N.length<=1000):Ew H 4 (.ref p):=by
 obtain ⟨vs,h1,h2,_⟩:=h.la.lst
 exact .lst h1 (by rw [h2,List.length_map]; exact l2) fun y hy=>(h.item l h1 hy).same hide_to
noncomputable def BA (H:Hp) (p:Addr) (Bs:List (List T3)):Prop:=∃ rs:List Addr,H p=some (.lst (rs.map V.ref))/\rs.length=Bs.length/\p ∉ rs/\rs.Nodup/\∀ (i:Nat) r B,rs[i]?=some r->Bs[i]?=some B->LA enc3 H r B
section
variable {H H':Hp} {p q:Addr} {Bs:List (List T3)} {d:Int}
theorem BA.nil (h:H p=some (.lst [])):BA H p []:=⟨[],h,rfl,by simp,List.nodup_nil,fun i r B e=>by simp at e⟩
theorem BA.u (h:BA H p Bs) (s:SameU H H'):BA H' p Bs:=by
 obtain ⟨rs,h1,h2,h3,h4,h5⟩:=h
 exact ⟨rs,s.lst h1,h2,h3,h4,fun i r B a b=>(h5 i r B a b).u s⟩
theorem BA.rd {K:PySem.W.Frag} (h:BA H p Bs):RdV K H (.ref p) (.list (Bs.map datB)):=by
 obtain ⟨rs,h1,h2,-,-,h5⟩:=h
 refine .lst (SqL.of h1) ?_
 clear h1
 induction rs generalizing Bs with
 | nil =>
  cases Bs with
  | nil=>exact .nil
  | cons B Bs=>simp at h2
 | cons r rs ih =>
  cases Bs with
  | nil=>simp at h2
  | cons B Bs=>exact .cons (rd3 (h5 0 r B rfl rfl)) (ih (Bs:=Bs) (by simpa using h2) fun i r B a b=>h5 (i+1) r B a b)
theorem BA.snoc {r:Addr} {rs:List Addr} {B:List T3} (h:BA H p Bs) (hx:H p=some (.lst (rs.map V.ref))) (hr:LA enc3 H r B) (n1:r ≠ p) (n2:r ∉ rs):BA (upd H p (.lst (rs.map V.ref ++ [.ref r]))) p (Bs ++ [B]):=by
 obtain ⟨rs',h1,h2,h3,h4,h5⟩:=h
 rw [hx] at h1
 have e:rs=rs':=by
  have:rs.map V.ref=rs'.map V.ref:=by
   injection h1 with h1
   injection h1
  exact (List.map_inj_right fun a b z=>by cases z; rfl).mp this
 subst e
 refine ⟨rs ++ [r],by rw [upd_same]; simp,by simp [h2],by simp [h3,Ne.symm n1],?_,fun i r' B' a b=>?_⟩
 ·rw [List.nodup_append]
  exact ⟨h4,by simp,fun a ha b hb=>by rw [List.mem_singleton] at hb; subst hb; exact fun z=>n2 (z ▸ ha)⟩
 ·rcases Nat.lt_or_ge i rs.length with z | z
  ·rw [List.getElem?_append_left z] at a
   rw [List.getElem?_append_left (by omega)] at b
   exact la_clear (h5 i r' B' a b) hx fun z=>h3 (z ▸ List.mem_of_getElem? a)
  ·obtain ⟨lt,_⟩:=List.getElem?_eq_some_iff.mp a
   have ei:i=rs.length:=by simp at lt; omega
   subst ei
   rw [List.getElem?_append_right (Nat.le_refl _),Nat.sub_self] at a
   rw [List.getElem?_append_right (by omega),show rs.length - Bs.length=0 by omega] at b
   cases a
   cases b
   exact la_clear hr hx n1
end
noncomputable def Yg (H H':Hp) (p:Addr):Prop:=∀ rs:List Addr,H' p=some (.lst (rs.map V.ref))->∀ r∈rs,H r=none
theorem ref_inj {rs rs':List Addr} (h:(HO.lst (rs.map V.ref))=.lst (rs'.map V.ref)):rs=rs':=by
 injection h with h
 exact (List.map_inj_right fun a b z=>by cases z; rfl).mp h
theorem Yg.of {H H':Hp} {p:Addr} {rs:List Addr} (e:H' p=some (.lst (rs.map V.ref))) (h:∀ r∈rs,H r=none):Yg H H' p:=fun rs' e'=>by
 rw [e] at e'
 rw [<- ref_inj (Option.some.inj e')]
 exact h
theorem Ma.bt_still {d:Int} (hd:0 < d) (t:Int):Ma.bt d [(0,d - 1,0)] t=some t:=by
 have h:=Ma.bt_snoc d [] (0,d - 1,0) t
 rw [List.nil_append,Ma.bt_nil] at h
 rw [h]
 unfold Ma.btS
 dsimp only
 rw [Ma.nextO_eq d 0 (d - 1) t (by omega)]
 have m:=emod_b t hd
 rw [if_neg (by omega),if_neg (by omega),Int.add_zero]
theorem Ma.ck_still {d:Int} (hd:0 < d):Ma.CK d [(0,d - 1,0)]:=Ma.ck_one hd ⟨Int.le_refl _,by show 0<=d - 1; omega,by show d - 1 < d; omega,Int.le_refl _⟩
theorem LA.one {H:Hp} {p r:Addr} {x:T3} (h:H p=some (.lst [.ref r])) (e:H r=some (.tup (enc3 x))):LA enc3 H p [x]:=LA.of h rfl fun i y hi=>by
 match i,hi with
 | 0,hi=>cases hi; exact ⟨r,rfl,fun z hz=>by cases hz; exact e⟩
 | k+1,hi=>simp at hi
theorem take_snocB {α:Type} {L:List α} {i:Nat} {x:α} (h:L[i]?=some x):L.take (i+1)=L.take i ++ [x]:=by rw [List.take_succ,h]; rfl
noncomputable abbrev Tb:=List (List T3)
noncomputable def cl (Cs:Tb) (p:Int):List T3:=Cs.getD p.toNat []
noncomputable def ways (d:Int) (F:List RdT) (Cs:Tb) (p t:Int) (o:Option Int):Option Int:=F.foldl (fun acc m=>if m.1=p then Ma.omin acc (Ma.obind (Ma.bt d m.2.2.2) (Ma.bt d (cl Cs m.2.1)) t) else acc) o
noncomputable def stepT (d:Int) (F:List RdT) (Cs:Tb) (p t:Int):Option Int:=ways d F Cs p t (Ma.bt d (cl Cs p) t)
theorem ways_snoc {d:Int} {F:List RdT} {m:RdT} {Cs:Tb} {p t:Int} {o:Option Int}:ways d (F ++ [m]) Cs p t o=if m.1=p then Ma.omin (ways d F Cs p t o) (Ma.obind (Ma.bt d m.2.2.2) (Ma.bt d (cl Cs m.2.1)) t) else ways d F Cs p t o:=by simp [ways]
noncomputable def stay (d:Int) (n:Nat) (p:Int):Tb:=(List.range n).map fun (i:Nat)=>if (i:Int)=p then [(0,d - 1,0)] else []
theorem cl_at {Cs:Tb} {p:Int} (h0:0<=p) (h1:p < (Cs.length:Int)):Cs[p.toNat]?=some (cl Cs p):=by
 unfold cl
 rw [List.getD_eq_getElem?_getD,List.getElem?_eq_getElem (by omega)]
 rfl
theorem cl_mem {Cs:Tb} {p:Int} (h0:0<=p) (h1:p < (Cs.length:Int)):cl Cs p∈Cs:=List.mem_of_getElem? (cl_at h0 h1)
theorem cl_set {Cs:Tb} {p q:Int} {R:List T3} (h0:0<=p) (h1:p < (Cs.length:Int)) (g0:0<=q) (g1:q < (Cs.length:Int)):cl (Cs.set q.toNat R) p=if q=p then R else cl Cs p:=by
 unfold cl
 rw [List.getD_eq_getElem?_getD,List.getD_eq_getElem?_getD,List.getElem?_set]
 by_cases e:q=p
 ·subst e
  rw [if_pos rfl,if_pos rfl,if_pos (by omega)]
  rfl
 ·rw [if_neg e,if_neg (by omega)]
theorem cl_stay {d:Int} {n:Nat} {p q:Int} (h0:0<=q) (h1:q < (n:Int)):cl (stay d n p) q=if q=p then [(0,d - 1,0)] else []:=by
 unfold cl stay
 rw [List.getD_eq_getElem?_getD,List.getElem?_map,List.getElem?_range (by omega)]
 show (if ((q.toNat:Nat):Int)=p then _ else _)=_
 rw [show ((q.toNat:Nat):Int)=q by omega]
noncomputable def TOk (d:Int) (M:Nat) (Cs:Tb):Prop:=∀ C∈Cs,Ma.MuR d C M
noncomputable def FOk (d size:Int) (m:Nat) (F:List RdT):Prop:=∀ f∈F,(0<=f.1/\f.1 < size)/\(0<=f.2.1/\f.2.1 < size)/\Ma.MuR d f.2.2.2 m
theorem TOk.le {d:Int} {M M':Nat} {Cs:Tb} (h:TOk d M Cs) (l:M<=M'):TOk d M' Cs:=fun C hC=>(h C hC).le l
noncomputable def mxT (f m:Nat):Nat->Nat
 | 0=>2
 | k+1=>mxT f m k+f * (m+mxT f m k)
structure NetOk (d size:Int) (N:List RdT):Prop where
 all:∀ m∈N,(0<=m.1/\m.1 < size)/\(0<=m.2.1/\m.2.1 < size)/\m.2.2.2.length<=100/\∀ w∈m.2.2.2,0<=w.1/\w.1<=w.2.1/\w.2.1 < d/\1<=w.2.2
noncomputable def Fords (d:Int) (N F:List RdT):Prop:=F.length=N.length/\∀ (i:Nat) m f,N[i]?=some m->F[i]?=some f->f.1=m.1/\f.2.1=m.2.1/\Ma.CK d f.2.2.2/\f.2.2.2.length<=2 * m.2.2.2.length+1/\∀ t,Ma.bt d f.2.2.2 t=Ma.bt d m.2.2.2 t
theorem NetOk.wins {d size:Int} {N:List RdT} (h:NetOk d size N) {m:RdT} (hm:m∈N):Ma.Wins d m.2.2.2:=fun w hw=>by
 obtain ⟨a,b,c,e⟩:=(h.all m hm).2.2.2 w hw
 exact ⟨a,b,c,by omega⟩
theorem Fords.ok {d size:Int} {N F:List RdT} {m:Nat} (h:Fords d N F) (hN:NetOk d size N) (l:∀ x∈N,4 * x.2.2.2.length+2<=m):FOk d size m F:=fun f hf=>by
 obtain ⟨i,hi⟩:=List.getElem?_of_mem hf
 have lt:=(List.getElem?_eq_some_iff.mp hi).1
 have hx:=List.getElem?_eq_getElem (show i < N.length by rw [<- h.1]; exact lt)
 obtain ⟨e1,e2,ck,ln,_⟩:=h.2 i _ f hx hi
 have hm:=List.mem_of_getElem? hx
 have:=hN.all _ hm
 have:=l _ hm
 exact ⟨by rw [e1]; exact (hN.all _ hm).1,by rw [e2]; exact (hN.all _ hm).2.1,ck,fun z=>(Ma.mu_of ck (Ma.tells_bf z)).le (by omega)⟩
structure FA (H:Hp) (p:Addr) (F:List RdT):Prop where
 la:LA encK H p (F.map keyN)
 bd:∀ m∈F,LA enc3 H m.2.2.1 m.2.2.2
theorem FA.u {H H':Hp} {p:Addr} {F:List RdT} (h:FA H p F) (s:SameU H H'):FA H' p F:=⟨h.la.u s,fun m hm=>(h.bd m hm).u s⟩
theorem NA.u {H H':Hp} {p:Addr} {N:List RdT} (h:NA H p N) (s:SameU H H'):NA H' p N:=⟨h.la.u s,fun m hm=>⟨(h.bd m hm).1.u s,(h.bd m hm).2⟩,h.nd⟩
theorem NA.net {H:Hp} {p:Addr} {N:List RdT} {d size:Int} (h:NA H p N) (hN:NetOk d size N) (h1:1<=size):netV H d (.int size) (.ref p)=true:=by
 obtain ⟨vs,e1,e2,e3⟩:=h.la.lst
 unfold netV
 rw [lstV_of e1]
 simp only [Bool.and_eq_true,decide_eq_true_eq]
 refine ⟨h1,List.all_eq_true.mpr fun y hy=>?_⟩
 obtain ⟨i,hi⟩:=List.mem_iff_getElem?.mp hy
 obtain ⟨r,x,rfl,ex,er⟩:=e3 i y hi
 obtain ⟨m,hm,rfl⟩:=List.mem_map.mp (List.mem_of_getElem? ex)
 obtain ⟨⟨a1,a2⟩,⟨b1,b2⟩,_,w⟩:=hN.all m hm
 unfold roadV
 rw [tupV_of er]
 have hb:=(h.bd m hm).1
 have hB:=la_board hb (hN.wins hm)
 show (numV size (.int m.1) && (numV size (.int m.2.1) && (boardV H d (.ref m.2.2.1) && posB H (.ref m.2.2.1))))=true
 rw [hB]
 simp only [numV,Bool.and_eq_true,decide_eq_true_eq]
 refine ⟨⟨a1,a2⟩,⟨b1,b2⟩,trivial,?_⟩
 obtain ⟨us,u1,u2,u3⟩:=hb.lst
 unfold posB
 rw [lstV_of u1]
 refine List.all_eq_true.mpr fun y hy=>?_
 obtain ⟨i,hi⟩:=List.mem_iff_getElem?.mp hy
 obtain ⟨r,x,rfl,ex,er⟩:=u3 i y hi
 unfold posW
 rw [tupV_of er]
 have:=(w x (List.mem_of_getElem? ex)).2.2.2
 simp only [enc3,decide_eq_true_eq]
 omega
theorem BA.at {H:Hp} {p:Addr} {Cs:Tb} {i:Int} (h:BA H p Cs) (h0:0<=i) (h1:i < (Cs.length:Int)):∃ (rs:List Addr) (r:Addr),H p=some (.lst (rs.map V.ref))/\atI (rs.map V.ref) i=some (.ref r)/\rs[i.toNat]?=some r/\rs.length=Cs.length/\LA enc3 H r (cl Cs i):=by
 obtain ⟨rs,e1,e2,e3,e4,e5⟩:=h
 have hr:rs[i.toNat]?=some (rs[i.toNat]'(by omega)):=List.getElem?_eq_getElem (by omega)
 refine ⟨rs,_,e1,?_,hr,e2,e5 _ _ _ hr (cl_at h0 h1)⟩
 have:=atI_nat (j:=i.toNat) (v:=V.ref (rs[i.toNat]'(by omega))) (xs:=rs.map V.ref) (by rw [List.getElem?_map,hr]; rfl)
 rw [show ((i.toNat:Nat):Int)=i by omega] at this
 exact this
theorem ixN_pos {n:Nat} {i:Int} (h0:0<=i) (h1:i < (n:Int)):ixN n i=some i.toNat:=by
 unfold ixN
 rw [if_pos h0,if_pos h1]
theorem BA.set {H:Hp} {p r:Addr} {Cs:Tb} {rs:List Addr} {i:Nat} {R:List T3} (h:BA H p Cs) (hx:H p=some (.lst (rs.map V.ref))) (hr:LA enc3 H r R) (n1:r ≠ p) (n2:r ∉ rs) (hi:i < Cs.length):BA (upd H p (.lst ((rs.map V.ref).set i (.ref r)))) p (Cs.set i R):=by
 obtain ⟨rs',e1,e2,e3,e4,e5⟩:=h
 rw [hx] at e1
 have e:=ref_inj (Option.some.inj e1)
 subst e
 have ms:(rs.map V.ref).set i (.ref r)=(rs.set i r).map V.ref:=by rw [List.map_set]
 refine ⟨rs.set i r,by rw [upd_same,ms],by simp [e2],fun z=>?_,?_,fun j r' B a b=>?_⟩
 ·rcases List.mem_or_eq_of_mem_set z with z | z
  ·exact e3 z
  ·exact n1 z.symm
 ·rw [List.nodup_iff_pairwise_ne,List.pairwise_iff_getElem]
  intro a b ha hb hab
  rw [List.getElem_set,List.getElem_set]
  have ha':a < rs.length:=by simpa using ha
  have hb':b < rs.length:=by simpa using hb
  by_cases z1:i=a
  ·rw [if_pos z1,if_neg (by omega)]
   exact fun z=>n2 (z ▸ List.getElem_mem hb')
  ·rw [if_neg z1]
   by_cases z2:i=b
   ·rw [if_pos z2]
    exact fun z=>n2 (z ▸ List.getElem_mem ha')
   ·rw [if_neg z2]
    intro z
    have:=(List.getElem_inj e4).mp z
    omega
 ·rw [List.getElem?_set] at a b
  by_cases z:i=j
  ·rw [if_pos z,if_pos (by omega)] at a b
   cases a
   cases b
   exact la_clear hr hx n1
  ·rw [if_neg z] at a b
   exact la_clear (e5 j r' B a b) hx fun z=>e3 (z ▸ List.mem_of_getElem? a)
theorem comp_copy {K:PySem.W.Frag} {H:Hp} {p:Addr} {Cs:Tb} {σ:L2.St} {Q:VK} (hB:BA H p Cs) (hl:Cs.length<=1000) (q:∀ (l:Addr) (H':Hp),Same H H'->H l=none->BA H' l Cs->Yg H H' l->Q (.ref l) H') :
  cBody [none] (gName 0) tTrue (tCB (fun xs H Q=>∃ p ys,xs=[V.ref p]/\(SqL K H p ys\/SqT K H p ys)/\∀ l,H l=none->Q (V.ref l) (upd H l (.lst ys))) (tCons (tVar 0) tNil)) σ Q (Itl K p) H:=by
 obtain ⟨rs,h1,h2,h3,h4,h5⟩:=id hB
 have hrl:(rs.map V.ref).length=Cs.length:=by simp [h2]
 refine comp_list0 (K:=K) (a:=p) (xs:=rs.map V.ref) (fun D i H'=>Same H H'/\BA H' D (Cs.take i)/\Yg H H' D) (fun D hD=>⟨same_new hD _,BA.nil upd_same,Yg.of (rs:=[]) upd_same (fun r hr=>by cases hr)⟩) (fun D i H' _ _ h=>SqL.of (h.1 _ _ h1)) ?_ ?_
 ·intro D i y H' hD hi z9;obtain ⟨sD,hB',hY⟩ := z9
  have hil:i < rs.length:=by
   have:=(List.getElem?_eq_some_iff.mp hi).1
   simpa using this
  have hr':rs[i]?=some rs[i]:=List.getElem?_eq_getElem hil
  have ey:y=.ref rs[i]:=by
   rw [List.getElem?_map,hr'] at hi
   exact (Option.some.inj hi).symm
  subst ey
  have hb:Cs[i]?=some (Cs[i]'(by omega)):=List.getElem?_eq_getElem (by omega)
  have la:=(h5 i _ _ hr' hb).same sD
  generalize Cs[i]'(by omega)=C at hb la
  generalize rs[i]=rc at la
  obtain ⟨us,hu1,hu2,hu3⟩:=la.lst
  refine ⟨fun k v e=>?_,?_⟩
  ·match k,e with
   | 0,e=>cases e
   | k+1,e=>cases e
  refine ⟨_,rfl,rc,_,rfl,.inl (SqL.of hu1),fun l hl'=>?_⟩
  have hl0:=hl'
  have s1:=same_new hl' (.lst us)
  have hc:=la.copy s1 hu1 upd_same
  generalize upd H' l (.lst us)=H1 at *
  obtain ⟨os,o1,o2,o3,o4,o5⟩:=id hB'
  have hol:os.length=i:=by rw [o2,List.length_take]; omega
  have nlD:l ≠ D:=fun z=>by rw [z,o1] at hl0; cases hl0
  have nlo:l ∉ os:=fun z=>by
   obtain ⟨j,hj⟩:=List.getElem?_of_mem z
   have lj:=(List.getElem?_eq_some_iff.mp hj).1
   exact la_ne (enc':=enc3) (o5 j l _ hj (List.getElem?_eq_getElem (by omega))) hl0 rfl
  refine ⟨_,s1 _ _ o1,line_of (by simp; omega),same_wr hD (sD.trans s1),?_,Yg.of (rs:=os ++ [l]) (by rw [upd_same]; simp) fun r hr=>?_⟩
  ·rw [take_snocB hb]
   exact (hB'.u (SameU.of s1)).snoc (s1 _ _ o1) hc nlD nlo
  ·rcases List.mem_append.mp hr with hr | hr
   ·exact hY os o1 r hr
   ·rw [List.mem_singleton] at hr
    subst hr
    exact sD.free hl0
 ·intro D H' hD z9;obtain ⟨sD,hB',hY⟩ := z9
  rw [hrl,List.take_length] at hB'
  exact q D H' sD hD hB' hY
noncomputable def spNeedNet:Sp:=fun vs H Q _=>∃ (d size:Int) (p:Addr) (N:List RdT),vs=[.int d,.int size,.ref p]/\NA H p N/\N.length<=1000/\NetOk d size N/\1<=size/\∀ H',Same H H'->Q .non H'
noncomputable def spNeedPlace:Sp:=fun vs H Q _=>∃ size p:Int,vs=[.int size,.int p]/\0<=p/\p < size/\Q .non H
noncomputable def spFordsOf:Sp:=fun vs H Q _=>∃ (d size:Int) (p:Addr) (N:List RdT),vs=[.int d,.ref p]/\NA H p N/\N.length<=1000/\0 < d/\NetOk d size N/\∀ (l:Addr) (F:List RdT) (H':Hp),Same H H'->FA H' l F->Fords d N F->Q (.ref l) H'
noncomputable def spStand:Sp:=fun vs H Q _=>∃ day:Int,vs=[.int day]/\∀ (l:Addr) (H':Hp),Same H H'->H l=none->LA enc3 H' l [(0,day - 1,0)]->Q (.ref l) H'
noncomputable def spStaying:Sp:=fun vs H Q _=>∃ (d:Int) (n:Nat) (p:Int),vs=[.int d,.int n,.int p]/\n<=1000/\∀ (l:Addr) (H':Hp),Same H H'->H l=none->BA H' l (stay d n p)->Yg H H' l->Q (.ref l) H'
noncomputable def spCopied:Sp:=fun vs H Q _=>∃ (p:Addr) (Cs:Tb),vs=[.ref p]/\BA H p Cs/\Cs.length<=1000/\∀ (l:Addr) (H':Hp),Same H H'->H l=none->BA H' l Cs->Yg H H' l->Q (.ref l) H'
noncomputable def spRide (T:Hp->Prop) (stp:Int->List RdT->Tb->Int->Int->Option Int):Sp:=fun vs H Q _=>∃ (d:Int) (pF:Addr) (F:List RdT) (pt:Addr) (Cs:Tb) (M m:Nat),vs=[.int d,.ref pF,.ref pt]/\FA H pF F/\BA H pt Cs/\T H/\FOk d Cs.length m F/\TOk d M Cs/\M+F.length * (m+M)<=1000000/\(2 * (m+1)+2) * (2 * (M+1)+2)<=16000000/\Cs.length<=1000 /\
 ∀ (l:Addr) (Ds:Tb) (H':Hp),SameU H H'->T H'->H l=none->BA H' l Ds->Yg H H' l->Ds.length=Cs.length->TOk d (M+F.length * (m+M)) Ds->(∀ p,0<=p->p < (Cs.length:Int)->∀ t,Ma.bt d (cl Ds p) t=stp d F Cs p t)->Q (.ref l) H'
section
variable {P:Program} {w:World} {K:PySem.W.Frag} {mg:Str->Option Value} {base:Heap} {f:Addr} {fd:FuncData} {n:Nat} {T:Hp->Prop}
theorem ok_need_net (F:Fun K "need_net" "need_net" st_need_net f fd) (C_is_net:Callee P w K mg base n "is_net" ["day","size","roads"] spIsNet):FnOk P w K mg base CX0 (n+1) f fd ["day","size","roads"] spNeedNet:=by
 refine F.okQ sc_need_net (fun vs H Q E h=>?_) (fun cdv A outer s H vs Q E hr h=>?_)
 ·obtain ⟨_,_,_,_,rfl,_⟩:=h
  rfl
 obtain ⟨d,size,p,N,rfl,hN,nl,ok,h1,q⟩:=h
 refine ⟨_,(qss_one (qs_if (qt_not (qt_val (qe_fn C_is_net hr rfl (qa_c (qv 0) (qa_c (qv 1) (qa_c (qv 2) qa_nil)))))) (qss_one qs_never) qss_nil)),?_⟩
 try dsimp only [cx_k,cx_kn,as_nil,as_name,Nat.reduceAdd]
 have ew:=hN.ew (fun m hm=>by have:=(ok.all m hm).2.2.1; omega) nl
 refine ⟨_,rfl,_,rfl,_,rfl,d,.int size,.ref p,rfl,.int _,Ew.dn (n:=0) ew,fun H1 s1=>?_⟩
 rw [hN.net ok h1]
 exact ⟨_,rfl,iteF (q H1 s1)⟩
theorem ok_need_place (F:Fun K "need_place" "need_place" st_need_place f fd) (C_is_number:Callee P w K mg base n "is_number" ["count","thing"] spNumber):FnOk P w K mg base CX0 (n+1) f fd ["size","thing"] spNeedPlace:=by
 refine F.okQ sc_need_place (fun vs H Q E h=>?_) (fun cdv A outer s H vs Q E hr h=>?_)
 ·obtain ⟨_,_,rfl,_⟩:=h
  rfl
 obtain ⟨size,p,rfl,h0,h1,q⟩:=h
 refine ⟨_,(qss_one (qs_if (qt_not (qt_val (qe_fn C_is_number hr rfl (qa_c (qv 0) (qa_c (qv 1) qa_nil))))) (qss_one qs_never) qss_nil)),?_⟩
 try dsimp only [cx_k,cx_kn,as_nil,as_name,Nat.reduceAdd]
 refine ⟨_,rfl,_,rfl,size,.int p,rfl,.int _,?_⟩
 have e:numV size (.int p)=true:=by simp [numV,h0,h1]
 rw [e]
 exact ⟨_,rfl,iteF q⟩
theorem ok_stand (F:Fun K "standing" "standing" st_standing f fd):FnOk P w K mg base CX0 (n+1) f fd ["day"] spStand:=by
 refine F.okQ sc_standing (fun vs H Q E h=>?_) (fun cdv A outer s H vs Q E hr h=>?_)
 ·obtain ⟨_,rfl,_⟩:=h
  rfl
 obtain ⟨day,rfl,q⟩:=h
 refine ⟨_,(qss_one (qs_ret (qe_lst (qa_c (qe_tup (qa_c qe_int (qa_c (qe_op qop_sub (qv 0) qe_int) (qa_c qe_int qa_nil)))) qa_nil)))),?_⟩
 try dsimp only [cx_k,cx_kn,as_nil,as_name,Nat.reduceAdd]
 refine ⟨_,rfl,_,_,rfl,rfl,(by show 3<=sizeLine; decide),fun r1 hr1=>?_⟩
 generalize hgH1:upd _ r1 _=H1
 obtain ⟨s1,e1⟩:=fresh_of hr1 hgH1
 clear hgH1
 refine ⟨(by show 1<=sizeLine; decide),fun pl hpl=>?_⟩
 generalize hgH2:upd _ pl _=H2
 obtain ⟨s2,e2⟩:=fresh_of hpl hgH2
 clear hgH2
 exact q pl H2 (s1.trans s2) (s1.free hpl) (LA.one e2 (s2 _ _ e1))
theorem ok_fords_of (F:Fun K "fords_of" "fords_of" st_fords_of f fd) (C_clock_of:Callee P w K mg base n "clock_of" ["day","board"] spClockOf):FnOk P w K mg base CX0 (n+1) f fd ["day","roads"] spFordsOf:=by
 refine F.okQ sc_fords_of (fun vs H Q E h=>?_) (fun cdv A outer s H vs Q E hr h=>?_)
 ·obtain ⟨_,_,_,_,rfl,_⟩:=h
  rfl
 obtain ⟨d,size,pr,N,rfl,hN,nl,hd,ok,q⟩:=h
 refine ⟨_,(qss_one (qs_ret (qe_comp ["start","end","board","day"] [none,none,none,some 0] (BlkOk.of rfl rfl (SubL.to (subC rfl subN)) rfl) rfl (qi_list (qv 1)) (fun _ _ _ _=>(qg_tupK (n:=3) K rfl rfl (qgs_cons (qg_name (i:=0) (show (["start","end","board","day"]:List Str).Nodup by decide) rfl (Or.inl rfl)) (qgs_cons (qg_name (i:=1) (show (["start","end","board","day"]:List Str).Nodup by decide) rfl (Or.inl rfl)) (qgs_cons (qg_name (i:=2) (show (["start","end","board","day"]:List Str).Nodup by decide) rfl (Or.inl rfl)) qgs_nil))))) (fun _ _ _ _=>(qe_tup (qa_c (qv 0) (qa_c (qv 1) (qa_c (qe_fn C_clock_of hr rfl (qa_c (qv 3) (qa_c (qv 2) qa_nil))) qa_nil)))))))),?_⟩
 try dsimp only [cx_k,cx_kn,as_nil,as_name,Nat.reduceAdd]
 obtain ⟨ws,hw1,hw2,hw3⟩:=hN.la.lst
 rw [List.length_map] at hw2
 refine ⟨_,rfl,pr,rfl,⟨_,SqL.of hw1⟩,?_⟩
 refine comp_list0 (K:=K) (a:=pr) (xs:=ws) (fun D i H'=>Same H H'/\∃ F,FA H' D F/\(∀ m∈F,m.2.2.1 ≠ D)/\Fords d (N.take i) F) (fun D hD=>⟨same_new hD _,[],⟨LA.nil upd_same,fun m hm=>by cases hm⟩,(fun m hm=>by cases hm),by simp,fun i m f a b=>by simp at b⟩) (fun D i H' _ _ h=>SqL.of (h.1 _ _ hw1)) ?_ ?_
 ·intro D i y H' hD hi z9;obtain ⟨sD,F,hF,hne,fo⟩ := z9
  obtain ⟨r,x,rfl,ex,er⟩:=hw3 i y hi
  have hi2:i < N.length:=by
   have:=(List.getElem?_eq_some_iff.mp hi).1
   omega
  have em:=List.getElem?_eq_getElem hi2
  rw [List.getElem?_map,em] at ex
  cases ex
  have hm:=List.getElem_mem hi2
  have hb:=(hN.bd _ hm).1
  generalize N[i]=m at *
  refine ⟨r,_,rfl,SqT.of (sD _ _ er),rfl,_,_,rfl,_,_,rfl,_,_,rfl,rfl,fun k v e=>?_,?_⟩
  ·match k,e with
   | 0,e=>cases e
   | 1,e=>cases e
   | 2,e=>cases e
   | 3,e=>exact e
   | k+4,e=>cases e
  have lb:=(ok.all m hm).2.2.1
  refine ⟨_,rfl,_,rfl,_,rfl,_,rfl,d,m.2.2.1,m.2.2.2,rfl,hb.same sD,by omega,hd,ok.wins hm,fun l R' H1 s1 f1 la1 l1 ck1 e1=>?_⟩
  refine ⟨(by show 3<=sizeLine; decide),fun rr hrr=>?_⟩
  generalize hgH2:upd _ rr _=H2
  obtain ⟨s2,e2⟩:=fresh_of hrr hgH2
  clear hgH2
  have s12:=s1.trans s2
  obtain ⟨vs,hv1,hv2,_⟩:=(hF.u (SameU.of s12)).la.lst
  have ml:F.length=i:=by rw [fo.1,List.length_take]; omega
  rw [List.length_map] at hv2
  have nlD:l ≠ D:=fun z=>by
   obtain ⟨us,u1,_⟩:=hF.la.lst
   rw [z,u1] at f1
   cases f1
  refine ⟨_,hv1,line_of (by omega),same_wr hD (sD.trans s12),F ++ [(m.1,m.2.1,l,R')],⟨?_,fun x hx=>?_⟩,fun x hx=>?_,?_,fun j a b ha hb'=>?_⟩
  ·rw [List.map_append]
   exact (hF.u (SameU.of s12)).la.append (x:=(m.1,m.2.1,l)) hv1 e2
  ·rcases List.mem_append.mp hx with hx | hx
   ·exact la_clear ((hF.u (SameU.of s12)).bd x hx) hv1 (hne x hx)
   ·rw [List.mem_singleton] at hx
    subst hx
    exact la_clear (la1.same s2) hv1 nlD
  ·rcases List.mem_append.mp hx with hx | hx
   ·exact hne x hx
   ·rw [List.mem_singleton] at hx
    subst hx
    exact nlD
  ·rw [List.length_append,ml,List.length_take]
   simp
   omega
  ·rw [take_snocB em] at ha
   rcases Nat.lt_or_ge j i with z | z
   ·rw [List.getElem?_append_left (by simp; omega)] at ha
    rw [List.getElem?_append_left (by omega)] at hb'
    exact fo.2 j a b ha hb'
   ·have:=(List.getElem?_eq_some_iff.mp hb').1
    simp at this
    have ej:j=i:=by omega
    subst ej
    rw [List.getElem?_append_right (by simp; omega),List.length_take,show j - min j N.length=0 by omega] at ha
    rw [List.getElem?_append_right (by omega),ml,Nat.sub_self] at hb'
    cases ha
    cases hb'
    exact ⟨rfl,rfl,ck1,l1,e1⟩
 ·intro D H' hD z9;obtain ⟨sD,F,hF,hne,fo⟩ := z9
  rw [hw2,List.take_length] at fo
  exact q D F H' sD hF fo
theorem ok_copied (F:Fun K "copied_table" "copied_table" st_copied_table f fd) (B:Bl mg):FnOk P w K mg base CX0 (n+1) f fd ["told"] spCopied:=by
 refine F.okQ sc_copied_table (fun vs H Q E h=>?_) (fun cdv A outer s H vs Q E hr h=>?_)
 ·obtain ⟨_,_,rfl,_⟩:=h
  rfl
 obtain ⟨p,Cs,rfl,hB,hl,q⟩:=h
 refine ⟨_,(qss_one (qs_ret (qe_comp ["clock"] [none] (BlkOk.of rfl rfl (SubL.to subN) rfl) rfl (qi_list (qv 0)) (fun _ _ _ _=>(qg_name (i:=0) (show (["clock"]:List Str).Nodup by decide) rfl (Or.inl rfl))) (fun _ _ _ _=>(qe_ct (qcall_listK K rfl) rfl B.list_ bt_list (qa_c (qv 0) qa_nil)))))),?_⟩
 try dsimp only [cx_k,cx_kn,as_nil,as_name,Nat.reduceAdd]
 obtain ⟨rs,h1,h2,h3,h4,h5⟩:=id hB
 refine ⟨_,rfl,p,rfl,⟨_,SqL.of h1⟩,?_⟩
 exact comp_copy hB hl q
theorem ok_staying (F:Fun K "staying" "staying" st_staying f fd) (B:Bl mg) (C_standing:Callee P w K mg base n "standing" ["day"] spStand):FnOk P w K mg base CX0 (n+1) f fd ["day","size","place"] spStaying:=by
 refine F.okQ sc_staying (fun vs H Q E h=>?_) (fun cdv A outer s H vs Q E hr h=>?_)
 ·obtain ⟨_,_,_,rfl,_⟩:=h
  rfl
 obtain ⟨d,m,p,rfl,ml,q⟩:=h
 refine ⟨_,(qss_one (qs_ret (qe_comp ["number","day","place"] [none,some 0,some 2] (BlkOk.of rfl rfl (SubL.to (subC rfl (subC rfl subN))) rfl) rfl (qi_range1 rfl B.range (qa_c (qv 1) qa_nil)) (fun _ _ _ _=>(qg_name (i:=0) (show (["number","day","place"]:List Str).Nodup by decide) rfl (Or.inl rfl))) (fun _ _ _ _=>(qe_cut (qe_ifExp (qt_cmpR qop_eq (qv 0) (qv 2) (nomark _)) (qe_fn C_standing hr rfl (qa_c (qv 1) qa_nil)) (qe_lst qa_nil))))))),?_⟩
 try dsimp only [cx_k,cx_kn,as_nil,as_name,Nat.reduceAdd]
 refine ⟨_,rfl,(m:Int),rfl,by omega,by omega,?_⟩
 have mt:((m:Nat):Int).toNat=m:=by omega
 refine comp_range0 (lo:=0) (n:=((m:Nat):Int).toNat) (fun D i H'=>Same H H'/\BA H' D (stay d i p)/\Yg H H' D) (fun D hD=>⟨same_new hD _,BA.nil upd_same,Yg.of (rs:=[]) upd_same (fun r hr=>by cases hr)⟩) ?_ ?_
 ·intro D i H' hD hi z9;obtain ⟨sD,hB,hY⟩ := z9
  refine ⟨fun k v e=>?_,?_⟩
  ·match k,e with
   | 0,e=>cases e
   | 1,e=>exact e
   | 2,e=>exact e
   | k+3,e=>cases e
  have fin:∀ (l:Addr) (C:List T3) (H1:Hp),Same H' H1->H' l=none->LA enc3 H1 l C->C=(if (i:Int)=p then [(0,d - 1,0)] else [])->∃ ys,H1 D=some (.lst ys)/\ys.length < sizeLine/\Same H (upd H1 D (.lst (ys ++ [.ref l])))/\BA (upd H1 D (.lst (ys ++ [.ref l]))) D (stay d (i+1) p)/\Yg H (upd H1 D (.lst (ys ++ [.ref l]))) D:=fun l C H1 s1 fl hC eC=>by
   obtain ⟨os,o1,o2,o3,o4,o5⟩:=id hB
   have hol:os.length=i:=by rw [o2]; simp [stay]
   have nlD:l ≠ D:=fun z=>by rw [z,o1] at fl; cases fl
   have nlo:l ∉ os:=fun z=>by
    obtain ⟨j,hj⟩:=List.getElem?_of_mem z
    have lj:=(List.getElem?_eq_some_iff.mp hj).1
    exact la_ne (enc':=enc3) (o5 j l _ hj (List.getElem?_eq_getElem (by omega))) fl rfl
   refine ⟨_,s1 _ _ o1,line_of (by simp; omega),same_wr hD (sD.trans s1),?_,Yg.of (rs:=os ++ [l]) (by rw [upd_same]; simp) fun r hr=>?_⟩
   ·have:=(hB.u (SameU.of s1)).snoc (s1 _ _ o1) hC nlD nlo
    have e:stay d (i+1) p=stay d i p ++ [C]:=by
     unfold stay
     rw [List.range_succ,List.map_append,eC]
     rfl
    rw [e]
    exact this
   ·rcases List.mem_append.mp hr with hr | hr
    ·exact hY os o1 r hr
    ·rw [List.mem_singleton] at hr
     subst hr
     exact sD.free fl
  rw [show (0:Int)+((i:Nat):Int)=(i:Int) by omega]
  refine ⟨fun v H1=>∃ (l:Addr) (C:List T3),v=.ref l/\Same H' H1/\H' l=none/\LA enc3 H1 l C/\C=(if (i:Int)=p then [(0,d - 1,0)] else []),?_,?_⟩
  ·refine ⟨_,rfl,_,rfl,rfl,_,rfl,ite2 (fun c=>?_) (fun c=>?_)⟩
   ·have c':(i:Int)=p:=by
     have:=of_decide_eq_true c
     injection this
    refine ⟨_,rfl,d,rfl,fun l H1 s1 f1 la1=>⟨l,_,rfl,s1,f1,la1,by rw [if_pos c']⟩⟩
   ·have c':¬ (i:Int)=p:=fun z=>c (decide_eq_true (by rw [z]))
    refine ⟨(by show 0<=sizeLine; decide),fun l hl=>⟨l,[],rfl,same_new hl _,hl,LA.nil upd_same,by rw [if_neg c']⟩⟩
  intro v H1 z9;obtain ⟨l,C,rfl,s1,f1,la1,eC⟩ := z9
  exact fin l C H1 s1 f1 la1 eC
 ·intro D H' hD z9;obtain ⟨sD,hB,hY⟩ := z9
  rw [mt] at hB
  exact q D H' sD hD hB hY
theorem ok_ride_first (hTB:TB T) (F:Fun K "ride_first" "ride_first" st_ride_first f fd) (C_copied_table:Callee P w K mg base n "copied_table" ["told"] spCopied) (C_sooner:Callee P w K mg base n "sooner" ["day","one","other"] (spTwo Ma.omin)) (C_behind:Callee P w K mg base n "behind" ["day","one","other"] (spBehind T)):FnOk P w K mg base CX0 (n+1) f fd ["day","fords","told"] (spRide T stepT):=by
 refine F.okQ sc_ride_first (fun vs H Q E h=>?_) (fun cdv A outer s H vs Q E hr h=>?_)
 ·obtain ⟨_,_,_,_,_,_,_,rfl,_⟩:=h
  rfl
 obtain ⟨d,pF,F,pt,Cs,M,m,rfl,hF,hB,hT,fok,tok,b1,b2,nl,q⟩:=h
 refine ⟨_,(qss_cons (qs_set (i:=3) sc_ride_first.nd rfl (Or.inl rfl) (qe_fn C_copied_table hr rfl (qa_c (qv 2) qa_nil))) (qss_cons (qs_for PassesOwn.never rfl (qi_list (qv 1)) (qg_tup rfl (qgs_cons (qg_name (i:=4) sc_ride_first.nd rfl (Or.inl rfl)) (qgs_cons (qg_name (i:=5) sc_ride_first.nd rfl (Or.inl rfl)) (qgs_cons (qg_name (i:=6) sc_ride_first.nd rfl (Or.inl rfl)) qgs_nil)))) (qss_one (qs_asg (qe_fn C_sooner hr rfl (qa_c (qv 0) (qa_c (qe_ix qix_list (qv 3) (qv 4) (fun _ _=>rfl)) (qa_c (qe_fn C_behind hr rfl (qa_c (qv 0) (qa_c (qv 6) (qa_c (qe_ix qix_list (qv 2) (qv 5) (fun _ _=>rfl)) qa_nil)))) qa_nil)))) (qg_sub (qv 3) (qv 4) set_list)))) (qss_one (qs_ret (qv 3))))),?_⟩
 try dsimp only [cx_k,cx_kn,as_nil,as_name,Nat.reduceAdd]
 refine ⟨_,rfl,pt,Cs,rfl,hB,nl,fun pn H1 s1 f1 B1 Y1=>?_⟩
 have u1:=SameU.of s1
 obtain ⟨ws,hw1,hw2,hw3⟩:=hF.la.lst
 rw [List.length_map] at hw2
 refine ⟨_,rfl,pF,rfl,⟨_,SqL.of (s1 _ _ hw1)⟩,for_list (K:=K) (a:=pF) (xs:=ws)
  (fun i σ H'=>∃ (Ds:Tb) (v4 v5 v6:Option V),σ=[some (.int d),some (.ref pF),some (.ref pt),some (.ref pn),v4,v5,v6]/\SameU H H'/\T H'/\BA H' pn Ds/\Yg H H' pn/\Ds.length=Cs.length/\TOk d (M+i * (m+M)) Ds/\∀ p,0<=p->p < (Cs.length:Int)->∀ t,Ma.bt d (cl Ds p) t=ways d (F.take i) Cs p t (Ma.bt d (cl Cs p) t))
  ⟨Cs,_,_,_,rfl,u1,hTB.same _ _ hT s1,B1,Y1,rfl,by simpa using tok,fun p _ _ t=>rfl⟩ (fun i σ H' _ ⟨_,_,_,_,_,u,_⟩=>SqL.of (u.lst hw1)) ?_ ?_⟩
 ·intro i y σ H2 hi z9;obtain ⟨Ds,v4,v5,v6,rfl,u2,t2,B2,Y2,l2,tok2,e2⟩ := z9
  obtain ⟨r,x,rfl,ex,er⟩:=hw3 i y hi
  have hi2:i < F.length:=by
   have:=(List.getElem?_eq_some_iff.mp hi).1
   omega
  have em:=List.getElem?_eq_getElem hi2
  rw [List.getElem?_map,em] at ex
  cases ex
  have hm:=List.getElem_mem hi2
  generalize F[i]=g at *
  obtain ⟨⟨a0,a1⟩,⟨b0,b1'⟩,mu⟩:=fok g hm
  refine ⟨r,_,rfl,SqT.of (u2.tup er),rfl,_,_,rfl,_,_,rfl,_,_,rfl,rfl,?_⟩
  obtain ⟨rs,rc,r1,r2,r3,r4,r5⟩:=B2.at a0 (by rw [l2]; exact a1)
  obtain ⟨ts,tc,q1,q2,q3,q4,q5⟩:=(hB.u u2).at b0 b1'
  have muD:=tok2 _ (cl_mem a0 (by rw [l2]; exact a1))
  have muC:=tok _ (cl_mem b0 b1')
  have lg:=mu.len
  have lC:=muC.len
  have lD:=muD.len
  have im:M+i * (m+M)<=M+F.length * (m+M):=Nat.add_le_add_left (Nat.mul_le_mul_right _ (by omega)) _
  have im2:M+(i+1) * (m+M)<=M+F.length * (m+M):=Nat.add_le_add_left (Nat.mul_le_mul_right _ (by omega)) _
  have ie:M+(i+1) * (m+M)=M+i * (m+M)+(m+M):=by rw [Nat.add_mul,Nat.one_mul]; omega
  have bnd:(2 * g.2.2.2.length+1) * (2 * (cl Cs g.2.1).length+2)<=16000000:=Nat.le_trans (Nat.mul_le_mul (by omega) (by omega)) b2
  refine ⟨_,rfl,_,rfl,_,rfl,pn,_,_,_,rfl,rfl,SqL.of r1,r2,_,rfl,_,rfl,_,rfl,_,rfl,pt,_,_,_,rfl,rfl,SqL.of q1,q2,d,g.2.2.1,tc,g.2.2.2,cl Cs g.2.1,rfl,(hF.u u2).bd g hm,q5,t2,by omega,by omega,bnd,mu.1,muC.1,fun l3 R3 H3 u3 t3 f3 la3 _ ck3 e3=>?_⟩
  have mu3:=Ma.MuR.bind ck3 mu muC e3
  have l3':=mu3.len
  refine ⟨d,rc,l3,cl Ds g.1,R3,rfl,r5.u u3,la3,by omega,by omega,muD.1,ck3,fun l4 R4 H4 s4 f4 la4 _ ck4 e4=>?_⟩
  have mu4:=Ma.MuR.min ck4 muD mu3 e4
  have u24:=u3.trans (SameU.of s4)
  have r14:=u24.lst r1
  have nlp:l4 ≠ pn:=fun z=>by rw [z,u3.lst r1] at f4; cases f4
  have nlr:l4 ∉ rs:=fun z=>by
   obtain ⟨rs',x1,x2,x3,x4,x5⟩:=B2.u u3
   rw [u3.lst r1] at x1
   have:=ref_inj (Option.some.inj x1)
   subst this
   obtain ⟨j,hj⟩:=List.getElem?_of_mem z
   have lj:=(List.getElem?_eq_some_iff.mp hj).1
   exact la_ne (enc':=enc3) (x5 j l4 _ hj (List.getElem?_eq_getElem (by omega))) f4 rfl
  refine ⟨_,rfl,_,rfl,pn,_,_,g.1.toNat,rfl,rfl,r14,ixN_pos a0 (by rw [List.length_map,r4,l2]; exact a1),?_⟩
  refine ⟨Ds.set g.1.toNat R4,_,_,_,rfl,SameU.wr f1 (u2.trans u24),hTB.wr _ _ _ _ (hTB.same _ _ t3 s4) r14,(B2.u u24).set r14 la4 nlp nlr (by omega),Yg.of (rs:=rs.set g.1.toNat l4) (by rw [upd_same,List.map_set]) fun r' hr'=>?_,by simp [l2],fun C hC=>?_,fun p p0 p1 t=>?_⟩
  ·rcases List.mem_or_eq_of_mem_set hr' with z | z
   ·exact Y2 rs r1 r' z
   ·subst z
    exact (u2.trans u3).free f4
  ·rw [ie]
   rcases List.mem_or_eq_of_mem_set hC with z | z
   ·exact (tok2 C z).le (by omega)
   ·subst z
    exact mu4
  ·rw [take_snocB em,ways_snoc,cl_set p0 (by rw [l2]; exact p1) a0 (by rw [l2]; exact a1)]
   by_cases z:g.1=p
   ·rw [if_pos z,if_pos z,e4,e2 g.1 a0 a1,e3,z]
   ·rw [if_neg z,if_neg z,e2 p p0 p1]
 ·intro σ H2 z9;obtain ⟨Ds,v4,v5,v6,rfl,u2,t2,B2,Y2,l2,tok2,e2⟩ := z9
  rw [hw2] at tok2 e2
  rw [List.take_length] at e2
  exact ⟨_,rfl,q pn Ds H2 u2 t2 f1 B2 Y2 l2 tok2 e2⟩
end
noncomputable def TL (H0 H:Hp) (p:Addr) (Ts:List Tb):Prop:=∃ qs:List (Addr × List Addr),H p=some (.lst (qs.map fun q=>V.ref q.1))/\qs.length=Ts.length/\(p :: qs.flatMap fun q=>q.1 :: q.2).Nodup/\(∀ a∈p :: qs.flatMap fun q=>q.1 :: q.2,H0 a=none) /\
 ∀ (i:Nat) q B,qs[i]?=some q->Ts[i]?=some B->H q.1=some (.lst (q.2.map V.ref))/\q.2.length=B.length/\∀ (j:Nat) r C,q.2[j]?=some r->B[j]?=some C->LA enc3 H r C
section
variable {H0 H H':Hp} {p:Addr} {Ts:List Tb}
theorem TL.u (h:TL H0 H p Ts) (s:SameU H H'):TL H0 H' p Ts:=by
 obtain ⟨qs,e1,e2,e3,e4,e5⟩:=h
 exact ⟨qs,s.lst e1,e2,e3,e4,fun i q B a b=>⟨s.lst (e5 i q B a b).1,(e5 i q B a b).2.1,fun j r C x y=>((e5 i q B a b).2.2 j r C x y).u s⟩⟩
theorem TL.live {qs:List (Addr × List Addr)} (e1:H p=some (.lst (qs.map fun q=>V.ref q.1))) (e2:qs.length=Ts.length) (e5:∀ (i:Nat) q B,qs[i]?=some q->Ts[i]?=some B->H q.1=some (.lst (q.2.map V.ref))/\q.2.length=B.length/\∀ (j:Nat) r C,q.2[j]?=some r->B[j]?=some C->LA enc3 H r C) :
  ∀ a∈p :: qs.flatMap fun q=>q.1 :: q.2,H a ≠ none:=fun a ha z=>by
 rcases List.mem_cons.mp ha with e | e
 ·rw [e,e1] at z
  cases z
 ·obtain ⟨q,hq,hm⟩:=List.mem_flatMap.mp e
  obtain ⟨i,hi⟩:=List.getElem?_of_mem hq
  have lt:=(List.getElem?_eq_some_iff.mp hi).1
  obtain ⟨g1,g2,g3⟩:=e5 i q _ hi (List.getElem?_eq_getElem (by omega))
  rcases List.mem_cons.mp hm with e | e
  ·rw [e,g1] at z
   cases z
  ·obtain ⟨j,hj⟩:=List.getElem?_of_mem e
   have lj:=(List.getElem?_eq_some_iff.mp hj).1
   exact la_ne (enc':=enc3) (g3 j a _ hj (List.getElem?_eq_getElem (by omega))) z rfl
theorem TL.old {H1:Hp} (h:TL H1 H p Ts) (s:SameU H0 H1):TL H0 H p Ts:=by
 obtain ⟨qs,e1,e2,e3,e4,e5⟩:=h
 exact ⟨qs,e1,e2,e3,fun a ha=>s.free (e4 a ha),e5⟩
theorem TL.lst (h:TL H0 H p Ts):∃ xs:List V,H p=some (.lst xs)/\xs.length=Ts.length:=by
 obtain ⟨qs,e1,e2,_⟩:=h
 exact ⟨_,e1,by simp [e2]⟩
theorem TL.at {i:Nat} {B:Tb} {xs:List V} (h:TL H0 H p Ts) (hx:H p=some (.lst xs)) (hi:Ts[i]?=some B):∃ q:Addr,xs[i]?=some (.ref q)/\BA H q B/\H0 q=none/\Yg H0 H q/\q ≠ p:=by
 obtain ⟨qs,e1,e2,e3,e4,e5⟩:=h
 rw [e1] at hx
 cases hx
 have lt:=(List.getElem?_eq_some_iff.mp hi).1
 have hq:qs[i]?=some (qs[i]'(by omega)):=List.getElem?_eq_getElem (by omega)
 have hm:=List.mem_of_getElem? hq
 generalize qs[i]'(by omega)=q at hq hm
 obtain ⟨g1,g2,g3⟩:=e5 i q B hq hi
 have fm:∀ a∈q.1 :: q.2,a∈qs.flatMap fun q=>q.1 :: q.2:=fun a ha=>List.mem_flatMap.mpr ⟨q,hm,ha⟩
 have nd:(q.1 :: q.2).Nodup:=by
  have:=(List.nodup_cons.mp e3).2
  obtain ⟨as,bs,rfl⟩:=List.append_of_mem hm
  rw [List.flatMap_append,List.flatMap_cons] at this
  exact (List.nodup_append.mp ((List.nodup_append.mp this).2.1)).1
 obtain ⟨nd1,nd2⟩:=List.nodup_cons.mp nd
 refine ⟨q.1,by rw [List.getElem?_map,hq]; rfl,⟨q.2,g1,g2,nd1,nd2,g3⟩,e4 _ (List.mem_cons_of_mem _ (fm _ (List.mem_cons_self ..))),Yg.of g1 fun r hr=>e4 _ (List.mem_cons_of_mem _ (fm _ (List.mem_cons_of_mem _ hr))),fun z=>?_⟩
 exact (List.nodup_cons.mp e3).1 (z ▸ fm _ (List.mem_cons_self ..))
theorem TL.one {q:Addr} {B:Tb} (hB:BA H q B) (hp:H p=none) (fp:H0 p=none) (fq:H0 q=none) (Y:Yg H0 H q):TL H0 (upd H p (.lst [.ref q])) p [B]:=by
 obtain ⟨rs,b1,b2,b3,b4,b5⟩:=hB
 have fr:=Y rs b1
 have nq:q ≠ p:=fun z=>by rw [z,hp] at b1; cases b1
 have nr:p ∉ rs:=fun z=>by
  obtain ⟨j,hj⟩:=List.getElem?_of_mem z
  have lj:=(List.getElem?_eq_some_iff.mp hj).1
  exact la_ne (enc':=enc3) (b5 j p _ hj (List.getElem?_eq_getElem (by omega))) hp rfl
 refine ⟨[(q,rs)],upd_same,rfl,?_,fun a ha=>?_,fun i q' B' a b=>?_⟩
 ·show (p :: (q :: rs ++ [])).Nodup
  rw [List.append_nil]
  refine List.nodup_cons.mpr ⟨fun z=>?_,List.nodup_cons.mpr ⟨b3,b4⟩⟩
  rcases List.mem_cons.mp z with e | e
  ·exact nq e.symm
  ·exact nr e
 ·have ha:a∈p :: (q :: rs ++ []):=ha
  rw [List.append_nil] at ha
  rcases List.mem_cons.mp ha with e | e
  ·rw [e]; exact fp
  ·rcases List.mem_cons.mp e with e | e
   ·rw [e]; exact fq
   ·exact fr a e
 ·match i,a,b with
  | 0,a,b =>
   cases a
   cases b
   exact ⟨by rw [upd_ne nq]; exact b1,b2,fun j r C x y=>(b5 j r C x y).same (same_new hp _)⟩
  | i+1,a,b=>simp at a
theorem atI_back {α:Type} {xs:List α} {k:Nat} (h1:1<=k) (h2:k<=xs.length):atI xs (-(k:Int))=xs[xs.length - k]?:=by
 unfold atI ixN
 rw [if_neg (by omega),if_pos (by omega)]
 show xs[(-(k:Int)+(xs.length:Int)).toNat]?=_
 congr 1
 omega
theorem TL.snoc {Ha:Hp} {q:Addr} {B:Tb} {xs:List V} (h:TL H0 Ha p Ts) (s:SameU Ha H) (fq:Ha q=none) (hB:BA H q B) (hY:Yg Ha H q) (u:SameU H0 Ha) (hx:H p=some (.lst xs)):TL H0 (upd H p (.lst (xs ++ [.ref q]))) p (Ts ++ [B]):=by
 obtain ⟨qs,e1,e2,e3,e4,e5⟩:=h
 have lv:=TL.live e1 e2 e5
 obtain ⟨rs,b1,b2,b3,b4,b5⟩:=hB
 have fr:=hY rs b1
 rw [s.lst e1] at hx
 cases hx
 have ap:∀ a∈q :: rs,a ≠ p/\a ∉ (qs.flatMap fun q=>q.1 :: q.2)/\Ha a=none:=fun a ha=>by
  have z:Ha a=none:=by
   rcases List.mem_cons.mp ha with e | e
   ·rw [e]; exact fq
   ·exact fr a e
  exact ⟨fun y=>lv a (by rw [y]; exact List.mem_cons_self ..) z,fun y=>lv a (List.mem_cons_of_mem _ y) z,z⟩
 have hp:∀ {r:Addr} {C:List T3},r ≠ p->LA enc3 H r C->LA enc3 (upd H p (.lst ((qs.map fun q=>V.ref q.1) ++ [.ref q]))) r C:=fun n h=>la_clear h (s.lst e1) n
 refine ⟨qs ++ [(q,rs)],by rw [upd_same,List.map_append]; rfl,by simp [e2],?_,fun a ha=>?_,fun i q' B' a b=>?_⟩
 ·obtain ⟨n1,n2⟩:=List.nodup_cons.mp e3
  rw [List.flatMap_append,List.flatMap_cons,List.flatMap_nil,List.append_nil]
  refine List.nodup_cons.mpr ⟨fun z=>?_,List.nodup_append.mpr ⟨n2,List.nodup_cons.mpr ⟨b3,b4⟩,fun a ha b hb e=>(ap b hb).2.1 (e ▸ ha)⟩⟩
  rcases List.mem_append.mp z with z | z
  ·exact n1 z
  ·exact (ap p z).1 rfl
 ·rw [List.flatMap_append,List.flatMap_cons,List.flatMap_nil,List.append_nil] at ha
  rcases List.mem_cons.mp ha with e | e
  ·exact e4 a (by rw [e]; exact List.mem_cons_self ..)
  ·rcases List.mem_append.mp e with e | e
   ·exact e4 a (List.mem_cons_of_mem _ e)
   ·exact u.free (ap a e).2.2
 ·rcases Nat.lt_or_ge i qs.length with z | z
  ·rw [List.getElem?_append_left z] at a
   rw [List.getElem?_append_left (by omega)] at b
   obtain ⟨g1,g2,g3⟩:=e5 i q' B' a b
   have hm:=List.mem_of_getElem? a
   have np:∀ x∈q'.1 :: q'.2,x ≠ p:=fun x hx e=>(List.nodup_cons.mp e3).1 (e ▸ List.mem_flatMap.mpr ⟨q',hm,hx⟩)
   exact ⟨by rw [upd_ne (np _ (List.mem_cons_self ..))]; exact s.lst g1,g2,fun j r C x y=>hp (np r (List.mem_cons_of_mem _ (List.mem_of_getElem? x))) ((g3 j r C x y).u s)⟩
  ·have lt:=(List.getElem?_eq_some_iff.mp a).1
   simp at lt
   have ei:i=qs.length:=by omega
   subst ei
   rw [List.getElem?_append_right (Nat.le_refl _),Nat.sub_self] at a
   rw [List.getElem?_append_right (by omega),show qs.length - Ts.length=0 by omega] at b
   cases a
   cases b
   exact ⟨by rw [upd_ne (ap q (List.mem_cons_self ..)).1]; exact b1,b2,fun j r C x y=>hp (ap r (List.mem_cons_of_mem _ (List.mem_of_getElem? x))).1 (b5 j r C x y)⟩
end
noncomputable def spStep (T:Hp->Prop) (stp:Int->List RdT->Tb->Int->Int->Option Int) (qual:Str) (v1 v2:V) (c':Addr):Sp:=match v1,v2 with
 | .int d,.ref pF=>fun vs H Q E=>H c'=some (.ext (CodeQ c' qual))/\∃ pt:Addr,vs=[.ref pt]/\spRide T stp [.int d,.ref pF,.ref pt] H Q E
 | _,_=>fun _ _ _ _=>False
structure TsOk (d:Int) (n:Nat) (p:Int) (F:List RdT) (m:Nat) (stp:Int->List RdT->Tb->Int->Int->Option Int) (Ts:List Tb):Prop where
 first:Ts[0]?=some (stay d n p)
 each:∀ (i:Nat) A,Ts[i]?=some A->A.length=n/\TOk d (mxT F.length m i) A
 grow:∀ (i:Nat) A B,Ts[i]?=some A->Ts[i+1]?=some B->∀ p,0<=p->p < (n:Int)->∀ t,Ma.bt d (cl B p) t=stp d F A p t
noncomputable def Few (f m n:Nat):Prop:=∀ k,k+1 < n->mxT f m (k+1)<=1000000/\(2 * (m+1)+2) * (2 * (mxT f m k+1)+2)<=16000000
noncomputable def spGrown (T:Hp->Prop) (stp:Int->List RdT->Tb->Int->Int->Option Int) (qual:Str) (v1 v2:V) (fl c':Addr):Sp:=match v1,v2 with
 | .int d,.ref pF=>fun vs H Q _=>∃ (n:Nat) (p:Int) (F:List RdT) (m:Nat),vs=[.int d,.int n,.int p,.ref fl]/\H c'=some (.ext (CodeQ c' qual))/\FA H pF F/\T H/\1<=n/\n<=1000/\0 < d/\FOk d n m F/\Few F.length m n /\
  ∀ (l:Addr) (Ts:List Tb) (H':Hp),SameU H H'->T H'->TL H H' l Ts->Ts.length=n->TsOk d n p F m stp Ts->Q (.ref l) H'
 | _,_=>fun _ _ _ _=>False
theorem stay_ok {d:Int} (hd:0 < d) {n:Nat} {p:Int}:TOk d 2 (stay d n p):=fun C hC=>by
 obtain ⟨i,_,rfl⟩:=List.mem_map.mp hC
 split
 ·exact Ma.mur_one (Ma.ck_still hd)
 ·exact Ma.mur_nil hd
section
variable {P:Program} {w:World} {K:PySem.W.Frag} {mg:Str->Option Value} {base:Heap} {f:Addr} {fd:FuncData} {n:Nat} {T:Hp->Prop}
theorem ok_grown {v1 v2:V} {fl c':Addr} {fdl:FuncData} {qual:Str} {stp:Int->List RdT->Tb->Int->Int->Option Int} (hTB:TB T) (F:Fun K "grown" "grown" st_grown f fd) (B:Bl mg) (C_staying:Callee P w K mg base n "staying" ["day","size","place"] spStaying) (C_copied_table:Callee P w K mg base n "copied_table" ["told"] spCopied)
  (G:FnOk P w K mg base CX0 n fl fdl ["told"] (spStep T stp qual v1 v2 c')) (bG:Binds K fdl ["told"] []) (ho:PySem.W.FnAt fl base):FnOk P w K mg base CX0 (n+1) f fd ["day","size","place","step"] (spGrown T stp qual v1 v2 fl c'):=by
 unfold spGrown
 split
 case h_2=>exact none_ok
 rename_i d pF
 refine F.okQ sc_grown (fun vs H Q E h=>?_) (fun cdv A outer s H vs Q E hr h=>?_)
 ·obtain ⟨_,_,_,_,rfl,_⟩:=h
  rfl
 obtain ⟨N,p,Fs,m,rfl,hc,hF,hT,N1,N2,hd,fok,few,q⟩:=h
 refine ⟨_,(qss_cons (qs_set (i:=4) sc_grown.nd rfl (Or.inl rfl) (qe_lst (qa_c (qe_fn C_staying hr rfl (qa_c (qv 0) (qa_c (qv 1) (qa_c (qv 2) qa_nil)))) qa_nil))) (qss_cons (qs_while PassesOwn.never (qt_cmpR qop_lt (qe_cb qcall_len rfl B.len bt_len (qa_c (qv 4) qa_nil)) (qv 1) (nomark _)) (qss_one (qs_if (qt_cut (QW.pt (qw_and (qt_cmpR qop_gt (qe_cb qcall_len rfl B.len bt_len (qa_c (qv 4) qa_nil)) qe_int (nomark _)) (qw_and1 (qt_cmpR (qop_eqD hr.units) (qe_ix qix_list (qv 4) (qe_neg qe_int) (fun _ _=>rfl)) (qe_ix qix_list (qv 4) (qe_neg qe_int) (fun _ _=>rfl)) (nomark _)))))) (qss_one (qs_expr (qe_append (qv 4) (qa_c (qe_fn C_copied_table hr rfl (qa_c (qe_ix qix_list (qv 4) (qe_neg qe_int) (fun _ _=>rfl)) qa_nil)) qa_nil)))) (qss_one (qs_expr (qe_append (qv 4) (qa_c ⟨pe_clo 3 G hr bG ho (qa_c (qe_ix qix_list (qv 4) (qe_neg qe_int) (fun _ _=>rfl)) qa_nil).run⟩ qa_nil))))))) (qss_one (qs_ret (qv 4))))),?_⟩
 try dsimp only [cx_k,cx_kn,as_nil,as_name,Nat.reduceAdd]
 refine ⟨_,rfl,_,rfl,_,rfl,d,N,p,rfl,N2,fun q0 H1 s1 f1 B1 Y1=>⟨(by show 1<=sizeLine; decide),fun pf hpf=>?_⟩⟩
 have L1:=TL.one (H0:=H) B1 hpf (s1.free hpf) f1 Y1
 have s12:=same_new hpf (.lst [.ref q0])
 have S2:=s1.trans s12
 have k0:stay d N p∈[stay d N p]:=List.mem_singleton.mpr rfl
 have ok1:TsOk d N p Fs m stp [stay d N p]:=⟨rfl,fun i A hA=>by
   match i,hA with
   | 0,hA =>
    cases hA
    exact ⟨by simp [stay],stay_ok hd⟩
   | i+1,hA=>simp at hA,fun i A B hA hB=>by simp at hB⟩
 generalize upd H1 pf (.lst [.ref q0])=H2 at *
 refine while_by (fun σ H'=>σ=[some (.int d),some (.int N),some (.int p),some (.ref fl),some (.ref pf)]/\SameU H H'/\T H'/\∃ Ts:List Tb,TL H H' pf Ts/\1<=Ts.length/\Ts.length<=N/\TsOk d N p Fs m stp Ts)
  (fun _ H'=>match H' pf with | some (.lst xs)=>N - xs.length | _=>0) ⟨rfl,SameU.of S2,hTB.same _ _ hT S2,_,L1,Nat.le_refl _,N1,ok1⟩ ?_ ?_
 ·intro σ H3 z9;obtain ⟨rfl,u3,t3,Ts,L3,l1,l2,ok⟩ := z9
  obtain ⟨xs,x1,xl⟩:=L3.lst
  refine ⟨_,rfl,pf,_,rfl,.inl (SqL.of x1),_,rfl,_,_,rfl,rfl,_,rfl,ite2 (fun c=>?_) (fun c=>?_)⟩
  ·have c':(xs.length:Int) < (N:Int):=of_decide_eq_true c
   have hA:Ts[Ts.length - 1]?=some (Ts[Ts.length - 1]'(by omega)):=List.getElem?_eq_getElem (by omega)
   generalize Ts[Ts.length - 1]'(by omega)=A at hA
   obtain ⟨qa,qa1,qa2,qa3,qa4,qa5⟩:=L3.at x1 hA
   obtain ⟨oA1,oA2⟩:=ok.each _ A hA
   have a1:atI xs (-1)=some (.ref qa):=by
    have:=atI_back (xs:=xs) (k:=1) (Nat.le_refl _) (by omega)
    rw [xl] at this
    exact this.trans qa1
   have mu0:∀ ys:List V,H3 pf=some (.lst ys)->ys=xs:=fun ys e=>by
    rw [x1] at e
    cases e
    rfl
   have fin:∀ (l:Addr) (B:Tb) (H4:Hp),SameU H3 H4->T H4->H3 l=none->BA H4 l B->Yg H3 H4 l->B.length=N->TOk d (mxT Fs.length m Ts.length) B->(∀ p,0<=p->p < (N:Int)->∀ t,Ma.bt d (cl B p) t=stp d Fs A p t)->∃ p_1 xs v,(V.ref pf:V)=.ref p_1/\[V.ref l]=[v]/\H4 p_1=some (.lst xs)/\xs.length < sizeLine /\
     ((([some (.int d),some (.int N),some (.int p),some (.ref fl),some (.ref pf)]:L2.St)=[some (.int d),some (.int N),some (.int p),some (.ref fl),some (.ref pf)]/\SameU H (upd H4 p_1 (.lst (xs ++ [v])))/\T (upd H4 p_1 (.lst (xs ++ [v])))/\∃ Ts:List Tb,TL H (upd H4 p_1 (.lst (xs ++ [v]))) pf Ts/\1<=Ts.length/\Ts.length<=N/\TsOk d N p Fs m stp Ts) /\
     (match upd H4 p_1 (.lst (xs ++ [v])) pf with | some (.lst xs)=>N - xs.length | _=>0) < (match H3 pf with | some (.lst xs)=>N - xs.length | _=>0)):=by
    intro l B H4 u4 t4 fl4 hB hY bl tB gB
    have x4:=u4.lst x1
    have L4:=L3.snoc u4 fl4 hB hY u3 x4
    obtain ⟨qs0,z1,_,_,z4,_⟩:=id L3
    have fpf:H pf=none:=z4 pf (List.mem_cons_self ..)
    refine ⟨pf,xs,_,rfl,rfl,x4,line_of (by omega),⟨rfl,SameU.wr fpf (u3.trans u4),hTB.wr _ _ _ _ t4 x4,Ts ++ [B],L4,by simp,by simp; omega,?_,?_,?_⟩,?_⟩
    ·rw [List.getElem?_append_left (by omega)]
     exact ok.first
    ·intro i C hC
     rcases Nat.lt_or_ge i Ts.length with z | z
     ·rw [List.getElem?_append_left z] at hC
      exact ok.each i C hC
     ·have:=(List.getElem?_eq_some_iff.mp hC).1
      simp at this
      have ei:i=Ts.length:=by omega
      subst ei
      rw [List.getElem?_append_right (Nat.le_refl _),Nat.sub_self] at hC
      cases hC
      exact ⟨bl,tB⟩
    ·intro i C D hC hD
     rcases Nat.lt_or_ge (i+1) Ts.length with z | z
     ·rw [List.getElem?_append_left (by omega)] at hC
      rw [List.getElem?_append_left z] at hD
      exact ok.grow i C D hC hD
     ·have:=(List.getElem?_eq_some_iff.mp hD).1
      simp at this
      have ei:i=Ts.length - 1:=by omega
      subst ei
      rw [List.getElem?_append_left (by omega),hA] at hC
      rw [List.getElem?_append_right (by omega),show Ts.length - 1+1 - Ts.length=0 by omega] at hD
      cases hC
      cases hD
      exact gB
    ·rw [upd_same,x1]
     show N - (xs ++ [V.ref l]).length < N - xs.length
     rw [List.length_append,List.length_singleton]
     omega
   have em:mxT Fs.length m Ts.length=mxT Fs.length m (Ts.length - 1)+Fs.length * (m+mxT Fs.length m (Ts.length - 1)):=by
    rw [show Ts.length=Ts.length - 1+1 by omega]
    rfl
   refine ⟨fun b H'=>H'=H3/\(b=true->∃ A',Ts[Ts.length - 1 - 1]?=some A'/\2<=Ts.length/\A'=A),?_,?_⟩
   ·refine ⟨_,rfl,pf,_,rfl,.inl (SqL.of x1),_,_,rfl,rfl,_,rfl,ite2 (fun c2=>?_) (fun c2=>⟨rfl,fun z=>by cases z⟩)⟩
    have c2':(1:Int) < (xs.length:Int):=of_decide_eq_true c2
    have hA':Ts[Ts.length - 1 - 1]?=some (Ts[Ts.length - 1 - 1]'(by omega)):=List.getElem?_eq_getElem (by omega)
    generalize Ts[Ts.length - 1 - 1]'(by omega)=A' at hA'
    obtain ⟨qb,qb1,qb2,qb3,qb4,qb5⟩:=L3.at x1 hA'
    have a2:atI xs (-2)=some (.ref qb):=by
     have:=atI_back (xs:=xs) (k:=2) (by omega) (by omega)
     rw [xl,show Ts.length - 2=Ts.length - 1 - 1 by omega] at this
     exact this.trans qb1
    refine ⟨_,rfl,_,rfl,pf,_,_,_,rfl,rfl,SqL.of x1,a1,_,rfl,_,rfl,pf,_,_,_,rfl,rfl,SqL.of x1,a2,_,_,qa2.rd,qb2.rd,shapedB _,shapedB _,_,rfl,rfl,fun z=>⟨A',hA',by omega,?_⟩⟩
    rw [eqv_list eqvB] at z
    exact (of_decide_eq_true z).symm
   intro b H3' z9;obtain ⟨rfl,hb⟩ := z9
   refine ite2 (fun cb=>?_) (fun cb=>?_)
   ·obtain ⟨A',hA',l2',rfl⟩:=hb cb
    refine ⟨_,rfl,.inl ⟨rfl,_,SqL.of x1⟩,_,rfl,_,rfl,pf,_,_,_,rfl,rfl,SqL.of x1,a1,qa,A',rfl,qa2,by omega,fun l H4 s4 f4 B4 Y4=>?_⟩
    refine fin l A' H4 (SameU.of s4) (hTB.same _ _ t3 s4) f4 B4 Y4 oA1 (oA2.le (by rw [em]; omega)) fun p' p0 p1 t=>?_
    exact ok.grow _ A' A' hA' (by rw [show Ts.length - 1 - 1+1=Ts.length - 1 by omega]; exact hA) p' p0 p1 t
   ·have fw:=few (Ts.length - 1) (by omega)
    rw [show Ts.length - 1+1=Ts.length by omega] at fw
    refine ⟨_,rfl,.inl ⟨rfl,_,SqL.of x1⟩,rfl,_,rfl,_,rfl,pf,_,_,_,rfl,rfl,SqL.of x1,a1,u3.1 _ _ hc (fun z y=>by cases y),qa,rfl,d,pF,Fs,qa,A,_,m,rfl,hF.u u3,qa2,t3,by rw [oA1]; exact fok,oA2,by rw [<- em]; exact fw.1,fw.2,by omega,fun l Ds H4 u4 t4 f4 B4 Y4 l4 tk4 e4=>?_⟩
    refine fin l Ds H4 u4 t4 f4 B4 Y4 (l4.trans oA1) (by rw [em]; exact tk4) fun p' p0 p1 t=>e4 p' p0 (by rw [oA1]; exact p1) t
  ·have c':¬ (xs.length:Int) < (N:Int):=fun z=>c (decide_eq_true z)
   exact ⟨_,rfl,q pf Ts H3 u3 t3 L3 (by omega) ok⟩
 ·intro σ H' Q1 Q2 hq z9;obtain ⟨v,e1,p1,ys,e2,e3,v2,e4,i,j,e5,e6,k,e7,q1⟩ := z9
  exact ⟨v,e1,p1,ys,e2,e3,v2,e4,i,j,e5,e6,k,e7,hq _ _ q1⟩
end
noncomputable def lamRet:Stmt->Expr
 | .Return (some (.Call _ [_,_,_,l] _ _)) _=>l
 | _=>.Constant .none 0 ⟨0,0,0,0⟩
theorem two_cells {y1 y2:Str} {c1 c2:Addr} (z:Str) (d:Addr) (e:([(y2,c2),(y1,c1)]:List (Str × Addr)).lookup z=some d):(z=y1/\d=c1)\/(z=y2/\d=c2):=by
 rw [List.lookup_cons] at e
 cases h:z == y2 with
 | true=>rw [h] at e; cases e; exact .inr ⟨eq_of_beq h,rfl⟩
 | false =>
  rw [h] at e
  exact .inl (only_one z d e)
theorem cells_inj {y1 y2:Str} {c1 c2:Addr} (ne:c1 ≠ c2) (x y:Str) (c:Addr) (h1:([(y2,c2),(y1,c1)]:List (Str × Addr)).lookup x=some c) (h2:([(y2,c2),(y1,c1)]:List (Str × Addr)).lookup y=some c):x=y:=by
 rcases two_cells x c h1 with ⟨a,b⟩ | ⟨a,b⟩ <;> rcases two_cells y c h2 with ⟨a',b'⟩ | ⟨a',b'⟩
 ·exact a.trans a'.symm
 ·exact absurd (b.symm.trans b') ne
 ·exact absurd (b'.symm.trans b) ne
 ·exact a.trans a'.symm
theorem free_has {y1 y2:Str} {c1 c2:Addr} {sc:Scope} (h:∀ y∈sc.names,y.2=.free->y.1=y1\/y.1=y2) (x:Str) (e:sc.names.lookup x=some .free):∃ d,([(y2,c2),(y1,c1)]:List (Str × Addr)).lookup x=some d:=by
 have hm:=PySem.mem_of_lookup e
 rw [List.lookup_cons]
 rcases h _ hm rfl with z | z
 ·have z:x=y1:=z
  cases h2:x == y2 with
  | true=>exact ⟨c2,rfl⟩
  | false =>
   refine ⟨c1,?_⟩
   rw [z,List.lookup_cons]
   simp
 ·have z:x=y2:=z
  rw [z]
  exact ⟨c2,by simp⟩
noncomputable abbrev lamT:Expr:=lamRet ((defBody st_rounds_to).getD 1 (.Pass ⟨0,0,0,0⟩))
theorem sc_lamT (c1 c2:Addr) (ne:c1 ≠ c2):LamScope ["told","day","fords"] ["told"] (lamSc lamT) [("fords",c2),("day",c1)]:=⟨rfl,rfl,rfl,by decide,rfl,by decide +kernel,by decide +kernel,free_has (by decide +kernel),cells_inj ne⟩
section
variable {P:Program} {w:World} {K:PySem.W.Frag} {mg:Str->Option Value} {base:Heap} {f g:Addr} {fd gd:FuncData} {n:Nat} {T:Hp->Prop}
theorem ok_lamT {v1 v2:V} {fl c' c1 c2:Addr} {pm ctv:Value} (ne:c1 ≠ c2) (hTB:TB T) (FG:Fun K "grown" "grown" st_grown g gd) (B:Bl mg) (C_staying:Callee P w K mg base (n+1) "staying" ["day","size","place"] spStaying) (C_copied_table:Callee P w K mg base (n+1) "copied_table" ["told"] spCopied) (C_ride_first:Callee P w K mg base n "ride_first" ["day","fords","told"] (spRide T stepT))
  (hfl:base.get? fl=some (PySem.W.kla_obj "<lambda>" (lamQ "rounds_to") (lamArgs lamT) (lamBody lamT) (lamSc lamT) [("fords",c2),("day",c1)] pm c' ctv)) (hca:Caught base (lamSc lamT) [("fords",c2),("day",c1)] ["told","day","fords"] ["told"] [v1,v2]) :
  FnOk P w K mg base CX0 (n+2) g gd ["day","size","place","step"] (spGrown T stepT (lamQ "rounds_to") v1 v2 fl c'):=by
 refine ok_grown (n:=n+1) hTB FG B C_staying C_copied_table (lam_ok (k:=n) (N:=["told","day","fords"]) (cs:=[v1,v2]) hfl (fun vs H Q E h=>?_) (sc_lamT c1 c2 ne) hca (fun vs H Q E h=>?_) (fun A outer s H vs Q E hr h=>?_)) (Binds.all fun us hl=>match us,hl with | [_],_=>rfl) ⟨_,_,_,_,hfl⟩
 all_goals unfold spStep at h
 all_goals split at h
 all_goals first | exact h.elim | skip
 ·exact h.1
 ·obtain ⟨_,_,rfl,_⟩:=h
  rfl
 ·obtain ⟨hc,pt,rfl,h⟩:=h
  refine ⟨_,pe_fn C_ride_first hr rfl (pa_c (pv 1) (pa_c (pv 2) (pa_c (pv 0) pa_nil))),?_⟩
  exact ⟨_,rfl,_,rfl,_,rfl,h⟩
end
noncomputable def spRounds (T:Hp->Prop):Sp:=fun vs H Q _=>∃ (d:Int) (n:Nat) (pr:Addr) (N:List RdT) (goal:Int) (m:Nat),vs=[.int d,.int n,.ref pr,.int goal]/\NA H pr N/\T H/\0 < d/\NetOk d n N/\1<=n/\n<=1000/\N.length<=1000/\(∀ x∈N,4 * x.2.2.2.length+2<=m)/\Few N.length m n/\0<=goal/\goal < (n:Int) /\
 ∀ (l:Addr) (F:List RdT) (Ts:List Tb) (H':Hp),SameU H H'->T H'->Fords d N F->TL H H' l Ts->Ts.length=n->TsOk d n goal F m stepT Ts->Q (.ref l) H'
section
variable {P:Program} {w:World} {K:PySem.W.Frag} {mg:Str->Option Value} {base:Heap} {f g:Addr} {fd gd:FuncData} {n:Nat} {T:Hp->Prop}
theorem ok_rounds_to {c P0:Addr} {oc kV doc pm ct:Value} {od an:Option Addr} {osl:Array (Option Value)} (lk:K.lookup f=some ⟨oc,od,.func (PySem.W.fnOf "rounds_to" "rounds_to" (defArgs st_rounds_to) (defBody st_rounds_to) (defScope st_rounds_to) .none kV doc pm an (.ref c) ct),osl⟩) (hcd:PySem.W.codeIn K (.ref c) "rounds_to" = true)
  (B:Bl mg) (hC:PySem.W.CodeHd base c P0) (hB:BMain mg base) (FG:Fun K "grown" "grown" st_grown g gd) (bG:Binds K gd ["day","size","place","step"] []) (mG:mg "grown" = some (.ref g)) (hTB:TB T) (h1:∀ H,T H->TabOk H P0 ⟨225,34,225,75⟩ (lamQ "rounds_to")) (h2:∀ H H',T H->SameT P0 H H'->TabOk H' P0 ⟨225,34,225,75⟩ (lamQ "rounds_to")->T H')
  (C_fords_of:Callee P w K mg base (n+2) "fords_of" ["day","roads"] spFordsOf) (C_staying:Callee P w K mg base (n+1) "staying" ["day","size","place"] spStaying) (C_copied_table:Callee P w K mg base (n+1) "copied_table" ["told"] spCopied) (C_ride_first:Callee P w K mg base n "ride_first" ["day","fords","told"] (spRide T stepT)) :
  FnOk P w K mg base CX0 (n+3) f (PySem.W.fnOf "rounds_to" "rounds_to" (defArgs st_rounds_to) (defBody st_rounds_to) (defScope st_rounds_to) .none kV doc pm an (.ref c) ct) ["day","size","roads","goal"] (spRounds T):=by
 refine fn_of lk hcd sc_rounds_to (fun vs H Q E h=>?_) (fun A outer s H vs Q E hr h=>?_)
 ·obtain ⟨_,_,_,_,_,_,rfl,_⟩:=h
  rfl
 obtain ⟨d,N,pr,Ns,goal,m,rfl,hN,hT,hd,nok,N1,N2,nl,lm,few,g0,g1,q⟩:=h
 refine ⟨_,PSs.nox (QSs.run (qss_cons (qs_set (i:=4) sc_rounds_to.nd rfl (Or.inr rfl) (qe_fn C_fords_of hr rfl (qa_c (qv 0) (qa_c (qv 2) qa_nil)))) (qss_one (qs_ret ⟨pe_lamcall4 (N:=["told","day","fords"]) (ps:=["told"]) 0 4 hr rfl mG FG.kp bG rfl rfl hC hB rfl rfl rfl (Or.inr (Or.inl rfl)) rfl rfl rfl rfl rfl (Or.inr (Or.inl rfl)) rfl rfl rfl two_cells rfl rfl rfl (pv 0) (pv 1) (pv 3) (fun base' fl c' v1 v2 pm ctv md hk hz hfl hca=>ok_lamT (Nat.ne_of_lt (Nat.lt_succ_self _)) hTB FG B (C_staying.widen md hk hz) (C_copied_table.widen md hk hz) (C_ride_first.widen md hk hz) hfl hca)⟩)))),?_⟩
 try dsimp only [cx_k,cx_kn,as_nil,as_name,Nat.reduceAdd]
 refine ⟨_,rfl,_,rfl,d,N,pr,Ns,rfl,hN,nl,hd,nok,fun pF F H1 s1 hF fo=>?_⟩
 have t1:=hTB.same _ _ hT s1
 refine ⟨_,_,rfl,rfl,_,rfl,_,rfl,_,rfl,h1 _ t1,fun fl c' H2 sm tb hc'=>?_⟩
 have u2:=SameU.tab sm (h1 _ t1) tb
 have u02:=(SameU.of s1).trans u2
 refine ⟨N,goal,F,m,rfl,hc',hF.u u2,h2 _ _ t1 sm tb,N1,N2,hd,fo.ok nok lm,by rw [fo.1]; exact few,fun l Ts H3 u3 t3 L3 l3 ok3=>?_⟩
 exact q l F Ts H3 (u02.trans u3) t3 fo (L3.old u02) l3 ok3
theorem ok_rounds (F:Fun K "rounds" "rounds" st_rounds f fd) (hTB:TB T) (C_need_net:Callee P w K mg base n "need_net" ["day","size","roads"] spNeedNet) (C_need_place:Callee P w K mg base n "need_place" ["size","thing"] spNeedPlace) (C_rounds_to:Callee P w K mg base n "rounds_to" ["day","size","roads","goal"] (spRounds T)):FnOk P w K mg base CX0 (n+1) f fd ["day","size","roads","goal"] (spRounds T):=by
 refine F.okQ sc_rounds (fun vs H Q E h=>?_) (fun cdv A outer s H vs Q E hr h=>?_)
 ·obtain ⟨_,_,_,_,_,_,rfl,_⟩:=h
  rfl
 obtain ⟨d,N,pr,Ns,goal,m,rfl,hN,hT,hd,nok,N1,N2,nl,lm,few,g0,g1,q⟩:=h
 refine ⟨_,(qss_cons (qs_expr (qe_fn C_need_net hr rfl (qa_c (qv 0) (qa_c (qv 1) (qa_c (qv 2) qa_nil))))) (qss_cons (qs_expr (qe_fn C_need_place hr rfl (qa_c (qv 1) (qa_c (qv 3) qa_nil)))) (qss_one (qs_ret (qe_fn C_rounds_to hr rfl (qa_c (qv 0) (qa_c (qv 1) (qa_c (qv 2) (qa_c (qv 3) qa_nil))))))))),?_⟩
 try dsimp only [cx_k,cx_kn,as_nil,as_name,Nat.reduceAdd]
 refine ⟨_,rfl,_,rfl,_,rfl,d,N,pr,Ns,rfl,hN,nl,nok,by omega,fun H1 s1=>?_⟩
 refine ⟨_,rfl,_,rfl,N,goal,rfl,g0,g1,?_⟩
 refine ⟨_,rfl,_,rfl,_,rfl,_,rfl,d,N,pr,Ns,goal,m,rfl,hN.same s1,hTB.same _ _ hT s1,hd,nok,N1,N2,nl,lm,few,g0,g1,fun l F Ts H2 u2 t2 fo Lq l2 ok2=>?_⟩
 exact q l F Ts H2 ((SameU.of s1).trans u2) t2 fo (Lq.old (SameU.of s1)) l2 ok2
end
noncomputable def Mn (S:Int->Prop) (o:Option Int):Prop:=(∀ y,o=some y->S y/\∀ z,S z->y<=z)/\(o=none->∀ z,¬ S z)
theorem Mn.dom {S S':Int->Prop} {a:Option Int} (h:Mn S a) (h1:∀ y,S y->S' y) (h2:∀ y,S' y->∃ x,x<=y/\S x):Mn S' a:=by
 refine ⟨fun y e=>⟨h1 y (h.1 y e).1,fun z s=>?_⟩,fun e z s=>?_⟩
 ·obtain ⟨x,l,sx⟩:=h2 z s
  have:=(h.1 y e).2 x sx
  omega
 ·obtain ⟨x,l,sx⟩:=h2 z s
  exact h.2 e x sx
theorem Mn.congr {S S':Int->Prop} {a:Option Int} (h:Mn S a) (e:∀ y,S y↔S' y):Mn S' a:=h.dom (fun y s=>(e y).mp s) fun y s=>⟨y,Int.le_refl _,(e y).mpr s⟩
theorem Mn.omin {S S':Int->Prop} {a b:Option Int} (h:Mn S a) (h':Mn S' b):Mn (fun y=>S y\/S' y) (Ma.omin a b):=by
 cases a with
 | none=>exact ⟨fun y e=>⟨.inr (h'.1 y e).1,fun z s=>s.elim (fun s=>absurd s (h.2 rfl z)) ((h'.1 y e).2 z)⟩,fun e z s=>s.elim (h.2 rfl z) (h'.2 e z)⟩
 | some x =>
  cases b with
  | none=>exact ⟨fun y e=>⟨.inl (h.1 y e).1,fun z s=>s.elim ((h.1 y e).2 z) fun s=>absurd s (h'.2 rfl z)⟩,fun e=>by cases e⟩
  | some x' =>
   obtain ⟨s1,s2⟩:=h.1 x rfl
   obtain ⟨t1,t2⟩:=h'.1 x' rfl
   refine ⟨fun y e=>?_,fun e=>by cases e⟩
   have e:(if x' < x then x' else x)=y:=Option.some.inj e
   split at e
   ·subst e
    exact ⟨.inr t1,fun z s=>s.elim (fun s=>by have:=s2 z s; omega) (t2 z)⟩
   ·subst e
    exact ⟨.inl s1,fun z s=>s.elim (s2 z) fun s=>by have:=t2 z s; omega⟩
theorem Mn.none {S:Int->Prop} (h:∀ z,¬ S z):Mn S none:=⟨fun y e=>(nomatch e),fun _=>h⟩
theorem Mn.one {S:Int->Prop} {x:Int} (h1:S x) (h2:∀ z,S z->x<=z):Mn S (some x):=⟨fun y e=>by cases e; exact ⟨h1,h2⟩,fun e=>by cases e⟩
theorem bt_up {d:Int} {C:List T3} (ck:Ma.CK d C) {t t' z:Int} (h:Ma.bt d C t=some z) (l:t'<=t):∃ z',Ma.bt d C t'=some z'/\z'<=z:=by
 have n0:C ≠ []:=fun e=>by rw [e] at h; cases h
 have T:=Ma.tells_bf (d:=d) n0
 have r:=ck.rise T
 rw [T t] at h
 cases h
 exact ⟨_,T t',r.mono _ _ l⟩
theorem bt_after {d:Int} {C:List T3} (ck:Ma.CK d C) {t z:Int} (h:Ma.bt d C t=some z):t<=z:=by
 have n0:C ≠ []:=fun e=>by rw [e] at h; cases h
 have T:=Ma.tells_bf (d:=d) n0
 rw [T t] at h
 cases h
 exact (ck.rise T).ge t
noncomputable def CkF (d:Int) (F:List RdT):Prop:=∀ m∈F,Ma.CK d m.2.2.2
noncomputable def Jo (d:Int) (F:List RdT):Nat->Int->Int->Int->Int->Prop
 | 0,p,t,q,y=>p=q/\t=y
 | k+1,p,t,q,y=>Jo d F k p t q y\/∃ m∈F,m.1=p/\∃ z,Ma.bt d m.2.2.2 t=some z/\Jo d F k m.2.1 z q y
theorem ways_mn {d:Int} {A:Tb} {p t:Int} {S:Int->Int->Int->Prop}:∀ {F:List RdT} {o:Option Int} {S0:Int->Prop},Mn S0 o->(∀ m∈F,∀ z,Mn (S m.2.1 z) (Ma.bt d (cl A m.2.1) z))->Mn (fun y=>S0 y\/∃ m∈F,m.1=p/\∃ z,Ma.bt d m.2.2.2 t=some z/\S m.2.1 z y) (ways d F A p t o)
 | [],o,S0,h,_=>h.congr fun y=>⟨.inl,fun s=>s.elim id fun ⟨m,hm,_⟩=>by cases hm⟩
 | m :: F,o,S0,h,hS=>by
  have hF:=fun x hx=>hS x (List.mem_cons_of_mem _ hx)
  by_cases e:m.1=p
  ·have hb:Mn (fun y=>∃ z,Ma.bt d m.2.2.2 t=some z/\S m.2.1 z y) (Ma.obind (Ma.bt d m.2.2.2) (Ma.bt d (cl A m.2.1)) t):=by
    unfold Ma.obind
    cases e':Ma.bt d m.2.2.2 t with
    | none=>exact Mn.none fun z ⟨x,hx,_⟩=>by cases hx
    | some z=>exact (hS m (List.mem_cons_self ..) z).congr fun y=>⟨fun s=>⟨z,rfl,s⟩,fun ⟨x,hx,s⟩=>by cases hx; exact s⟩
   have:=ways_mn (p:=p) (t:=t) (F:=F) (h.omin hb) hF
   have e2:ways d (m :: F) A p t o=ways d F A p t (Ma.omin o (Ma.obind (Ma.bt d m.2.2.2) (Ma.bt d (cl A m.2.1)) t)):=by
    show ways d F A p t (if m.1=p then _ else _)=_
    rw [if_pos e]
   rw [e2]
   refine this.congr fun y=>⟨fun s=>?_,fun s=>?_⟩
   ·rcases s with (s | s) | ⟨x,hx,s⟩
    ·exact .inl s
    ·exact .inr ⟨m,List.mem_cons_self ..,e,s⟩
    ·exact .inr ⟨x,List.mem_cons_of_mem _ hx,s⟩
   ·rcases s with s | ⟨x,hx,s1,s2⟩
    ·exact .inl (.inl s)
    ·rcases List.mem_cons.mp hx with rfl | hx
     ·exact .inl (.inr s2)
     ·exact .inr ⟨x,hx,s1,s2⟩
  ·have:=ways_mn (p:=p) (t:=t) (F:=F) h hF
   have e2:ways d (m :: F) A p t o=ways d F A p t o:=by
    show ways d F A p t (if m.1=p then _ else _)=_
    rw [if_neg e]
   rw [e2]
   refine this.congr fun y=>⟨fun s=>?_,fun s=>?_⟩
   ·rcases s with s | ⟨x,hx,s⟩
    ·exact .inl s
    ·exact .inr ⟨x,List.mem_cons_of_mem _ hx,s⟩
   ·rcases s with s | ⟨x,hx,s1,s2⟩
    ·exact .inl s
    ·rcases List.mem_cons.mp hx with rfl | hx
     ·exact absurd s1 e
     ·exact .inr ⟨x,hx,s1,s2⟩
theorem TsOk.mn {d:Int} {n:Nat} {goal:Int} {F:List RdT} {m:Nat} {Ts:List Tb} (hd:0 < d) (fok:FOk d n m F) (ok:TsOk d n goal F m stepT Ts):∀ {k:Nat} {A:Tb},Ts[k]?=some A->∀ p,0<=p->p < (n:Int)->∀ t,Mn (Jo d F k p t goal) (Ma.bt d (cl A p) t)
 | 0,A,hA,p,p0,p1,t=>by
  rw [ok.first] at hA
  cases hA
  rw [cl_stay p0 p1]
  by_cases e:p=goal
  ·rw [if_pos e,Ma.bt_still hd]
   exact Mn.one ⟨e,rfl⟩ fun z s=>Int.le_of_eq s.2
  ·rw [if_neg e]
   exact Mn.none fun z s=>e s.1
 | k+1,A,hA,p,p0,p1,t=>by
  have lt:=(List.getElem?_eq_some_iff.mp hA).1
  have hA':=List.getElem?_eq_getElem (show k < Ts.length by omega)
  rw [ok.grow k _ A hA' hA p p0 p1 t]
  exact ways_mn (S:=fun q z=>Jo d F k q z goal) (ok.mn hd fok hA' p p0 p1 t) fun x hx z=>ok.mn hd fok hA' _ (fok x hx).2.1.1 (fok x hx).2.1.2 z
noncomputable def Pa (d:Int) (F:List RdT):List Int->Int->Int->Int->Int->Prop
 | [],p,t,q,y=>p=q/\t=y
 | x :: ps,p,t,q,y=>∃ m∈F,m.1=p/\m.2.1=x/\∃ z,Ma.bt d m.2.2.2 t=some z/\Pa d F ps x z q y
section
variable {d:Int} {F:List RdT}
theorem Jo.up:∀ {k:Nat} {p t q y:Int},Jo d F k p t q y->Jo d F (k+1) p t q y:=fun h=>.inl h
theorem Jo.le {k j:Nat} {p t q y:Int} (h:Jo d F k p t q y) (l:k<=j):Jo d F j p t q y:=by
 induction j with
 | zero =>
  have:k=0:=by omega
  subst this
  exact h
 | succ j ih =>
  rcases (by omega:k=j+1\/k<=j) with e | e
  ·subst e
   exact h
  ·exact (ih e).up
theorem Jo.pa:∀ {k:Nat} {p t q y:Int},Jo d F k p t q y->∃ ps,ps.length<=k/\Pa d F ps p t q y
 | 0,p,t,q,y,h=>⟨[],Nat.le_refl _,h⟩
 | k+1,p,t,q,y,h=>by
  rcases h with h | ⟨m,hm,e,z,hz,h⟩
  ·obtain ⟨ps,l,h⟩:=h.pa
   exact ⟨ps,by omega,h⟩
  ·obtain ⟨ps,l,h⟩:=h.pa
   exact ⟨m.2.1 :: ps,by simp; omega,m,hm,e,rfl,z,hz,h⟩
theorem Pa.jo:∀ {ps:List Int} {p t q y:Int},Pa d F ps p t q y->Jo d F ps.length p t q y
 | [],p,t,q,y,h=>h
 | x :: ps,p,t,q,y,⟨m,hm,e,ex,z,hz,h⟩=>.inr ⟨m,hm,e,z,hz,by rw [ex]; exact h.jo⟩
theorem Pa.early (ck:CkF d F):∀ {ps:List Int} {p t t' q y:Int},Pa d F ps p t q y->t'<=t->∃ y',y'<=y/\Pa d F ps p t' q y'
 | [],p,t,t',q,y,⟨e1,e2⟩,l=>⟨t',by omega,e1,rfl⟩
 | x :: ps,p,t,t',q,y,⟨m,hm,e,ex,z,hz,h⟩,l=>by
  obtain ⟨z',hz',lz⟩:=bt_up (ck m hm) hz l
  obtain ⟨y',ly,h'⟩:=h.early ck lz
  exact ⟨y',ly,m,hm,e,ex,z',hz',h'⟩
theorem Pa.from (ck:CkF d F):∀ {ps:List Int} {p t q y a:Int},Pa d F ps p t q y->a∈ps->∃ ps' z,ps'.length < ps.length/\t<=z/\Pa d F ps' a z q y/\∀ b∈ps',b∈ps
 | x :: ps,p,t,q,y,a,⟨m,hm,e,ex,z,hz,h⟩,ha=>by
  have tz:=bt_after (ck m hm) hz
  rcases List.mem_cons.mp ha with rfl | ha
  ·exact ⟨ps,z,by simp,tz,h,fun b hb=>List.mem_cons_of_mem _ hb⟩
  ·obtain ⟨ps',z',l,tz',h',s⟩:=h.from ck ha
   exact ⟨ps',z',by simp; omega,by omega,h',fun b hb=>List.mem_cons_of_mem _ (s b hb)⟩
theorem Pa.nodup (ck:CkF d F):∀ (n:Nat) {ps:List Int} {p t q y:Int},ps.length<=n->Pa d F ps p t q y->∃ ps' y',y'<=y/\Pa d F ps' p t q y'/\(p :: ps').Nodup/\∀ b∈ps',b∈ps
 | n,[],p,t,q,y,_,h=>⟨[],y,Int.le_refl _,h,by simp,fun b hb=>hb⟩
 | 0,x :: ps,_,_,_,_,l,_=>by simp at l
 | n+1,x :: ps,p,t,q,y,l,h=>by
  simp at l
  by_cases hp:p∈x :: ps
  ·obtain ⟨ps',z,l',tz,h',s⟩:=h.from ck hp
   obtain ⟨y',ly,h''⟩:=h'.early ck tz
   obtain ⟨ps'',y'',ly',h3,nd,s'⟩:=Pa.nodup ck n (by simp at l'; omega) h''
   exact ⟨ps'',y'',by omega,h3,nd,fun b hb=>s b (s' b hb)⟩
  ·obtain ⟨m,hm,e,ex,z,hz,h⟩:=h
   obtain ⟨ps',y',ly,h',nd,s⟩:=Pa.nodup ck n l h
   refine ⟨x :: ps',y',ly,⟨m,hm,e,ex,z,hz,h'⟩,List.nodup_cons.mpr ⟨fun z=>hp ?_,nd⟩,fun b hb=>?_⟩
   ·rcases List.mem_cons.mp z with z | z
    ·exact List.mem_cons.mpr (.inl z)
    ·exact List.mem_cons_of_mem _ (s _ z)
   ·rcases List.mem_cons.mp hb with z | z
    ·exact List.mem_cons.mpr (.inl z)
    ·exact List.mem_cons_of_mem _ (s _ z)
theorem few_places:∀ (n:Nat) {L:List Int},L.Nodup->(∀ x∈L,0<=x/\x < (n:Int))->L.length<=n
 | 0,L,nd,h=>by
  cases L with
  | nil=>exact Nat.le_refl _
  | cons x L =>
   have:=h x (List.mem_cons_self ..)
   omega
 | n+1,L,nd,h=>by
  by_cases hn:(n:Int)∈L
  ·have h1:=few_places n (nd.erase (n:Int)) fun x hx=>by
    have h2:=h x (List.mem_of_mem_erase hx)
    have h3:x ≠ (n:Int):=fun e=>nd.not_mem_erase (e ▸ hx)
    omega
   rw [List.length_erase_of_mem hn] at h1
   omega
  ·have:=few_places n nd fun x hx=>by
    have h2:=h x hx
    have h3:x ≠ (n:Int):=fun e=>hn (e ▸ hx)
    omega
   omega
theorem Pa.in (hF:∀ m∈F,0<=m.2.1/\m.2.1 < (n:Int)):∀ {ps:List Int} {p t q y:Int},Pa d F ps p t q y->∀ b∈ps,0<=b/\b < (n:Int)
 | x :: ps,p,t,q,y,⟨m,hm,e,ex,z,hz,h⟩,b,hb=>by
  rcases List.mem_cons.mp hb with rfl | hb
  ·rw [<- ex]
   exact hF m hm
  ·exact h.in hF b hb
theorem Jo.enough {n:Nat} (ck:CkF d F) (hF:∀ m∈F,0<=m.2.1/\m.2.1 < (n:Int)) {k:Nat} {p t q y:Int} (p0:0<=p) (p1:p < (n:Int)) (h:Jo d F k p t q y):∃ y',y'<=y/\Jo d F (n - 1) p t q y':=by
 obtain ⟨ps,l,h⟩:=h.pa
 have hin:=h.in hF
 obtain ⟨ps',y',ly,h',nd,s⟩:=Pa.nodup ck _ (Nat.le_refl _) h
 have:=few_places n nd fun x hx=>by
  rcases List.mem_cons.mp hx with rfl | hx
  ·exact ⟨p0,p1⟩
  ·exact hin x (s x hx)
 simp at this
 exact ⟨y',ly,h'.jo.le (by omega)⟩
theorem Jo.early (ck:CkF d F) {k:Nat} {p t t' q y:Int} (h:Jo d F k p t q y) (l:t'<=t):∃ y',y'<=y/\Jo d F k p t' q y':=by
 obtain ⟨ps,lp,h⟩:=h.pa
 obtain ⟨y',ly,h'⟩:=h.early ck l
 exact ⟨y',ly,h'.jo.le lp⟩
end
theorem FOk.ck {d size:Int} {m:Nat} {F:List RdT} (h:FOk d size m F):CkF d F:=fun x hx=>(h x hx).2.2.1
theorem TsOk.all {d:Int} {n:Nat} {goal:Int} {F:List RdT} {m:Nat} {Ts:List Tb} {A:Tb} (hd:0 < d) (fok:FOk d n m F) (ok:TsOk d n goal F m stepT Ts) (hA:Ts[n - 1]?=some A) (p:Int) (p0:0<=p) (p1:p < (n:Int)) (t:Int):Mn (fun y=>∃ k,Jo d F k p t goal y) (Ma.bt d (cl A p) t) :=
 (ok.mn hd fok hA p p0 p1 t).dom (fun y s=>⟨_,s⟩) fun y ⟨k,s⟩=>s.enough fok.ck (fun x hx=>(fok x hx).2.1) p0 p1
theorem Fords.of {d:Int} {N F:List RdT} (h:Fords d N F) {f:RdT} (hf:f∈F):∃ x∈N,x.1=f.1/\x.2.1=f.2.1/\∀ t,Ma.bt d f.2.2.2 t=Ma.bt d x.2.2.2 t:=by
 obtain ⟨i,hi⟩:=List.getElem?_of_mem hf
 have lt:=(List.getElem?_eq_some_iff.mp hi).1
 have hx:=List.getElem?_eq_getElem (show i < N.length by rw [<- h.1]; exact lt)
 obtain ⟨e1,e2,_,_,e3⟩:=h.2 i _ f hx hi
 exact ⟨_,List.mem_of_getElem? hx,e1.symm,e2.symm,e3⟩
theorem Fords.to {d:Int} {N F:List RdT} (h:Fords d N F) {x:RdT} (hx:x∈N):∃ f∈F,f.1=x.1/\f.2.1=x.2.1/\∀ t,Ma.bt d f.2.2.2 t=Ma.bt d x.2.2.2 t:=by
 obtain ⟨i,hi⟩:=List.getElem?_of_mem hx
 have lt:=(List.getElem?_eq_some_iff.mp hi).1
 have hf:=List.getElem?_eq_getElem (show i < F.length by rw [h.1]; exact lt)
 obtain ⟨e1,e2,_,_,e3⟩:=h.2 i _ _ hi hf
 exact ⟨_,List.mem_of_getElem? hf,e1,e2,e3⟩
theorem bt_some_of {d t z:Int} {R:List T3} (h:Ma.bt d R t=some z):∃ w∈R,Ma.bt d [w] t=some z:=by
 obtain ⟨⟨w,hw,e⟩,_⟩:=Ma.bt_min h
 exact ⟨w,hw,by rw [e]; rfl⟩
theorem bt_le_of {d t z:Int} {R:List T3} {w:T3} (hw:w∈R) (h:Ma.bt d [w] t=some z):∃ z',Ma.bt d R t=some z'/\z'<=z:=by
 rcases Ma.bt_spec d t R with ⟨e,_⟩ | ⟨y,e,m⟩
 ·rw [e] at hw
  cases hw
 ·refine ⟨y,e,?_⟩
  have e2:Ma.bt d [w] t=some (Ma.nextO d w.1 w.2.1 t+w.2.2):=rfl
  rw [e2] at h
  cases h
  exact m.2 w hw
section
variable {d:Int} {F F':List RdT}
end
section
variable {d:Int} {F F':List RdT}
end
noncomputable def byO (o:Option Int) (s:Int):Bool:=match o with
 | none=>false
 | some y=>decide (y<=s)
noncomputable def natO:Option Nat->V
 | none=>.non
 | some j=>.int j
noncomputable def FstB (b:Nat->Bool) (n:Nat) (r:Option Nat):Prop:=(r=none/\∀ j,j < n->b j=false)\/∃ j,r=some j/\j < n/\b j=true/\∀ i,i < j->b i=false
noncomputable def spComesBy (T:Hp->Prop):Sp:=fun vs H Q _=>∃ (d:Int) (p:Addr) (t s:Int) (R:List T3),vs=[.int d,.ref p,.int t,.int s]/\LA enc3 H p R/\T H/\Ma.CK d R/\∀ H',SameU H H'->T H'->Q (.bl (byO (Ma.bt d R t) s)) H'
noncomputable def spLeast (T:Hp->Prop):Sp:=fun vs H Q _=>∃ (d:Int) (H0:Hp) (pl:Addr) (Ts:List Tb) (p t s:Int),vs=[.int d,.ref pl,.int p,.int t,.int s]/\TL H0 H pl Ts/\T H/\0<=p/\(∀ A∈Ts,p < (A.length:Int)/\∀ C∈A,Ma.CK d C)/\∀ (r:Option Nat) (H':Hp),SameU H H'->T H'->FstB (fun j=>byO (Ma.bt d (cl (Ts.getD j []) p) t) s) Ts.length r->Q (natO r) H'
noncomputable def spFewR (T:Hp->Prop):Sp:=fun vs H Q _=>∃ (d:Int) (n:Nat) (pr:Addr) (N:List RdT) (goal p t s:Int) (m:Nat),vs=[.int d,.int n,.ref pr,.int goal,.int p,.int t,.int s]/\NA H pr N/\T H/\0 < d/\NetOk d n N/\1<=n/\n<=1000/\N.length<=1000/\(∀ x∈N,4 * x.2.2.2.length+2<=m)/\Few N.length m n/\0<=goal/\goal < (n:Int)/\0<=p/\p < (n:Int) /\
 ∀ (F:List RdT) (Ts:List Tb) (r:Option Nat) (H':Hp),SameU H H'->T H'->Fords d N F->Ts.length=n->TsOk d n goal F m stepT Ts->FstB (fun j=>byO (Ma.bt d (cl (Ts.getD j []) p) t) s) n r->Q (natO r) H'
section
variable {P:Program} {w:World} {K:PySem.W.Frag} {mg:Str->Option Value} {base:Heap} {f:Addr} {fd:FuncData} {n:Nat} {T:Hp->Prop}
theorem ok_comes_by (F:Fun K "comes_by" "comes_by" st_comes_by f fd) (C_come:Callee P w K mg base n "come" ["day","clock","t"] (spComeT T)):FnOk P w K mg base CX0 (n+1) f fd ["day","clock","t","s"] (spComesBy T):=by
 refine F.okQ sc_comes_by (fun vs H Q E h=>?_) (fun cdv A outer s H vs Q E hr h=>?_)
 ·obtain ⟨_,_,_,_,_,rfl,_⟩:=h
  rfl
 obtain ⟨d,p,t,s',R,rfl,hR,hT,ck,q⟩:=h
 refine ⟨_,(qss_cons (qs_set (i:=4) sc_comes_by.nd rfl (Or.inl rfl) (qe_fn C_come hr rfl (qa_c (qv 0) (qa_c (qv 1) (qa_c (qv 2) qa_nil))))) (qss_one (qs_ret (qe_and (qe_notN (qv 4)) (qe_one (qe_cmpR qop_le (qv 4) (qv 3) (nomark _))))))),?_⟩
 try dsimp only [cx_k,cx_kn,as_nil,as_name,Nat.reduceAdd]
 refine ⟨_,rfl,_,rfl,_,rfl,d,p,t,R,rfl,hR,hT,ck,fun H1 u1 t1=>?_⟩
 have q:=q H1 u1 t1
 cases e:Ma.bt d R t with
 | none =>
  rw [e] at q
  exact ⟨_,rfl,_,rfl,iteN (by simp [optV]) q⟩
 | some y =>
  rw [e] at q
  exact ⟨_,rfl,_,rfl,iteP (by simp [optV]) ⟨_,rfl,_,rfl,_,_,rfl,rfl,q⟩⟩
theorem ok_least (hTB:TB T) (F:Fun K "least_round" "least_round" st_least_round f fd) (B:Bl mg) (C_comes_by:Callee P w K mg base n "comes_by" ["day","clock","t","s"] (spComesBy T)):FnOk P w K mg base CX0 (n+1) f fd ["day","tables","place","t","s"] (spLeast T):=by
 refine F.okQ sc_least_round (fun vs H Q E h=>?_) (fun cdv A outer s H vs Q E hr h=>?_)
 ·obtain ⟨_,_,_,_,_,_,_,rfl,_⟩:=h
  rfl
 obtain ⟨d,H0,pl,Ts,p,t,s',rfl,Lq,hT,p0,hA,q⟩:=h
 refine ⟨_,(qss_cons (qs_for PassesOwn.never rfl (qi_enum rfl B.enumerate (qa_c (qv 1) qa_nil)) (qg_tup rfl (qgs_cons (qg_name (i:=5) sc_least_round.nd rfl (Or.inl rfl)) (qgs_cons (qg_name (i:=6) sc_least_round.nd rfl (Or.inl rfl)) qgs_nil))) (qss_one (qs_if (qt_val (qe_fn C_comes_by hr rfl (qa_c (qv 0) (qa_c (qe_ix qix_list (qv 6) (qv 2) (fun _ _=>rfl)) (qa_c (qv 3) (qa_c (qv 4) qa_nil)))))) (qss_one (qs_ret (qv 5))) qss_nil))) (qss_one (qs_ret qe_non))),?_⟩
 try dsimp only [cx_k,cx_kn,as_nil,as_name,Nat.reduceAdd]
 obtain ⟨xs,x1,xl⟩:=Lq.lst
 refine ⟨_,rfl,pl,rfl,⟨_,SqL.of x1⟩,for_enum (K:=K) (a:=pl) (xs:=xs)
  (fun i σ H'=>∃ v5 v6:Option V,σ=[some (.int d),some (.ref pl),some (.int p),some (.int t),some (.int s'),v5,v6]/\SameU H H'/\T H'/\∀ j,j < i->byO (Ma.bt d (cl (Ts.getD j []) p) t) s'=false)
  ⟨_,_,rfl,SameU.refl _,hT,fun j hj=>absurd hj (Nat.not_lt_zero _)⟩ (fun i σ H' _ ⟨_,_,_,u,_⟩=>SqL.of (u.lst x1)) ?_ ?_⟩
 ·intro i y pp σ H1 hi z9 hpp;obtain ⟨v5,v6,rfl,u1,t1,hf⟩ := z9
  have hi2:=(List.getElem?_eq_some_iff.mp hi).1
  have hU:Ts[i]?=some (Ts[i]'(by omega)):=List.getElem?_eq_getElem (by omega)
  have hUm:=List.mem_of_getElem? hU
  have eg:Ts.getD i []=Ts[i]'(by omega):=by rw [List.getD_eq_getElem?_getD,hU]; rfl
  generalize Ts[i]'(by omega)=U at hU hUm eg
  obtain ⟨qa,qa1,qa2,_⟩:=Lq.at x1 hU
  rw [hi] at qa1
  cases qa1
  have s2:=same_new hpp (.tup [.int i,.ref qa])
  have e2:upd H1 pp (.tup [.int i,.ref qa]) pp=some (.tup [.int i,.ref qa]):=upd_same
  generalize upd H1 pp (.tup [.int i,.ref qa])=H2 at *
  have u2:=u1.trans (SameU.of s2)
  refine ⟨pp,_,rfl,SqT.of e2,rfl,_,_,rfl,_,_,rfl,rfl,?_⟩
  obtain ⟨rs,rc,r1,r2,r3,r4,r5⟩:=(qa2.u u2).at p0 (hA U hUm).1
  refine ⟨_,rfl,_,rfl,_,rfl,qa,_,_,_,rfl,rfl,SqL.of r1,r2,_,rfl,_,rfl,d,rc,t,s',_,rfl,r5,hTB.same _ _ t1 s2,(hA U hUm).2 _ (cl_mem p0 (hA U hUm).1),fun H3 u3 t3=>?_⟩
  refine ⟨_,rfl,ite2 (fun c=>?_) (fun c=>?_)⟩
  ·refine ⟨_,rfl,q (some i) H3 (u2.trans u3) t3 (.inr ⟨i,rfl,by omega,?_,hf⟩)⟩
   show byO (Ma.bt d (cl (Ts.getD i []) p) t) s'=true
   rw [eg]
   exact c
  ·refine ⟨_,_,rfl,u2.trans u3,t3,fun j hj=>?_⟩
   rcases (by omega:j < i\/j=i) with z | z
   ·exact hf j z
   ·subst z
    rw [eg]
    simpa using c
 ·intro σ H1 z9;obtain ⟨v5,v6,rfl,u1,t1,hf⟩ := z9
  exact q none H1 u1 t1 (.inl ⟨rfl,fun j hj=>hf j (by omega)⟩)
theorem ok_fewr (hTB:TB T) (F:Fun K "fewest_rides" "fewest_rides" st_fewest_rides f fd) (C_rounds:Callee P w K mg base n "rounds" ["day","size","roads","goal"] (spRounds T)) (C_need_place:Callee P w K mg base n "need_place" ["size","thing"] spNeedPlace) (C_least_round:Callee P w K mg base n "least_round" ["day","tables","place","t","s"] (spLeast T)):FnOk P w K mg base CX0 (n+1) f fd ["day","size","roads","goal","place","t","s"] (spFewR T):=by
 refine F.okQ sc_fewest_rides (fun vs H Q E h=>?_) (fun cdv A outer s H vs Q E hr h=>?_)
 ·obtain ⟨_,_,_,_,_,_,_,_,_,rfl,_⟩:=h
  rfl
 obtain ⟨d,N,pr,Ns,goal,p,t,s',m,rfl,hN,hT,hd,nok,N1,N2,nl,lm,few,g0,g1,p0,p1,q⟩:=h
 refine ⟨_,(qss_cons (qs_set (i:=7) sc_fewest_rides.nd rfl (Or.inl rfl) (qe_fn C_rounds hr rfl (qa_c (qv 0) (qa_c (qv 1) (qa_c (qv 2) (qa_c (qv 3) qa_nil)))))) (qss_cons (qs_expr (qe_fn C_need_place hr rfl (qa_c (qv 1) (qa_c (qv 4) qa_nil)))) (qss_one (qs_ret (qe_fn C_least_round hr rfl (qa_c (qv 0) (qa_c (qv 7) (qa_c (qv 4) (qa_c (qv 5) (qa_c (qv 6) qa_nil)))))))))),?_⟩
 try dsimp only [cx_k,cx_kn,as_nil,as_name,Nat.reduceAdd]
 refine ⟨_,rfl,_,rfl,_,rfl,_,rfl,d,N,pr,Ns,goal,m,rfl,hN,hT,hd,nok,N1,N2,nl,lm,few,g0,g1,fun l F Ts H2 u2 t2 fo Lq l2 ok2=>?_⟩
 refine ⟨_,rfl,_,rfl,N,p,rfl,p0,p1,?_⟩
 refine ⟨_,rfl,_,rfl,_,rfl,_,rfl,_,rfl,d,_,l,Ts,p,t,s',rfl,Lq,t2,p0,fun A hA=>?_,fun r H3 u3 t3 hf=>?_⟩
 ·obtain ⟨i,hi⟩:=List.getElem?_of_mem hA
  obtain ⟨lA,tA⟩:=ok2.each i A hi
  exact ⟨by rw [lA]; exact p1,fun C hC=>(tA C hC).1⟩
 ·rw [l2] at hf
  exact q F Ts r H3 (u2.trans u3) t3 fo l2 ok2 hf
end
noncomputable def spAskBy (T:Hp->Prop):Sp:=fun vs H Q _=>∃ (d:Int) (n:Nat) (pr:Addr) (N:List RdT) (pt:Addr) (Cs:Tb) (p t s:Int),vs=[.int d,.ref pr,.ref pt,.non,.int p,.int t,.int s]/\NA H pr N/\BA H pt Cs/\T H/\0 < d/\NetOk d n N/\Cs.length=n/\(∀ C∈Cs,Ma.CK d C) /\
 ∀ (v:V) (H':Hp),SameU H H'->T H'->((v=.non/\∀ m∈N,m.1=p->∀ w∈m.2.2.2,byO (Ma.bt d (cl Cs m.2.1) (Ma.nextO d w.1 w.2.1 t+w.2.2)) s=false) \/
  ∃ (r:Addr) (i j:Nat) (m:RdT) (w:T3),v=.ref r/\H' r=some (.tup [.int i,.int j,.int (Ma.nextO d w.1 w.2.1 t),.int (Ma.nextO d w.1 w.2.1 t+w.2.2)])/\N[i]?=some m/\m.1=p/\m.2.2.2[j]?=some w/\byO (Ma.bt d (cl Cs m.2.1) (Ma.nextO d w.1 w.2.1 t+w.2.2)) s=true)->Q v H'
section
variable {P:Program} {w:World} {K:PySem.W.Frag} {mg:Str->Option Value} {base:Heap} {f:Addr} {fd:FuncData} {n:Nat} {T:Hp->Prop}
theorem ok_ask_by (hTB:TB T) (F:Fun K "ask_by" "ask_by" st_ask_by f fd) (B:Bl mg) (C_next_open:Callee P w K mg base n "next_open" ["day","window","t"] spNext) (C_comes_by:Callee P w K mg base n "comes_by" ["day","clock","t","s"] (spComesBy T)):FnOk P w K mg base CX0 (n+1) f fd ["day","roads","told","guard","place","t","s"] (spAskBy T):=by
 refine F.okQ sc_ask_by (fun vs H Q E h=>?_) (fun cdv A outer s H vs Q E hr h=>?_)
 ·obtain ⟨_,_,_,_,_,_,_,_,_,rfl,_⟩:=h
  rfl
 obtain ⟨d,N,pr,Ns,pt,Cs,p,t,s',rfl,hN,hB,hT,hd,nok,lC,ck,q⟩:=h
 refine ⟨_,(qss_cons (qs_for PassesOwn.never rfl (qi_enum rfl B.enumerate (qa_c (qv 1) qa_nil)) (qg_tup rfl (qgs_cons (qg_name (i:=7) sc_ask_by.nd rfl (Or.inl rfl)) (qgs_cons (qg_name (i:=8) sc_ask_by.nd rfl (Or.inl rfl)) qgs_nil))) (qss_one (qs_for PassesOwn.never rfl (qi_enum rfl B.enumerate (qa_c (qe_cut (qe_ifExp (qt_cmpR qop_eq (qe_ix qix_tup (qv 8) qe_int (fun _ _=>rfl)) (qv 4) (nomark _)) (qe_ix qix_tup (qv 8) qe_int (fun _ _=>rfl)) (qe_lst qa_nil))) qa_nil)) (qg_tup rfl (qgs_cons (qg_name (i:=9) sc_ask_by.nd rfl (Or.inl rfl)) (qgs_cons (qg_name (i:=10) sc_ask_by.nd rfl (Or.inl rfl)) qgs_nil))) (qss_cons (qs_set (i:=11) sc_ask_by.nd rfl (Or.inl rfl) (qe_fn C_next_open hr rfl (qa_c (qv 0) (qa_c (qv 10) (qa_c (qv 5) qa_nil))))) (qss_cons (qs_set (i:=12) sc_ask_by.nd rfl (Or.inl rfl) (qe_op qop_add (qv 11) (qe_ix qix_tup (qv 10) qe_int (fun _ _=>rfl)))) (qss_one (qs_if (qt_cut (QW.pt (qw_and (qt_val (qe_fn C_comes_by hr rfl (qa_c (qv 0) (qa_c (qe_ix qix_list (qv 2) (qe_ix qix_tup (qv 8) qe_int (fun _ _=>rfl)) (fun _ _=>rfl)) (qa_c (qv 12) (qa_c (qv 6) qa_nil)))))) (qw_and1 (QW.pt (qw_or (qt_isN (qv 3)) (qw_or1 (qt_val (qe_fn C_comes_by hr rfl (qa_c (qv 0) (qa_c (qe_ix qix_list (qv 3) (qv 4) (fun _ _=>rfl)) (qa_c (qe_op qop_add (qv 11) qe_int) (qa_c (qv 6) qa_nil))))))))))))) (qss_one (qs_ret (qe_tup (qa_c (qv 7) (qa_c (qv 9) (qa_c (qv 11) (qa_c (qv 12) qa_nil))))))) qss_nil))))))) (qss_one (qs_ret qe_non))),?_⟩
 try dsimp only [cx_k,cx_kn,as_nil,as_name,Nat.reduceAdd]
 obtain ⟨ws,hw1,hw2,hw3⟩:=hN.la.lst
 rw [List.length_map] at hw2
 refine ⟨_,rfl,pr,rfl,⟨_,SqL.of hw1⟩,for_enum (K:=K) (a:=pr) (xs:=ws)
  (fun i σ H'=>∃ v7 v8 v9 v10 v11 v12:Option V,σ=[some (.int d),some (.ref pr),some (.ref pt),some .non,some (.int p),some (.int t),some (.int s'),v7,v8,v9,v10,v11,v12]/\SameU H H'/\T H'/\∀ (k:Nat) m,k < i->Ns[k]?=some m->m.1=p->∀ w∈m.2.2.2,byO (Ma.bt d (cl Cs m.2.1) (Ma.nextO d w.1 w.2.1 t+w.2.2)) s'=false)
  ⟨_,_,_,_,_,_,rfl,SameU.refl _,hT,fun k m hk=>absurd hk (Nat.not_lt_zero _)⟩ (fun i σ H' _ ⟨_,_,_,_,_,_,_,u,_⟩=>SqL.of (u.lst hw1)) ?_ ?_⟩
 ·intro i y pp σ H1 hi z9 hpp;obtain ⟨v7,v8,v9,v10,v11,v12,rfl,u1,t1,hf⟩ := z9
  obtain ⟨r,x,rfl,ex,er⟩:=hw3 i y hi
  have hi2:i < Ns.length:=by
   have:=(List.getElem?_eq_some_iff.mp hi).1
   omega
  have em:=List.getElem?_eq_getElem hi2
  rw [List.getElem?_map,em] at ex
  cases ex
  have hm:=List.getElem_mem hi2
  generalize Ns[i]=g at *
  obtain ⟨⟨a0,a1⟩,⟨b0,b1⟩,_,hwin⟩:=nok.all g hm
  obtain ⟨laG,_⟩:=hN.bd g hm
  have er1:=u1.tup er
  have s2:=same_new hpp (.tup [.int i,.ref r])
  have e2:upd H1 pp (.tup [.int i,.ref r]) pp=some (.tup [.int i,.ref r]):=upd_same
  generalize upd H1 pp (.tup [.int i,.ref r])=H2 at *
  have er2:=s2 _ _ er1
  have u2:=u1.trans (SameU.of s2)
  have t2:=hTB.same _ _ t1 s2
  refine ⟨pp,_,rfl,SqT.of e2,rfl,_,_,rfl,_,_,rfl,rfl,?_⟩
  refine ⟨fun v H'=>∃ (l:Addr) (R:List T3),v=.ref l/\SameU H H'/\T H'/\LA enc3 H' l R/\((g.1=p/\R=g.2.2.2)\/(g.1 ≠ p/\R=[])),?_,?_⟩
  ·refine ⟨_,rfl,r,_,_,_,rfl,rfl,SqT.of er2,rfl,_,rfl,rfl,_,rfl,ite2 (fun c=>?_) (fun c=>?_)⟩
   ·have c':g.1=p:=by
     have:=of_decide_eq_true c
     injection this
    exact ⟨_,rfl,r,_,_,_,rfl,rfl,SqT.of er2,rfl,_,_,rfl,u2,t2,laG.u u2,.inl ⟨c',rfl⟩⟩
   ·have c':g.1 ≠ p:=fun z=>c (decide_eq_true (by rw [<- z]; rfl))
    exact ⟨(by show 0<=sizeLine; decide),fun l hl=>⟨l,[],rfl,u2.trans (SameU.of (same_new hl _)),hTB.same _ _ t2 (same_new hl _),LA.nil upd_same,.inr ⟨c',rfl⟩⟩⟩
  intro v H3 z9;obtain ⟨l,R,rfl,u3,t3,la3,eR⟩ := z9
  obtain ⟨xs,x1,x2,x3⟩:=la3.lst
  refine ⟨l,rfl,⟨_,SqL.of x1⟩,for_enum (K:=K) (a:=l) (xs:=xs)
   (fun j σ H'=>∃ v9 v10 v11 v12:Option V,σ=[some (.int d),some (.ref pr),some (.ref pt),some .non,some (.int p),some (.int t),some (.int s'),some (.int i),some (.ref r),v9,v10,v11,v12]/\SameU H3 H'/\T H'/\∀ (k:Nat) w,k < j->R[k]?=some w->byO (Ma.bt d (cl Cs g.2.1) (Ma.nextO d w.1 w.2.1 t+w.2.2)) s'=false)
   ⟨_,_,_,_,rfl,SameU.refl _,t3,fun k m hk=>absurd hk (Nat.not_lt_zero _)⟩ (fun i σ H' _ ⟨_,_,_,_,_,u,_⟩=>SqL.of (u.lst x1)) ?_ ?_⟩
  ·intro j y p4 σ H4 hj z9 hp4;obtain ⟨v9,v10,v11,v12,rfl,u4,t4,hf4⟩ := z9
   obtain ⟨rw',w',rfl,ew',er'⟩:=x3 j y hj
   have s5:=same_new hp4 (.tup [.int j,.ref rw'])
   have e5:upd H4 p4 (.tup [.int j,.ref rw']) p4=some (.tup [.int j,.ref rw']):=upd_same
   generalize upd H4 p4 (.tup [.int j,.ref rw'])=H5 at *
   have u5:=u4.trans (SameU.of s5)
   have t5:=hTB.same _ _ t4 s5
   have U5:=u3.trans u5
   have er5:Tup3 H5 rw' w'.1 w'.2.1 w'.2.2:=u5.tup er'
   have erg:=U5.tup er
   refine ⟨p4,_,rfl,SqT.of e5,rfl,_,_,rfl,_,_,rfl,rfl,?_⟩
   refine ⟨_,rfl,_,rfl,_,rfl,d,rw',_,_,_,t,rfl,hd,er5,?_⟩
   refine ⟨_,rfl,_,rfl,rw',_,_,_,rfl,rfl,SqT.of er5,rfl,_,_,rfl,rfl,?_⟩
   dsimp only
   obtain ⟨ts,tc,q1,q2,q3,q4,q5⟩:=(hB.u U5).at b0 (by rw [lC]; exact b1)
   refine ⟨fun b H'=>b=byO (Ma.bt d (cl Cs g.2.1) (Ma.nextO d w'.1 w'.2.1 t+w'.2.2)) s'/\SameU H5 H'/\T H',?_,?_⟩
   ·refine ⟨_,rfl,_,rfl,_,rfl,r,_,_,_,rfl,rfl,SqT.of erg,rfl,pt,_,_,_,rfl,rfl,SqL.of q1,q2,_,rfl,_,rfl,d,tc,_,s',_,rfl,q5,t5,ck _ (cl_mem b0 (by rw [lC]; exact b1)),fun H6 u6 t6=>?_⟩
    refine ⟨_,rfl,ite2 (fun c=>?_) (fun c=>?_)⟩
    ·exact ⟨_,rfl,_,rfl,iteP rfl ⟨c.symm,u6,t6⟩⟩
    ·exact ⟨by simpa using c,u6,t6⟩
   intro b H6 z9;obtain ⟨rfl,u6,t6⟩ := z9
   have U6:=U5.trans u6
   refine ite2 (fun c=>?_) (fun c=>?_)
   ·rcases eR with ⟨eg,rfl⟩ | ⟨_,rfl⟩
    ·refine ⟨_,rfl,_,rfl,_,rfl,_,rfl,(by show 4<=sizeLine; decide),fun r7 hr7=>?_⟩
     generalize hgH7:upd _ r7 _=H7
     obtain ⟨s7,e7⟩:=fresh_of hr7 hgH7
     clear hgH7
     exact q _ H7 (U6.trans (SameU.of s7)) (hTB.same _ _ t6 s7) (.inr ⟨r7,i,j,g,w',rfl,e7,em,eg,ew',c⟩)
    ·cases ew'
   ·refine ⟨_,_,_,_,rfl,u5.trans u6,t6,fun k w hk hw=>?_⟩
    rcases (by omega:k < j\/k=j) with z | z
    ·exact hf4 k w z hw
    ·subst z
     rw [ew'] at hw
     cases hw
     simpa using c
  ·intro σ H4 z9;obtain ⟨v9,v10,v11,v12,rfl,u4,t4,hf4⟩ := z9
   refine ⟨_,_,_,_,_,_,rfl,u3.trans u4,t4,fun k m hk hkm eg w hw=>?_⟩
   rcases (by omega:k < i\/k=i) with z | z
   ·exact hf k m z hkm eg w hw
   ·subst z
    rw [em] at hkm
    cases hkm
    rcases eR with ⟨_,rfl⟩ | ⟨z,_⟩
    ·obtain ⟨k',hk'⟩:=List.getElem?_of_mem hw
     exact hf4 k' w (by rw [x2]; exact (List.getElem?_eq_some_iff.mp hk').1) hk'
    ·exact absurd eg z
 ·intro σ H1 z9;obtain ⟨v7,v8,v9,v10,v11,v12,rfl,u1,t1,hf⟩ := z9
  refine q .non H1 u1 t1 (.inl ⟨rfl,fun m hm=>?_⟩)
  obtain ⟨k,hk⟩:=List.getElem?_of_mem hm
  exact hf k m (by rw [hw2]; exact (List.getElem?_eq_some_iff.mp hk).1) hk
end
noncomputable abbrev Ri:=Int × Int × Int × Int
noncomputable def encR (r:Ri):List V:=[.int r.1,.int r.2.1,.int r.2.2.1,.int r.2.2.2]
noncomputable def Rd1 (d:Int) (N:List RdT) (p t:Int) (r:Ri) (q y:Int):Prop:=∃ (i j:Nat) (m:RdT) (w:T3),r=((i:Int),(j:Int),Ma.nextO d w.1 w.2.1 t,Ma.nextO d w.1 w.2.1 t+w.2.2)/\N[i]?=some m/\m.1=p/\m.2.2.2[j]?=some w/\q=m.2.1/\y=r.2.2.2
noncomputable def Wk (d:Int) (N:List RdT):List Ri->Int->Int->Int->Int->Prop
 | [],p,t,q,y=>p=q/\t=y
 | r :: rs,p,t,q,y=>∃ q' y',Rd1 d N p t r q' y'/\Wk d N rs q' y' q y
theorem Wk.snoc {d:Int} {N:List RdT}:∀ {rs:List Ri} {p t q y:Int} {r:Ri} {q' y':Int},Wk d N rs p t q y->Rd1 d N q y r q' y'->Wk d N (rs ++ [r]) p t q' y'
 | [],p,t,q,y,r,q',y',⟨e1,e2⟩,h=>⟨q',y',by rw [e1,e2]; exact h,rfl,rfl⟩
 | x :: rs,p,t,q,y,r,q',y',⟨q1,y1,h1,h2⟩,h=>⟨q1,y1,h1,h2.snoc h⟩
theorem by_jo {d:Int} {n:Nat} {goal:Int} {F:List RdT} {m:Nat} {Ts:List Tb} (hd:0 < d) (fok:FOk d n m F) (ok:TsOk d n goal F m stepT Ts) {k:Nat} (hk:k < Ts.length) {p t s:Int} (p0:0<=p) (p1:p < (n:Int)):byO (Ma.bt d (cl (Ts.getD k []) p) t) s=true↔∃ y,y<=s/\Jo d F k p t goal y:=by
 have hA:=List.getElem?_eq_getElem hk
 have eA:Ts.getD k []=Ts[k]:=by rw [List.getD_eq_getElem?_getD,hA]; rfl
 rw [eA]
 have M:=ok.mn hd fok hA p p0 p1 t
 cases e:Ma.bt d (cl Ts[k] p) t with
 | none =>
  rw [e] at M
  refine ⟨fun z=>absurd z (by simp [byO]),fun ⟨y,_,j⟩=>absurd j (M.2 rfl y)⟩
 | some y =>
  rw [e] at M
  obtain ⟨a,b⟩:=M.1 y rfl
  exact ⟨fun z=>⟨y,of_decide_eq_true z,a⟩,fun ⟨y',l,j⟩=>decide_eq_true (by have:=b y' j; omega)⟩
noncomputable def spWalk (T:Hp->Prop):Sp:=fun vs H Q _=>∃ (d:Int) (n:Nat) (pr:Addr) (N:List RdT) (H0:Hp) (pl:Addr) (Ts:List Tb) (p t:Int) (goal:Int) (F:List RdT) (m:Nat),vs=[.int d,.ref pr,.ref pl,.non,.int p,.int t]/\NA H pr N/\TL H0 H pl Ts/\T H/\0 < d/\NetOk d n N/\1<=n/\n<=1000/\Ts.length=n/\0<=p/\p < (n:Int)/\Fords d N F/\FOk d n m F/\TsOk d n goal F m stepT Ts /\
 ∀ (v:V) (H':Hp),SameU H H'->T H'->((v=.non/\Ma.bt d (cl (Ts.getD (n - 1) []) p) t=none)\/∃ (l:Addr) (rs:List Ri) (s:Int),v=.ref l/\H l=none/\LA encR H' l rs/\Ma.bt d (cl (Ts.getD (n - 1) []) p) t=some s/\Wk d N rs p t goal s/\FstB (fun j=>byO (Ma.bt d (cl (Ts.getD j []) p) t) s) n (some rs.length))->Q v H'
section
variable {P:Program} {w:World} {K:PySem.W.Frag} {mg:Str->Option Value} {base:Heap} {f:Addr} {fd:FuncData} {n:Nat} {T:Hp->Prop}
theorem ok_walk (hTB:TB T) (F:Fun K "walk" "walk" st_walk f fd) (B:Bl mg) (C_come:Callee P w K mg base n "come" ["day","clock","t"] (spComeT T)) (C_least_round:Callee P w K mg base n "least_round" ["day","tables","place","t","s"] (spLeast T)) (C_ask_by:Callee P w K mg base n "ask_by" ["day","roads","told","guard","place","t","s"] (spAskBy T)):FnOk P w K mg base CX0 (n+1) f fd ["day","roads","tables","guard","place","t"] (spWalk T):=by
 refine F.okQ sc_walk (fun vs H Q E h=>?_) (fun cdv A outer s H vs Q E hr h=>?_)
 ·obtain ⟨_,_,_,_,_,_,_,_,_,_,_,_,rfl,_⟩:=h
  rfl
 obtain ⟨d,n,pr,N,H0,pl,Ts,p,t,goal,Fs,m,rfl,hN,hL,hT,hd,nok,n1,n2,lT,p0,p1,fo,fok,ok,q⟩:=h
 refine ⟨_,(qss_cons (qs_set (i:=6) sc_walk.nd rfl (Or.inl rfl) (qe_fn C_come hr rfl (qa_c (qv 0) (qa_c (qe_ix qix_list (qe_ix qix_list (qv 2) (qe_neg qe_int) (fun _ _=>rfl)) (qv 4) (fun _ _=>rfl)) (qa_c (qv 5) qa_nil))))) (qss_cons (qs_if (qt_isN (qv 6)) (qss_one (qs_ret qe_non)) qss_nil) (qss_cons (qs_set (i:=7) sc_walk.nd rfl (Or.inl rfl) (qe_fn C_least_round hr rfl (qa_c (qv 0) (qa_c (qv 2) (qa_c (qv 4) (qa_c (qv 5) (qa_c (qv 6) qa_nil))))))) (qss_cons (qs_set (i:=8) sc_walk.nd rfl (Or.inl rfl) (qe_lst qa_nil)) (qss_cons (qs_while PassesOwn.never (qt_cmpR qop_gt (qv 7) qe_int (nomark _)) (qss_cons (qs_aug (i:=7) sc_walk.nd rfl (Or.inl rfl) ip_sub qe_int) (qss_cons (qs_set (i:=9) sc_walk.nd rfl (Or.inl rfl) (qe_fn C_ask_by hr rfl (qa_c (qv 0) (qa_c (qv 1) (qa_c (qe_ix qix_list (qv 2) (qv 7) (fun _ _=>rfl)) (qa_c (qv 3) (qa_c (qv 4) (qa_c (qv 5) (qa_c (qv 6) qa_nil))))))))) (qss_cons (qs_expr (qe_append (qv 8) (qa_c (qv 9) qa_nil))) (qss_cons (qs_set (i:=4) sc_walk.nd rfl (Or.inl rfl) (qe_ix qix_tup (qe_ix qix_list (qv 1) (qe_ix qix_tup (qv 9) qe_int (fun _ _=>rfl)) (fun _ _=>rfl)) qe_int (fun _ _=>rfl))) (qss_one (qs_set (i:=5) sc_walk.nd rfl (Or.inl rfl) (qe_ix qix_tup (qv 9) qe_int (fun _ _=>rfl))))))))) (qss_one (qs_ret (qv 8)))))))),?_⟩
 try dsimp only [cx_k,cx_kn,as_nil,as_name,Nat.reduceAdd]
 have hlen:∀ j,j < n->Ts[j]?=some (Ts.getD j []):=fun j hj=>by
  rw [List.getD_eq_getElem?_getD,List.getElem?_eq_getElem (by omega)]
  rfl
 have each:∀ j,j < n->(Ts.getD j []).length=n/\∀ C∈Ts.getD j [],Ma.CK d C:=fun j hj=>by
  obtain ⟨a,b⟩:=ok.each j _ (hlen j hj)
  exact ⟨a,fun C hC=>(b C hC).1⟩
 obtain ⟨xs,x1,xl⟩:=hL.lst
 obtain ⟨qa,qa1,qa2,_⟩:=hL.at x1 (hlen (n - 1) (by omega))
 have a1:atI xs (-1)=some (.ref qa):=by
  have:=atI_back (xs:=xs) (k:=1) (Nat.le_refl _) (by omega)
  rw [xl,lT] at this
  exact this.trans qa1
 obtain ⟨rs,rc,r1,r2,r3,r4,r5⟩:=qa2.at p0 (by rw [(each (n - 1) (by omega)).1]; exact p1)
 refine ⟨_,rfl,_,rfl,_,rfl,pl,_,_,_,rfl,rfl,SqL.of x1,a1,_,rfl,qa,_,_,_,rfl,rfl,SqL.of r1,r2,_,rfl,d,rc,t,_,rfl,r5,hT,(each (n - 1) (by omega)).2 _ (cl_mem p0 (by rw [(each (n - 1) (by omega)).1]; exact p1)),fun H1 u1 t1=>?_⟩
 cases es:Ma.bt d (cl (Ts.getD (n - 1) []) p) t with
 | none=>exact ⟨_,rfl,_,rfl,iteP (by simp [optV]) (q .non H1 u1 t1 (.inl ⟨rfl,es⟩))⟩
 | some s' =>
 refine ⟨_,rfl,_,rfl,iteN (by simp [optV]) ?_⟩
 refine ⟨_,rfl,_,rfl,_,rfl,_,rfl,_,rfl,d,H0,pl,Ts,p,t,s',rfl,hL.u u1,t1,p0,fun A hA=>?_,fun r H2 u2 t2 fb=>?_⟩
 ·obtain ⟨i,hi⟩:=List.getElem?_of_mem hA
  have:=(List.getElem?_eq_some_iff.mp hi).1
  obtain ⟨a,b⟩:=ok.each i A hi
  exact ⟨by rw [a]; exact p1,fun C hC=>(b C hC).1⟩
 rw [lT] at fb
 have q:=fun l rs H' u t a b c e=>q (.ref l) H' u t (.inr ⟨l,rs,s',rfl,a,b,es,c,e⟩)
 have ls:byO (Ma.bt d (cl (Ts.getD (n - 1) []) p) t) s'=true:=by rw [es]; exact decide_eq_true (Int.le_refl _)
 obtain ⟨L0,rfl,lz1,lz2,lz3⟩:∃ L0,r=some L0/\L0 < n/\byO (Ma.bt d (cl (Ts.getD L0 []) p) t) s'=true/\∀ i,i < L0->byO (Ma.bt d (cl (Ts.getD i []) p) t) s'=false:=by
  rcases fb with ⟨_,fb⟩ | fb
  ·have z:=fb (n - 1) (by omega)
   exact absurd (z.symm.trans ls) (by decide)
  ·exact fb
 have low0:∀ k y,Jo d Fs k p t goal y->s'<=y:=fun k y j=>by
  have:=ok.all hd fok (hlen (n - 1) (by omega)) p p0 p1 t
  rw [es] at this
  exact (this.1 s' rfl).2 y ⟨k,j⟩
 refine ⟨(by show 0<=sizeLine; decide),fun l hl=>?_⟩
 have u12:=u1.trans u2
 have hl0:H l=none:=u12.free hl
 have s3:=same_new hl (.lst [])
 have e3:upd H2 l (.lst []) l=some (.lst []):=upd_same
 generalize upd H2 l (.lst [])=H3 at *
 refine while_by (fun σ H'=>∃ (p' t':Int) (L:Nat) (rs:List Ri) (v:Option V),σ=[some (.int d),some (.ref pr),some (.ref pl),some .non,some (.int p'),some (.int t'),some (.int s'),some (.int L),some (.ref l),v]/\SameU H H'/\T H'/\LA encR H' l rs/\rs.length+L=L0/\Wk d N rs p t p' t'/\0<=p'/\p' < (n:Int)/\byO (Ma.bt d (cl (Ts.getD L []) p') t') s'=true/\(∀ i,i < L->byO (Ma.bt d (cl (Ts.getD i []) p') t') s'=false)/\∀ k y,Jo d Fs k p' t' goal y->s'<=y)
  (fun σ _=>match σ with | [_,_,_,_,_,_,_,some (.int l),_,_]=>l.toNat | _=>0) ⟨p,t,L0,[],none,rfl,u12.trans (SameU.of s3),hTB.same _ _ t2 s3,LA.nil e3,by simp,⟨rfl,rfl⟩,p0,p1,lz2,lz3,low0⟩ ?_ ?_
 ·intro σ H4 z9;obtain ⟨p',t',L,rs,v,rfl,u4,t4,la4,ll,wk,p0',p1',bT,bF,low⟩ := z9
  refine ⟨_,rfl,_,_,rfl,rfl,_,rfl,ite2 (fun c=>?_) (fun c=>?_)⟩
  ·have c':(0:Int) < (L:Int):=of_decide_eq_true c
   obtain ⟨M,rfl⟩:∃ M,L=M+1:=⟨L - 1,by omega⟩
   have hM:=hlen M (by omega)
   have hL4:=hL.u u4
   have x4:=u4.lst x1
   obtain ⟨qb,qb1,qb2,_⟩:=hL4.at x4 hM
   have ab:atI xs (M:Int)=some (.ref qb):=atI_nat qb1
   refine ⟨_,rfl,_,_,rfl,rfl,?_⟩
   dsimp only
   rw [show ((M+1:Nat):Int) - 1=(M:Int) by omega]
   refine ⟨_,rfl,_,rfl,_,rfl,_,rfl,pl,_,_,_,rfl,rfl,SqL.of x4,ab,_,rfl,_,rfl,_,rfl,_,rfl,d,n,pr,N,qb,_,p',t',s',rfl,hN.u u4,qb2,t4,hd,nok,(each M (by omega)).1,(each M (by omega)).2,fun v5 H5 u5 t5 alt=>?_⟩
   rcases alt with ⟨rfl,no⟩ | ⟨r5,i5,j5,m5,w5,rfl,e5,g1,g2,g3,g4⟩
   ·exfalso
    obtain ⟨y,ly,jo⟩:=(by_jo hd fok ok (by omega) p0' p1').mp bT
    rcases jo with jo | ⟨f,hf,ef,z,hz,jo⟩
    ·have:=(by_jo hd fok ok (by omega) p0' p1').mpr ⟨y,ly,jo⟩
     rw [bF M (by omega)] at this
     cases this
    ·obtain ⟨x,hx,ex1,ex2,ex3⟩:=fo.of hf
     rw [ex3] at hz
     obtain ⟨w',hw',hwz⟩:=bt_some_of hz
     have ez:z=Ma.nextO d w'.1 w'.2.1 t'+w'.2.2:=(Option.some.inj hwz).symm
     have no:=no x hx (ex1.trans ef) w' hw'
     rw [<- ez,ex2,(by_jo hd fok ok (by omega) (fok f hf).2.1.1 (fok f hf).2.1.2).mpr ⟨y,ly,jo⟩] at no
     cases no
   have hm5:=List.mem_of_getElem? g1
   obtain ⟨f5,hf5,ef1,ef2,ef3⟩:=fo.to hm5
   obtain ⟨⟨a0,a1⟩,⟨b0,b1⟩,_,_⟩:=nok.all m5 hm5
   obtain ⟨zz,hzz,lzz⟩:=bt_le_of (List.mem_of_getElem? g3) (show Ma.bt d [w5] t'=some (Ma.nextO d w5.1 w5.2.1 t'+w5.2.2) from rfl)
   rw [<- ef3] at hzz
   have rd1:Rd1 d N p' t' ((i5:Int),(j5:Int),Ma.nextO d w5.1 w5.2.1 t',Ma.nextO d w5.1 w5.2.1 t'+w5.2.2) m5.2.1 (Ma.nextO d w5.1 w5.2.1 t'+w5.2.2):=⟨i5,j5,m5,w5,rfl,g1,g2,g3,rfl,rfl⟩
   generalize Ma.nextO d w5.1 w5.2.1 t'+w5.2.2=z5 at *
   obtain ⟨vs,v1,v2,v3⟩:=la4.lst
   have v5:=u5.lst v1
   have la6:=(la4.u u5).append (x:=((i5:Int),(j5:Int),Ma.nextO d w5.1 w5.2.1 t',z5)) v5 e5
   have u6:SameU H (upd H5 l (.lst (vs ++ [.ref r5]))):=SameU.wr hl0 (u4.trans u5)
   have t6:=hTB.wr _ _ _ (vs ++ [.ref r5]) t5 v5
   have e6:upd H5 l (.lst (vs ++ [.ref r5])) r5=some (.tup (encR ((i5:Int),(j5:Int),Ma.nextO d w5.1 w5.2.1 t',z5))):=by
    rw [upd_ne (fun z=>by rw [z,v5] at e5; cases e5)]
    exact e5
   refine ⟨_,rfl,.inl ⟨rfl,_,SqL.of v5⟩,_,rfl,l,_,_,rfl,rfl,v5,line_of (by omega),?_⟩
   generalize upd H5 l (.lst (vs ++ [.ref r5]))=H6 at *
   obtain ⟨ws,hw1,hw2,hw3⟩:=(hN.u u6).la.lst
   rw [List.length_map] at hw2
   have hi5:=(List.getElem?_eq_some_iff.mp g1).1
   obtain ⟨r7,x7,y7,ex7,er7⟩:=hw3 i5 _ (List.getElem?_eq_getElem (by omega))
   rw [List.getElem?_map,g1] at ex7
   cases ex7
   have a7:atI ws (i5:Int)=some (.ref r7):=by rw [<- y7]; exact atI_nat (List.getElem?_eq_getElem (by omega))
   refine ⟨_,rfl,_,rfl,r5,_,_,_,rfl,rfl,SqT.of e6,rfl,pr,_,_,_,rfl,rfl,SqL.of hw1,a7,r7,_,_,_,rfl,rfl,SqT.of er7,rfl,?_⟩
   refine ⟨_,rfl,r5,_,_,_,rfl,rfl,SqT.of e6,rfl,?_⟩
   refine ⟨⟨m5.2.1,z5,M,_,_,rfl,u6,t6,la6,by simp; omega,wk.snoc rd1,b0,b1,g4,fun i hi=>?_,fun k y j=>?_⟩,?_⟩
   ·cases e:byO (Ma.bt d (cl (Ts.getD i []) m5.2.1) z5) s' with
    | false=>rfl
    | true =>
     obtain ⟨y,ly,jo⟩:=(by_jo hd fok ok (by omega) b0 b1).mp e
     obtain ⟨y',ly',jo'⟩:=jo.early fok.ck lzz
     have:=(by_jo (s:=s') (k:=i+1) hd fok ok (by omega) p0' p1').mpr ⟨y',by omega,.inr ⟨f5,hf5,ef1.trans g2,zz,hzz,by rw [ef2]; exact jo'⟩⟩
     rw [bF (i+1) (by omega)] at this
     cases this
   ·obtain ⟨y',ly',jo'⟩:=j.early fok.ck lzz
    have:=low (k+1) y' (.inr ⟨f5,hf5,ef1.trans g2,zz,hzz,by rw [ef2]; exact jo'⟩)
    omega
   ·show (M:Int).toNat < ((M+1:Nat):Int).toNat
    omega
  ·have c':¬ (0:Int) < (L:Int):=fun z=>c (decide_eq_true z)
   have:L=0:=by omega
   subst this
   obtain ⟨y,ly,e1,e2⟩:=(by_jo hd fok ok (by omega) p0' p1').mp bT
   have lw:=low 0 t' ⟨e1,rfl⟩
   have et:t'=s':=by omega
   subst e1 et
   exact ⟨_,rfl,q l rs H4 u4 t4 hl0 la4 wk (.inr ⟨L0,by rw [<- ll]; rfl,lz1,lz2,lz3⟩)⟩
 ·intro σ H Q Q' h ⟨x,e,i,j,e1,e2,b,e3,e4⟩
  exact ⟨x,e,i,j,e1,e2,b,e3,h _ _ e4⟩
end
noncomputable def spJourney (T:Hp->Prop):Sp:=fun vs H Q _=>∃ (d:Int) (n:Nat) (pr:Addr) (N:List RdT) (goal p t:Int) (m:Nat),vs=[.int d,.int n,.ref pr,.int goal,.int p,.int t]/\NA H pr N/\T H/\0 < d/\NetOk d n N/\1<=n/\n<=1000/\N.length<=1000/\(∀ x∈N,4 * x.2.2.2.length+2<=m)/\Few N.length m n/\0<=goal/\goal < (n:Int)/\0<=p/\p < (n:Int) /\
 ∀ (F:List RdT) (Ts:List Tb) (v:V) (H':Hp),SameU H H'->T H'->Fords d N F->Ts.length=n->TsOk d n goal F m stepT Ts->((v=.non/\Ma.bt d (cl (Ts.getD (n - 1) []) p) t=none)\/∃ (l:Addr) (rs:List Ri) (s:Int),v=.ref l/\H l=none/\LA encR H' l rs/\Ma.bt d (cl (Ts.getD (n - 1) []) p) t=some s/\Wk d N rs p t goal s/\FstB (fun j=>byO (Ma.bt d (cl (Ts.getD j []) p) t) s) n (some rs.length))->Q v H'
section
variable {P:Program} {w:World} {K:PySem.W.Frag} {mg:Str->Option Value} {base:Heap} {f:Addr} {fd:FuncData} {n:Nat} {T:Hp->Prop}
theorem ok_journey (F:Fun K "journey" "journey" st_journey f fd) (C_rounds:Callee P w K mg base n "rounds" ["day","size","roads","goal"] (spRounds T)) (C_need_place:Callee P w K mg base n "need_place" ["size","thing"] spNeedPlace) (C_walk:Callee P w K mg base n "walk" ["day","roads","tables","guard","place","t"] (spWalk T)):FnOk P w K mg base CX0 (n+1) f fd ["day","size","roads","goal","place","t"] (spJourney T):=by
 refine F.okQ sc_journey (fun vs H Q E h=>?_) (fun cdv A outer s H vs Q E hr h=>?_)
 ·obtain ⟨_,_,_,_,_,_,_,_,rfl,_⟩:=h
  rfl
 obtain ⟨d,N,pr,Ns,goal,p,t,m,rfl,hN,hT,hd,nok,N1,N2,nl,lm,few,g0,g1,p0,p1,q⟩:=h
 refine ⟨_,(qss_cons (qs_set (i:=6) sc_journey.nd rfl (Or.inl rfl) (qe_fn C_rounds hr rfl (qa_c (qv 0) (qa_c (qv 1) (qa_c (qv 2) (qa_c (qv 3) qa_nil)))))) (qss_cons (qs_expr (qe_fn C_need_place hr rfl (qa_c (qv 1) (qa_c (qv 4) qa_nil)))) (qss_one (qs_ret (qe_fn C_walk hr rfl (qa_c (qv 0) (qa_c (qv 2) (qa_c (qv 6) (qa_c qe_non (qa_c (qv 4) (qa_c (qv 5) qa_nil))))))))))),?_⟩
 try dsimp only [cx_k,cx_kn,as_nil,as_name,Nat.reduceAdd]
 refine ⟨_,rfl,_,rfl,_,rfl,_,rfl,d,N,pr,Ns,goal,m,rfl,hN,hT,hd,nok,N1,N2,nl,lm,few,g0,g1,fun l F Ts H2 u2 t2 fo Lq l2 ok2=>?_⟩
 refine ⟨_,rfl,_,rfl,N,p,rfl,p0,p1,?_⟩
 refine ⟨_,rfl,_,rfl,_,rfl,_,rfl,_,rfl,d,N,pr,Ns,_,l,Ts,p,t,goal,F,m,rfl,hN.u u2,Lq,t2,hd,nok,N1,N2,l2,p0,p1,fo,fo.ok nok lm,ok2,fun v H3 u3 t3 alt=>?_⟩
 refine q F Ts v H3 (u2.trans u3) t3 fo l2 ok2 ?_
 rcases alt with alt | ⟨l,rs,s,e1,e2,e3⟩
 ·exact .inl alt
 ·exact .inr ⟨l,rs,s,e1,u2.free e2,e3⟩
end
noncomputable def spLeaveT (T:Hp->Prop):Sp:=fun vs H Q _=>∃ (day:Int) (p:Addr) (s:Int) (R:List T3),vs=[.int day,.ref p,.int s]/\LA enc3 H p R/\T H/\Ma.CK day R/\(R=[]->Q .non H)/\∀ (x:Int) (H':Hp),R ≠ []->SameU H H'->T H'->(∀ z y,Ma.bt day R z=some y->(y<=s↔z<=x))->Q (.int x) H'
theorem leave_T {P:Program} {w:World} {K:PySem.W.Frag} {mg:Str->Option Value} {base:Heap} {n:Nat} {T:Hp->Prop} {P0:Addr} {pos:Pos} (C:Callee P w K mg base n "leave" ["day","clock","s"] (spLeave P0 pos)) (h1:∀ H,T H->TabOk H P0 pos (lamQ "leave"))
  (h2:∀ H H',T H->SameT P0 H H'->TabOk H' P0 pos (lamQ "leave")->T H'):Callee P w K mg base n "leave" ["day","clock","s"] (spLeaveT T):=Callee.imp C fun vs H Q E h=>by
 obtain ⟨day,p,t,R,rfl,hR,hT,ck,q0,q⟩:=h
 refine ⟨day,p,t,R,rfl,hR.rows,h1 H hT,ck.clk,fun e=>q0 (List.length_eq_zero_iff.mp e),fun n0 x H' hL sm tb=>?_⟩
 refine q x H' (fun e=>n0 (by rw [e]; rfl)) (SameU.tab sm (h1 H hT) tb) (h2 H H' hT sm tb) fun z y hy=>?_
 obtain ⟨x0,y0,hf,hb⟩:=Ma.clk_first ck.clk n0 z
 rw [hb] at hy
 cases hy
 exact Ma.leaveT ck.clk hL hf
theorem bt_some {d:Int} {C:List T3} (n0:C ≠ []) (t:Int):∃ z,Ma.bt d C t=some z:=⟨_,Ma.tells_bf n0 t⟩
noncomputable def spLastJ (T:Hp->Prop):Sp:=fun vs H Q _=>∃ (d:Int) (n:Nat) (pr:Addr) (N:List RdT) (goal p s:Int) (m:Nat),vs=[.int d,.int n,.ref pr,.int goal,.int p,.int s]/\NA H pr N/\T H/\0 < d/\NetOk d n N/\1<=n/\n<=1000/\N.length<=1000/\(∀ x∈N,4 * x.2.2.2.length+2<=m)/\Few N.length m n/\0<=goal/\goal < (n:Int)/\0<=p/\p < (n:Int) /\
 ∀ (F:List RdT) (Ts:List Tb) (v:V) (H':Hp),SameU H H'->T H'->Fords d N F->Ts.length=n->TsOk d n goal F m stepT Ts->((v=.non/\cl (Ts.getD (n - 1) []) p=[])\/∃ (l:Addr) (rs:List Ri) (t s2:Int),v=.ref l/\H l=none/\LA encR H' l rs/\Ma.bt d (cl (Ts.getD (n - 1) []) p) t=some s2/\Wk d N rs p t goal s2/\rs.length < n/\∀ z y,Ma.bt d (cl (Ts.getD (n - 1) []) p) z=some y->(y<=s↔z<=t))->Q v H'
section
variable {P:Program} {w:World} {K:PySem.W.Frag} {mg:Str->Option Value} {base:Heap} {f:Addr} {fd:FuncData} {n:Nat} {T:Hp->Prop}
theorem ok_last_journey (hTB:TB T) (F:Fun K "last_journey" "last_journey" st_last_journey f fd) (C_rounds:Callee P w K mg base n "rounds" ["day","size","roads","goal"] (spRounds T)) (C_need_place:Callee P w K mg base n "need_place" ["size","thing"] spNeedPlace) (C_leave:Callee P w K mg base n "leave" ["day","clock","s"] (spLeaveT T)) (C_walk:Callee P w K mg base n "walk" ["day","roads","tables","guard","place","t"] (spWalk T)):FnOk P w K mg base CX0 (n+1) f fd ["day","size","roads","goal","place","s"] (spLastJ T):=by
 refine F.okQ sc_last_journey (fun vs H Q E h=>?_) (fun cdv A outer s H vs Q E hr h=>?_)
 ·obtain ⟨_,_,_,_,_,_,_,_,rfl,_⟩:=h
  rfl
 obtain ⟨d,N,pr,Ns,goal,p,s',m,rfl,hN,hT,hd,nok,N1,N2,nl,lm,few,g0,g1,p0,p1,q⟩:=h
 refine ⟨_,(qss_cons (qs_set (i:=6) sc_last_journey.nd rfl (Or.inl rfl) (qe_fn C_rounds hr rfl (qa_c (qv 0) (qa_c (qv 1) (qa_c (qv 2) (qa_c (qv 3) qa_nil)))))) (qss_cons (qs_expr (qe_fn C_need_place hr rfl (qa_c (qv 1) (qa_c (qv 4) qa_nil)))) (qss_cons (qs_set (i:=7) sc_last_journey.nd rfl (Or.inl rfl) (qe_fn C_leave hr rfl (qa_c (qv 0) (qa_c (qe_ix qix_list (qe_ix qix_list (qv 6) (qe_neg qe_int) (fun _ _=>rfl)) (qv 4) (fun _ _=>rfl)) (qa_c (qv 5) qa_nil))))) (qss_one (qs_ret (qe_ifExp (qt_isN (qv 7)) qe_non (qe_fn C_walk hr rfl (qa_c (qv 0) (qa_c (qv 2) (qa_c (qv 6) (qa_c qe_non (qa_c (qv 4) (qa_c (qv 7) qa_nil))))))))))))),?_⟩
 try dsimp only [cx_k,cx_kn,as_nil,as_name,Nat.reduceAdd]
 refine ⟨_,rfl,_,rfl,_,rfl,_,rfl,d,N,pr,Ns,goal,m,rfl,hN,hT,hd,nok,N1,N2,nl,lm,few,g0,g1,fun l F Ts H2 u2 t2 fo Lq l2 ok2=>?_⟩
 refine ⟨_,rfl,_,rfl,N,p,rfl,p0,p1,?_⟩
 have hA:Ts[N - 1]?=some (Ts.getD (N - 1) []):=by
  rw [List.getD_eq_getElem?_getD,List.getElem?_eq_getElem (by omega)]
  rfl
 obtain ⟨lA,tok⟩:=ok2.each _ _ hA
 obtain ⟨xs,x1,xl⟩:=Lq.lst
 obtain ⟨qa,qa1,qa2,_⟩:=Lq.at x1 hA
 have a1:atI xs (-1)=some (.ref qa):=by
  have:=atI_back (xs:=xs) (k:=1) (Nat.le_refl _) (by omega)
  rw [xl,l2] at this
  exact this.trans qa1
 obtain ⟨rs,rc,r1,r2,r3,r4,r5⟩:=qa2.at p0 (by rw [lA]; exact p1)
 have ck:Ma.CK d (cl (Ts.getD (N - 1) []) p):=(tok _ (cl_mem p0 (by rw [lA]; exact p1))).1
 refine ⟨_,rfl,_,rfl,_,rfl,l,_,_,_,rfl,rfl,SqL.of x1,a1,_,rfl,qa,_,_,_,rfl,rfl,SqL.of r1,r2,_,rfl,d,rc,s',_,rfl,r5,t2,ck,fun e=>?_,fun x H3 n0 u3 t3 gal=>?_⟩
 ·exact ⟨_,rfl,_,rfl,iteP (by simp) (q F Ts .non H2 u2 t2 fo l2 ok2 (.inl ⟨rfl,e⟩))⟩
 ·refine ⟨_,rfl,_,rfl,iteN (by simp) ?_⟩
  refine ⟨_,rfl,_,rfl,_,rfl,_,rfl,_,rfl,d,N,pr,Ns,_,l,Ts,p,x,goal,F,m,rfl,hN.u (u2.trans u3),Lq.u u3,t3,hd,nok,N1,N2,l2,p0,p1,fo,fo.ok nok lm,ok2,fun v H4 u4 t4 alt=>?_⟩
  have u24:=u2.trans u3
  refine q F Ts v H4 (u24.trans u4) t4 fo l2 ok2 ?_
  rcases alt with ⟨_,en⟩ | ⟨l',rs',s2,e1,e2,e3,e4,e5,fb⟩
  ·obtain ⟨z,hz⟩:=bt_some (d:=d) n0 x
   rw [en] at hz
   cases hz
  ·have fb1:rs'.length < N:=by
    rcases fb with ⟨h,_⟩ | ⟨j,h,a,_⟩
    ·cases h
    ·cases h
     exact a
   exact .inr ⟨l',rs',x,s2,e1,u24.free e2,e3,e4,e5,fb1,gal⟩
end
noncomputable def XCl (K:PySem.W.Frag) (mg:Str->Option Value) (x:Str) (C:Addr) (bm:List Value):Prop:=ExC K C bm/\mg x=some (.ref C)
theorem DvN.same {H H':Hp} {x:V} (h:DvN H x) (s:Same H H'):DvN H' x:=⟨h.1.same s,fun xs e=>by
 rw [h.1.lstV_same s] at e
 exact ⟨(h.2 xs e).1,fun y hy=>((h.2 xs e).2 y hy).same s⟩⟩
theorem DvN.netV_same {H H':Hp} {x:V} (h:DvN H x) (s:Same H H') (day:Int) (size:V):netV H' day size x=netV H day size x:=by
 unfold netV
 rw [h.1.lstV_same s]
 split
 ·congr 1
  cases e:lstV H x with
  | none=>rfl
  | some xs =>
   rw [Bool.eq_iff_iff,List.all_eq_true,List.all_eq_true]
   exact ⟨fun z y hy=>by rw [<- ((h.2 xs e).2 y hy).roadV_same s]; exact z y hy,fun z y hy=>by rw [((h.2 xs e).2 y hy).roadV_same s]; exact z y hy⟩
 ·rfl
noncomputable def spNetX (CN:Addr):Sp:=fun vs H _ E=>∃ (d:Int) (size x:V),vs=[.int d,size,x]/\Dv H size/\DvN H x/\netV H d size x=false/\∀ H',Same H H'->E (.ref CN) none H'
noncomputable def spPlaceX (CP:Addr):Sp:=fun vs H _ E=>∃ (size:Int) (x:V),vs=[.int size,x]/\Dv H x/\numV size x=false/\E (.ref CP) none H
noncomputable def RefA (CN CP:Addr) (d:Int) (size roads place:V) (H:Hp) (E:XK):Prop:=(Dv H size/\DvN H roads/\netV H d size roads=false/\∀ H',Same H H'->E (.ref CN) none H') \/
 ∃ (N:Int) (p:Addr) (Ns:List RdT),size=.int N/\roads=.ref p/\NA H p Ns/\Ns.length<=1000/\NetOk d N Ns/\1<=N/\Dv H place/\numV N place=false/\∀ H',Same H H'->E (.ref CP) none H'
noncomputable def spRef4 (CN CP:Addr):Sp:=fun vs H _ E=>∃ (d:Int) (size roads place:V),vs=[.int d,size,roads,place]/\RefA CN CP d size roads place H E
section
variable {P:Program} {w:World} {K:PySem.W.Frag} {mg:Str->Option Value} {base:Heap} {f:Addr} {fd:FuncData} {n:Nat} {CN CP:Addr} {bm bmP:List Value}
noncomputable abbrev spNetB (CN:Addr):Sp:=fun vs H Q E=>spNeedNet vs H Q E\/spNetX CN vs H Q E
noncomputable abbrev spPlaceB (CP:Addr):Sp:=fun vs H Q E=>spNeedPlace vs H Q E\/spPlaceX CP vs H Q E
theorem ok_need_netX (X_NoNet:XCl K mg "NoNet" CN bm) (F:Fun K "need_net" "need_net" st_need_net f fd) (C_is_net:Callee P w K mg base n "is_net" ["day","size","roads"] spIsNet):FnOk P w K mg base (CXE P w) (n+1) f fd ["day","size","roads"] (spNetX CN):=by
 refine F.okX sc_need_net (fun vs H Q E h=>?_) (fun cdv A outer s H vs Q E hr h=>?_)
 ·obtain ⟨_,_,_,rfl,_⟩:=h
  rfl
 obtain ⟨d,size,x,rfl,dv,dn,hb,q⟩:=h
 refine ⟨_,(qss_one (qs_if (qt_not (qt_val (qe_fn C_is_net hr rfl (qa_c (qv 0) (qa_c (qv 1) (qa_c (qv 2) qa_nil)))))) (qss_one (qs_raise makeE X_NoNet.1 rfl X_NoNet.2 (qa_c qe_str qa_nil))) qss_nil)),?_⟩
 try dsimp only [cx_k,cx_kn,as_nil,as_name,Nat.reduceAdd]
 refine ⟨_,rfl,_,rfl,_,rfl,d,size,x,rfl,dv,dn,fun H1 s1=>?_⟩
 rw [hb]
 exact ⟨_,rfl,iteT ⟨by decide,q H1 s1⟩⟩
theorem ok_need_placeX (X_NoPlace:XCl K mg "NoPlace" CP bmP) (F:Fun K "need_place" "need_place" st_need_place f fd) (C_is_number:Callee P w K mg base n "is_number" ["count","thing"] spNumber):FnOk P w K mg base (CXE P w) (n+1) f fd ["size","thing"] (spPlaceX CP):=by
 refine F.okX sc_need_place (fun vs H Q E h=>?_) (fun cdv A outer s H vs Q E hr h=>?_)
 ·obtain ⟨_,_,rfl,_⟩:=h
  rfl
 obtain ⟨N,x,rfl,dv,hb,q⟩:=h
 refine ⟨_,(qss_one (qs_if (qt_not (qt_val (qe_fn C_is_number hr rfl (qa_c (qv 0) (qa_c (qv 1) qa_nil))))) (qss_one (qs_raise makeE X_NoPlace.1 rfl X_NoPlace.2 (qa_c qe_str qa_nil))) qss_nil)),?_⟩
 try dsimp only [cx_k,cx_kn,as_nil,as_name,Nat.reduceAdd]
 refine ⟨_,rfl,_,rfl,N,x,rfl,dv,?_⟩
 rw [hb]
 exact ⟨_,rfl,iteT ⟨by decide,q⟩⟩
theorem ok_roundsX (F:Fun K "rounds" "rounds" st_rounds f fd) (CX_need_net:CalleeX P w K mg base n "need_net" ["day","size","roads"] (spNetB CN)) (CX_need_place:CalleeX P w K mg base n "need_place" ["size","thing"] (spPlaceB CP)):FnOk P w K mg base (CXE P w) (n+1) f fd ["day","size","roads","goal"] (spRef4 CN CP):=by
 refine F.okX sc_rounds (fun vs H Q E h=>?_) (fun cdv A outer s H vs Q E hr h=>?_)
 ·obtain ⟨_,_,_,_,rfl,_⟩:=h
  rfl
 obtain ⟨d,size,roads,place,rfl,alt⟩:=h
 refine ⟨_,qss_cons (qs_expr (qe_fnX CX_need_net hr rfl passE (qa_c (qv 0) (qa_c (qv 1) (qa_c (qv 2) qa_nil))))) (qss_cons (qs_expr (qe_fnX CX_need_place hr rfl passE (qa_c (qv 1) (qa_c (qv 3) qa_nil)))) qss_never),?_⟩
 rcases alt with ⟨dv,dn,hb,q⟩ | ⟨N,p,Ns,rfl,rfl,hN,hl,nok,n1,dv,hb,q⟩
 ·exact ⟨_,rfl,_,rfl,_,rfl,.inr ⟨d,size,roads,rfl,dv,dn,hb,q⟩⟩
 ·exact ⟨_,rfl,_,rfl,_,rfl,.inl ⟨d,N,p,Ns,rfl,hN,hl,nok,n1,fun H1 s1=>⟨_,rfl,_,rfl,.inr ⟨N,place,rfl,dv.same s1,hb,q H1 s1⟩⟩⟩⟩
theorem bt_ValueError:bootBuiltins "ValueError" = some (.type "ValueError"):=by decide +kernel
structure Mgs (mg:Str->Option Value) (cf cn cp cb cr ct cx cw cm co:Addr):Prop where
 ve:mg "ValueError" = none
 f:mg "FordError" = some (.ref cf)
 n:mg "NoNet" = some (.ref cn)
 p:mg "NoPlace" = some (.ref cp)
 b:mg "NoBoard" = some (.ref cb)
 r:mg "NoRoad" = some (.ref cr)
 t:mg "NoTurn" = some (.ref ct)
 x:mg "NoText" = some (.ref cx)
 w:mg "NoRow" = some (.ref cw)
 m:mg "NoName" = some (.ref cm)
 o:mg "NoWindow" = some (.ref co)
structure Knd (K:PySem.W.Frag) (D other cf cb cr ct cx cw cm co:Addr):Prop where
 ek:ExK K D
 kf:PySem.W.kitOne K (.ref D) (.ref cf)=some true
 kv:PySem.W.kitOne K (.ref D) (.type "ValueError")=some true
 ko:PySem.W.kitOne K (.ref D) (.ref other)=some false
 k1:PySem.W.kitAny K (.ref D) [.ref cb,.ref cr,.ref ct,.ref cx]=some false
 k2:PySem.W.kitAny K (.ref D) [.ref cw,.ref cm,.ref co]=some false
noncomputable def named (due:Str):List V:=[.str due,.bl true,.bl false,.bl false,.bl false]
end
theorem Dv.u {H H':Hp} {x:V} (h:Dv H x) (s:SameU H H'):Dv H' x:=by
 cases h with
 | non=>exact .non
 | bl b=>exact .bl b
 | int i=>exact .int i
 | str x=>exact .str x
 | lst e=>exact .lst (s.lst e)
 | tup e=>exact .tup (s.1 _ _ e fun _ z=>by cases z)
theorem Dv.wr {H:Hp} {x:V} {p:Addr} {xs ys:List V} (h:Dv H x) (e:H p=some (.lst xs)):Dv (upd H p (.lst ys)) x:=by
 cases h with
 | non=>exact .non
 | bl b=>exact .bl b
 | int i=>exact .int i
 | str x=>exact .str x
 | @lst a zs e' =>
  by_cases z:a=p
  ·subst z
   exact .lst upd_same
  ·exact .lst (by rw [upd_ne z]; exact e')
 | @tup a zs e' =>
  by_cases z:a=p
  ·subst z
   rw [e] at e'
   cases e'
  ·exact .tup (by rw [upd_ne z]; exact e')
structure Nf (T:Hp->Prop) (H:Hp) (d:Int) (n:Nat) (pr:Addr) (N:List RdT) (m:Nat):Prop where
 na:NA H pr N
 t:T H
 d0:0 < d
 ok:NetOk d n N
 n1:1<=n
 n2:n<=1000
 l:N.length<=1000
 w:∀ x∈N,4 * x.2.2.2.length+2<=m
 few:Few N.length m n
noncomputable def RefJ (T:Hp->Prop) (CN CP:Addr) (d:Int) (size roads goal place:V) (H:Hp) (E:XK):Prop:=RefA CN CP d size roads goal H E \/
 ∃ (n:Nat) (pr:Addr) (N:List RdT) (m:Nat) (g:Int),size=.int n/\roads=.ref pr/\goal=.int g/\Nf T H d n pr N m/\0<=g/\g < (n:Int)/\Dv H place/\numV n place=false/\∀ H',SameU H H'->T H'->E (.ref CP) none H'
noncomputable def spRefJ (T:Hp->Prop) (CN CP:Addr):Sp:=fun vs H _ E=>∃ (d:Int) (size roads goal place:V) (t:Int),vs=[.int d,size,roads,goal,place,.int t]/\RefJ T CN CP d size roads goal place H E
noncomputable def spRefJ7 (T:Hp->Prop) (CN CP:Addr):Sp:=fun vs H _ E=>∃ (d:Int) (size roads goal place:V) (t s:Int),vs=[.int d,size,roads,goal,place,.int t,.int s]/\RefJ T CN CP d size roads goal place H E
noncomputable def spAskJ (T:Hp->Prop) (CN CP:Addr):Sp:=fun vs H _ E=>∃ (which d:Int) (size roads goal place:V),vs=[.int which,.int d,size,roads,goal,place]/\RefJ T CN CP d size roads goal place H E
noncomputable abbrev spRoundsB (T:Hp->Prop) (CN CP:Addr):Sp:=fun vs H Q E=>spRounds T vs H Q E\/spRef4 CN CP vs H Q E
section
variable {P:Program} {w:World} {K:PySem.W.Frag} {mg:Str->Option Value} {base:Heap} {f:Addr} {fd:FuncData} {n:Nat} {CN CP:Addr} {bm bmP:List Value} {T:Hp->Prop}
theorem ok_journeyX (F:Fun K "journey" "journey" st_journey f fd) (CX_rounds:CalleeX P w K mg base n "rounds" ["day","size","roads","goal"] (spRoundsB T CN CP)) (CX_need_place:CalleeX P w K mg base n "need_place" ["size","thing"] (spPlaceB CP)) (C_walk:Callee P w K mg base n "walk" ["day","roads","tables","guard","place","t"] (spWalk T)):FnOk P w K mg base (CXE P w) (n+1) f fd ["day","size","roads","goal","place","t"] (spRefJ T CN CP):=by
 refine F.okX sc_journey (fun vs H Q E h=>?_) (fun cdv A outer s H vs Q E hr h=>?_)
 ·obtain ⟨_,_,_,_,_,_,rfl,_⟩:=h
  rfl
 obtain ⟨d,size,roads,goal,place,t,rfl,alt⟩:=h
 refine ⟨_,(qss_cons (qs_set (i:=6) sc_journey.nd rfl (Or.inl rfl) (qe_fnX CX_rounds hr rfl passE (qa_c (qv 0) (qa_c (qv 1) (qa_c (qv 2) (qa_c (qv 3) qa_nil)))))) (qss_cons (qs_expr (qe_fnX CX_need_place hr rfl passE (qa_c (qv 1) (qa_c (qv 4) qa_nil)))) (qss_one (qs_ret (qe_fn C_walk hr rfl (qa_c (qv 0) (qa_c (qv 2) (qa_c (qv 6) (qa_c qe_non (qa_c (qv 4) (qa_c (qv 5) qa_nil))))))))))),?_⟩
 try dsimp only [cx_k,cx_kn,as_nil,as_name,Nat.reduceAdd]
 rcases alt with alt | ⟨N,pr,Ns,m,g,rfl,rfl,rfl,nf,g0,g1,dv,hb,q⟩
 ·exact ⟨_,rfl,_,rfl,_,rfl,_,rfl,.inr ⟨d,size,roads,goal,rfl,alt⟩⟩
 ·exact ⟨_,rfl,_,rfl,_,rfl,_,rfl,.inl ⟨d,N,pr,Ns,g,m,rfl,nf.na,nf.t,nf.d0,nf.ok,nf.n1,nf.n2,nf.l,nf.w,nf.few,g0,g1,fun l _ _ H' u t _ _ _ _=>⟨_,rfl,_,rfl,.inr ⟨N,place,rfl,dv.u u,hb,q H' u t⟩⟩⟩⟩
theorem ok_last_journeyX (F:Fun K "last_journey" "last_journey" st_last_journey f fd) (CX_rounds:CalleeX P w K mg base n "rounds" ["day","size","roads","goal"] (spRoundsB T CN CP)) (CX_need_place:CalleeX P w K mg base n "need_place" ["size","thing"] (spPlaceB CP)) (C_leave:Callee P w K mg base n "leave" ["day","clock","s"] (spLeaveT T)) (C_walk:Callee P w K mg base n "walk" ["day","roads","tables","guard","place","t"] (spWalk T)):FnOk P w K mg base (CXE P w) (n+1) f fd ["day","size","roads","goal","place","s"] (spRefJ T CN CP):=by
 refine F.okX sc_last_journey (fun vs H Q E h=>?_) (fun cdv A outer s H vs Q E hr h=>?_)
 ·obtain ⟨_,_,_,_,_,_,rfl,_⟩:=h
  rfl
 obtain ⟨d,size,roads,goal,place,t,rfl,alt⟩:=h
 refine ⟨_,(qss_cons (qs_set (i:=6) sc_last_journey.nd rfl (Or.inl rfl) (qe_fnX CX_rounds hr rfl passE (qa_c (qv 0) (qa_c (qv 1) (qa_c (qv 2) (qa_c (qv 3) qa_nil)))))) (qss_cons (qs_expr (qe_fnX CX_need_place hr rfl passE (qa_c (qv 1) (qa_c (qv 4) qa_nil)))) (qss_cons (qs_set (i:=7) sc_last_journey.nd rfl (Or.inl rfl) (qe_fn C_leave hr rfl (qa_c (qv 0) (qa_c (qe_ix qix_list (qe_ix qix_list (qv 6) (qe_neg qe_int) (fun _ _=>rfl)) (qv 4) (fun _ _=>rfl)) (qa_c (qv 5) qa_nil))))) (qss_one (qs_ret (qe_ifExp (qt_isN (qv 7)) qe_non (qe_fn C_walk hr rfl (qa_c (qv 0) (qa_c (qv 2) (qa_c (qv 6) (qa_c qe_non (qa_c (qv 4) (qa_c (qv 7) qa_nil))))))))))))),?_⟩
 try dsimp only [cx_k,cx_kn,as_nil,as_name,Nat.reduceAdd]
 rcases alt with alt | ⟨N,pr,Ns,m,g,rfl,rfl,rfl,nf,g0,g1,dv,hb,q⟩
 ·exact ⟨_,rfl,_,rfl,_,rfl,_,rfl,.inr ⟨d,size,roads,goal,rfl,alt⟩⟩
 ·exact ⟨_,rfl,_,rfl,_,rfl,_,rfl,.inl ⟨d,N,pr,Ns,g,m,rfl,nf.na,nf.t,nf.d0,nf.ok,nf.n1,nf.n2,nf.l,nf.w,nf.few,g0,g1,fun l _ _ H' u t _ _ _ _=>⟨_,rfl,_,rfl,.inr ⟨N,place,rfl,dv.u u,hb,q H' u t⟩⟩⟩⟩
theorem ok_fewest_ridesX (F:Fun K "fewest_rides" "fewest_rides" st_fewest_rides f fd) (CX_rounds:CalleeX P w K mg base n "rounds" ["day","size","roads","goal"] (spRoundsB T CN CP)) (CX_need_place:CalleeX P w K mg base n "need_place" ["size","thing"] (spPlaceB CP)) (C_least_round:Callee P w K mg base n "least_round" ["day","tables","place","t","s"] (spLeast T)):FnOk P w K mg base (CXE P w) (n+1) f fd ["day","size","roads","goal","place","t","s"] (spRefJ7 T CN CP):=by
 refine F.okX sc_fewest_rides (fun vs H Q E h=>?_) (fun cdv A outer s H vs Q E hr h=>?_)
 ·obtain ⟨_,_,_,_,_,_,_,rfl,_⟩:=h
  rfl
 obtain ⟨d,size,roads,goal,place,t,s',rfl,alt⟩:=h
 refine ⟨_,(qss_cons (qs_set (i:=7) sc_fewest_rides.nd rfl (Or.inl rfl) (qe_fnX CX_rounds hr rfl passE (qa_c (qv 0) (qa_c (qv 1) (qa_c (qv 2) (qa_c (qv 3) qa_nil)))))) (qss_cons (qs_expr (qe_fnX CX_need_place hr rfl passE (qa_c (qv 1) (qa_c (qv 4) qa_nil)))) (qss_one (qs_ret (qe_fn C_least_round hr rfl (qa_c (qv 0) (qa_c (qv 7) (qa_c (qv 4) (qa_c (qv 5) (qa_c (qv 6) qa_nil)))))))))),?_⟩
 try dsimp only [cx_k,cx_kn,as_nil,as_name,Nat.reduceAdd]
 rcases alt with alt | ⟨N,pr,Ns,m,g,rfl,rfl,rfl,nf,g0,g1,dv,hb,q⟩
 ·exact ⟨_,rfl,_,rfl,_,rfl,_,rfl,.inr ⟨d,size,roads,goal,rfl,alt⟩⟩
 ·exact ⟨_,rfl,_,rfl,_,rfl,_,rfl,.inl ⟨d,N,pr,Ns,g,m,rfl,nf.na,nf.t,nf.d0,nf.ok,nf.n1,nf.n2,nf.l,nf.w,nf.few,g0,g1,fun l _ _ H' u t _ _ _ _=>⟨_,rfl,_,rfl,.inr ⟨N,place,rfl,dv.u u,hb,q H' u t⟩⟩⟩⟩
theorem ok_askedX (F:Fun K "_law_asked" "_law_asked" st__law_asked f fd) (CX_journey:CalleeX P w K mg base n "journey" ["day","size","roads","goal","place","t"] (spRefJ T CN CP)) (CX_last_journey:CalleeX P w K mg base n "last_journey" ["day","size","roads","goal","place","s"] (spRefJ T CN CP)) (CX_fewest_rides:CalleeX P w K mg base n "fewest_rides" ["day","size","roads","goal","place","t","s"] (spRefJ7 T CN CP)) :
  FnOk P w K mg base (CXE P w) (n+1) f fd ["which","day","size","roads","goal","place"] (spAskJ T CN CP):=by
 refine F.okX sc__law_asked (fun vs H Q E h=>?_) (fun cdv A outer s H vs Q E hr h=>?_)
 ·obtain ⟨_,_,_,_,_,_,rfl,_⟩:=h
  rfl
 obtain ⟨which,d,size,roads,goal,place,rfl,alt⟩:=h
 refine ⟨_,(qss_cons (qs_if (qt_cmpR qop_eq (qv 0) qe_int (nomark _)) (qss_one (qs_ret (qe_fnX CX_journey hr rfl passE (qa_c (qv 1) (qa_c (qv 2) (qa_c (qv 3) (qa_c (qv 4) (qa_c (qv 5) (qa_c qe_int qa_nil))))))))) qss_nil) (qss_cons (qs_if (qt_cmpR qop_eq (qv 0) qe_int (nomark _)) (qss_one (qs_ret (qe_fnX CX_last_journey hr rfl passE (qa_c (qv 1) (qa_c (qv 2) (qa_c (qv 3) (qa_c (qv 4) (qa_c (qv 5) (qa_c qe_int qa_nil))))))))) qss_nil) (qss_one (qs_ret (qe_fnX CX_fewest_rides hr rfl passE (qa_c (qv 1) (qa_c (qv 2) (qa_c (qv 3) (qa_c (qv 4) (qa_c (qv 5) (qa_c qe_int (qa_c (qe_op qop_pow qe_int qe_int) qa_nil)))))))))))),?_⟩
 try dsimp only [cx_k,cx_kn,as_nil,as_name,Nat.reduceAdd]
 refine ⟨_,rfl,rfl,_,rfl,ite2 (fun _=>?_) (fun _=>?_)⟩
 ·exact ⟨_,rfl,_,rfl,_,rfl,_,rfl,_,rfl,d,size,roads,goal,place,_,rfl,alt⟩
 refine ⟨_,rfl,rfl,_,rfl,ite2 (fun _=>?_) (fun _=>?_)⟩
 ·exact ⟨_,rfl,_,rfl,_,rfl,_,rfl,_,rfl,d,size,roads,goal,place,_,rfl,alt⟩
 exact ⟨_,rfl,_,rfl,_,rfl,_,rfl,_,rfl,_,_,rfl,rfl,⟨by decide,by decide,by decide⟩,d,size,roads,goal,place,_,_,rfl,alt⟩
noncomputable def spAskOk (T:Hp->Prop):Sp:=fun vs H Q _=>∃ (which d:Int) (n:Nat) (pr:Addr) (N:List RdT) (goal p:Int) (m:Nat),vs=[.int which,.int d,.int n,.ref pr,.int goal,.int p]/\Nf T H d n pr N m/\0<=goal/\goal < (n:Int)/\0<=p/\p < (n:Int)/\∀ (v:V) (H':Hp),SameU H H'->T H'->Q v H'
theorem ok_asked (F:Fun K "_law_asked" "_law_asked" st__law_asked f fd) (C_journey:Callee P w K mg base n "journey" ["day","size","roads","goal","place","t"] (spJourney T)) (C_last_journey:Callee P w K mg base n "last_journey" ["day","size","roads","goal","place","s"] (spLastJ T)) (C_fewest_rides:Callee P w K mg base n "fewest_rides" ["day","size","roads","goal","place","t","s"] (spFewR T)) :
  FnOk P w K mg base CX0 (n+1) f fd ["which","day","size","roads","goal","place"] (spAskOk T):=by
 refine F.okQ sc__law_asked (fun vs H Q E h=>?_) (fun cdv A outer s H vs Q E hr h=>?_)
 ·obtain ⟨_,_,_,_,_,_,_,_,rfl,_⟩:=h
  rfl
 obtain ⟨which,d,N,pr,Ns,goal,p,m,rfl,nf,g0,g1,p0,p1,q⟩:=h
 refine ⟨_,(qss_cons (qs_if (qt_cmpR qop_eq (qv 0) qe_int (nomark _)) (qss_one (qs_ret (qe_fn C_journey hr rfl (qa_c (qv 1) (qa_c (qv 2) (qa_c (qv 3) (qa_c (qv 4) (qa_c (qv 5) (qa_c qe_int qa_nil))))))))) qss_nil) (qss_cons (qs_if (qt_cmpR qop_eq (qv 0) qe_int (nomark _)) (qss_one (qs_ret (qe_fn C_last_journey hr rfl (qa_c (qv 1) (qa_c (qv 2) (qa_c (qv 3) (qa_c (qv 4) (qa_c (qv 5) (qa_c qe_int qa_nil))))))))) qss_nil) (qss_one (qs_ret (qe_fn C_fewest_rides hr rfl (qa_c (qv 1) (qa_c (qv 2) (qa_c (qv 3) (qa_c (qv 4) (qa_c (qv 5) (qa_c qe_int (qa_c (qe_op qop_pow qe_int qe_int) qa_nil)))))))))))),?_⟩
 try dsimp only [cx_k,cx_kn,as_nil,as_name,Nat.reduceAdd]
 refine ⟨_,rfl,rfl,_,rfl,ite2 (fun _=>?_) (fun _=>?_)⟩
 ·exact ⟨_,rfl,_,rfl,_,rfl,_,rfl,_,rfl,d,N,pr,Ns,goal,p,_,m,rfl,nf.na,nf.t,nf.d0,nf.ok,nf.n1,nf.n2,nf.l,nf.w,nf.few,g0,g1,p0,p1,fun _ _ v H' u t _ _ _ _=>q v H' u t⟩
 refine ⟨_,rfl,rfl,_,rfl,ite2 (fun _=>?_) (fun _=>?_)⟩
 ·exact ⟨_,rfl,_,rfl,_,rfl,_,rfl,_,rfl,d,N,pr,Ns,goal,p,_,m,rfl,nf.na,nf.t,nf.d0,nf.ok,nf.n1,nf.n2,nf.l,nf.w,nf.few,g0,g1,p0,p1,fun _ _ v H' u t _ _ _ _=>q v H' u t⟩
 exact ⟨_,rfl,_,rfl,_,rfl,_,rfl,_,rfl,_,_,rfl,rfl,⟨by decide,by decide,by decide⟩,d,N,pr,Ns,goal,p,_,_,m,rfl,nf.na,nf.t,nf.d0,nf.ok,nf.n1,nf.n2,nf.l,nf.w,nf.few,g0,g1,p0,p1,fun _ _ r H' u t _ _ _ _=>q _ H' u t⟩
noncomputable abbrev spAskB (CN CP:Addr) (T:Hp->Prop):Sp:=fun vs H Q E=>spAskOk T vs H Q E\/spAskJ T CN CP vs H Q E
noncomputable def NmAlt (T:Hp->Prop) (vs:List V) (H:Hp) (Q:V->Hp->Prop):Prop:=(spAskOk T vs H (fun _ _=>True) E0/\∀ (l:Addr) (H':Hp),SameU H H'->T H'->H' l=some (.lst (named "answered"))->Q (.ref l) H') \/
 ∃ (which d:Int) (size roads goal place:V),vs=[.int which,.int d,size,roads,goal,place] /\
  ((Dv H size/\DvN H roads/\netV H d size roads=false/\∀ (l:Addr) (H':Hp),Same H H'->T H'->H' l=some (.lst (named "net"))->Q (.ref l) H') \/
   ∃ (N:Nat) (p:Addr) (Ns:List RdT) (m:Nat),size=.int N/\roads=.ref p/\Nf T H d N p Ns m/\((Dv H goal/\numV N goal=false)\/∃ g:Int,goal=.int g/\0<=g/\g < (N:Int)/\Dv H place/\numV N place=false)/\∀ (l:Addr) (H':Hp),SameU H H'->T H'->H' l=some (.lst (named "place"))->Q (.ref l) H')
noncomputable def spNamed (T:Hp->Prop):Sp:=fun vs H Q _=>T H/\NmAlt T vs H Q
theorem Nf.u {T:Hp->Prop} {H H':Hp} {d:Int} {n:Nat} {pr:Addr} {N:List RdT} {m:Nat} (h:Nf T H d n pr N m) (u:SameU H H') (t:T H'):Nf T H' d n pr N m:=⟨h.na.u u,t,h.d0,h.ok,h.n1,h.n2,h.l,h.w,h.few⟩
theorem ok_named {T:Hp->Prop} {cf cb cr ct cx cw cm co:Addr} (hTB:TB T) (ms:Mgs mg cf CN CP cb cr ct cx cw cm co) (kn:Knd K CN CP cf cb cr ct cx cw cm co) (kp:Knd K CP CN cf cb cr ct cx cw cm co) (X_NoNet:XCl K mg "NoNet" CN bm) (X_NoPlace:XCl K mg "NoPlace" CP bmP) (hne:(Value.ref CP :: bmP).contains (.ref CN)=false)
  (F:Fun K "_law_named" "_law_named" st__law_named f fd) (B:Bl mg) (CX__law_asked:CalleeX P w K mg base n "_law_asked" ["which","day","size","roads","goal","place"] (spAskB CN CP T)):FnOk P w K mg base CX0 (n+1) f fd ["which","day","size","roads","goal","place"] (spNamed T):=by
 refine F.okQ sc__law_named (fun vs H Q E h=>?_) (fun cdv A outer s H vs Q E hr h=>?_)
 ·obtain ⟨_,h | h⟩:=h
  ·obtain ⟨⟨_,_,_,_,_,_,_,_,rfl,_⟩,_⟩:=h
   rfl
  ·obtain ⟨_,_,_,_,_,_,rfl,_⟩:=h
   rfl
 obtain ⟨hT,alt⟩:=h
 refine ⟨_,(qss_cons (qs_set (i:=6) sc__law_named.nd rfl (Or.inl rfl) (qe_lst (qa_c qe_str (qa_c qe_bl (qa_c qe_bl (qa_c qe_bl (qa_c qe_bl qa_nil))))))) (qss_cons (qs_tryAs2 (i:=7) (qsx_expr (qex_fn CX__law_asked hr rfl (qa_c (qv 0) (qa_c (qv 1) (qa_c (qv 2) (qa_c (qv 3) (qa_c (qv 4) (qa_c (qv 5) qa_nil)))))))) X_NoNet.1 rfl X_NoNet.2 X_NoPlace.1 rfl X_NoPlace.2 own0 (fun _=>(qss_one (qs_set (i:=6) sc__law_named.nd rfl (Or.inl rfl) (qe_lst (qa_c qe_str (qa_c (qe_and (qe_cb (qcall_isiXK K rfl) rfl B.isinstance bt_isinstance (qa_c (qv 7) (qa_c (qe_cls rfl ms.f) qa_nil))) (qe_one (qe_cb (qcall_isiXK K rfl) rfl B.isinstance bt_isinstance (qa_c (qv 7) (qa_c (qe_tyB rfl ms.ve bt_ValueError) qa_nil))))) (qa_c (qe_cb (qcall_isiXK K rfl) rfl B.isinstance bt_isinstance (qa_c (qv 7) (qa_c (qe_cls rfl ms.p) qa_nil))) (qa_c (qe_cb (qcall_isiXK K rfl) rfl B.isinstance bt_isinstance (qa_c (qv 7) (qa_c (qe_tup (qa_c (qe_cls rfl ms.b) (qa_c (qe_cls rfl ms.r) (qa_c (qe_cls rfl ms.t) (qa_c (qe_cls rfl ms.x) qa_nil))))) qa_nil))) (qa_c (qe_cb (qcall_isiXK K rfl) rfl B.isinstance bt_isinstance (qa_c (qv 7) (qa_c (qe_tup (qa_c (qe_cls rfl ms.w) (qa_c (qe_cls rfl ms.m) (qa_c (qe_cls rfl ms.o) qa_nil)))) qa_nil))) qa_nil))))))))) (fun _=>(qss_one (qs_set (i:=6) sc__law_named.nd rfl (Or.inl rfl) (qe_lst (qa_c qe_str (qa_c (qe_and (qe_cb (qcall_isiXK K rfl) rfl B.isinstance bt_isinstance (qa_c (qv 7) (qa_c (qe_cls rfl ms.f) qa_nil))) (qe_one (qe_cb (qcall_isiXK K rfl) rfl B.isinstance bt_isinstance (qa_c (qv 7) (qa_c (qe_tyB rfl ms.ve bt_ValueError) qa_nil))))) (qa_c (qe_cb (qcall_isiXK K rfl) rfl B.isinstance bt_isinstance (qa_c (qv 7) (qa_c (qe_cls rfl ms.n) qa_nil))) (qa_c (qe_cb (qcall_isiXK K rfl) rfl B.isinstance bt_isinstance (qa_c (qv 7) (qa_c (qe_tup (qa_c (qe_cls rfl ms.b) (qa_c (qe_cls rfl ms.r) (qa_c (qe_cls rfl ms.t) (qa_c (qe_cls rfl ms.x) qa_nil))))) qa_nil))) (qa_c (qe_cb (qcall_isiXK K rfl) rfl B.isinstance bt_isinstance (qa_c (qv 7) (qa_c (qe_tup (qa_c (qe_cls rfl ms.w) (qa_c (qe_cls rfl ms.m) (qa_c (qe_cls rfl ms.o) qa_nil)))) qa_nil))) qa_nil))))))))) sc__law_named.nd rfl rfl) (qss_one (qs_ret (qv 6))))),?_⟩
 try dsimp only [cx_k,cx_kn,as_nil,as_name,Nat.reduceAdd]
 refine ⟨(by show 5<=sizeLine; decide),fun l0 hl0=>?_⟩
 generalize hgH0:upd _ l0 _=H0
 obtain ⟨s0,e0⟩:=fresh_of hl0 hgH0
 clear hgH0
 have t0:=hTB.same _ _ hT s0
 rcases alt with ⟨ok,q⟩ | ⟨which,d,size,roads,goal,place,rfl,alt⟩
 ·refine ⟨fun _ _ _=>False,?_,fun cls ⟨_,z⟩=>z.elim⟩
  obtain ⟨which,d,N,pr,Ns,goal,p,m,rfl,nf,g0,g1,p0,p1,_⟩:=ok
  exact ⟨_,rfl,_,rfl,_,rfl,_,rfl,_,rfl,_,rfl,.inl ⟨which,d,N,pr,Ns,goal,p,m,rfl,nf.u (SameU.of s0) t0,g0,g1,p0,p1,fun v H' u t=>⟨_,rfl,q l0 H' ((SameU.of s0).trans u) t (u.lst e0)⟩⟩⟩
 rcases alt with ⟨dv,dn,hb,q⟩ | ⟨N,p,Ns,m,rfl,rfl,nf,gp,q⟩
 ·refine ⟨fun cls _ H'=>cls=.ref CN/\Same H0 H',?_,fun cls ⟨_,z,_⟩=>?_⟩
  ·exact ⟨_,rfl,_,rfl,_,rfl,_,rfl,_,rfl,_,rfl,.inr ⟨which,d,size,roads,goal,place,rfl,.inl (.inl ⟨dv.same s0,dn.same s0,by rw [dn.netV_same s0]; exact hb,fun H' s'=>⟨rfl,s'⟩⟩)⟩⟩
  subst z
  refine ⟨CN,bm,rfl,X_NoNet.1,.inl ⟨by simp,?_⟩⟩
  intro a H1 z9 ha;obtain ⟨_,s1⟩ := z9
  have s2:Same H1 (upd H1 a (.ext (ExQ a CN))):=same_new ha _
  have e2:upd H1 a (.ext (ExQ a CN)) a=some (.ext (ExQ a CN)):=upd_same
  generalize upd H1 a (.ext (ExQ a CN))=H2 at *
  refine ⟨_,rfl,a,CN,_,true,rfl,e2,kn.ek,.inl ⟨_,rfl,kn.kf⟩,_,rfl,iteP rfl ⟨_,rfl,a,CN,_,true,rfl,e2,kn.ek,.inl ⟨_,rfl,kn.kv⟩,?_⟩⟩
  refine ⟨_,rfl,a,CN,_,false,rfl,e2,kn.ek,.inl ⟨_,rfl,kn.ko⟩,?_⟩
  refine ⟨_,rfl,(by show 4<=sizeLine; decide),fun tp htp=>?_⟩
  generalize hgH3:upd _ tp _=H3
  obtain ⟨s3,e3⟩:=fresh_of htp hgH3
  clear hgH3
  refine ⟨a,CN,_,false,rfl,s3 _ _ e2,kn.ek,.inr ⟨tp,_,[.ref cb,.ref cr,.ref ct,.ref cx],rfl,SqT.of e3,rfl,kn.k1⟩,?_⟩
  refine ⟨_,rfl,(by show 3<=sizeLine; decide),fun tq htq=>?_⟩
  generalize hgH4:upd _ tq _=H4
  obtain ⟨s4,e4⟩:=fresh_of htq hgH4
  clear hgH4
  refine ⟨a,CN,_,false,rfl,s4 _ _ (s3 _ _ e2),kn.ek,.inr ⟨tq,_,[.ref cw,.ref cm,.ref co],rfl,SqT.of e4,rfl,kn.k2⟩,?_⟩
  refine ⟨(by show 5<=sizeLine; decide),fun l5 hl5=>?_⟩
  generalize hgH5:upd _ l5 _=H5
  obtain ⟨s5,e5⟩:=fresh_of hl5 hgH5
  clear hgH5
  have S:=s1.trans (s2.trans (s3.trans (s4.trans s5)))
  exact ⟨_,rfl,q l5 H5 (s0.trans S) (hTB.same _ _ t0 S) e5⟩
 ·refine ⟨fun cls _ H'=>cls=.ref CP/\SameU H0 H'/\T H',?_,fun cls ⟨_,z,_⟩=>?_⟩
  ·refine ⟨_,rfl,_,rfl,_,rfl,_,rfl,_,rfl,_,rfl,.inr ⟨which,d,.int N,.ref p,goal,place,rfl,?_⟩⟩
   have nf0:=nf.u (SameU.of s0) t0
   rcases gp with ⟨dg,hg⟩ | ⟨g,rfl,g0,g1,dp,hp⟩
   ·exact .inl (.inr ⟨N,p,Ns,rfl,rfl,nf0.na,nf0.l,nf0.ok,by have:=nf0.n1; omega,dg.same s0,hg,fun H' s'=>⟨rfl,SameU.of s',hTB.same _ _ t0 s'⟩⟩)
   ·exact .inr ⟨N,p,Ns,m,g,rfl,rfl,rfl,nf0,g0,g1,dp.same s0,hp,fun H' u t=>⟨rfl,u,t⟩⟩
  subst z
  refine ⟨CP,bmP,rfl,X_NoPlace.1,.inr ⟨hne,by simp,?_⟩⟩
  intro a H1 z9 ha;obtain ⟨_,u1,t1⟩ := z9
  have s2:Same H1 (upd H1 a (.ext (ExQ a CP))):=same_new ha _
  have e2:upd H1 a (.ext (ExQ a CP)) a=some (.ext (ExQ a CP)):=upd_same
  generalize upd H1 a (.ext (ExQ a CP))=H2 at *
  refine ⟨_,rfl,a,CP,_,true,rfl,e2,kp.ek,.inl ⟨_,rfl,kp.kf⟩,_,rfl,iteP rfl ⟨_,rfl,a,CP,_,true,rfl,e2,kp.ek,.inl ⟨_,rfl,kp.kv⟩,?_⟩⟩
  refine ⟨_,rfl,a,CP,_,false,rfl,e2,kp.ek,.inl ⟨_,rfl,kp.ko⟩,?_⟩
  refine ⟨_,rfl,(by show 4<=sizeLine; decide),fun tp htp=>?_⟩
  generalize hgH3:upd _ tp _=H3
  obtain ⟨s3,e3⟩:=fresh_of htp hgH3
  clear hgH3
  refine ⟨a,CP,_,false,rfl,s3 _ _ e2,kp.ek,.inr ⟨tp,_,[.ref cb,.ref cr,.ref ct,.ref cx],rfl,SqT.of e3,rfl,kp.k1⟩,?_⟩
  refine ⟨_,rfl,(by show 3<=sizeLine; decide),fun tq htq=>?_⟩
  generalize hgH4:upd _ tq _=H4
  obtain ⟨s4,e4⟩:=fresh_of htq hgH4
  clear hgH4
  refine ⟨a,CP,_,false,rfl,s4 _ _ (s3 _ _ e2),kp.ek,.inr ⟨tq,_,[.ref cw,.ref cm,.ref co],rfl,SqT.of e4,rfl,kp.k2⟩,?_⟩
  refine ⟨(by show 5<=sizeLine; decide),fun l5 hl5=>?_⟩
  generalize hgH5:upd _ l5 _=H5
  obtain ⟨s5,e5⟩:=fresh_of hl5 hgH5
  clear hgH5
  have S:=s2.trans (s3.trans (s4.trans s5))
  exact ⟨_,rfl,q l5 H5 ((SameU.of s0).trans (u1.trans (SameU.of S))) (hTB.same _ _ t1 S) e5⟩
end
noncomputable def spOddP:Sp:=fun vs H Q _=>∃ N cell:Int,vs=[.int N,.int cell]/\1<=N/\N<=1000/\∀ (v:V) (H':Hp),Same H H'->Dv H' v->numV N v=false->Q v H'
noncomputable def spBent:Sp:=fun vs H Q _=>∃ (d N:Int) (r b:Addr) (s e cell:Int) (R:List T3),vs=[.int d,.int N,.ref r,.int cell]/\H r=some (.tup [.int s,.int e,.ref b])/\LA enc3 H b R/\R.length<=16/\1<=d/\1<=N /\
 ∀ (v:V) (H':Hp),Same H H'->(∀ p zs,H p=some (.lst zs)->b ≠ p->Ew (hide p H') 3 v)->roadV H' d N v=false->Q v H'
theorem pow30:(10:Int) ^ (30:Int).toNat=1000000000000000000000000000000:=by decide +kernel
theorem roadV_tup {H:Hp} {p:Addr} {xs:List V} {d N:Int} (e:H p=some (.tup xs)):roadV H d N (.ref p)=roadL H d N xs:=by
 unfold roadV
 rw [show tupV H (.ref p)=some xs by simp [tupV,e]]
theorem roadV_non {H:Hp} {x:V} {d N:Int} (e:tupV H x=none):roadV H d N x=false:=by
 unfold roadV
 rw [e]
theorem board_bad {H:Hp} {p:Addr} {xs:List V} {y:V} {d:Int} (e:H p=some (.lst xs)) (hy:y∈xs) (h:(winV H d y && posW H y)=false):(boardV H d (.ref p) && posB H (.ref p))=false:=by
 have el:lstV H (.ref p)=some xs:=by simp [lstV,e]
 refine Bool.eq_false_iff.mpr fun z=>?_
 rw [Bool.and_eq_true] at z
 unfold boardV posB at z
 rw [el] at z
 have h1:=List.all_eq_true.mp z.1 y hy
 have h2:=List.all_eq_true.mp z.2 y hy
 rw [h1,h2] at h
 cases h
section
variable {P:Program} {w:World} {K:PySem.W.Frag} {mg:Str->Option Value} {base:Heap} {f:Addr} {fd:FuncData} {n:Nat}
theorem ok_oddP (F:Fun K "_law_odd_place" "_law_odd_place" st__law_odd_place f fd):FnOk P w K mg base CX0 (n+1) f fd ["size","cell"] spOddP:=by
 refine F.okQ sc__law_odd_place (fun vs H Q E h=>?_) (fun cdv A outer s H vs Q E hr h=>?_)
 ·obtain ⟨_,_,rfl,_⟩:=h
  rfl
 obtain ⟨N,cell,rfl,n1,n2,q⟩:=h
 refine ⟨_,(qss_one (qs_ret (qe_ix qix_list (qe_lst (qa_c qe_non (qa_c qe_bl (qa_c qe_bl (qa_c (qe_neg qe_int) (qa_c (qv 0) (qa_c (qe_op qop_add (qv 0) (qe_op qop_pow qe_int qe_int)) (qa_c qe_str (qa_c (qe_lst qa_nil) (qa_c (qe_tup (qa_c qe_int qa_nil)) (qa_c (qe_lst (qa_c qe_int qa_nil)) (qa_c (qe_op qop_sub (qe_neg qe_int) (qe_op qop_mod (qe_op qop_fdivB (qv 1) qe_int) (qe_op qop_pow qe_int qe_int))) qa_nil)))))))))))) (qe_op qop_mod (qv 1) qe_int) (fun _ _=>rfl)))),?_⟩
 try dsimp only [cx_k,cx_kn,as_nil,as_name,Nat.reduceAdd]
 refine ⟨_,rfl,_,rfl,_,rfl,_,_,rfl,rfl,⟨by decide,by decide,by decide⟩,_,_,rfl,rfl,(by show 0<=sizeLine; decide),fun p1 hp1=>?_⟩
 generalize hgH1:upd _ p1 _=H1
 obtain ⟨s1,e1⟩:=fresh_of hp1 hgH1
 clear hgH1
 refine ⟨(by show 1<=sizeLine; decide),fun p2 hp2=>?_⟩
 generalize hgH2:upd _ p2 _=H2
 obtain ⟨s2,e2⟩:=fresh_of hp2 hgH2
 clear hgH2
 refine ⟨(by show 1<=sizeLine; decide),fun p3 hp3=>?_⟩
 generalize hgH3:upd _ p3 _=H3
 obtain ⟨s3,e3⟩:=fresh_of hp3 hgH3
 clear hgH3
 refine ⟨_,rfl,_,rfl,_,_,rfl,rfl,⟨by decide,by decide⟩,_,_,rfl,rfl,⟨by decide,by decide,by decide⟩,_,_,rfl,rfl,(by show (0:Int) < 10 ^ (30:Int).toNat; rw [pow30]; decide),_,_,rfl,rfl,(by show 11<=sizeLine; decide),fun p4 hp4=>?_⟩
 generalize hgH4:upd _ p4 _=H4
 obtain ⟨s4,e4⟩:=fresh_of hp4 hgH4
 clear hgH4
 have em:=emod_b cell (show (0:Int) < 11 by decide)
 have z0:=Int.emod_nonneg (cell / 11) (show (10:Int) ^ (30:Int).toNat ≠ 0 by rw [pow30]; decide)
 obtain ⟨v,hv,vm⟩:=at_any (xs:=[V.non,V.bl true,V.bl false,V.int (-1),V.int N,V.int (N+10 ^ (30:Int).toNat),V.str "0",V.ref p1,V.ref p2,V.ref p3,V.int (-2 - cell / 11 % 10 ^ (30:Int).toNat)]) em.1 em.2
 refine ⟨_,rfl,_,_,rfl,rfl,(by show (0:Int) < 11; decide),p4,_,_,v,rfl,rfl,SqL.of e4,hv,q v H4 (s1.trans (s2.trans (s3.trans s4))) ?_ ?_⟩
 ·simp only [List.mem_cons,List.not_mem_nil,or_false] at vm
  rcases vm with rfl | rfl | rfl | rfl | rfl | rfl | rfl | rfl | rfl | rfl | rfl
  ·exact .non
  ·exact .bl _
  ·exact .bl _
  ·exact .int _
  ·exact .int _
  ·exact .int _
  ·exact .str _
  ·exact .lst (s4 _ _ (s3 _ _ (s2 _ _ e1)))
  ·exact .tup (s4 _ _ (s3 _ _ e2))
  ·exact .lst (s4 _ _ e3)
  ·exact .int _
 ·simp only [List.mem_cons,List.not_mem_nil,or_false] at vm
  have p30:=pow30
  rcases vm with rfl | rfl | rfl | rfl | rfl | rfl | rfl | rfl | rfl | rfl | rfl <;> simp [numV] <;> omega
theorem ok_bent (F:Fun K "_law_bent" "_law_bent" st__law_bent f fd) (B:Bl mg):FnOk P w K mg base CX0 (n+1) f fd ["day","size","road","cell"] spBent:=by
 refine F.okQ sc__law_bent (fun vs H Q E h=>?_) (fun cdv A outer s H vs Q E hr h=>?_)
 ·obtain ⟨_,_,_,_,_,_,_,_,rfl,_⟩:=h
  rfl
 obtain ⟨d,N,r,b,sa,ea,cell,R,rfl,er,la,lR,d1,n1,q⟩:=h
 refine ⟨_,(qss_cons (qs_set (i:=4) sc__law_bent.nd rfl (Or.inl rfl) (qe_ix qix_list (qe_lst (qa_c qe_non (qa_c qe_bl (qa_c (qe_neg qe_int) (qa_c (qv 1) (qa_c qe_str (qa_c (qe_tup qa_nil) (qa_c (qe_lst (qa_c qe_non qa_nil)) (qa_c (qe_tup (qa_c qe_int (qa_c qe_int qa_nil))) qa_nil))))))))) (qe_op qop_mod (qe_op qop_fdivB (qv 3) qe_int) qe_int) (fun _ _=>rfl))) (qss_cons (qs_if (qt_cmpR qop_eq (qe_op qop_mod (qv 3) qe_int) qe_int (nomark _)) (qss_one (qs_ret (qv 4))) qss_nil) (qss_cons (qs_if (qt_cmpR qop_eq (qe_op qop_mod (qv 3) qe_int) qe_int (nomark _)) (qss_one (qs_ret (qe_tup (qa_c (qv 4) (qa_c (qe_ix qix_tup (qv 2) qe_int (fun _ _=>rfl)) (qa_c (qe_ix qix_tup (qv 2) qe_int (fun _ _=>rfl)) qa_nil)))))) qss_nil) (qss_cons (qs_if (qt_cmpR qop_eq (qe_op qop_mod (qv 3) qe_int) qe_int (nomark _)) (qss_one (qs_ret (qe_tup (qa_c (qe_ix qix_tup (qv 2) qe_int (fun _ _=>rfl)) (qa_c (qv 4) (qa_c (qe_ix qix_tup (qv 2) qe_int (fun _ _=>rfl)) qa_nil)))))) qss_nil) (qss_cons (qs_if (qt_cmpR qop_eq (qe_op qop_mod (qv 3) qe_int) qe_int (nomark _)) (qss_one (qs_ret (qe_tup (qa_c (qe_ix qix_tup (qv 2) qe_int (fun _ _=>rfl)) (qa_c (qe_ix qix_tup (qv 2) qe_int (fun _ _=>rfl)) (qa_c (qv 4) qa_nil)))))) qss_nil) (qss_cons (qs_set (i:=5) sc__law_bent.nd rfl (Or.inl rfl) (qe_ix qix_list (qe_lst (qa_c (qe_tup (qa_c qe_int (qa_c qe_int (qa_c qe_int qa_nil)))) (qa_c (qe_tup (qa_c qe_int (qa_c (qv 0) (qa_c qe_int qa_nil)))) (qa_c (qe_tup (qa_c qe_int (qa_c (qe_neg qe_int) (qa_c qe_int qa_nil)))) (qa_c (qe_tup (qa_c qe_int (qa_c qe_int (qa_c qe_bl qa_nil)))) (qa_c (qe_lst (qa_c qe_int (qa_c qe_int (qa_c qe_int qa_nil)))) (qa_c (qe_tup (qa_c qe_int (qa_c qe_int qa_nil))) (qa_c (qe_tup (qa_c (qe_neg qe_int) (qa_c qe_int (qa_c qe_int qa_nil)))) (qa_c (qe_tup (qa_c qe_int (qa_c qe_int (qa_c qe_non qa_nil)))) qa_nil))))))))) (qe_op qop_mod (qe_op qop_fdivB (qv 3) qe_int) qe_int) (fun _ _=>rfl))) (qss_cons (qs_set (i:=6) sc__law_bent.nd rfl (Or.inl rfl) (qe_op qop_mod (qe_op qop_fdivB (qv 3) qe_int) (qe_op qop_add (qe_cb qcall_len rfl B.len bt_len (qa_c (qe_ix qix_tup (qv 2) qe_int (fun _ _=>rfl)) qa_nil)) qe_int))) (qss_one (qs_ret (qe_tup (qa_c (qe_ix qix_tup (qv 2) qe_int (fun _ _=>rfl)) (qa_c (qe_ix qix_tup (qv 2) qe_int (fun _ _=>rfl)) (qa_c (qe_op qop_cat (qe_op qop_cat (qe_slL (qe_ix qix_tup (qv 2) qe_int (fun _ _=>rfl)) qo_none (qo_some (qv 6))) (qe_lst (qa_c (qv 5) qa_nil))) (qe_slL (qe_ix qix_tup (qv 2) qe_int (fun _ _=>rfl)) (qo_some (qv 6)) qo_none)) qa_nil))))))))))))),?_⟩
 try dsimp only [cx_k,cx_kn,as_nil,as_name,Nat.reduceAdd]
 refine ⟨_,rfl,_,rfl,(by show 0<=sizeLine; decide),fun p1 hp1=>?_⟩
 have f1:=hp1
 generalize hgH1:upd _ p1 _=H1
 obtain ⟨s1,e1⟩:=fresh_of hp1 hgH1
 clear hgH1
 refine ⟨(by show 1<=sizeLine; decide),fun p2 hp2=>?_⟩
 have f2:=s1.free hp2
 generalize hgH2:upd _ p2 _=H2
 obtain ⟨s2,e2⟩:=fresh_of hp2 hgH2
 clear hgH2
 refine ⟨(by show 2<=sizeLine; decide),fun p3 hp3=>?_⟩
 have f3:=(s1.trans s2).free hp3
 generalize hgH3:upd _ p3 _=H3
 obtain ⟨s3,e3⟩:=fresh_of hp3 hgH3
 clear hgH3
 refine ⟨(by show 8<=sizeLine; decide),fun p4 hp4=>?_⟩
 generalize hgH4:upd _ p4 _=H4
 obtain ⟨s4,e4⟩:=fresh_of hp4 hgH4
 clear hgH4
 have s04:=s1.trans (s2.trans (s3.trans s4))
 have em:=emod_b (cell / 5) (show (0:Int) < 8 by decide)
 obtain ⟨o,ho,om⟩:=at_any (xs:=[V.non,V.bl true,V.int (-1),V.int N,V.str "0",V.ref p1,V.ref p2,V.ref p3]) em.1 em.2
 refine ⟨_,rfl,_,_,rfl,rfl,⟨by decide,by decide⟩,_,_,rfl,rfl,(by show (0:Int) < 8; decide),p4,_,_,o,rfl,rfl,SqL.of e4,ho,?_⟩
 have g1:=s4 _ _ (s3 _ _ (s2 _ _ e1))
 have g2:=s4 _ _ (s3 _ _ e2)
 have g3:=s4 _ _ e3
 have l2:lstV H4 (.ref p2)=some [.non]:=by simp [lstV,g2]
 obtain ⟨onw,onum,obrd,ord⟩:Nw H H4 1 o/\numV N o=false/\boardV H4 d o=false/\roadV H4 d N o=false:=by
  simp only [List.mem_cons,List.not_mem_nil,or_false] at om
  rcases om with rfl | rfl | rfl | rfl | rfl | rfl | rfl | rfl
  ·exact ⟨.non,rfl,rfl,rfl⟩
  ·exact ⟨.bl _,rfl,rfl,rfl⟩
  ·exact ⟨.int _,by simp [numV],rfl,rfl⟩
  ·exact ⟨.int _,by simp [numV],rfl,rfl⟩
  ·exact ⟨.str _,rfl,rfl,rfl⟩
  ·exact ⟨Ew.tup (since_at f1 g1) (by simp),rfl,by simp [boardV,lstV,g1],by rw [roadV_tup g1]; rfl⟩
  ·refine ⟨Ew.lst (since_at f2 g2) (by simp) (fun y hy=>by rw [List.mem_singleton.mp hy]; exact .non),rfl,?_,roadV_non (by simp [tupV,g2])⟩
   unfold boardV
   rw [l2]
   rfl
  ·refine ⟨Ew.tup (since_at f3 g3) (fun y hy=>?_),rfl,by simp [boardV,lstV,g3],by rw [roadV_tup g3]; rfl⟩
   simp at hy
   subst hy
   exact .int _
 have er4:=s04 _ _ er
 have la4:=la.same s04
 have three:∀ {H5:Hp} {pt:Addr} {u1 u2 u3:V},Same H4 H5->H pt=none->H5 pt=some (.tup [u1,u2,u3])->(∀ p zs,H p=some (.lst zs)->b ≠ p->Ew (hide p H5) 2 u1/\Ew (hide p H5) 2 u2/\Ew (hide p H5) 2 u3)->roadL H5 d N [u1,u2,u3]=false->Q (.ref pt) H5:=fun {H5 pt u1 u2 u3} s5 fp e5 hu hr'=>by
  refine q _ H5 (s04.trans s5) (fun p zs hp nb=>?_) (by rw [roadV_tup e5]; exact hr')
  obtain ⟨a1,a2,a3⟩:=hu p zs hp nb
  refine .tup (hide_at e5 fun z=>by rw [z,hp] at fp; cases fp) fun y hy=>?_
  simp only [List.mem_cons,List.not_mem_nil,or_false] at hy
  rcases hy with rfl | rfl | rfl
  ·exact a1
  ·exact a2
  ·exact a3
 have bE:∀ {H5:Hp},Same H4 H5->∀ p zs,H p=some (.lst zs)->b ≠ p->Ew (hide p H5) 2 (.ref b):=fun s5 p zs hp nb=>la_ew (la4.same s5) ((s04.trans s5) _ _ hp) nb (by omega)
 have oE:∀ {H5:Hp},Same H4 H5->∀ p zs,H p=some (.lst zs)->Ew (hide p H5) 2 o:=fun s5 p zs hp=>(Nw.hide (onw.same s5) (by rw [hp]; simp)).up
 refine ⟨_,rfl,_,_,rfl,rfl,(by show (0:Int) < 5; decide),rfl,_,rfl,ite2 (fun _=>?_) (fun _=>?_)⟩
 ·exact ⟨_,rfl,q o H4 s04 (fun p zs hp _=>(oE (Same.refl _) p zs hp).up) ord⟩
 refine ⟨_,rfl,_,_,rfl,rfl,(by show (0:Int) < 5; decide),rfl,_,rfl,ite2 (fun _=>?_) (fun _=>?_)⟩
 ·refine ⟨_,rfl,_,rfl,r,_,_,_,rfl,rfl,SqT.of er4,rfl,_,rfl,r,_,_,_,rfl,rfl,SqT.of er4,rfl,(by show 3<=sizeLine; decide),fun pt hpt=>?_⟩
  have fp:=s04.free hpt
  generalize hgH5:upd _ pt _=H5
  obtain ⟨s5,e5⟩:=fresh_of hpt hgH5
  clear hgH5
  exact three s5 fp e5 (fun p zs hp nb=>⟨oE s5 p zs hp,.int _,bE s5 p zs hp nb⟩) (by simp [roadL,onum])
 refine ⟨_,rfl,_,_,rfl,rfl,(by show (0:Int) < 5; decide),rfl,_,rfl,ite2 (fun _=>?_) (fun _=>?_)⟩
 ·refine ⟨_,rfl,r,_,_,_,rfl,rfl,SqT.of er4,rfl,_,rfl,_,rfl,r,_,_,_,rfl,rfl,SqT.of er4,rfl,(by show 3<=sizeLine; decide),fun pt hpt=>?_⟩
  have fp:=s04.free hpt
  generalize hgH5:upd _ pt _=H5
  obtain ⟨s5,e5⟩:=fresh_of hpt hgH5
  clear hgH5
  exact three s5 fp e5 (fun p zs hp nb=>⟨.int _,oE s5 p zs hp,bE s5 p zs hp nb⟩) (by simp [roadL,onum])
 refine ⟨_,rfl,_,_,rfl,rfl,(by show (0:Int) < 5; decide),rfl,_,rfl,ite2 (fun _=>?_) (fun _=>?_)⟩
 ·refine ⟨_,rfl,r,_,_,_,rfl,rfl,SqT.of er4,rfl,_,rfl,r,_,_,_,rfl,rfl,SqT.of er4,rfl,_,rfl,(by show 3<=sizeLine; decide),fun pt hpt=>?_⟩
  have fp:=s04.free hpt
  generalize hgH5:upd _ pt _=H5
  obtain ⟨s5,e5⟩:=fresh_of hpt hgH5
  clear hgH5
  refine three s5 fp e5 (fun p zs hp nb=>⟨.int _,.int _,oE s5 p zs hp⟩) ?_
  have:=(Ew.d3 (n:=0) (Nw.ew onw).up).boardV_same s5 d
  simp [roadL,this,obrd]
 refine ⟨(by show 3<=sizeLine; decide),fun b1 hb1=>?_⟩
 have fb1:=s04.free hb1
 generalize hgG1:upd _ b1 _=G1
 obtain ⟨u1,v1⟩:=fresh_of hb1 hgG1
 clear hgG1
 have w1:=s04.trans u1
 refine ⟨_,rfl,(by show 3<=sizeLine; decide),fun b2 hb2=>?_⟩
 have fb2:=w1.free hb2
 generalize hgG2:upd _ b2 _=G2
 obtain ⟨u2,v2⟩:=fresh_of hb2 hgG2
 clear hgG2
 have w2:=w1.trans u2
 refine ⟨_,rfl,(by show 3<=sizeLine; decide),fun b3 hb3=>?_⟩
 have fb3:=w2.free hb3
 generalize hgG3:upd _ b3 _=G3
 obtain ⟨u3,v3⟩:=fresh_of hb3 hgG3
 clear hgG3
 have w3:=w2.trans u3
 refine ⟨(by show 3<=sizeLine; decide),fun b4 hb4=>?_⟩
 have fb4:=w3.free hb4
 generalize hgG4:upd _ b4 _=G4
 obtain ⟨u4,v4⟩:=fresh_of hb4 hgG4
 clear hgG4
 have w4:=w3.trans u4
 refine ⟨(by show 3<=sizeLine; decide),fun b5 hb5=>?_⟩
 have fb5:=w4.free hb5
 generalize hgG5:upd _ b5 _=G5
 obtain ⟨u5,v5⟩:=fresh_of hb5 hgG5
 clear hgG5
 have w5:=w4.trans u5
 refine ⟨(by show 2<=sizeLine; decide),fun b6 hb6=>?_⟩
 have fb6:=w5.free hb6
 generalize hgG6:upd _ b6 _=G6
 obtain ⟨u6,v6⟩:=fresh_of hb6 hgG6
 clear hgG6
 have w6:=w5.trans u6
 refine ⟨_,rfl,(by show 3<=sizeLine; decide),fun b7 hb7=>?_⟩
 have fb7:=w6.free hb7
 generalize hgG7:upd _ b7 _=G7
 obtain ⟨u7,v7⟩:=fresh_of hb7 hgG7
 clear hgG7
 have w7:=w6.trans u7
 refine ⟨(by show 3<=sizeLine; decide),fun b8 hb8=>?_⟩
 have fb8:=w7.free hb8
 generalize hgG8:upd _ b8 _=G8
 obtain ⟨u8,v8⟩:=fresh_of hb8 hgG8
 clear hgG8
 have w8:=w7.trans u8
 refine ⟨(by show 8<=sizeLine; decide),fun b9 hb9=>?_⟩
 generalize hgG9:upd _ b9 _=G9
 obtain ⟨u9,v9⟩:=fresh_of hb9 hgG9
 clear hgG9
 have x8:=u9
 have x7:=u8.trans x8
 have x6:=u7.trans x7
 have x5:=u6.trans x6
 have x4:=u5.trans x5
 have x3:=u4.trans x4
 have x2:=u3.trans x3
 have x1:=u2.trans x2
 have h1:=x1 _ _ v1
 have h2:=x2 _ _ v2
 have h3:=x3 _ _ v3
 have h4:=x4 _ _ v4
 have h5:=x5 _ _ v5
 have h6:=x6 _ _ v6
 have h7:=x7 _ _ v7
 have h8:=x8 _ _ v8
 have s49:Same H4 G9:=u1.trans x1
 obtain ⟨y,hy,ym⟩:=at_any (xs:=[V.ref b1,V.ref b2,V.ref b3,V.ref b4,V.ref b5,V.ref b6,V.ref b7,V.ref b8]) em.1 em.2
 refine ⟨_,rfl,_,_,rfl,rfl,⟨by decide,by decide⟩,_,_,rfl,rfl,(by show (0:Int) < 8; decide),b9,_,_,y,rfl,rfl,SqL.of v9,hy,?_⟩
 have tI:∀ {p:Addr} {xs:List V},H p=none->G9 p=some (.tup xs)->(∀ z∈xs,z=.non\/z=.bl true\/∃ i:Int,z=.int i)->Nw H G9 1 (.ref p):=fun fp e hz=>Ew.tup (since_at fp e) fun z hz'=>by
  rcases hz z hz' with rfl | rfl | ⟨i,rfl⟩
  ·exact .non
  ·exact .bl _
  ·exact .int _
 have wT:∀ {p:Addr} {xs:List V},G9 p=some (.tup xs)->winL d xs=false->(winV G9 d (.ref p) && posW G9 (.ref p))=false:=fun {p xs} e hw=>by
  have:winV G9 d (.ref p)=winL d xs:=by
   unfold winV
   rw [show tupV G9 (.ref p)=some xs by simp [tupV,e]]
  rw [this,hw]
  rfl
 obtain ⟨ynw,ybad⟩:Nw H G9 1 y/\(winV G9 d y && posW G9 y)=false:=by
  simp only [List.mem_cons,List.not_mem_nil,or_false] at ym
  rcases ym with rfl | rfl | rfl | rfl | rfl | rfl | rfl | rfl
  ·refine ⟨tI fb1 h1 (by simp),?_⟩
   have:posW G9 (.ref b1)=false:=by
    unfold posW
    rw [show tupV G9 (.ref b1)=some [.int 0,.int 0,.int 0] by simp [tupV,h1]]
    rfl
   rw [this]
   simp
  ·exact ⟨tI fb2 h2 (by simp),wT h2 (by simp [winL])⟩
  ·exact ⟨tI fb3 h3 (by simp),wT h3 (by simp [winL])⟩
  ·exact ⟨tI fb4 h4 (by simp),wT h4 rfl⟩
  ·refine ⟨Ew.lst (since_at fb5 h5) (by simp) (fun z hz=>?_),?_⟩
   ·simp at hz
    rcases hz with rfl | rfl <;> exact .int _
   ·unfold winV
    rw [show tupV G9 (.ref b5)=none by simp [tupV,h5]]
    rfl
  ·exact ⟨tI fb6 h6 (by simp),wT h6 rfl⟩
  ·exact ⟨tI fb7 h7 (by simp),wT h7 (by simp [winL])⟩
  ·exact ⟨tI fb8 h8 (by simp),wT h8 rfl⟩
 have er9:=s49 _ _ er4
 have la9:=la4.same s49
 obtain ⟨vs,k1,k2,k3⟩:=la9.lst
 refine ⟨_,rfl,_,_,rfl,rfl,⟨by decide,by decide⟩,_,rfl,r,_,_,_,rfl,rfl,SqT.of er9,rfl,b,_,rfl,.inl (SqL.of k1),_,_,rfl,rfl,_,_,rfl,rfl,(by show (0:Int) < ((vs.length:Nat):Int)+1; omega),?_⟩
 have ea:=emod_b (cell / 40) (show (0:Int) < ((vs.length:Nat):Int)+1 by omega)
 dsimp only
 generalize cell / 40 % (((vs.length:Nat):Int)+1)=at_ at ea
 obtain ⟨j,rfl⟩:∃ j:Nat,at_=(j:Int):=⟨at_.toNat,by omega⟩
 refine ⟨_,rfl,r,_,_,_,rfl,rfl,SqT.of er9,rfl,_,rfl,r,_,_,_,rfl,rfl,SqT.of er9,rfl,_,rfl,r,_,_,_,rfl,rfl,SqT.of er9,rfl,_,rfl,_,rfl,b,_,rfl,SqL.of k1,fun pa hpa=>?_⟩
 rw [cut_take vs j (by omega)]
 generalize hgHa:upd _ pa _=Ha
 obtain ⟨sa',ea'⟩:=fresh_of hpa hgHa
 clear hgHa
 refine ⟨_,rfl,(by show 1<=sizeLine; decide),fun pb hpb=>?_⟩
 generalize hgHb:upd _ pb _=Hb
 obtain ⟨sb,eb⟩:=fresh_of hpb hgHb
 clear hgHb
 refine ⟨pa,pb,_,_,rfl,rfl,sb _ _ ea',eb,Nat.le_of_lt (line_of (by simp; omega)),fun pc hpc=>?_⟩
 generalize hgHc:upd _ pc _=Hc
 obtain ⟨sc,ec⟩:=fresh_of hpc hgHc
 clear hgHc
 have s9c:=sa'.trans (sb.trans sc)
 refine ⟨_,rfl,r,_,_,_,rfl,rfl,SqT.of (s9c _ _ er9),rfl,_,rfl,_,rfl,b,_,rfl,SqL.of (s9c _ _ k1),fun pd hpd=>?_⟩
 rw [cut_drop vs j (by omega)]
 generalize hgHd:upd _ pd _=Hd
 obtain ⟨sd,ed⟩:=fresh_of hpd hgHd
 clear hgHd
 refine ⟨pc,pd,_,_,rfl,rfl,sd _ _ ec,ed,Nat.le_of_lt (line_of (by simp; omega)),fun pe hpe=>?_⟩
 have fpe:H pe=none:=(s04.trans (s49.trans (s9c.trans sd))).free hpe
 generalize hgHe:upd _ pe _=He
 obtain ⟨se,ee⟩:=fresh_of hpe hgHe
 clear hgHe
 refine ⟨(by show 3<=sizeLine; decide),fun pt hpt=>?_⟩
 have fpt:H pt=none:=(s04.trans (s49.trans (s9c.trans (sd.trans se)))).free hpt
 generalize hgHf:upd _ pt _=Hf
 obtain ⟨sf,ef⟩:=fresh_of hpt hgHf
 clear hgHf
 have s9f:=s9c.trans (sd.trans (se.trans sf))
 have ef':=sf _ _ ee
 refine three (s49.trans s9f) fpt ef (fun p zs hp nb=>⟨.int _,.int _,?_⟩) ?_
 ·refine .lst (hide_at ef' fun z=>by rw [z,hp] at fpe; cases fpe) (by simp; omega) fun z hz=>?_
  have old:∀ z∈vs,Ew (hide p Hf) 1 z:=fun z hz=>by
   have e0:=bE (s49.trans s9f) p zs hp nb
   exact (e0.items (zs:=vs) (by simp [lstV,hide_at (s9f _ _ k1) nb])).2 z hz
  rcases List.mem_append.mp hz with hz | hz
  ·rcases List.mem_append.mp hz with hz | hz
   ·exact old z (List.mem_of_mem_take hz)
   ·rw [List.mem_singleton.mp hz]
    exact Nw.hide (ynw.same s9f) (by rw [hp]; simp)
  ·exact old z (List.mem_of_mem_drop hz)
 ·have dy:Dv2 G9 y:=Ew.d2 (n:=0) (Nw.ew ynw)
  have hb':=board_bad (d:=d) (y:=y) ef' (by simp) (by rw [dy.1.winV_same s9f,dy.posW_same s9f]; exact ybad)
  simp only [roadL,hb',Bool.and_false]
end
theorem RoadsIn.ok {d size:Int} {N:List RdT} (h:RoadsIn d size N):NetOk d size N:=⟨fun m hm=>by
 obtain ⟨a,b,c,e⟩:=h m hm
 exact ⟨a,b,by omega,fun w hw=>⟨(e w hw).1,(e w hw).2.1,(e w hw).2.2.1,(e w hw).2.2.2.1⟩⟩⟩
theorem mxT_mono {f f' m:Nat} (h:f<=f'):∀ k,mxT f m k<=mxT f' m k
 | 0=>Nat.le_refl _
 | k+1=>by
  have:=mxT_mono (m:=m) h k
  exact Nat.add_le_add this (Nat.mul_le_mul h (by omega))
theorem big6b {f n k:Nat} (h:f<=6) (hn:n<=4) (hk:k < n):mxT f 26 k<=9900:=by
 refine Nat.le_trans (mxT_mono (m:=26) h k) ?_
 match k,hk with
 | 0,_=>decide
 | 1,_=>decide
 | 2,_=>decide
 | 3,_=>decide
 | k+4,hk=>omega
theorem few6b {f n:Nat} (h:f<=6) (hn:n<=4):Few f 26 n:=fun k hk=>by
 have h1:=big6b (k:=k+1) h hn hk
 have h2:=big6b (k:=k) h hn (by omega)
 exact ⟨by omega,Nat.le_trans (Nat.mul_le_mul_left _ (show 2 * (mxT f 26 k+1)+2<=2 * 9901+2 by omega)) (by decide)⟩
theorem ixN_pos' {n k:Nat} (h:k < n):ixN n (k:Int)=some k:=by
 unfold ixN
 rw [if_pos (by omega),if_pos (by omega)]
 simp
theorem cut20 (xs:List V):(cutV xs (some 4) (some 24)).length<=20:=by
 unfold cutV HT.sIx
 rw [List.length_take,List.length_drop]
 simp
 omega
theorem net_size {H:Hp} {d:Int} {sv rv:V} (h:∀ n,sv=.int n->n < 1):netV H d sv rv=false:=by
 unfold netV
 split
 ·rename_i n
  have:=h n rfl
  rw [show decide (1<=n)=false from decide_eq_false (by omega)]
  rfl
 ·rfl
theorem net_list {H:Hp} {d n:Int} {rv:V} (h:lstV H rv=none):netV H d (.int n) rv=false:=by
 unfold netV
 rw [h]
 simp
theorem net_road {H:Hp} {d n:Int} {p:Addr} {xs:List V} {y:V} (e:H p=some (.lst xs)) (hy:y∈xs) (h:roadV H d n y=false):netV H d (.int n) (.ref p)=false:=by
 unfold netV
 rw [show lstV H (.ref p)=some xs by simp [lstV,e]]
 refine Bool.eq_false_iff.mpr fun z=>?_
 simp only [Bool.and_eq_true] at z
 have:=List.all_eq_true.mp z.2 y hy
 rw [h] at this
 cases this
noncomputable def datNm (due:Str):PyData:=.list [.str due,.bool true,.bool false,.bool false,.bool false]
theorem rd_named {K:PySem.W.Frag} {H:Hp} {l:Addr} {due:Str} (e:H l=some (.lst (named due))):RdV K H (.ref l) (datNm due):=.lst (SqL.of e) (.cons (.str _) (.cons (.bl _) (.cons (.bl _) (.cons (.bl _) (.cons (.bl _) .nil)))))
theorem sh_named {due:Str} (h:due = "answered" \/ due = "place" \/ due = "net"):SeqAt.shaped (datNm due)=true/\(datNm due).eqv (datNm due)=true:=by
 rcases h with rfl | rfl | rfl
 all_goals exact ⟨by decide +kernel,by decide +kernel⟩
theorem LA.hideL {α:Type} {enc:α->List V} {H:Hp} {p x:Addr} {xs:List α} {zs:List V} (h:LA enc H p xs) (e:H x=some (.lst zs)) (ne:p ≠ x):LA enc (hide x H) p xs:=by
 obtain ⟨rs,h1,h2,h3⟩:=h
 exact ⟨rs,hide_at h1 ne,h2,fun i r y a b=>hide_at (h3 i r y a b) fun z=>by
  have:=h3 i r y a b
  rw [z,e] at this
  cases this⟩
theorem NA.hideL {H:Hp} {p x:Addr} {N:List RdT} {zs:List V} (h:NA H p N) (e:H x=some (.lst zs)) (ne:p ≠ x) (nb:∀ m∈N,m.2.2.1 ≠ x):NA (hide x H) p N:=⟨h.la.hideL e ne,fun m hm=>⟨(h.bd m hm).1.hideL e (nb m hm),(h.bd m hm).2⟩,h.nd⟩
noncomputable def Gd (d:Int) (n:Nat) (pr:Addr) (N:List RdT) (g p:Int) (pp:Addr) (H:Hp) (sv rv gv pv:V) (due:Str):Prop:=H pp=some (.lst [gv,pv])/\(
 (due = "answered" /\ sv=.int n/\rv=.ref pr/\gv=.int g/\pv=.int p/\NA H pr N) \/
 (due = "place" /\ sv=.int n/\rv=.ref pr/\NA H pr N/\((Dv H gv/\numV n gv=false)\/(gv=.int g/\Dv H pv/\numV n pv=false))) \/
 (due = "net" /\ Dv H sv/\DvN H rv/\netV H d sv rv=false))
theorem Gd.same {d:Int} {n:Nat} {g p:Int} {pr pp:Addr} {N:List RdT} {H H':Hp} {sv rv gv pv:V} {due:Str} (h:Gd d n pr N g p pp H sv rv gv pv due) (s:Same H H'):Gd d n pr N g p pp H' sv rv gv pv due:=by
 obtain ⟨e,h⟩:=h
 refine ⟨s _ _ e,?_⟩
 rcases h with ⟨a,b,c,e,f,k⟩ | ⟨a,b,c,e,f⟩ | ⟨a,b,c,e⟩
 ·exact .inl ⟨a,b,c,e,f,k.same s⟩
 ·exact .inr (.inl ⟨a,b,c,e.same s,f.imp (fun z=>⟨z.1.same s,z.2⟩) fun z=>⟨z.1,z.2.1.same s,z.2.2⟩⟩)
 ·exact .inr (.inr ⟨a,b.same s,c.same s,by rw [c.netV_same s]; exact e⟩)
theorem gd_named {T:Hp->Prop} {d:Int} {n:Nat} {pr:Addr} {N:List RdT} {g p:Int} {pp:Addr} {H:Hp} {sv rv gv pv:V} {due:Str} {wh:Int} {Q:V->Hp->Prop} (d1:1<=d) (nok:NetOk d n N) (m1:1<=n) (m4:n<=4) (l5:N.length<=5) (w5:∀ x∈N,x.2.2.2.length<=5) (g0:0<=g) (g1:g < (n:Int)) (p0:0<=p) (p1:p < (n:Int)) (hT:T H) (gd:Gd d n pr N g p pp H sv rv gv pv due)
  (q:∀ (l:Addr) (H':Hp),T H'->Gd d n pr N g p pp H' sv rv gv pv due->H' l=some (.lst (named due))->Q (.ref l) H'):NmAlt T [.int wh,.int d,sv,rv,gv,pv] H Q:=by
 have nf:NA H pr N->Nf T H d n pr N 26:=fun hN=>⟨hN,hT,by omega,nok,m1,by omega,by omega,fun x hx=>by have:=w5 x hx; omega,few6b (by omega) m4⟩
 obtain ⟨e0,h⟩:=id gd
 rcases h with ⟨rfl,rfl,rfl,rfl,rfl,hN⟩ | ⟨rfl,rfl,rfl,hN,alt⟩ | ⟨rfl,dv,dn,nv⟩
 ·exact .inl ⟨⟨wh,d,n,pr,N,g,p,26,rfl,nf hN,g0,g1,p0,p1,fun _ _ _ _=>True.intro⟩,fun l H' u t e=>q l H' t ⟨u.lst e0,.inl ⟨rfl,rfl,rfl,rfl,rfl,hN.u u⟩⟩ e⟩
 ·refine .inr ⟨wh,d,_,_,gv,pv,rfl,.inr ⟨n,pr,N,26,rfl,rfl,nf hN,alt.imp id fun z=>⟨g,z.1,g0,g1,z.2⟩,fun l H' u t e=>q l H' t ⟨u.lst e0,.inr (.inl ⟨rfl,rfl,rfl,hN.u u,alt.imp (fun z=>⟨z.1.u u,z.2⟩) fun z=>⟨z.1,z.2.1.u u,z.2.2⟩⟩)⟩ e⟩⟩
 ·exact .inr ⟨wh,d,sv,rv,gv,pv,rfl,.inl ⟨dv,dn,nv,fun l H' s t e=>q l H' t (gd.same s) e⟩⟩
section
variable {P:Program} {w:World} {K:PySem.W.Frag} {mg:Str->Option Value} {base:Heap} {f:Addr} {fd:FuncData} {n:Nat} {T:Hp->Prop}
theorem ok_law {tabs:List (Addr × Addr)} (hTB:TB T) (h0:∀ H:Hp,(∀ t∈tabs,H t.2=some (.tbl #[]))->T H) (F:Fun K "law" "law" st_law f fd) (B:Bl mg) (C_law_cell:Callee P w K mg base n "_law_cell" ["script","k"] (spCell K)) (C_law_day:Callee P w K mg base n "_law_day" ["cell"] spDay) (C_law_size:Callee P w K mg base n "_law_size" ["cell"] spSize) (C_law_net:Callee P w K mg base n "_law_net" ["day","size","goal","cells"] (spNet6 K))
  (C_law_odd_place:Callee P w K mg base n "_law_odd_place" ["size","cell"] spOddP) (C_law_bent:Callee P w K mg base n "_law_bent" ["day","size","road","cell"] spBent) (C_law_named:Callee P w K mg base n "_law_named" ["which","day","size","roads","goal","place"] (spNamed T)):FnOk P w K mg base CX0 (n+1) f fd ["script"] (spLaw K tabs):=by
 refine F.okQ sc_law (fun vs H Q E h=>?_) (fun cdv A outer s H vs Q E hr h=>?_)
 ·obtain ⟨_,_,rfl,_⟩:=h
  rfl
 obtain ⟨a,ns,rfl,hS,h63,hT,q⟩:=h
 have t0:=h0 H hT
 refine ⟨_,(qss_cons (qs_set (i:=1) sc_law.nd rfl (Or.inl rfl) (qe_fn C_law_day hr rfl (qa_c (qe_fn C_law_cell hr rfl (qa_c (qv 0) (qa_c qe_int qa_nil))) qa_nil))) (qss_cons (qs_set (i:=2) sc_law.nd rfl (Or.inl rfl) (qe_fn C_law_size hr rfl (qa_c (qe_fn C_law_cell hr rfl (qa_c (qv 0) (qa_c qe_int qa_nil))) qa_nil))) (qss_cons (qs_set (i:=3) sc_law.nd rfl (Or.inl rfl) (qe_lst (qa_c (qe_op qop_mod (qe_op qop_fdivB (qe_fn C_law_cell hr rfl (qa_c (qv 0) (qa_c qe_int qa_nil))) qe_int) (qv 2)) (qa_c (qe_op qop_mod (qe_op qop_fdivB (qe_fn C_law_cell hr rfl (qa_c (qv 0) (qa_c qe_int qa_nil))) qe_int) (qv 2)) qa_nil)))) (qss_cons (qs_set (i:=4) sc_law.nd rfl (Or.inl rfl) (qe_fn C_law_net hr rfl (qa_c (qv 1) (qa_c (qv 2) (qa_c (qe_ix qix_list (qv 3) qe_int (fun _ _=>rfl)) (qa_c (qe_slL (qv 0) (qo_some qe_int) (qo_some qe_int)) qa_nil)))))) (qss_cons (qs_set (i:=5) sc_law.nd rfl (Or.inl rfl) (qe_fn C_law_cell hr rfl (qa_c (qv 0) (qa_c qe_int qa_nil)))) (qss_cons (qs_set (i:=6) sc_law.nd rfl (Or.inl rfl) qe_str) (qss_cons (qs_set (i:=7) sc_law.nd rfl (Or.inl rfl) (qe_fn C_law_odd_place hr rfl (qa_c (qv 2) (qa_c (qe_op qop_fdivB (qe_fn C_law_cell hr rfl (qa_c (qv 0) (qa_c qe_int qa_nil))) qe_int) qa_nil)))) (qss_cons (qs_for PassesOwn.never rfl (qi_range1 rfl B.range (qa_c qe_int qa_nil)) (qg_name (i:=8) sc_law.nd rfl (Or.inl rfl)) (qss_one (qs_if (qt_cut (QW.pt (qw_or (qt_cmpR qop_eq (qe_op qop_mod (qe_fn C_law_cell hr rfl (qa_c (qv 0) (qa_c qe_int qa_nil))) qe_int) (qe_op qop_add qe_int (qv 8)) (nomark _)) (qw_or1 (qt_cmpR qop_eq (qe_op qop_mod (qe_fn C_law_cell hr rfl (qa_c (qv 0) (qa_c qe_int qa_nil))) qe_int) qe_int (nomark _)))))) (qss_cons (qs_asg (qv 7) (qg_sub (qv 3) (qv 8) set_list)) (qss_one (qs_set (i:=6) sc_law.nd rfl (Or.inl rfl) qe_str))) qss_nil))) (qss_cut (qs_if (qt_cmpR qop_eq (qe_op qop_mod (qv 5) qe_int) qe_int (nomark _)) (qss_cons (qs_set (i:=2) sc_law.nd rfl (Or.inl rfl) (qe_ix qix_list (qe_lst (qa_c qe_non (qa_c qe_bl (qa_c qe_bl (qa_c (qe_neg qe_int) (qa_c qe_int (qa_c qe_str (qa_c (qe_lst qa_nil) (qa_c (qe_tup (qa_c qe_int qa_nil)) qa_nil))))))))) (qe_op qop_mod (qe_op qop_fdivB (qv 5) qe_int) qe_int) (fun _ _=>rfl))) (qss_one (qs_set (i:=6) sc_law.nd rfl (Or.inl rfl) qe_str))) qss_nil) (qss_cut (qs_if (qt_cmpR qop_eq (qe_op qop_mod (qv 5) qe_int) qe_int (nomark _)) (qss_cons (qs_set (i:=4) sc_law.nd rfl (Or.inl rfl) (qe_ix qix_list (qe_lst (qa_c qe_non (qa_c (qe_ct qcall_tuple rfl B.tuple_ bt_tuple (qa_c (qv 4) qa_nil)) (qa_c qe_str (qa_c qe_int (qa_c qe_bl (qa_c (qe_tup qa_nil) (qa_c (qe_lst (qa_c qe_non qa_nil)) qa_nil)))))))) (qe_op qop_mod (qe_op qop_fdivB (qv 5) qe_int) qe_int) (fun _ _=>rfl))) (qss_one (qs_set (i:=6) sc_law.nd rfl (Or.inl rfl) qe_str))) qss_nil) (qss_cut (qs_if (qt_cut (QW.pt (qw_and (qt_cmpR qop_eq (qe_op qop_mod (qv 5) qe_int) qe_int (nomark _)) (qw_and1 (qt_cmpR (qop_neD hr.units) (qv 4) (qe_lst qa_nil) (nomark _)))))) (qss_cons (qs_set (i:=9) sc_law.nd rfl (Or.inl rfl) (qe_op qop_mod (qe_op qop_fdivB (qv 5) qe_int) (qe_cb qcall_len rfl B.len bt_len (qa_c (qv 4) qa_nil)))) (qss_cons (qs_asg (qe_fn C_law_bent hr rfl (qa_c (qv 1) (qa_c (qv 2) (qa_c (qe_ix qix_list (qv 4) (qv 9) (fun _ _=>rfl)) (qa_c (qe_op qop_fdivB (qv 5) qe_int) qa_nil))))) (qg_sub (qv 4) (qv 9) set_list)) (qss_one (qs_set (i:=6) sc_law.nd rfl (Or.inl rfl) qe_str)))) qss_nil) (qss_cons (qs_for PassesOwn.never rfl (qi_range1 rfl B.range (qa_c qe_int qa_nil)) (qg_name (i:=8) sc_law.nd rfl (Or.inl rfl)) (qss_cons (qs_set (i:=10) sc_law.nd rfl (Or.inl rfl) (qe_op qop_mod (qe_op qop_add (qv 8) (qe_op qop_fdivB (qv 5) qe_int)) qe_int)) (qss_one (qs_if (qt_cmpR (qop_neD hr.units) (qe_fn C_law_named hr rfl (qa_c (qv 10) (qa_c (qv 1) (qa_c (qv 2) (qa_c (qv 4) (qa_c (qe_ix qix_list (qv 3) qe_int (fun _ _=>rfl)) (qa_c (qe_ix qix_list (qv 3) qe_int (fun _ _=>rfl)) qa_nil))))))) (qe_lst (qa_c (qv 6) (qa_c qe_bl (qa_c qe_bl (qa_c qe_bl (qa_c qe_bl qa_nil)))))) (nomark _)) (qss_one (qs_ret qe_bl)) qss_nil)))) (qss_one (qs_ret qe_bl)))))))))))))),?_⟩
 try dsimp only [cx_k,cx_kn,as_nil,as_name,Nat.reduceAdd]
 refine ⟨_,rfl,a,ns,0,rfl,hS,by decide,fun c0=>⟨c0,rfl,fun d H1 d1 d2 s1=>?_⟩⟩
 refine ⟨_,rfl,a,ns,1,rfl,s1.seq hS,by decide,fun c1=>⟨c1,rfl,fun sz H2 z1 z2 s2=>?_⟩⟩
 have s02:=s1.trans s2
 have zp:0 < sz:=by omega
 obtain ⟨m,rfl⟩:∃ m:Nat,sz=(m:Int):=⟨sz.toNat,by omega⟩
 refine ⟨_,rfl,a,ns,1,rfl,s02.seq hS,by decide,fun c1'=>⟨_,_,rfl,rfl,⟨by decide,by decide⟩,_,rfl,_,_,rfl,rfl,zp,?_⟩⟩
 have gb:=emod_b (c1' / 4) zp
 dsimp only
 generalize c1' / 4 % (m:Int)=g at gb
 refine ⟨_,rfl,a,ns,1,rfl,s02.seq hS,by decide,fun c1''=>⟨_,_,rfl,rfl,⟨by decide,by decide⟩,_,rfl,_,_,rfl,rfl,zp,?_⟩⟩
 have pb:=emod_b (c1'' / 16) zp
 dsimp only
 generalize c1'' / 16 % (m:Int)=p at pb
 refine ⟨(by show 2<=sizeLine; decide),fun pp hpp=>?_⟩
 have fpp:=hpp
 generalize hgH2':upd _ pp _=H2'
 obtain ⟨s2',e2'⟩:=fresh_of hpp hgH2'
 clear hgH2'
 have s02':=s02.trans s2'
 refine ⟨_,rfl,_,rfl,_,rfl,pp,_,_,.int g,rfl,rfl,SqL.of e2',rfl,_,rfl,_,rfl,_,rfl,a,_,rfl,s02'.seq hS,fun p3 hp3=>?_⟩
 have c20:=cut20 (ns.map V.int)
 obtain ⟨ms,hms,hml⟩:=cut_ints (ns:=ns) (some 4) (some 24)
 rw [hms,List.length_map] at c20
 rw [hms]
 generalize hgH3:upd _ p3 _=H3
 obtain ⟨s3,e3⟩:=fresh_of hp3 hgH3
 clear hgH3
 have s03:=s02'.trans s3
 have e3':=s3 _ _ e2'
 refine ⟨d,m,g,p3,ms,rfl,SqL.of e3,by omega,d1,d2,z1,fun pr N H4 s4 fr hN hfr hIn hl hl4 hw4=>?_⟩
 have nprp:pr ≠ pp:=fun z=>by rw [z,e3'] at fr; cases fr
 have nbp:∀ x∈N,x.2.2.1 ≠ pp:=fun x hx z=>by
  have:=hfr x hx
  rw [z,e3'] at this
  cases this
 have s04:=s03.trans s4
 have e4':=s4 _ _ e3'
 have nok:NetOk d m N:=hIn.ok
 have hlb:∀ m∈N,m.2.2.2.length<=1000:=fun m hm=>by
  have:=(hIn m hm).2.2.1
  omega
 refine ⟨_,rfl,a,ns,2,rfl,s04.seq hS,by decide,fun c=>?_⟩
 refine ⟨_,rfl,_,rfl,a,ns,3,rfl,s04.seq hS,by decide,fun c3=>⟨_,_,rfl,rfl,⟨by decide,by decide⟩,m,_,rfl,z1,by omega,fun odd H5 s5 dvo nvo=>?_⟩⟩
 have s05:=s04.trans s5
 have hN5:=hN.same s5
 have e5':=s5 _ _ e4'
 have hid:Same H2 (hide pp H5):=fun b o eb=>hide_at (s5 _ _ (s4 _ _ (s3 _ _ (s2' _ _ eb)))) fun z=>by rw [z,fpp] at eb; cases eb
 have hN5h:NA (hide pp H5) pr N:=hN5.hideL e5' nprp nbp
 have t5:=hTB.same _ _ t0 s05
 clear hN hN5 s3 s4 s5 e3 e3' e4' s03 s04 e2' hp3 fr hfr
 refine ⟨_,rfl,by decide,by decide,for_range (lo:=0) (n:=(2:Int).toNat) (fun i σ H'=>∃ (gv pv:V) (due:Str) (kk:Option V),σ=[some (.ref a),some (.int d),some (.int m),some (.ref pp),some (.ref pr),some (.int c),some (.str due),some odd,kk,none,none]/\T H'/\Same (hide pp H5) H'/\H' pp=some (.lst [gv,pv])/\Dv H' odd/\((due = "answered" /\ gv=.int g/\pv=.int p)\/(due = "place" /\ (gv=odd\/(gv=.int g/\pv=odd))))) ⟨.int g,.int p,"answered",_,rfl,t5,hide_to,e5',dvo,.inl ⟨rfl,rfl,rfl⟩⟩ ?_ ?_⟩
 ·intro i σ H' hi z9;obtain ⟨gv,pv,due,kk,rfl,tI,sI,eI,dI,alt⟩ := z9
  have hi2:i < 2:=hi
  have SI:=(hid.trans sI).seq (s02.seq hS)
  refine ⟨fun b H''=>H''=H',?_,?_⟩
  ·refine ⟨_,rfl,a,ns,3,rfl,SI,by decide,fun c3'=>⟨_,_,rfl,rfl,(by show (0:Int) < 6; decide),_,rfl,_,_,rfl,rfl,rfl,_,rfl,ite2 (fun z=>rfl) (fun z=>?_)⟩⟩
   exact ⟨_,rfl,a,ns,3,rfl,SI,by decide,fun c3''=>⟨_,_,rfl,rfl,(by show (0:Int) < 6; decide),rfl,_,rfl,rfl⟩⟩
  rintro b H'' rfl
  refine ite2 (fun z=>?_) (fun _=>⟨gv,pv,due,_,rfl,tI,sI,eI,dI,alt⟩)
  have sU:∀ o,Same (hide pp H5) (upd H'' pp o):=fun o b u eb=>by
   have nb:b ≠ pp:=fun z=>by
    rw [z] at eb
    simp [hide] at eb
   rw [upd_ne nb]
   exact sI _ _ eb
  rcases (by omega:i=0\/i=1) with rfl | rfl
  ·refine ⟨_,rfl,_,rfl,_,rfl,pp,_,_,0,rfl,rfl,eI,rfl,?_⟩
   exact ⟨odd,pv,"place",_,rfl,hTB.wr _ _ _ _ tI eI,sU _,upd_same,dI.wr eI,.inr ⟨rfl,.inl rfl⟩⟩
  ·refine ⟨_,rfl,_,rfl,_,rfl,pp,_,_,1,rfl,rfl,eI,rfl,?_⟩
   refine ⟨gv,odd,"place",_,rfl,hTB.wr _ _ _ _ tI eI,sU _,upd_same,dI.wr eI,.inr ⟨rfl,?_⟩⟩
   rcases alt with ⟨_,e,_⟩ | ⟨_,e | ⟨e,_⟩⟩
   ·exact .inr ⟨e,rfl⟩
   ·exact .inl e
   ·exact .inr ⟨e,rfl⟩
 intro σ' H6 z9;obtain ⟨gv,pv,due,kk,rfl,t6,s6,e6,d6,alt⟩ := z9
 have hN6:=hN5h.same s6
 have g6:Gd d m pr N g p pp H6 (.int m) (.ref pr) gv pv due:=by
  refine ⟨e6,?_⟩
  rcases alt with ⟨rfl,rfl,rfl⟩ | ⟨rfl,rfl | ⟨rfl,rfl⟩⟩
  ·exact .inl ⟨rfl,rfl,rfl,rfl,rfl,hN6⟩
  ·exact .inr (.inl ⟨rfl,rfl,rfl,hN6,.inl ⟨d6,nvo⟩⟩)
  ·exact .inr (.inl ⟨rfl,rfl,rfl,hN6,.inr ⟨rfl,d6,nvo⟩⟩)
 clear s6 hN5h alt hid dvo t5 e5' s2'
 refine ⟨fun σ' H'=>∃ (sv:V) (due:Str),σ'=[some (.ref a),some (.int d),some sv,some (.ref pp),some (.ref pr),some (.int c),some (.str due),some odd,kk,none,none]/\Same H6 H'/\Gd d m pr N g p pp H' sv (.ref pr) gv pv due/\(c % 6 ≠ 1->sv=.int m),?_,?_⟩
 ·refine ⟨_,rfl,_,_,rfl,rfl,(by show (0:Int) < 6; decide),rfl,_,rfl,ite2 (fun z=>?_) (fun z=>⟨.int m,due,rfl,Same.refl _,g6,fun _=>rfl⟩)⟩
  have z':c % 6=1:=by
   have:=of_decide_eq_true z
   injection this
  refine ⟨_,rfl,(by show 0<=sizeLine; decide),fun p5 hp5=>?_⟩
  generalize hgJ1:upd _ p5 _=J1
  obtain ⟨k1,e1⟩:=fresh_of hp5 hgJ1
  clear hgJ1
  refine ⟨(by show 1<=sizeLine; decide),fun p6 hp6=>?_⟩
  generalize hgJ2:upd _ p6 _=J2
  obtain ⟨k2,e2⟩:=fresh_of hp6 hgJ2
  clear hgJ2
  refine ⟨(by show 8<=sizeLine; decide),fun p7 hp7=>?_⟩
  generalize hgJ3:upd _ p7 _=J3
  obtain ⟨k3,e3⟩:=fresh_of hp7 hgJ3
  clear hgJ3
  have em:=emod_b (c / 6) (show (0:Int) < 8 by decide)
  obtain ⟨v,hv,vm⟩:=at_any (xs:=[V.non,V.bl true,V.bl false,V.int (-1),V.int 0,V.str "3",V.ref p5,V.ref p6]) em.1 em.2
  refine ⟨_,rfl,_,_,rfl,rfl,⟨by decide,by decide⟩,_,_,rfl,rfl,(by show (0:Int) < 8; decide),p7,_,_,v,rfl,rfl,SqL.of e3,hv,?_⟩
  have k:=k1.trans (k2.trans k3)
  refine ⟨v,"net",rfl,k,⟨k _ _ e6,.inr (.inr ⟨rfl,?_,((hN6.same k).ew hlb (by omega)).dn,net_size fun n e=>?_⟩)⟩,fun y=>absurd z' y⟩
  ·simp only [List.mem_cons,List.not_mem_nil,or_false] at vm
   rcases vm with rfl | rfl | rfl | rfl | rfl | rfl | rfl | rfl
   ·exact .non
   ·exact .bl _
   ·exact .bl _
   ·exact .int _
   ·exact .int _
   ·exact .str _
   ·exact .lst (k3 _ _ (k2 _ _ e1))
   ·exact .tup (k3 _ _ e2)
  ·simp only [List.mem_cons,List.not_mem_nil,or_false] at vm
   rcases vm with rfl | rfl | rfl | rfl | rfl | rfl | rfl | rfl <;> cases e <;> decide
 intro σ' H7 z9;obtain ⟨sv,due,rfl,s7,g7,hsv⟩ := z9
 have t7:=hTB.same _ _ t6 s7
 have hN7:=hN6.same s7
 clear s7 hN6 g6
 obtain ⟨vs,hv1,hv2,hv3⟩:=hN7.la.lst
 rw [List.length_map] at hv2
 refine ⟨fun σ' H'=>∃ (rv:V) (due:Str),σ'=[some (.ref a),some (.int d),some sv,some (.ref pp),some rv,some (.int c),some (.str due),some odd,kk,none,none]/\Same H7 H'/\Gd d m pr N g p pp H' sv rv gv pv due/\(c % 6 ≠ 2->rv=.ref pr),?_,?_⟩
 ·refine ⟨_,rfl,_,_,rfl,rfl,(by show (0:Int) < 6; decide),rfl,_,rfl,ite2 (fun z=>?_) (fun z=>⟨.ref pr,due,rfl,Same.refl _,g7,fun _=>rfl⟩)⟩
  have z':c % 6=2:=by
   have:=of_decide_eq_true z
   injection this
  have e:=hsv (by omega)
  subst e
  refine ⟨_,rfl,pr,vs,rfl,.inl ⟨SqL.of hv1,fun p6 hp6=>?_⟩⟩
  generalize hgJ6:upd _ p6 _=J6
  obtain ⟨k6,e6⟩:=fresh_of hp6 hgJ6
  clear hgJ6
  refine ⟨(by show 0<=sizeLine; decide),fun p7 hp7=>?_⟩
  generalize hgJ7:upd _ p7 _=J7
  obtain ⟨k7,e7⟩:=fresh_of hp7 hgJ7
  clear hgJ7
  refine ⟨(by show 1<=sizeLine; decide),fun p8 hp8=>?_⟩
  generalize hgJ8:upd _ p8 _=J8
  obtain ⟨k8,e8⟩:=fresh_of hp8 hgJ8
  clear hgJ8
  refine ⟨(by show 7<=sizeLine; decide),fun p9 hp9=>?_⟩
  generalize hgJ9:upd _ p9 _=J9
  obtain ⟨k9,e9⟩:=fresh_of hp9 hgJ9
  clear hgJ9
  have em:=emod_b (c / 6) (show (0:Int) < 7 by decide)
  obtain ⟨v,hv,vm⟩:=at_any (xs:=[V.non,V.ref p6,V.str "",V.int 0,V.bl true,V.ref p7,V.ref p8]) em.1 em.2
  refine ⟨_,rfl,_,_,rfl,rfl,⟨by decide,by decide⟩,_,_,rfl,rfl,(by show (0:Int) < 7; decide),p9,_,_,v,rfl,rfl,SqL.of e9,hv,?_⟩
  have u8:=k9
  have u7:=k8.trans u8
  have u6:=k7.trans u7
  have f6:=u6 _ _ e6
  have f7:=u7 _ _ e7
  have f8:=u8 _ _ e8
  refine ⟨v,"net",rfl,k6.trans u6,⟨(k6.trans u6) _ _ g7.1,.inr (.inr ⟨rfl,.int _,?_,?_⟩)⟩,fun y=>absurd z' y⟩
  ·simp only [List.mem_cons,List.not_mem_nil,or_false] at vm
   have:Ew J9 4 v:=by
    rcases vm with rfl | rfl | rfl | rfl | rfl | rfl | rfl
    ·exact .non
    ·exact .tup f6 fun y hy=>((hN7.item hlb hv1 hy).same hide_to).same (k6.trans u6)
    ·exact .str _
    ·exact .int _
    ·exact .bl _
    ·exact .tup f7 (by simp)
    ·refine .lst f8 (by simp) fun y hy=>?_
     rw [List.mem_singleton] at hy
     subst hy
     exact .non
   exact this.dn
  ·simp only [List.mem_cons,List.not_mem_nil,or_false] at vm
   rcases vm with rfl | rfl | rfl | rfl | rfl | rfl | rfl
   ·exact net_list rfl
   ·exact net_list (by simp [lstV,f6])
   ·exact net_list rfl
   ·exact net_list rfl
   ·exact net_list rfl
   ·exact net_list (by simp [lstV,f7])
   ·exact net_road (y:=.non) f8 (by simp) rfl
 intro σ' H8 z9;obtain ⟨rv,due,rfl,s8,g8,hrv⟩ := z9
 have t8:=hTB.same _ _ t7 s8
 have hN8:=hN7.same s8
 have hv8:=s8 _ _ hv1
 refine ⟨fun σ' H'=>∃ (due:Str) (at_:Option V),σ'=[some (.ref a),some (.int d),some sv,some (.ref pp),some rv,some (.int c),some (.str due),some odd,kk,at_,none]/\T H'/\Gd d m pr N g p pp H' sv rv gv pv due,?_,?_⟩
 ·refine ⟨fun b H'=>Same H8 H'/\(b=true->c % 6=3/\N ≠ []),?_,?_⟩
  ·refine ⟨_,rfl,_,_,rfl,rfl,(by show (0:Int) < 6; decide),rfl,_,rfl,ite2 (fun z=>?_) (fun z=>⟨Same.refl _,fun e=>by cases e⟩)⟩
   have z':c % 6=3:=by
    have:=of_decide_eq_true z
    injection this
   have e:=hrv (by omega)
   subst e
   refine ⟨_,rfl,(by show 0<=sizeLine; decide),fun p7 hp7=>?_⟩
   generalize hgJ7:upd _ p7 _=J7
   obtain ⟨k7,e7⟩:=fresh_of hp7 hgJ7
   clear hgJ7
   refine ⟨_,_,(hN8.same k7).rd,.lst (SqL.of e7) .nil,shapedN _,shaped_nil0,_,rfl,k7,?_⟩
   rw [eqvAll_nil,List.length_map]
   intro y
   refine ⟨z',fun e=>?_⟩
   rw [e] at y
   simp at y
  intro b H9 z9;obtain ⟨s9,hb⟩ := z9
  refine ite2 (fun z=>?_) (fun _=>⟨due,_,rfl,hTB.same _ _ t8 s9,g8.same s9⟩)
  obtain ⟨c3,n0⟩:=hb z
  have e:=hrv (by omega)
  subst e
  have e:=hsv (by omega)
  subst e
  have hN9:=hN8.same s9
  have hv9:=s9 _ _ hv8
  have rl:0 < N.length:=List.length_pos_iff.mpr n0
  have em:=emod_b (c / 6) (show (0:Int) < ((vs.length:Nat):Int) by omega)
  refine ⟨_,rfl,_,_,rfl,rfl,⟨by decide,by decide⟩,_,rfl,pr,_,rfl,.inl (SqL.of hv9),_,_,rfl,rfl,(by show 0 < ((vs.length:Nat):Int); omega),?_⟩
  dsimp only
  obtain ⟨k,hk⟩:=Int.eq_ofNat_of_zero_le em.1
  rw [hk] at em ⊢
  have hk2:k < vs.length:=by omega
  obtain ⟨r,x,ey,ex,er⟩:=hv3 k _ (List.getElem?_eq_getElem hk2)
  obtain ⟨mm,hm,rfl⟩:=List.mem_map.mp (List.mem_of_getElem? ex)
  have hat:atI vs (k:Int)=some (.ref r):=atI_nat (by rw [List.getElem?_eq_getElem hk2,ey])
  have bd9:=hN9.bd mm hm
  have in9:=(hIn mm hm).2.2.1
  refine ⟨_,rfl,_,rfl,_,rfl,_,rfl,pr,_,_,_,rfl,rfl,SqL.of hv9,hat,_,rfl,_,_,rfl,rfl,⟨by decide,by decide⟩,d,m,r,mm.2.2.1,mm.1,mm.2.1,_,mm.2.2.2,rfl,s9 _ _ (s8 _ _ er),bd9.1,in9,d1,z1,fun v HA sA hv hrd=>?_⟩
  have ix:ixN vs.length (k:Int)=some k:=ixN_pos' hk2
  have hvA:=sA _ _ hv9
  refine ⟨_,rfl,_,rfl,pr,vs,_,k,rfl,rfl,hvA,ix,?_⟩
  have evv:=hv pr vs hv9 bd9.2
  have ew:Ew (upd HA pr (.lst (vs.set k v))) 4 (.ref pr):=.lst upd_same (by rw [List.length_set]; omega) fun y hy=>by
   rcases List.mem_or_eq_of_mem_set hy with z | z
   ·exact ((hN9.same sA).item hlb hvA z).same hide_upd
   ·subst z
    exact evv.same hide_upd
  refine ⟨"net",_,rfl,hTB.wr _ _ _ _ (hTB.same _ _ t8 (s9.trans sA)) hvA,⟨by rw [upd_ne nprp.symm]; exact sA _ _ (s9 _ _ g8.1),.inr (.inr ⟨rfl,.int _,ew.dn,net_road (y:=v) upd_same (List.mem_set hk2 _) ?_⟩)⟩⟩
  rw [(Ew.dr (n:=0) evv).roadV_same hide_upd,<- (Ew.dr (n:=0) evv).roadV_same hide_to]
  exact hrd
 intro σ' HB z9;obtain ⟨due,at_,rfl,tB,gB⟩ := z9
 have hdue:due = "answered" \/ due = "place" \/ due = "net" := gB.2.elim (fun z=>.inl z.1) fun z=>.inr (z.elim (fun z=>.inl z.1) fun z=>.inr z.1)
 refine ⟨_,rfl,by decide,by decide,for_range (lo:=0) (n:=(3:Int).toNat) (fun i σ H'=>T H'/\Gd d m pr N g p pp H' sv rv gv pv due/\∃ k2 wh:Option V,σ=[some (.ref a),some (.int d),some sv,some (.ref pp),some rv,some (.int c),some (.str due),some odd,k2,at_,wh]) ⟨tB,gB,_,_,rfl⟩ ?_ ?_⟩
 ·intro i σ H' hi z9;obtain ⟨tI,gI,k2,wh,rfl⟩ := z9
  refine ⟨_,rfl,_,rfl,_,_,rfl,rfl,⟨by decide,by decide⟩,_,_,rfl,rfl,_,_,rfl,rfl,(by show (0:Int) < 3; decide),?_⟩
  dsimp only
  generalize (0+(i:Int)+c / 7) % 3=whi
  refine ⟨_,rfl,_,rfl,_,rfl,_,rfl,_,rfl,pp,_,_,gv,rfl,rfl,SqL.of gI.1,rfl,_,rfl,pp,_,_,pv,rfl,rfl,SqL.of gI.1,rfl,tI,gd_named d1 nok (by omega) (by omega) (by omega) (fun x hx=>by have:=hw4 x hx; omega) gb.1 gb.2 pb.1 pb.2 tI gI fun l HC tC gC eC=>?_⟩
  refine ⟨_,rfl,(by show 5<=sizeLine; decide),fun l2 hl2=>?_⟩
  generalize hgHD:upd _ l2 _=HD
  obtain ⟨sD,eD⟩:=fresh_of hl2 hgHD
  clear hgHD
  refine ⟨_,_,rd_named (sD _ _ eC),rd_named eD,(sh_named hdue).1,(sh_named hdue).1,_,rfl,iteN (by rw [(sh_named hdue).2]; decide) ?_⟩
  exact ⟨hTB.same _ _ tC sD,gC.same sD,_,_,rfl⟩
 ·intro σ H' z9;obtain ⟨_,_,_,_,rfl⟩ := z9
  exact q H'
end
noncomputable abbrev NI (K:PySem.W.Frag) (x:Str) (f:Addr):Prop:=PySem.W.nsIn K mainGlobals x=some (some (.ref f))
noncomputable abbrev LK (K:PySem.W.Frag) (f:Addr) (x:Str) (st:Stmt) (oc:Value) (od:Option Addr) (kV dc pm:Value) (an:Option Addr) (cd ct:Value) (sl:Array (Option Value)):Prop:=K.lookup f=some ⟨oc,od,.func (PySem.W.fnOf x x (defArgs st) (defBody st) (defScope st) .none kV dc pm an cd ct),sl⟩
noncomputable abbrev CI (K:PySem.W.Frag) (cd:Value) (x:Str):Prop:=PySem.W.codeIn K cd x=true
noncomputable abbrev KI (K:PySem.W.Frag) (f:Addr):Prop:=PySem.W.keepIn K (.ref f)=true
theorem all_mk {l:PySem.W.OpenLaw} {q:Program} {loose:List Str} {mean:ExcName->Option Value} {w:World} {K:PySem.W.Frag} {h:Heap} {mg mb:Str->Option Value} {fa:Addr} (X:K.In h) (G:PyProof.Rows.Top q (PySem.W.looseW q loose) mean mg mb h) (hfa:mg "law" = some (.ref fa))
  {f0 f1 f2 f3 f4 f5 f6 f7 f8 f9 f10 f11 f12 f13 f14 f15 f16 f17 f18 f19 f20 f21 f22 f23 f24 f25 f26 f27 f28 f29 f30 f31 f32 f33 f34 f35 f36 f37 f38 f39 f40 f41 f42 f43 f44 f45 f46 f47 f48 f49 f50 tc0 tp0 tc1 tp1 tc2 tp2 tc3 tp3:Addr} {dr0 dr1 dr2 dr3:DefRec} {od0 an0 od1 an1 od2 an2 od3 an3 od4 an4 od5 an5 od6 an6 od7 an7 od8 an8 od9 an9 od10 an10 od11 an11 od12 an12 od13 an13 od14 an14 od15 an15 od16 an16 od17 an17 od18 an18 od19 an19 od20 an20 od21 an21 od22 an22 od23 an23 od24 an24 od25 an25 od26 an26 od27 an27 od28 an28 od29 an29 od30 an30 od31 an31 od32 an32 od33 an33 od34 an34 od35 an35 od36 an36 od37 an37 od38 an38 od39 an39 od40 an40 od41 an41 od42 an42 od43 an43 od44 an44 od45 an45 od46 an46 od47 an47 od48 an48 od49 an49 od50 an50:Option Addr} {sl0 sl1 sl2 sl3 sl4 sl5 sl6 sl7 sl8 sl9 sl10 sl11 sl12 sl13 sl14 sl15 sl16 sl17 sl18 sl19 sl20 sl21 sl22 sl23 sl24 sl25 sl26 sl27 sl28 sl29 sl30 sl31 sl32 sl33 sl34 sl35 sl36 sl37 sl38 sl39 sl40 sl41 sl42 sl43 sl44 sl45 sl46 sl47 sl48 sl49 sl50:Array (Option Value)} {oc0 kV0 dc0 pm0 cd0 ct0 oc1 kV1 dc1 pm1 cd1 ct1 oc2 kV2 dc2 pm2 cd2 ct2 oc3 kV3 dc3 pm3 cd3 ct3 oc4 kV4 dc4 pm4 cd4 ct4 oc5 kV5 dc5 pm5 cd5 ct5 oc6 kV6 dc6 pm6 ct6 oc7 kV7 dc7 pm7 cd7 ct7 oc8 kV8 dc8 pm8 ct8 oc9 kV9 dc9 pm9 cd9 ct9 oc10 kV10 dc10 pm10 cd10 ct10 oc11 kV11 dc11 pm11 cd11 ct11 oc12 kV12 dc12 pm12 cd12 ct12 oc13 kV13 dc13 pm13 cd13 ct13 oc14 kV14 dc14 pm14 cd14 ct14 oc15 kV15 dc15 pm15 cd15 ct15 oc16 kV16 dc16 pm16 cd16 ct16 oc17 kV17 dc17 pm17 cd17 ct17 oc18 kV18 dc18 pm18 cd18 ct18 oc19 kV19 dc19 pm19 cd19 ct19 oc20 kV20 dc20 pm20 cd20 ct20 oc21 kV21 dc21 pm21 cd21 ct21 oc22 kV22 dc22 pm22 cd22 ct22 oc23 kV23 dc23 pm23 ct23 oc24 kV24 dc24 pm24 cd24 ct24 oc25 kV25 dc25 pm25 cd25 ct25 oc26 kV26 dc26 pm26 cd26 ct26 oc27 kV27 dc27 pm27 cd27 ct27 oc28 kV28 dc28 pm28 cd28 ct28 oc29 kV29 dc29 pm29 cd29 ct29 oc30 kV30 dc30 pm30 cd30 ct30 oc31 kV31 dc31 pm31 cd31 ct31 oc32 kV32 dc32 pm32 ct32 oc33 kV33 dc33 pm33 cd33 ct33 oc34 kV34 dc34 pm34 cd34 ct34 oc35 kV35 dc35 pm35 cd35 ct35 oc36 kV36 dc36 pm36 cd36 ct36 oc37 kV37 dc37 pm37 cd37 ct37 oc38 kV38 dc38 pm38 cd38 ct38 oc39 kV39 dc39 pm39 cd39 ct39 oc40 kV40 dc40 pm40 cd40 ct40 oc41 kV41 dc41 pm41 cd41 ct41 oc42 kV42 dc42 pm42 cd42 ct42 oc43 kV43 dc43 pm43 cd43 ct43 oc44 kV44 dc44 pm44 cd44 ct44 oc45 kV45 dc45 pm45 cd45 ct45 oc46 kV46 dc46 pm46 cd46 ct46 oc47 kV47 dc47 pm47 cd47 ct47 oc48 kV48 dc48 pm48 cd48 ct48 oc49 kV49 dc49 pm49 cd49 ct49 oc50 kV50 dc50 pm50 cd50 ct50:Value} {cA cB cC cD cE cF cG cH cI cJ nA nB:Addr} {nmA qA nmB qB:Str} {bsA bmA suA bsB bmB suB:List Value} {hdA abA hdB abB:Bool} {snA snB:List Str} {coA coB:Option Bool} {ddA ddB:Option Addr} {k0A k1A k2A k3A k5A k0B k1B k2B k3B k5B:Option Value} {cdA cdB cdC cdD cdE cdF cdG cdH cdI cdJ:ClassData}
  (a0:NI K "is_whole" f0) (l0:LK K f0 "is_whole" st_is_whole oc0 od0 kV0 dc0 pm0 an0 cd0 ct0 sl0) (c0:CI K cd0 "is_whole") (k0:KI K f0)
  (a1:NI K "is_window" f1) (l1:LK K f1 "is_window" st_is_window oc1 od1 kV1 dc1 pm1 an1 cd1 ct1 sl1) (c1:CI K cd1 "is_window") (k1:KI K f1)
  (a2:NI K "is_board" f2) (l2:LK K f2 "is_board" st_is_board oc2 od2 kV2 dc2 pm2 an2 cd2 ct2 sl2) (c2:CI K cd2 "is_board") (k2:KI K f2)
  (a3:NI K "next_open" f3) (l3:LK K f3 "next_open" st_next_open oc3 od3 kV3 dc3 pm3 an3 cd3 ct3 sl3) (c3:CI K cd3 "next_open") (k3:KI K f3)
  (a4:NI K "last_open" f4) (l4:LK K f4 "last_open" st_last_open oc4 od4 kV4 dc4 pm4 an4 cd4 ct4 sl4) (c4:CI K cd4 "last_open") (k4:KI K f4)
  (a5:NI K "first_where" f5) (l5:LK K f5 "first_where" st_first_where oc5 od5 kV5 dc5 pm5 an5 cd5 ct5 sl5) (c5:CI K cd5 "first_where") (k5:KI K f5)
  (a6:NI K "set_off" f6) (l6:LK K f6 "set_off" st_set_off oc6 od6 kV6 dc6 pm6 an6 (.ref tc0) ct6 sl6) (c6:CI K (.ref tc0) "set_off") (k6:KI K f6)
  (a7:NI K "come" f7) (l7:LK K f7 "come" st_come oc7 od7 kV7 dc7 pm7 an7 cd7 ct7 sl7) (c7:CI K cd7 "come") (k7:KI K f7)
  (a8:NI K "leave" f8) (l8:LK K f8 "leave" st_leave oc8 od8 kV8 dc8 pm8 an8 (.ref tc1) ct8 sl8) (c8:CI K (.ref tc1) "leave") (k8:KI K f8)
  (a9:NI K "standing" f9) (l9:LK K f9 "standing" st_standing oc9 od9 kV9 dc9 pm9 an9 cd9 ct9 sl9) (c9:CI K cd9 "standing") (k9:KI K f9)
  (a10:NI K "is_number" f10) (l10:LK K f10 "is_number" st_is_number oc10 od10 kV10 dc10 pm10 an10 cd10 ct10 sl10) (c10:CI K cd10 "is_number") (k10:KI K f10)
  (a11:NI K "is_road" f11) (l11:LK K f11 "is_road" st_is_road oc11 od11 kV11 dc11 pm11 an11 cd11 ct11 sl11) (c11:CI K cd11 "is_road") (k11:KI K f11)
  (a12:NI K "is_net" f12) (l12:LK K f12 "is_net" st_is_net oc12 od12 kV12 dc12 pm12 an12 cd12 ct12 sl12) (c12:CI K cd12 "is_net") (k12:KI K f12)
  (a13:NI K "need_net" f13) (l13:LK K f13 "need_net" st_need_net oc13 od13 kV13 dc13 pm13 an13 cd13 ct13 sl13) (c13:CI K cd13 "need_net") (k13:KI K f13)
  (a14:NI K "need_place" f14) (l14:LK K f14 "need_place" st_need_place oc14 od14 kV14 dc14 pm14 an14 cd14 ct14 sl14) (c14:CI K cd14 "need_place") (k14:KI K f14)
  (a15:NI K "stretches" f15) (l15:LK K f15 "stretches" st_stretches oc15 od15 kV15 dc15 pm15 an15 cd15 ct15 sl15) (c15:CI K cd15 "stretches") (k15:KI K f15)
  (a16:NI K "first_told" f16) (l16:LK K f16 "first_told" st_first_told oc16 od16 kV16 dc16 pm16 an16 cd16 ct16 sl16) (c16:CI K cd16 "first_told") (k16:KI K f16)
  (a17:NI K "overlay" f17) (l17:LK K f17 "overlay" st_overlay oc17 od17 kV17 dc17 pm17 an17 cd17 ct17 sl17) (c17:CI K cd17 "overlay") (k17:KI K f17)
  (a18:NI K "put_window" f18) (l18:LK K f18 "put_window" st_put_window oc18 od18 kV18 dc18 pm18 an18 cd18 ct18 sl18) (c18:CI K cd18 "put_window") (k18:KI K f18)
  (a19:NI K "clock_from" f19) (l19:LK K f19 "clock_from" st_clock_from oc19 od19 kV19 dc19 pm19 an19 cd19 ct19 sl19) (c19:CI K cd19 "clock_from") (k19:KI K f19)
  (a20:NI K "picked" f20) (l20:LK K f20 "picked" st_picked oc20 od20 kV20 dc20 pm20 an20 cd20 ct20 sl20) (c20:CI K cd20 "picked") (k20:KI K f20)
  (a21:NI K "joined" f21) (l21:LK K f21 "joined" st_joined oc21 od21 kV21 dc21 pm21 an21 cd21 ct21 sl21) (c21:CI K cd21 "joined") (k21:KI K f21)
  (a22:NI K "sooner" f22) (l22:LK K f22 "sooner" st_sooner oc22 od22 kV22 dc22 pm22 an22 cd22 ct22 sl22) (c22:CI K cd22 "sooner") (k22:KI K f22)
  (a23:NI K "ridden" f23) (l23:LK K f23 "ridden" st_ridden oc23 od23 kV23 dc23 pm23 an23 (.ref tc2) ct23 sl23) (c23:CI K (.ref tc2) "ridden") (k23:KI K f23)
  (a24:NI K "behind" f24) (l24:LK K f24 "behind" st_behind oc24 od24 kV24 dc24 pm24 an24 cd24 ct24 sl24) (c24:CI K cd24 "behind") (k24:KI K f24)
  (a25:NI K "clock_within" f25) (l25:LK K f25 "clock_within" st_clock_within oc25 od25 kV25 dc25 pm25 an25 cd25 ct25 sl25) (c25:CI K cd25 "clock_within") (k25:KI K f25)
  (a26:NI K "clock_of" f26) (l26:LK K f26 "clock_of" st_clock_of oc26 od26 kV26 dc26 pm26 an26 cd26 ct26 sl26) (c26:CI K cd26 "clock_of") (k26:KI K f26)
  (a27:NI K "fords_of" f27) (l27:LK K f27 "fords_of" st_fords_of oc27 od27 kV27 dc27 pm27 an27 cd27 ct27 sl27) (c27:CI K cd27 "fords_of") (k27:KI K f27)
  (a28:NI K "staying" f28) (l28:LK K f28 "staying" st_staying oc28 od28 kV28 dc28 pm28 an28 cd28 ct28 sl28) (c28:CI K cd28 "staying") (k28:KI K f28)
  (a29:NI K "copied_table" f29) (l29:LK K f29 "copied_table" st_copied_table oc29 od29 kV29 dc29 pm29 an29 cd29 ct29 sl29) (c29:CI K cd29 "copied_table") (k29:KI K f29)
  (a30:NI K "grown" f30) (l30:LK K f30 "grown" st_grown oc30 od30 kV30 dc30 pm30 an30 cd30 ct30 sl30) (c30:CI K cd30 "grown") (k30:KI K f30)
  (a31:NI K "ride_first" f31) (l31:LK K f31 "ride_first" st_ride_first oc31 od31 kV31 dc31 pm31 an31 cd31 ct31 sl31) (c31:CI K cd31 "ride_first") (k31:KI K f31)
  (a32:NI K "rounds_to" f32) (l32:LK K f32 "rounds_to" st_rounds_to oc32 od32 kV32 dc32 pm32 an32 (.ref tc3) ct32 sl32) (c32:CI K (.ref tc3) "rounds_to") (k32:KI K f32)
  (a33:NI K "rounds" f33) (l33:LK K f33 "rounds" st_rounds oc33 od33 kV33 dc33 pm33 an33 cd33 ct33 sl33) (c33:CI K cd33 "rounds") (k33:KI K f33)
  (a34:NI K "comes_by" f34) (l34:LK K f34 "comes_by" st_comes_by oc34 od34 kV34 dc34 pm34 an34 cd34 ct34 sl34) (c34:CI K cd34 "comes_by") (k34:KI K f34)
  (a35:NI K "least_round" f35) (l35:LK K f35 "least_round" st_least_round oc35 od35 kV35 dc35 pm35 an35 cd35 ct35 sl35) (c35:CI K cd35 "least_round") (k35:KI K f35)
  (a36:NI K "ask_by" f36) (l36:LK K f36 "ask_by" st_ask_by oc36 od36 kV36 dc36 pm36 an36 cd36 ct36 sl36) (c36:CI K cd36 "ask_by") (k36:KI K f36)
  (a37:NI K "walk" f37) (l37:LK K f37 "walk" st_walk oc37 od37 kV37 dc37 pm37 an37 cd37 ct37 sl37) (c37:CI K cd37 "walk") (k37:KI K f37)
  (a38:NI K "journey" f38) (l38:LK K f38 "journey" st_journey oc38 od38 kV38 dc38 pm38 an38 cd38 ct38 sl38) (c38:CI K cd38 "journey") (k38:KI K f38)
  (a39:NI K "last_journey" f39) (l39:LK K f39 "last_journey" st_last_journey oc39 od39 kV39 dc39 pm39 an39 cd39 ct39 sl39) (c39:CI K cd39 "last_journey") (k39:KI K f39)
  (a40:NI K "fewest_rides" f40) (l40:LK K f40 "fewest_rides" st_fewest_rides oc40 od40 kV40 dc40 pm40 an40 cd40 ct40 sl40) (c40:CI K cd40 "fewest_rides") (k40:KI K f40)
  (a41:NI K "_law_cell" f41) (l41:LK K f41 "_law_cell" st__law_cell oc41 od41 kV41 dc41 pm41 an41 cd41 ct41 sl41) (c41:CI K cd41 "_law_cell") (k41:KI K f41)
  (a42:NI K "_law_day" f42) (l42:LK K f42 "_law_day" st__law_day oc42 od42 kV42 dc42 pm42 an42 cd42 ct42 sl42) (c42:CI K cd42 "_law_day") (k42:KI K f42)
  (a43:NI K "_law_size" f43) (l43:LK K f43 "_law_size" st__law_size oc43 od43 kV43 dc43 pm43 an43 cd43 ct43 sl43) (c43:CI K cd43 "_law_size") (k43:KI K f43)
  (a44:NI K "_law_road_window" f44) (l44:LK K f44 "_law_road_window" st__law_road_window oc44 od44 kV44 dc44 pm44 an44 cd44 ct44 sl44) (c44:CI K cd44 "_law_road_window") (k44:KI K f44)
  (a45:NI K "_law_net" f45) (l45:LK K f45 "_law_net" st__law_net oc45 od45 kV45 dc45 pm45 an45 cd45 ct45 sl45) (c45:CI K cd45 "_law_net") (k45:KI K f45)
  (a46:NI K "_law_odd_place" f46) (l46:LK K f46 "_law_odd_place" st__law_odd_place oc46 od46 kV46 dc46 pm46 an46 cd46 ct46 sl46) (c46:CI K cd46 "_law_odd_place") (k46:KI K f46)
  (a47:NI K "_law_asked" f47) (l47:LK K f47 "_law_asked" st__law_asked oc47 od47 kV47 dc47 pm47 an47 cd47 ct47 sl47) (c47:CI K cd47 "_law_asked") (k47:KI K f47)
  (a48:NI K "_law_named" f48) (l48:LK K f48 "_law_named" st__law_named oc48 od48 kV48 dc48 pm48 an48 cd48 ct48 sl48) (c48:CI K cd48 "_law_named") (k48:KI K f48)
  (a49:NI K "_law_bent" f49) (l49:LK K f49 "_law_bent" st__law_bent oc49 od49 kV49 dc49 pm49 an49 cd49 ct49 sl49) (c49:CI K cd49 "_law_bent") (k49:KI K f49)
  (a50:NI K "law" f50) (l50:LK K f50 "law" st_law oc50 od50 kV50 dc50 pm50 an50 cd50 ct50 sl50) (c50:CI K cd50 "law") (k50:KI K f50)
  (z0:PySem.W.nsIn K mainGlobals "len" = some none) (z1:PySem.W.nsIn K mainGlobals "max" = some none) (z2:PySem.W.nsIn K mainGlobals "min" = some none) (z3:PySem.W.nsIn K mainGlobals "all" = some none) (z4:PySem.W.nsIn K mainGlobals "range" = some none) (z5:PySem.W.nsIn K mainGlobals "enumerate" = some none) (z6:PySem.W.nsIn K mainGlobals "isinstance" = some none) (z7:PySem.W.nsIn K mainGlobals "bool" = some none) (z8:PySem.W.nsIn K mainGlobals "int" = some none) (z9:PySem.W.nsIn K mainGlobals "tuple" = some none) (z10:PySem.W.nsIn K mainGlobals "list" = some none) (xa_A:PySem.W.nsIn K mainGlobals "NoNet" = some (some (.ref cA))) (xa_B:PySem.W.nsIn K mainGlobals "NoPlace" = some (some (.ref cB))) (xa_C:PySem.W.nsIn K mainGlobals "FordError" = some (some (.ref cC))) (xa_D:PySem.W.nsIn K mainGlobals "NoBoard" = some (some (.ref cD))) (xa_E:PySem.W.nsIn K mainGlobals "NoRoad" = some (some (.ref cE))) (xa_F:PySem.W.nsIn K mainGlobals "NoTurn" = some (some (.ref cF))) (xa_G:PySem.W.nsIn K mainGlobals "NoText" = some (some (.ref cG))) (xa_H:PySem.W.nsIn K mainGlobals "NoRow" = some (some (.ref cH))) (xa_I:PySem.W.nsIn K mainGlobals "NoName" = some (some (.ref cI))) (xa_J:PySem.W.nsIn K mainGlobals "NoWindow" = some (some (.ref cJ))) (xl_A:K.lookup cA=some (excClassObj nmA qA cA nA bsA bmA hdA snA suA abA coA ddA k0A k1A k2A k3A k5A "ValueError.__new__")) (xq_A:PySem.W.excIn K cA [.type "ValueError",.type "Exception",.type "BaseException",.type "object"] "ValueError.__new__" = true) (xb_A:bmA.contains (.type "BaseException")=true) (xl_B:K.lookup cB=some (excClassObj nmB qB cB nB bsB bmB hdB snB suB abB coB ddB k0B k1B k2B k3B k5B "ValueError.__new__")) (xq_B:PySem.W.excIn K cB [.type "ValueError",.type "Exception",.type "BaseException",.type "object"] "ValueError.__new__" = true) (xb_B:bmB.contains (.type "BaseException")=true) (xb_ne:(Value.ref cB :: bmB).contains (.ref cA)=false) (xz_ValueError:PySem.W.nsIn K mainGlobals "ValueError" = some none) (xu_A:PySem.W.clsIn K cA=some cdA) (xt_A:PySem.W.typeIn K (.ref cA)=some (.type "type")) (xu_B:PySem.W.clsIn K cB=some cdB) (xt_B:PySem.W.typeIn K (.ref cB)=some (.type "type")) (xu_C:PySem.W.clsIn K cC=some cdC) (xt_C:PySem.W.typeIn K (.ref cC)=some (.type "type")) (xu_D:PySem.W.clsIn K cD=some cdD) (xt_D:PySem.W.typeIn K (.ref cD)=some (.type "type")) (xu_E:PySem.W.clsIn K cE=some cdE) (xt_E:PySem.W.typeIn K (.ref cE)=some (.type "type")) (xu_F:PySem.W.clsIn K cF=some cdF) (xt_F:PySem.W.typeIn K (.ref cF)=some (.type "type")) (xu_G:PySem.W.clsIn K cG=some cdG) (xt_G:PySem.W.typeIn K (.ref cG)=some (.type "type")) (xu_H:PySem.W.clsIn K cH=some cdH) (xt_H:PySem.W.typeIn K (.ref cH)=some (.type "type")) (xu_I:PySem.W.clsIn K cI=some cdI) (xt_I:PySem.W.typeIn K (.ref cI)=some (.type "type")) (xu_J:PySem.W.clsIn K cJ=some cdJ) (xt_J:PySem.W.typeIn K (.ref cJ)=some (.type "type")) (xe5:PySem.W.specialIn K (.builtin "object.__class__") "__get__" = some (some (.builtin "getset_descriptor.__get__"))) (xe6:PySem.W.takesIn K (.builtin "object.__class__")=some true) (xe2N:PySem.W.findIn K (.ref cA) "__getattribute__" = some (some (.builtin "BaseException.__getattribute__"))) (xe3N:PySem.W.findIn K (.ref cA) "__getattr__" = some none) (xe4N:PySem.W.findIn K (.ref cA) "__class__" = some (some (.builtin "object.__class__"))) (xe7N:PySem.W.mroIn K cA (.type "object")=some true) (xe8N:PySem.W.mroIn K cA (.type "BaseException")=some true) (xsVN:PySem.W.subIn K (.ref cA) (.type "ValueError")=some true) (xsN_B:PySem.W.subIn K (.ref cA) (.ref cB)=some false) (xnN_B:cA ≠ cB) (xsN_C:PySem.W.subIn K (.ref cA) (.ref cC)=some true) (xnN_C:cA ≠ cC) (xsN_D:PySem.W.subIn K (.ref cA) (.ref cD)=some false) (xnN_D:cA ≠ cD) (xsN_E:PySem.W.subIn K (.ref cA) (.ref cE)=some false) (xnN_E:cA ≠ cE) (xsN_F:PySem.W.subIn K (.ref cA) (.ref cF)=some false) (xnN_F:cA ≠ cF) (xsN_G:PySem.W.subIn K (.ref cA) (.ref cG)=some false) (xnN_G:cA ≠ cG) (xsN_H:PySem.W.subIn K (.ref cA) (.ref cH)=some false) (xnN_H:cA ≠ cH) (xsN_I:PySem.W.subIn K (.ref cA) (.ref cI)=some false) (xnN_I:cA ≠ cI) (xsN_J:PySem.W.subIn K (.ref cA) (.ref cJ)=some false) (xnN_J:cA ≠ cJ) (xe2P:PySem.W.findIn K (.ref cB) "__getattribute__" = some (some (.builtin "BaseException.__getattribute__"))) (xe3P:PySem.W.findIn K (.ref cB) "__getattr__" = some none) (xe4P:PySem.W.findIn K (.ref cB) "__class__" = some (some (.builtin "object.__class__"))) (xe7P:PySem.W.mroIn K cB (.type "object")=some true) (xe8P:PySem.W.mroIn K cB (.type "BaseException")=some true) (xsVP:PySem.W.subIn K (.ref cB) (.type "ValueError")=some true) (xsP_A:PySem.W.subIn K (.ref cB) (.ref cA)=some false) (xnP_A:cB ≠ cA) (xsP_C:PySem.W.subIn K (.ref cB) (.ref cC)=some true) (xnP_C:cB ≠ cC) (xsP_D:PySem.W.subIn K (.ref cB) (.ref cD)=some false) (xnP_D:cB ≠ cD) (xsP_E:PySem.W.subIn K (.ref cB) (.ref cE)=some false) (xnP_E:cB ≠ cE) (xsP_F:PySem.W.subIn K (.ref cB) (.ref cF)=some false) (xnP_F:cB ≠ cF) (xsP_G:PySem.W.subIn K (.ref cB) (.ref cG)=some false) (xnP_G:cB ≠ cG) (xsP_H:PySem.W.subIn K (.ref cB) (.ref cH)=some false) (xnP_H:cB ≠ cH) (xsP_I:PySem.W.subIn K (.ref cB) (.ref cI)=some false) (xnP_I:cB ≠ cI) (xsP_J:PySem.W.subIn K (.ref cB) (.ref cJ)=some false) (xnP_J:cB ≠ cJ)
  (r0:(PyProof.Rows.recsOf q).find? (fun e=>e.name == Str.ofString "set_off")=some dr0) (t0:PySem.W.tabIn K "set_off" = some (tc0,tp0)) (n0:K.lookup tp0=none) (r1:(PyProof.Rows.recsOf q).find? (fun e=>e.name == Str.ofString "leave")=some dr1) (t1:PySem.W.tabIn K "leave" = some (tc1,tp1)) (n1:K.lookup tp1=none) (r2:(PyProof.Rows.recsOf q).find? (fun e=>e.name == Str.ofString "ridden")=some dr2) (t2:PySem.W.tabIn K "ridden" = some (tc2,tp2)) (n2:K.lookup tp2=none) (r3:(PyProof.Rows.recsOf q).find? (fun e=>e.name == Str.ofString "rounds_to")=some dr3) (t3:PySem.W.tabIn K "rounds_to" = some (tc3,tp3)) (n3:K.lookup tp3=none) (ne01:tp0 ≠ tp1) (ne02:tp0 ≠ tp2) (ne03:tp0 ≠ tp3) (ne12:tp1 ≠ tp2) (ne13:tp1 ≠ tp3) (ne23:tp2 ≠ tp3) :
  ∃ (fd:FuncData) (tabs:List (Addr × Addr)),(∀ (s:Shared) (v:Value),BindsTo s fd ⟨[v],[]⟩ [("script",v)])/\(∀ t∈tabs,PySem.W.CodeHd h t.1 t.2/\h.get? t.2=some (PySem.W.tabObj #[])/\K.lookup t.2=none)/\∀ base:Heap,K.In base->base.Ns mainGlobals mg->BMain mg base->(∀ t∈tabs,PySem.W.CodeHd base t.1 t.2)->FnOk l.prog w K mg base CX0 26 fa fd ["script"] (spLaw K tabs):=by
 have e:=hfa.symm.trans (PySem.W.mg_of X G.g a50)
 cases e
 have F0:=fun_mk (st:=st_is_whole) l0 c0 k0
 have b0:=F0.binds (ps:=["thing"]) fun _ _ _ _ _ _ us hl=>by
  obtain ⟨_,rfl⟩:=bl_1 hl
  rfl
 have m0:=PySem.W.mg_of X G.g a0
 have F1:=fun_mk (st:=st_is_window) l1 c1 k1
 have b1:=F1.binds (ps:=["day","thing"]) fun _ _ _ _ _ _ us hl=>by
  obtain ⟨_,_,rfl⟩:=bl_2 hl
  rfl
 have m1:=PySem.W.mg_of X G.g a1
 have F2:=fun_mk (st:=st_is_board) l2 c2 k2
 have b2:=F2.binds (ps:=["day","thing"]) fun _ _ _ _ _ _ us hl=>by
  obtain ⟨_,_,rfl⟩:=bl_2 hl
  rfl
 have m2:=PySem.W.mg_of X G.g a2
 have F3:=fun_mk (st:=st_next_open) l3 c3 k3
 have b3:=F3.binds (ps:=["day","window","t"]) fun _ _ _ _ _ _ us hl=>by
  obtain ⟨_,_,_,rfl⟩:=bl_3 hl
  rfl
 have m3:=PySem.W.mg_of X G.g a3
 have F4:=fun_mk (st:=st_last_open) l4 c4 k4
 have b4:=F4.binds (ps:=["day","window","t"]) fun _ _ _ _ _ _ us hl=>by
  obtain ⟨_,_,_,rfl⟩:=bl_3 hl
  rfl
 have m4:=PySem.W.mg_of X G.g a4
 have F5:=fun_mk (st:=st_first_where) l5 c5 k5
 have b5:=F5.binds (ps:=["clock","holds"]) fun _ _ _ _ _ _ us hl=>by
  obtain ⟨_,_,rfl⟩:=bl_2 hl
  rfl
 have m5:=PySem.W.mg_of X G.g a5
 have F6:=fun_mk (st:=st_set_off) l6 c6 k6
 have b6:=F6.binds (ps:=["day","clock","t"]) fun _ _ _ _ _ _ us hl=>by
  obtain ⟨_,_,_,rfl⟩:=bl_3 hl
  rfl
 have m6:=PySem.W.mg_of X G.g a6
 have F7:=fun_mk (st:=st_come) l7 c7 k7
 have b7:=F7.binds (ps:=["day","clock","t"]) fun _ _ _ _ _ _ us hl=>by
  obtain ⟨_,_,_,rfl⟩:=bl_3 hl
  rfl
 have m7:=PySem.W.mg_of X G.g a7
 have F8:=fun_mk (st:=st_leave) l8 c8 k8
 have b8:=F8.binds (ps:=["day","clock","s"]) fun _ _ _ _ _ _ us hl=>by
  obtain ⟨_,_,_,rfl⟩:=bl_3 hl
  rfl
 have m8:=PySem.W.mg_of X G.g a8
 have F9:=fun_mk (st:=st_standing) l9 c9 k9
 have b9:=F9.binds (ps:=["day"]) fun _ _ _ _ _ _ us hl=>by
  obtain ⟨_,rfl⟩:=bl_1 hl
  rfl
 have m9:=PySem.W.mg_of X G.g a9
 have F10:=fun_mk (st:=st_is_number) l10 c10 k10
 have b10:=F10.binds (ps:=["count","thing"]) fun _ _ _ _ _ _ us hl=>by
  obtain ⟨_,_,rfl⟩:=bl_2 hl
  rfl
 have m10:=PySem.W.mg_of X G.g a10
 have F11:=fun_mk (st:=st_is_road) l11 c11 k11
 have b11:=F11.binds (ps:=["day","size","thing"]) fun _ _ _ _ _ _ us hl=>by
  obtain ⟨_,_,_,rfl⟩:=bl_3 hl
  rfl
 have m11:=PySem.W.mg_of X G.g a11
 have F12:=fun_mk (st:=st_is_net) l12 c12 k12
 have b12:=F12.binds (ps:=["day","size","roads"]) fun _ _ _ _ _ _ us hl=>by
  obtain ⟨_,_,_,rfl⟩:=bl_3 hl
  rfl
 have m12:=PySem.W.mg_of X G.g a12
 have F13:=fun_mk (st:=st_need_net) l13 c13 k13
 have b13:=F13.binds (ps:=["day","size","roads"]) fun _ _ _ _ _ _ us hl=>by
  obtain ⟨_,_,_,rfl⟩:=bl_3 hl
  rfl
 have m13:=PySem.W.mg_of X G.g a13
 have F14:=fun_mk (st:=st_need_place) l14 c14 k14
 have b14:=F14.binds (ps:=["size","thing"]) fun _ _ _ _ _ _ us hl=>by
  obtain ⟨_,_,rfl⟩:=bl_2 hl
  rfl
 have m14:=PySem.W.mg_of X G.g a14
 have F15:=fun_mk (st:=st_stretches) l15 c15 k15
 have b15:=F15.binds (ps:=["day","clock"]) fun _ _ _ _ _ _ us hl=>by
  obtain ⟨_,_,rfl⟩:=bl_2 hl
  rfl
 have m15:=PySem.W.mg_of X G.g a15
 have F16:=fun_mk (st:=st_first_told) l16 c16 k16
 have b16:=F16.binds (ps:=["row"]) fun _ _ _ _ _ _ us hl=>by
  obtain ⟨_,rfl⟩:=bl_1 hl
  rfl
 have m16:=PySem.W.mg_of X G.g a16
 have F17:=fun_mk (st:=st_overlay) l17 c17 k17
 have b17:=F17.binds (ps:=["day","one","other"]) fun _ _ _ _ _ _ us hl=>by
  obtain ⟨_,_,_,rfl⟩:=bl_3 hl
  rfl
 have m17:=PySem.W.mg_of X G.g a17
 have F18:=fun_mk (st:=st_put_window) l18 c18 k18
 have b18:=F18.binds (ps:=["clock","a","b","c"]) fun _ _ _ _ _ _ us hl=>by
  obtain ⟨_,_,_,_,rfl⟩:=bl_4 hl
  rfl
 have m18:=PySem.W.mg_of X G.g a18
 have F19:=fun_mk (st:=st_clock_from) l19 c19 k19
 have b19:=F19.binds (ps:=["day","rows"]) fun _ _ _ _ _ _ us hl=>by
  obtain ⟨_,_,rfl⟩:=bl_2 hl
  rfl
 have m19:=PySem.W.mg_of X G.g a19
 have F20:=fun_mk (st:=st_picked) l20 c20 k20
 have b20:=F20.binds (ps:=["p","q","waiting","riding","late"]) fun _ _ _ _ _ _ us hl=>by
  obtain ⟨_,_,_,_,_,rfl⟩:=bl_5 hl
  rfl
 have m20:=PySem.W.mg_of X G.g a20
 have F21:=fun_mk (st:=st_joined) l21 c21 k21
 have b21:=F21.binds (ps:=["day","one","other","late"]) fun _ _ _ _ _ _ us hl=>by
  obtain ⟨_,_,_,_,rfl⟩:=bl_4 hl
  rfl
 have m21:=PySem.W.mg_of X G.g a21
 have F22:=fun_mk (st:=st_sooner) l22 c22 k22
 have b22:=F22.binds (ps:=["day","one","other"]) fun _ _ _ _ _ _ us hl=>by
  obtain ⟨_,_,_,rfl⟩:=bl_3 hl
  rfl
 have m22:=PySem.W.mg_of X G.g a22
 have F23:=fun_mk (st:=st_ridden) l23 c23 k23
 have b23:=F23.binds (ps:=["day","p","q","ride","others"]) fun _ _ _ _ _ _ us hl=>by
  obtain ⟨_,_,_,_,_,rfl⟩:=bl_5 hl
  rfl
 have m23:=PySem.W.mg_of X G.g a23
 have F24:=fun_mk (st:=st_behind) l24 c24 k24
 have b24:=F24.binds (ps:=["day","one","other"]) fun _ _ _ _ _ _ us hl=>by
  obtain ⟨_,_,_,rfl⟩:=bl_3 hl
  rfl
 have m24:=PySem.W.mg_of X G.g a24
 have F25:=fun_mk (st:=st_clock_within) l25 c25 k25
 have b25:=F25.binds (ps:=["day","board"]) fun _ _ _ _ _ _ us hl=>by
  obtain ⟨_,_,rfl⟩:=bl_2 hl
  rfl
 have m25:=PySem.W.mg_of X G.g a25
 have F26:=fun_mk (st:=st_clock_of) l26 c26 k26
 have b26:=F26.binds (ps:=["day","board"]) fun _ _ _ _ _ _ us hl=>by
  obtain ⟨_,_,rfl⟩:=bl_2 hl
  rfl
 have m26:=PySem.W.mg_of X G.g a26
 have F27:=fun_mk (st:=st_fords_of) l27 c27 k27
 have b27:=F27.binds (ps:=["day","roads"]) fun _ _ _ _ _ _ us hl=>by
  obtain ⟨_,_,rfl⟩:=bl_2 hl
  rfl
 have m27:=PySem.W.mg_of X G.g a27
 have F28:=fun_mk (st:=st_staying) l28 c28 k28
 have b28:=F28.binds (ps:=["day","size","place"]) fun _ _ _ _ _ _ us hl=>by
  obtain ⟨_,_,_,rfl⟩:=bl_3 hl
  rfl
 have m28:=PySem.W.mg_of X G.g a28
 have F29:=fun_mk (st:=st_copied_table) l29 c29 k29
 have b29:=F29.binds (ps:=["told"]) fun _ _ _ _ _ _ us hl=>by
  obtain ⟨_,rfl⟩:=bl_1 hl
  rfl
 have m29:=PySem.W.mg_of X G.g a29
 have F30:=fun_mk (st:=st_grown) l30 c30 k30
 have b30:=F30.binds (ps:=["day","size","place","step"]) fun _ _ _ _ _ _ us hl=>by
  obtain ⟨_,_,_,_,rfl⟩:=bl_4 hl
  rfl
 have m30:=PySem.W.mg_of X G.g a30
 have F31:=fun_mk (st:=st_ride_first) l31 c31 k31
 have b31:=F31.binds (ps:=["day","fords","told"]) fun _ _ _ _ _ _ us hl=>by
  obtain ⟨_,_,_,rfl⟩:=bl_3 hl
  rfl
 have m31:=PySem.W.mg_of X G.g a31
 have F32:=fun_mk (st:=st_rounds_to) l32 c32 k32
 have b32:=F32.binds (ps:=["day","size","roads","goal"]) fun _ _ _ _ _ _ us hl=>by
  obtain ⟨_,_,_,_,rfl⟩:=bl_4 hl
  rfl
 have m32:=PySem.W.mg_of X G.g a32
 have F33:=fun_mk (st:=st_rounds) l33 c33 k33
 have b33:=F33.binds (ps:=["day","size","roads","goal"]) fun _ _ _ _ _ _ us hl=>by
  obtain ⟨_,_,_,_,rfl⟩:=bl_4 hl
  rfl
 have m33:=PySem.W.mg_of X G.g a33
 have F34:=fun_mk (st:=st_comes_by) l34 c34 k34
 have b34:=F34.binds (ps:=["day","clock","t","s"]) fun _ _ _ _ _ _ us hl=>by
  obtain ⟨_,_,_,_,rfl⟩:=bl_4 hl
  rfl
 have m34:=PySem.W.mg_of X G.g a34
 have F35:=fun_mk (st:=st_least_round) l35 c35 k35
 have b35:=F35.binds (ps:=["day","tables","place","t","s"]) fun _ _ _ _ _ _ us hl=>by
  obtain ⟨_,_,_,_,_,rfl⟩:=bl_5 hl
  rfl
 have m35:=PySem.W.mg_of X G.g a35
 have F36:=fun_mk (st:=st_ask_by) l36 c36 k36
 have b36:=F36.binds (ps:=["day","roads","told","guard","place","t","s"]) fun _ _ _ _ _ _ us hl=>by
  obtain ⟨_,_,_,_,_,_,_,rfl⟩:=bl_7 hl
  rfl
 have m36:=PySem.W.mg_of X G.g a36
 have F37:=fun_mk (st:=st_walk) l37 c37 k37
 have b37:=F37.binds (ps:=["day","roads","tables","guard","place","t"]) fun _ _ _ _ _ _ us hl=>by
  obtain ⟨_,_,_,_,_,_,rfl⟩:=bl_6 hl
  rfl
 have m37:=PySem.W.mg_of X G.g a37
 have F38:=fun_mk (st:=st_journey) l38 c38 k38
 have b38:=F38.binds (ps:=["day","size","roads","goal","place","t"]) fun _ _ _ _ _ _ us hl=>by
  obtain ⟨_,_,_,_,_,_,rfl⟩:=bl_6 hl
  rfl
 have m38:=PySem.W.mg_of X G.g a38
 have F39:=fun_mk (st:=st_last_journey) l39 c39 k39
 have b39:=F39.binds (ps:=["day","size","roads","goal","place","s"]) fun _ _ _ _ _ _ us hl=>by
  obtain ⟨_,_,_,_,_,_,rfl⟩:=bl_6 hl
  rfl
 have m39:=PySem.W.mg_of X G.g a39
 have F40:=fun_mk (st:=st_fewest_rides) l40 c40 k40
 have b40:=F40.binds (ps:=["day","size","roads","goal","place","t","s"]) fun _ _ _ _ _ _ us hl=>by
  obtain ⟨_,_,_,_,_,_,_,rfl⟩:=bl_7 hl
  rfl
 have m40:=PySem.W.mg_of X G.g a40
 have F41:=fun_mk (st:=st__law_cell) l41 c41 k41
 have b41:=F41.binds (ps:=["script","k"]) fun _ _ _ _ _ _ us hl=>by
  obtain ⟨_,_,rfl⟩:=bl_2 hl
  rfl
 have m41:=PySem.W.mg_of X G.g a41
 have F42:=fun_mk (st:=st__law_day) l42 c42 k42
 have b42:=F42.binds (ps:=["cell"]) fun _ _ _ _ _ _ us hl=>by
  obtain ⟨_,rfl⟩:=bl_1 hl
  rfl
 have m42:=PySem.W.mg_of X G.g a42
 have F43:=fun_mk (st:=st__law_size) l43 c43 k43
 have b43:=F43.binds (ps:=["cell"]) fun _ _ _ _ _ _ us hl=>by
  obtain ⟨_,rfl⟩:=bl_1 hl
  rfl
 have m43:=PySem.W.mg_of X G.g a43
 have F44:=fun_mk (st:=st__law_road_window) l44 c44 k44
 have b44:=F44.binds (ps:=["day","one","two","three"]) fun _ _ _ _ _ _ us hl=>by
  obtain ⟨_,_,_,_,rfl⟩:=bl_4 hl
  rfl
 have m44:=PySem.W.mg_of X G.g a44
 have F45:=fun_mk (st:=st__law_net) l45 c45 k45
 have b45:=F45.binds (ps:=["day","size","goal","cells"]) fun _ _ _ _ _ _ us hl=>by
  obtain ⟨_,_,_,_,rfl⟩:=bl_4 hl
  rfl
 have m45:=PySem.W.mg_of X G.g a45
 have F46:=fun_mk (st:=st__law_odd_place) l46 c46 k46
 have b46:=F46.binds (ps:=["size","cell"]) fun _ _ _ _ _ _ us hl=>by
  obtain ⟨_,_,rfl⟩:=bl_2 hl
  rfl
 have m46:=PySem.W.mg_of X G.g a46
 have F47:=fun_mk (st:=st__law_asked) l47 c47 k47
 have b47:=F47.binds (ps:=["which","day","size","roads","goal","place"]) fun _ _ _ _ _ _ us hl=>by
  obtain ⟨_,_,_,_,_,_,rfl⟩:=bl_6 hl
  rfl
 have m47:=PySem.W.mg_of X G.g a47
 have F48:=fun_mk (st:=st__law_named) l48 c48 k48
 have b48:=F48.binds (ps:=["which","day","size","roads","goal","place"]) fun _ _ _ _ _ _ us hl=>by
  obtain ⟨_,_,_,_,_,_,rfl⟩:=bl_6 hl
  rfl
 have m48:=PySem.W.mg_of X G.g a48
 have F49:=fun_mk (st:=st__law_bent) l49 c49 k49
 have b49:=F49.binds (ps:=["day","size","road","cell"]) fun _ _ _ _ _ _ us hl=>by
  obtain ⟨_,_,_,_,rfl⟩:=bl_4 hl
  rfl
 have m49:=PySem.W.mg_of X G.g a49
 have F50:=fun_mk (st:=st_law) l50 c50 k50
 have b50:=F50.binds (ps:=["script"]) fun _ _ _ _ _ _ us hl=>by
  obtain ⟨_,rfl⟩:=bl_1 hl
  rfl
 have m50:=PySem.W.mg_of X G.g a50
 obtain ⟨hd0,ho0⟩:=PySem.W.tab_of G X r0 t0
 obtain ⟨hd1,ho1⟩:=PySem.W.tab_of G X r1 t1
 obtain ⟨hd2,ho2⟩:=PySem.W.tab_of G X r2 t2
 obtain ⟨hd3,ho3⟩:=PySem.W.tab_of G X r3 t3
 have B:Bl mg:=⟨PySem.W.mg_none_of X G.g z0,PySem.W.mg_none_of X G.g z1,PySem.W.mg_none_of X G.g z2,PySem.W.mg_none_of X G.g z3,PySem.W.mg_none_of X G.g z4,PySem.W.mg_none_of X G.g z5,PySem.W.mg_none_of X G.g z6,PySem.W.mg_none_of X G.g z7,PySem.W.mg_none_of X G.g z8,PySem.W.mg_none_of X G.g z9,PySem.W.mg_none_of X G.g z10⟩
 refine ⟨PySem.W.fnOf "law" "law" (defArgs st_law) (defBody st_law) (defScope st_law) .none kV50 dc50 pm50 an50 cd50 ct50,[(tc0,tp0),(tc1,tp1),(tc2,tp2),(tc3,tp3)],fun s v=>.of_eq rfl,fun t ht=>?_,fun base _ _ hB hT=>?_⟩
 ·simp only [List.mem_cons,List.not_mem_nil,or_false] at ht
  rcases ht with rfl | rfl | rfl | rfl
  ·exact ⟨hd0,ho0,n0⟩
  ·exact ⟨hd1,ho1,n1⟩
  ·exact ⟨hd2,ho2,n2⟩
  ·exact ⟨hd3,ho3,n3⟩
 have T0:=hT (tc0,tp0) (by simp)
 have T1:=hT (tc1,tp1) (by simp)
 have T2:=hT (tc2,tp2) (by simp)
 have T3:=hT (tc3,tp3) (by simp)
 have C_is_whole:=Callee.mk' (P:=l.prog) (w:=w) (base:=base) (ok_is_whole (n:=0) F0 B) b0 k0 m0
 have C_is_window:=Callee.mk' (P:=l.prog) (w:=w) (base:=base) (ok_is_window (n:=1) F1 B C_is_whole) b1 k1 m1
 have C_is_board:=Callee.mk' (P:=l.prog) (w:=w) (base:=base) (ok_is_board (n:=2) F2 B C_is_window) b2 k2 m2
 have C_next_open:=Callee.mk' (P:=l.prog) (w:=w) (base:=base) (ok_next (n:=1) F3 B) b3 k3 m3
 have C_set_off:=Callee.mk' (P:=l.prog) (w:=w) (base:=base) (ok_set_off l6 c6 B T0 hB F5 b5 m5 C_next_open) b6 k6 m6
 have C_come:=Callee.mk' (P:=l.prog) (w:=w) (base:=base) (ok_come (n:=3) F7 C_set_off) b7 k7 m7
 have C_stretches:=Callee.mk' (P:=l.prog) (w:=w) (base:=base) (ok_stretches (n:=3) F15 B) b15 k15 m15
 have C_first_told:=Callee.mk' (P:=l.prog) (w:=w) (base:=base) (ok_first_told (n:=3) F16) b16 k16 m16
 have C_overlay:=Callee.mk' (P:=l.prog) (w:=w) (base:=base) (ok_overlay (n:=4) F17 B C_stretches) b17 k17 m17
 have C_put_window:=Callee.mk' (P:=l.prog) (w:=w) (base:=base) (ok_put (n:=3) F18 B) b18 k18 m18
 have C_clock_from:=Callee.mk' (P:=l.prog) (w:=w) (base:=base) (ok_clock_from (n:=4) F19 B C_first_told C_put_window) b19 k19 m19
 have C_picked:=Callee.mk' (P:=l.prog) (w:=w) (base:=base) (ok_picked (n:=4) F20 B) b20 k20 m20
 have C_joined:=Callee.mk' (P:=l.prog) (w:=w) (base:=base) (ok_joined (n:=5) F21 B C_overlay C_picked C_clock_from) b21 k21 m21
 have C_sooner:=Callee.mk' (P:=l.prog) (w:=w) (base:=base) (ok_sooner (n:=6) F22 B C_joined) b22 k22 m22
 have C_clock_within:=Callee.mk' (P:=l.prog) (w:=w) (base:=base) (ok_within F25 B b25 k25 m25 C_sooner 10) b25 k25 m25
 have C_clock_of:=Callee.mk' (P:=l.prog) (w:=w) (base:=base) (ok_clock_of (n:=18) F26 (C_is_board.up (by decide)) C_clock_within) b26 k26 m26
 have C__law_cell:=Callee.mk' (P:=l.prog) (w:=w) (base:=base) (ok_cellA (n:=17) F41 B) b41 k41 m41
 have C__law_day:=Callee.mk' (P:=l.prog) (w:=w) (base:=base) (ok_dayA (n:=17) F42) b42 k42 m42
 have C_last_open:=Callee.mk' (P:=l.prog) (w:=w) (base:=base) (ok_last (n:=1) F4 B) b4 k4 m4
 have C_leave:=Callee.mk' (P:=l.prog) (w:=w) (base:=base) (ok_leave l8 c8 B T1 hB F5 b5 m5 C_last_open) b8 k8 m8
 have C_is_number:=Callee.mk' (P:=l.prog) (w:=w) (base:=base) (ok_is_number (n:=1) F10 C_is_whole) b10 k10 m10
 have C_is_road:=Callee.mk' (P:=l.prog) (w:=w) (base:=base) (ok_is_road (n:=3) F11 B (C_is_number.up (by decide)) C_is_board) b11 k11 m11
 have C_is_net:=Callee.mk' (P:=l.prog) (w:=w) (base:=base) (ok_is_net (n:=4) F12 B (C_is_whole.up (by decide)) C_is_road) b12 k12 m12
 have C_ridden:=Callee.mk' (P:=l.prog) (w:=w) (base:=base) (ok_ridden l23 c23 B T2 hB F5 b5 m5) b23 k23 m23
 have TBx:TB fun H=>TabOk H tp0 ⟨39,32,39,64⟩ (lamQ "set_off")/\TabOk H tp1 ⟨53,32,53,75⟩ (lamQ "leave")/\TabOk H tp2 ⟨169,28,169,54⟩ (lamQ "ridden")/\TabOk H tp3 ⟨225,34,225,75⟩ (lamQ "rounds_to"):=(tb_one _ _ _).and ((tb_one _ _ _).and ((tb_one _ _ _).and (tb_one _ _ _)))
 have CT:=come_T (T:=fun H=>TabOk H tp0 ⟨39,32,39,64⟩ (lamQ "set_off")/\TabOk H tp1 ⟨53,32,53,75⟩ (lamQ "leave")/\TabOk H tp2 ⟨169,28,169,54⟩ (lamQ "ridden")/\TabOk H tp3 ⟨225,34,225,75⟩ (lamQ "rounds_to")) C_come (fun _ t=>t.1) (fun _ _ t s t'=>⟨t',tab_other t.2.1 t.1 s ne01.symm,tab_other t.2.2.1 t.1 s ne02.symm,tab_other t.2.2.2 t.1 s ne03.symm⟩)
 have CL:=leave_T (T:=fun H=>TabOk H tp0 ⟨39,32,39,64⟩ (lamQ "set_off")/\TabOk H tp1 ⟨53,32,53,75⟩ (lamQ "leave")/\TabOk H tp2 ⟨169,28,169,54⟩ (lamQ "ridden")/\TabOk H tp3 ⟨225,34,225,75⟩ (lamQ "rounds_to")) C_leave (fun _ t=>t.2.1) (fun _ _ t s t'=>⟨tab_other t.1 t.2.1 s ne01,t',tab_other t.2.2.1 t.2.1 s ne12.symm,tab_other t.2.2.2 t.2.1 s ne13.symm⟩)
 have CR:=ridden_T (T:=fun H=>TabOk H tp0 ⟨39,32,39,64⟩ (lamQ "set_off")/\TabOk H tp1 ⟨53,32,53,75⟩ (lamQ "leave")/\TabOk H tp2 ⟨169,28,169,54⟩ (lamQ "ridden")/\TabOk H tp3 ⟨225,34,225,75⟩ (lamQ "rounds_to")) C_ridden (fun _ t=>t.2.2.1) (fun _ _ t s t'=>⟨tab_other t.1 t.2.2.1 s ne02,tab_other t.2.1 t.2.2.1 s ne12,t',tab_other t.2.2.2 t.2.2.1 s ne23.symm⟩)
 have C_behind:=Callee.mk' (P:=l.prog) (w:=w) (base:=base) (ok_behind (n:=5) TBx F24 B (C_stretches.up (by decide)) (CT.up (by decide)) (CR.up (by decide)) C_clock_from) b24 k24 m24
 have C_need_net:=Callee.mk' (P:=l.prog) (w:=w) (base:=base) (ok_need_net (n:=5) F13 C_is_net) b13 k13 m13
 have C_need_place:=Callee.mk' (P:=l.prog) (w:=w) (base:=base) (ok_need_place (n:=2) F14 C_is_number) b14 k14 m14
 have C_standing:=Callee.mk' (P:=l.prog) (w:=w) (base:=base) (ok_stand (n:=0) F9) b9 k9 m9
 have C_fords_of:=Callee.mk' (P:=l.prog) (w:=w) (base:=base) (ok_fords_of (n:=19) F27 C_clock_of) b27 k27 m27
 have C_staying:=Callee.mk' (P:=l.prog) (w:=w) (base:=base) (ok_staying (n:=1) F28 B C_standing) b28 k28 m28
 have C_copied_table:=Callee.mk' (P:=l.prog) (w:=w) (base:=base) (ok_copied (n:=0) F29 B) b29 k29 m29
 have C_ride_first:=Callee.mk' (P:=l.prog) (w:=w) (base:=base) (ok_ride_first (n:=7) TBx F31 (C_copied_table.up (by decide)) C_sooner (C_behind.up (by decide))) b31 k31 m31
 have C_rounds_to:=Callee.mk' (P:=l.prog) (w:=w) (base:=base) (ok_rounds_to (n:=18) l32 c32 B T3 hB F30 b30 m30 TBx (fun _ t=>t.2.2.2) (fun _ _ t s t'=>⟨tab_other t.1 t.2.2.2 s ne03,tab_other t.2.1 t.2.2.2 s ne13,tab_other t.2.2.1 t.2.2.2 s ne23,t'⟩) C_fords_of (C_staying.up (by decide)) (C_copied_table.up (by decide)) (C_ride_first.up (by decide))) b32 k32 m32
 have C_rounds:=Callee.mk' (P:=l.prog) (w:=w) (base:=base) (ok_rounds (n:=21) F33 TBx (C_need_net.up (by decide)) (C_need_place.up (by decide)) C_rounds_to) b33 k33 m33
 have C__law_size:=Callee.mk' (P:=l.prog) (w:=w) (base:=base) (ok_size (n:=17) F43) b43 k43 m43
 have C__law_road_window:=Callee.mk' (P:=l.prog) (w:=w) (base:=base) (ok_roadwin (n:=17) F44 B) b44 k44 m44
 have C__law_net:=Callee.mk' (P:=l.prog) (w:=w) (base:=base) (ok_net6 (n:=18) F45 B C__law_road_window) b45 k45 m45
 have X_NoNet:XCl K mg "NoNet" cA bmA:=⟨exc_of xl_A xq_A xb_A,PySem.W.mg_of X G.g xa_A⟩
 have kn1N:PySem.W.kitAny K (.ref cA) [.ref cD,.ref cE,.ref cF,.ref cG]=some false:=kit_none fun c hc=>by
   simp only [List.mem_cons,List.not_mem_nil,or_false] at hc
   rcases hc with rfl | rfl | rfl | rfl
   ·exact kit_no xu_D xt_D xsN_D xnN_D
   ·exact kit_no xu_E xt_E xsN_E xnN_E
   ·exact kit_no xu_F xt_F xsN_F xnN_F
   ·exact kit_no xu_G xt_G xsN_G xnN_G
 have kn2N:PySem.W.kitAny K (.ref cA) [.ref cH,.ref cI,.ref cJ]=some false:=kit_none fun c hc=>by
   simp only [List.mem_cons,List.not_mem_nil,or_false] at hc
   rcases hc with rfl | rfl | rfl
   ·exact kit_no xu_H xt_H xsN_H xnN_H
   ·exact kit_no xu_I xt_I xsN_I xnN_I
   ·exact kit_no xu_J xt_J xsN_J xnN_J
 have kdN:Knd K cA cB cC cD cE cF cG cH cI cJ:=⟨⟨by rw [xu_A]; rfl,xe2N,xe3N,xe4N,xe5,xe6,xe7N,xe8N⟩,kit_yes xu_C xt_C xsN_C xnN_C,kit_ty (by decide +kernel) xsVN,kit_no xu_B xt_B xsN_B xnN_B,kn1N,kn2N⟩
 have X_NoPlace:XCl K mg "NoPlace" cB bmB:=⟨exc_of xl_B xq_B xb_B,PySem.W.mg_of X G.g xa_B⟩
 have kn1P:PySem.W.kitAny K (.ref cB) [.ref cD,.ref cE,.ref cF,.ref cG]=some false:=kit_none fun c hc=>by
   simp only [List.mem_cons,List.not_mem_nil,or_false] at hc
   rcases hc with rfl | rfl | rfl | rfl
   ·exact kit_no xu_D xt_D xsP_D xnP_D
   ·exact kit_no xu_E xt_E xsP_E xnP_E
   ·exact kit_no xu_F xt_F xsP_F xnP_F
   ·exact kit_no xu_G xt_G xsP_G xnP_G
 have kn2P:PySem.W.kitAny K (.ref cB) [.ref cH,.ref cI,.ref cJ]=some false:=kit_none fun c hc=>by
   simp only [List.mem_cons,List.not_mem_nil,or_false] at hc
   rcases hc with rfl | rfl | rfl
   ·exact kit_no xu_H xt_H xsP_H xnP_H
   ·exact kit_no xu_I xt_I xsP_I xnP_I
   ·exact kit_no xu_J xt_J xsP_J xnP_J
 have kdP:Knd K cB cA cC cD cE cF cG cH cI cJ:=⟨⟨by rw [xu_B]; rfl,xe2P,xe3P,xe4P,xe5,xe6,xe7P,xe8P⟩,kit_yes xu_C xt_C xsP_C xnP_C,kit_ty (by decide +kernel) xsVP,kit_no xu_A xt_A xsP_A xnP_A,kn1P,kn2P⟩
 have ms:Mgs mg cC cA cB cD cE cF cG cH cI cJ:=⟨PySem.W.mg_none_of X G.g xz_ValueError,PySem.W.mg_of X G.g xa_C,PySem.W.mg_of X G.g xa_A,PySem.W.mg_of X G.g xa_B,PySem.W.mg_of X G.g xa_D,PySem.W.mg_of X G.g xa_E,PySem.W.mg_of X G.g xa_F,PySem.W.mg_of X G.g xa_G,PySem.W.mg_of X G.g xa_H,PySem.W.mg_of X G.g xa_I,PySem.W.mg_of X G.g xa_J⟩
 have CX_need_net:=CalleeX.mk' (P:=l.prog) (w:=w) (base:=base) ((ok_need_net (n:=5) F13 C_is_net).toX.or (ok_need_netX (n:=5) X_NoNet F13 C_is_net)) b13 k13 m13
 have CX_need_place:=CalleeX.mk' (P:=l.prog) (w:=w) (base:=base) ((ok_need_place (n:=2) F14 C_is_number).toX.or (ok_need_placeX (n:=2) X_NoPlace F14 C_is_number)) b14 k14 m14
 have CX_rounds:=CalleeX.mk' (P:=l.prog) (w:=w) (base:=base) ((ok_rounds (n:=21) F33 TBx (C_need_net.up (by decide)) (C_need_place.up (by decide)) C_rounds_to).toX.or (ok_roundsX (n:=21) F33 (CX_need_net.up (by decide)) (CX_need_place.up (by decide)))) b33 k33 m33
 have C_comes_by:=Callee.mk' (P:=l.prog) (w:=w) (base:=base) (ok_comes_by (n:=4) F34 CT) b34 k34 m34
 have C_least_round:=Callee.mk' (P:=l.prog) (w:=w) (base:=base) (ok_least (n:=5) TBx F35 B C_comes_by) b35 k35 m35
 have C_ask_by:=Callee.mk' (P:=l.prog) (w:=w) (base:=base) (ok_ask_by (n:=5) TBx F36 B (C_next_open.up (by decide)) C_comes_by) b36 k36 m36
 have C_walk:=Callee.mk' (P:=l.prog) (w:=w) (base:=base) (ok_walk (n:=6) TBx F37 B (CT.up (by decide)) C_least_round C_ask_by) b37 k37 m37
 have C_journey:=Callee.mk' (P:=l.prog) (w:=w) (base:=base) (ok_journey (n:=22) F38 C_rounds (C_need_place.up (by decide)) (C_walk.up (by decide))) b38 k38 m38
 have C_last_journey:=Callee.mk' (P:=l.prog) (w:=w) (base:=base) (ok_last_journey (n:=22) TBx F39 C_rounds (C_need_place.up (by decide)) (CL.up (by decide)) (C_walk.up (by decide))) b39 k39 m39
 have C_fewest_rides:=Callee.mk' (P:=l.prog) (w:=w) (base:=base) (ok_fewr (n:=22) TBx F40 C_rounds (C_need_place.up (by decide)) (C_least_round.up (by decide))) b40 k40 m40
 have CX_journey:=CalleeX.mk' (P:=l.prog) (w:=w) (base:=base) (ok_journeyX (n:=22) F38 CX_rounds (CX_need_place.up (by decide)) (C_walk.up (by decide))) b38 k38 m38
 have CX_last_journey:=CalleeX.mk' (P:=l.prog) (w:=w) (base:=base) (ok_last_journeyX (n:=22) F39 CX_rounds (CX_need_place.up (by decide)) (CL.up (by decide)) (C_walk.up (by decide))) b39 k39 m39
 have CX_fewest_rides:=CalleeX.mk' (P:=l.prog) (w:=w) (base:=base) (ok_fewest_ridesX (n:=22) F40 CX_rounds (CX_need_place.up (by decide)) (C_least_round.up (by decide))) b40 k40 m40
 have CX__law_asked:=CalleeX.mk' (P:=l.prog) (w:=w) (base:=base) ((ok_asked (n:=23) F47 C_journey C_last_journey C_fewest_rides).toX.or (ok_askedX (n:=23) F47 CX_journey CX_last_journey CX_fewest_rides)) b47 k47 m47
 have C__law_odd_place:=Callee.mk' (P:=l.prog) (w:=w) (base:=base) (ok_oddP (n:=18) F46) b46 k46 m46
 have C__law_bent:=Callee.mk' (P:=l.prog) (w:=w) (base:=base) (ok_bent (n:=18) F49 B) b49 k49 m49
 have C__law_named:=Callee.mk' (P:=l.prog) (w:=w) (base:=base) (ok_named (n:=24) TBx ms kdN kdP X_NoNet X_NoPlace xb_ne F48 B CX__law_asked) b48 k48 m48
 exact ok_law (n:=25) TBx (fun H h=>⟨tab_nil (h (tc0,tp0) (by simp)),tab_nil (h (tc1,tp1) (by simp)),tab_nil (h (tc2,tp2) (by simp)),tab_nil (h (tc3,tp3) (by simp))⟩) F50 B (C__law_cell.up (by decide)) (C__law_day.up (by decide)) (C__law_size.up (by decide)) (C__law_net.up (by decide)) (C__law_odd_place.up (by decide)) (C__law_bent.up (by decide)) C__law_named
theorem walk {l:PySem.W.OpenLaw} {q:Program} {loose:List Str} {XP:(Str->Option Value)->Heap->Prop} {YP:World->Heap->Prop} {d:DefRec} {K:Params->PySem.W.Frag} (hn:l.most=some 63) (hdf:d.params.defaults=[])
  (hY:∀ (w:World) (h:Heap),YP w h->(K w.params).In h)
  (F:∀ (w:World) (mg mb:Str->Option Value) (mean:ExcName->Option Value) (fa:Addr) (h:Heap),(K w.params).In h->PyProof.Rows.Top q (PySem.W.looseW q loose) mean mg mb h->mg d.name=some (.ref fa) ->
   ∃ (fd:FuncData) (tabs:List (Addr × Addr)),(∀ (s:Shared) (u:Value),BindsTo s fd ⟨[u],[]⟩ [("script",u)])/\(∀ t∈tabs,PySem.W.CodeHd h t.1 t.2/\h.get? t.2=some (PySem.W.tabObj #[])/\(K w.params).lookup t.2=none) /\
    ∀ base:Heap,(K w.params).In base->base.Ns mainGlobals mg->BMain mg base->(∀ t∈tabs,PySem.W.CodeHd base t.1 t.2)->FnOk l.prog w (K w.params) mg base CX0 26 fa fd ["script"] (spLaw (K w.params) tabs)) :
  PySem.W.WalkO q loose XP YP l.row.toRowW d [] (fun f vs=>PySem.call f vs) :=
 L2.walk_ofT (n:=63) (k:=26) (x := "script") (sp:=spLaw) hn (by decide) hdf ⟨rfl,by decide,by decide⟩ hY F (fun K tabs H a ns hl hT hS=>⟨a,ns,rfl,hS,hl,hT,fun _=>rfl⟩)
end My
open PySem PySem.W PyProof.Rows
set_option maxRecDepth 100000 in
set_option maxHeartbeats 0 in
theorem PySem.Challenge.cw_fordbook_k56_refused_journeys_holds : PySem.Challenge.rw_fordbook_k56_refused_journeys.Holds := by
 w_on
 refine PySem.W.holds_law My.k_ws fun said=>?_
 refine PySem.W.holds_open (q:=My.view) (loose:=[]) (Xt:=(fun s=>PySem.W.xlAt My.view [] s && PySem.W.recOk (PySem.W.RowW.records (PySem.W.OpenRow.toRowW PySem.Challenge.rw_fordbook_k56_refused_journeys.row)) s)) (XP:=PySem.W.XL My.view []) (Yf:=PySem.W.Hook.obs (PySem.W.kmHook My.KK My.kAs My.k_as [68,288,54,345])) (Ya:=PySem.W.Hook.val (PySem.W.kmHook My.KK My.kAs My.k_as [68,288,54,345])) (YP:=PySem.W.Hook.says (PySem.W.kmHook My.KK My.kAs My.k_as [68,288,54,345])) (N:=7826) My.k_left (PySem.W.Hook.of (PySem.W.kmHook My.KK My.kAs My.k_as [68,288,54,345])) (PySem.W.Hook.keeps (PySem.W.kmHook My.KK My.kAs My.k_as [68,288,54,345]))
  (fun s e=>PySem.W.xl_of s (Bool.and_eq_true_iff.mp e).1) PySem.W.XL.keeps (by rfl) (by rfl) (by rfl) (fun s e=>PySem.W.recFacts_of (Bool.and_eq_true_iff.mp e).2) (by rfl) (by assumption) (by decide +kernel) ⟨rfl,rfl,rfl,rfl,rfl,by decide +kernel⟩ ?hw ?hc
 case hw=>w_witness2
 k_fill
 refine My.walk (l:=PySem.Challenge.rw_fordbook_k56_refused_journeys) rfl rfl (fun w h Y=>PySem.W.km_in_of Y) ?F
 case F =>
  intro w mg mb mean fa h KX G hmg
  refine' My.all_mk KX G hmg ?a0 ?l0 ?c0 ?k0 ?a1 ?l1 ?c1 ?k1 ?a2 ?l2 ?c2 ?k2 ?a3 ?l3 ?c3 ?k3 ?a4 ?l4 ?c4 ?k4 ?a5 ?l5 ?c5 ?k5 ?a6 ?l6 ?c6 ?k6 ?a7 ?l7 ?c7 ?k7 ?a8 ?l8 ?c8 ?k8 ?a9 ?l9 ?c9 ?k9 ?a10 ?l10 ?c10 ?k10 ?a11 ?l11 ?c11 ?k11 ?a12 ?l12 ?c12 ?k12 ?a13 ?l13 ?c13 ?k13 ?a14 ?l14 ?c14 ?k14 ?a15 ?l15 ?c15 ?k15 ?a16 ?l16 ?c16 ?k16 ?a17 ?l17 ?c17 ?k17 ?a18 ?l18 ?c18 ?k18 ?a19 ?l19 ?c19 ?k19 ?a20 ?l20 ?c20 ?k20 ?a21 ?l21 ?c21 ?k21 ?a22 ?l22 ?c22 ?k22 ?a23 ?l23 ?c23 ?k23 ?a24 ?l24 ?c24 ?k24 ?a25 ?l25 ?c25 ?k25 ?a26 ?l26 ?c26 ?k26 ?a27 ?l27 ?c27 ?k27 ?a28 ?l28 ?c28 ?k28 ?a29 ?l29 ?c29 ?k29 ?a30 ?l30 ?c30 ?k30 ?a31 ?l31 ?c31 ?k31 ?a32 ?l32 ?c32 ?k32 ?a33 ?l33 ?c33 ?k33 ?a34 ?l34 ?c34 ?k34 ?a35 ?l35 ?c35 ?k35 ?a36 ?l36 ?c36 ?k36 ?a37 ?l37 ?c37 ?k37 ?a38 ?l38 ?c38 ?k38 ?a39 ?l39 ?c39 ?k39 ?a40 ?l40 ?c40 ?k40 ?a41 ?l41 ?c41 ?k41 ?a42 ?l42 ?c42 ?k42 ?a43 ?l43 ?c43 ?k43 ?a44 ?l44 ?c44 ?k44 ?a45 ?l45 ?c45 ?k45 ?a46 ?l46 ?c46 ?k46 ?a47 ?l47 ?c47 ?k47 ?a48 ?l48 ?c48 ?k48 ?a49 ?l49 ?c49 ?k49 ?a50 ?l50 ?c50 ?k50 ?z0 ?z1 ?z2 ?z3 ?z4 ?z5 ?z6 ?z7 ?z8 ?z9 ?z10 ?xa_A ?xa_B ?xa_C ?xa_D ?xa_E ?xa_F ?xa_G ?xa_H ?xa_I ?xa_J ?xl_A ?xq_A ?xb_A ?xl_B ?xq_B ?xb_B ?xb_ne ?xz_ValueError ?xu_A ?xt_A ?xu_B ?xt_B ?xu_C ?xt_C ?xu_D ?xt_D ?xu_E ?xt_E ?xu_F ?xt_F ?xu_G ?xt_G ?xu_H ?xt_H ?xu_I ?xt_I ?xu_J ?xt_J ?xe5 ?xe6 ?xe2N ?xe3N ?xe4N ?xe7N ?xe8N ?xsVN ?xsN_B ?xnN_B ?xsN_C ?xnN_C ?xsN_D ?xnN_D ?xsN_E ?xnN_E ?xsN_F ?xnN_F ?xsN_G ?xnN_G ?xsN_H ?xnN_H ?xsN_I ?xnN_I ?xsN_J ?xnN_J ?xe2P ?xe3P ?xe4P ?xe7P ?xe8P ?xsVP ?xsP_A ?xnP_A ?xsP_C ?xnP_C ?xsP_D ?xnP_D ?xsP_E ?xnP_E ?xsP_F ?xnP_F ?xsP_G ?xnP_G ?xsP_H ?xnP_H ?xsP_I ?xnP_I ?xsP_J ?xnP_J ?r0 ?t0 ?n0 ?r1 ?t1 ?n1 ?r2 ?t2 ?n2 ?r3 ?t3 ?n3 ?ne01 ?ne02 ?ne03 ?ne12 ?ne13 ?ne23
  (case a0 | l0 | c0 | k0 | a1 | l1 | c1 | k1 | a2 | l2 | c2 | k2 | a3 | l3 | c3 | k3 | a4 | l4 | c4 | k4 | a5 | l5 | c5 | k5 | a6 | l6 | c6 | k6 | a7 | l7 | c7 | k7 | a8 | l8 | c8 | k8 | a9 | l9 | c9 | k9=>(try unfold My.NI); (try unfold My.LK); (try unfold My.CI); (try unfold My.KI); k_is)
  (case a10 | l10 | c10 | k10 | a11 | l11 | c11 | k11 | a12 | l12 | c12 | k12 | a13 | l13 | c13 | k13 | a14 | l14 | c14 | k14 | a15 | l15 | c15 | k15 | a16 | l16 | c16 | k16 | a17 | l17 | c17 | k17 | a18 | l18 | c18 | k18 | a19 | l19 | c19 | k19=>(try unfold My.NI); (try unfold My.LK); (try unfold My.CI); (try unfold My.KI); k_is)
  (case a20 | l20 | c20 | k20 | a21 | l21 | c21 | k21 | a22 | l22 | c22 | k22 | a23 | l23 | c23 | k23 | a24 | l24 | c24 | k24 | a25 | l25 | c25 | k25 | a26 | l26 | c26 | k26 | a27 | l27 | c27 | k27 | a28 | l28 | c28 | k28 | a29 | l29 | c29 | k29=>(try unfold My.NI); (try unfold My.LK); (try unfold My.CI); (try unfold My.KI); k_is)
  (case a30 | l30 | c30 | k30 | a31 | l31 | c31 | k31 | a32 | l32 | c32 | k32 | a33 | l33 | c33 | k33 | a34 | l34 | c34 | k34 | a35 | l35 | c35 | k35 | a36 | l36 | c36 | k36 | a37 | l37 | c37 | k37 | a38 | l38 | c38 | k38 | a39 | l39 | c39 | k39=>(try unfold My.NI); (try unfold My.LK); (try unfold My.CI); (try unfold My.KI); k_is)
  (case a40 | l40 | c40 | k40 | a41 | l41 | c41 | k41 | a42 | l42 | c42 | k42 | a43 | l43 | c43 | k43 | a44 | l44 | c44 | k44 | a45 | l45 | c45 | k45 | a46 | l46 | c46 | k46 | a47 | l47 | c47 | k47 | a48 | l48 | c48 | k48 | a49 | l49 | c49 | k49=>(try unfold My.NI); (try unfold My.LK); (try unfold My.CI); (try unfold My.KI); k_is)
  (case a50 | l50 | c50 | k50=>(try unfold My.NI); (try unfold My.LK); (try unfold My.CI); (try unfold My.KI); k_is)
  (case z0 | z1 | z2 | z3 | z4 | z5 | z6 | z7 | z8 | z9 | z10 | xa_A | xa_B | xa_C | xa_D | xa_E | xa_F | xa_G | xa_H | xa_I | xa_J | xl_A=>k_is)
  (case xq_A=>k_exc)
  (case xb_A=>first | rfl | decide +kernel)
  (case xl_B=>k_is)
  (case xq_B=>k_exc)
  (case xb_B | xb_ne=>first | rfl | decide +kernel)
  (case xz_ValueError | xu_A | xt_A | xu_B | xt_B | xu_C | xt_C | xu_D | xt_D | xu_E | xt_E | xu_F | xt_F | xu_G | xt_G | xu_H | xt_H | xu_I | xt_I | xu_J | xt_J | xe5 | xe6 | xe2N | xe3N | xe4N | xe7N | xe8N | xsVN | xsN_B=>k_is)
  (case xnN_B=>first | rfl | decide +kernel)
  (case xsN_C=>k_is)
  (case xnN_C=>first | rfl | decide +kernel)
  (case xsN_D=>k_is)
  (case xnN_D=>first | rfl | decide +kernel)
  (case xsN_E=>k_is)
  (case xnN_E=>first | rfl | decide +kernel)
  (case xsN_F=>k_is)
  (case xnN_F=>first | rfl | decide +kernel)
  (case xsN_G=>k_is)
  (case xnN_G=>first | rfl | decide +kernel)
  (case xsN_H=>k_is)
  (case xnN_H=>first | rfl | decide +kernel)
  (case xsN_I=>k_is)
  (case xnN_I=>first | rfl | decide +kernel)
  (case xsN_J=>k_is)
  (case xnN_J=>first | rfl | decide +kernel)
  (case xe2P | xe3P | xe4P | xe7P | xe8P | xsVP | xsP_A=>k_is)
  (case xnP_A=>first | rfl | decide +kernel)
  (case xsP_C=>k_is)
  (case xnP_C=>first | rfl | decide +kernel)
  (case xsP_D=>k_is)
  (case xnP_D=>first | rfl | decide +kernel)
  (case xsP_E=>k_is)
  (case xnP_E=>first | rfl | decide +kernel)
  (case xsP_F=>k_is)
  (case xnP_F=>first | rfl | decide +kernel)
  (case xsP_G=>k_is)
  (case xnP_G=>first | rfl | decide +kernel)
  (case xsP_H=>k_is)
  (case xnP_H=>first | rfl | decide +kernel)
  (case xsP_I=>k_is)
  (case xnP_I=>first | rfl | decide +kernel)
  (case xsP_J=>k_is)
  (case xnP_J | r0=>first | rfl | decide +kernel)
  (case t0=>first | k_is | rfl)
  (case n0 | r1=>first | rfl | decide +kernel)
  (case t1=>first | k_is | rfl)
  (case n1 | r2=>first | rfl | decide +kernel)
  (case t2=>first | k_is | rfl)
  (case n2 | r3=>first | rfl | decide +kernel)
  (case t3=>first | k_is | rfl)
  (case n3 | ne01 | ne02 | ne03 | ne12 | ne13 | ne23=>first | rfl | decide +kernel)
