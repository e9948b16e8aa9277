import PyProof.Rows.All
import Wide.All
import OpenK.AllK
import Wide.FinOn
import PyProof.EqAt
import PyProof.EqKinds
import PyProof.TupleCall
import PySem.Challenge.RW_fordbook_k83_the_desk_tells_the_soonest
set_option Elab.async false
set_option linter.all false
set_option maxRecDepth 100000
open Array renaming getElem?_toList→rO,mem_toList_iff→sN,length_toList→zY,toList→Ay,mk→xA
open Bool renaming false_ne_true→HB,and_eq_true→KH,eq_false_iff→TJ,eq_iff_iff→SV,false_eq_true→h9,true_and→kO,false_and→nU,or_eq_true→x6,and_eq_true_iff→zX,and_false→Bg,not_true→Bd
open PySem.Heap renaming get?_push_of_some→DD,get?_push_size→FF,lt_size→D1,get?_update_other→QV,get?_update_self→kQ,size_push→eG
open Int renaming le_refl→DY,emod_lt_of_pos→UV,mul_le_mul_of_nonneg_left→kD,emod_nonneg→UH,eq_ofNat_of_zero_le→pY,emod_add_mul_ediv→rX,add_mul_emod_self_left→sE,lt_or_le→dJ,mul_one→eJ,toNat_natCast→rV,emod_eq_of_lt→rS,mul_ediv_add_emod→wK,le_of_lt→kE,add_emod_right→t9,mul_add→qY,natCast_add→Bf,ediv_nonneg→Aa,mul_neg→yO,le_total→zL,zero_add→Be,add_comm→Bn,le_of_eq→Ar,mul_sub→Bi,negSucc→Al
open List renaming getElem?_eq_getElem→BK,getElem?_eq_some_iff→CP,length_map→BY,mem_of_getElem?→DL,mem_singleton→D8,mem_cons_of_mem→ER,mem_cons→C6,getElem?_append_right→GM,getElem?_append_left→GF,getElem?_map→EH,mem_cons_self→EZ,getD_eq_getElem?_getD→IP,mem_append_right→GR,length_append→G2,mem_append→EW,size_toArray→GC,mem_map→DT,length_take→GV,not_mem_nil→GY,mem_append_left→K3,getElem?_of_mem→KF,length_eq_zero_iff→M6,replicate→GL,map_append→HA,take_length→JH,all_eq_true→JL,length_singleton→R6,length_cons→KD,nodup_cons→KE,getElem_mem→KR,take_of_length_le→W8,append_nil→M5,take_add_one→RG,flatMap_cons→VY,map_cons→PZ,replicate_succ'→kJ,length_drop→cX,lookup_cons→dW,drop_eq_nil_of_le→oU,getElem?_set→gG,nodup_append→jG,drop_zero→bV,mem_or_eq_of_mem_set→rT,getElem?_take_of_lt→qW,foldl_append→kH,idxOf_lt_length_of_mem→uY,pairwise_cons→nO,mem_iff_getElem?→rY,mem_range→jZ,range→QX,mem_iff_getElem→rE,foldl_cons→kN,pairwise_append→rD,nil_append→kC,any_eq_true→lK,flatMap_nil→lZ,getElem?_replicate→sG,pairwise_singleton→x8,getElem?_drop→rW,of_mem_zip→nE,map_map→iR,length_replicate→wL,append_assoc→qV,mem_of_mem_take→yJ,mem_flatMap→qX,filterMap_cons→xV,lookup→fO,flatMap_append→wI,pairwise_iff_getElem→zR,getLast?_eq_some_iff→Ao,getLast?_eq_none_iff→Ax,getElem?_eq_none_iff→zE,mem_filterMap→sY,getElem_idxOf→uP,eq_of_mem_replicate→zT,pairwise_map→sW,append_cancel_left→Au,idxOf_append→xQ,map_nil→pZ,getElem?_set_self→Ab,getElem_inj→zB,drop_append→uS,mem_filter→uC,getElem?_set_ne→zO,dropLast_concat→zD,mem_map_of_mem→zU,length_pos_iff→zI,map_congr_left→Bj,take_left→y9,foldl_map→wV,append_of_mem→Aq,map_inj_right→Aw,filter_append→Ap,length→rH,all_cons→yH,reverse_cons→Bb,getElem?_inj→Az,zipIdx_cons→Ah,getElem_set→Ak,cons_append→Aj,all_map→yS,map_set→vB,length_set→Ac,range_succ→Bo,zipIdx_nil→zM,forIn_cons→zP,find?_cons→zH,forIn_nil→zJ,foldl_nil→zG,any_cons→Ae,getD→yU
open Nat renaming le_refl→BU,lt_of_lt_of_le→HP,le_trans→FB,ne_of_lt→FZ,eq_zero_or_pos→M3,zero_le→HV,lt_irrefl→OY,lt_or_ge→P3,le_of_lt→RS,toDigits→dC,not_lt→VX,sub_self→gC,min_eq_left→rK,not_lt_zero→rP,ne_of_gt→nK,mul_le_mul→sA,lt_succ_self→vD,succ_ne_self→xK,le_succ→mE,le_of_eq→rM,mul_le_mul_right→Bk,pow_le_pow_right→Bh,add_le_add_left→As,lt_trichotomy→zQ,sub_zero→vC,succ_mul→yD,log2_lt→xP,add_le_add→Ba,mod_lt→uW
open Option renaming isSome_iff_exists→Ai,map_eq_some_iff→Af,getD_none→zN,getD_some→Am,none→zS
open Or renaming inl→AH,inr→IH
open PySem.Str renaming length_append→EY,ofString→IL,length→JD,empty→J5,join→HW,empty_append→kI,append_assoc→rF
theorem U.{u}{α:Sort u}{a:α}:a=a:=rfl
theorem Y9.{u,v,w}{α:Sort u}{β:Sort v}{γ:Sort w}{f:α->β->γ}:∀a b,f a b=f a b:=λ _ _=>rfl
theorem II:0<=PySem.sizeLine:=by decide
theorem kG:1<=PySem.sizeLine:=by decide
theorem iI:2<=PySem.sizeLine:=by decide
theorem QY:3<=PySem.sizeLine:=by decide
theorem VU:4<=PySem.sizeLine:=by decide
theorem Av:5<=PySem.sizeLine:=by decide
theorem Br:6<=PySem.sizeLine:=by decide
theorem Bt:7<=PySem.sizeLine:=by decide
theorem CB{p:Prop}[Decidable p](h:p):decide p=true:=decide_eq_true h
theorem D6{p:Prop}[Decidable p](h:decide p=true):p:=of_decide_eq_true h
local macro_rules|`(tactic|omega)=>`(tactic|first|lia|omega +splitNatSub)
local macro_rules|`(⋯)=>`(by omega)
local macro_rules|`(command|def $d:declId $s:optDeclSig $v:declVal)=>`(command|noncomputable def $d:declId $s:optDeclSig $v:declVal)
local macro_rules|`(command|abbrev $d:declId $s:optDeclSig $v:declVal)=>`(command|noncomputable abbrev $d:declId $s:optDeclSig $v:declVal)
local macro_rules|`(tactic|walk_at "d")=>`(tactic|try dsimp only [cx_k,cx_kn,as_nil,as_name,Nat.reduceAdd])
local macro_rules|`(tactic|obtain ⟨$p,$q,$r,*⟩:=$e)=>`(tactic|first|(refine Classical.byContradiction fun h=>?_;rcases $e:term with ⟨$p,$q,$r,*⟩<;>(refine h ?_;clear h))|rcases $e:term with ⟨$p,$q,$r,*⟩)
set_option hygiene false in
local macro_rules|`(tactic|walk_at "o")=>`(tactic|((focus(intro vs H Q E h;first|(rcases h with⟨rfl,_⟩;rfl)|(rcases h with⟨_,rfl,_⟩;rfl)|(rcases h with⟨_,_,rfl,_⟩;rfl)|(rcases h with⟨_,_,_,rfl,_⟩;rfl)|(rcases h with⟨_,_,_,_,rfl,_⟩;rfl)|(rcases h with⟨_,_,_,_,_,rfl,_⟩;rfl)|(rcases h with⟨_,_,_,_,_,_,rfl,_⟩;rfl)|(rcases h with⟨_,_,_,_,_,_,_,rfl,_⟩;rfl)|(rcases h with⟨_,_,_,_,_,_,_,_,rfl,_⟩;rfl)|(rcases h with⟨_,_,_,_,_,_,_,_,_,rfl,_⟩;rfl)));intro cdv A outer s H vs Q E hr h))
namespace L2
open PySem
def MQ(s:Stmt)(j:Nat):Stmt:=match s with
 | .ClassDef _ _ _ body _ _ _ _ _ _ _=>body.getD j (.Pass ⟨0,0,0,0⟩)
 |_=>.Pass ⟨0,0,0,0⟩
def D7(s:Stmt):Arguments:=match s with
 | .FunctionDef _ a _ _ _ _ _ _ _ _=>a
 |_=>{ posonlyargs:=[],args:=[],vararg:=none,kwonlyargs:=[],kw_defaults:=[],kwarg:=none,defaults:=[] }
def C7(s:Stmt):List Stmt:=match s with
 | .FunctionDef _ _ b _ _ _ _ _ _ _=>b
 |_=>[]
def AG(s:Stmt):Scope:=match s with
 | .FunctionDef _ _ _ _ _ _ sc _ _ _=>sc
 |_=>{ kind:=.function,names:=[],isGenerator:=false,isCoroutine:=false }
end L2
namespace My
open PySem L2
def top(i:Nat):Stmt:=PySem.Challenge.pw_fordbook_k83_the_desk_tells_the_soonest.main.body.getD i (.Pass ⟨0,0,0,0⟩)
abbrev cQ:Stmt:=top 11
abbrev bD:Stmt:=top 12
abbrev XZ:Stmt:=top 13
abbrev WL:Stmt:=top 14
abbrev cN:Stmt:=top 15
abbrev XO:Stmt:=top 17
abbrev Z6:Stmt:=top 18
abbrev Z9:Stmt:=top 19
abbrev YA:Stmt:=top 20
abbrev X8:Stmt:=top 21
abbrev GU:Stmt:=top 23
abbrev HG:Stmt:=top 24
abbrev Y5:Stmt:=top 25
abbrev HQ:Stmt:=top 26
abbrev XC:Stmt:=top 27
abbrev bZ:Stmt:=top 29
abbrev b9:Stmt:=top 30
abbrev XA:Stmt:=top 32
abbrev aN:Stmt:=top 33
abbrev YZ:Stmt:=top 34
abbrev aF:Stmt:=top 36
abbrev WW:Stmt:=top 37
abbrev ZN:Stmt:=top 38
abbrev HM:Stmt:=top 40
abbrev bJ:Stmt:=top 41
abbrev TY:Stmt:=top 42
abbrev YO:Stmt:=top 43
abbrev ZR:Stmt:=top 45
abbrev c9:Stmt:=top 46
abbrev X1:Stmt:=top 47
abbrev KN:Stmt:=top 48
abbrev bC:Stmt:=top 49
abbrev HS:Stmt:=top 51
abbrev ZS:Stmt:=top 52
abbrev W7:Stmt:=top 53
abbrev cA:Stmt:=top 67
abbrev X6:Stmt:=top 68
abbrev cF:Stmt:=top 70
abbrev SO:Stmt:=top 81
abbrev YH:Stmt:=top 82
abbrev bA:Stmt:=top 83
abbrev W2:Stmt:=top 84
abbrev YR:Stmt:=top 85
abbrev X9:Stmt:=top 86
abbrev XD:Stmt:=top 87
abbrev ZX:Stmt:=top 88
abbrev aX:Stmt:=top 89
abbrev oG:Stmt:=top 90
abbrev pJ:Stmt:=top 91
abbrev nX:Stmt:=top 92
abbrev c5:Stmt:=top 93
abbrev XH:Stmt:=top 99
abbrev cP:Stmt:=top 100
abbrev W9:Stmt:=top 101
abbrev WR:Stmt:=top 102
abbrev XM:Stmt:=top 103
abbrev ZT:Stmt:=top 104
abbrev a8:Stmt:=top 108
abbrev Z2:Stmt:=top 109
abbrev TH:Stmt:=top 110
abbrev SD:Stmt:=top 111
abbrev U7:Stmt:=top 113
abbrev U3:Stmt:=top 120
abbrev YG:Stmt:=top 124
abbrev cT:Stmt:=top 125
abbrev bU:Stmt:=top 126
abbrev c6:Stmt:=top 127
abbrev YM:Stmt:=top 128
abbrev bS:Stmt:=top 129
abbrev YN:Stmt:=top 130
abbrev cR:Stmt:=top 131
abbrev X7:Stmt:=top 132
abbrev c7:Stmt:=top 133
abbrev WI:Stmt:=top 134
abbrev aM:Stmt:=top 135
abbrev WU:Stmt:=top 136
abbrev XB:Stmt:=top 137
abbrev W5:Stmt:=top 138
abbrev XN:Stmt:=top 139
abbrev bX:Stmt:=top 140
abbrev K7:Stmt:=top 141
abbrev KW:Stmt:=MQ (top 122) 0
abbrev L5:Stmt:=MQ (top 122) 1
abbrev wY:Stmt:=top 74
abbrev wJ:Stmt:=top 54
abbrev tY:Stmt:=top 119
abbrev yY:Stmt:=top 50
abbrev wU:Stmt:=top 118
abbrev yF:Stmt:=top 56
abbrev uR:Stmt:=top 73
abbrev u9:Stmt:=top 116
abbrev uQ:Stmt:=top 75
abbrev yW:Stmt:=top 115
abbrev xY:Stmt:=top 106
abbrev tK:Stmt:=top 61
abbrev xX:Stmt:=top 60
abbrev xM:Stmt:=top 39
abbrev yK:Stmt:=top 112
abbrev xH:Stmt:=top 72
abbrev uT:Stmt:=top 59
abbrev sT:Stmt:=top 57
abbrev uK:Stmt:=top 64
abbrev yN:Stmt:=top 31
abbrev wC:Stmt:=top 63
abbrev vN:Stmt:=top 65
abbrev wH:Stmt:=top 117
abbrev uO:Stmt:=top 114
abbrev vQ:Stmt:=top 58
def JK(a b:Str)(s:Stmt)(m:Str)(k c:Nat):Obj:=(Obj.mk (.type "function") none (.func (.mk a b (D7 s) (.stmts (C7 s)) (AG s) 3 [] .none .none .none (.str m k) none (.ref c) .none 0)) #[])
def AK(P:Params)(x:Str)(n:Nat)(v:Value):DictEntry:=DictEntry.mk (PyData.keyHash P x) (.str x n) v
def dZ(x:Str)(b a d e f g:Nat):Obj:=(Obj.mk (.type "type") none (@PySem.Data.cls (@PySem.ClassData.mk x [(.ref b)] [(.ref a),(.ref b),(.type "ValueError"),(.type "Exception"),(.type "BaseException"),(.type "object")] d x @Bool.true [] [] @Bool.false none @Bool.false)) #[(@Option.some @PySem.Value (.ref e)),none,(@Option.some @PySem.Value (.str x f)),(@Option.some @PySem.Value (.str x g)),(@Option.some @PySem.Value (.builtin "ValueError.__new__")),(@Option.some @PySem.Value (.bool @Bool.true))])
def rN(x:Str)(a:Tok)(y:Str)(b c:Tok)(d e f g i:Int)(j:Addr)(k:Int)(l:Addr)(m n o:Value)(p:Addr)(q r:Int)(s:Tok):Obj:=⟨.type "code",none,.fields #[.str x a,.str y b,.str "/claim/cut.py" c,.int d 0,.int e 0,.int f 0,.int g 0,.int i 0,.ref j,.bool true,.int k 0,.ref l,m,n,o,.ref p,.int q 0,.int r 0,.str "/claim/cut.py" s],#[]⟩
def BQ(x:Str)(a:Nat)(d e:Int)(A q:Nat):Obj:=rN x a x (a+1) (a+2) d e 0 0 3 (A-5) 181 (A-4) .none (.ref (A-3)) (.ref (A-2)) (A-1) q d (q+1)
def GZ(x:Str)(a:Nat)(d e:Int)(A q:Nat):Obj:=rN x a x (a+1) (a+2) d e 0 0 3 (A-3) 181 (A-2) .none .none .none (A-1) q d (q+1)
def kW(x:Str)(s:Stmt):=JK x x s "fordbook.windows" 335
def lV(x:Str)(s:Stmt):=JK x x s "fordbook.nets" 378
def qS(x:Str)(s:Stmt):=JK x x s "fordbook.clocks" 417
def kF(x:Str)(s:Stmt):=JK x x s "fordbook.stretches" 473
def dI(x:Str)(s:Stmt):=JK x x s "fordbook.reckon" 542
def VV(x:Str)(s:Stmt):=JK x x s "fordbook.tables" 633
def kL(x:Str)(s:Stmt):=JK x x s "fordbook.asks" 734
def vJ(x:Str)(s:Stmt):=JK x x s "fordbook.fewest" 805
def Bc(x:Str)(s:Stmt):=JK x x s "fordbook.walks" 833
def Bq(x:Str)(s:Stmt):=JK x x s "fordbook.journeys" 859
def WB(x:Str)(s:Stmt):=JK x x s "fordbook.meetings" 875
def GD(x:Str)(s:Stmt):=JK x x s "fordbook.texts" 910
def P2(x:Str)(s:Stmt):=JK x x s "fordbook.rows" 1032
def wQ(x:Str)(s:Stmt):=JK x x s "fordbook.waits" 1136
def GH(x:Str)(s:Stmt):=JK x x s "fordbook.desk" 1149
def EU(x:Str)(s:Stmt):=JK x x s "law_fordbook_k83_the_desk_tells_the_soonest" 1320
def o_22:Obj:=(Obj.mk (.type "tuple") none (.seq #[] 0) #[])
def o_28:Obj:=(Obj.mk (.type "tuple") none (.seq #[(.ref 24)] 0) #[])
def KK:Params->W.Frag:=λ P =>
 (nat_lit 2,(Obj.mk .none none (.dict #[] 0) #[]))::
 (nat_lit 3,(Obj.mk (.type "dict") none (.dict #[(AK P "__name__" 165 (.str "law_fordbook_k83_the_desk_tells_the_soonest" 1320)),(AK P "__doc__" 166 .none),(AK P "__package__" 167 .none),(AK P "__loader__" 168 (.builtin "__main__.__loader__#opaque")),(AK P "__spec__" 169 .none),(AK P "__annotations__" 170 (.ref 6)),(AK P "__builtins__" 171 (.ref 4)),(AK P "__file__" 173 (.str "/claim/cut.py" 172)),(AK P "__cached__" 174 .none),(AK P "FordError" 206 (.ref 24)),(AK P "NoBoard" 222 (.ref 37)),(AK P "NoNet" 238 (.ref 49)),(AK P "NoPlace" 254 (.ref 61)),(AK P "NoTurn" 270 (.ref 73)),(AK P "NoText" 286 (.ref 85)),(AK P "NoRow" 302 (.ref 97)),(AK P "NoName" 318 (.ref 109)),(AK P "NoWindow" 334 (.ref 121)),(AK P "is_whole" 343 (.ref 130)),(AK P "is_window" 349 (.ref 135)),(AK P "is_board" 355 (.ref 140)),(AK P "next_open" 366 (.ref 147)),(AK P "last_open" 377 (.ref 154)),(AK P "is_number" 387 (.ref 161)),(AK P "is_road" 393 (.ref 166)),(AK P "is_net" 399 (.ref 171)),(AK P "need_net" 408 (.ref 178)),(AK P "need_place" 416 (.ref 185)),(AK P "first_where" 429 (.ref 192)),(AK P "set_off" 442 (.ref 199)),(AK P "come" 452 (.ref 206)),(AK P "leave" 465 (.ref 213)),(AK P "standing" 472 (.ref 220)),(AK P "stretches" 487 (.ref 227)),(AK P "first_told" 494 (.ref 234)),(AK P "first_wait" 501 (.ref 241)),(AK P "overlay" 517 (.ref 248)),(AK P "put_window" 527 (.ref 255)),(AK P "clock_from" 541 (.ref 262)),(AK P "picked" 549 (.ref 267)),(AK P "joined" 566 (.ref 274)),(AK P "sooner" 575 (.ref 281)),(AK P "later" 584 (.ref 288)),(AK P "ridden" 600 (.ref 295)),(AK P "behind" 615 (.ref 302)),(AK P "clock_within" 624 (.ref 309)),(AK P "clock_of" 632 (.ref 316)),(AK P "fords_of" 640 (.ref 321)),(AK P "staying" 646 (.ref 326)),(AK P "copied_table" 652 (.ref 331)),(AK P "grown" 663 (.ref 338)),(AK P "ride_first" 676 (.ref 345)),(AK P "ride_last" 689 (.ref 352)),(AK P "rounds_to" 701 (.ref 359)),(AK P "rounds" 711 (.ref 366)),(AK P "table" 721 (.ref 373)),(AK P "table_from" 733 (.ref 380)),(AK P "need_turn" 742 (.ref 387)),(AK P "guarded" 758 (.ref 394)),(AK P "ask_first" 773 (.ref 401)),(AK P "guarded_rounds" 786 (.ref 408)),(AK P "level_rounds" 798 (.ref 415)),(AK P "levels" 804 (.ref 420)),(AK P "first_harms" 812 (.ref 425)),(AK P "groups" 826 (.ref 432)),(AK P "fewest" 832 (.ref 437)),(AK P "comes_by" 845 (.ref 444)),(AK P "least_round" 858 (.ref 451)),(AK P "fewest_rides" 874 (.ref 458)),(AK P "is_member" 884 (.ref 465)),(AK P "need_party" 890 (.ref 470)),(AK P "tables_by_start" 903 (.ref 477)),(AK P "meet_at" 909 (.ref 482)),(AK P "FIGURES" 913 (.str "0123456789" 912)),(AK P "LETTERS" 915 (.str "abcdefghijklmnopqrstuvwxyz" 914)),(AK P "MOST_FIGURES_texts" 917 (.int 16 916)),(AK P "MOST" 919 (.int 1000000000000000 918)),(AK P "read_number" 925 (.ref 487)),(AK P "is_name" 931 (.ref 492)),(AK P "read_ends" 939 (.ref 499)),(AK P "read_span" 949 (.ref 506)),(AK P "read_window" 961 (.ref 513)),(AK P "read_day" 970 (.ref 520)),(AK P "read_board" 976 (.ref 525)),(AK P "number_of" 984 (.ref 532)),(AK P "read_net" 1000 (.ref 539)),(AK P "show_window" 1009 (.ref 546)),(AK P "show_board" 1015 (.ref 551)),(AK P "show_road" 1025 (.ref 558)),(AK P "show_net" 1031 (.ref 563)),(AK P "MOST_FIGURES_rows" 1035 (.int 30 1034)),(AK P "MOST_TURNS" 1037 (.int 3 1036)),(AK P "MOST_PARTY" 1039 (.int 6 1038)),(AK P "SHAPES" 1079 (.ref 564)),(AK P "shape_of" 1086 (.ref 580)),(AK P "read_moment" 1094 (.ref 587)),(AK P "read_turns" 1102 (.ref 594)),(AK P "read_names" 1110 (.ref 601)),(AK P "read_value" 1119 (.ref 608)),(AK P "read_row" 1135 (.ref 615)),(AK P "longest" 1148 (.ref 622)),(AK P "shown" 1157 (.ref 629)),(AK P "clock_between" 1165 (.ref 636)),(AK P "soonest_row" 1174 (.ref 643)),(AK P "latest_row" 1183 (.ref 650)),(AK P "kept_row" 1193 (.ref 657)),(AK P "rides_row" 1204 (.ref 664)),(AK P "board_row" 1213 (.ref 671)),(AK P "longest_row" 1223 (.ref 678)),(AK P "meet_row" 1229 (.ref 683)),(AK P "boards_between" 1235 (.ref 688)),(AK P "open_row" 1245 (.ref 695)),(AK P "shut_row" 1251 (.ref 700)),(AK P "net_row" 1260 (.ref 707)),(AK P "ANSWERS" 1281 (.ref 708)),(AK P "Desk" 1319 (.ref 730)),(AK P "_law_cell_at" 1329 (.ref 741)),(AK P "_law_day" 1336 (.ref 748)),(AK P "_law_stay" 1344 (.ref 755)),(AK P "_law_ride" 1352 (.ref 762)),(AK P "_law_roads" 1358 (.ref 767)),(AK P "_law_word" 1371 (.ref 774)),(AK P "_law_words" 1381 (.ref 781)),(AK P "_law_shown" 1388 (.ref 788)),(AK P "_law_text" 1403 (.ref 795)),(AK P "_law_order" 1415 (.ref 802)),(AK P "_law_moment" 1423 (.ref 809)),(AK P "_law_coming" 1436 (.ref 816)),(AK P "_law_leaving" 1450 (.ref 823)),(AK P "_law_rounds" 1456 (.ref 828)),(AK P "_law_latest" 1462 (.ref 833)),(AK P "_law_rides" 1471 (.ref 840)),(AK P "_law_told" 1478 (.ref 847)),(AK P "law" 1498 (.ref 854))] 134) #[]))::
 (nat_lit 15,(Obj.mk (.type "tuple") none (.seq #[(.type "ValueError")] 0) #[]))::
 (nat_lit 22,o_22)::
 (nat_lit 23,(Obj.mk (.type "dict") none (.dict #[(AK P "__module__" 196 (.str "fordbook.errors" 187)),(AK P "__firstlineno__" 200 (.int 2 199)),(AK P "__static_attributes__" 201 (.ref 22)),(AK P "__weakref__" 203 (.ref 25)),(AK P "__doc__" 204 .none)] 3) #[]))::
 (nat_lit 24,(Obj.mk (.type "type") none (@PySem.Data.cls (@PySem.ClassData.mk (.ofString "FordError") [(.type "ValueError")] [(.ref 24),(.type "ValueError"),(.type "Exception"),(.type "BaseException"),(.type "object")] 23 (.ofString "FordError") @Bool.true [] [(.ref 37),(.ref 49),(.ref 61),(.ref 73),(.ref 85),(.ref 97),(.ref 109),(.ref 121)] @Bool.false none @Bool.false)) #[(@Option.some @PySem.Value (.ref 15)),none,(@Option.some @PySem.Value (.str "FordError" 189)),(@Option.some @PySem.Value (.str "FordError" 197)),(@Option.some @PySem.Value (.builtin "ValueError.__new__")),(@Option.some @PySem.Value (.bool @Bool.true))]))::
 (nat_lit 25,(Obj.mk (.type "getset_descriptor") none (.fields #[(.str "__weakref__" 202),(.ref 24),(.builtin "ExceptionGroup.__weakref__"),.none]) #[]))::
 (nat_lit 28,o_28)::
 (nat_lit 35,o_22)::
 (nat_lit 36,(Obj.mk (.type "dict") none (.dict #[(AK P "__module__" 214 (.str "fordbook.errors" 187)),(AK P "__firstlineno__" 218 (.int 4 217)),(AK P "__static_attributes__" 219 (.ref 35)),(AK P "__doc__" 220 .none)] 2) #[]))::
 (nat_lit 37,dZ "NoBoard" 24 37 36 28 207 215)::
 (nat_lit 40,o_28)::
 (nat_lit 47,o_22)::
 (nat_lit 48,(Obj.mk (.type "dict") none (.dict #[(AK P "__module__" 230 (.str "fordbook.errors" 187)),(AK P "__firstlineno__" 234 (.int 6 233)),(AK P "__static_attributes__" 235 (.ref 47)),(AK P "__doc__" 236 .none)] 2) #[]))::
 (nat_lit 49,dZ "NoNet" 24 49 48 40 223 231)::
 (nat_lit 52,o_28)::
 (nat_lit 59,o_22)::
 (nat_lit 60,(Obj.mk (.type "dict") none (.dict #[(AK P "__module__" 246 (.str "fordbook.errors" 187)),(AK P "__firstlineno__" 250 (.int 8 249)),(AK P "__static_attributes__" 251 (.ref 59)),(AK P "__doc__" 252 .none)] 2) #[]))::
 (nat_lit 61,dZ "NoPlace" 24 61 60 52 239 247)::
 (nat_lit 64,o_28)::
 (nat_lit 71,o_22)::
 (nat_lit 72,(Obj.mk (.type "dict") none (.dict #[(AK P "__module__" 262 (.str "fordbook.errors" 187)),(AK P "__firstlineno__" 266 (.int 10 265)),(AK P "__static_attributes__" 267 (.ref 71)),(AK P "__doc__" 268 .none)] 2) #[]))::
 (nat_lit 73,dZ "NoTurn" 24 73 72 64 255 263)::
 (nat_lit 76,o_28)::
 (nat_lit 83,o_22)::
 (nat_lit 84,(Obj.mk (.type "dict") none (.dict #[(AK P "__module__" 278 (.str "fordbook.errors" 187)),(AK P "__firstlineno__" 282 (.int 12 281)),(AK P "__static_attributes__" 283 (.ref 83)),(AK P "__doc__" 284 .none)] 2) #[]))::
 (nat_lit 85,dZ "NoText" 24 85 84 76 271 279)::
 (nat_lit 88,o_28)::
 (nat_lit 95,o_22)::
 (nat_lit 96,(Obj.mk (.type "dict") none (.dict #[(AK P "__module__" 294 (.str "fordbook.errors" 187)),(AK P "__firstlineno__" 298 (.int 14 297)),(AK P "__static_attributes__" 299 (.ref 95)),(AK P "__doc__" 300 .none)] 2) #[]))::
 (nat_lit 97,dZ "NoRow" 24 97 96 88 287 295)::
 (nat_lit 100,o_28)::
 (nat_lit 107,o_22)::
 (nat_lit 108,(Obj.mk (.type "dict") none (.dict #[(AK P "__module__" 310 (.str "fordbook.errors" 187)),(AK P "__firstlineno__" 314 (.int 16 313)),(AK P "__static_attributes__" 315 (.ref 107)),(AK P "__doc__" 316 .none)] 2) #[]))::
 (nat_lit 109,dZ "NoName" 24 109 108 100 303 311)::
 (nat_lit 112,o_28)::
 (nat_lit 119,o_22)::
 (nat_lit 120,(Obj.mk (.type "dict") none (.dict #[(AK P "__module__" 326 (.str "fordbook.errors" 187)),(AK P "__firstlineno__" 330 (.int 18 329)),(AK P "__static_attributes__" 331 (.ref 119)),(AK P "__doc__" 332 .none)] 2) #[]))::
 (nat_lit 121,dZ "NoWindow" 24 121 120 112 319 327)::
 (nat_lit 129,BQ "is_whole" 337 21 1 129 341)::
 (nat_lit 130,kW "is_whole" cQ 129)::
 (nat_lit 134,GZ "is_window" 344 23 2 134 347)::
 (nat_lit 135,kW "is_window" bD 134)::
 (nat_lit 139,GZ "is_board" 350 29 2 139 353)::
 (nat_lit 140,kW "is_board" XZ 139)::
 (nat_lit 146,BQ "next_open" 356 31 3 146 364)::
 (nat_lit 147,kW "next_open" WL 146)::
 (nat_lit 153,BQ "last_open" 367 37 3 153 375)::
 (nat_lit 154,kW "last_open" cN 153)::
 (nat_lit 160,BQ "is_number" 380 44 2 160 385)::
 (nat_lit 161,lV "is_number" XO 160)::
 (nat_lit 165,GZ "is_road" 388 46 3 165 391)::
 (nat_lit 166,lV "is_road" Z6 165)::
 (nat_lit 170,GZ "is_net" 394 52 3 170 397)::
 (nat_lit 171,lV "is_net" Z9 170)::
 (nat_lit 177,BQ "need_net" 400 56 3 177 406)::
 (nat_lit 178,lV "need_net" YA 177)::
 (nat_lit 184,BQ "need_place" 409 59 2 184 414)::
 (nat_lit 185,lV "need_place" X8 184)::
 (nat_lit 191,BQ "first_where" 419 63 2 191 427)::
 (nat_lit 192,qS "first_where" GU 191)::
 (nat_lit 198,BQ "set_off" 430 73 3 198 440)::
 (nat_lit 199,qS "set_off" HG 198)::
 (nat_lit 205,BQ "come" 443 81 3 205 450)::
 (nat_lit 206,qS "come" Y5 205)::
 (nat_lit 212,BQ "leave" 453 86 3 212 463)::
 (nat_lit 213,qS "leave" HQ 212)::
 (nat_lit 219,BQ "standing" 466 94 1 219 470)::
 (nat_lit 220,qS "standing" XC 219)::
 (nat_lit 226,BQ "stretches" 475 97 2 226 485)::
 (nat_lit 227,kF "stretches" bZ 226)::
 (nat_lit 233,BQ "first_told" 488 108 1 233 492)::
 (nat_lit 234,kF "first_told" b9 233)::
 (nat_lit 240,BQ "first_wait" 495 110 1 240 499)::
 (nat_lit 241,kF "first_wait" yN 240)::
 (nat_lit 247,BQ "overlay" 502 112 3 247 515)::
 (nat_lit 248,kF "overlay" XA 247)::
 (nat_lit 254,BQ "put_window" 518 128 4 254 525)::
 (nat_lit 255,kF "put_window" aN 254)::
 (nat_lit 261,BQ "clock_from" 528 135 2 261 539)::
 (nat_lit 262,kF "clock_from" YZ 261)::
 (nat_lit 266,GZ "picked" 544 147 5 266 547)::
 (nat_lit 267,dI "picked" aF 266)::
 (nat_lit 273,BQ "joined" 550 152 4 273 564)::
 (nat_lit 274,dI "joined" WW 273)::
 (nat_lit 280,BQ "sooner" 567 162 3 280 573)::
 (nat_lit 281,dI "sooner" ZN 280)::
 (nat_lit 287,BQ "later" 576 166 3 287 582)::
 (nat_lit 288,dI "later" xM 287)::
 (nat_lit 294,BQ "ridden" 585 170 5 294 598)::
 (nat_lit 295,dI "ridden" HM 294)::
 (nat_lit 301,BQ "behind" 601 187 3 301 613)::
 (nat_lit 302,dI "behind" bJ 301)::
 (nat_lit 308,BQ "clock_within" 616 198 2 308 622)::
 (nat_lit 309,dI "clock_within" TY 308)::
 (nat_lit 315,BQ "clock_of" 625 203 2 315 630)::
 (nat_lit 316,dI "clock_of" YO 315)::
 (nat_lit 320,GZ "fords_of" 635 208 2 320 638)::
 (nat_lit 321,VV "fords_of" ZR 320)::
 (nat_lit 325,GZ "staying" 641 210 3 325 644)::
 (nat_lit 326,VV "staying" c9 325)::
 (nat_lit 330,GZ "copied_table" 647 212 1 330 650)::
 (nat_lit 331,VV "copied_table" X1 330)::
 (nat_lit 337,BQ "grown" 653 214 4 337 661)::
 (nat_lit 338,VV "grown" KN 337)::
 (nat_lit 344,BQ "ride_first" 664 222 3 344 674)::
 (nat_lit 345,VV "ride_first" bC 344)::
 (nat_lit 351,BQ "ride_last" 677 227 3 351 687)::
 (nat_lit 352,VV "ride_last" yY 351)::
 (nat_lit 358,BQ "rounds_to" 690 232 4 358 699)::
 (nat_lit 359,VV "rounds_to" HS 358)::
 (nat_lit 365,BQ "rounds" 702 235 4 365 709)::
 (nat_lit 366,VV "rounds" ZS 365)::
 (nat_lit 372,BQ "table" 712 239 4 372 719)::
 (nat_lit 373,VV "table" W7 372)::
 (nat_lit 379,BQ "table_from" 722 241 4 379 731)::
 (nat_lit 380,VV "table_from" wJ 379)::
 (nat_lit 386,BQ "need_turn" 736 247 1 386 740)::
 (nat_lit 387,kL "need_turn" yF 386)::
 (nat_lit 393,BQ "guarded" 743 250 3 393 756)::
 (nat_lit 394,kL "guarded" sT 393)::
 (nat_lit 400,BQ "ask_first" 759 256 3 400 771)::
 (nat_lit 401,kL "ask_first" vQ 400)::
 (nat_lit 407,BQ "guarded_rounds" 774 262 5 407 784)::
 (nat_lit 408,kL "guarded_rounds" uT 407)::
 (nat_lit 414,BQ "level_rounds" 787 265 5 414 796)::
 (nat_lit 415,kL "level_rounds" xX 414)::
 (nat_lit 419,GZ "levels" 799 273 5 419 802)::
 (nat_lit 420,kL "levels" tK 419)::
 (nat_lit 424,GZ "first_harms" 807 276 2 424 810)::
 (nat_lit 425,vJ "first_harms" wC 424)::
 (nat_lit 431,BQ "groups" 813 285 2 431 824)::
 (nat_lit 432,vJ "groups" uK 431)::
 (nat_lit 436,GZ "fewest" 827 299 2 436 830)::
 (nat_lit 437,vJ "fewest" vN 436)::
 (nat_lit 443,BQ "comes_by" 835 302 4 443 843)::
 (nat_lit 444,Bc "comes_by" cA 443)::
 (nat_lit 450,BQ "least_round" 846 305 5 450 856)::
 (nat_lit 451,Bc "least_round" X6 450)::
 (nat_lit 457,BQ "fewest_rides" 861 311 7 457 872)::
 (nat_lit 458,Bq "fewest_rides" cF 457)::
 (nat_lit 464,BQ "is_member" 877 316 2 464 882)::
 (nat_lit 465,WB "is_member" xH 464)::
 (nat_lit 469,GZ "need_party" 885 320 2 469 888)::
 (nat_lit 470,WB "need_party" uR 469)::
 (nat_lit 476,BQ "tables_by_start" 891 325 4 476 901)::
 (nat_lit 477,WB "tables_by_start" wY 476)::
 (nat_lit 481,GZ "meet_at" 904 333 5 481 907)::
 (nat_lit 482,WB "meet_at" uQ 481)::
 (nat_lit 486,GZ "read_number" 920 348 2 486 923)::
 (nat_lit 487,GD "read_number" SO 486)::
 (nat_lit 491,GZ "is_name" 926 354 1 491 929)::
 (nat_lit 492,GD "is_name" YH 491)::
 (nat_lit 498,BQ "read_ends" 932 356 1 498 937)::
 (nat_lit 499,GD "read_ends" bA 498)::
 (nat_lit 505,BQ "read_span" 940 361 1 505 947)::
 (nat_lit 506,GD "read_span" W2 505)::
 (nat_lit 512,BQ "read_window" 950 370 2 512 959)::
 (nat_lit 513,GD "read_window" YR 512)::
 (nat_lit 519,BQ "read_day" 962 378 1 519 968)::
 (nat_lit 520,GD "read_day" X9 519)::
 (nat_lit 524,GZ "read_board" 971 384 2 524 974)::
 (nat_lit 525,GD "read_board" XD 524)::
 (nat_lit 531,BQ "number_of" 977 387 2 531 982)::
 (nat_lit 532,GD "number_of" ZX 531)::
 (nat_lit 538,BQ "read_net" 985 391 1 538 998)::
 (nat_lit 539,GD "read_net" aX 538)::
 (nat_lit 545,BQ "show_window" 1001 409 3 545 1007)::
 (nat_lit 546,GD "show_window" oG 545)::
 (nat_lit 550,GZ "show_board" 1010 411 1 550 1013)::
 (nat_lit 551,GD "show_board" pJ 550)::
 (nat_lit 557,BQ "show_road" 1016 413 3 557 1023)::
 (nat_lit 558,GD "show_road" nX 557)::
 (nat_lit 562,GZ "show_net" 1026 416 3 562 1029)::
 (nat_lit 563,GD "show_net" c5 562)::
 (nat_lit 564,(Obj.mk (.type "dict") none (.dict #[(AK P "soonest" 1040 (.ref 565)),(AK P "latest" 1044 (.ref 566)),(AK P "kept" 1048 (.ref 567)),(AK P "rides" 1053 (.ref 568)),(AK P "board" 1057 (.ref 569)),(AK P "longest" 1060 (.ref 570)),(AK P "open" 1063 (.ref 571)),(AK P "shut" 1066 (.ref 572)),(AK P "net" 1069 (.ref 573))] 9) #[]))::
 (nat_lit 565,(Obj.mk (.type "tuple") none (.seq #[(.str "name" 1041),(.str "name" 1042),(.str "moment" 1043)] 0) #[]))::
 (nat_lit 566,(Obj.mk (.type "tuple") none (.seq #[(.str "name" 1045),(.str "name" 1046),(.str "moment" 1047)] 0) #[]))::
 (nat_lit 567,(Obj.mk (.type "tuple") none (.seq #[(.str "name" 1049),(.str "name" 1050),(.str "moment" 1051),(.str "turns" 1052)] 0) #[]))::
 (nat_lit 568,(Obj.mk (.type "tuple") none (.seq #[(.str "name" 1054),(.str "name" 1055),(.str "moment" 1056)] 0) #[]))::
 (nat_lit 569,(Obj.mk (.type "tuple") none (.seq #[(.str "name" 1058),(.str "name" 1059)] 0) #[]))::
 (nat_lit 570,(Obj.mk (.type "tuple") none (.seq #[(.str "name" 1061),(.str "name" 1062)] 0) #[]))::
 (nat_lit 571,(Obj.mk (.type "tuple") none (.seq #[(.str "road" 1064),(.str "window" 1065)] 0) #[]))::
 (nat_lit 572,(Obj.mk (.type "tuple") none (.seq #[(.str "road" 1067),(.str "window" 1068)] 0) #[]))::
 (nat_lit 573,o_22)::
 (nat_lit 579,BQ "shape_of" 1080 423 1 579 1084)::
 (nat_lit 580,P2 "shape_of" XH 579)::
 (nat_lit 586,BQ "read_moment" 1087 427 1 586 1092)::
 (nat_lit 587,P2 "read_moment" cP 586)::
 (nat_lit 593,BQ "read_turns" 1095 432 1 593 1100)::
 (nat_lit 594,P2 "read_turns" W9 593)::
 (nat_lit 600,BQ "read_names" 1103 435 2 600 1108)::
 (nat_lit 601,P2 "read_names" WR 600)::
 (nat_lit 607,BQ "read_value" 1111 439 3 607 1117)::
 (nat_lit 608,P2 "read_value" XM 607)::
 (nat_lit 614,BQ "read_row" 1120 445 2 614 1133)::
 (nat_lit 615,P2 "read_row" ZT 614)::
 (nat_lit 621,BQ "longest" 1138 465 2 621 1146)::
 (nat_lit 622,wQ "longest" xY 621)::
 (nat_lit 628,BQ "shown" 1151 473 1 628 1155)::
 (nat_lit 629,GH "shown" a8 628)::
 (nat_lit 635,BQ "clock_between" 1158 475 2 635 1163)::
 (nat_lit 636,GH "clock_between" Z2 635)::
 (nat_lit 642,BQ "soonest_row" 1166 477 3 642 1172)::
 (nat_lit 643,GH "soonest_row" TH 642)::
 (nat_lit 649,BQ "latest_row" 1175 479 3 649 1181)::
 (nat_lit 650,GH "latest_row" SD 649)::
 (nat_lit 656,BQ "kept_row" 1184 481 3 656 1191)::
 (nat_lit 657,GH "kept_row" yK 656)::
 (nat_lit 663,BQ "rides_row" 1194 484 3 663 1202)::
 (nat_lit 664,GH "rides_row" U7 663)::
 (nat_lit 670,BQ "board_row" 1205 490 3 670 1211)::
 (nat_lit 671,GH "board_row" uO 670)::
 (nat_lit 677,BQ "longest_row" 1214 492 3 677 1221)::
 (nat_lit 678,GH "longest_row" yW 677)::
 (nat_lit 682,GZ "meet_row" 1224 495 3 682 1227)::
 (nat_lit 683,GH "meet_row" u9 682)::
 (nat_lit 687,GZ "boards_between" 1230 499 2 687 1233)::
 (nat_lit 688,GH "boards_between" wH 687)::
 (nat_lit 694,BQ "open_row" 1236 501 3 694 1243)::
 (nat_lit 695,GH "open_row" wU 694)::
 (nat_lit 699,GZ "shut_row" 1246 508 3 699 1249)::
 (nat_lit 700,GH "shut_row" tY 699)::
 (nat_lit 706,BQ "net_row" 1252 514 3 706 1258)::
 (nat_lit 707,GH "net_row" U3 706)::
 (nat_lit 708,(Obj.mk (.type "dict") none (.dict #[(AK P "soonest" 1261 (.ref 643)),(AK P "latest" 1262 (.ref 650)),(AK P "kept" 1263 (.ref 657)),(AK P "rides" 1264 (.ref 664)),(AK P "board" 1265 (.ref 671)),(AK P "longest" 1266 (.ref 678)),(AK P "meet" 1267 (.ref 683)),(AK P "open" 1268 (.ref 695)),(AK P "shut" 1269 (.ref 700)),(AK P "net" 1270 (.ref 707))] 10) #[]))::
 (nat_lit 721,rN "__init__" 1294 "Desk.__init__" 1295 1296 519 2 0 0 3 716 181 717 .none (.ref 718) (.ref 719) 720 1300 519 1301)::
 (nat_lit 722,JK "__init__" "Desk.__init__" KW "fordbook.desk" 1149 721)::
 (nat_lit 726,rN "say" 1303 "Desk.say" 1304 1305 525 2 0 0 3 723 181 724 .none .none .none 725 1306 525 1307)::
 (nat_lit 727,JK "say" "Desk.say" L5 "fordbook.desk" 1149 726)::
 (nat_lit 728,(Obj.mk (.type "tuple") none (.seq #[(.str "day" 1309),(.str "names" 1310),(.str "roads" 1311)] 0) #[]))::
 (nat_lit 729,(Obj.mk (.type "dict") none (.dict #[(AK P "__module__" 1289 (.str "fordbook.desk" 1149)),(AK P "__firstlineno__" 1293 (.int 517 1292)),(AK P "__init__" 1302 (.ref 722)),(AK P "say" 1308 (.ref 727)),(AK P "__static_attributes__" 1312 (.ref 728)),(AK P "__dict__" 1314 (.ref 731)),(AK P "__weakref__" 1316 (.ref 732)),(AK P "__doc__" 1317 .none)] 4) #[]))::
 (nat_lit 730,(Obj.mk (.type "type") none (@PySem.Data.cls (@PySem.ClassData.mk (.ofString "Desk") [(.type "object")] [(.ref 730),(.type "object")] 729 (.ofString "Desk") @Bool.true [] [] @Bool.false none @Bool.false)) #[none,none,(@Option.some @PySem.Value (.str "Desk" 1282)),(@Option.some @PySem.Value (.str "Desk" 1290)),(@Option.some @PySem.Value (.builtin "object.__new__")),(@Option.some @PySem.Value (.bool @Bool.true))]))::
 (nat_lit 731,(Obj.mk (.type "getset_descriptor") none (.fields #[(.str "__dict__" 1313),(.ref 730),(.builtin "function.__dict__"),(.builtin "function.__dict__#set")]) #[]))::
 (nat_lit 732,(Obj.mk (.type "getset_descriptor") none (.fields #[(.str "__weakref__" 1315),(.ref 730),(.builtin "ExceptionGroup.__weakref__"),.none]) #[]))::
 (nat_lit 740,BQ "_law_cell_at" 1322 534 2 740 1327)::
 (nat_lit 741,EU "_law_cell_at" YG 740)::
 (nat_lit 747,BQ "_law_day" 1330 538 1 747 1334)::
 (nat_lit 748,EU "_law_day" cT 747)::
 (nat_lit 754,BQ "_law_stay" 1337 542 2 754 1342)::
 (nat_lit 755,EU "_law_stay" bU 754)::
 (nat_lit 761,BQ "_law_ride" 1345 548 2 761 1350)::
 (nat_lit 762,EU "_law_ride" c6 761)::
 (nat_lit 766,GZ "_law_roads" 1353 550 5 766 1356)::
 (nat_lit 767,EU "_law_roads" YM 766)::
 (nat_lit 773,BQ "_law_word" 1359 569 2 773 1369)::
 (nat_lit 774,EU "_law_word" bS 773)::
 (nat_lit 780,BQ "_law_words" 1372 583 2 780 1379)::
 (nat_lit 781,EU "_law_words" YN 780)::
 (nat_lit 787,BQ "_law_shown" 1382 588 1 787 1386)::
 (nat_lit 788,EU "_law_shown" cR 787)::
 (nat_lit 794,BQ "_law_text" 1389 592 3 794 1401)::
 (nat_lit 795,EU "_law_text" X7 794)::
 (nat_lit 801,BQ "_law_order" 1404 600 1 801 1413)::
 (nat_lit 802,EU "_law_order" c7 801)::
 (nat_lit 808,BQ "_law_moment" 1416 607 2 808 1421)::
 (nat_lit 809,EU "_law_moment" WI 808)::
 (nat_lit 815,BQ "_law_coming" 1424 611 3 815 1434)::
 (nat_lit 816,EU "_law_coming" aM 815)::
 (nat_lit 822,BQ "_law_leaving" 1437 619 3 822 1448)::
 (nat_lit 823,EU "_law_leaving" WU 822)::
 (nat_lit 827,GZ "_law_rounds" 1451 628 5 827 1454)::
 (nat_lit 828,EU "_law_rounds" XB 827)::
 (nat_lit 832,GZ "_law_latest" 1457 642 6 832 1460)::
 (nat_lit 833,EU "_law_latest" W5 832)::
 (nat_lit 839,BQ "_law_rides" 1463 652 2 839 1469)::
 (nat_lit 840,EU "_law_rides" XN 839)::
 (nat_lit 846,BQ "_law_told" 1472 657 1 846 1476)::
 (nat_lit 847,EU "_law_told" bX 846)::
 (nat_lit 853,BQ "law" 1479 661 1 853 1496)::
 (nat_lit 854,EU "law" K7 853)::
 []
def kAs:List Addr:=[2,3,15,22,23,24,25,28,35,36,37,40,47,48,49,52,59,60,61,64,71,72,73,76,83,84,85,88,95,96,97,100,107,108,109,112,119,120,121,129,130,134,135,139,140,146,147,153,154,160,161,165,166,170,171,177,178,184,185,191,192,198,199,205,206,212,213,219,220,226,227,233,234,240,241,247,248,254,255,261,262,266,267,273,274,280,281,287,288,294,295,301,302,308,309,315,316,320,321,325,326,330,331,337,338,344,345,351,352,358,359,365,366,372,373,379,380,386,387,393,394,400,401,407,408,414,415,419,420,424,425,431,432,436,437,443,444,450,451,457,458,464,465,469,470,476,477,481,482,486,487,491,492,498,499,505,506,512,513,519,520,524,525,531,532,538,539,545,546,550,551,557,558,562,563,564,565,566,567,568,569,570,571,572,573,579,580,586,587,593,594,600,601,607,608,614,615,621,622,628,629,635,636,642,643,649,650,656,657,663,664,670,671,677,678,682,683,687,688,694,695,699,700,706,707,708,721,722,726,727,728,729,730,731,732,740,741,747,748,754,755,761,762,766,767,773,774,780,781,787,788,794,795,801,802,808,809,815,816,822,823,827,828,832,833,839,840,846,847,853,854]
def view:Program:={ PySem.Challenge.pw_fordbook_k83_the_desk_tells_the_soonest with main:={ PySem.Challenge.pw_fordbook_k83_the_desk_tells_the_soonest.main with body:=[top 1,top 2,top 3,top 4,top 5,top 6,top 7,top 8,top 9,top 11,top 12,top 13,top 14,top 15,top 17,top 18,top 19,top 20,top 21,top 23,top 24,top 25,top 26,top 27,top 29,top 30,top 31,top 32,top 33,top 34,top 36,top 37,top 38,top 39,top 40,top 41,top 42,top 43,top 45,top 46,top 47,top 48,top 49,top 50,top 51,top 52,top 53,top 54,top 56,top 57,top 58,top 59,top 60,top 61,top 63,top 64,top 65,top 67,top 68,top 70,top 72,top 73,top 74,top 75,top 77,top 78,top 79,top 80,top 81,top 82,top 83,top 84,top 85,top 86,top 87,top 88,top 89,top 90,top 91,top 92,top 93,top 95,top 96,top 97,top 98,top 99,top 100,top 101,top 102,top 103,top 104,top 106,top 108,top 109,top 110,top 111,top 112,top 113,top 114,top 115,top 116,top 117,top 118,top 119,top 120,top 121,top 122,top 124,top 125,top 126,top 127,top 128,top 129,top 130,top 131,top 132,top 133,top 134,top 135,top 136,top 137,top 138,top 139,top 140,top 141] } }
theorem k_ws1:PySem.Challenge.rw_fordbook_k83_the_desk_tells_the_soonest.row.wellSaid=true:=by kernel_rfl
theorem k_ws:PySem.Challenge.rw_fordbook_k83_the_desk_tells_the_soonest.wellSaid=true:=by
 unfold W.OpenLaw.wellSaid
 repeat' with_reducible refine W.look_both ?_ ?_
 exact k_ws1
 all_goals kernel_rfl
theorem k_as(P:Params):kAs=(KK P).map (·.1):=by kernel_rfl
namespace Tt
open PySem PySem.W PySem.Calls PyProof.Rows
def RE(tb:String->Option Builtin)(p:Program)(w:World)(n₀:Nat)(ann:Option Value):Nat->SharedT->Thread->Option SharedT
 |0,_,_=>none
 |n+1,s,t=>match through t with
  |true=>some s
  |false=>match stepOk n₀ ann t with
   |false=>none
   |true=>match stepT (denote tb) p w s t with
    |some (s',t')=>RE tb p w n₀ ann n s' t'
    |none=>none
theorem lW{tb:String->Option Builtin}{p:Program}{w:World}{n₀:Nat}{ann:Option Value}:∀{n:Nat}{s s':SharedT}{t:Thread},RE tb p w n₀ ann n s t=some s'->topRun tb p w n₀ ann n s.abs t=some s'.abs
 |0,_,_,_,h=>by cases h
 |n+1,s,s',t,h=>by
  unfold RE at h;unfold topRun;cases he:through t with
  |true=>rw[he] at h;cases h;rfl
  |false =>
   rw[he] at h;cases hk:stepOk n₀ ann t with
   |false=>rw[hk] at h;cases h
   |true =>
    rw[hk] at h;cases hs:stepT (denote tb) p w s t with
    |none=>rw[hs] at h;cases h
    |some r=>obtain⟨s₂,t₂⟩:=r;rw[hs] at h;rw[stepT_spec hs];exact lW h
def grow:List Obj->Nat->BT->BT
 | [],_,t=>t
 |o::l,n,t=>grow l (n+1) (t.ins n o)
def Ag(P:Params)(os:OsState):SharedT:=⟨grow (boot_heap P).objs.toList 0 .nil,11,{},xA [],boot_drawn,boot_toks,os⟩
theorem i5(P:Params)(os:OsState):(Ag P os).abs=⟨boot_heap P,xA [],boot_drawn,boot_toks,os⟩:=by kernel_rfl
def chk(p:Program)(h₀:Heap)(s:Shared):Bool:=staticsOk (importedModules p.main.body) h₀ s.heap&&namesBound p s.heap&&gensDone s&&laidKept h₀ s.heap
theorem tD(P:Params):((boot_heap P).isNs mainGlobals,(boot_heap P).objs.size,(boot_heap P).nsMap mainGlobals "__annotations__")=(true,11,some (.ref 6)):=by kernel_rfl
def XU(p:Program)(w:World)(n₀:Nat)(ann:Option Value):Nat->SharedT->Thread->Option SharedT
 |0,_,_=>none
 |n+1,s,t=>match through t with
  |true=>some s
  |false=>match Fast.tw6613529449190102663 n₀ ann t with
   |false=>none
   |true=>match Fast.tw10156331382660048174 (Fast.tw11892475500146522536 Fast.tw14364793385576792824) p w s t with
    |some (s',t')=>XU p w n₀ ann n s' t'
    |none=>none
theorem MS{p:Program}{w:World}{n₀:Nat}{ann:Option Value}:∀(n:Nat)(s:SharedT)(t:Thread),RE treeTable p w n₀ ann n s t=XU p w n₀ ann n s t
 |0,_,_=>rfl
 |n+1,s,t=>by
  unfold RE XU;rw[<- Fast.te6613529449190102663,<- Fast.te10156331382660048174,<- Fast.te11892475500146522536,<- Fast.te14364793385576792824];simp only[MS n]
def endsT(p:Program)(N:Nat)(w:World)(os:OsState):Option SharedT:=XU p w 11 (some (.ref 6)) N (Ag w.params os) (topStub p)
def mrg(g:Nat->Obj):Nat->Nat->W.Frag->List Nat->List Obj
 |0,_,_,_=>[]
 |n+1,a,l,m=>match (match l with|(b,_)::_=>Nat.beq a b | []=>false) with
  |true=>(match l with|(_,o)::_=>o | []=>default)::mrg g n (a+1) l.tail m
  |false=>match (match m with|b::_=>Nat.beq a b | []=>false) with
   |true=>tabObj #[]::mrg g n (a+1) l m.tail
   |false=>g a::mrg g n (a+1) l m
def ifO{α β:Type}(o:Option α)(f:α->β)(b:β):β:=match o with
 |some a=>f a
 |none=>b
theorem left_of{p:Program}{N:Nat}{β:Type}{S:World->OsState->Shared}{obs:Shared->β}{good:World->β}(hb:opening p=plainProg p.main.scope.names)(hN:Nat.ble 600 N=true)(hf:∀s,fenceModules? p s=some s)
  (hA:∀w os,(endsT p N w os).map SharedT.abs=some (S w os)) (h1:∀w os,chk p (boot_heap w.params) (S w os)=true)
  (h2:∀w os,obs (S w os)=good w):∀w,(openEnds treeTable p w N).map obs=some (good w):=by
 intro w;obtain⟨⟨hp,gs,dr,tk,os⟩,e,e2⟩:=Af.mp (boot_open (N:=N) hb hN hf w);simp only[Prod.mk.injEq] at e2;obtain⟨rfl,rfl,rfl,rfl⟩:=e2;obtain⟨f1,f2,f3⟩:_/\_/\_:=by simpa only[Prod.mk.injEq] using tD w.params
 obtain⟨s,hs,eS⟩:=Af.mp (hA w os);have h1':=h1 w os;rw[<- eS] at h1';have r:=lW ((MS _ _ _).trans hs);rw[i5] at r;unfold openEnds;rw[e];show(topFrom treeTable p w N _).map obs=_;have t:topFrom treeTable p w N ⟨boot_heap w.params,xA [],boot_drawn,boot_toks,os⟩=some s.abs:=by
  unfold topFrom;dsimp only;rw[f1,f2,f3,r];show(match chk p (boot_heap w.params) s.abs with|true=>_|false=>_)=_;rw[h1']
 rw[t,eS];exact congrArg some (h2 w os)
end Tt
section
open PySem PySem.W PySem.Spec PyProof.Rows
def pG:Program:=PySem.Challenge.rw_fordbook_k83_the_desk_tells_the_soonest.row.prog
def eT(w:World)(os:OsState):=Tt.endsT pG 12140 w os
def lO:List Str:=["SHAPES","ANSWERS"]
def xT:Shared->Bool:=(λ s=>W.xlAt My.view [] s&&W.recOk (W.RowW.records (W.OpenRow.toRowW PySem.Challenge.rw_fordbook_k83_the_desk_tells_the_soonest.row)) s)
abbrev hK:=W.kmHook My.KK My.kAs My.k_as [375,403,208,290,354,194]
theorem k_b:opening pG=plainProg pG.main.scope.names:=by kernel_rfl
theorem k_f(s:Shared):fenceModules? pG s=some s:=by kernel_rfl
def gO(w:World)(os:OsState)(a:Nat):Obj:=match Nat.blt a 7 with
 |true=>(boot_heap w.params).objs.toList.getD a default
 |false=>Tt.ifO (eT w os) (λ s=>(s.tree.get a).getD default) default
def sS(w:World)(os:OsState):Shared:=⟨⟨(Tt.mrg (gO w os) 855 0 (KK w.params) [19,32,44,56,68,80,92,104,116,125,132,137,142,149,156,163,168,173,180,187,194,201,208,215,222,229,236,243,250,257,264,269,276,283,290,297,304,311,318,323,328,333,340,347,354,361,368,375,382,389,396,403,410,417,422,427,434,439,446,453,460,467,472,479,484,489,494,501,508,515,522,527,534,541,548,553,560,575,582,589,596,603,610,617,624,631,638,645,652,659,666,673,680,685,690,697,702,717,724,736,743,750,757,764,769,776,783,790,797,804,811,818,825,830,835,842,849]).toArray,Tt.ifO (eT w os) (·.life) {}⟩,#[],Tt.ifO (eT w os) (·.drawn) boot_drawn,Tt.ifO (eT w os) (·.toks) 0,Tt.ifO (eT w os) (·.os) os⟩
def wF(v:World):World:=v.withFollow "special-get-raises" false
def wT(v:World):World:=v.withFollow "special-get-raises" true
theorem k_AF(v:World)(os:OsState):(eT (wF v) os).map SharedT.abs=some (sS (wF v) os):=by kernel_rfl
theorem k_AT(v:World)(os:OsState):(eT (wT v) os).map SharedT.abs=some (sS (wT v) os):=by kernel_rfl
theorem k_A(w:World):∀os:OsState,(eT w os).map SharedT.abs=some (sS w os):=byRow2 "special-get-raises" (P:=λ w:World=>∀os:OsState,(eT w os).map SharedT.abs=some (sS w os)) k_AF k_AT w
theorem k_c(w:World)(os:OsState):Tt.chk pG (boot_heap w.params) (sS w os)=true:=by kernel_rfl
theorem k_s0(w:World)(os:OsState):seen ((recsOf view).map (·.name)) (ownsOf view) [] { sS w os with gens:=#[] }=expectedOf view:=by kernel_rfl
theorem k_s1(w:World)(os:OsState):tabsOk view (sS w os)=true:=by kernel_rfl
theorem k_s2(w:World)(os:OsState):pinSeenD view (drecsOf view) (sS w os)=pinGoodD (drecsOf view):=by kernel_rfl
theorem k_s3(w:World)(os:OsState):plainSeenE view (looseW view lO) (sS w os)=plainGoodE view (looseW view lO):=by kernel_rfl
theorem k_s4(w:World)(os:OsState):wideSeen view (sS w os)=wideGood view:=by kernel_rfl
theorem dH{α β:Type}{a b:α}{c d:β}(h1:a=b)(h2:c=d):(a,c)=(b,d):=by rw[h1,h2]
theorem k_l1(w:World)(os:OsState):openSeen view lO (importedModules pG.main.body) xT true (sS w os)=openGood view lO:=by
 unfold openSeen openGood;refine dH (k_s0 w os) (dH ?_ (dH ?_ (dH (k_s1 w os) (dH (k_s2 w os) (dH (k_s3 w os) (dH ?_ (dH (k_s4 w os) ?_)))))))
 all_goals kernel_rfl
theorem k_l2(w:World)(os:OsState):W.Hook.obs hK (sS w os)=W.Hook.val hK w:=by kernel_rfl
theorem k_left:W.LeftO PySem.Challenge.rw_fordbook_k83_the_desk_tells_the_soonest.row.prog My.view lO xT (W.Hook.obs hK) (W.Hook.val hK) 12140:=Tt.left_of k_b rfl k_f k_A k_c λ w os=>Prod.ext (k_l1 w os) (k_l2 w os)
end
end My
namespace L2
open PySem PySem.Spec PyProof.Rows
variable {C a b dx:Addr}{A:Around}{op:CmpOp}{c e tg:Expr}{fd:FuncData}{base h h':Heap}{pins:List (Addr×Obj)}{kw:List (Str×Value)}{fp:List Addr}{es:List Expr}{body:List Stmt}{ps:List Str}{us:List Value}{M:Model}{i k n t':Nat}{o:Obj}{p pos pos':Pos}{P:Program}{pl:Sem Bool}{s:Shared}{m x:Str}{mA mg:Str->Option Value}{E Q:Value->Shared->Prop}{K:W.Frag}{w:World}
abbrev GG:=Sum Int Str
def IK:GG->Value->Bool
 | .inl k,v=>Value.isInt k v
 | .inr x,v=>Value.isStrOf x v
def xG(w:World):GG->Int
 | .inl k=>hashInt k
 | .inr x=>hashStr w x
theorem J9:∀{k:GG}{v:Value},IK k v=true->(∃i t,k=Sum.inl i/\v=Value.int i t)\/(∃x t,k=Sum.inr x/\v=Value.str x t)
 | .inl i,v,h=>by
  obtain⟨t,e⟩:=Value.isInt_shape (k:=i) (v:=v) h;exact .inl ⟨i,t,rfl,e⟩
 | .inr x,v,h=>by
  obtain⟨t,e⟩:=Value.isStrOf_shape (x:=x) (v:=v) h;exact .inr ⟨x,t,rfl,e⟩
theorem OO(i:Int)(t:Tok):IK (.inl i) (.int i t)=true:=by simp[IK,Value.isInt]
theorem OK(x:Str)(t:Tok):IK (.inr x) (.str x t)=true:=by simp[IK,Value.isStrOf]
theorem eY(a b:Int):decide ((Sum.inl a:GG)=Sum.inl b)=(a==b):=by
 by_cases e:a=b
 ·subst e;simp
 ·have h:¬(Sum.inl a:GG)=Sum.inl b:=λ q=>e (Sum.inl.inj q)
  rw[decide_eq_false h];exact(beq_eq_false_iff_ne.mpr e).symm
theorem eZ(a b:Str):decide ((Sum.inr a:GG)=Sum.inr b)=decide (a=b):=by
 by_cases e:a=b
 ·subst e;simp
 ·have h:¬(Sum.inr a:GG)=Sum.inr b:=λ q=>e (Sum.inr.inj q)
  rw[decide_eq_false h,decide_eq_false e]
theorem fH(a:Int)(b:Str):decide ((Sum.inl a:GG)=Sum.inr b)=false:=decide_eq_false (λ q=>nomatch q)
theorem jP(a:Str)(b:Int):decide ((Sum.inr a:GG)=Sum.inl b)=false:=decide_eq_false (λ q=>nomatch q)
def KL(prog:Program)(w:World):PySem.KeyKind prog w GG where
 is:=IK
 hash:=xG w
 inj:=λ v a b ha hb=>by
  rcases J9 ha with⟨i,t,rfl,rfl⟩|⟨x,t,rfl,rfl⟩
  ·rcases J9 hb with⟨j,u,rfl,e⟩|⟨y,u,rfl,e⟩
   ·injection e with e1 _;rw[e1]
   ·exact nomatch e
  ·rcases J9 hb with⟨j,u,rfl,e⟩|⟨y,u,rfl,e⟩
   ·exact nomatch e
   ·injection e with e1 _;rw[e1]
 byValue:=λ k v h=>by
  rcases J9 h with⟨i,t,rfl,rfl⟩|⟨x,t,rfl,rfl⟩<;>rfl
 pyHash:=λ hv h=>by
  rcases J9 hv with⟨i,t,rfl,rfl⟩|⟨x,t,rfl,rfl⟩
  ·exact wpAny_pyHash_int h
  ·exact wpAny_pyHash_str h
 eqBool:=λ hu hv h=>by
  rcases J9 hu with⟨i,t,rfl,rfl⟩|⟨x,t,rfl,rfl⟩
  ·rcases J9 hv with⟨j,u,rfl,rfl⟩|⟨y,u,rfl,rfl⟩
   ·rw[eY] at h;exact wpAny_eqBool_int h
   ·rw[fH] at h;exact SeqAt.EqAt.int_str i t y u _ _ _ _ h
  ·rcases J9 hv with⟨j,u,rfl,rfl⟩|⟨y,u,rfl,rfl⟩
   ·rw[jP] at h;exact SeqAt.EqAt.str_int x t j u _ _ _ _ h
   ·rw[eZ] at h;exact wpAny_eqBool_str h
 «strs»:=λ k x t v h=>by
  rcases J9 h with⟨i,u,rfl,e⟩|⟨y,u,rfl,e⟩
  ·exact nomatch e
  ·injection e with e1 _
   subst e1;cases v<;>rfl
theorem uZ(prog:Program)(w:World)(i:Int)(t:Tok):(KL prog w).is (.inl i) (.int i t)=true:=OO i t
theorem iV(prog:Program)(w:World)(x:Str)(t:Tok):(KL prog w).is (.inr x) (.str x t)=true:=OK x t
inductive V where
 |non|bl (b:Bool)|int (i:Int)|str (x:Str)|byt (b:Array UInt8)|flt (b:UInt64)|ref (a:Addr)|ty (n:String)
 deriving DecidableEq
variable {vs:List V}{v:V}
def RelV:V->Value->Prop
 | .non,u=>u=Value.none
 | .bl b,u=>u=Value.bool b
 | .int i,u=>∃t,u=Value.int i t
 | .str x,u=>∃t,u=Value.str x t
 | .byt b,u=>∃t,u=Value.bytes b t
 | .flt b,u=>∃t,u=Value.float b t
 | .ref a,u=>u=Value.ref a
 | .ty n,u=>u=Value.type n
abbrev Vals:List V->List Value->Prop:=Paired RelV
theorem Vals.length{xs:List V}{us:List Value}(r:Vals xs us):xs.length=us.length:=Paired.length r
theorem Vals.get:∀{xs:List V}{us:List Value}{i:Nat}{x:V},Vals xs us->xs[i]?=some x->∃u,us[i]?=some u/\RelV x u
 |_,_,_,_,.nil,e=>by simp at e
 |_,_,0,_,.cons r _,e=>by simp at e;subst e;exact⟨_,rfl,r⟩
 |_,_,i+1,x,.cons _ t,e=>by
  obtain⟨u,h1,h2⟩:=Vals.get (i:=i) (x:=x) t (by simpa using e);exact⟨u,by simpa using h1,h2⟩
theorem Vals.set{x:V}{u:Value}(r:RelV x u):∀{xs:List V}{us:List Value}(i:Nat),Vals xs us->Vals (xs.set i x) (us.set i u)
 |_,_,_,.nil=>.nil
 |_,_,0,.cons _ t=>.cons r t
 |_,_,i+1,.cons q t=>.cons q (Vals.set r i t)
theorem Vals.append:∀{xs ys:List V}{us ws:List Value},Vals xs us->Vals ys ws->Vals (xs++ys) (us++ws)
 |_,_,_,_,.nil,s=>s
 |_,_,_,_,.cons r t,s=>.cons r (Vals.append t s)
theorem Vals.take:∀{xs:List V}{us:List Value}(n:Nat),Vals xs us->Vals (xs.take n) (us.take n)
 |_,_,0,_=>.nil
 |_,_,_+1,.nil=>.nil
 |_,_,n+1,.cons r t=>.cons r (Vals.take n t)
theorem Vals.drop:∀{xs:List V}{us:List Value}(n:Nat),Vals xs us->Vals (xs.drop n) (us.drop n)
 |_,_,0,r=>r
 |_,_,_+1,.nil=>.nil
 |_,_,n+1,.cons _ t=>Vals.drop n t
def RelO:Option V->Option Value->Prop
 |some v,some u=>RelV v u
 |none,none=>True
 |_,_=>False
def KV{κ:Type}:List (κ×V)->List (κ×Value)->Prop:=Paired λ(p:κ×V) (q:κ×Value)=>p.1=q.1/\RelV p.2 q.2
def kV:GG->V
 | .inl i=>.int i
 | .inr x=>.str x
inductive HO where
  |lst (xs:List V)
  |tup (xs:List V)
  |dK (kvs:List (GG×V))|dT (kvs:List (List GG×V))
  |set (S:Int->Bool) (n:Nat)
  |ins (C dx:Addr) (fs:List (Str×V))
  |own (x:Addr)
  |xd (fs:List (Str×V))
  |met (f x:Addr)
  |rng (lo hi:Int)
  |frz (o:Obj) (u:HO)
  |tbl (ps:Array Value)
  |ext (φ:Heap->Prop)
abbrev Hp:=Addr->Option HO
variable {H H':Hp}
def AD(H:Hp)(a:Addr)(o:HO):Hp:=λ b=>if b=a then some o else H b
theorem AI{o:HO}:AD H a o a=some o:=by unfold AD;rw[if_pos rfl]
theorem AJ{o:HO}(h:b≠a):AD H a o b=H b:=by unfold AD;rw[if_neg h]
theorem DW{o:HO}(h:H a=some o)(h':H b=none):a≠b:=by
 intro e;subst e;rw[h] at h';cases h'
section
variable (P:Program)(w:World)
def ObjOk(H:Hp)(h:Heap)(a:Addr):HO->Prop
 | .lst xs=>xs.length<=sizeLine/\∃(its:List Value)(n:Nat),Vals xs its/\h.get? a=some { cls:=.type "list",data:=.seq its.toArray n }
 | .tup xs=>xs.length<=sizeLine/\∃its:List Value,Vals xs its/\IsTup h a its.toArray
 | .dK kvs=>kvs.length<=sizeLine/\(a==sysModules)=false/\∃vs,KV kvs vs/\h.DictOf (KL P w) a vs
 | .dT kvs=>kvs.length<=sizeLine/\(a==sysModules)=false/\∃xs:List (List GG×Addr×Value),
   Paired (λ(p:List GG×V) (q:List GG×Addr×Value)=>p.1=q.1/\H q.2.1=some (.tup (p.1.map kV))/\RelV p.2 q.2.2) kvs xs /\
   ∃o es ep,h.get? a=some o/\o.ExactDict/\o.data=.dict es ep/\es.toList=xs.map (entryOfKey (tupleKind (KL P w)))/\(xs.map (·.1)).Nodup
 | .set S n=>h.SetOf (intKind P w) a S n
 | .ins C dx fs=>H dx=some (.own a)/\fs.length<=1000/\dx≠a/\h.get? a=some (W.instObj C dx) /\
   ∃mA,h.Ns1 dx mA/\(∀f,RelO (fs.lookup f) (mA f))/\PySem.Within mA (fs.map (·.1))
 | .own _=>∃o,h.get? a=some o
 | .xd fs=>∃mA,h.Ns1 a mA/\∀f,RelO (fs.lookup f) (mA f)
 | .rng lo hi=>∃t u v,h.get? a=some { cls:=.type "range",data:=.fields #[.int lo t,.int hi u,.int 1 v] }
 | .frz o u=>h.get? a=some o/\ObjOk H h a u
 | .tbl ps=>h.get? a=some { cls:=.none,data:=.fields ps }
 | .met f x=>h.get? a=some (W.methodObj (.ref f) (.ref x))
 | .ext φ=>φ h/\(∃o,h.get? a=some o)/\∀h1 h2:Heap,φ h1->(∀o,h1.get? a=some o->h2.get? a=some o)->φ h2
def HOk(H:Hp)(h:Heap):Prop:=∀a o,H a=some o->ObjOk P w H h a o
end
section
variable {o:HO}
theorem ObjOk.lt(x:ObjOk P w H h a o):a<h.objs.size:=by
 cases o with
 |lst xs=>obtain⟨_,_,_,_,e⟩:=x;exact D1 e
 |tup xs=>obtain⟨_,_,_,p⟩:=x;exact p.lt
 |dK kvs=>obtain⟨_,_,_,_,o,_,_,e,_⟩:=x;exact D1 e
 |dT kvs=>obtain⟨_,_,_,_,o,_,_,e,_⟩:=x;exact D1 e
 |set S n=>obtain⟨o,_,_,_,e,_⟩:=x;exact D1 e
 |ins C dx fs=>obtain⟨_,_,_,e,_⟩:=x;exact D1 e
 |own y=>obtain⟨_,e⟩:=x;exact D1 e
 |xd fs=>obtain⟨_,⟨_,_,_,e,_⟩,_⟩:=x;exact D1 e
 |rng lo hi=>obtain⟨_,_,_,e⟩:=x;exact D1 e
 |frz ob u=>obtain⟨e,_⟩:=x;exact D1 e
 |tbl ps=>exact D1 (show h.get? a=some _ from x)
 |met f y=>exact D1 (show h.get? a=some _ from x)
 |ext φ=>obtain⟨_,⟨_,e⟩,_⟩:=x;exact D1 e
theorem Paired.mapP{α β:Type}{F G:α->β->Prop}:∀{l₁:List α}{l₂:List β},Paired F l₁ l₂->(∀a b,F a b->G a b)->Paired G l₁ l₂
 |_,_,.nil,_=>.nil
 |_,_,.cons r t,f=>.cons (f _ _ r) (Paired.mapP t f)
theorem ObjOk.stay(x:ObjOk P w H h a o)(k:∀b u,(b=a\/H b=some (.own a))->h.get? b=some u->h'.get? b=some u)
  (ho:∀b,H b=some (.own a)->H' b=some (.own a)) (ht:∀b xs,H b=some (.tup xs)->H' b=some (.tup xs)):ObjOk P w H' h' a o:=by
 induction o with
 |lst xs=>obtain⟨z,its,n,r,e⟩:=x;exact⟨z,its,n,r,k _ _ (.inl rfl) e⟩
 |tup xs=>obtain⟨z,its,r,ob,e,c⟩:=x;exact⟨z,its,r,ob,k _ _ (.inl rfl) e,c⟩
 |dK kvs=>obtain⟨z,y,vs,r,ob,es,ep,e,c⟩:=x;exact⟨z,y,vs,r,ob,es,ep,k _ _ (.inl rfl) e,c⟩
 |dT kvs =>
  obtain⟨z,y,xs,r,ob,es,ep,e,c⟩:=x;exact⟨z,y,xs,Paired.mapP r λ p q z=>⟨z.1,ht _ _ z.2.1,z.2.2⟩,ob,es,ep,k _ _ (.inl rfl) e,c⟩
 |set S n=>obtain⟨ob,es,ep,t,e,c⟩:=x;exact⟨ob,es,ep,t,k _ _ (.inl rfl) e,c⟩
 |ins C dx fs =>
  obtain⟨d,z,ne,e,mA,⟨od,es,ep,e2,c⟩,r⟩:=x;exact⟨ho _ d,z,ne,k _ _ (.inl rfl) e,mA,⟨od,es,ep,k _ _ (.inr d) e2,c⟩,r⟩
 |own y=>obtain⟨ob,e⟩:=x;exact⟨ob,k _ _ (.inl rfl) e⟩
 |xd fs=>obtain⟨mA,⟨od,es,ep,e,c⟩,r⟩:=x;exact⟨mA,⟨od,es,ep,k _ _ (.inl rfl) e,c⟩,r⟩
 |rng lo hi=>obtain⟨t,u,v,e⟩:=x;exact⟨t,u,v,k _ _ (.inl rfl) e⟩
 |frz ob u ih=>obtain⟨e,q⟩:=x;exact⟨k _ _ (.inl rfl) e,ih q⟩
 |tbl ps =>
  have e:h.get? a=some { cls:=.none,data:=.fields ps }:=x;show h'.get? a=some { cls:=.none,data:=.fields ps };exact k a _ (.inl rfl) e
 |met f y =>
  have e:h.get? a=some (W.methodObj (.ref f) (.ref y)):=x;show h'.get? a=some (W.methodObj (.ref f) (.ref y));exact k a _ (.inl rfl) e
 |ext φ=>obtain⟨p,⟨o,e⟩,st⟩:=x;exact⟨st _ _ p λ o q=>k _ _ (.inl rfl) q,⟨o,k _ _ (.inl rfl) e⟩,st⟩
theorem HOk.lt(x:HOk P w H h)(e:H a=some o):a<h.objs.size:=(x a o e).lt
theorem HOk.fresh(x:HOk P w H h)(e:h.objs.size<=a):H a=none:=by
 cases q:H a with
 |none=>rfl
 |some u=>exact absurd (HP (x.lt q) e) (OY _)
theorem HOk.kept(x:HOk P w H h)(k:∀b u,h.get? b=some u->h'.get? b=some u):HOk P w H h':=λ a o e =>
 (x a o e).stay (λ b u _ q=>k b u q) (λ _ q=>q) λ _ _ q=>q
theorem HOk.laid(x:HOk P w H h)(k:∀b u,h.get? b=some u->h'.get? b=some u)(hp:h.objs.size<=a)(new:ObjOk P w (AD H a o) h' a o):HOk P w (AD H a o) h':=λ b u e=>by
 have hn:=x.fresh hp
 by_cases hb:b=a
 ·subst hb;rw[AI] at e;cases e;exact new
 ·rw[AJ hb] at e;exact(x b u e).stay (λ c v _ q=>k c v q) (λ c q=>by rw[AJ (DW q hn)];exact q) λ c xs q=>by rw[AJ (DW q hn)];exact q
end
def Rd(H:Hp)(a:Addr)(u:HO):Prop:=H a=some u\/∃o,H a=some (.frz o u)
theorem Rd.ok{u:HO}(r:Rd H a u)(x:HOk P w H h):ObjOk P w H h a u:=by
 rcases r with r|⟨o,r⟩
 ·exact x a u r
 ·obtain⟨_,q⟩:=x a _ r;exact q
def qZ:Option HO->Prop
 |some (.lst _)=>True
 |some (.dK _)=>True
 |some (.dT _)=>True
 |some (.set _ _)=>True
 |some (.ins _ _ _)=>True
 |some (.ext _)=>True
 |_=>False
section
variable {x e:Addr}{o':HO}
theorem HOk.write(ok:HOk P w H h)(mu:qZ (H x))(he:e=x\/H e=some (.own x))(k:∀b u,b≠e->h.get? b=some u->h'.get? b=some u)(heo:∃u,h'.get? e=some u)
  (new:ObjOk P w (AD H x o') h' x o'):HOk P w (AD H x o') h':=λ b u q=>by
 have nown:∀c y,H c=some (.own y)->c≠x:=λ c y r z=>by subst z;rw[r] at mu;exact mu
 have ntup:∀c xs,H c=some (.tup xs)->c≠x:=λ c xs r z=>by subst z;rw[r] at mu;exact mu
 by_cases hb:b=x
 ·subst hb;rw[AI] at q;cases q;exact new
 ·rw[AJ hb] at q
  by_cases hbe:b=e
  ·have q':H b=some (.own x):=by
    rcases he with z|z
    ·exact absurd (hbe.trans z) hb
    ·rw[hbe];exact z
   rw[q] at q';cases q';obtain⟨v,hv⟩:=heo;exact⟨v,by rw[hbe];exact hv⟩
  ·refine(ok b u q).stay (λ c v hc r=>k c v ?_ r) (λ c r=>by rw[AJ (nown c b r)];exact r) λ c xs r=>by rw[AJ (ntup c xs r)];exact r
   rcases hc with rfl|hc
   ·exact hbe
   ·rintro rfl;rcases he with z|z
    ·exact nown c b hc z
    ·rw[hc] at z;cases z;exact hb rfl
end
structure Un(fs ex:List Addr)(H H':Hp)(h h':Heap):Prop where
 keep:∀b o,h.get? b=some o->H b=none->b∉fs->b∉ex->h'.get? b=some o
 slot:∀b o,h.get? b=some o->H b=none->b∈fs->b∉ex->∃sl,h'.get? b=some { o with slots:=sl }
 free:∀b o,h.get? b=some o->H b=none->b∉ex->H' b=none
 there:∀b o,h.get? b=some o->b∉ex->∃o',h'.get? b=some o'
 tups:∀b xs,H b=some (.tup xs)->H' b=some (.tup xs)
 frzs:∀b o u,H b=some (.frz o u)->H' b=some (.frz o u)
 tbls:∀b ps,H b=some (.tbl ps)->∃more,H' b=some (.tbl (ps++more))
section
variable {fs fs' ex ex':List Addr}{H1 H2:Hp}{h1 h2:Heap}{x e:Addr}{o:HO}
theorem Un.any(u:Un fs ex H H1 h h1){ob:Obj}(q:h.get? b=some ob)(n:H b=none)(hx:b∉ex):∃sl,h1.get? b=some { ob with slots:=sl }:=by
 by_cases hb:b∈fs
 ·exact u.slot b ob q n hb hx
 ·exact⟨ob.slots,u.keep b ob q n hb hx⟩
theorem Un.kept(k:∀b u,h.get? b=some u->h'.get? b=some u):Un fs ex H H h h' :=
 ⟨λ b ob q _ _ _=>k b ob q,λ b ob q _ _ _=>⟨ob.slots,k b ob q⟩,λ _ _ _ n _=>n,λ b ob q _=>⟨ob,k b ob q⟩,λ _ _ q=>q,λ _ _ _ q=>q,λ _ ps q=>⟨#[],by rw[q];simp⟩⟩
theorem Un.refl:Un fs ex H H h h:=Un.kept λ _ _ q=>q
theorem Un.laid(k:∀b u,h.get? b=some u->h'.get? b=some u)(hp:h.objs.size<=a)(hn:H a=none):Un fs ex H (AD H a o) h h' where
 keep:=λ b u q _ _ _=>k b u q
 slot:=λ b u q _ _ _=>⟨u.slots,k b u q⟩
 free:=λ b u q n _=>by rw[AJ (FZ (HP (D1 q) hp))];exact n
 there:=λ b u q _=>⟨u,k b u q⟩
 tups:=λ b xs q=>by rw[AJ (DW q hn)];exact q
 frzs:=λ b u xs q=>by rw[AJ (DW q hn)];exact q
 tbls:=λ b ps q=>⟨#[],by rw[AJ (DW q hn),q];simp⟩
theorem Un.write(mu:qZ (H x))(he:e=x\/H e=some (.own x))(k:∀b u,b≠e->h.get? b=some u->h'.get? b=some u)(heo:∃u,h'.get? e=some u):Un fs ex H (AD H x o) h h':=by
 have hx:∀b,H b=none->b≠x:=λ b n z=>by subst z;rw[n] at mu;exact mu
 have hb:∀b,H b=none->b≠e:=λ b n z=>by
  subst z;rcases he with r|r
  ·exact hx b n r
  ·rw[n] at r;cases r
 have hm:∀b u,H b=some u->¬qZ (some u)->b≠x:=λ b u q nm z=>by subst z;rw[q] at mu;exact nm mu
 refine⟨λ b u q n _ _=>k b u (hb b n) q,λ b u q n _ _=>⟨u.slots,k b u (hb b n) q⟩,λ b u q n _=>by rw[AJ (hx b n)];exact n,λ b u q _=>?_,
  λ b xs q=>by rw[AJ (hm b _ q λ z=>z)];exact q,λ b u xs q=>by rw[AJ (hm b _ q λ z=>z)];exact q,λ b ps q=>⟨#[],by rw[AJ (hm b _ q λ z=>z),q];simp⟩⟩
 by_cases hbe:b=e
 ·subst hbe;exact heo
 ·exact⟨u,k b u hbe q⟩
end
def iC(h:Heap)(H:Hp):List Addr:=(QX h.objs.size).filter λ a=>(H a).isSome
def HH(h:Heap)(H:Hp):Heap:=W.hideAll h (iC h H)
theorem P8(h:Heap)(H:Hp):(HH h H).objs.size=h.objs.size:=W.hideAll_size _ _
theorem VH(e:h.get? b=some o)(n:H b=none):(HH h H).get? b=some o :=
 W.hideAll_get _ e λ hm=>by
  have q:(H b).isSome=true:=(uC.mp hm).2;rw[n] at q;simp at q
theorem aH(e:(HH h H).get? b=some o):h.get? b=some o/\H b=none:=by
 have e':h.get? b=some o:=W.of_hideAll (iC h H) e;refine⟨e',?_⟩;cases q:H b with
 |none=>rfl
 |some x =>
  have hm:b∈iC h H:=uC.mpr ⟨jZ.mpr (D1 e'),by simp[q]⟩;have z:(HH h H).get? b=none:=W.hideAll_none (iC h H) hm;rw[z] at e;cases e
def WO(g h:Heap)(L:Addr):List (Addr×Obj):=(QX h.objs.size).filterMap λ a=>if a=L\/(g.get? a).isSome=true then none else(h.get? a).map λ o=>(a,o)
def C3(g h:Heap)(L d:Addr):List (Addr×Obj):=(WO g h L).filter λ p=>decide (p.1≠d)
structure Mod(K:W.Frag)(mg:Str->Option Value)(base:Heap):Prop where
 kin:K.In base
 glob:base.Ns mainGlobals mg
 blt:∃mb,base.Ns builtinsNs mb/\∀x:Str,x≠"__name__" -> mb x=bootBuiltins x
 nolimit:base.NoLimit
structure Cx where
 prog:Program
 w:World
 K:W.Frag
 mg:Str->Option Value
 base:Heap
 A:Around
 N:List Str
 s₀:Shared
 H₀:Hp
 env:Env
 outer:List Env
 stack:List Env
 ex:List Addr
 fn:Str->Bool
 calm:Bool
 pn:List (Addr×Obj)
 xe:Value->Shared->Prop
variable {X:Cx}
def JM(l:List Env):List Addr:=l.filterMap (·.frame)
abbrev Cx.fs(X:Cx):List Addr:=JM X.outer
def QZ(sc:Scope)(x:Str):Prop:=sc.names.lookup x=some .local\/sc.names.lookup x=some .cell\/sc.names.lookup x=some .free
def VZ(sc:Scope)(x:Str):Prop:=sc.names.lookup x=some .local\/sc.names.lookup x=some .cell
def tZ(env:Env)(h:Heap)(m:Str->Option Value)(x:Str)(u:Value):Prop :=
 (env.kindOf x=some .local/\m x=some u)\/((env.kindOf x=some .cell\/env.kindOf x=some .free)/\∃c,env.cells.lookup x=some c/\h.IsCell c (some u))
structure Cx.Ok(X:Cx):Prop where
 mod:Mod X.K X.mg X.base
 kind:X.env.scope.kind=.function
 glob:X.env.globals=mainGlobals
 blt:X.env.builtins=builtinsNs
 above:X.s₀.heap.objs.size<=X.env.locals
 inj:∀x y c,X.env.cells.lookup x=some c->X.env.cells.lookup y=some c->x=y
 has:∀x,(X.env.kindOf x=some .cell\/X.env.kindOf x=some .free)->∃c,X.env.cells.lookup x=some c
 cab:∀x c,X.fn x=true->X.env.cells.lookup x=some c->X.s₀.heap.objs.size<=c
 hd:X.calm=true->X.A.handled=none
 frames:X.A.frames=some X.stack
 stk:X.stack=X.outer\/(X.stack=X.env::X.outer/\X.env.frame=some X.env.locals)
 exf:∀b∈X.ex,b≠X.env.locals/\∀x c,X.env.cells.lookup x=some c->c≠b
 bs:∀b o,X.base.get? b=some o->X.s₀.heap.get? b=some o/\X.H₀ b=none
 bsz:X.base.objs.size<=X.s₀.heap.objs.size
 noex:∀b o,X.base.get? b=some o->b∉X.ex
 exfs:∀b∈X.ex,b∉X.fs
 funs:X.s₀.heap.FunFrames X.base X.outer
 frf:∀b∈X.fs,X.H₀ b=none
structure Inv(X:Cx)(pins:List (Addr×Obj))(σ:List (Option V))(H:Hp)(s:Shared):Prop where
 ok:X.Ok
 os:s.os=X.s₀.os
 bare:AllBare s.gens
 base:Un X.fs X.ex X.H₀ H X.s₀.heap s.heap
 loc:∃m,s.heap.Ns X.env.locals m/\∀(i:Nat)(x:Str)(v:V),X.N[i]?=some x->σ[i]?=some (some v)->QZ X.env.scope x->∃u,RelV v u/\tZ X.env s.heap m x u
 cell:∀x c,X.env.cells.lookup x=some c->∃v,s.heap.IsCell c v
 free:H X.env.locals=none
 freeC:∀x c,X.env.cells.lookup x=some c->H c=none
 pin:∀p∈X.pn++pins,s.heap.get? p.1=some p.2/\H p.1=none/\p.1≠X.env.locals/\p.1∉X.fs/\∀v,p.2.data ≠ .cell v
 hok:HOk X.prog X.w H s.heap
 len:σ.length=X.N.length
section
variable {σ:List (Option V)}
theorem Cx.Ok.nofr(ok:X.Ok)(e:X.base.get? b=some o):b∉X.fs:=λ hb=>by
 have:=(ok.funs.mem hb).1;rw[e] at this;cases this
theorem Inv.bs(I:Inv X pins σ H s):∀b o,X.base.get? b=some o->s.heap.get? b=some o/\H b=none:=λ b o e =>
 ⟨I.base.keep b o (I.ok.bs b o e).1 (I.ok.bs b o e).2 (I.ok.nofr e) (I.ok.noex b o e),I.base.free b o (I.ok.bs b o e).1 (I.ok.bs b o e).2 (I.ok.noex b o e)⟩
theorem Inv.bk(I:Inv X pins σ H s):∀b o,X.base.get? b=some o->s.heap.get? b=some o:=λ b o e=>(I.bs b o e).1
theorem Inv.mod(I:Inv X pins σ H s):Mod X.K X.mg X.base:=I.ok.mod
theorem Inv.kIn(I:Inv X pins σ H s):X.K.In s.heap:=I.ok.mod.kin.keeps I.bk
theorem Inv.lt(I:Inv X pins σ H s):X.env.locals<s.heap.objs.size:=let ⟨_,hn,_⟩:=I.loc;hn.lt
theorem Inv.sz(I:Inv X pins σ H s):X.s₀.heap.objs.size<=s.heap.objs.size:=FB I.ok.above (RS I.lt)
theorem Inv.nofs(I:Inv X pins σ H s)(h:s.heap.objs.size<=a):a∉X.fs:=λ hb=>by
 obtain⟨_,o,ho,_⟩:=I.ok.funs.mem hb;exact absurd (HP (D1 ho) (FB I.sz h)) (OY _)
theorem Inv.cne(I:Inv X pins σ H s):∀x c,X.env.cells.lookup x=some c->c≠X.env.locals:=λ x c e z=>by
 obtain⟨v,o,ho,hd⟩:=I.cell x c e;obtain⟨m,⟨o',es,ep,ho',hd',_⟩,_⟩:=I.loc;rw[z,ho'] at ho;cases ho;rw[hd'] at hd;cases hd
theorem Inv.funs(I:Inv X pins σ H s):s.heap.FunFrames X.base X.outer:=by
 have all:∀(l:List Env),(∀b∈JM l,b∈X.fs)->X.s₀.heap.FunFrames X.base l->s.heap.FunFrames X.base l:=by
  intro l
  induction l with
  |nil=>intro _ _;trivial
  |cons env r ih =>
   intro hs hl;obtain⟨hk,⟨L,o,hf,hn,ho,hd⟩,hr⟩:=hl;have hL:L∈X.fs:=hs L (by unfold JM;rw[xV,hf];exact EZ);obtain⟨sl,e⟩:=I.base.slot L o ho (I.ok.frf L hL) hL λ z=>I.ok.exfs L z hL
   exact⟨hk,⟨L,_,hf,hn,e,hd⟩,ih (λ b hb=>hs b (by unfold JM;rw[xV,hf];exact ER _ hb)) hr⟩
 exact all X.outer (λ _ hb=>hb) I.ok.funs
theorem Inv.stack(I:Inv X pins σ H s):s.heap.FunFrames X.base X.stack:=by
 rcases I.ok.stk with e|⟨e,hf⟩
 ·rw[e];exact I.funs
 ·rw[e];obtain⟨m,hn,_⟩:=I.loc;refine .cons (by rw[I.ok.kind];decide) hf hn ?_ I.funs;exact Heap.get?_none_of_le (FB I.ok.bsz I.ok.above)
theorem Inv.stkSub(I:Inv X pins σ H s):∀b∈JM X.stack,b∈X.env.locals::X.fs:=λ b hb=>by
 rcases I.ok.stk with e|⟨e,hf⟩
 ·rw[e] at hb;exact ER _ hb
 ·rw[e] at hb;unfold JM at hb;rw[xV,hf] at hb;exact hb
theorem Inv.stkFree(I:Inv X pins σ H s):∀b∈JM X.stack,H b=none:=λ b hb=>by
 rcases C6.mp (I.stkSub b hb) with e|hb
 ·rw[e];exact I.free
 ·obtain⟨_,o,ho,_⟩:=I.ok.funs.mem hb;exact I.base.free b o ho (I.ok.frf b hb) λ z=>I.ok.exfs b z hb
theorem Inv.step{g':Array GenState}{t':Nat}{d':Drawn}{ch:List Addr}(I:Inv X pins σ H s)
  (hch:∀b∈ch,(b∈X.ex\/X.s₀.heap.objs.size<=b)/\b≠X.env.locals/\(∀x c,X.env.cells.lookup x=some c->c≠b)/\∀p∈X.pn++pins,p.1≠b)
  (keep:∀b o,b≠X.env.locals->b∉X.fs->b∉ch->s.heap.get? b=some o->H b=none->h'.get? b=some o)
  (slot:∀b o,b≠X.env.locals->b∈X.fs->b∉ch->s.heap.get? b=some o->H b=none->∃sl,h'.get? b=some { o with slots:=sl }) (free:∀b o,b∉ch->s.heap.get? b=some o->H b=none->H' b=none)
  (there:∀b o,b∉ch->s.heap.get? b=some o->∃o',h'.get? b=some o')
  (tups:∀b xs,H b=some (.tup xs)->H' b=some (.tup xs)) (frzs:∀b o u,H b=some (.frz o u)->H' b=some (.frz o u)) (tbls:∀b ps,H b=some (.tbl ps)->∃more,H' b=some (.tbl (ps++more)))
  (ns:∀m,s.heap.Ns X.env.locals m->h'.Ns X.env.locals m) (hok:HOk X.prog X.w H' h') (hg:AllBare g') :
  Inv X pins σ H' { s with heap:=h',gens:=g',drawn:=d',toks:=t' }:=by
 have neL:∀b o,X.s₀.heap.get? b=some o->b≠X.env.locals:=λ b o e=>FZ (HP (D1 e) I.ok.above)
 have neC:∀b o,X.s₀.heap.get? b=some o->b∉X.ex->b∉ch:=λ b o e hx hb=>by
  rcases(hch b hb).1 with z|z
  ·exact hx z
  ·exact absurd (HP (D1 e) z) (OY _)
 have cellK:∀x c,X.env.cells.lookup x=some c->∀v,s.heap.IsCell c v->h'.IsCell c v:=λ x c e v ⟨o,ho,hd⟩=>by
  have nch:c∉ch:=λ z=>(hch c z).2.2.1 x c e rfl
  by_cases hc:c∈X.fs
  ·obtain⟨sl,q⟩:=slot c o (I.cne x c e) hc nch ho (I.freeC x c e);exact⟨_,q,hd⟩
  ·exact⟨o,keep c o (I.cne x c e) hc nch ho (I.freeC x c e),hd⟩
 refine⟨I.ok,I.os,hg,⟨λ b o e n hb hx=>?_,λ b o e n hb hx=>?_,λ b o e n hx=>?_,λ b o e hx=>?_,λ b xs e=>tups b xs (I.base.tups b xs e),λ b o xs e=>frzs b o xs (I.base.frzs b o xs e),λ b ps e=>?_⟩,?_,λ x c e=>?_,?_,λ x c e=>?_,λ p hp=>?_,hok,I.len⟩
 ·exact keep b o (neL b o e) hb (neC b o e hx) (I.base.keep b o e n hb hx) (I.base.free b o e n hx)
 ·obtain⟨sl,e1⟩:=I.base.slot b o e n hb hx;obtain⟨sl',e2⟩:=slot b _ (neL b o e) hb (neC b o e hx) e1 (I.base.free b o e n hx);exact⟨sl',e2⟩
 ·obtain⟨o',e1⟩:=I.base.there b o e hx;exact free b o' (neC b o e hx) e1 (I.base.free b o e n hx)
 ·obtain⟨o',e1⟩:=I.base.there b o e hx;exact there b o' (neC b o e hx) e1
 ·obtain⟨m1,e1⟩:=I.base.tbls b ps e;obtain⟨m2,e2⟩:=tbls b _ e1;exact⟨m1++m2,by rw[e2,Array.append_assoc]⟩
 ·obtain⟨m,hn,hl⟩:=I.loc;refine⟨m,ns m hn,λ i x v e1 e2 e3=>?_⟩;obtain⟨u,r,l⟩:=hl i x v e1 e2 e3;refine⟨u,r,?_⟩;rcases l with l|⟨k,c,e,z⟩
  ·exact .inl l
  ·exact .inr ⟨k,c,e,cellK x c e _ z⟩
 ·obtain⟨v,z⟩:=I.cell x c e;exact⟨v,cellK x c e v z⟩
 ·obtain⟨m,⟨o,_,_,ho,_⟩,_⟩:=I.loc;exact free _ o (λ z=>(hch _ z).2.1 rfl) ho I.free
 ·obtain⟨v,o,ho,hd⟩:=I.cell x c e;exact free c o (λ z=>(hch c z).2.2.1 x c e rfl) ho (I.freeC x c e)
 ·obtain⟨e,n,ne,nf,d⟩:=I.pin p hp;have nch:p.1∉ch:=λ z=>(hch p.1 z).2.2.2 p hp rfl
  exact⟨keep p.1 p.2 ne nf nch e n,free p.1 p.2 nch e n,ne,nf,d⟩
theorem Inv.un(I:Inv X pins σ H s)(u:Un X.fs [] H H' s.heap h')(hok:HOk X.prog X.w H' h'):Inv X pins σ H' { s with heap:=h',toks:=t' }:=by
 obtain⟨m,⟨o,es,ep,ho,r⟩,_⟩:=id I.loc;obtain⟨sl,hL⟩:=u.any ho I.free (by simp);exact I.step (g':=s.gens) (d':=s.drawn) (ch:=[]) (λ _ z=>nomatch z) (λ b o _ hb _ e n=>u.keep b o e n hb (by simp)) (λ b o _ hb _ e n=>u.slot b o e n hb (by simp)) (λ b o _ e n=>u.free b o e n (by simp)) (λ b o _ e=>u.there b o e (by simp)) u.tups u.frzs u.tbls (λ m' hm=>by
  obtain⟨o',es',ep',ho',r'⟩:=hm;rw[ho] at ho';cases ho';exact⟨_,es',ep',hL,r'⟩) hok I.bare
theorem Inv.call{g':Array GenState}{d':Drawn}{ch:List Addr}(I:Inv X pins σ H s)(u:Un (JM X.stack) ch H H' s.heap h')(hok:HOk X.prog X.w H' h')(hg:AllBare g')
  (hch:∀b∈ch,(b∈X.ex\/X.s₀.heap.objs.size<=b)/\b≠X.env.locals/\(∀x c,X.env.cells.lookup x=some c->c≠b)/\∀p∈X.pn++pins,p.1≠b) :
  Inv X pins σ H' { s with heap:=h',gens:=g',drawn:=d',toks:=t' }:=by
 obtain⟨m,⟨o,es,ep,ho,r⟩,_⟩:=id I.loc;obtain⟨sl,hL⟩:=u.any ho I.free λ z=>(hch _ z).2.1 rfl
 exact I.step (ch:=ch) hch (λ b o hL hb hc e n=>u.keep b o e n (λ z=>(C6.mp (I.stkSub b z)).elim hL hb) hc) (λ b o _ _ hc e n=>u.any e n hc) (λ b o hc e n=>u.free b o e n hc) (λ b o hc e=>u.there b o e hc) u.tups u.frzs u.tbls (λ m' hm=>by
  obtain⟨o',es',ep',ho',r'⟩:=hm;rw[ho] at ho';cases ho';exact⟨_,es',ep',hL,r'⟩) hok hg
theorem Inv.turned{it:Addr}(I:Inv X pins σ H s)(k:∀b o,b≠it->s.heap.get? b=some o->h'.get? b=some o)(hn:H it=none)(hL:it≠X.env.locals)
  (h1:it∈X.ex\/X.s₀.heap.objs.size<=it) (h2:∀x c,X.env.cells.lookup x=some c->c≠it) (h3:∀p∈X.pn++pins,p.1≠it):Inv X pins σ H { s with heap:=h',toks:=t' }:=by
 have nit:∀b u,H b=some u->b≠it:=λ b u e z=>by rw[z,hn] at e;cases e
 refine I.step (g':=s.gens) (d':=s.drawn) (ch:=[it]) (λ b hb=>?_) (λ b o _ _ hc e _=>k b o (λ z=>hc (by simp[z])) e) (λ b o _ _ hc e _=>⟨o.slots,k b o (λ z=>hc (by simp[z])) e⟩) (λ _ _ _ _ n=>n)
  (λ b o hc e=>⟨o,k b o (λ z=>hc (by simp[z])) e⟩) (λ _ _ e=>e) (λ _ _ _ e=>e) (λ b ps e=>⟨#[],by rw[e];simp⟩) (λ m hm=>?_) (λ b u e=>?_) I.bare
 ·have e:b=it:=by simpa using hb
  subst e;exact⟨h1,hL,h2,h3⟩
 ·obtain⟨o,es,ep,ho,r⟩:=hm;exact⟨o,es,ep,k _ o (Ne.symm hL) ho,r⟩
 ·refine(I.hok b u e).stay (λ c v hc q=>k c v ?_ q) (λ _ q=>q) λ _ _ q=>q
  rcases hc with z|z
  ·rw[z];exact nit b u e
  ·exact nit c _ z
theorem Inv.tok(I:Inv X pins σ H s)(t:Nat):Inv X pins σ H { s with toks:=t }:=I.un (h':=s.heap) (t':=t) Un.refl I.hok
theorem Inv.kept{t':Nat}(I:Inv X pins σ H s)(k:∀b u,s.heap.get? b=some u->h'.get? b=some u):Inv X pins σ H { s with heap:=h',toks:=t' }:=I.un (Un.kept k) (I.hok.kept k)
theorem Inv.laid{a:Addr}{o:HO}{t':Nat}(I:Inv X pins σ H s)(k:∀b u,s.heap.get? b=some u->h'.get? b=some u)(hp:s.heap.objs.size<=a)(new:ObjOk X.prog X.w (AD H a o) h' a o) :
  Inv X pins σ (AD H a o) { s with heap:=h',toks:=t' }:=I.un (Un.laid k hp (I.hok.fresh hp)) (I.hok.laid k hp new)
theorem Inv.write{x e:Addr}{o:HO}{t':Nat}(I:Inv X pins σ H s)(mu:qZ (H x))(he:e=x\/H e=some (.own x))(k:∀b u,b≠e->s.heap.get? b=some u->h'.get? b=some u)(heo:∃u,h'.get? e=some u)
  (new:ObjOk X.prog X.w (AD H x o) h' x o):Inv X pins σ (AD H x o) { s with heap:=h',toks:=t' }:=I.un (Un.write mu he k heo) (I.hok.write mu he k heo new)
theorem Inv.weak{σ':List (Option V)}(I:Inv X pins σ H s)(hl:σ'.length=σ.length)(w:∀(i:Nat) v,σ'[i]?=some (some v)->σ[i]?=some (some v)):Inv X pins σ' H s :=
 ⟨I.ok,I.os,I.bare,I.base,let ⟨m,hn,hl'⟩:=I.loc;⟨m,hn,λ i x v e1 e2 e3=>hl' i x v e1 (w i v e2) e3⟩,I.cell,I.free,I.freeC,I.pin,I.hok,hl.trans I.len⟩
theorem Inv.pins_of{pins':List (Addr×Obj)}(I:Inv X pins σ H s)(h:∀p∈pins',s.heap.get? p.1=some p.2/\H p.1=none/\p.1≠X.env.locals/\p.1∉X.fs/\∀v,p.2.data ≠ .cell v):Inv X pins' σ H s :=
 ⟨I.ok,I.os,I.bare,I.base,I.loc,I.cell,I.free,I.freeC,λ p hp=>(EW.mp hp).elim (λ z=>I.pin p (K3 _ z)) (h p),I.hok,I.len⟩
theorem kX{N:List Str}(hN:N.Nodup){j:Nat}(a:N[i]?=some x)(b:N[j]?=some x):i=j:=by
 obtain⟨h1,e1⟩:=CP.mp a;obtain⟨h2,e2⟩:=CP.mp b;exact(zB hN).mp (e1.trans e2.symm)
theorem QU{M:Model}{A:Around}{E:Value->Shared->Prop}{u:Value}{Q:Unit->Shared->Prop}(I:Inv X pins σ H s)(hN:X.N.Nodup)(hi:X.N[i]?=some x)(hx:VZ X.env.scope x)(r:RelV v u)
  (h:∀s',Inv X pins (σ.set i (some v)) H s'->(∃a,Heap.SameBut a s.heap s'.heap/\(a=X.env.locals\/X.env.cells.lookup x=some a))->Q () s') (hf:X.fn x=true\/X.env.scope.names.lookup x=some .local:=by first|exact .inl rfl|exact .inr rfl|assumption):wpAny M A (storeName X.env x u) Q E s:=by
 obtain⟨m,hn,hl⟩:=id I.loc;have hcls:(X.env.scope.kind == .class||(X.env.scope.kind == .module&&X.env.locals != X.env.globals))=false:=by rw[I.ok.kind];rfl
 have hiσ:i<σ.length:=by rw[I.len];exact(CP.mp hi).1
 have cne:=I.cne;have tracked:∀{a:Addr}{h':Heap},(∃o,s.heap.get? a=some o/\H a=none)->Heap.SameBut a s.heap h'->HOk X.prog X.w H h':=λ {a h'} ha hs b ob e=>by
  obtain⟨_,_,hfree⟩:=ha;refine(I.hok b ob e).stay (λ c w' hc q=>(hs.2 c ?_).trans q) (λ _ q=>q) λ _ _ q=>q
  rintro rfl;rcases hc with rfl|hc
  ·rw[hfree] at e;cases e
  ·rw[hfree] at hc;cases hc
 rcases hx with hk|hk
 ·refine wpAny_storeName_local hk hn (λ h' hn' hs=>?_) hcls;obtain⟨oL,_,_,hoL,_⟩:=id hn;refine h _ ⟨I.ok,I.os,I.bare,⟨λ b o e n hb hx=>?_,λ b o e n hb hx=>?_,I.base.free,λ b o e hx=>?_,I.base.tups,I.base.frzs,I.base.tbls⟩,⟨_,hn',λ j y v' e1 e2 e3=>?_⟩,λ y c e=>?_,I.free,I.freeC,λ p hp=>?_,tracked ⟨oL,hoL,I.free⟩ hs,by simpa using I.len⟩ ⟨_,hs,.inl rfl⟩
  ·exact(hs.2 b (FZ (HP (D1 e) I.ok.above))).trans (I.base.keep b o e n hb hx)
  ·obtain⟨sl,e1⟩:=I.base.slot b o e n hb hx;exact⟨sl,(hs.2 b (FZ (HP (D1 e) I.ok.above))).trans e1⟩
  ·obtain⟨o',e1⟩:=I.base.there b o e hx;exact⟨o',(hs.2 b (FZ (HP (D1 e) I.ok.above))).trans e1⟩
  ·by_cases hj:j=i
   ·subst hj;rw[hi] at e1;cases e1;rw[Ab hiσ] at e2;cases e2;exact⟨u,r,.inl ⟨hk,by simp⟩⟩
   ·rw[zO (Ne.symm hj)] at e2;obtain⟨u',r',q⟩:=hl j y v' e1 e2 e3;refine⟨u',r',?_⟩;rcases q with⟨k,e⟩|⟨k,c,e,z⟩
    ·refine .inl ⟨k,?_⟩;have:y≠x:=λ e=>hj (kX hN e1 (e ▸ hi))
     simp[this,e]
    ·exact .inr ⟨k,c,e,z.sameBut hs (cne y c e)⟩
  ·obtain⟨w',z⟩:=I.cell y c e;exact⟨w',z.sameBut hs (cne y c e)⟩
  ·obtain⟨e,n,ne,nf,d⟩:=I.pin p hp;exact⟨(hs.2 p.1 ne).trans e,n,ne,nf,d⟩
 ·have hfn:X.fn x=true:=by
   rcases hf with z|z
   ·exact z
   ·rw[z] at hk;cases hk
  obtain⟨c,hc⟩:=I.ok.has x (.inl hk);obtain⟨w',z⟩:=I.cell x c hc;refine wpAny_storeName_cell I.ok.kind hk hc z (λ h' hc' hs=>?_);obtain⟨oc,hoc,hocd⟩:=id z;refine h { s with heap:=h' } ⟨I.ok,I.os,I.bare,⟨λ b o e n hb hx=>?_,λ b o e n hb hx=>?_,I.base.free,λ b o e hx=>?_,I.base.tups,I.base.frzs,I.base.tbls⟩,⟨m,hn.sameBut hs (Ne.symm (cne x c hc)),λ j y v' e1 e2 e3=>?_⟩,λ y c' e=>?_,I.free,I.freeC,λ p hp=>?_,tracked ⟨oc,hoc,I.freeC x c hc⟩ hs,by simpa using I.len⟩ ⟨c,hs,.inr hc⟩
  ·exact(hs.2 b (FZ (HP (D1 e) (I.ok.cab x c hfn hc)))).trans (I.base.keep b o e n hb hx)
  ·obtain⟨sl,e1⟩:=I.base.slot b o e n hb hx;exact⟨sl,(hs.2 b (FZ (HP (D1 e) (I.ok.cab x c hfn hc)))).trans e1⟩
  ·obtain⟨o',e1⟩:=I.base.there b o e hx;exact⟨o',(hs.2 b (FZ (HP (D1 e) (I.ok.cab x c hfn hc)))).trans e1⟩
  ·by_cases hj:j=i
   ·subst hj;rw[hi] at e1;cases e1;rw[Ab hiσ] at e2;cases e2;exact⟨u,r,.inr ⟨.inl hk,c,hc,hc'⟩⟩
   ·rw[zO (Ne.symm hj)] at e2;obtain⟨u',r',q⟩:=hl j y v' e1 e2 e3;refine⟨u',r',?_⟩;rcases q with q|⟨k,c',e,z'⟩
    ·exact .inl q
    ·refine .inr ⟨k,c',e,z'.sameBut hs ?_⟩;rintro rfl;exact hj (kX hN e1 (I.ok.inj _ _ _ e hc ▸ hi))
  ·by_cases hcc:c'=c
   ·subst hcc;exact⟨_,hc'⟩
   ·obtain⟨w2,z2⟩:=I.cell y c' e;exact⟨w2,z2.sameBut hs hcc⟩
  ·obtain⟨e,n,ne,nf,d⟩:=I.pin p hp;refine⟨(hs.2 p.1 ?_).trans e,n,ne,nf,d⟩;intro q;rw[q,hoc] at e;have q':oc=p.2:=Option.some.inj e;exact d w' (by rw[<- q'];exact hocd)
theorem iW{M:Model}{A:Around}{E:Value->Shared->Prop}{u:Value}{Q:Unit->Shared->Prop}(I:Inv X pins σ H s)(hN:X.N.Nodup)(hi:X.N[i]?=some x)(hx:VZ X.env.scope x)(r:RelV v u)
  (h:∀s',Inv X pins (σ.set i (some v)) H s'->Q () s') (hf:X.fn x=true\/X.env.scope.names.lookup x=some .local:=by first|exact .inl rfl|exact .inr rfl|assumption):wpAny M A (storeName X.env x u) Q E s :=
 QU I hN hi hx r (λ s' I' _=>h s' I') hf
end
abbrev XK:=Value->Option Addr->Hp->Prop
abbrev St:=List (Option V)
variable {σ:St}
abbrev VK:=V->Hp->Prop
abbrev TE:=St->Hp->VK->Prop
variable {t ta te:TE}
abbrev TT:=St->Hp->(Bool->Hp->Prop)->Prop
abbrev TA:=St->Hp->(List V->Hp->Prop)->Prop
structure Ends where
 nx:St->Hp->Prop
 rt:VK
 bk:St->Hp->Prop:=λ _ _=>False
 ct:St->Hp->Prop:=λ _ _=>False
variable {D:Ends}
abbrev TS:=Ends->St->Hp->Prop
variable {tb:TS}
def EP(X:Cx)(pins:List (Addr×Obj))(σ:St)(Q:VK)(u:Value)(s':Shared):Prop:=∃v H',Inv X pins σ H' s'/\RelV v u/\Q v H'
def TP(X:Cx)(pins:List (Addr×Obj))(σ:St)(Q:Bool->Hp->Prop)(b:Bool)(s':Shared):Prop:=∃H',Inv X pins σ H' s'/\Q b H'
def AP(X:Cx)(pins:List (Addr×Obj))(σ:St)(Q:List V->Hp->Prop)(us:List Value)(s':Shared):Prop:=∃vs H',Inv X pins σ H' s'/\Vals vs us/\Q vs H'
def SP(X:Cx)(pins:List (Addr×Obj))(D:Ends)(f:Flow)(s':Shared):Prop :=
 match f with
 | .next=>∃σ' H',Inv X pins σ' H' s'/\D.nx σ' H'
 | .brk=>∃σ' H',Inv X pins σ' H' s'/\D.bk σ' H'
 | .cont=>∃σ' H',Inv X pins σ' H' s'/\D.ct σ' H'
 | .ret u=>∃v σ' H',Inv X pins σ' H' s'/\RelV v u/\D.rt v H'
def PE(X:Cx)(e:Expr)(t:TE):Prop :=
 ∀(pins:List (Addr×Obj)) (s:Shared) (σ:St) (H:Hp) (Q:VK),Inv X pins σ H s->t σ H Q->wpAny (model X.prog X.w) X.A (eval e X.env) (EP X pins σ Q) X.xe s
def PT(X:Cx)(e:Expr)(t:TT):Prop :=
 ∀(pins:List (Addr×Obj)) (s:Shared) (σ:St) (H:Hp) (Q:Bool->Hp->Prop),Inv X pins σ H s->t σ H Q->wpAny (model X.prog X.w) X.A (isTrue e X.env (eval e X.env)) (TP X pins σ Q) X.xe s
def PW(X:Cx)(e:Expr)(t:TT):Prop :=
 ∀(whole:Sem Value) (pins:List (Addr×Obj)) (s:Shared) (σ:St) (H:Hp) (Q:Bool->Hp->Prop),Inv X pins σ H s->t σ H Q->wpAny (model X.prog X.w) X.A (isTrue e X.env whole) (TP X pins σ Q) X.xe s
theorem PW.pt{t:TT}(h:PW X e t):PT X e t:=h _
def PA(X:Cx)(es:List Expr)(t:TA):Prop :=
 ∀(pos:Pos) (pins:List (Addr×Obj)) (s:Shared) (σ:St) (H:Hp) (Q:List V->Hp->Prop),Inv X pins σ H s->t σ H Q->wpAny (model X.prog X.w) X.A (spliced (backTo pos (starEach es X.env))) (AP X pins σ Q) X.xe s
def PS(X:Cx)(st:Stmt)(t:TS):Prop :=
 ∀(pins:List (Addr×Obj)) (s:Shared) (σ:St) (H:Hp) (D:Ends),Inv X pins σ H s->t D σ H->wpAny (model X.prog X.w) X.A (exec st X.env) (SP X pins D) X.xe s
def PSs(X:Cx)(st:List Stmt)(t:TS):Prop :=
 ∀(pins:List (Addr×Obj)) (s:Shared) (σ:St) (H:Hp) (D:Ends),Inv X pins σ H s->t D σ H->wpAny (model X.prog X.w) X.A (execs st X.env) (SP X pins D) X.xe s
theorem B3{α:Type}{t:Sem α}{Q Q':α->Shared->Prop}(h:wpAny M A t Q E s)(hQ:∀a s,Q a s->Q' a s):wpAny M A t Q' E s:=wpAny_mono h hQ λ _ _ x=>x
section
inductive tVar(i:Nat)(σ:St)(H:Hp)(Q:VK):Prop
 |mk (v:_):σ[i]?=some (some v)->Q v H->tVar i σ H Q
def tC(v:V):TE:=λ _ H Q=>Q v H
theorem IV{pos:Pos}(hN:X.N[i]?=some x)(hv:QZ X.env.scope x)(hd:(x==("__debug__":Str))=false:=by decide)(hcd:(x==("__classdict__":Str))=false:=by decide):PE X (.Name x pos) (tVar i):=by
 intro pins s σ H Q I h;obtain⟨v,e,h⟩:=h;obtain⟨m,hn,hl⟩:=I.loc;obtain⟨u,r,l⟩:=hl i x v hN e hv;have fin:EP X pins σ Q u s:=⟨v,H,I,r,h⟩
 rcases l with⟨hk,hm⟩|⟨hk,c,hc,hcell⟩
 ·exact wpAny_Name (wpAny_loadName_local I.ok.kind hk hn hm fin) hd
 ·rcases hk with hk|hk
  ·exact wpAny_Name (wpAny_loadName_cell I.ok.kind hk hc hcell fin) hd
  ·exact wpAny_Name (wpAny_loadName_free I.ok.kind hk hc hcell fin hcd) hd
theorem RJ{i j pos}:PE X (.Constant (.int i) j pos) (tC (.int i)):=λ _ _ _ H _ I h=>wpAny_Constant_int ⟨.int i,H,I.tok _,⟨_,rfl⟩,h⟩
theorem lI{b j pos}:PE X (.Constant (.bool b) j pos) (tC (.bl b)):=λ _ _ _ H _ I h=>Constant_bool ⟨.bl b,H,I,rfl,h⟩
theorem gY{j pos}:PE X (.Constant .none j pos) (tC .non):=λ _ _ _ H _ I h=>Constant_none ⟨.non,H,I,rfl,h⟩
theorem iX{x j pos}:PE X (.Constant (.str x) j pos) (tC (.str x)):=λ _ _ _ H _ I h=>Calls.Constant_str ⟨.str x,H,I.tok _,⟨_,rfl⟩,h⟩
def Gl(X:Cx)(x:Str):Prop:=X.env.kindOf x=some .globalImplicit
theorem SH{E:Value->Shared->Prop}{u:Value}{pos:Pos}(I:Inv X pins σ H s)(hg:Gl X x)(hm:X.mg x=some u)(h:Q u s)
  (hd:(x==("__debug__":Str))=false:=by decide):wpAny (model X.prog X.w) X.A (eval (.Name x pos) X.env) Q E s :=
 Calls.Name_function_global I.ok.kind hg (Calls.loadGlobal_global (by rw[I.ok.glob];exact I.mod.glob.keeps I.bk) hm h) hd
theorem JG{E:Value->Shared->Prop}{u:Value}{pos:Pos}(I:Inv X pins σ H s)(hg:Gl X x)(hm:X.mg x=none)(hv:bootBuiltins x=some u)(h:Q u s)
  (hn:x≠"__name__" := by decide) (hd:(x==("__debug__":Str))=false:=by decide):wpAny (model X.prog X.w) X.A (eval (.Name x pos) X.env) Q E s:=by
 obtain⟨mb,h1,h2⟩:=I.mod.blt;exact Calls.Name_function_global I.ok.kind hg (Calls.loadGlobal_builtin (by rw[I.ok.glob];exact I.mod.glob.keeps I.bk) hm (by rw[I.ok.blt];exact h1.keeps I.bk) ((h2 x hn).trans hv) h) hd
theorem aI{u:Value}{pos:Pos}(hg:Gl X x)(hm:X.mg x=some u)(r:RelV v u)(hd:(x==("__debug__":Str))=false:=by decide):PE X (.Name x pos) (tC v) :=
 λ _ _ _ H _ I h=>SH I hg hm ⟨v,H,I,r,h⟩ hd
theorem Z0{u:Value}{pos:Pos}(hg:Gl X x)(hm:X.mg x=none)(hv:bootBuiltins x=some u)(r:RelV v u)(hn:x≠"__name__" := by decide)(hd:(x==("__debug__":Str))=false:=by decide):PE X (.Name x pos) (tC v) :=
 λ _ _ _ H _ I h=>JG I hg hm hv ⟨v,H,I,r,h⟩ hn hd
variable {a b:Expr}{tb:TE}
def PC(X:Cx)(op:CmpOp)(a b:Expr)(t:TE):Prop :=
 ∀(pins:List (Addr×Obj)) (s:Shared) (σ:St) (H:Hp) (Q:VK),Inv X pins σ H s->t σ H Q ->
  wpAny (model X.prog X.w) X.A (eval a X.env) (λ v s₁=>wpAny (model X.prog X.w) X.A (eval b X.env) (λ u s₂=>wpAny (model X.prog X.w) X.A (compareOp op v u) (EP X pins σ Q) X.xe s₂) X.xe s₁) X.xe s
theorem qL(b:Expr)(h:op ≠ .In)(h2:op ≠ .NotIn):behindInMarks op b=false:=by
 have e1:(op==CmpOp.In)=false:=by cases op<;>first|rfl|exact absurd rfl h
 have e2:(op==CmpOp.NotIn)=false:=by cases op<;>first|rfl|exact absurd rfl h2
 cases b<;>simp[behindInMarks,e1,e2]
def iE(ta:TE):TE:=λ σ H Q=>ta σ H λ x H1=>Q (.bl (decide (x=.non))) H1
def VF(ta:TE):TE:=λ σ H Q=>ta σ H λ x H1=>Q (.bl (!decide (x=.non))) H1
theorem RelV.none_iff{x:V}{v:Value}(r:RelV x v):(v==Value.none)=decide (x=.non):=by
 cases x with
 |non=>cases r;rfl
 |bl _=>cases r;rfl
 |int _=>obtain⟨t,rfl⟩:=r;rfl
 |str _=>obtain⟨t,rfl⟩:=r;rfl
 |byt _=>obtain⟨t,rfl⟩:=r;rfl
 |flt _=>obtain⟨t,rfl⟩:=r;rfl
 |ref _=>cases r;rfl
 |ty _=>cases r;rfl
theorem U5{j pos'}(ha:PE X a ta):PC X .Is a (.Constant .none j pos') (iE ta):=by
 intro pins s σ H Q I h;refine B3 (ha pins s σ H _ I h) λ v s1 z9=>?_
 obtain⟨x,H1,I1,r1,q1⟩ := z9;exact Constant_none (is_none_gen ⟨.bl _,H1,I1,by rw[r1.none_iff];rfl,q1⟩)
theorem MX{j pos'}(ha:PE X a ta):PC X .IsNot a (.Constant .none j pos') (VF ta):=by
 intro pins s σ H Q I h;refine B3 (ha pins s σ H _ I h) λ v s1 z9=>?_
 obtain⟨x,H1,I1,r1,q1⟩ := z9;exact Constant_none (isnot_none_gen ⟨.bl _,H1,I1,by rw[r1.none_iff];rfl,q1⟩)
def tB(t:TE):TT:=λ σ H Q=>t σ H λ x H1=>∃c,x=.bl c/\Q c H1
theorem RR(h:PC X op a b t)(h1:behindInMarks op b=false:=by first|exact qL _ (by decide) (by decide)|rfl):PE X (.Compare a [op] [b] pos) t:=λ pins s σ H Q I hw=>wpAny_Compare1 (h pins s σ H Q I hw) h1
theorem SM(h:PC X op a b t)(h1:behindInMarks op b=false:=by first|exact qL _ (by decide) (by decide)|rfl):PT X (.Compare a [op] [b] pos) (tB t):=by
 intro pins s σ H Q I hw;refine wpAny_isTrue_Compare1 (B3 (h pins s σ H _ I hw) λ v s1 h1=>B3 h1 λ u s2 h2=>B3 h2 λ c s3 z9=>?_) h1;obtain⟨x,H1,I1,r1,q1⟩ := z9;obtain⟨d,rfl,q⟩:=q1;cases r1;exact wpAny_truthy_bool ⟨H1,I1,q⟩
theorem f9(h:PE X e t)(he:∀whole,isTrue e X.env whole=(do let v <- whole;standAt e.pos;holding [v] (truthy v)):=by intro _;rfl):PT X e (tB t):=by
 intro pins s σ H Q I hw;refine isTrue_plain (B3 (h pins s σ H _ I hw) λ v s1 z9=>?_) (he _);obtain⟨x,H1,I1,r1,q1⟩ := z9;obtain⟨d,rfl,q⟩:=q1;cases r1;exact wpAny_truthy_bool ⟨H1,I1,q⟩
variable {tA tB':TT}{C3:List Expr}
def pN(t u:TT):TT:=λ σ H Q=>t σ H λ c H1=>if c=true then u σ H1 Q else Q false H1
def zZ(t u:TT):TT:=λ σ H Q=>t σ H λ c H1=>if c=true then Q true H1 else u σ H1 Q
def pE(t:TT):TT:=λ σ H Q=>t σ H λ c H1=>Q (!c) H1
theorem X3(ha:PT X a tA):PW X (.BoolOp .And [a] pos) tA:=by
 intro wh pins s σ H Q I h;refine isTrue_and (B3 (ha pins s σ H Q I h) λ c s1 e=>?_);cases c with
 |true=>exact isTrue_and_nil e
 |false=>exact e
theorem fK(ha:PT X a tA):PW X (.BoolOp .Or [a] pos) tA:=by
 intro wh pins s σ H Q I h;refine isTrue_or (B3 (ha pins s σ H Q I h) λ c s1 e=>?_);cases c with
 |false=>exact isTrue_or_nil e
 |true=>exact e
theorem iY(ha:PT X a tA)(hb:PW X (.BoolOp .And (b::C3) pos) tB'):PW X (.BoolOp .And (a::b::C3) pos) (pN tA tB'):=by
 intro wh pins s σ H Q I h;refine isTrue_and (B3 (ha pins s σ H _ I h) λ c s1 z9=>?_);obtain⟨H1,I1,q1⟩ := z9;cases c with
 |true=>exact hb wh pins s1 σ H1 Q I1 q1
 |false=>exact⟨H1,I1,q1⟩
theorem oX(ha:PT X a tA)(hb:PW X (.BoolOp .Or (b::C3) pos) tB'):PW X (.BoolOp .Or (a::b::C3) pos) (zZ tA tB'):=by
 intro wh pins s σ H Q I h;refine isTrue_or (B3 (ha pins s σ H _ I h) λ c s1 z9=>?_);obtain⟨H1,I1,q1⟩ := z9;cases c with
 |true=>exact⟨H1,I1,q1⟩
 |false=>exact hb wh pins s1 σ H1 Q I1 q1
theorem j3(ha:PT X a tA):PT X (.UnaryOp .Not a pos) (pE tA):=by
 intro pins s σ H Q I h;exact isTrue_not (ha pins s σ H (λ c H1=>Q (!c) H1) I h)
def d7(ta tb:TE):TE:=λ σ H Q=>ta σ H λ x H1=>∃c,x=.bl c/\if c=true then tb σ H1 Q else Q (.bl false) H1
def dM(ta:TE):TE:=λ σ H Q=>ta σ H λ x H1=>∃c,x=.bl c/\Q (.bl (!c)) H1
theorem fF{op}(h:PE X a t):PE X (.BoolOp op [a] pos) t:=λ pins s σ H Q I hw=>BoolOp_one (h pins s σ H Q I hw)
theorem gM(ha:PE X a ta)(hb:PE X (.BoolOp .And (b::C3) pos) tb):PE X (.BoolOp .And (a::b::C3) pos) (d7 ta tb):=by
 intro pins s σ H Q I h;refine BoolOp_and (B3 (ha pins s σ H _ I h) λ v s1 z9=>?_);obtain⟨x,H1,I1,r1,q1⟩ := z9;obtain⟨c,rfl,q1⟩:=q1;cases r1;refine wpAny_truthy_bool ?_;cases c with
 |true=>exact hb pins s1 σ H1 Q I1 q1
 |false=>exact⟨.bl false,H1,I1,rfl,q1⟩
theorem fZ(ha:PE X a ta):PE X (.UnaryOp .Not a pos) (dM ta):=by
 intro pins s σ H Q I h;refine UnaryOp_ (B3 (ha pins s σ H _ I h) λ v s1 z9=>?_);obtain⟨x,H1,I1,r1,q1⟩ := z9;obtain⟨c,rfl,q1⟩:=q1;cases r1;exact not_of (wpAny_truthy_bool ⟨.bl (!c),H1,I1,rfl,q1⟩)
def zW(t:TT)(ta tb:TE):TE:=λ σ H Q=>t σ H λ c H1=>if c=true then ta σ H1 Q else tb σ H1 Q
theorem TN(hc:PT X c tA)(ha:PE X a ta)(hb:PE X b tb):PE X (.IfExp c a b pos) (zW tA ta tb):=by
 intro pins s σ H Q I h;refine wpAny_IfExp (B3 (hc pins s σ H _ I h) λ d s1 z9=>?_);obtain⟨H1,I1,q1⟩ := z9;cases d with
 |true=>exact ha pins s1 σ H1 Q I1 q1
 |false=>exact hb pins s1 σ H1 Q I1 q1
end
def SqL(K:W.Frag)(H:Hp)(a:Addr)(xs:List V):Prop :=
 Rd H a (.lst xs) \/
  ∃(o:Obj)(its:Array Value)(n:Nat),K.lookup a=some o/\o.cls=.type "list" /\ o.dict=none/\o.data=.seq its n/\its.size<=sizeLine/\Vals xs its.toList
def SqT(K:W.Frag)(H:Hp)(a:Addr)(xs:List V):Prop :=
 Rd H a (.tup xs) \/
  ∃(o:Obj)(its:Array Value)(n:Nat),K.lookup a=some o/\o.cls=.type "tuple" /\ o.data=.seq its n/\its.size<=sizeLine/\Vals xs its.toList
def tX:Value->Option V
 | .none=>some .non
 | .bool b=>some (.bl b)
 | .int i _=>some (.int i)
 | .str x _=>some (.str x)
 | .bytes b _=>some (.byt b)
 | .float b _=>some (.flt b)
 | .ref a=>some (.ref a)
 | .type n=>some (.ty n)
 |_=>none
theorem RelV.abs{x:V}{u:Value}(r:RelV x u):tX u=some x:=by
 cases x with
 |non=>cases r;rfl
 |bl _=>cases r;rfl
 |int _=>obtain⟨t,rfl⟩:=r;rfl
 |str _=>obtain⟨t,rfl⟩:=r;rfl
 |byt _=>obtain⟨t,rfl⟩:=r;rfl
 |flt _=>obtain⟨t,rfl⟩:=r;rfl
 |ref _=>cases r;rfl
 |ty _=>cases r;rfl
theorem RelV.inj{x y:V}{u:Value}(r:RelV x u)(q:RelV y u):x=y:=Option.some.inj (r.abs.symm.trans q.abs)
theorem Vals.inj:∀{xs ys:List V}{us:List Value},Vals xs us->Vals ys us->xs=ys
 |_,_,_,.nil,.nil=>rfl
 |_,_,_,.cons r t,.cons r' t'=>by rw[r.inj r',Vals.inj t t']
section
variable {xs ys:List V}
theorem SqL.of(h:H a=some (.lst xs)):SqL K H a xs:=.inl (.inl h)
theorem SqT.of(h:H a=some (.tup xs)):SqT K H a xs:=.inl (.inl h)
theorem Inv.list(I:Inv X pins σ H s)(h:SqL X.K H a xs):∃its:List Value,Vals xs its/\PlainL s.heap a its.toArray/\xs.length<=sizeLine:=by
 rcases h with h|⟨o,its,n,hk,hc,hd,hs,hz,r⟩
 ·obtain⟨z,its,n,r,e⟩:=h.ok I.hok;exact⟨its,r,⟨_,n,e,U,U,U⟩,z⟩
 ·refine⟨its.toList,r,⟨o,n,I.kIn a o hk,hc,hd,by simpa using hs⟩,?_⟩;have e:=r.length;simp only[zY] at e;omega
theorem Inv.tuple(I:Inv X pins σ H s)(h:SqT X.K H a xs):∃its:List Value,Vals xs its/\IsTup s.heap a its.toArray/\xs.length<=sizeLine:=by
 rcases h with h|⟨o,its,n,hk,hc,hs,hz,r⟩
 ·obtain⟨z,its,r,p⟩:=h.ok I.hok;exact⟨its,r,p,z⟩
 ·refine⟨its.toList,r,⟨o,I.kIn a o hk,hc,n,by simpa using hs⟩,?_⟩;have e:=r.length;simp only[zY] at e;omega
theorem Inv.list_inj(I:Inv X pins σ H s)(h:SqL X.K H a xs)(h':SqL X.K H a ys):xs=ys:=by
 obtain⟨its,r,⟨o,n,e,_,_,d⟩,_⟩:=I.list h;obtain⟨its',r',⟨o',n',e',_,_,d'⟩,_⟩:=I.list h';rw[e] at e';cases e';rw[d] at d';injection d' with d1 _
 have:its=its':=by simpa using congrArg Ay d1
 subst this;exact r.inj r'
theorem Inv.tuple_inj(I:Inv X pins σ H s)(h:SqT X.K H a xs)(h':SqT X.K H a ys):xs=ys:=by
 obtain⟨its,r,⟨o,e,_,n,d⟩,_⟩:=I.tuple h;obtain⟨its',r',⟨o',e',_,n',d'⟩,_⟩:=I.tuple h';rw[e] at e';cases e';rw[d] at d';injection d' with d1 _
 have:its=its':=by simpa using congrArg Ay d1
 subst this;exact r.inj r'
end
abbrev Cx.wish(X:Cx)(E:Value->Shared->Prop):Cx:={ X with xe:=E }
abbrev Cx.nox(X:Cx):Cx:=X.wish λ _ _=>False
theorem Cx.Ok.wish{X:Cx}(ok:X.Ok)(E:Value->Shared->Prop):(X.wish E).Ok :=
 ⟨ok.mod,ok.kind,ok.glob,ok.blt,ok.above,ok.inj,ok.has,ok.cab,ok.hd,ok.frames,ok.stk,ok.exf,ok.bs,ok.bsz,ok.noex,ok.exfs,ok.funs,ok.frf⟩
theorem Cx.Ok.unwish(ok:(X.wish E).Ok):X.Ok :=
 ⟨ok.mod,ok.kind,ok.glob,ok.blt,ok.above,ok.inj,ok.has,ok.cab,ok.hd,ok.frames,ok.stk,ok.exf,ok.bs,ok.bsz,ok.noex,ok.exfs,ok.funs,ok.frf⟩
theorem Inv.wish(I:Inv X pins σ H s)(E:Value->Shared->Prop):Inv (X.wish E) pins σ H s:=⟨I.ok.wish E,I.os,I.bare,I.base,I.loc,I.cell,I.free,I.freeC,I.pin,I.hok,I.len⟩
theorem Inv.unwish(I:Inv (X.wish E) pins σ H s):Inv X pins σ H s:=⟨I.ok.unwish,I.os,I.bare,I.base,I.loc,I.cell,I.free,I.freeC,I.pin,I.hok,I.len⟩
theorem SP.unwish{D:Ends}{f:Flow}{s':Shared}(h:SP (X.wish E) pins D f s'):SP X pins D f s':=by
 cases f with
 |next=>obtain⟨σ',H',I,q⟩:=h;exact⟨σ',H',I.unwish,q⟩
 |brk=>obtain⟨σ',H',I,q⟩:=h;exact⟨σ',H',I.unwish,q⟩
 |cont=>obtain⟨σ',H',I,q⟩:=h;exact⟨σ',H',I.unwish,q⟩
 |ret u=>obtain⟨v,σ',H',I,r,q⟩:=h;exact⟨v,σ',H',I.unwish,r,q⟩
theorem PSs.nox{st:List Stmt}{t:TS}(h:PSs X.nox st t):PSs X st t:=λ pins s σ H D I hw =>
 wpAny_mono (h pins s σ H D (I.wish _) hw) (λ _ _ q=>q.unwish) λ _ _ z=>False.elim z
section
variable {st:Stmt}{C3:List Stmt}{t u:TS}
def d4:TS:=λ D σ H=>D.nx σ H
def nW(t u:TS):TS:=λ D σ H=>t { D with nx:=u D } σ H
theorem ZQ:PSs X [] d4:=λ _ _ σ H _ I h=>wpAny_execs_nil ⟨σ,H,I,h⟩
theorem UE(h1:PS X st t)(h2:PSs X C3 u):PSs X (st::C3) (nW t u):=by
 intro pins s σ H D I h;refine wpAny_execs_cons (B3 (h1 pins s σ H { D with nx:=u D } I h) λ f s1 q=>?_);cases f with
 |next =>
  obtain⟨σ',H',I',q⟩:=q;exact h2 pins s1 σ' H' D I' q
 |ret v=>exact q
 |brk=>exact q
 |cont=>exact q
theorem ZF(h1:PS X st t):PSs X [st] t:=by
 intro pins s σ H D I h;refine wpAny_execs_cons (B3 (h1 pins s σ H D I h) λ f s1 q=>?_);cases f with
 |next=>exact wpAny_execs_nil q
 |ret v=>exact q
 |brk=>exact q
 |cont=>exact q
theorem Inv.quiet(I:Inv X pins σ H s):interactive X.env=false:=by simp[interactive,I.ok.kind]
def d6(te:TE):TS:=λ D σ H=>te σ H λ _ H1=>D.nx σ H1
theorem ZO(he:PE X e te)(hs:swapsWith e none pos.line X.env=pure false:=by rfl):PS X (.Expr e pos) (d6 te):=by
 intro pins s σ H D I h;exact wpAny_Expr_any (B3 (he pins s σ H _ I h) λ v s1 ⟨x,H1,I1,r1,q1⟩=>⟨σ,H1,I1,q1⟩) I.quiet hs
def nH(te:TE):TS:=λ D σ H=>te σ H D.rt
theorem fE(he:PE X e te):PS X (.Return (some e) pos) (nH te):=by
 intro pins s σ H D I h;exact wpAny_Return_some (B3 (he pins s σ H _ I h) λ v s1 ⟨x,H1,I1,r1,q1⟩=>⟨x,σ,H1,I1,r1,q1⟩)
def d5:TS:=λ D _ H=>D.rt .non H
theorem aW:PS X (.Return none pos) d5:=λ _ _ σ H _ I h=>wpAny_Return_none ⟨.non,σ,H,I,rfl,h⟩
def pA(c:TT)(t u:TS):TS:=λ D σ H=>c σ H λ b H1=>if b=true then t D σ H1 else u D σ H1
theorem nG{a b:List Stmt}{tc:TT}(hc:PT X c tc)(ha:PSs X a t)(hb:PSs X b u):PS X (.If c a b pos) (pA tc t u):=by
 intro pins s σ H D I h;refine wpAny_If (B3 (hc pins s σ H _ I h) λ d s1 z9=>?_);obtain⟨H1,I1,q1⟩ := z9;cases d with
 |true=>exact ha pins s1 σ H1 D I1 q1
 |false=>exact hb pins s1 σ H1 D I1 q1
def VL:TS:=λ _ _ _=>False
theorem UI:PS X st VL:=λ _ _ _ _ _ _ h=>h.elim
end
abbrev TG:=V->St->Hp->(St->Hp->Prop)->Prop
variable {g:TG}
abbrev YI:=List V->St->Hp->(St->Hp->Prop)->Prop
def PG(X:Cx)(target:Expr)(t:TG):Prop :=
 ∀(pins:List (Addr×Obj)) (s:Shared) (σ:St) (H:Hp) (v:V) (u:Value) (Q:St->Hp->Prop),Inv X pins σ H s->RelV v u->t v σ H Q ->
  wpAny (model X.prog X.w) X.A (assign target X.env u) (λ _ s'=>∃σ' H',Inv X pins σ' H' s'/\Q σ' H') X.xe s
def nB(X:Cx)(ts:List Expr)(t:YI):Prop :=
 ∀(pins:List (Addr×Obj)) (s:Shared) (σ:St) (H:Hp) (vs:List V) (us:List Value) (Q:St->Hp->Prop),Inv X pins σ H s->Vals vs us->t vs σ H Q ->
  wpAny (model X.prog X.w) X.A (assignInOrder ((assignEach ts X.env).map (·.2)) us) (λ _ s'=>∃σ' H',Inv X pins σ' H' s'/\Q σ' H') X.xe s
abbrev XE:=V->V->V->Hp->(Hp->Prop)->Prop
def fI(X:Cx)(t:XE):Prop :=
 ∀(pins:List (Addr×Obj)) (s:Shared) (σ:St) (H:Hp) (o i v:V) (ov iv u:Value) (Q:Hp->Prop),Inv X pins σ H s->RelV o ov->RelV i iv->RelV v u->t o i v H Q ->
  wpAny (model X.prog X.w) X.A (setItem ov iv u) (λ _ s'=>∃H',Inv X pins σ H' s'/\Q H') X.xe s
abbrev lQ:=V->V->Hp->VK->Prop
def yP(X:Cx)(op:Operator)(t:lQ):Prop :=
 ∀(pins:List (Addr×Obj)) (s:Shared) (σ:St) (H:Hp) (x y:V) (v u:Value) (Q:VK),Inv X pins σ H s->RelV x v->RelV y u->t x y H Q ->
  wpAny (model X.prog X.w) X.A (inplaceOp op v u) (EP X pins σ Q) X.xe s
def GP(i:Nat):TG:=λ v σ H Q=>Q (σ.set i (some v)) H
theorem MF(hN:X.N.Nodup)(hi:X.N[i]?=some x)(hx:VZ X.env.scope x)(hf:X.fn x=true\/X.env.scope.names.lookup x=some .local:=by first|exact .inl rfl|exact .inr rfl|assumption):PG X (.Name x pos) (GP i):=by
 intro pins s σ H v u Q I r h;exact wpAny_assign_Name (iW I hN hi hx r (λ s' I'=>⟨_,H,I',h⟩) hf)
inductive gNil(vs:List V)(σ:St)(H:Hp)(Q:St->Hp->Prop):Prop
 |mk  : vs=[]->Q σ H->gNil vs σ H Q
inductive gCons(t:TG)(u:YI)(vs:List V)(σ:St)(H:Hp)(Q:St->Hp->Prop):Prop
 |mk (v:_) (r:_):(vs=v::r)->(t v σ H λ σ' H'=>u r σ' H' Q)->gCons t u vs σ H Q
theorem cG:nB X [] gNil:=by
 intro pins s σ H vs us Q I r h;obtain⟨e,h⟩:=h;subst e;cases r;exact assignInOrder_nil ⟨σ,H,I,h⟩
theorem RZ{t:TG}{u:YI}(h1:PG X e t)(h2:nB X es u)
  (hs:(assignEach (e::es) X.env).map (·.2)=assign e X.env::(assignEach es X.env).map (·.2):=by rfl):nB X (e::es) (gCons t u):=by
 intro pins s σ H vs us Q I r h;obtain⟨v,vr,e1,h⟩:=h;subst e1;cases r with
 |cons r rr =>
  rw[hs];refine assignInOrder_cons (B3 (h1 pins s σ H _ _ _ I r h) λ _ s1 z9=>?_);obtain⟨σ1,H1,I1,q1⟩ := z9;exact h2 pins s1 σ1 H1 _ _ Q I1 rr q1
inductive gTup(K:W.Frag)(n:Nat)(t:YI)(v:V)(σ:St)(H:Hp)(Q:St->Hp->Prop):Prop
 |mk (a:_) (xs:_):v=.ref a->SqT K H a xs->xs.length=n->t xs σ H Q->gTup K n t v σ H Q
theorem iM{k:Nat}{t:YI}(hc:X.calm=true)(h:nB X es t)
  (hn:(assignEach es X.env).length=n:=by rfl) (hst:(assignEach es X.env).findIdx? (·.1)=none:=by rfl):PG X (.Tuple es k pos) (gTup X.K n t):=by
 intro pins s σ H v u Q I r hw;obtain⟨a,xs,e1,hq,hl,hw⟩:=hw;subst e1;cases r;obtain⟨its,rv,ht,hz⟩:=I.tuple hq;refine assign_Tuple_tuple (I.ok.hd hc) ht (by simp[hn,<- hl,rv.length]) hst λ h' hx=>?_
 have I1:Inv X pins σ H { s with heap:=h' }:=I.kept (t':=s.toks) λ b o e=>hx b o (FZ (D1 e)) e
 exact h pins _ σ H xs _ Q I1 (by simpa using rv) hw
def l9(to ti:TE)(t:XE):TG:=λ v σ H Q=>to σ H λ o H1=>ti σ H1 λ i H2=>t o i v H2 λ H3=>Q σ H3
theorem jK{o i:Expr}{to ti:TE}{t:XE}(ho:PE X o to)(hi:PE X i ti)(hs:fI X t)
  (ha:∀v,assign (.Subscript o i pos) X.env v=(do
   let ov <- holding [v] (eval o X.env)
   let iv <- holding [v,ov] (eval i X.env)
   standAt pos
   holding [v,ov,iv] (setItem ov iv v)
   release [v,ov,iv] []):=by intro _;rfl):PG X (.Subscript o i pos) (l9 to ti t):=by
 intro pins s σ H v u Q I r h;rw[ha];refine wpAny_bind (wpAny_holding (B3 (ho pins s σ H _ I h) λ ov s1 z9=>?_));obtain⟨x,H1,I1,r1,q1⟩ := z9;refine wpAny_bind (wpAny_holding (B3 (hi pins s1 σ H1 _ I1 q1) λ iv s2 z9=>?_));obtain⟨y,H2,I2,r2,q2⟩ := z9;refine wpAny_bind (wpAny_standAt (wpAny_bind (wpAny_holding (B3 (hs pins s2 σ H2 x y v ov iv u _ I2 r1 r2 r q2) λ _ s3 z9=>?_))));obtain⟨H3,I3,q3⟩ := z9;exact wpAny_release ⟨σ,H3,I3,q3⟩
def OC(te:TE)(g:TG):TS:=λ D σ H=>te σ H λ x H1=>g x σ H1 D.nx
theorem jJ(he:PE X e te)(hg:PG X tg g)(hs:swapsWithSole [tg] e pos.line X.env=pure false:=by rfl)(hw:swappedStores [tg] e X.env=pure none:=by rfl)
  (h1:(assignEach [tg] X.env).map (·.2)=[assign tg X.env]:=by rfl):PS X (.Assign [tg] e pos) (OC te g):=by
 intro pins s σ H D I h;refine wpAny_Assign_stores (B3 (he pins s σ H _ I h) λ v s1 z9=>?_) hs hw;obtain⟨x,H1,I1,r1,q1⟩ := z9;rw[h1];exact B3 (hg pins s1 σ H1 x v _ I1 r1 q1) λ _ s2 q=>q
theorem gP(hN:X.N.Nodup)(hi:X.N[i]?=some x)(hx:VZ X.env.scope x)(he:PE X e te)(hs:swapsWith e (some (.Name x pos')) pos.line X.env=pure false:=by rfl)(hf:X.fn x=true\/X.env.scope.names.lookup x=some .local:=by first|exact .inl rfl|exact .inr rfl|assumption) :
  PS X (.Assign [.Name x pos'] e pos) (OC te (GP i)):=by
 intro pins s σ H D I h;refine wpAny_Assign_Name (B3 (he pins s σ H _ I h) λ v s1 z9=>?_) hs;obtain⟨y,H1,I1,r1,q1⟩ := z9;exact iW I1 hN hi hx r1 (λ s2 I2=>⟨_,H1,I2,q1⟩) hf
inductive tAug(i:Nat)(te:TE)(ti:lQ)(D:Ends)(σ:St)(H:Hp):Prop
 |mk (x:_):σ[i]?=some (some x)->(te σ H λ y H1=>ti x y H1 λ z H2=>D.nx (σ.set i (some z)) H2)->tAug i te ti D σ H
theorem iF{op:Operator}{ti:lQ}{pos':Pos}(hN:X.N.Nodup)(hi:X.N[i]?=some x)(hx:VZ X.env.scope x)(he:PE X e te)(ho:yP X op ti)(hf:X.fn x=true\/X.env.scope.names.lookup x=some .local:=by first|exact .inl rfl|exact .inr rfl|assumption) :
  PS X (.AugAssign (.Name x pos') op e pos) (tAug i te ti):=by
 intro pins s σ H D I h;obtain⟨v,e1,h⟩:=h;obtain⟨m,hn,hl⟩:=I.loc;have vis:QZ X.env.scope x:=by rcases hx with k|k;exact .inl k;exact .inr (.inl k)
 obtain⟨u,r,l⟩:=hl i x v hi e1 vis;refine wpAny_AugAssign_Name ?_;have go:wpAny (model X.prog X.w) X.A (eval e X.env) (λ w s₂=>wpAny (model X.prog X.w) X.A (inplaceOp op u w) (λ r s₃=>wpAny (model X.prog X.w) X.A (storeName X.env x r) (λ _=>SP X pins D .next) X.xe s₃) X.xe s₂) X.xe s:=by
  refine B3 (he pins s σ H _ I h) λ w s1 z9=>?_
  obtain⟨y,H1,I1,r1,q1⟩ := z9;refine B3 (ho pins s1 σ H1 v y u w _ I1 r r1 q1) λ z s2 z9=>?_
  obtain⟨zv,H2,I2,r2,q2⟩ := z9;exact iW I2 hN hi hx r2 (λ s3 I3=>⟨_,H2,I3,q2⟩) hf
 rcases l with⟨hk,hm⟩|⟨hk,c,hc,hcell⟩
 ·exact wpAny_loadName_local I.ok.kind hk hn hm go
 ·rcases hk with hk|hk
  ·exact wpAny_loadName_cell I.ok.kind hk hc hcell go
  ·rcases hx with k|k
   ·have:X.env.scope.names.lookup x=some .free:=hk;rw[k] at this;cases this
   ·have:X.env.scope.names.lookup x=some .free:=hk;rw[k] at this;cases this
def Bp(f:Int->Int->Int):lQ:=λ x y H Q=>∃i j,x=.int i/\y=.int j/\Q (.int (f i j)) H
theorem JE:yP X .Add (Bp λ i j=>i+j):=by
 intro pins s σ H x y v u Q I r1 r2 h;obtain⟨i,j,e1,e2,q⟩:=h;subst e1;subst e2;obtain⟨t,rfl⟩:=r1;obtain⟨t',rfl⟩:=r2;exact iadd_int ⟨.int _,H,I.tok _,⟨_,rfl⟩,q⟩
inductive tWhile(c:TT)(tb:TS)(D:Ends)(σ:St)(H:Hp):Prop
 |mk (W:Nat->St->Hp->Prop):((∃m,W m σ H))->(∀m σ H,W m σ H->c σ H λ b H1=>if b=true then ∃N:St->Hp->Prop,(∀σ' H',N σ' H'->∃m',m'<m/\W m' σ' H')/\tb { D with nx:=N,ct:=N,bk:=D.nx } σ H1 else D.nx σ H1)->tWhile c tb D σ H
theorem SQ{tc:TT}(hp:PassesOwn (model X.prog X.w) X.A X.env X.xe)(hc:PT X c tc)(hb:PSs X body tb):PS X (.While c body [] pos) (tWhile tc tb):=by
 intro pins s σ H D I h;obtain⟨W,⟨m0,w0⟩,turn⟩:=h;refine wpAny_While (codeAny_whileLoop (λ n s'=>∃σ' H',Inv X pins σ' H' s'/\W n σ' H') ?_ m0 ⟨σ,H,I,w0⟩);intro n s1 z9;obtain⟨σ1,H1,I1,w1⟩ := z9;refine wpAny_passesOwn hp (B3 (hc pins s1 σ1 H1 _ I1 (turn n σ1 H1 w1)) λ b s2 z9=>?_);obtain⟨H2,I2,q2⟩ := z9;cases b with
 |true =>
  obtain⟨N,hN,q2⟩:=q2;rw[if_pos rfl];refine wpAny_passesOwn hp (B3 (hb pins s2 σ1 H2 _ I2 q2) λ f s3 q3=>?_);cases f with
  |next =>
   obtain⟨σ3,H3,I3,n3⟩:=q3;obtain⟨m',hm,w3⟩:=hN σ3 H3 n3;exact⟨m',hm,σ3,H3,I3,w3⟩
  |cont =>
   obtain⟨σ3,H3,I3,n3⟩:=q3;obtain⟨m',hm,w3⟩:=hN σ3 H3 n3;exact⟨m',hm,σ3,H3,I3,w3⟩
  |brk=>exact q3
  |ret v=>exact q3
 |false =>
  rw[if_neg HB];exact wpAny_execs_nil ⟨σ1,H2,I2,q2⟩
structure It where
 go:Nat->Hp->Prop
 yld:Nat->Hp->V->Hp->Prop
 stop:Nat->Hp->Prop
def FK(X:Cx)(pins:List (Addr×Obj))(H:Hp)(b:Addr):Prop :=
 H b=none/\b≠X.env.locals/\b∉X.fs/\(b∈X.ex\/X.s₀.heap.objs.size<=b)/\(∀x c,X.env.cells.lookup x=some c->c≠b)/\∀p∈X.pn++pins,p.1≠b
theorem Inv.fpOk(I:Inv X pins σ H s)(hb:s.heap.objs.size<=b)(hn:H' b=none):FK X pins H' b:=by
 refine⟨hn,nK (HP I.lt hb),I.nofs hb,.inr (FB I.sz hb),λ x c e z=>?_,λ p hp z=>?_⟩
 ·obtain⟨v,q⟩:=I.cell x c e;exact absurd (HP q.lt (by rw[z];exact hb)) (OY _)
 ·exact absurd (HP (D1 (I.pin p hp).1) (by rw[z];exact hb)) (OY _)
structure Turn(P:Program)(w:World)(K:W.Frag)(tg:Expr)(J:It)(fp:List Addr)(it:Addr)(tn:Nat->Heap->Prop):Prop where
 mem:it∈fp
 obj:∀i h,tn i h->∀b∈fp,∃o,h.get? b=some o/\∀v,o.data ≠ .cell v
 keep:∀i h h',tn i h->(∀b∈fp,∀o,h.get? b=some o->h'.get? b=some o)->tn i h'
 item:∀(X:Cx),X.prog=P->X.w=w->X.K=K->X.calm=true->∀(i:Nat) (pins:List (Addr×Obj)) (s:Shared) (σ:St) (H:Hp) (E:Value->Shared->Prop),Inv X pins σ H s->(∀b∈fp,FK X pins H b)->tn i s.heap->J.go i H ->
  wpAny (model P w) X.A (pyNext (.ref it)) (λ r s1=>∃u,r=some u /\
   wpAny (model P w) X.A (letOwnedTupleGo tg (.ref it) u) (λ _ s2=>∃x H',Inv X pins σ H' s2/\RelV x u/\J.yld i H x H'/\tn (i+1) s2.heap/\∀b∈fp,H' b=none) E s1) E s
 done:∀(X:Cx),X.prog=P->X.w=w->X.K=K->X.calm=true->∀(i:Nat) (pins:List (Addr×Obj)) (s:Shared) (σ:St) (H:Hp) (E:Value->Shared->Prop),Inv X pins σ H s->(∀b∈fp,FK X pins H b)->tn i s.heap->J.stop i H ->
  wpAny (model P w) X.A (pyNext (.ref it)) (λ r s1=>r=none/\Inv X pins σ H s1) E s
 self:∀(A:Around)(i:Nat)(s:Shared)(Q:Value->Shared->Prop)(E:Value->Shared->Prop),tn i s.heap->Q (.ref it) s->wpAny (model P w) A (pyIter (.ref it)) Q E s
abbrev TI:=St->Hp->(It->Hp->Prop)->Prop
def zF(X:Cx)(pins:List (Addr×Obj))(σ:St)(tg:Expr)(R:It->Hp->Prop)(itv:Value)(s2:Shared):Prop :=
 ∃(it:Addr)(fp:List Addr)(tn:Nat->Heap->Prop)(J:It)(H':Hp),itv=.ref it/\Inv X pins σ H' s2/\Turn X.prog X.w X.K tg J fp it tn/\tn 0 s2.heap/\(∀b∈fp,FK X pins H' b)/\R J H'
def PI(X:Cx)(tg iter:Expr)(wi:TI):Prop :=
 ∀(pins:List (Addr×Obj)) (s:Shared) (σ:St) (H:Hp) (R:It->Hp->Prop),Inv X pins σ H s->wi σ H R ->
  wpAny (model X.prog X.w) X.A (eval iter X.env) (λ v s1=>wpAny (model X.prog X.w) X.A (pyIter v) (zF X pins σ tg R) X.xe s1) X.xe s
theorem KC{it:Addr}{u:Value}{n:String}{vs:Array Value}{Q:Unit->Shared->Prop}(ho:s.heap.get? it=some o)(hc:o.cls=.type n)(hd:o.data=.fields vs)
  (hn:["enumerate","zip","dict_itemiterator","dict_reverseitemiterator","odict_iterator","itertools.zip_longest","itertools.pairwise"].contains n=false) (hQ:Q () s):wpAny M A (letOwnedTupleGo tg (.ref it) u) Q E s:=by
 unfold letOwnedTupleGo;cases tg<;>first
  |exact wpAny_pure hQ
  | (cases u<;>first
    |exact wpAny_pure hQ
    | (refine wpAny_bind (wpAny_load ho ?_)
       rw[hc,hd];show wpAny M A (if(["enumerate","zip","dict_itemiterator","dict_reverseitemiterator","odict_iterator","itertools.zip_longest","itertools.pairwise"].contains n&&vs[0]? == some (rawInt _))=true then _ else _) Q E s;rw[if_neg (by intro h;rw[hn,nU] at h;cases h)];exact wpAny_pure hQ))
def cY(K:W.Frag)(a:Addr):It :=
 ⟨λ i H=>∃xs x,SqL K H a xs/\xs[i]?=some x,λ i H x H'=>H'=H/\∀xs,SqL K H a xs->xs[i]?=some x,λ i H=>∃xs,SqL K H a xs/\xs.length<=i⟩
def rJ(K:W.Frag)(a:Addr):It :=
 ⟨λ i H=>∃xs x,SqT K H a xs/\xs[i]?=some x,λ i H x H'=>H'=H/\∀xs,SqT K H a xs->xs[i]?=some x,λ i H=>∃xs,SqT K H a xs/\xs.length<=i⟩
def dP(lo:Int)(n:Nat):It:=⟨λ i _=>i<n,λ i H x H'=>H'=H/\x=.int (lo+i),λ i _=>n<=i⟩
theorem PK(a it:Addr):Turn P w K tg (cY K a) [it] it (λ i h=>h.IsListIter it a i) where
 mem:=by simp
 obj:=λ i h st b hb=>by
  have e:b=it:=by simpa using hb
  subst e;obtain⟨o,e,c,d⟩:=st;exact⟨o,e,λ v z=>by rw[d] at z;cases z⟩
 keep:=λ i h h' st k=>st.at λ o e=>k it (by simp) o e
 item:=by
  intro X hP hw hK hc i pins s σ H E I hf st hg;subst hP hw hK;obtain⟨xs,x,hq,hx⟩:=hg;obtain⟨its,rv,p,hz⟩:=I.list hq;obtain⟨u,hu,ru⟩:=rv.get hx;obtain⟨f0,f1,f2,f3,f4,f5⟩:=hf it (by simp);refine wpAny_pyNext_list_item st p.isList (x:=u) (by simpa using hu) λ h' st' sb=>?_
  have I1:Inv X pins σ H { s with heap:=h' }:=I.turned (t':=s.toks) (λ b o hb e=>(sb.2 b hb).trans e) f0 f1 f3 f4 f5;obtain⟨o,e,c,d⟩:=id st';exact⟨u,rfl,KC (s:={ s with heap:=h' }) e c d (by decide) ⟨x,H,I1,ru,⟨rfl,λ ys hy=>by rw[I.list_inj hy hq];exact hx⟩,st',λ b hb=>(hf b hb).1⟩⟩
 done:=by
  intro X hP hw hK hc i pins s σ H E I hf st hg;subst hP hw hK;obtain⟨xs,hq,hx⟩:=hg;obtain⟨its,rv,p,hz⟩:=I.list hq;obtain⟨f0,f1,f2,f3,f4,f5⟩:=hf it (by simp);have hl:=rv.length;exact wpAny_pyNext_list_end (I.ok.hd hc) st p.isList (by simp;omega) λ h' eb=>⟨rfl,I.turned (t':=s.toks) (λ b o hb e=>eb b o hb e) f0 f1 f3 f4 f5⟩
 self:=λ _ _ _ _ _ st h=>wpAny_pyIter_listiter st h
theorem uB(a it:Addr):Turn P w K tg (rJ K a) [it] it (λ i h=>h.IsTupleIter it a i) where
 mem:=by simp
 obj:=λ i h st b hb=>by
  have e:b=it:=by simpa using hb
  subst e;obtain⟨o,e,c,d⟩:=st;exact⟨o,e,λ v z=>by rw[d] at z;cases z⟩
 keep:=λ i h h' st k=>st.at λ o e=>k it (by simp) o e
 item:=by
  intro X hP hw hK hc i pins s σ H E I hf st hg;subst hP hw hK;obtain⟨xs,x,hq,hx⟩:=hg;obtain⟨its,rv,p,hz⟩:=I.tuple hq;obtain⟨u,hu,ru⟩:=rv.get hx;obtain⟨f0,f1,f2,f3,f4,f5⟩:=hf it (by simp);refine wpAny_pyNext_tuple_item st (show s.heap.IsTuple a its.toArray from p) (x:=u) (by simpa using hu) λ h' st' sb=>?_
  have I1:Inv X pins σ H { s with heap:=h' }:=I.turned (t':=s.toks) (λ b o hb e=>(sb.2 b hb).trans e) f0 f1 f3 f4 f5;obtain⟨o,e,c,d⟩:=id st';exact⟨u,rfl,KC (s:={ s with heap:=h' }) e c d (by decide) ⟨x,H,I1,ru,⟨rfl,λ ys hy=>by rw[I.tuple_inj hy hq];exact hx⟩,st',λ b hb=>(hf b hb).1⟩⟩
 done:=by
  intro X hP hw hK hc i pins s σ H E I hf st hg;subst hP hw hK;obtain⟨xs,hq,hx⟩:=hg;obtain⟨its,rv,p,hz⟩:=I.tuple hq;obtain⟨f0,f1,f2,f3,f4,f5⟩:=hf it (by simp);have hl:=rv.length;exact wpAny_pyNext_tuple_end (I.ok.hd hc) st (show s.heap.IsTuple a its.toArray from p) (by simp;omega) λ h' eb=>⟨rfl,I.turned (t':=s.toks) (λ b o hb e=>eb b o hb e) f0 f1 f3 f4 f5⟩
 self:=λ _ _ _ _ _ st h=>wpAny_pyIter_tupleiter st h
theorem yG(it:Addr)(lo:Int)(n:Nat):Turn P w K tg (dP lo n) [it] it (λ i h=>IsRangeIter h it (lo+(i:Nat)*1) ((n:Int)-(i:Nat)) 1) where
 mem:=by simp
 obj:=λ i h st b hb=>by
  have e:b=it:=by simpa using hb
  subst e;exact⟨_,st,λ v z=>by
   have z':Data.fields _=Data.cell v:=z;cases z'⟩
 keep:=λ i h h' st k=>k it (by simp) _ st
 item:=by
  intro X hP hw hK hc i pins s σ H E I hf st hg;subst hP hw hK;obtain⟨f0,f1,f2,f3,f4,f5⟩:=hf it (by simp);have W:=Walks.range (prog:=X.prog) (w:=X.w) (I.ok.hd hc) it lo 1 n;refine W.item i s _ _ hg st λ v h' tk hv st' kk=>?_
  obtain⟨t,rfl⟩:=hv;have I1:Inv X pins σ H { s with heap:=h',toks:=tk }:=I.turned (λ b o hb e=>kk b o (by simpa using hb) e) f0 f1 f3 f4 f5;refine⟨_,rfl,KC (s:={ s with heap:=h',toks:=tk }) (n := "range_iterator") st' rfl rfl (by decide) ⟨.int (lo+i),H,I1,⟨t,?_⟩,⟨rfl,rfl⟩,st',λ b hb=>(hf b hb).1⟩⟩;rw[eJ]
 done:=by
  intro X hP hw hK hc i pins s σ H E I hf st hg;subst hP hw hK;obtain⟨f0,f1,f2,f3,f4,f5⟩:=hf it (by simp);exact wpAny_pyNext_range_end (I.ok.hd hc) st (by have:n<=i:=hg;omega) λ h' eb=>⟨rfl,I.turned (t':=s.toks) (λ b o hb e=>eb b o hb e) f0 f1 f3 f4 f5⟩
 self:=λ _ _ _ _ _ st h=>wpAny_pyIter_rangeiter st h
def dO(K:W.Frag)(tl:TE):TI:=λ σ H R=>tl σ H λ x H1=>∃a,x=.ref a/\(∃xs,SqL K H1 a xs)/\R (cY K a) H1
def pP(K:W.Frag)(tl:TE):TI:=λ σ H R=>tl σ H λ x H1=>∃a,x=.ref a/\(∃xs,SqT K H1 a xs)/\R (rJ K a) H1
theorem YX{l:Expr}{tl:TE}(hl:PE X l tl):PI X tg l (dO X.K tl):=by
 intro pins s σ H R I h;refine B3 (hl pins s σ H _ I h) λ v s1 z9=>?_
 obtain⟨x,H1,I1,r1,q1⟩ := z9;obtain⟨a,e,⟨xs,hq⟩,q⟩:=q1;subst e;cases r1;obtain⟨its,rv,p,hz⟩:=I1.list hq;refine wpAny_pyIter_list p.isList ?_;refine⟨s1.heap.objs.size,[s1.heap.objs.size],_,_,H1,U,I1.kept (t':=s1.toks) λ b o e=>DD _ e,PK a _,⟨_,FF _ rfl,U,U⟩,λ b hb=>?_,q⟩;have e:b=s1.heap.objs.size:=by simpa using hb
 subst e;exact I1.fpOk (BU _) (I1.hok.fresh (BU _))
theorem j6{l:Expr}{tl:TE}(hl:PE X l tl):PI X tg l (pP X.K tl):=by
 intro pins s σ H R I h;refine B3 (hl pins s σ H _ I h) λ v s1 z9=>?_
 obtain⟨x,H1,I1,r1,q1⟩ := z9;obtain⟨a,e,⟨xs,hq⟩,q⟩:=q1;subst e;cases r1;obtain⟨its,rv,p,hz⟩:=I1.tuple hq;refine wpAny_pyIter_tuple (show s1.heap.IsTuple a its.toArray from p) ?_;refine⟨s1.heap.objs.size,[s1.heap.objs.size],_,_,H1,U,I1.kept (t':=s1.toks) λ b o e=>DD _ e,uB a _,⟨_,FF _ rfl,U,U⟩,λ b hb=>?_,q⟩;have e:b=s1.heap.objs.size:=by simpa using hb
 subst e;exact I1.fpOk (BU _) (I1.hok.fresh (BU _))
theorem RP{R:It->Hp->Prop}{lo hi:Int}{t u v:Tok}{tk:Nat}(I:Inv X pins σ H s)(h1:-(2 ^ 62)<=lo)(h2:lo<2 ^ 62)(h3:-(2 ^ 62)<=hi)(h4:hi<2 ^ 62)
  (q:R (dP lo (hi-lo).toNat) H):wpAny (model X.prog X.w) X.A (pyIter (.ref s.heap.objs.size)) (zF X pins σ tg R) E { s with heap:=s.heap.push { cls:=.type "range",data:=.fields #[.int lo t,.int hi u,.int 1 v] },toks:=tk }:=by
 refine wpAny_pyIter_range (IsRange.new ..) (small_one h1 h2 h3 h4) ?_;have I1:Inv X pins σ H { s with heap:=s.heap.push { cls:=.type "range",data:=.fields #[.int lo t,.int hi u,.int 1 v] },toks:=tk }:=I.kept λ b o e=>DD _ e
 refine⟨(s.heap.push { cls:=.type "range",data:=.fields #[.int lo t,.int hi u,.int 1 v] }).objs.size,[(s.heap.push { cls:=.type "range",data:=.fields #[.int lo t,.int hi u,.int 1 v] }).objs.size],_,_,H,U,
  I1.kept (t':=tk) λ b o e=>DD _ e,yG _ lo (hi-lo).toNat,?_,λ b hb=>?_,q⟩
 ·have e1:lo+((0:Nat):Int)*1=lo:=by simp
  have e2:(((hi-lo).toNat:Nat):Int)-((0:Nat):Int)=Builtin.Range.rangeSize lo hi 1:=by rw[rangeSize_one];split<;>omega
  show IsRangeIter _ _ (lo+((0:Nat):Int)*1) ((((hi-lo).toNat:Nat):Int)-((0:Nat):Int)) 1;rw[e1,e2];exact FF _ rfl
 ·have e:b=(s.heap.push { cls:=.type "range",data:=.fields #[.int lo t,.int hi u,.int 1 v] }).objs.size:=by simpa using hb
  subst e;exact I1.fpOk (BU _) (I1.hok.fresh (BU _))
def d8(ta:TA):TI:=λ σ H R=>ta σ H λ vs H1=>∃j:Int,vs=[.int j]/\-(2 ^ 62)<=j/\j<2 ^ 62/\R (dP 0 j.toNat) H1
theorem PJ{a:Expr}{ta:TA}{p pos:Pos}(hg:Gl X "range")(hm:X.mg "range"=none)(ha:PA X [a] ta)(hs:starEach [a] X.env=[(false,eval a X.env)]:=by rfl):PI X tg (.Call (.Name "range" p) [a] [] pos) (d8 ta):=by
 intro pins s σ H R I h;refine Call_ (JG I hg hm boot_range (PyProof.Rows.callWith_type1 (B3 (ha pos pins s σ H _ I h) λ us s1 z9=>?_) hs rfl));obtain⟨vs,H1,I1,r1,q1⟩ := z9;obtain⟨j,e,q1,q2,q⟩:=q1;subst e;cases r1 with
 |cons r rr =>
  cases rr;obtain⟨t,rfl⟩:=r;exact call_range_1 (RP I1 ⋯ ⋯ q1 q2 (by simpa using q))
def qG(wi:TI)(g:TG)(tb:TS):TS:=λ D σ H=>wi σ H λ J H1=>∃W:Nat->Nat->St->Hp->Prop,(∃m,W 0 m σ H1)/\∀i m σ H,W i m σ H ->
 (J.stop i H/\D.nx σ H)\/(J.go i H/\∃N:St->Hp->Prop,(∀σ' H',N σ' H'->∃m',m'<m/\W (i+1) m' σ' H')/\∀x H',J.yld i H x H'->g x σ H' λ σ2 H2=>tb { D with nx:=N,ct:=N,bk:=D.nx } σ2 H2)
def SS(fp:List Addr)(h:Heap):List (Addr×Obj):=fp.filterMap λ b=>(h.get? b).map λ o=>(b,o)
theorem SK(hb:b∈fp)(e:h.get? b=some o):(b,o)∈SS fp h:=sY.mpr ⟨b,hb,by rw[e];rfl⟩
theorem NV{p:Addr×Obj}(hp:p∈SS fp h):p.1∈fp/\h.get? p.1=some p.2:=by
 obtain⟨b,hb,e⟩:=sY.mp hp;cases q:h.get? b with
 |none=>rw[q] at e;cases e
 |some o =>
  rw[q] at e;have e':(b,o)=p:=Option.some.inj e;subst e';exact⟨hb,q⟩
theorem Inv.pinned(I:Inv X pins σ H s)(hf:∀b∈fp,FK X pins H b)(ho:∀b∈fp,∃o,s.heap.get? b=some o/\∀v,o.data ≠ .cell v):Inv X (pins++SS fp s.heap) σ H s :=
 I.pins_of λ p hp=>(EW.mp hp).elim (λ z=>I.pin p (GR _ z)) λ z=>by
  obtain⟨hb,e⟩:=NV z;obtain⟨f0,f1,f2,_⟩:=hf p.1 hb;obtain⟨o,e',d⟩:=ho p.1 hb;rw[e] at e';cases e';exact⟨e,f0,f1,f2,d⟩
theorem Inv.unpinned{pl:List (Addr×Obj)}(I:Inv X (pins++pl) σ H s):Inv X pins σ H s:=I.pins_of λ p hp=>I.pin p (GR _ (K3 _ hp))
theorem iJ{iter:Expr}{wi:TI}{pos:Pos}(hp:PassesOwn (model X.prog X.w) X.A X.env X.xe)(hc:X.calm=true)(hi:PI X tg iter wi)(hg:PG X tg g)(hb:PSs X body tb)
  (hs:∀x,foldedSetIterable iter X.env x=pure x:=by intro _;rfl):PS X (.For tg iter body [] pos) (qG wi g tb):=by
 intro pins s σ H D I h;refine wpAny_For (B3 (hi pins s σ H _ I h) λ v s1 h1=>B3 h1 λ itv s2 h2=>?_) hs;obtain⟨it,fp,tn,J,H2,e,I2,T,st2,f2,W,⟨m0,w0⟩,turn⟩:=h2;subst e;have stat:∀{H':Hp},(∀b∈fp,H' b=none)->∀b∈fp,FK X pins H' b:=λ hn b hb=>⟨hn b hb,(f2 b hb).2⟩
 refine codeAny_forLoop_any (λ n s'=>∃i σ' H',Inv X pins σ' H' s'/\tn i s'.heap/\(∀b∈fp,H' b=none)/\W i n σ' H') ?_ m0 ⟨0,σ,H2,I2,st2,λ b hb=>(f2 b hb).1,w0⟩;intro n s3 z9;obtain⟨i,σ3,H3,I3,st3,fr3,w3⟩ := z9;rcases turn i n σ3 H3 w3 with⟨stop,qn⟩|⟨go,N,hN,step⟩
 ·refine wpAny_passesOwn hp (B3 (T.done X rfl rfl rfl hc i pins s3 σ3 H3 X.xe I3 (stat fr3) st3 stop) λ r s4 z9=>?_);obtain⟨hr,I4⟩ := z9;subst hr;exact wpAny_execs_nil ⟨σ3,H3,I4,qn⟩
 ·refine wpAny_passesOwn hp (B3 (T.item X rfl rfl rfl hc i pins s3 σ3 H3 X.xe I3 (stat fr3) st3 go) λ r s4 z9=>?_);obtain⟨u,hr,h4⟩ := z9;subst hr;refine wpAny_passesOwn hp (B3 h4 λ _ s5 z9=>?_);obtain⟨x,H5,I5,r5,y5,st5,fr5⟩ := z9;have I5':=I5.pinned (stat fr5) (T.obj _ _ st5);refine wpAny_passesOwn hp (B3 (hg _ s5 σ3 H5 x u _ I5' r5 (step x H5 y5)) λ _ s6 z9=>?_);obtain⟨σ6,H6,I6,q6⟩ := z9;refine wpAny_passesOwn hp (B3 (hb _ s6 σ6 H6 _ I6 q6) λ f s7 q7=>?_);have again:∀{σ7:St}{H7:Hp},Inv X (pins++SS fp s5.heap) σ7 H7 s7->N σ7 H7->∃m,m<n/\∃i σ' H',Inv X pins σ' H' s7/\tn i s7.heap/\(∀b∈fp,H' b=none)/\W i m σ' H':=λ {σ7 H7} I7 n7=>by
   obtain⟨m',hm,w7⟩:=hN σ7 H7 n7;refine⟨m',hm,i+1,σ7,H7,I7.unpinned,T.keep _ _ _ st5 λ b hb o e=>(I7.pin (b,o) (GR _ (GR _ (SK hb e)))).1,λ b hb=>?_,w7⟩;obtain⟨o,e,d⟩:=T.obj _ _ st5 b hb;exact(I7.pin (b,o) (GR _ (GR _ (SK hb e)))).2.1
  cases f with
  |next=>obtain⟨σ7,H7,I7,n7⟩:=q7;exact again I7 n7
  |cont=>obtain⟨σ7,H7,I7,n7⟩:=q7;exact again I7 n7
  |brk=>obtain⟨σ7,H7,I7,q7⟩:=q7;exact⟨σ7,H7,I7.unpinned,q7⟩
  |ret v=>obtain⟨x7,σ7,H7,I7,r7,q7⟩:=q7;exact⟨x7,σ7,H7,I7.unpinned,r7,q7⟩
theorem GI{xs:List V}(Pv:Nat->St->Hp->Prop)(h0:Pv 0 σ H)(hl:∀i σ H,i<=xs.length->Pv i σ H->SqL K H a xs)
  (hs:∀i x σ H,xs[i]?=some x->Pv i σ H->g x σ H λ σ2 H2=>tb { D with nx:=Pv (i+1),ct:=Pv (i+1),bk:=D.nx } σ2 H2) (hd:∀σ H,Pv xs.length σ H->D.nx σ H) :
  ∃W:Nat->Nat->St->Hp->Prop,(∃m,W 0 m σ H)/\∀i m σ H,W i m σ H ->
   ((cY K a).stop i H/\D.nx σ H)\/((cY K a).go i H/\∃N:St->Hp->Prop,(∀σ' H',N σ' H'->∃m',m'<m/\W (i+1) m' σ' H')/\∀x H',(cY K a).yld i H x H'->g x σ H' λ σ2 H2=>tb { D with nx:=N,ct:=N,bk:=D.nx } σ2 H2):=by
 refine⟨λ i m σ H=>m=xs.length-i/\i<=xs.length/\Pv i σ H,⟨xs.length,by simp,HV _,h0⟩,?_⟩;intro i m σ H z9;obtain⟨rfl,hi,p⟩ := z9;have q:=hl i σ H hi p
 by_cases hlt:i<xs.length
 ·refine .inr ⟨⟨xs,xs[i],q,by simp[hlt]⟩,Pv (i+1),λ σ' H' p'=>⟨xs.length-(i+1),⋯,rfl,hlt,p'⟩,λ x H' y=>?_⟩;obtain⟨e,y⟩:=y;subst e;exact hs i x σ _ (y xs q) p
 ·have e:i=xs.length:=⋯;subst e;exact .inl ⟨⟨xs,q,BU _⟩,hd σ H p⟩
theorem NN{lo:Int}(Pv:Nat->St->Hp->Prop)(h0:Pv 0 σ H)
  (hs:∀i σ H,i<n->Pv i σ H->g (.int (lo+i)) σ H λ σ2 H2=>tb { D with nx:=Pv (i+1),ct:=Pv (i+1),bk:=D.nx } σ2 H2) (hd:∀σ H,Pv n σ H->D.nx σ H) :
  ∃W:Nat->Nat->St->Hp->Prop,(∃m,W 0 m σ H)/\∀i m σ H,W i m σ H ->
   ((dP lo n).stop i H/\D.nx σ H)\/((dP lo n).go i H/\∃N:St->Hp->Prop,(∀σ' H',N σ' H'->∃m',m'<m/\W (i+1) m' σ' H')/\∀x H',(dP lo n).yld i H x H'->g x σ H' λ σ2 H2=>tb { D with nx:=N,ct:=N,bk:=D.nx } σ2 H2):=by
 refine⟨λ i m σ H=>m=n-i/\i<=n/\Pv i σ H,⟨n,by simp,HV _,h0⟩,?_⟩;intro i m σ H z9;obtain⟨rfl,hi,p⟩ := z9
 by_cases hlt:i<n
 ·refine .inr ⟨hlt,Pv (i+1),λ σ' H' p'=>⟨n-(i+1),⋯,rfl,hlt,p'⟩,λ x H' y=>?_⟩;obtain⟨e,y⟩:=y;subst e y;exact hs i σ _ hlt p
 ·have e:i=n:=⋯;subst e;exact .inl ⟨BU _,hd σ H p⟩
theorem U1{c:TT}(Pv:St->Hp->Prop)(μ:St->Hp->Nat)(h0:Pv σ H)
  (hs:∀σ H,Pv σ H->c σ H λ b H1=>if b=true then tb { D with nx:=λ σ' H'=>Pv σ' H'/\μ σ' H'<μ σ H,ct:=λ σ' H'=>Pv σ' H'/\μ σ' H'<μ σ H,bk:=D.nx } σ H1 else D.nx σ H1)
  (mono:∀σ H Q Q',(∀b H1,Q b H1->Q' b H1)->c σ H Q->c σ H Q'):tWhile c tb D σ H:=by
 refine⟨λ m σ H=>m=μ σ H/\Pv σ H,⟨_,U,h0⟩,?_⟩;intro m σ H z9;obtain⟨rfl,p⟩ := z9;refine mono σ H _ _ (λ b H1 q=>?_) (hs σ H p);cases b with
 |true=>exact⟨_,λ σ' H' ⟨p',l⟩=>⟨_,l,rfl,p'⟩,q⟩
 |false=>exact q
abbrev R2:=V->V->Hp->VK->Prop
variable {r:R2}
def FI(X:Cx)(f:Value->Value->Sem Value)(r:R2):Prop :=
 ∀(pins:List (Addr×Obj)) (s:Shared) (σ:St) (H:Hp) (x y:V) (v u:Value) (Q:VK),Inv X pins σ H s->RelV x v->RelV y u->r x y H Q ->
  wpAny (model X.prog X.w) X.A (f v u) (EP X pins σ Q) X.xe s
def sC(X:Cx)(f:Value->Sem Value)(r:V->Hp->VK->Prop):Prop :=
 ∀(pins:List (Addr×Obj)) (s:Shared) (σ:St) (H:Hp) (x:V) (v:Value) (Q:VK),Inv X pins σ H s->RelV x v->r x H Q ->
  wpAny (model X.prog X.w) X.A (f v) (EP X pins σ Q) X.xe s
def DO(X:Cx)(f:Value)(r:List V->Hp->VK->Prop):Prop :=
 ∀(pins:List (Addr×Obj)) (s:Shared) (σ:St) (H:Hp) (xs:List V) (us:List Value) (Q:VK),Inv X pins σ H s->Vals xs us->r xs H Q ->
  wpAny (model X.prog X.w) X.A (call f us) (EP X pins σ Q) X.xe s
def aP(r:R2)(ta tb:TE):TE:=λ σ H Q=>ta σ H λ x H1=>tb σ H1 λ y H2=>r x y H2 Q
def Bm(r:V->Hp->VK->Prop)(ta:TE):TE:=λ σ H Q=>ta σ H λ x H1=>r x H1 Q
inductive rI(C:Int->Int->Prop)(g:Int->Int->V)(x:V)(y:V)(H:Hp)(Q:VK):Prop
 |mk (i:_) (j:_):x=.int i->y=.int j->C i j->Q (g i j) H->rI C g x y H Q
inductive rI0(g:Int->Int->V)(x:V)(y:V)(H:Hp)(Q:VK):Prop
 |mk (i:_) (j:_):x=.int i->y=.int j->Q (g i j) H->rI0 g x y H Q
inductive rU(g:Int->V)(x:V)(H:Hp)(Q:VK):Prop
 |mk (i:_):x=.int i->Q (g i) H->rU g x H Q
section
variable {a b:Expr}{tb tc:TE}
theorem gH(ha:PE X a ta)(hb:PE X b tb){R:V->V->Hp->Prop}(I:Inv X pins σ H s)
  (h:ta σ H λ x H1=>tb σ H1 λ y H2=>R x y H2) {Q:Value->Shared->Prop} {f:Value->Value->Sem Value}
  (hf:∀v u s2 x y H2,Inv X pins σ H2 s2->RelV x v->RelV y u->R x y H2->wpAny (model X.prog X.w) X.A (f v u) Q X.xe s2) :
  wpAny (model X.prog X.w) X.A (eval a X.env) (λ v s₁=>wpAny (model X.prog X.w) X.A (eval b X.env) (λ u s₂=>wpAny (model X.prog X.w) X.A (f v u) Q X.xe s₂) X.xe s₁) X.xe s:=by
 refine B3 (ha pins s σ H _ I h) λ v s1 z9=>?_
 obtain⟨x,H1,I1,r1,q1⟩ := z9;refine B3 (hb pins s1 σ H1 _ I1 q1) λ u s2 z9=>?_
 obtain⟨y,H2,I2,r2,q2⟩ := z9;exact hf v u s2 x y H2 I2 r1 r2 q2
theorem dB{op:Operator}(ho:FI X (binaryOp op) r)(ha:PE X a ta)(hb:PE X b tb):PE X (.BinOp a op b pos) (aP r ta tb):=by
 intro pins s σ H Q I h;exact wpAny_BinOp (gH ha hb I h λ v u s2 x y H2 I2 rx ry q=>ho pins s2 σ H2 x y v u Q I2 rx ry q)
theorem nM{op:UnaryOp}{r:V->Hp->VK->Prop}(ho:sC X (unaryOp op) r)(ha:PE X a ta):PE X (.UnaryOp op a pos) (Bm r ta):=by
 intro pins s σ H Q I h;exact UnaryOp_ (B3 (ha pins s σ H _ I h) λ v s1 ⟨x,H1,I1,r1,q1⟩=>ho pins s1 σ H1 x v Q I1 r1 q1)
theorem rQ{f:Value->Value->Sem Value}{C:Int->Int->Prop}{g:Int->Int->Int}
  (rule:∀(i j:Int)(t u:Tok)(s:Shared)(Q:Value->Shared->Prop)(E:Value->Shared->Prop),C i j->Q (.int (g i j) s.toks) { s with toks:=s.toks+1 }->wpAny (model X.prog X.w) X.A (f (.int i t) (.int j u)) Q E s) :
  FI X f (rI C λ i j=>.int (g i j)):=by
 intro pins s σ H x y v u Q I rx ry h;obtain⟨i,j,rfl,rfl,hc,q⟩:=h;obtain⟨t,rfl⟩:=rx;obtain⟨t',rfl⟩:=ry;exact rule i j t t' s _ _ hc ⟨.int (g i j),H,I.tok _,⟨_,rfl⟩,q⟩
theorem lS{f:Value->Value->Sem Value}{g:Int->Int->Int}
  (rule:∀(i j:Int)(t u:Tok)(s:Shared)(Q:Value->Shared->Prop)(E:Value->Shared->Prop),Q (.int (g i j) s.toks) { s with toks:=s.toks+1 }->wpAny (model X.prog X.w) X.A (f (.int i t) (.int j u)) Q E s) :
  FI X f (rI0 λ i j=>.int (g i j)):=by
 intro pins s σ H x y v u Q I rx ry h;obtain⟨i,j,rfl,rfl,q⟩:=h;obtain⟨t,rfl⟩:=rx;obtain⟨t',rfl⟩:=ry;exact rule i j t t' s _ _ ⟨.int (g i j),H,I.tok _,⟨_,rfl⟩,q⟩
theorem Y3{f:Value->Value->Sem Value}{g:Int->Int->Bool}
  (rule:∀(i j:Int)(t u:Tok)(s:Shared)(Q:Value->Shared->Prop)(E:Value->Shared->Prop),Q (.bool (g i j)) s->wpAny (model X.prog X.w) X.A (f (.int i t) (.int j u)) Q E s) :
  FI X f (rI0 λ i j=>.bl (g i j)):=by
 intro pins s σ H x y v u Q I rx ry h;obtain⟨i,j,rfl,rfl,q⟩:=h;obtain⟨t,rfl⟩:=rx;obtain⟨t',rfl⟩:=ry;exact rule i j t t' s _ _ ⟨.bl (g i j),H,I,rfl,q⟩
def lU(i j:Int):Prop:=0<=j/\j<=1000000/\i.natAbs<2 ^ 64
def CMul(i j:Int):Prop:=(-(2 ^ 64)<i/\i<2 ^ 64)\/(-(2 ^ 64)<j/\j<2 ^ 64)
theorem CMul.ok{i j:Int}(h:CMul i j):IntMulOk i j:=by
 rcases h with⟨h1,h2⟩|⟨h1,h2⟩
 ·exact .of_left (intBits_le_64 h1 h2)
 ·exact .of_right (intBits_le_64 h1 h2)
theorem S3:FI X (binaryOp .Add) (rI0 λ i j=>.int (i+j)):=lS λ _ _ _ _ _ _ _ q=>add_int q
theorem j9:FI X (binaryOp .Sub) (rI0 λ i j=>.int (i-j)):=lS λ _ _ _ _ _ _ _ q=>sub_int q
theorem iS:FI X (binaryOp .Mult) (rI CMul λ i j=>.int (i*j)):=rQ λ _ _ _ _ _ _ _ hc q=>mul_int q hc.ok
theorem jY:FI X (binaryOp .Mod) (rI (λ _ j=>0<j) λ i j=>.int (i%j)):=rQ λ i j _ _ _ _ _ hc q=>by
 have h1:(0:Int)<j:=hc;exact mod_int' ⋯ (by rw[Int.fmod_eq_emod_of_nonneg i ⋯];exact q)
theorem jM:FI X (binaryOp .Pow) (rI lU λ i j=>.int (i ^ j.toNat)):=rQ λ _ _ _ _ _ _ _ hc q=>pow_int_small hc.1 hc.2.1 hc.2.2 q
theorem Bu{f:Value->Sem Value}{g:Int->Int}
  (rule:∀(i:Int)(t:Tok)(s:Shared)(Q:Value->Shared->Prop)(E:Value->Shared->Prop),Q (.int (g i) s.toks) { s with toks:=s.toks+1 }->wpAny (model X.prog X.w) X.A (f (.int i t)) Q E s) :
  sC X f (rU λ i=>.int (g i)):=by
 intro pins s σ H x v Q I rx h;obtain⟨i,rfl,q⟩:=h;obtain⟨t,rfl⟩:=rx;exact rule i t s _ _ ⟨.int (g i),H,I.tok _,⟨_,rfl⟩,q⟩
theorem gU:sC X (unaryOp .USub) (rU λ i=>.int (-i)):=Bu λ _ _ _ _ _ q=>neg_int q
def fB:V->V->Bool
 | .non,.non=>true | .non,.int _=>true | .int _,.non=>true | .non,.bl _=>true | .bl _,.non=>true | .non,.str _=>true | .str _,.non=>true
 | .int _,.int _=>true | .bl _,.bl _=>true | .str _,.str _=>true | .byt _,.byt _=>true
 | .int _,.str _=>true | .str _,.int _=>true | .bl _,.str _=>true | .str _,.bl _=>true
 |_,_=>false
inductive rEq(x:V)(y:V)(H:Hp)(Q:VK):Prop
 |mk  : fB x y=true->Q (.bl (decide (x=y))) H->rEq x y H Q
inductive rNe(x:V)(y:V)(H:Hp)(Q:VK):Prop
 |mk  : fB x y=true->Q (.bl (!decide (x=y))) H->rNe x y H Q
theorem MM{i j:Int}:decide (V.int i=V.int j)=(i==j):=by
 rw[SV];simp
theorem U2{i j:Bool}:decide (V.bl i=V.bl j)=(i==j):=by
 rw[SV];simp
theorem MC{i j:Str}:decide (V.str i=V.str j)=(i==j):=by
 rw[SV];simp
theorem MD{i j:Array UInt8}:decide (V.byt i=V.byt j)=(i.toList==j.toList):=by
 rw[SV];cases i;cases j;simp
theorem CY{Q:VK}{k k':Bool}(I:Inv X pins σ H s)(q:Q (.bl k) H)(e:k=k'):EP X pins σ Q (.bool k') s:=by
 subst e;exact⟨.bl k,H,I,U,q⟩
theorem mM:FI X (compareOp .Eq) rEq:=by
 intro pins s σ H x y v u Q I rx ry h;obtain⟨hs,q⟩:=h;cases x with
 |non =>
  cases rx;cases y with
  |non=>cases ry;exact PySem.EqNone.eq_none_none (CY I q (by simp))
  |bl j=>cases ry;exact PySem.EqNone.eq_none_bool (CY I q (by simp))
  |int j=>obtain⟨t',rfl⟩:=ry;exact PySem.EqNone.eq_none_int (CY I q (by simp))
  |str j=>obtain⟨t',rfl⟩:=ry;exact PySem.EqNone.eq_none_str (CY I q (by simp))
  |_=>exact absurd (show false=true from hs) HB
 |bl i =>
  cases rx;cases y with
  |non=>cases ry;exact PySem.EqNone.eq_bool_none (CY I q (by simp))
  |bl j=>cases ry;exact eq_bool (CY I q U2)
  |str j=>obtain⟨t',rfl⟩:=ry;exact PySem.EqMixed.eq_bool_str (CY I q (by simp))
  |_=>exact absurd (show false=true from hs) HB
 |int i =>
  obtain⟨t,rfl⟩:=rx;cases y with
  |non=>cases ry;exact PySem.EqNone.eq_int_none (CY I q (by simp))
  |int j=>obtain⟨t',rfl⟩:=ry;exact eq_int (CY I q MM)
  |str j=>obtain⟨t',rfl⟩:=ry;exact PySem.EqMixed.eq_int_str (CY I q (by simp))
  |_=>exact absurd (show false=true from hs) HB
 |str i =>
  obtain⟨t,rfl⟩:=rx;cases y with
  |non=>cases ry;exact PySem.EqNone.eq_str_none (CY I q (by simp))
  |bl j=>cases ry;exact PySem.EqMixed.eq_str_bool (CY I q (by simp))
  |int j=>obtain⟨t',rfl⟩:=ry;exact PySem.EqMixed.eq_str_int (CY I q (by simp))
  |str j=>obtain⟨t',rfl⟩:=ry;exact eq_str (CY I q MC)
  |_=>exact absurd (show false=true from hs) HB
 |byt i =>
  obtain⟨t,rfl⟩:=rx;cases y with
  |byt j=>obtain⟨t',rfl⟩:=ry;exact W.eq_bytes (CY I q MD)
  |_=>exact absurd (show false=true from hs) HB
 |_=>cases y<;>exact absurd (show false=true from hs) HB
theorem pK:FI X (compareOp .NotEq) rNe:=by
 intro pins s σ H x y v u Q I rx ry h;obtain⟨hs,q⟩:=h;cases x with
 |non =>
  cases rx;cases y with
  |non=>cases ry;exact PySem.EqNone.ne_none_none (CY I q (by simp))
  |bl j=>cases ry;exact PySem.EqNone.ne_none_bool (CY I q (by simp))
  |int j=>obtain⟨t',rfl⟩:=ry;exact PySem.EqNone.ne_none_int (CY I q (by simp))
  |str j=>obtain⟨t',rfl⟩:=ry;exact PySem.EqNone.ne_none_str (CY I q (by simp))
  |_=>exact absurd (show false=true from hs) HB
 |bl i =>
  cases rx;cases y with
  |non=>cases ry;exact PySem.EqNone.ne_bool_none (CY I q (by simp))
  |bl j=>cases ry;exact ne_bool (CY I q (congrArg not U2))
  |str j=>obtain⟨t',rfl⟩:=ry;exact PySem.EqMixed.ne_bool_str (CY I q (by simp))
  |_=>exact absurd (show false=true from hs) HB
 |int i =>
  obtain⟨t,rfl⟩:=rx;cases y with
  |non=>cases ry;exact PySem.EqNone.ne_int_none (CY I q (by simp))
  |int j=>obtain⟨t',rfl⟩:=ry;exact ne_int (CY I q (congrArg not MM))
  |str j=>obtain⟨t',rfl⟩:=ry;exact PySem.EqMixed.ne_int_str (CY I q (by simp))
  |_=>exact absurd (show false=true from hs) HB
 |str i =>
  obtain⟨t,rfl⟩:=rx;cases y with
  |non=>cases ry;exact PySem.EqNone.ne_str_none (CY I q (by simp))
  |bl j=>cases ry;exact PySem.EqMixed.ne_str_bool (CY I q (by simp))
  |int j=>obtain⟨t',rfl⟩:=ry;exact PySem.EqMixed.ne_str_int (CY I q (by simp))
  |str j=>obtain⟨t',rfl⟩:=ry;exact ne_str (CY I q (congrArg not MC))
  |_=>exact absurd (show false=true from hs) HB
 |byt i =>
  obtain⟨t,rfl⟩:=rx;cases y with
  |byt j=>obtain⟨t',rfl⟩:=ry;exact W.ne_bytes (CY I q (congrArg not MD))
  |_=>exact absurd (show false=true from hs) HB
 |_=>cases y<;>exact absurd (show false=true from hs) HB
theorem dY:FI X (compareOp .Lt) (rI0 λ i j=>.bl (decide (i<j))):=Y3 λ _ _ _ _ _ _ _ q=>lt_int q
theorem SX:FI X (compareOp .LtE) (rI0 λ i j=>.bl (decide (i<=j))):=Y3 λ _ _ _ _ _ _ _ q=>le_int q
theorem nN:FI X (compareOp .Gt) (rI0 λ i j=>.bl (decide (j<i))):=Y3 λ _ _ _ _ _ _ _ q=>gt_int q
theorem qF:FI X (compareOp .GtE) (rI0 λ i j=>.bl (decide (j<=i))):=Y3 λ _ _ _ _ _ _ _ q=>ge_int q
theorem AS(b:Expr)(h:op ≠ .In:=by decide)(h2:op ≠ .NotIn:=by decide):behindInMarks op b=false:=by
 have e1:(op==CmpOp.In)=false:=by cases op<;>first|rfl|exact absurd rfl h
 have e2:(op==CmpOp.NotIn)=false:=by cases op<;>first|rfl|exact absurd rfl h2
 cases b<;>simp[behindInMarks,e1,e2]
theorem ZZ(ho:FI X (compareOp op) r)(ha:PE X a ta)(hb:PE X b tb)(hm:behindInMarks op b=false):PE X (.Compare a [op] [b] pos) (aP r ta tb):=by
 intro pins s σ H Q I h;exact wpAny_Compare1 (gH ha hb I h λ v u s2 x y H2 I2 rx ry q=>ho pins s2 σ H2 x y v u Q I2 rx ry q) hm
def N5(t:TE):TT:=λ σ H Q=>t σ H λ x H'=>∃k,x=.bl k/\Q k H'
theorem WA(ho:FI X (compareOp op) r)(ha:PE X a ta)(hb:PE X b tb)(hm:behindInMarks op b=false):PT X (.Compare a [op] [b] pos) (N5 (aP r ta tb)):=by
 intro pins s σ H Q I h;refine wpAny_isTrue_Compare1 (B3 (ha pins s σ H _ I h) λ v s1 ⟨x,H1,I1,r1,q1⟩=>B3 (hb pins s1 σ H1 _ I1 q1) λ u s2 ⟨y,H2,I2,r2,q2⟩ =>
  B3 (ho pins s2 σ H2 x y v u _ I2 r1 r2 q2) λ c s3 ⟨z,H3,I3,r3,k,e,q3⟩=>?_) hm
 subst e;cases r3;exact wpAny_truthy_bool ⟨H3,I3,q3⟩
def JA(r r':R2)(ta tb tc:TE):TE:=λ σ H Q=>ta σ H λ x H1=>tb σ H1 λ y H2=>r x y H2 λ z H3=>∃k,z=.bl k /\
 (if k=true then tc σ H3 λ w' H4=>r' y w' H4 Q else Q (.bl false) H3)
theorem UP{op':CmpOp}{r':R2}(ho:FI X (compareOp op) r)(ho':FI X (compareOp op') r')(ha:PE X a ta)(hb:PE X b tb)(hc:PE X c tc)
  (hm:lastMarks [op,op'] [b,c]=false:=by with_unfolding_all rfl):PE X (.Compare a [op,op'] [b,c] pos) (JA r r' ta tb tc):=by
 intro pins s σ H Q I h;refine Compare_chain (B3 (ha pins s σ H _ I h) λ v s1 ⟨x,H1,I1,r1,q1⟩=>chain_link (B3 (hb pins s1 σ H1 _ I1 q1) λ u s2 ⟨y,H2,I2,r2,q2⟩ =>
  B3 (ho pins s2 σ H2 x y v u _ I2 r1 r2 q2) λ d s3 ⟨z,H3,I3,r3,k,e,q3⟩=>?_)) hm
 subst e;cases r3;refine wpAny_truthy_bool ?_;cases k with
 |false=>exact ite_ff ⟨.bl false,H3,I3,rfl,q3⟩
 |true=>exact ite_tt (chain_last (B3 (hc pins s3 σ H3 _ I3 q3) λ w' s4 ⟨z',H4,I4,r4,q4⟩=>ho' pins s4 σ H4 y z' u w' Q I4 r2 r4 q4))
theorem SG{op':CmpOp}{r':R2}(ho:FI X (compareOp op) r)(ho':FI X (compareOp op') r')(ha:PE X a ta)(hb:PE X b tb)(hc:PE X c tc)
  (hm:lastMarks [op,op'] [b,c]=false:=by with_unfolding_all rfl):PT X (.Compare a [op,op'] [b,c] pos) (N5 (JA r r' ta tb tc)):=by
 intro pins s σ H Q I h;refine isTrue_chain (B3 (ha pins s σ H _ I h) λ v s1 ⟨x,H1,I1,r1,q1⟩=>test_link (B3 (hb pins s1 σ H1 _ I1 q1) λ u s2 ⟨y,H2,I2,r2,q2⟩ =>
  B3 (ho pins s2 σ H2 x y v u _ I2 r1 r2 q2) λ d s3 ⟨z,H3,I3,r3,k,e,q3⟩=>?_)) hm
 subst e;cases r3;refine wpAny_truthy_bool ?_;cases k with
 |false =>
  obtain⟨k',e',q'⟩:=q3;cases e';exact ite_ff ⟨H3,I3,q'⟩
 |true =>
  refine ite_tt (test_last (B3 (hc pins s3 σ H3 _ I3 q3) λ w' s4 ⟨z',H4,I4,r4,q4⟩=>B3 (ho' pins s4 σ H4 y z' u w' _ I4 r2 r4 q4) λ d' s5 z9=>?_));obtain⟨z2,H5,I5,r5,k2,e2,q5⟩ := z9;subst e2;cases r5;exact wpAny_truthy_bool ⟨H5,I5,q5⟩
theorem KO:(sizeLine:Nat)<2 ^ 63:=by rw[sizeLine_eq];decide
theorem tJ:FI X (binaryOp .Add) (λ x y H Q=>∃i j,x=.str i/\y=.str j/\i.length+j.length<=sizeLine/\Q (.str (i++j)) H):=by
 intro pins s σ H x y v u Q I rx ry h;obtain⟨i,j,rfl,rfl,hz,q⟩:=h;obtain⟨t,rfl⟩:=rx;obtain⟨t',rfl⟩:=ry;exact add_str (λ t' tk=>⟨.str (i++j),H,I.tok _,⟨_,rfl⟩,q⟩) hz
theorem E7{x:V}(r:Vals [x] us):∃u,us=[u]/\RelV x u:=by
 cases r with
 |cons r1 r2=>cases r2;exact⟨_,rfl,r1⟩
theorem dR{x y:V}(r:Vals [x,y] us):∃u w',us=[u,w']/\RelV x u/\RelV y w':=by
 cases r with
 |cons r1 r2 =>
  cases r2 with
  |cons r3 r4=>cases r4;exact⟨_,_,rfl,r1,r3⟩
theorem O6(hc:X.calm=true):DO X (.builtin "max") (λ xs H Q=>∃i j,xs=[.int i,.int j]/\Q (.int (if j>i then j else i)) H):=by
 intro pins s σ H xs us Q I r h;obtain⟨i,j,rfl,q⟩:=h;obtain⟨u,w',rfl,⟨t,rfl⟩,⟨t',rfl⟩⟩:=dR r;refine max_two_ints (I.ok.hd hc) λ h' tk k=>⟨_,H,I.kept k,?_,q⟩
 by_cases hj:j>i
 ·rw[if_pos hj,if_pos hj];exact⟨_,rfl⟩
 ·rw[if_neg hj,if_neg hj];exact⟨_,rfl⟩
theorem NF(hc:X.calm=true):DO X (.builtin "min") (λ xs H Q=>∃i j,xs=[.int i,.int j]/\Q (.int (if j<i then j else i)) H):=by
 intro pins s σ H xs us Q I r h;obtain⟨i,j,rfl,q⟩:=h;obtain⟨u,w',rfl,⟨t,rfl⟩,⟨t',rfl⟩⟩:=dR r;refine min_two_ints (I.ok.hd hc) λ h' tk k=>⟨_,H,I.kept k,?_,q⟩
 by_cases hj:j<i
 ·rw[if_pos hj,if_pos hj];exact⟨_,rfl⟩
 ·rw[if_neg hj,if_neg hj];exact⟨_,rfl⟩
theorem w9:DO X (.type "str") (λ xs H Q=>∃i,xs=[.int i]/\i.natAbs.log2<1920/\Q (.str (toString i)) H):=by
 intro pins s σ H xs us Q I r h;obtain⟨i,rfl,hz,q⟩:=h;obtain⟨u,rfl,t,rfl⟩:=E7 r;exact PySem.P.str_of_int hz ⟨.str _,H,I.tok _,⟨_,rfl⟩,q⟩
end
structure ObjM(h:Heap)(x dx C:Addr)(mA:Str->Option Value):Prop where
 obj:h.get? x=some (W.instObj C dx)
 ns:h.Ns1 dx mA
 ne:dx≠x
theorem QC(n:h.Ns1 dx mA):∃od,h.get? dx=some od/\∀name,W.lookIn name od=some (mA name):=by
 obtain⟨o,es,ep,ho,hd,hk,_,hm⟩:=n;refine⟨o,ho,λ name=>?_⟩;have e:=hm name;unfold nsFind findBy at e;rw[<- Array.find?_toList] at e;unfold W.lookIn;rw[hd];dsimp only;split
 ·rename_i y q
  rw[q] at e;exact congrArg some e
 ·rename_i q
  rw[q] at e;have a:es.toList.any (·.refKey)=false:=by
   rw[List.any_eq_false];intro y hy;obtain⟨z,t,hkey⟩:=hk y (sN.mp hy);simp[DictEntry.refKey,hkey]
  have a':¬es.toList.any (·.refKey)=true:=by rw[a];exact HB
  rw[if_neg a'];exact congrArg some e
theorem ObjM.look{x:Addr}(I:ObjM h x dx C mA):∃od,W.InstAt h x (W.instObj C dx) C (some od)/\∀name,W.lookIn name od=some (mA name) :=
 let ⟨od,ho,hl⟩:=QC I.ns
 ⟨od,⟨I.obj,rfl,rfl,ho⟩,hl⟩
section
variable {prog:Program}{x f:Addr}{name:Str}{v:Value}
theorem X0{expr:Bool}(X:K.In s.heap)(I:ObjM s.heap x dx C mA)(hg:W.plainGet K C name=true)(hh:W.hasDictIn K C=true)
  (ha:W.findIn K (.ref C) name=some none) (hv:mA name=some v) (hv':W.handedIn v=true) (h:Q v { s with toks:=s.toks+1 }) :
  wpAny (model prog w) A (getAttr (.ref x) name expr) Q E s:=by
 obtain⟨od,J,hl⟩:=I.look;exact W.get_value X J (W.plainGet_of hg).1 (W.findObj_own hh ha rfl (by rw[hl,hv])) hv' h
theorem RD{Q:Value×List Value->Shared->Prop}(X:K.In s.heap)(I:ObjM s.heap x dx C mA)(hg:W.plainGet K C name=true)
  (hf:W.findIn K (.ref C) name=some (some (.ref f))) (ht:W.isFn K (.ref f)=true) (hv:mA name=none) (h:Q (.ref f,[.ref x]) s) :
  wpAny (model prog w) A (getMethod (.ref x) name pl) Q E s:=by
 obtain⟨od,J,hl⟩:=I.look;exact W.method_fn X J (W.plainGet_of hg).1 (W.plainGet_of hg).2 hf (beq_iff_eq.mp ht) (by show(W.lookIn name od).map (·.isSome)=some false;rw[hl,hv];rfl) h
theorem W3{ns:List Str}{Q:Unit->Shared->Prop}(X:K.In s.heap)(I:ObjM s.heap x dx C mA)
  (hs:W.findIn K (.ref C) "__setattr__"=some (some (.builtin "object.__setattr__"))) (hp:W.plainOver K C=true) (ht:W.takerIn K C name=some none) (hh:W.hasDictIn K C=true)
  (hw:PySem.Within mA ns) (hsz:ns.length<=sizeLine)
  (h:∀h',ObjM h' x dx C (λ y=>if y=name then some v else mA y)->Heap.SameBut dx s.heap h'->Q () { s with heap:=h',toks:=s.toks+2 }) :
  wpAny (model prog w) A (setAttr (.ref x) name v) Q E s:=by
 obtain⟨od,J,hl⟩:=I.look;refine W.set_plain X J hs (W.osa_open (s:={ s with toks:=s.toks+1 }) (r:=none) X J hp ht λ b=>?_);obtain⟨cd,hc,hd'⟩:=W.any_some hh;have hx:s.heap.get? x=some ⟨.ref C,some dx,.plain,#[]⟩:=I.obj;refine wpAny_bind (wpAny_pure (wpAny_bind (wpAny_bind (wpAny_loadPart hx (wpAny_bind (W.Looks.here (s:={ s with toks:=s.toks+1 }) (W.looks_clsIn X hc) ?_))))));rw[hd'];refine wpAny_pure (a:=some dx) (wpAny_bind (wpAny_pure (wpAny_bind ?_)));refine wpAny_nsSet1 (s:={ s with toks:=s.toks+1 }) I.ns λ h' hn2 hs2=>?_
 obtain⟨oD,esD,epD,hoD,hdD,hcD⟩:=hn2.count (PySem.Within.cons name v hw);refine wpAny_bind (wpAny_lookBehind hoD (by rw[hdD];exact pastItsLine_dict (FB hcD (by rw[KD];omega))) ?_);exact wpAny_pure (h _ ⟨(hs2.2 _ (Ne.symm I.ne)).trans I.obj,hn2,I.ne⟩ hs2)
theorem VR{R:Result->Shared->Prop}{vs:List Value}(X:K.In s.heap)(hm:W.makesIn K C=true)
  (hi:W.findIn K (.ref C) "__init__"=some (some (.ref f))) (hf:W.typeIn K (.ref f)=some (.type "function"))
  (h:codeAny (model prog w) (A.under (.builtin "type.__call__" ⟨.ref C::vs,kw⟩)) (.call (.ref f) ⟨.ref (s.heap.objs.size+1)::vs,kw⟩) (W.InitBack (s.heap.objs.size+1) R)
   { s with heap:=(s.heap.push W.emptyDict).push (W.instObj C s.heap.objs.size) }) :
  codeAny (model prog w) A (.call (.ref C) ⟨vs,kw⟩) R s:=by
 obtain⟨hh,g,d,t,os⟩:=s;exact W.make_core (W.makes_of X hm) (W.looks_findIn X hi) (λ self=>W.bind_fn X self hf) (.inl rfl) h
end
def DU(f:Str)(v:V):List (Str×V)->List (Str×V)
 | []=>[(f,v)]
 | (g,x)::r=>if g=f then(g,v)::r else(g,x)::DU f v r
theorem oM(f g:Str)(v:V):∀fs:List (Str×V),(DU f v fs).lookup g=if g=f then some v else fs.lookup g
 | []=>by
  show fO g [(f,v)]=_
  by_cases h:g=f
  ·have hb:(g==f)=true:=beq_iff_eq.mpr h;simp only[fO,hb,if_pos h]
  ·have hb:(g==f)=false:=beq_eq_false_iff_ne.mpr h;simp only[fO,hb,if_neg h]
 | (k,x)::r=>by
  have ih:=oM f g v r;rw[show DU f v ((k,x)::r)=(if k=f then(k,v)::r else(k,x)::DU f v r) from rfl]
  by_cases hk:k=f
  ·rw[if_pos hk]
   by_cases h:g=k
   ·have hb:(g==k)=true:=beq_iff_eq.mpr h;simp only[fO,hb,if_pos (h.trans hk)]
   ·have hb:(g==k)=false:=beq_eq_false_iff_ne.mpr h;simp only[fO,hb,if_neg (λ e:g=f=>h (e.trans hk.symm))]
  ·rw[if_neg hk]
   by_cases h:g=k
   ·have hb:(g==k)=true:=beq_iff_eq.mpr h;simp only[fO,hb,if_neg (λ e:g=f=>hk (h.symm.trans e))]
   ·have hb:(g==k)=false:=beq_eq_false_iff_ne.mpr h;simp only[fO,hb];exact ih
theorem iN(f:Str)(v:V):∀fs:List (Str×V),f∈(DU f v fs).map (·.1)/\∀g,g∈fs.map (·.1)->g∈(DU f v fs).map (·.1)
 | []=>⟨by simp[DU],λ g h=>by simp at h⟩
 | (k,x)::r=>by
  obtain⟨i1,i2⟩:=iN f v r;rw[show DU f v ((k,x)::r)=(if k=f then(k,v)::r else(k,x)::DU f v r) from rfl]
  by_cases hk:k=f
  ·rw[if_pos hk];subst hk;exact⟨by simp,λ g h=>by simpa using h⟩
  ·rw[if_neg hk];refine⟨?_,λ g h=>?_⟩
   ·rw[PZ];exact ER _ i1
   ·rw[PZ] at h ⊢;rcases C6.mp h with e|e
    ·exact C6.mpr (.inl e)
    ·exact ER _ (i2 g e)
theorem pW(f:Str)(v:V):∀fs:List (Str×V),(DU f v fs).length<=fs.length+1
 | []=>by simp[DU]
 | (k,x)::r=>by
  have ih:=pW f v r;rw[show DU f v ((k,x)::r)=(if k=f then(k,v)::r else(k,x)::DU f v r) from rfl]
  by_cases hk:k=f
  ·rw[if_pos hk,KD,KD];omega
  ·rw[if_neg hk,KD,KD];omega
theorem RelO.some_of{o:Option Value}(r:RelO (some v) o):∃u,o=some u/\RelV v u:=by
 cases o with
 |none=>exact(show False from r).elim
 |some u=>exact⟨u,rfl,r⟩
theorem RelO.none_of{o:Option Value}(r:RelO none o):o=none:=by
 cases o with
 |none=>rfl
 |some u=>exact(show False from r).elim
theorem QN{u:Value}(r:RelV v u):W.handedIn u=true:=by
 cases v with
 |non=>cases (show u=Value.none from r);rfl
 |bl b=>cases (show u=Value.bool b from r);rfl
 |int i=>obtain⟨t,e⟩:=(show ∃t,u=Value.int i t from r);cases e;rfl
 |str x=>obtain⟨t,e⟩:=(show ∃t,u=Value.str x t from r);cases e;rfl
 |byt b=>obtain⟨t,e⟩:=(show ∃t,u=Value.bytes b t from r);cases e;rfl
 |flt b=>obtain⟨t,e⟩:=(show ∃t,u=Value.float b t from r);cases e;rfl
 |ref a=>cases (show u=Value.ref a from r);rfl
 |ty n=>cases (show u=Value.type n from r);rfl
section
variable {fs fs':List (Str×V)}
theorem YL(hok:HOk P w H h)(e:H a=some (.ins C dx fs)):∃mA,ObjM h a dx C mA/\(∀f,RelO (fs.lookup f) (mA f))/\PySem.Within mA (fs.map (·.1))/\fs.length<=1000/\H dx=some (.own a):=by
 obtain⟨d,z,ne,ob,mA,n,r,q⟩:=(show ObjOk P w H h a (.ins C dx fs) from hok a _ e)
 exact⟨mA,⟨ob,n,ne⟩,r,q,z,d⟩
end
structure Cls(K:W.Frag)(C:Addr):Prop where
 pg:W.plainGet K C J5=true
 hd:W.hasDictIn K C=true
 po:W.plainOver K C=true
 sa:W.findIn K (.ref C) "__setattr__"=some (some (.builtin "object.__setattr__"))
theorem Cls.get(c:Cls K C)(f:Str):W.plainGet K C f=true:=c.pg
def NoAttr(K:W.Frag)(C:Addr)(f:Str):Prop:=W.findIn K (.ref C) f=some none
theorem NoAttr.taker{f:Str}(n:NoAttr K C f):W.takerIn K C f=some none:=by
 unfold W.takerIn;rw[show W.findIn K (.ref C) f=some none from n];rfl
structure Meth(K:W.Frag)(C:Addr)(m:Str)(f:Addr):Prop where
 at_:W.findIn K (.ref C) m=some (some (.ref f))
 fn:W.isFn K (.ref f)=true
 kp:W.keepIn K (.ref f)=true
section
variable {fs:List (Str×V)}{f:Str}
theorem wW{b:Bool}(I:Inv X pins σ H s)(e:H a=some (.ins C dx fs))(c:Cls X.K C)(n:NoAttr X.K C f)(l:fs.lookup f=some v)
  (h:∀u s',Inv X pins σ H s'->RelV v u->Q u s'):wpAny (model X.prog X.w) A (getAttr (.ref a) f b) Q E s:=by
 obtain⟨mA,O,r,_,_,_⟩:=YL I.hok e;obtain⟨u,hu,ru⟩:=RelO.some_of (v:=v) (o:=mA f) (by rw[<- l];exact r f);exact X0 I.kIn O (c.get f) c.hd n hu (QN ru) (h u _ (I.tok _) ru)
theorem vL{g:Addr}{Q:Value×List Value->Shared->Prop}(I:Inv X pins σ H s)(e:H a=some (.ins C dx fs))(c:Cls X.K C)(k:Meth X.K C m g)(l:fs.lookup m=none)
  (h:Q (.ref g,[.ref a]) s):wpAny (model X.prog X.w) A (getMethod (.ref a) m pl) Q E s:=by
 obtain⟨mA,O,r,_,_,_⟩:=YL I.hok e;have hn:mA m=none:=RelO.none_of (by rw[<- l];exact r m);exact RD I.kIn O (c.get m) k.at_ k.fn hn h
theorem tF{y:V}{u:Value}{Q:Unit->Shared->Prop}(I:Inv X pins σ H s)(e:H a=some (.ins C dx fs))(c:Cls X.K C)(n:NoAttr X.K C f)(hl:fs.length<1000)(ry:RelV y u)
  (h:∀s',Inv X pins σ (AD H a (.ins C dx (DU f y fs))) s'->Q () s'):wpAny (model X.prog X.w) A (setAttr (.ref a) f u) Q E s:=by
 obtain⟨mA,O,r,wi,_,ho⟩:=YL I.hok e;have hz:(fs.map (·.1)).length<=sizeLine:=by rw[BY,sizeLine_eq];omega
 refine W3 I.kIn O c.sa c.po n.taker c.hd wi hz λ h' O' sb=>h _ ?_
 have hd:∃o,h'.get? dx=some o:=let ⟨o,_,_,e',_⟩:=O'.ns;⟨o,e'⟩;refine I.write (x:=a) (e:=dx) (by rw[e];exact True.intro) (.inr ho) (λ b q hb z=>(sb.2 b hb).trans z) hd ?_;refine⟨by rw[AJ O.ne];exact ho,?_,O.ne,O'.obj,_,O'.ns,λ g=>?_,λ g hg=>?_⟩
 ·have:=pW f y fs;omega
 ·show RelO ((DU f y fs).lookup g) (if g=f then some u else mA g);rw[oM]
  by_cases q:g=f
  ·rw[if_pos q,if_pos q];exact ry
  ·rw[if_neg q,if_neg q];exact r g
 ·by_cases q:g=f
  ·rw[q];exact(iN f y fs).1
  ·refine(iN f y fs).2 g (wi g λ z=>hg ?_);show(if g=f then some u else mA g)=none;rw[if_neg q];exact z
theorem Inv.made(I:Inv X pins σ H s):Inv X pins σ (AD (AD H s.heap.objs.size (.own (s.heap.objs.size+1))) (s.heap.objs.size+1) (.ins C s.heap.objs.size []))
  { s with heap:=(s.heap.push W.emptyDict).push (W.instObj C s.heap.objs.size) }:=by
 have e1:(s.heap.push W.emptyDict).get? s.heap.objs.size=some W.emptyDict:=FF s.heap rfl;have e2:((s.heap.push W.emptyDict).push (W.instObj C s.heap.objs.size)).get? (s.heap.objs.size+1)=some (W.instObj C s.heap.objs.size):=by
  have:=FF (s.heap.push W.emptyDict) (o:=W.instObj C s.heap.objs.size) rfl
  rwa [eG] at this
 have e3:(s.heap.push W.emptyDict).Ns s.heap.objs.size (λ _=>none):=⟨W.emptyDict,#[],_,e1,rfl,(λ e he=>absurd he (by simp)),λ _=>rfl⟩
 have I1:=I.laid (a:=s.heap.objs.size) (o:=.own (s.heap.objs.size+1)) (h':=s.heap.push W.emptyDict) (t':=s.toks) (λ b u q=>DD _ q) (BU _) ⟨_,e1⟩;refine I1.laid (a:=s.heap.objs.size+1) (o:=.ins C s.heap.objs.size []) (t':=s.toks) (λ b u q=>DD _ q) (rM (eG _ _)) ?_;have ne:s.heap.objs.size≠s.heap.objs.size+1:=FZ (vD _);refine⟨by rw[AJ ne,AI],HV _,ne,e2,λ _=>none,(Heap.Ns1.of_empty e3).at λ o q=>DD _ q,λ _=>True.intro,λ y hy=>absurd rfl hy⟩
theorem YT{prog:Program}{env:Env}{f:Str}(hb:attributeBase e f env (eval e env)=eval e env)
  (h:wpAny (model prog w) A (eval e env) (λ o s₁=>wpAny (model prog w) A (getAttr o f true) Q E s₁) E s):wpAny (model prog w) A (eval (.Attribute e f pos) env) Q E s :=
 Attribute_any_ h (by rw[arm_eval_Attribute,hb])
end
def fJ(K:W.Frag)(ta:TE)(f:Str):TE:=λ σ H Q=>ta σ H λ x H1=>∃a C dx fs v,x=.ref a/\H1 a=some (.ins C dx fs)/\Cls K C/\NoAttr K C f/\fs.lookup f=some v/\Q v H1
def qH(K:W.Frag)(ta tv:TE)(f:Str):TS:=λ D σ H=>tv σ H λ y H1=>ta σ H1 λ x H2=>∃a C dx fs,x=.ref a/\H2 a=some (.ins C dx fs)/\Cls K C/\NoAttr K C f/\fs.length<1000 /\
 D.nx σ (AD H2 a (.ins C dx (DU f y fs)))
section
variable {o value:Expr}{f:Str}{tpos:Pos}{tv:TE}
theorem fS(he:PE X e ta)(hb:attributeBase e f X.env (eval e X.env)=eval e X.env):PE X (.Attribute e f pos) (fJ X.K ta f):=by
 intro pins s σ H Q I h;refine YT hb (B3 (he pins s σ H _ I h) λ u s1 z9=>?_);obtain⟨x,H1,I1,rx,a,C,dx,fs,v,ex,ea,c,n,l,q⟩ := z9;subst ex;obtain rfl:u=Value.ref a:=rx;exact wW I1 ea c n l λ u' s2 I2 ru=>⟨v,H1,I2,ru,q⟩
theorem gZ(ha:PE X o ta)(hv:PE X value tv)(hs:swapsWith value (some (.Attribute o f pos')) pos.line X.env=pure false):PS X (.Assign [.Attribute o f pos'] value pos) (qH X.K ta tv f):=by
 intro pins s σ H D I h;refine plainObj_wpAny_Assign_Attribute (B3 (hv pins s σ H _ I h) λ u s1 ⟨y,H1,I1,ry,q⟩=>B3 (ha pins s1 σ H1 _ I1 q) λ ov s2 z9=>?_) hs;obtain⟨x,H2,I2,rx,a,C,dx,fs,ex,ea,c,n,l,q2⟩ := z9;subst ex;obtain rfl:ov=Value.ref a:=rx;exact tF I2 ea c n l ry λ s3 I3=>⟨σ,_,I3,q2⟩
end
section
variable {c:Value}{b:Bool}
inductive TyOf(K:W.Frag)(H:Hp):V->Value->Prop where
 |non:TyOf K H .non (.type "NoneType")
 |bl (x:Bool):TyOf K H (.bl x) (.type "bool")
 |int (i:Int):TyOf K H (.int i) (.type "int")
 |str (x:Str):TyOf K H (.str x) (.type "str")
 |flt (x:UInt64):TyOf K H (.flt x) (.type "float")
 |lst {a:Addr} {xs:List V} (e:H a=some (.lst xs)):TyOf K H (.ref a) (.type "list")
 |frz {a:Addr} {o:Obj} {xs:List V} (e:H a=some (.frz o (.lst xs))):TyOf K H (.ref a) (.type "list")
 |tup {a:Addr} {xs:List V} (e:H a=some (.tup xs)):TyOf K H (.ref a) (.type "tuple")
 |dK {a:Addr} {kvs:List (GG×V)} (e:H a=some (.dK kvs)):TyOf K H (.ref a) (.type "dict")
 |dT {a:Addr} {kvs:List (List GG×V)} (e:H a=some (.dT kvs)):TyOf K H (.ref a) (.type "dict")
 | ins {a C dx:Addr} {fs:List (Str×V)} (e:H a=some (.ins C dx fs)) (cl:Cls K C) (ha:W.findIn K (.ref C) "__class__"=some (some (.builtin "object.__class__")))
   (hn:W.specialIn K (.builtin "object.__class__") "__get__"=some (some (.builtin "getset_descriptor.__get__"))) (htk:W.takesIn K (.builtin "object.__class__")=some true)
   (hm:W.mroIn K C (.type "object")=some true):TyOf K H (.ref a) (.ref C)
theorem O8{x:V}{u t:Value}(I:Inv X pins σ H s)(rx:RelV x u)(ty:TyOf X.K H x t)(e:W.kitOne X.K t c=some b)(h:∀tk,Q (.bool b) { s with toks:=tk }) :
  wpAny (model X.prog X.w) A (call (.builtin "isinstance") [u,c]) Q E s:=by
 cases ty with
 |non=>cases (show u=Value.none from rx);exact W.kia_one W.kitx_none I.kIn True.intro e (λ z=>nomatch z) h
 |bl y=>cases (show u=Value.bool y from rx);exact W.kia_one W.kitx_bool I.kIn True.intro e (λ z=>nomatch z) h
 |int i=>obtain⟨t,q⟩:=(show ∃t,u=Value.int i t from rx);cases q;exact W.kia_one W.kitx_int I.kIn True.intro e (λ z=>nomatch z) h
 |str y=>obtain⟨t,q⟩:=(show ∃t,u=Value.str y t from rx);cases q;exact W.kia_one W.kitx_str I.kIn True.intro e (λ z=>nomatch z) h
 |flt y=>obtain⟨t,q⟩:=(show ∃t,u=Value.float y t from rx);cases q;exact W.kia_one W.kitx_float I.kIn True.intro e (λ z=>nomatch z) h
 | @lst a xs ea =>
  cases (show u=Value.ref a from rx);obtain⟨_,_,n,_,h1⟩:=(show ObjOk X.prog X.w H s.heap a (.lst xs) from I.hok a _ ea)
  exact W.kia_one W.kitx_list I.kIn ⟨_,h1,rfl⟩ e (λ z=>nomatch z) h
 | @frz a ob xs ea =>
  cases (show u=Value.ref a from rx);obtain⟨_,_,_,n,_,h1⟩:=(show ObjOk X.prog X.w H s.heap a (.frz ob (.lst xs)) from I.hok a _ ea)
  exact W.kia_one W.kitx_list I.kIn ⟨_,h1,rfl⟩ e (λ z=>nomatch z) h
 | @tup a xs ea =>
  cases (show u=Value.ref a from rx);obtain⟨_,_,_,p⟩:=(show ObjOk X.prog X.w H s.heap a (.tup xs) from I.hok a _ ea)
  obtain⟨o,h1,h2,_⟩:=p;exact W.kia_one W.kitx_tuple I.kIn ⟨o,h1,h2⟩ e (λ z=>nomatch z) h
 | @dK a kvs ea =>
  cases (show u=Value.ref a from rx);obtain⟨_,_,vs,_,p⟩:=(show ObjOk X.prog X.w H s.heap a (.dK kvs) from I.hok a _ ea)
  obtain⟨o,es,ep,h1,h2,_⟩:=p;exact W.kia_one W.kitx_dict I.kIn ⟨o,h1,h2.1⟩ e (λ z=>nomatch z) h
 | @dT a kvs ea =>
  cases (show u=Value.ref a from rx);obtain⟨_,_,xs,_,o,es,ep,h1,h2,_⟩:=(show ObjOk X.prog X.w H s.heap a (.dT kvs) from I.hok a _ ea)
  exact W.kia_one W.kitx_dict I.kIn ⟨o,h1,h2.1⟩ e (λ z=>nomatch z) h
 | @ins a C dx fs ea cl ha hn htk hm =>
  cases (show u=Value.ref a from rx);obtain⟨mA,O,_⟩:=YL I.hok ea;obtain⟨od,J,_⟩:=O.look;exact W.kia_one (W.kitx_own (cl.get _) cl.hd ha hn htk hm) I.kIn J e (λ z=>nomatch z) h
end
structure Room(k:Nat)(A:Around):Prop where
 hd:A.handled=none
 dp:A.depth+3*k+5<recursionLimit
 un:A.units+16*k+200<cLine
theorem Room.mono{j:Nat}(r:Room k A)(h:j<=k):Room j A:=⟨r.hd,by have:=r.dp;omega,by have:=r.un;omega⟩
theorem Room.deeper{k:Nat}{A:Around}(r:Room (k+1) A)(env:Env):Room k (A.deeper env) :=
 ⟨r.hd,by have:=r.dp;show A.depth+1+3*k+5<_;omega,by have:=r.un;show A.units+3+16*k+200<_;omega⟩
theorem sV:(A.under (.builtin "type.__call__" ⟨.ref C::us,kw⟩)).depth=A.depth+1:=by
 first|rfl|simp[Around.under,Code.weight,Code.isCreation,Code.isGuard,Code.isCaller,Code.frames,Code.isFrame,guardIds]
theorem wA:(A.under (.builtin "type.__call__" ⟨.ref C::us,kw⟩)).units=A.units+1:=by
 first|rfl|simp[Around.under,Code.cUnits,Code.frames,Code.isFrame]
theorem Room.make(r:Room (k+1) A)(C:Addr)(us:List Value)(kw:List (Str×Value)):Room k (A.under (.builtin "type.__call__" ⟨.ref C::us,kw⟩)) :=
 ⟨r.hd,by have:=r.dp;rw[sV];omega,by have:=r.un;rw[wA];omega⟩
theorem Room.depth{k:Nat}{A:Around}(r:Room k A):A.depth<recursionLimit:=by have:=r.dp;omega
theorem Room.units{k:Nat}{A:Around}(r:Room k A):A.units+64<cLine:=by have:=r.un;omega
def j5:TA:=λ _ H Q=>Q [] H
def MA(ta:TE)(tr:TA):TA:=λ σ H Q=>ta σ H λ x H1=>tr σ H1 λ xs H2=>Q (x::xs) H2
section
variable {t:TA}
theorem SR:PA X [] j5:=λ _ _ _ _ H Q I h=>Calls.spliced_nil ⟨[],H,I,.nil,h⟩
theorem W0(ha:PE X e te)(hr:PA X es t)(hs:starEach (e::es) X.env=(false,eval e X.env)::starEach es X.env:=by rfl):PA X (e::es) (MA te t):=by
 intro pos pins s σ H Q I h;rw[hs];show wpAny _ _ (spliced ((false,eval e X.env)::backTo pos (starEach es X.env))) _ _ s;refine Calls.spliced_cons (B3 (ha pins s σ H _ I h) λ u s1 z9=>?_);obtain⟨x,H1,I1,r1,q1⟩ := z9;exact B3 (hr pos pins s1 σ H1 _ I1 q1) λ us s2 ⟨xs,H2,I2,r2,q2⟩=>⟨x::xs,H2,I2,.cons r1 r2,q2⟩
def pR(t:TA):TE:=λ σ H Q=>t σ H λ xs H1=>xs.length<=sizeLine/\∀p,H1 p=none->Q (.ref p) (AD H1 p (.tup xs))
def m7(t:TA):TE:=λ σ H Q=>t σ H λ xs H1=>xs.length<=sizeLine/\∀p,H1 p=none->Q (.ref p) (AD H1 p (.lst xs))
theorem jD{x1}(h:PA X es t):PE X (.Tuple es x1 pos) (pR t):=by
 intro pins s σ H Q I hq;refine wpAny_Tuple_spliced (B3 (h pos pins s σ H _ I hq) λ us s1 ⟨xs,H1,I1,r,z,q⟩=>⟨by rw[<- r.length];exact z,?_⟩);have hf:H1 s1.heap.objs.size=none:=I1.hok.fresh (BU _);refine⟨.ref s1.heap.objs.size,AD H1 s1.heap.objs.size (.tup xs),I1.laid (t':=s1.toks) (λ b u e=>DD _ e) (BU _) ?_,U,q _ hf⟩;exact⟨z,us,r,⟨_,FF _ rfl,U,_,U⟩⟩
theorem gQ(h:PA X es t):PE X (.List es pos) (m7 t):=by
 intro pins s σ H Q I hq;refine wpAny_List_spliced (B3 (h pos pins s σ H _ I hq) λ us s1 ⟨xs,H1,I1,r,z,q⟩=>⟨by rw[<- r.length];exact z,?_⟩);have hf:H1 s1.heap.objs.size=none:=I1.hok.fresh (BU _);refine⟨.ref s1.heap.objs.size,AD H1 s1.heap.objs.size (.lst xs),I1.laid (t':=s1.toks) (λ b u e=>DD _ e) (BU _) ?_,U,q _ hf⟩;exact⟨z,us,0,r,FF _ rfl⟩
end
abbrev Sp:=List V->Hp->VK->XK->Prop
variable {sp:Sp}
abbrev R8:=List Env->Hp->Shared->XK->Value->Shared->Prop
structure Env0(P:Program)(w:World)(K:W.Frag)(mg:Str->Option Value)(base:Heap)(A:Around)(outer:List Env)(s:Shared)(H:Hp):Prop where
 frames:A.frames=some outer
 mod:Mod K mg base
 bs:∀b o,base.get? b=some o->s.heap.get? b=some o/\H b=none
 bsz:base.objs.size<=s.heap.objs.size
 funs:s.heap.FunFrames base outer
 frf:∀b∈JM outer,H b=none
 hok:HOk P w H s.heap
 bare:AllBare s.gens
variable {CX:R8}
def CE(outer:List Env)(P:Program)(w:World)(H:Hp)(s:Shared)(Q:VK)(u:Value)(s':Shared):Prop :=
 ∃v H',s'.os=s.os/\AllBare s'.gens/\Un (JM outer) [] H H' s.heap s'.heap/\HOk P w H' s'.heap/\RelV v u/\Q v H'
def CR(CX:R8)(outer:List Env)(P:Program)(w:World)(H:Hp)(s:Shared)(Q:VK)(E:XK)(r:Result)(s':Shared):Prop :=
 match r with
 | .ok (.ret u)=>CE outer P w H s Q u s'
 | .ok _=>False
 | .error e=>CX outer H s E e s'
structure FnOk(P:Program)(w:World)(K:W.Frag)(mg:Str->Option Value)(base:Heap)(CX:R8)(k:Nat)(f:Addr)(fd:FuncData)(ps:List Str)(sp:Sp):Prop where
 len:∀vs H Q E,sp vs H Q E->vs.length=ps.length
 run:∀(A:Around)(outer:List Env)(s:Shared)(H:Hp)(args:Args)(us:List Value)(vs:List V)(Q:VK)(E:XK),Room k A->Env0 P w K mg base A outer s H->BindsTo s fd args (ps.zip us)->Vals vs us->sp vs H Q E ->
  codeAny (model P w) A (.call (.ref f) args) (CR CX outer P w H s Q E) s
theorem FnOk.mono{P:Program}{w:World}{K:W.Frag}{mg:Str->Option Value}{base:Heap}{CX:R8}{j k:Nat}{f:Addr}{fd:FuncData}{ps:List Str}{sp:Sp}(F:FnOk P w K mg base CX j f fd ps sp)(h:j<=k) :
  FnOk P w K mg base CX k f fd ps sp:=⟨F.len,λ A outer s H args us vs Q E hr=>F.run A outer s H args us vs Q E (hr.mono h)⟩
theorem FnOk.imp{f:Addr}{sp':Sp}(F:FnOk P w K mg base CX k f fd ps sp)
  (h:∀vs H Q E,sp' vs H Q E->sp vs H Q E):FnOk P w K mg base CX k f fd ps sp' :=
 ⟨λ vs H Q E q=>F.len vs H Q E (h _ _ _ _ q),λ A outer s H args us vs Q E hr he hb hv hs=>F.run A outer s H args us vs Q E hr he hb hv (h _ _ _ _ hs)⟩
theorem Env0.make{outer:List Env}(e:Env0 P w K mg base A outer s H)(C:Addr)(us:List Value)(kw:List (Str×Value)) :
  Env0 P w K mg base (A.under (.builtin "type.__call__" ⟨.ref C::us,kw⟩)) outer s H:=⟨by first|exact e.frames|(simpa [Around.under,Code.envs,Code.isFrame,pushEnvs] using e.frames),e.mod,e.bs,e.bsz,e.funs,e.frf,e.hok,e.bare⟩
section
variable {s':Shared}
theorem Inv.env0(I:Inv X pins σ H s):Env0 X.prog X.w X.K X.mg X.base X.A X.stack s H :=
 ⟨I.ok.frames,I.ok.mod,I.bs,FB I.ok.bsz I.sz,I.stack,I.stkFree,I.hok,I.bare⟩
theorem Inv.after{Q:VK}{u:Value}(I:Inv X pins σ H s)(h:CE X.stack X.prog X.w H s Q u s'):EP X pins σ Q u s':=by
 obtain⟨v,H',os,bare,un,hok,r,q⟩:=h;obtain⟨hh,g,d,t,os'⟩:=s';obtain rfl:os'=s.os:=os;exact⟨v,H',I.call (h':=hh) (g':=g) (d':=d) (t':=t) (ch:=[]) un hok bare (λ b z=>absurd z (by simp)),r,q⟩
end
def RF(sp:Sp)(dvs:List V)(E:XK)(t:TA):TE:=λ σ H Q=>t σ H λ vs H1=>sp (vs++dvs) H1 Q E
def d9(C:Addr)(m:Str)(sp:Sp)(dvs:List V)(E:XK)(ta:TE)(t:TA):TE:=λ σ H Q=>ta σ H λ x H1=>∃a dx fs,x=.ref a/\H1 a=some (.ins C dx fs)/\fs.lookup m=none /\
 t σ H1 λ vs H2=>sp (x::(vs++dvs)) H2 Q E
def dD(C:Addr)(sp:Sp)(dvs:List V)(E:XK)(t:TA):TE:=λ σ H Q=>t σ H λ vs H1=>∀x dx,H1 x=none->H1 dx=none->dx≠x ->
 sp (.ref x::(vs++dvs)) (AD (AD H1 dx (.own x)) x (.ins C dx [])) (λ v H2=>v=.non/\Q (.ref x) H2) E
def Binds(K:W.Frag)(fd:FuncData)(ps:List Str)(ds:List Value):Prop :=
 ∀(s:Shared)(us:List Value),K.In s.heap->(us++ds).length=ps.length->BindsTo s fd ⟨us,[]⟩ (ps.zip (us++ds))
theorem Binds.all(h:∀us:List Value,us.length=ps.length->bindArgs fd ⟨us,[]⟩=pure (ps.zip us)):Binds K fd ps []:=λ s us _ hl=>by
 rw[M5] at hl ⊢;exact .of_eq (h us hl)
def JQ(CX:R8)(X:Cx)(E:XK):Prop:=∀(pins:List (Addr×Obj)) (σ:St) (H:Hp) (s:Shared) (e:Value) (s':Shared),Inv X pins σ H s->CX X.stack H s E e s'->X.xe e s'
section
variable {f:Addr}{dvs:List V}{ds:List Value}{E:XK}{apos:Pos}{o:Expr}{t:TA}
theorem IT{Q:VK}(F:FnOk X.prog X.w X.K X.mg X.base CX k f fd ps sp)(hr:Room k X.A)(hb:Binds X.K fd ps ds)(hd:Vals dvs ds)(hx:JQ CX X E)
  (I:Inv X pins σ H s) (r:Vals vs us) (h:sp (vs++dvs) H Q E):wpAny (model X.prog X.w) X.A (call (.ref f) us) (EP X pins σ Q) X.xe s:=by
 have r2:Vals (vs++dvs) (us++ds):=r.append hd;have hl:(us++ds).length=ps.length:=by rw[<- r2.length];exact F.len _ _ _ _ h
 refine wpAny_call (codeAny_mono (F.run X.A X.stack s H ⟨us,[]⟩ (us++ds) (vs++dvs) Q E hr I.env0 (hb s us I.kIn hl) r2 h) λ r s' hq=>?_);cases r with
 |error e=>exact hx pins σ H s e s' I hq
 |ok fl =>
  cases fl with
  |ret u=>exact I.after hq
  |next=>exact False.elim hq
  |brk=>exact False.elim hq
  |cont=>exact False.elim hq
theorem Y6(F:FnOk X.prog X.w X.K X.mg X.base CX k f fd ps sp)(hr:Room k X.A)(hg:Gl X x)(hm:X.mg x=some (.ref f))(hk:W.keepIn X.K (.ref f)=true)(hb:Binds X.K fd ps ds)(hd:Vals dvs ds)(hx:JQ CX X E)
  (ha:PA X (e::es) t) (hdb:(x==("__debug__":Str))=false:=by decide) (he:starEach (e::es) X.env=(false,eval e X.env)::starEach es X.env:=by rfl) (hpl:(backTo pos (starEach es X.env)).any (·.1)=false:=by rfl) :
  PE X (.Call (.Name x p) (e::es) [] pos) (RF sp dvs E t):=by
 intro pins s σ H Q I h;refine wpAny_Call_Name_kw (SH I hg hm ?_ hdb);refine W.callWith_K (h₀:=X.base) I.ok.mod.kin hk (B3 (ha pos pins s σ H _ I h) λ us s1 ⟨vs,H1,I1,r,q⟩=>⟨I1.kIn,?_⟩) he hpl;exact IT F hr hb hd hx I1 r q
theorem WH{pl:Sem Bool}(he:PE X o ta)(c:Cls X.K C)(hm:Meth X.K C m f)(F:FnOk X.prog X.w X.K X.mg X.base CX k f fd ps sp)(hr:Room k X.A)(hb:Binds X.K fd ps ds)(hd:Vals dvs ds)(hx:JQ CX X E)(ha:PA X (e::es) t)
  (hst:starEach (e::es) X.env=(false,eval e X.env)::starEach es X.env:=by rfl) (hpl:(backTo pos (starEach es X.env)).any (·.1)=false:=by rfl)
  (ht:eval (.Call (.Attribute o m apos) (e::es) [] pos) X.env=(do
   let ov <- eval o X.env
   standAt apos.atName
   let (f,first) <- holding [ov] (getMethod ov m pl)
   callWith pos f first (backTo pos (starEach (e::es) X.env)) (backToKw pos (keywordEach [] X.env))):=by rfl) :
  PE X (.Call (.Attribute o m apos) (e::es) [] pos) (d9 C m sp dvs E ta t):=by
 intro pins s σ H Q I h;refine W.methodCall_KW (pl:=pl) (B3 (he pins s σ H _ I h) λ u s1 z9=>?_) ht;obtain⟨x,H1,I1,rx,a,dx,fs,ex,ea,l,q⟩ := z9;subst ex;obtain rfl:u=Value.ref a:=rx;refine vL I1 ea c hm l ?_;refine W.callWith_K (first:=[.ref a]) (h₀:=X.base) I.ok.mod.kin hm.kp (B3 (ha pos pins s1 σ H1 _ I1 q) λ us s2 ⟨vs,H2,I2,r,q2⟩=>⟨I2.kIn,?_⟩) hst hpl;exact IT (us:=.ref a::us) (vs:=.ref a::vs) F hr hb hd hx I2 (.cons rfl r) q2
structure Mk(K:W.Frag)(C f:Addr):Prop where
 makes:W.makesIn K C=true
 init:W.findIn K (.ref C) "__init__"=some (some (.ref f))
 fn:W.isFn K (.ref f)=true
 kp:W.keepIn K (.ref C)=true
theorem VC{Q:VK}(M:Mk X.K C f)(F:FnOk X.prog X.w X.K X.mg X.base CX k f fd ps sp)(hr:Room (k+1) X.A)(hb:Binds X.K fd ps ds)(hd:Vals dvs ds)
  (hx:JQ CX X E) (I:Inv X pins σ H s) (r:Vals vs us)
  (h:∀x dx,H x=none->H dx=none->dx≠x->sp (.ref x::(vs++dvs)) (AD (AD H dx (.own x)) x (.ins C dx [])) (λ v H2=>v=.non/\Q (.ref x) H2) E) :
  wpAny (model X.prog X.w) X.A (call (.ref C) us) (EP X pins σ Q) X.xe s:=by
 have hq:=h (s.heap.objs.size+1) s.heap.objs.size (I.hok.fresh (mE _)) (I.hok.fresh (BU _)) (FZ (vD _));have I2:=Inv.made (C:=C) I;have r2:Vals (V.ref (s.heap.objs.size+1)::(vs++dvs)) (Value.ref (s.heap.objs.size+1)::(us++ds)):=.cons rfl (r.append hd);have hl:(Value.ref (s.heap.objs.size+1)::us++ds).length=ps.length:=by
  have e:=r2.length;rw[F.len _ _ _ _ hq] at e;exact e.symm
 refine wpAny_call (VR (f:=f) I.kIn M.makes M.init (beq_iff_eq.mp M.fn) (codeAny_mono (F.run _ X.stack _ _ ⟨Value.ref (s.heap.objs.size+1)::us,[]⟩ (Value.ref (s.heap.objs.size+1)::(us++ds)) _ _ E (hr.make C us [])
  (I2.env0.make C us []) (hb _ (Value.ref (s.heap.objs.size+1)::us) I2.kIn hl) r2 hq) λ r s' hq'=>?_))
 cases r with
 |error e=>exact hx pins σ _ _ e s' I2 hq'
 |ok fl =>
  cases fl with
  |ret u =>
   obtain⟨v,H',I3,rv,ev,q3⟩:=I2.after hq';subst ev;exact⟨rv,⟨V.ref (s.heap.objs.size+1),H',I3,U,q3⟩⟩
  |next=>exact False.elim hq'
  |brk=>exact False.elim hq'
  |cont=>exact False.elim hq'
theorem XQ(M:Mk X.K C f)(F:FnOk X.prog X.w X.K X.mg X.base CX k f fd ps sp)(hr:Room (k+1) X.A)(hg:Gl X x)(hm:X.mg x=some (.ref C))(hb:Binds X.K fd ps ds)(hd:Vals dvs ds)(hx:JQ CX X E)
  (ha:PA X (e::es) t) (hdb:(x==("__debug__":Str))=false:=by decide) (he:starEach (e::es) X.env=(false,eval e X.env)::starEach es X.env:=by rfl) (hpl:(backTo pos (starEach es X.env)).any (·.1)=false:=by rfl) :
  PE X (.Call (.Name x p) (e::es) [] pos) (dD C sp dvs E t):=by
 intro pins s σ H Q I h;refine wpAny_Call_Name_kw (SH I hg hm ?_ hdb);refine W.callWith_K (h₀:=X.base) I.ok.mod.kin M.kp (B3 (ha pos pins s σ H _ I h) λ us s1 ⟨vs,H1,I1,r,q⟩=>⟨I1.kIn,?_⟩) he hpl;exact VC M F hr hb hd hx I1 r q
end
section
variable {f:Addr}{ks:List Str}{E:XK}{apos kpos:Pos}{o:Expr}{kws:List Keyword}{t tk:TA}{nm:Option Str}
variable {g:List Value->List Value->List Value}{gV:List V->List V->List V}
end
structure FnScope(N P:List Str)(sc:Scope):Prop where
 kind:sc.kind=.function
 co:sc.isCoroutine=false
 gen:sc.isGenerator=false
 nd:N.Nodup
 pre:N.take P.length=P
 par:∀x∈P,sc.names.lookup x=some .local\/sc.names.lookup x=some .cell
 nofree:∀y∈sc.names,y.2 ≠ .free
theorem p8{kindOf:Str->Option NameKind}{x:Str}:∀{binds:List (Str×Value)} {m:Str->Option Value},(∀v,(x,v)∉binds)->bindL kindOf binds m x=m x
 | [],_,_=>rfl
 | (n,v)::r,m,h=>by
  unfold bindL;rw[p8 λ w hw=>h w (ER _ hw)];split
  ·have:x≠n:=by rintro rfl;exact h v EZ
   simp[this]
  ·rfl
theorem nT{kindOf:Str->Option NameKind}{x:Str}:∀{binds:List (Str×Value)} {m:Str->Option Value},(∀v,(x,v)∉binds)->bindC kindOf binds m x=m x
 | [],_,_=>rfl
 | (n,v)::r,m,h=>by
  unfold bindC;rw[nT λ w hw=>h w (ER _ hw)];split
  ·rfl
  ·have:x≠n:=by rintro rfl;exact h v EZ
   simp[this]
theorem mK{kindOf:Str->Option NameKind}{x:Str}{v:Value}:∀{P:List Str}{vs:List Value}{i:Nat}{m:Str->Option Value},P.Nodup->P[i]?=some x->vs[i]?=some v->kindOf x=some .local ->
  bindL kindOf (P.zip vs) m x=some v
 | [],_,_,_,_,h,_,_=>by simp at h
 |_::_,[],_,_,_,_,h,_=>by simp at h
 |p::P,w::vs,0,m,nd,h1,h2,hk=>by
  simp at h1 h2;subst h1;subst h2;show bindL kindOf ((p,w)::P.zip vs) m p=_;unfold bindL;rw[p8 λ v hv=>(KE.mp nd).1 (nE hv).1,if_pos hk];simp
 |p::P,w::vs,i+1,m,nd,h1,h2,hk=>by
  show bindL kindOf ((p,w)::P.zip vs) m x=_;unfold bindL;exact mK (i:=i) (KE.mp nd).2 (by simpa using h1) (by simpa using h2) hk
theorem oR{kindOf:Str->Option NameKind}{x:Str}{v:Value}:∀{P:List Str}{vs:List Value}{i:Nat}{m:Str->Option Value},P.Nodup->P[i]?=some x->vs[i]?=some v->kindOf x≠some .local ->
  bindC kindOf (P.zip vs) m x=some v
 | [],_,_,_,_,h,_,_=>by simp at h
 |_::_,[],_,_,_,_,h,_=>by simp at h
 |p::P,w::vs,0,m,nd,h1,h2,hk=>by
  simp at h1 h2;subst h1;subst h2;show bindC kindOf ((p,w)::P.zip vs) m p=_;unfold bindC;rw[nT λ v hv=>(KE.mp nd).1 (nE hv).1,if_neg hk];simp
 |p::P,w::vs,i+1,m,nd,h1,h2,hk=>by
  show bindC kindOf ((p,w)::P.zip vs) m x=_;unfold bindC;exact oR (i:=i) (KE.mp nd).2 (by simpa using h1) (by simpa using h2) hk
def FP(N:List Str)(vs:List V):St:=vs.map some++GL (N.length-vs.length) none
def JS(CX:R8)(P:Program)(w:World)(K:W.Frag)(mg:Str->Option Value)(base:Heap)(N:List Str)(qual:Str)(scope:Scope)(f:Addr)(cd:Value)(A:Around)(outer:List Env)(s:Shared)(H:Hp)(E:XK):Cx where
 prog:=P
 w:=w
 K:=K
 mg:=mg
 base:=base
 A:=A.deeper (envOfC qual scope s.heap.objs.size f cd)
 N:=N
 s₀:=s
 H₀:=H
 env:=envOfC qual scope s.heap.objs.size f cd
 outer:=outer
 stack:=envOfC qual scope s.heap.objs.size f cd::outer
 ex:=[]
 calm:=true
 fn:=λ _=>true
 pn:=[]
 xe:=λ e s'=>wpAny (model P w) (A.deeper (envOfC qual scope s.heap.objs.size f cd)) (leaving (envOfC qual scope s.heap.objs.size f cd) e) (λ _ s''=>CX outer H s E e s'') (λ e' s''=>CX outer H s E e' s'') s'
theorem oQ{sc:Scope}(h:sc.names.lookup x=some .cell):∃c,(cellsFrom n sc.names []).lookup x=some c:=by
 have q:=W.cellsFrom_some sc.names n [] (.inl h);exact Ai.mp q
theorem NY{N:List Str}{qual:Str}{scope:Scope}{f:Addr}{cd:Value}{outer:List Env}{s1:Shared}{E:XK}
  (S:FnScope N ps scope) (hd:A.handled=none) (e0:Env0 P w K mg base A outer s H) (hl:vs.length=ps.length) (r:Vals vs us)
  (x:InCallC s s.heap.objs.size (bindL (envOfC qual scope s.heap.objs.size f cd).kindOf (ps.zip us) λ _=>none) (cellsFrom (s.heap.objs.size+1) scope.names []) (bindC (envOfC qual scope s.heap.objs.size f cd).kindOf (ps.zip us) λ _=>none) s1) :
  Inv (JS CX P w K mg base N qual scope f cd A outer s H E) [] (FP N vs) H s1:=by
 have hpl:ps.length<=N.length:=by have:=congrArg rH S.pre;rw[GV] at this;omega
 obtain⟨h1,tk,rfl,hk⟩:=x.done;have noA:∀b:Addr,b∉(JS CX P w K mg base N qual scope f cd A outer s H E).ex:=λ b z=>absurd (show b∈([]:List Addr) from z) (by simp)
 refine⟨⟨e0.mod,S.kind,U,U,BU _,λ y z c h1 h2=>?_,λ y hy=>?_,λ y c _ h=>?_,λ _=>hd,Around.frames_deeper e0.frames,.inr ⟨U,U⟩,λ b z=>absurd z (noA b),e0.bs,e0.bsz,λ b _ _=>noA b,λ b z=>absurd z (noA b),e0.funs,e0.frf⟩,
  rfl,e0.bare,Un.kept hk,⟨_,x.toInCall.ns,λ i y v h1 h2 h3=>?_⟩,λ y c h=>⟨_,x.cell y c h⟩,e0.hok.fresh (BU _),λ y c h=>?_,λ p hp=>absurd (show p∈([]:List (Addr×Obj)) from hp) (by simp),e0.hok.kept hk,?_⟩
 ·exact name_of_addr x.apart (PySem.mem_of_lookup h1) (PySem.mem_of_lookup h2)
 ·have hy:scope.names.lookup y=some .cell\/scope.names.lookup y=some .free:=hy;rcases hy with hy|hy
  ·exact oQ hy
  ·exact absurd rfl (S.nofree _ (PySem.mem_of_lookup hy))
 ·exact RS (x.above y c (PySem.mem_of_lookup h))
 ·have hi:i<vs.length:=by
   unfold FP at h2
   by_cases hi:i<vs.length
   ·exact hi
   ·rw[GM (by simpa using hi)] at h2;rw[sG] at h2;split at h2<;>cases h2
  have ha:vs[i]?=some v:=by
   unfold FP at h2;rw[GF (by simpa using hi),EH] at h2;cases e:vs[i]? with
   |none=>rw[e] at h2;cases h2
   |some a=>rw[e] at h2;cases h2;rfl
  obtain⟨u,hu,rv⟩:=r.get ha;have hp:ps[i]?=some y:=by
   rw[<- S.pre,qW ⋯];exact h1
  have ndP:ps.Nodup:=by rw[<- S.pre];exact S.nd.sublist (List.take_sublist _ _)
  refine⟨u,rv,?_⟩;rcases S.par y (DL hp) with k|k
  ·exact .inl ⟨k,mK ndP hp hu k⟩
  ·obtain⟨c,e⟩:=oQ (n:=s.heap.objs.size+1) k;refine .inr ⟨.inl k,c,e,?_⟩;have q:=x.cell y c e;rw[oR ndP hp hu (by show scope.names.lookup y≠_;rw[k];decide)] at q;exact q
 ·exact e0.hok.fresh (RS (x.above y c (PySem.mem_of_lookup h)))
 ·unfold FP;show _=N.length;rw[G2,BY,wL];omega
theorem IQ{f:Addr}{name qual:Str}{params:Arguments}{scope:Scope}{dV kV doc pm cdv ct oc:Value}{an od:Option Addr}
  {osl:Array (Option Value)} {N ps:List Str} {sp:Sp} (lk:K.lookup f=some ⟨oc,od,.func (W.fnOf name qual params body scope dV kV doc pm an cdv ct),osl⟩) (hcd:W.codeIn K cdv qual=true) (S:FnScope N ps scope)
  (len:∀vs H Q E,sp vs H Q E->vs.length=ps.length)
  (hbody:∀(A:Around)(outer:List Env)(s:Shared)(H:Hp)(vs:List V)(Q:VK)(E:XK),Room k (A.deeper (envOfC qual scope s.heap.objs.size f cdv))->sp vs H Q E ->
   ∃t,PSs (JS CX P w K mg base N qual scope f cdv A outer s H E) body t/\t { nx:=λ _ H'=>Q .non H',rt:=Q } (FP N vs) H) :
  FnOk P w K mg base CX (k+1) f (W.fnOf name qual params body scope dV kV doc pm an cdv ct) ps sp:=by
 refine⟨len,λ A outer s H args us vs Q E hr e0 hb r hsp=>?_⟩;have hl:=len _ _ _ _ hsp;have KX:K.In s.heap:=e0.mod.kin.keeps λ b o e=>(e0.bs b o e).1
 have lim:s.heap.NoLimit:=e0.mod.nolimit.keeps λ b o e=>(e0.bs b o e).1
 have hkind:∀y∈ps.zip us,scope.names.lookup y.1=some .local\/(scope.names.lookup y.1=some .cell/\((cellsFrom (s.heap.objs.size+1) scope.names []).lookup y.1).isSome=true):=λ⟨n,v⟩ hy=>by
  rcases S.par n (nE hy).1 with q|q
  ·exact .inl q
  ·exact .inr ⟨q,W.cellsFrom_some _ _ _ (.inl q)⟩
 refine codeAny_call_function hr.depth (KX _ _ lk) rfl S.co S.gen rfl (W.codeRec_of KX hcd) (hb _ _ _ _ ?_);refine wpAny_newFunctionEnv_cells S.kind hkind λ env he s1 x=>?_
 subst he;refine⟨lim.keeps x.toInCall.keep,codeAny_func ?_⟩;obtain⟨t,ht,hq⟩:=hbody A outer s H vs Q E (hr.deeper _) hsp;have I:Inv (JS CX P w K mg base N qual scope f cdv A outer s H E) [] (FP N vs) H s1:=NY S hr.hd e0 hl r x;refine wpAny_mono (ht [] s1 (FP N vs) H _ I hq) (λ fl s' hs=>?_) λ e s' hs=>hs
 have fin:∀{σ':St}{H':Hp}{v:V}{u:Value},Inv (JS CX P w K mg base N qual scope f cdv A outer s H E) [] σ' H' s'->RelV v u->Q v H'->CE outer P w H s Q u s' :=
  λ {σ' H' v u} J rv q=>⟨v,H',J.os,J.bare,J.base,J.hok,rv,q⟩
 cases fl with
 |ret u =>
  obtain⟨v,σ',H',J,rv,q⟩:=hs;exact fin J rv q
 |next =>
  obtain⟨σ',H',J,q⟩:=hs;exact fin (v:=V.non) (u:=Value.none) J rfl q
 |brk =>
  obtain⟨_,_,_,q⟩:=hs;exact False.elim q
 |cont =>
  obtain⟨_,_,_,q⟩:=hs;exact False.elim q
section
variable {t:TA}{id T:String}{r:List V->Hp->VK->Prop}
def jH(r:List V->Hp->VK->Prop)(t:TA):TE:=λ σ H Q=>t σ H λ vs H1=>r vs H1 Q
theorem RA(hc:DO X (.builtin id) r)(hg:Gl X x)(hm:X.mg x=none)(hv:bootBuiltins x=some (.builtin id))(ha:PA X (e::es) t)(hn:x≠"__name__" := by decide)(hdb:(x==("__debug__":Str))=false:=by decide)
  (he:starEach (e::es) X.env=(false,eval e X.env)::starEach es X.env:=by rfl) (hpl:(backTo pos (starEach es X.env)).any (·.1)=false:=by rfl):PE X (.Call (.Name x p) (e::es) [] pos) (jH r t):=by
 intro pins s σ H Q I h;refine wpAny_Call_Name_kw (JG I hg hm hv ?_ hn hdb);exact PyProof.Rows.callWith_builtin1 (B3 (ha pos pins s σ H _ I h) λ us s1 ⟨vs,H1,I1,r1,q1⟩=>hc pins s1 σ H1 vs us Q I1 r1 q1) he hpl
theorem NM(hc:DO X (.type T) r)(hg:Gl X x)(hm:X.mg x=none)(hv:bootBuiltins x=some (.type T))(ha:PA X (e::es) t)(hn:x≠"__name__" := by decide)(hdb:(x==("__debug__":Str))=false:=by decide)
  (he:starEach (e::es) X.env=(false,eval e X.env)::starEach es X.env:=by rfl) (hpl:(backTo pos (starEach es X.env)).any (·.1)=false:=by rfl):PE X (.Call (.Name x p) (e::es) [] pos) (jH r t):=by
 intro pins s σ H Q I h;refine wpAny_Call_Name_kw (JG I hg hm hv ?_ hn hdb);exact PyProof.Rows.callWith_type1 (B3 (ha pos pins s σ H _ I h) λ us s1 ⟨vs,H1,I1,r1,q1⟩=>hc pins s1 σ H1 vs us Q I1 r1 q1) he hpl
end
end L2
namespace HT
open PySem PyProof.Rows
section
open PySem.SeqAt
open PySem.AutoSeq1 (wpAny_loadPart')
open PySem.MeetsSeq PySem.MeetsSeq2 PySem.MeetsSeq3
end
section
variable {prog:Program}{w:World}{A:Around}{E:Value->Shared->Prop}{s:Shared}
def sIx(n d:Nat):Option Int->Nat
 |none=>d
 |some v=>if v<0 then(v+(n:Int)).toNat else min v.toNat n
end
end HT
namespace L2
open PySem PySem.Spec PyProof.Rows
variable {X:Cx}{H:Hp}{pins:List (Addr×Obj)}{its:List Value}{n:Nat}{s:Shared}{σ:St}{x:V}
abbrev TO:=St->Hp->(Option Int->Hp->Prop)->Prop
def PO(X:Cx)(e:Option Expr)(t:TO):Prop :=
 ∀(pins:List (Addr×Obj)) (s:Shared) (σ:St) (H:Hp) (Q:Option Int->Hp->Prop),Inv X pins σ H s->t σ H Q ->
  wpAny (model X.prog X.w) X.A (evalPart e X.env) (λ u s'=>∃o H',Inv X pins σ H' s'/\IsPart u o/\Q o H') X.xe s
def MI:TO:=λ _ H Q=>Q none H
def dA(t:TE):TO:=λ σ H Q=>t σ H λ x H1=>∃i,x=.int i/\Q (some i) H1
section
variable {e:Expr}{te:TE}{lo hi:Option Expr}{tl th:TO}{pos p2:Pos}
theorem XI:PO X none MI:=by
 intro pins s σ H Q I h;rw[evalPart_none];exact wpAny_pure ⟨none,H,I,.none,h⟩
theorem ZU(h:PE X e te):PO X (some e) (dA te):=by
 intro pins s σ H Q I hw;rw[evalPart_some];refine B3 (h pins s σ H _ I hw) λ u s1 z9=>?_
 obtain⟨x,H1,I1,r1,q1⟩ := z9;obtain⟨i,rfl,q⟩:=q1;obtain⟨t,rfl⟩:=r1;exact⟨some i,H1,I1,.int i t,q⟩
def y6(X:Cx)(r:V->Option Int->Option Int->Hp->VK->Prop):Prop :=
 ∀(pins:List (Addr×Obj)) (s:Shared) (σ:St) (H:Hp) (x:V) (v vl vu:Value) (lo hi:Option Int) (sl:Addr) (Q:VK),Inv X pins σ H s->RelV x v->s.heap.IsSliceOf sl vl vu .none->IsPart vl lo->IsPart vu hi->r x lo hi H Q ->
  ∃T id,typeLookup (.type T) "__getitem__"=pure (some (.builtin id))/\s.TypeIs v T/\wpAny (model X.prog X.w) X.A (getItem v (.ref sl)) (EP X pins σ Q) X.xe s
def yI(r:V->Option Int->Option Int->Hp->VK->Prop)(te:TE)(tl th:TO):TE:=λ σ H Q=>te σ H λ x H1=>tl σ H1 λ l H2=>th σ H2 λ u H3=>r x l u H3 Q
theorem nQ{r:V->Option Int->Option Int->Hp->VK->Prop}(hr:y6 X r)(he:PE X e te)(hl:PO X lo tl)(hu:PO X hi th):PE X (.Subscript e (.Slice lo hi none p2) pos) (yI r te tl th):=by
 intro pins s σ H Q I h;refine Subscript_ (B3 (he pins s σ H _ I h) λ v s1 z9=>?_);obtain⟨x,H1,I1,r1,q1⟩ := z9;refine wpAny_Slice (B3 (hl pins s1 σ H1 _ I1 q1) λ vl s2 ⟨l,H2,I2,pl,q2⟩=>B3 (hu pins s2 σ H2 _ I2 q2) λ vu s3 z9=>?_);obtain⟨u,H3,I3,pu,q3⟩ := z9;rw[evalPart_none];refine wpAny_pure ?_;have I4:Inv X pins σ H3 { s3 with heap:=s3.heap.push { cls:=.type "slice",data:=.fields #[vl,vu,.none] } }:=I3.kept (t':=s3.toks) λ b ob q=>DD _ q
 obtain⟨T,id,hT,ht,hg⟩:=hr pins { s3 with heap:=s3.heap.push { cls:=.type "slice",data:=.fields #[vl,vu,.none] } } σ H3 x v vl vu l u s3.heap.objs.size Q I4 r1 (Heap.IsSliceOf.new ..) pl pu q3;show wpAny (model X.prog X.w) X.A (subscriptTail e (.Slice lo hi none p2) v (.ref s3.heap.objs.size)) (EP X pins σ Q) X.xe { s3 with heap:=s3.heap.push { cls:=.type "slice",data:=.fields #[vl,vu,.none] } };exact tail_any (ops:=[.ref s3.heap.objs.size,v]) ht hT hg (by with_unfolding_all rfl)
def GT(xs:List V)(lo hi:Option Int):List V:=(xs.drop (HT.sIx xs.length 0 lo)).take (HT.sIx xs.length xs.length hi-HT.sIx xs.length 0 lo)
theorem tT(xs:List V)(lo hi:Option Int):(GT xs lo hi).length<=xs.length:=by
 unfold GT;rw[GV,cX];omega
end
def J7(n:Nat)(i:Int):Option Nat:=if 0<=i then(if i<n then some i.toNat else none) else if -(n:Int)<=i then some (i+n).toNat else none
def DK{α:Type}(xs:List α)(i:Int):Option α:=(J7 xs.length i).bind λ j=>xs[j]?
theorem M4{i:Int}{j:Nat}(h:J7 n i=some j):seqIndex? i n=some j/\j<n/\-(n:Int)<=i/\i<n:=by
 unfold J7 at h
 by_cases h0:0<=i
 ·rw[if_pos h0] at h
  by_cases h1:i<n
  ·rw[if_pos h1] at h;have e:i.toNat=j:=Option.some.inj h;exact⟨by rw[seqIndex_of h0 h1,e],⋯,⋯,h1⟩
  ·rw[if_neg h1] at h;cases h
 ·rw[if_neg h0] at h
  by_cases h1:-(n:Int)<=i
  ·rw[if_pos h1] at h;have e:(i+n).toNat=j:=Option.some.inj h;exact⟨by rw[seqIndex_neg ⋯ h1,e],⋯,h1,⋯⟩
  ·rw[if_neg h1] at h;cases h
theorem fG{α:Type}{xs:List α}{i:Int}{v:α}(h:DK xs i=some v):∃j,seqIndex? i xs.length=some j/\xs[j]?=some v/\j<xs.length/\-(xs.length:Int)<=i/\i<xs.length:=by
 unfold DK at h;cases e:J7 xs.length i with
 |none=>rw[e] at h;cases h
 |some j =>
  rw[e] at h;obtain⟨h1,h2,h3,h4⟩:=M4 e;exact⟨j,h1,h,h2,h3,h4⟩
theorem F6{α:Type}{xs:List α}{j:Nat}{v:α}(h:xs[j]?=some v):DK xs (j:Int)=some v:=by
 have hj:j<xs.length:=(CP.mp h).1;have e:J7 xs.length (j:Int)=some j:=by
  unfold J7;rw[if_pos ⋯,if_pos ⋯];simp
 unfold DK;rw[e];exact h
theorem lX{α:Type}(xs:List α)(v:α):DK (xs++[v]) (-1)=some v:=by
 have hl:(xs++[v]).length=xs.length+1:=by simp
 have e:J7 (xs++[v]).length (-1)=some xs.length:=by
  unfold J7;rw[hl,if_neg (by decide),if_pos ⋯];congr 1;omega
 unfold DK;rw[e];show(xs++[v])[xs.length]?=some v;simp
def MZ(b:Expr):Prop:=∀o i,subscripted b false o i=operate [o,i] (getItem o i)
def qI(X:Cx)(r:R2):Prop :=
 ∀(value slice:Expr) (pins:List (Addr×Obj)) (s:Shared) (σ:St) (H:Hp) (x y:V) (v u:Value) (Q:VK),Inv X pins σ H s->RelV x v->RelV y u->r x y H Q ->
  subscripted slice false v u=operate [v,u] (getItem v u)->wpAny (model X.prog X.w) X.A (subscriptTail value slice v u) (EP X pins σ Q) X.xe s
def kM(X:Cx)(id:String)(r:V->List V->Hp->VK->Prop):Prop :=
 ∀(pins:List (Addr×Obj)) (s:Shared) (σ:St) (H:Hp) (x:V) (xs:List V) (v:Value) (us:List Value) (Q:VK),Inv X pins σ H s->RelV x v->Vals xs us->r x xs H Q ->
  wpAny (model X.prog X.w) X.A (call (.builtin id) (v::us)) (EP X pins σ Q) X.xe s
section
variable {X:Cx}{a b:Expr}{ta tb:TE}{pos:Pos}
theorem JN{r:R2}(hr:qI X r)(ha:PE X a ta)(hb:PE X b tb)(hs:MZ b):PE X (.Subscript a b pos) (aP r ta tb):=by
 intro pins s σ H Q I h;exact Subscript_ (gH ha hb I h λ v u s2 x y H2 I2 rx ry q=>hr a b pins s2 σ H2 x y v u Q I2 rx ry q (hs _ _))
inductive rIxL(K:W.Frag)(x:V)(y:V)(H:Hp)(Q:VK):Prop
 |mk (p:_) (xs:_) (i:_) (v:_):x=.ref p->y=.int i->SqL K H p xs->DK xs i=some v->Q v H->rIxL K x y H Q
inductive rIxT(K:W.Frag)(x:V)(y:V)(H:Hp)(Q:VK):Prop
 |mk (p:_) (xs:_) (i:_) (v:_):x=.ref p->y=.int i->SqT K H p xs->DK xs i=some v->Q v H->rIxT K x y H Q
inductive rIxS(x:V)(y:V)(H:Hp)(Q:VK):Prop
 |mk (z:_) (i:_) (c:_):x=.str z->y=.int i->z.length<=sizeLine->DK z.cps.toList i=some c->Q (.str ⟨#[c]⟩) H->rIxS x y H Q
theorem aR:qI X (rIxL X.K):=by
 intro value slice pins s σ H x y v u Q I rx ry h hs;obtain⟨p,xs,i,z,rfl,rfl,hq,he,q⟩:=h;cases rx;obtain⟨t,rfl⟩:=ry;obtain⟨its,r,pl,hz⟩:=I.list hq;obtain⟨j,h1,h2,h3,h4,h5⟩:=fG he;obtain⟨w,ew,rw'⟩:=r.get h2;have hl:=r.length;have hn:=KO;have fin:EP X pins σ Q w s:=⟨z,H,I,rw',q⟩
 by_cases h0:0<=i
 ·have hj:i.toNat=j:=by
   rw[seqIndex_of h0 h5] at h1;exact Option.some.inj h1
  exact item_listR pl.isList h0 ⋯ (by rw[hj];simpa using ew) fin hs
 ·have hj:(i+(its.toArray.size:Int)).toNat=j:=by
   rw[seqIndex_neg ⋯ h4] at h1;rw[GC,<- hl];exact Option.some.inj h1
  exact subscriptTail_builtinR (x:=w) pl.isList.typeIs slot_list_getitem.lookup
   (wpAny_getItem_list_neg (Q:=λ r s'=>r=w/\EP X pins σ Q r s') pl.isList ⋯ (by rw[GC]<;>omega) ⋯ (by rw[hj];simpa using ew) ⟨rfl,fin⟩) hs
theorem RU:qI X (rIxT X.K):=by
 intro value slice pins s σ H x y v u Q I rx ry h hs;obtain⟨p,xs,i,z,rfl,rfl,hq,he,q⟩:=h;cases rx;obtain⟨t,rfl⟩:=ry;obtain⟨its,r,pl,hz⟩:=I.tuple hq;obtain⟨j,h1,h2,h3,h4,h5⟩:=fG he;obtain⟨w,ew,rw'⟩:=r.get h2;have hl:=r.length;have hn:=KO;have fin:EP X pins σ Q w s:=⟨z,H,I,rw',q⟩
 exact subscriptTail_builtinR (x:=w) pl.typeIs slot_tuple_getitem.lookup
  (getItem_tuple (j:=j) (Q:=λ r s'=>r=w/\EP X pins σ Q r s') pl ⋯ ⋯ (by rw[GC,<- hl];exact h1) (by simpa using ew) ⟨rfl,fin⟩) hs
theorem hX:qI X rIxS:=by
 intro value slice pins s σ H x y v u Q I rx ry h hs;obtain⟨z,i,c,rfl,rfl,hz,he,q⟩:=h;obtain⟨t,rfl⟩:=rx;obtain⟨t',rfl⟩:=ry;obtain⟨j,h1,h2,h3,h4,h5⟩:=fG he;have hl:z.cps.toList.length=z.length:=by simp[JD]
 rw[hl] at h1 h4 h5;have hn:=KO;exact tail_any (typeIs_str s z t) slot_str_getitem.lookup (getItem_str (c:=c) (by
  have e1:decide (i < -(2 ^ 63:Int))=false:=decide_eq_false ⋯;have e2:decide (i≥2 ^ 63)=false:=decide_eq_false ⋯;rw[e1,e2,Bool.or_false]) (by rw[h1];simpa using h2) ⟨.str ⟨#[c]⟩,H,I.tok _,⟨_,rfl⟩,q⟩) hs
theorem zA(its:List Value)(n j:Nat)(u:Value):Obj.mapSeq (·.setIfInBounds j u) { cls:=.type "list",data:=.seq its.toArray n }={ cls:=.type "list",data:=.seq (its.set j u).toArray n }:=by
 simp[Obj.mapSeq]
theorem Inv.lst{pins:List (Addr×Obj)}{σ:St}{H:Hp}{s:Shared}{p:Addr}{xs:List V}(I:Inv X pins σ H s)(h:H p=some (.lst xs)) :
  ∃(its:List Value)(n:Nat),Vals xs its/\s.heap.get? p=some { cls:=.type "list",data:=.seq its.toArray n }/\xs.length<=sizeLine:=by
 obtain⟨z,its,n,r,e⟩:=I.hok p _ h;exact⟨its,n,r,e,z⟩
theorem Inv.lstUpd{p:Addr}{xs ys:List V}{its':List Value}{n':Nat}{f:Obj->Obj}(I:Inv X pins σ H s)(h:H p=some (.lst xs))
  (ho:s.heap.get? p=some { cls:=.type "list",data:=.seq its.toArray n }) (hf:f { cls:=.type "list",data:=.seq its.toArray n }={ cls:=.type "list",data:=.seq its'.toArray n' }) (r:Vals ys its') (hz:ys.length<=sizeLine) (t:Nat) :
  Inv X pins σ (AD H p (.lst ys)) { s with heap:=s.heap.update p f,toks:=t }:=by
 have e:(s.heap.update p f).get? p=some { cls:=.type "list",data:=.seq its'.toArray n' }:=by
  rw[kQ f ho (by rw[hf]<;>rfl),hf]
 refine I.write (x:=p) (e:=p) (by rw[h];trivial) (.inl rfl) (λ b u hb q=>(QV _ _ (Ne.symm hb)).trans q) ⟨_,e⟩ ?_;exact⟨hz,its',n',r,e⟩
def lH:V->V->V->Hp->(Hp->Prop)->Prop:=λ o i v H Q=>∃p xs k j,o=.ref p/\i=.int k/\H p=some (.lst xs)/\J7 xs.length k=some j/\Q (AD H p (.lst (xs.set j v)))
theorem PD:fI X lH:=by
 intro pins s σ H o i v ov iv u Q I ro ri rv h;obtain⟨p,xs,k,j,rfl,rfl,hp,hj,q⟩:=h;cases ro;obtain⟨t,rfl⟩:=ri;obtain⟨its,n,r,ho,hz⟩:=I.lst hp;obtain⟨h1,h2,h3,h4⟩:=M4 hj;have hl:=r.length;have hn:=KO;have I':Inv X pins σ (AD H p (.lst (xs.set j v))) { s with heap:=s.heap.update p (Obj.mapSeq (·.setIfInBounds j u)) } :=
  I.lstUpd hp ho (zA its n j u) (r.set rv j) (by rw[Ac];exact hz) s.toks
 by_cases h0:0<=k
 ·have hk:k.toNat=j:=by
   rw[seqIndex_of h0 h4] at h1;exact Option.some.inj h1
  exact W.ki_setAt ho h0 ⋯ (by rw[GC,<- hl];exact h4) (by rw[hk];exact⟨_,I',q⟩)
 ·have hk:(k+(its.toArray.size:Int)).toNat=j:=by
   rw[seqIndex_neg ⋯ h3] at h1;rw[GC,<- hl];exact Option.some.inj h1
  exact W.ki_setBack ho ⋯ (by rw[GC,<- hl];exact h3) ⋯ (by rw[hk];exact⟨_,I',q⟩)
theorem xN(lo hi:Option Int)(n:Nat):(sliceBounds lo hi none n).1=((HT.sIx n 0 lo:Nat):Int)/\(sliceBounds lo hi none n).2.1=((HT.sIx n n hi:Nat):Int)/\(sliceBounds lo hi none n).2.2=1:=by
 refine⟨?_,?_,U⟩
 ·cases lo with
  |none=>simp[sliceBounds,HT.sIx]
  |some i =>
   simp only[sliceBounds,HT.sIx,zN,show(1:Int)>0 by decide,if_true]
   by_cases h:i<0
   ·simp only[h,if_true]<;>omega
   ·simp only[h,if_false]<;>omega
 ·cases hi with
  |none=>simp[sliceBounds,HT.sIx]
  |some i =>
   simp only[sliceBounds,HT.sIx,zN,show(1:Int)>0 by decide,if_true]
   by_cases h:i<0
   ·simp only[h,if_true]<;>omega
   ·simp only[h,if_false]<;>omega
theorem sO(its:List Value)(lo hi:Option Int):slicePick its.toArray lo hi none=((its.drop (HT.sIx its.length 0 lo)).take (HT.sIx its.length its.length hi-HT.sIx its.length 0 lo)).toArray:=by
 obtain⟨h1,h2,h3⟩:=xN lo hi its.toArray.size;unfold slicePick;rw[h1,h2,h3];simp only[sliceRange_one,pick_run,GC]<;>rfl
inductive rSlL(K:W.Frag)(x:V)(lo:Option Int)(hi:Option Int)(H:Hp)(Q:VK):Prop
 |mk (a:_) (xs:_):x=.ref a->SqL K H a xs->(∀p,H p=none->Q (.ref p) (AD H p (.lst (GT xs lo hi))))->rSlL K x lo hi H Q
theorem WE:y6 X (rSlL X.K):=by
 intro pins s σ H x v vl vu lo hi sl Q I rx hs pl pu h;obtain⟨a,xs,rfl,hx,q⟩:=h;cases rx;obtain⟨its,r,ht,hz⟩:=I.list hx;have hlen:=r.length;refine⟨"list",_,slot_list_getitem.lookup,ht.isList.typeIs,?_⟩;refine wpAny_getItem_list_slice ht.isList hs pl pu .none (by simp) ?_ (by rw[GC]<;>omega);rw[sO,<- hlen];refine⟨.ref s.heap.objs.size,_,I.laid (t':=s.toks) (o:=.lst (GT xs lo hi)) (λ b ob q=>DD _ q) (BU _) ?_,U,q _ (I.hok.fresh (BU _))⟩;exact⟨FB (tT xs lo hi) hz,_,0,(r.drop (HT.sIx xs.length 0 lo)).take (HT.sIx xs.length xs.length hi-HT.sIx xs.length 0 lo),FF _ rfl⟩
def FN:V->Bool
 | .non=>true
 | .bl _=>true
 | .int _=>true
 | .str _=>true
 |_=>false
def R7:V->V->Bool
 | .non,.non=>true
 | .bl a,.bl b=>a==b
 | .bl a,.int b=>(if a then 1 else 0)==b
 | .int a,.bl b=>a==(if b then 1 else 0)
 | .int a,.int b=>a==b
 | .str a,.str b=>a==b
 |_,_=>false
theorem eV{A:Around}{y:V}{u v:Value}(ry:RelV y u)(rx:RelV x v)(fy:FN y=true)(fx:FN x=true):SeqAt.EqAt A s u v (R7 y x):=by
 cases y with
 |non =>
  cases ry;cases x with
  |non=>cases rx;exact SeqAt.EqAt.same _
  |bl b=>cases rx;exact SeqAt.EqAt.none_bool b
  |int b=>obtain⟨t,rfl⟩:=rx;exact SeqAt.EqAt.none_int b t
  |str b=>obtain⟨t,rfl⟩:=rx;exact SeqAt.EqAt.none_str b t
  |_=>exact absurd (show false=true from fx) HB
 |bl a =>
  cases ry;cases x with
  |non=>cases rx;exact SeqAt.EqAt.bool_none a
  |bl b=>cases rx;exact SeqAt.EqAt.bool_bool a b
  |int b=>obtain⟨t,rfl⟩:=rx;exact SeqAt.EqAt.bool_int a b t
  |str b=>obtain⟨t,rfl⟩:=rx;exact SeqAt.EqAt.bool_str a b t
  |_=>exact absurd (show false=true from fx) HB
 |int a =>
  obtain⟨t',rfl⟩:=ry;cases x with
  |non=>cases rx;exact SeqAt.EqAt.int_none a t'
  |bl b=>cases rx;exact SeqAt.EqAt.int_bool a t' b
  |int b=>obtain⟨t,rfl⟩:=rx;exact SeqAt.EqAt.int_int a t' b t
  |str b=>obtain⟨t,rfl⟩:=rx;exact SeqAt.EqAt.int_str a t' b t
  |_=>exact absurd (show false=true from fx) HB
 |str a =>
  obtain⟨t',rfl⟩:=ry;cases x with
  |non=>cases rx;exact SeqAt.EqAt.str_none a t'
  |bl b=>cases rx;exact SeqAt.EqAt.str_bool a t' b
  |int b=>obtain⟨t,rfl⟩:=rx;exact SeqAt.EqAt.str_int a t' b t
  |str b=>obtain⟨t,rfl⟩:=rx;exact SeqAt.EqAt.str_str a t' b t
  |_=>exact absurd (show false=true from fx) HB
 |_=>exact absurd (show false=true from fy) HB
def K6(x:V)(u:Value):Bool:=match u with
 | .none=>R7 .non x
 | .bool b=>R7 (.bl b) x
 | .int i _=>R7 (.int i) x
 | .str z _=>R7 (.str z) x
 |_=>false
theorem RI{y:V}{u:Value}(r:RelV y u)(f:FN y=true):K6 x u=R7 y x:=by
 cases y with
 |non=>cases r;rfl
 |bl b=>cases r;rfl
 |int i=>obtain⟨t,rfl⟩:=r;rfl
 |str z=>obtain⟨t,rfl⟩:=r;rfl
 |_=>exact absurd (show false=true from f) HB
theorem SI{x:V}:∀{xs:List V}{us:List Value},Vals xs us->xs.all FN=true->us.any (K6 x)=xs.any λ y=>R7 y x
 |_,_,.nil,_=>rfl
 |y::xs,u::us,.cons r t,f=>by
  rw[yH,KH] at f;rw[Ae,Ae,RI r f.1,SI t f.2]
theorem O4{A:Around}{s:Shared}{x:V}{v:Value}(rx:RelV x v)(fx:FN x=true):∀{xs:List V}{us:List Value},Vals xs us->xs.all FN=true->∀u∈us,SeqAt.EqAt A s u v (K6 x u)
 |_,_,.nil,_=>λ u hu=>by cases hu
 |y::xs,u::us,.cons r t,f=>λ u' hu=>by
  rw[yH,KH] at f;rcases C6.mp hu with rfl|hu
  ·rw[RI r f.1];exact eV r rx f.1 fx
  ·exact O4 rx fx t f.2 u' hu
def R5(x:V)(xs:List V):Bool:=xs.any λ y=>R7 y x
inductive rIn(K:W.Frag)(neg:Bool)(x:V)(y:V)(H:Hp)(Q:VK):Prop
 |mk (p:_) (xs:_):y=.ref p->((SqL K H p xs\/SqT K H p xs))->FN x=true->xs.all FN=true->(Q (.bl (if neg then !R5 x xs else R5 x xs)) H)->rIn K neg x y H Q
theorem oV:FI X (compareOp .In) (rIn X.K false):=by
 intro pins s σ H x y v u Q I rx ry h;obtain⟨p,xs,rfl,hq,fx,fs,q⟩:=h;cases ry;rcases hq with hq|hq
 ·obtain⟨its,r,pl,hz⟩:=I.list hq;refine SeqAt.in_listAt (K6 x) pl.isList (λ w hw=>O4 rx fx r fs w (by simpa using hw)) ⟨.bl _,H,I,rfl,?_⟩;rw[show its.toArray.any (K6 x)=its.any (K6 x) by simp,SI r fs];exact q
 ·obtain⟨its,r,pl,hz⟩:=I.tuple hq;refine SeqAt.in_tupleAt (K6 x) pl (λ w hw=>O4 rx fx r fs w (by simpa using hw)) ⟨.bl _,H,I,rfl,?_⟩;rw[show its.toArray.any (K6 x)=its.any (K6 x) by simp,SI r fs];exact q
theorem vV:FI X (compareOp .NotIn) (rIn X.K true):=by
 intro pins s σ H x y v u Q I rx ry h;obtain⟨p,xs,rfl,hq,fx,fs,q⟩:=h;cases ry;rcases hq with hq|hq
 ·obtain⟨its,r,pl,hz⟩:=I.list hq;refine SeqAt.notIn_listAt (K6 x) pl.isList (λ w hw=>O4 rx fx r fs w (by simpa using hw)) ⟨.bl _,H,I,rfl,?_⟩;rw[show its.toArray.any (K6 x)=its.any (K6 x) by simp,SI r fs];exact q
 ·obtain⟨its,r,pl,hz⟩:=I.tuple hq;refine SeqAt.notIn_tupleAt (K6 x) pl (λ w hw=>O4 rx fx r fs w (by simpa using hw)) ⟨.bl _,H,I,rfl,?_⟩;rw[show its.toArray.any (K6 x)=its.any (K6 x) by simp,SI r fs];exact q
theorem wX:DO X (.builtin "len") (λ xs H Q=>∃p ys,xs=[.ref p]/\(SqL X.K H p ys\/SqT X.K H p ys)/\Q (.int ys.length) H):=by
 intro pins s σ H xs us Q I r h;obtain⟨p,ys,rfl,hq,q⟩:=h;obtain⟨u,rfl,rx⟩:=E7 r;cases rx;have hn:=KO;rcases hq with hq|hq
 ·obtain⟨its,r',pl,hz⟩:=I.list hq;have hlen:=r'.length;exact Calls.call_len_list pl.isList (by simp only[GC]<;>omega) ⟨.int ys.length,H,I.tok _,⟨s.toks+1,by rw[GC,hlen]⟩,q⟩
 ·obtain⟨its,r',pl,hz⟩:=I.tuple hq;have hlen:=r'.length;exact len_tuple pl (by simp only[GC]<;>omega) ⟨.int ys.length,H,I.tok _,⟨s.toks+1,by rw[GC,hlen]⟩,q⟩
theorem tM:DO X (.type "list") (λ xs H Q=>∃p ys,xs=[.ref p]/\(SqL X.K H p ys\/SqT X.K H p ys)/\∀l,H l=none->Q (.ref l) (AD H l (.lst ys))):=by
 intro pins s σ H xs us Q I r h;obtain⟨p,ys,rfl,hq,q⟩:=h;obtain⟨u,rfl,rx⟩:=E7 r;cases rx;have fin:∀(its:List Value),Vals ys its->ys.length<=sizeLine->∀(h':Heap)(c':Nat),(∀b o',s.heap.get? b=some o'->h'.get? b=some o') ->
   h'.get? s.heap.objs.size=some { cls:=.type "list",dict:=none,data:=.seq its.toArray c',slots:=#[] }->EP X pins σ Q (.ref s.heap.objs.size) { s with heap:=h' }:=λ its r' hz h' c' kp e =>
  ⟨.ref s.heap.objs.size,_,I.laid (t':=s.toks) kp (BU _) (show ObjOk X.prog X.w _ h' _ (.lst ys) from⟨hz,its,c',r',e⟩),rfl,q _ (I.hok.fresh (BU _))⟩
 rcases hq with hq|hq
 ·obtain⟨its,r',pl,hz⟩:=I.list hq;have hlen:=r'.length;obtain⟨o,ho,hc,n,hd⟩:=pl.isList;exact call_list_seq p (.inl rfl) ho hc hd (λ h' c' kp e=>fin its r' hz h' c' kp e) (by simp only[GC]<;>omega)
 ·obtain⟨its,r',pl,hz⟩:=I.tuple hq;have hlen:=r'.length;obtain⟨o,ho,hc,n,hd⟩:=pl;exact call_list_seq p (.inr rfl) ho hc hd (λ h' c' kp e=>fin its r' hz h' c' kp e) (by simp only[GC]<;>omega)
def zK(K:W.Frag)(T:String)(x:V)(H:Hp):Prop:=match x with
 | .str _=>T="str"
 | .int _=>T="int"
 | .ref p=>(T="list" /\ ∃xs,SqL K H p xs)\/(T="tuple" /\ ∃o,K.lookup p=some o/\o.cls=.type "tuple" /\ o.dict=none) \/
   (T="dict" /\ ((∃kvs,H p=some (.dK kvs))\/∃kvs,H p=some (.dT kvs)))\/(T="set" /\ ∃S n,H p=some (.set S n))
 |_=>False
theorem jC{T:String}{v:Value}(I:Inv X pins σ H s)(r:RelV x v)(ty:zK X.K T x H) :
  s.TypeIs v T/\∀a,v=.ref a->∃ob,s.heap.get? a=some ob/\ob.dict=none:=by
 cases x with
 |str z =>
  obtain⟨t,rfl⟩:=r;cases (show T="str" from ty);exact⟨typeIs_str s z t,λ _ e=>nomatch e⟩
 |int i =>
  obtain⟨t,rfl⟩:=r;cases (show T="int" from ty);exact⟨typeIs_int s i t,λ _ e=>nomatch e⟩
 |ref p =>
  cases r;rcases ty with⟨rfl,xs,hq⟩|⟨rfl,o,hk,hc,hd⟩|⟨rfl,hk⟩|⟨rfl,S,n,hk⟩
  ·obtain⟨its,_,pl,_⟩:=I.list hq;refine⟨pl.isList.typeIs,λ a e=>?_⟩;cases e;obtain⟨o,n,e,c,hd,_⟩:=pl;exact⟨o,e,hd⟩
  ·refine⟨⟨o,I.kIn p o hk,hc⟩,λ a e=>?_⟩;cases e;exact⟨o,I.kIn _ o hk,hd⟩
  ·have z:∃o,s.heap.get? p=some o/\o.ExactDict:=by
    rcases hk with⟨kvs,hk⟩|⟨kvs,hk⟩
    ·obtain⟨_,_,_,_,o,_,_,e,ex,_⟩:=I.hok p _ hk;exact⟨o,e,ex⟩
    ·obtain⟨_,_,_,_,o,_,_,e,ex,_⟩:=I.hok p _ hk;exact⟨o,e,ex⟩
   obtain⟨o,e,ex⟩:=z;refine⟨⟨o,e,ex.1⟩,λ a e2=>?_⟩;cases e2;exact⟨o,e,ex.2.1⟩
  ·obtain⟨o,_,_,_,e,ex,_⟩:=I.hok p _ hk;refine⟨⟨o,e,ex.1⟩,λ a e2=>?_⟩;cases e2;exact⟨o,e,ex.2.1⟩
 |_=>exact False.elim ty
def aY(K:W.Frag)(T:String)(r:V->List V->Hp->VK->Prop)(to:TE)(t:TA):TE:=λ σ H Q=>to σ H λ x H1=>zK K T x H1/\t σ H1 λ xs H2=>r x xs H2 Q
variable {o e:Expr}{es:List Expr}{to:TE}{t:TA}{name:Str}{apos cpos:Pos}{T id:String}{r:V->List V->Hp->VK->Prop}
theorem GN(pa:PlainAttrs T)(slot:Slot T name id)(hty:typeOf (.builtin id)=pure (.type "method_descriptor"))(hm:kM X id r)(ho:PE X o to)(ha:PA X (e::es) t)
  (hbase:attributeBase o name X.env (eval o X.env)=eval o X.env:=by rfl)
  (hfew:((backTo cpos (starEach (e::es) X.env)).all (λ x=>!x.1)&&(backToKw cpos (keywordEach [] X.env)).all (λ x=>x.1.isSome)
   && decide ((e::es).length+([]:List Keyword).length+(if([]:List Keyword).isEmpty then 0 else 1)<30))=true:=by rfl)
  (hline:(apos.endLine==cpos.line)=true:=by rfl) (hs:starEach (e::es) X.env=(false,eval e X.env)::starEach es X.env:=by rfl) (hplain:(backTo cpos (starEach es X.env)).any (·.1)=false:=by rfl) :
  PE X (.Call (.Attribute o name apos) (e::es) [] cpos) (aY X.K T r to t):=by
 intro pins s σ H Q I h;refine wpAny_Call_method_late hbase hfew hline rfl (B3 (ho pins s σ H _ I h) λ v s1 z9=>?_);obtain⟨x,H1,I1,r1,ty,q1⟩ := z9;obtain⟨h1,h2⟩:=jC I1 r1 ty;refine⟨T,id,pa,slot,hty,h1,h2,?_⟩;have hA:=ha cpos pins s1 σ H1 _ I1 q1;rw[hs] at hA ⊢;refine Calls.callWith_builtin (by show(false||(backTo cpos (starEach es X.env)).any (·.1))=false;rw[hplain]<;>rfl) (Calls.evalArgs_plain ?_);exact B3 hA λ us s2 ⟨vs,H2,I2,r2,q2⟩=>hm pins s2 σ H2 x vs v us Q I2 r1 r2 q2
end
def uX(X:Cx)(id:String)(r:V->List V->Hp->VK->Prop):Prop :=
 ∀(pins:List (Addr×Obj)) (s:Shared) (σ:St) (H:Hp) (x:V) (xs:List V) (v:Value) (us:List Value) (Q:VK),Inv X pins σ H s->RelV x v->Vals xs us->r x xs H Q ->
  wpAny (model X.prog X.w) X.A (call (.builtin id) (v::us)) (EP X pins σ Q) X.xe s
theorem Vals.one:∀{x:V}{us:List Value},Vals [x] us->∃u,us=[u]/\RelV x u
 |_,_,.cons r .nil=>⟨_,rfl,r⟩
theorem Vals.two:∀{x y:V}{us:List Value},Vals [x,y] us->∃u v,us=[u,v]/\RelV x u/\RelV y v
 |_,_,_,.cons r (.cons q .nil)=>⟨_,_,rfl,r,q⟩
section
variable {l b:Addr}{xs ys zs:List V}
theorem Inv.lset{its':List Value}{f:Array Value->Array Value}{t':Nat}(I:Inv X pins σ H s)(hH:H l=some (.lst xs))
  (e:s.heap.get? l=some { cls:=.type "list",data:=.seq its.toArray n }) (hf:f its.toArray=its'.toArray) (hv:Vals ys its') (hz:ys.length<=sizeLine) :
  Inv X pins σ (AD H l (.lst ys)) { s with heap:=s.heap.update l (Obj.mapSeq f),toks:=t' }:=by
 have q:=PySem.IsL.update e f;rw[hf] at q;refine I.write (x:=l) (e:=l) (by rw[hH];exact trivial) (.inl rfl) (λ b' u hb hu=>(QV s.heap (Obj.mapSeq f) (Ne.symm hb)).trans hu) ⟨_,q⟩ ?_;exact⟨hz,its',_,hv,q⟩
theorem Inv.lnew{t':Nat}(I:Inv X pins σ H s)(hv:Vals ys its)(hz:ys.length<=sizeLine) :
  Inv X pins σ (AD H s.heap.objs.size (.lst ys)) { s with heap:=s.heap.push { cls:=.type "list",data:=.seq its.toArray },toks:=t' } :=
 I.laid (λ _ _ q=>DD _ q) (BU _) ⟨hz,its,0,hv,FF _ rfl⟩
theorem Inv.fresh(I:Inv X pins σ H s):H s.heap.objs.size=none:=I.hok.fresh (BU _)
theorem Inv.lstM(I:Inv X pins σ H s)(hH:H l=some (.lst xs)):xs.length<=sizeLine/\∃(its:List Value)(n:Nat),Vals xs its/\xs.length=its.length/\s.heap.get? l=some { cls:=.type "list",data:=.seq its.toArray n }:=by
 obtain⟨z,its,n,r,e⟩:=I.hok l _ hH;exact⟨z,its,n,r,r.length,e⟩
theorem oA(h:n<=sizeLine):Builtin.List.listTooLong n=false:=by
 unfold Builtin.List.listTooLong;exact decide_eq_false ⋯
end
def MH:V->List V->Hp->VK->Prop:=λ x vs H Q=>∃l xs y,x=.ref l/\vs=[y]/\H l=some (.lst xs)/\xs.length<sizeLine/\Q .non (AD H l (.lst (xs++[y])))
theorem aV:uX X "list.append" MH:=by
 intro pins s σ H x vs v us Q I rx rv h;obtain⟨l,xs,y,rfl,rfl,hH,hz,q⟩:=h;cases rx;obtain⟨u,rfl,ru⟩:=rv.one;obtain⟨z,its,n,r,hl,e⟩:=I.lstM hH;refine call_meets F.slot_list_append ⟨_,e,rfl⟩ F.entry_list_append (F.args_list_append_2 _ _) (PySem.list_append l its.toArray n u (by rw[GC];omega)) ⟨e,?_⟩;refine⟨.non,_,I.lset (its':=its++[u]) hH e (by simp) (r.append (.cons ru .nil)) ?_,U,q⟩;rw[G2,R6];omega
def LP:V->List V->Hp->VK->Prop:=λ x vs H Q=>∃l b xs zs,x=.ref l/\vs=[.ref b]/\H l=some (.lst xs)/\H b=some (.lst zs)/\xs.length+zs.length<=sizeLine/\Q .non (AD H l (.lst (xs++zs)))
theorem PU:uX X "list.extend" LP:=by
 intro pins s σ H x vs v us Q I rx rv h;obtain⟨l,b,xs,zs,rfl,rfl,hH,hB,hz,q⟩:=h;cases rx;obtain⟨u,rfl,ru⟩:=rv.one;cases ru;obtain⟨z,its,n,r,hl,e⟩:=I.lstM hH;obtain⟨z2,its2,n2,r2,hl2,e2⟩:=I.lstM hB;have hsz:its.toArray.size+its2.toArray.size<=sizeLine:=by rw[GC,GC];omega
 have hlong:¬(!its.toArray.isEmpty&&Builtin.List.listTooLong (its.toArray.size+its2.toArray.size))=true:=by
  rw[oA hsz,Bg];exact HB
 refine call_meets F.slot_list_extend ⟨_,e,rfl⟩ F.entry_list_extend (F.args_list_extend_2 _ _)
  (AutoSeq1.list_extend_list_list_0 l its.toArray n b its2.toArray n2 hlong (by rw[GC];omega) ⋯) ⟨e,e2,?_⟩
 refine⟨.non,_,I.lset (its':=its++its2) hH e (by simp) (r.append r2) ?_,U,q⟩;rw[G2];omega
inductive rCat(x:V)(y:V)(H:Hp)(Q:VK):Prop
 |mk (l:_) (b:_) (xs:_) (zs:_):x=.ref l->y=.ref b->H l=some (.lst xs)->H b=some (.lst zs)->xs.length+zs.length<=sizeLine->(∀p,H p=none->Q (.ref p) (AD H p (.lst (xs++zs))))->rCat x y H Q
theorem k7:FI X (binaryOp .Add) rCat:=by
 intro pins s σ H x y v u Q I rx ry h;obtain⟨l,b,xs,zs,rfl,rfl,hH,hB,hz,q⟩:=h;cases rx;cases ry;obtain⟨z,its,n,r,hl,e⟩:=I.lstM hH;obtain⟨z2,its2,n2,r2,hl2,e2⟩:=I.lstM hB;refine PySem.P.add_list e e2 ?_ (by rw[GC,GC];omega);have ea:its.toArray++its2.toArray=(its++its2).toArray:=by simp
 rw[ea];exact⟨.ref _,_,I.lnew (t':=s.toks) (r.append r2) (by rw[G2];omega),U,q _ I.fresh⟩
section
variable {prog:Program}{w:World}{A:Around}{E:Value->Shared->Prop}
end
end L2
namespace Att
open PySem PySem.W PySem.Calls PyProof.Rows
theorem wB{P:Params}{h:Heap}:∀(ns:List Int)(vs:List Value),WellAll P h vs (ns.map WData.int)->IntsAre vs ns:=by
 intro ns
 induction ns with
 |nil =>
  intro vs w;rw[pZ] at w;cases w;exact .nil
 |cons n ns ih =>
  intro vs w;rw[PZ] at w;cases w with
  |cons a b =>
   cases a;exact .cons _ _ (ih _ b)
theorem P7{l:OpenLaw}{n:Nat}(hn:l.most=some n){P:Params}{h:Heap}{args:List WData}{vals:List Value}
  (hpre:l.row.toRowW.claim.pre args=true) (hwl:WellAll P h vals args) :
  ∃a vs ns,vals=[Value.ref a]/\args=[WData.list (ns.map WData.int)]/\h.get? a=some { cls:=.type "list",data:=.seq vs.toArray }/\IntsAre vs ns/\ns.length<=n:=by
 have hsh:WShape.hasAll [] args [.list .int]=true:=(pre_splitW hpre).1;have hc:l.pre.holds [] { args:=args }=true:=(pre_splitW hpre).2;obtain⟨d,r,rfl,h1,h2⟩:=hasAllW_cons hsh;obtain rfl:=hasAllW_nil h2;obtain⟨xs,rfl,h3⟩:=hasW_list h1;obtain⟨ns,rfl⟩:=items_int h3;have hlen:ns.length<=n:=by
  unfold OpenLaw.pre at hc;have h4:(WTm.not (.lt (.lit (.int (n:Int))) (.len (.arg 0)))).holds [] { args:=[.list (ns.map .int)] }=true:=by
   have h4:=(holds_andW hc).1;rw[hn] at h4;exact h4
  have h5:=condW_of h4 (w_not (w_lt w_lit (w_len_list (w_arg rfl))));rw[BY] at h5;refine Nat.le_of_not_lt λ q=>?_
  have q':(n:Int)<((ns.length:Nat):Int):=⋯
  first
   | (rw[CB q'] at h5;exact absurd h5 (by decide))
   | (simp at h5;omega)
 cases hwl with
 |cons w1 w2 =>
  cases w2;cases w1 with
  |list ho hall=>exact⟨_,_,ns,rfl,rfl,ho,wB ns _ hall,hlen⟩
theorem OP(l:OpenLaw)(args:List WData):l.row.toRowW.claim.post args (.bool true) args=true :=
 postW_of (r:=l.row.toRowW) (X:=(true==true))
  (show WShape.has [] (.bool true) .bool=true by first|rfl|decide|simp[WShape.has,WShape.arms,WShape.armsAll])
  (show(WTm.eq .res (.lit (.bool true))).value [] { args:=args,res:=some (.bool true),after:=args }=some (.bool (true==true)) from w_eq_bool (w_res rfl) w_lit) rfl
theorem attach_call{l:OpenLaw}{n:Nat}{q:Program}{loose:List Str}{XP:(Str->Option Value)->Heap->Prop}{YP:World->Heap->Prop}{d:DefRec}
  (hn:l.most=some n) (hdf:d.params.defaults=[])
  (call:∀(w:World)(s₀ s₁:Shared)(mg mb:Str->Option Value)(fa:Addr)(o:Obj)(pm cd doc:Value)(a:Addr)(vs:List Value)(ns:List Int),
   Ground q loose [] XP w s₀ mg mb s₁.heap->YP w s₁.heap ->
   s₁.heap.get? fa=some o->o.data=.func (docDef d.name d.params d.body d.scope pm cd doc)->s₁.heap.CodeRec cd d.name->mg d.name=some (.ref fa) ->
   s₁.heap.get? a=some { cls:=.type "list",data:=.seq vs.toArray }->IntsAre vs ns->ns.length<=n->s₁.gens=#[] ->
   codeAny (model l.prog w) callerA (.call (.ref fa) ⟨[.ref a],[]⟩) (λ r s'=>r=.ok (.ret (.bool true))/\OldK s₁.heap s'.heap/\s'.os=s₁.os/\AllBare s'.gens) s₁) :
  WalkO q loose XP YP l.row.toRowW d [] (λ f vs=>PySem.call f vs):=by
 intro w s₀ s₁ mg mb G Y fa o pm cd doc dV kV ho hd hcd hD hmg hg args vals as hpre hlay hrd hwl hlo;obtain rfl:dV=.none:=Dflts.none hD hdf;obtain rfl:kV=.none:=Dflts.noKw hD;obtain⟨a,vs,ns,rfl,rfl,hobj,hints,hlen⟩:=P7 hn hpre hwl;refine enter_call (codeAny_mono (call w s₀ s₁ mg mb fa o pm cd doc a vs ns G Y ho (fd_plain hd) hcd hmg hobj hints hlen hg) λ r s' hq=>?_);obtain⟨rfl,h2,h3,h4⟩:=hq;exact⟨.inl ⟨.bool true,.bool true,[],rfl,λ _=>rfl,.bool true,OP l _,λ _=>⟨List.Pairwise.nil,λ _ hm=>(nomatch hm)⟩⟩,h2,h3,h4⟩
section
variable {prog:Program}{w:World}{A:Around}{E:Value->Shared->Prop}{s:Shared}{K:Frag}
end
end Att
namespace L2
open PySem PySem.Spec PyProof.Rows
variable {H:Hp}{A B:Prop}{st:Stmt}{qual x:Str}
theorem oI:∀{vs:List Value}{ns:List Int},IntsAre vs ns->Vals (ns.map V.int) vs
 |_,_,.nil=>.nil
 |_,_,.cons n t h=>.cons ⟨t,rfl⟩ (oI h)
abbrev B5:R8:=λ _ _ _ _ _ _=>False
abbrev E0:XK:=λ _ _ _=>False
theorem JY{X:Cx}:JQ B5 X E0:=λ _ _ _ _ _ _ _ h=>h.elim
structure Fun(K:W.Frag)(x qual:Str)(st:Stmt)(f:Addr)(fd:FuncData):Prop where
 ex:∃(oc:Value)(od:Option Addr)(kV doc pm:Value)(an:Option Addr)(cdv ct:Value) (osl:Array (Option Value)),
  fd=W.fnOf x qual (D7 st) (C7 st) (AG st) .none kV doc pm an cdv ct/\K.lookup f=some ⟨oc,od,.func fd,osl⟩/\W.codeIn K cdv qual=true
 kp:W.keepIn K (.ref f)=true
section
variable {P:Program}{w:World}{K:W.Frag}{mg:Str->Option Value}{base:Heap}
theorem Fun.ok{f:Addr}{fd:FuncData}{N ps:List Str}{k:Nat}{sp:Sp}(F:Fun K x qual st f fd)(S:FnScope N ps (AG st))(len:∀vs H Q E,sp vs H Q E->vs.length=ps.length)
  (hbody:∀(cdv:Value)(A:Around)(outer:List Env)(s:Shared)(H:Hp)(vs:List V)(Q:VK)(E:XK),Room k (A.deeper (envOfC qual (AG st) s.heap.objs.size f cdv))->sp vs H Q E ->
   ∃t,PSs (JS B5 P w K mg base N qual (AG st) f cdv A outer s H E).nox (C7 st) t/\t { nx:=λ _ H'=>Q .non H',rt:=Q } (FP N vs) H):FnOk P w K mg base B5 (k+1) f fd ps sp:=by
 obtain⟨oc,od,kV,doc,pm,an,cdv,ct,osl,rfl,lk,hcd⟩:=F.ex;refine IQ lk hcd S len λ A outer s H vs Q E hr hsp=>?_
 obtain⟨t,h,q⟩:=hbody cdv A outer s H vs Q E hr hsp;exact⟨t,h.nox,q⟩
theorem Fun.binds{f:Addr}{fd:FuncData}{ps:List Str}(F:Fun K x qual st f fd)
  (h:∀(kV doc pm:Value)(an:Option Addr)(cdv ct:Value)(us:List Value),us.length=ps.length->bindArgs (W.fnOf x qual (D7 st) (C7 st) (AG st) .none kV doc pm an cdv ct) ⟨us,[]⟩=pure (ps.zip us)):Binds K fd ps []:=by
 obtain⟨oc,od,kV,doc,pm,an,cdv,ct,osl,rfl,lk,hcd⟩:=F.ex;exact .all (h kV doc pm an cdv ct)
theorem FH{f:Addr}{oc:Value}{od an:Option Addr}{osl:Array (Option Value)}{kV doc pm cdv ct:Value}(l:K.lookup f=some ⟨oc,od,.func (W.fnOf x qual (D7 st) (C7 st) (AG st) .none kV doc pm an cdv ct),osl⟩)
  (c:W.codeIn K cdv qual=true) (k:W.keepIn K (.ref f)=true):Fun K x qual st f (W.fnOf x qual (D7 st) (C7 st) (AG st) .none kV doc pm an cdv ct):=⟨⟨oc,od,kV,doc,pm,an,cdv,ct,osl,rfl,l,c⟩,k⟩
end
theorem aK{n:Nat}(h:n<=1000):n<sizeLine:=Nat.lt_of_le_of_lt h (by decide)
section
variable {X:Cx}
theorem pv(i:Nat){pos:Pos}(hN:X.N[i]?=some x:=by rfl)(hv:QZ X.env.scope x:=by first|exact AH rfl|exact IH (AH rfl)|exact IH (IH rfl))(hd:(x==("__debug__":Str))=false:=by decide)
  (hcd:(x==("__classdict__":Str))=false:=by decide):PE X (.Name x pos) (tVar i):=IV hN hv hd hcd
end
theorem BB(h:B):if false=true then A else B:=by
 rw[if_neg HB];exact h
theorem DC(h:A):if true=true then A else B:=by
 rw[if_pos rfl];exact h
theorem AZ{c:Prop} [Decidable c](h1:c->A)(h2:¬c->B):if c then A else B:=by
 by_cases h:c
 ·rw[if_pos h];exact h1 h
 ·rw[if_neg h];exact h2 h
def Same(H H':Hp):Prop:=∀b o,H b=some o->H' b=some o
theorem Same.refl(H:Hp):Same H H:=λ _ _ h=>h
theorem Same.trans{H1 H2:Hp}(a:Same H H1)(b:Same H1 H2):Same H H2:=λ c o h=>b c o (a c o h)
theorem Same.free{H':Hp}(e:Same H H'){l:Addr}(h:H' l=zS):H l=zS:=by
 cases q:H l with
 |none=>rfl
 |some o =>
  rw[e l o q] at h;cases h
theorem Same.seq{K:W.Frag}{H':Hp}{a:Addr}{xs:List V}(e:Same H H')(h:SqL K H a xs):SqL K H' a xs:=by
 rcases h with(h|⟨o,h⟩)|h
 ·exact .inl (.inl (e _ _ h))
 ·exact .inl (.inr ⟨o,e _ _ h⟩)
 ·exact .inr h
end L2
set_option maxHeartbeats 4000000
namespace Ma
variable {d t x y y':Int}
theorem split(d x:Int)(hd:0<d):∃q,x=d*q+x%d/\0<=x%d/\x%d<d :=
 ⟨x/d,by have:=wK x d;omega,UH x ⋯,UV x hd⟩
theorem EE{k m:Int}(hd:0<d)(h:k<m):d*k+d<=d*m:=by
 have:=kD (show k+1<=m by omega) (kE hd);rw[qY,eJ] at this;exact this
def nextO(d a b t:Int):Int:=if b<t%d then t-t%d+d+a else t-t%d+(if a>t%d then a else t%d)
def lastO(d a b t:Int):Int:=if t%d<a then t-t%d-d+b else t-t%d+(if b<t%d then b else t%d)
section
variable {a b:Int}
theorem G7(hd:0<d)(h0:0<=a)(h1:a<=b)(h2:b<d) :
  ∃k,d*k+a<=nextO d a b t/\nextO d a b t<=d*k+b/\t<=nextO d a b t/\nextO d a b t<t+d /\
   ∀k' x,d*k'+a<=x->x<=d*k'+b->t<=x->nextO d a b t<=x:=by
 obtain⟨q,hq,r0,r1⟩:=split d t hd;unfold nextO;generalize t%d=r at *;split
 ·refine⟨q+1,?_⟩;have e:d*(q+1)=d*q+d:=by rw[qY,eJ]
  refine⟨⋯,⋯,⋯,⋯,λ k' x x1 x2 x3=>?_⟩;rcases dJ q k' with hk|hk
  ·have:=EE hd hk;omega
  ·have:=kD hk (kE hd);omega
 ·refine⟨q,?_⟩;refine⟨by split<;>omega,by split<;>omega,by split<;>omega,by split<;>omega,λ k' x x1 x2 x3=>?_⟩;rcases(by omega:q<k'\/q=k'\/k'<q) with hk|hk|hk
  ·have:=EE hd hk;split<;>omega
  ·subst hk;split<;>omega
  ·have:=EE hd hk;omega
theorem fX(hd:0<d)(h0:0<=a)(h1:a<=b)(h2:b<d) :
  ∃k,d*k+a<=lastO d a b t/\lastO d a b t<=d*k+b/\lastO d a b t<=t/\t<lastO d a b t+d /\
   ∀k' x,d*k'+a<=x->x<=d*k'+b->x<=t->x<=lastO d a b t:=by
 obtain⟨q,hq,r0,r1⟩:=split d t hd;unfold lastO;generalize t%d=r at *;split
 ·refine⟨q-1,?_⟩;have e:d*(q-1)=d*q-d:=by rw[Bi,eJ]
  refine⟨⋯,⋯,⋯,⋯,λ k' x x1 x2 x3=>?_⟩;rcases dJ k' q with hk|hk
  ·have:=EE hd hk;omega
  ·have:=kD hk (kE hd);omega
 ·refine⟨q,?_⟩;refine⟨by split<;>omega,by split<;>omega,by split<;>omega,by split<;>omega,λ k' x x1 x2 x3=>?_⟩;rcases(by omega:q<k'\/q=k'\/k'<q) with hk|hk|hk
  ·have:=EE hd hk;omega
  ·subst hk;split<;>omega
  ·have:=EE hd hk;split<;>omega
end
structure Clk(d:Int)(n:Nat)(A B C:Nat->Int):Prop where
 d0:0<d
 a0:∀i,i<n->0<=A i
 ab:∀i,i<n->A i<=B i
 bd:∀i,i<n->B i<d
 c0:∀i,i<n->0<=C i
 lt:∀i j,i<j->j<n->B i<A j
 yl:∀i j,i<j->j<n->B i+C i<A j+C j
 wr:∀i j,i<n->j<n->B i+C i<d+(A j+C j)
def VW(d:Int)(n:Nat)(A B C:Nat->Int)(x y:Int):Prop:=∃i k,i<n/\d*k+A i<=x/\x<=d*k+B i/\y=x+C i
section
variable {n:Nat}{A B C:Nat->Int}
theorem jO(K:Clk d n A B C){x':Int}(h:VW d n A B C x y)(h':VW d n A B C x' y')(l:x<x'):y<y':=by
 obtain⟨i,k,hi,x1,x2,rfl⟩:=h;obtain⟨j,m,hj,z1,z2,rfl⟩:=h';have d0:=K.d0;have wr:=K.wr i j hi hj;have a1:=K.a0 i hi;have a2:=K.a0 j hj;have b1:=K.bd i hi;have b2:=K.bd j hj;rcases(by omega:k<m\/k=m\/m<k) with hk|hk|hk
 ·have:=EE d0 hk;omega
 ·subst hk;rcases(by omega:i<j\/i=j\/j<i) with e|e|e
  ·have:=K.yl i j e hj;omega
  ·subst e;omega
  ·have:=K.lt j i e hi;omega
 ·have:=EE d0 hk;omega
theorem aZ(K:Clk d n A B C)(h:VW d n A B C x y)(h':VW d n A B C x y'):y=y':=by
 obtain⟨i,k,hi,x1,x2,rfl⟩:=h;obtain⟨j,m,hj,z1,z2,rfl⟩:=h';have d0:=K.d0;have a1:=K.a0 i hi;have a2:=K.a0 j hj;have b1:=K.bd i hi;have b2:=K.bd j hj;rcases(by omega:k<m\/k=m\/m<k) with hk|hk|hk
 ·have:=EE d0 hk;omega
 ·subst hk;rcases(by omega:i<j\/i=j\/j<i) with e|e|e
  ·have:=K.lt i j e hj;omega
  ·rw[e]
  ·have:=K.lt j i e hi;omega
 ·have:=EE d0 hk;omega
structure First(d:Int)(n:Nat)(A B C:Nat->Int)(t x y:Int):Prop where
 dep:VW d n A B C x y
 le:t<=x
 least:∀x' y',VW d n A B C x' y'->t<=x'->x<=x'
structure Last(d:Int)(n:Nat)(A B C:Nat->Int)(s x:Int):Prop where
 dep:∃y,VW d n A B C x y/\y<=s
 most:∀x' y',VW d n A B C x' y'->y'<=s->x'<=x
theorem first_of(K:Clk d n A B C)(hn:0<n){m:Nat}(hm:m<=n)(h1:∀i,i<m->¬t%d<=B i)(h2:m<n->t%d<=B m){i:Nat}(hi:i=m%n) :
  First d n A B C t (nextO d (A i) (B i) t) (nextO d (A i) (B i) t+C i):=by
 have hin:i<n:=by rw[hi];exact uW _ hn
 obtain⟨k,k1,k2,k3,k4,k5⟩:=G7 (t:=t) K.d0 (K.a0 i hin) (K.ab i hin) (K.bd i hin);refine⟨⟨i,k,hin,k1,k2,U⟩,k3,?_⟩;intro x' y' z9 hx;obtain⟨j,k',hj,x1,x2,rfl⟩ := z9;obtain⟨q,hq,r0,r1⟩:=split d t K.d0;have d0:=K.d0;have aj:=K.a0 j hj;have bj:=K.bd j hj;have abj:=K.ab j hj;have ai:=K.a0 i hin;have bi:=K.bd i hin;have abi:=K.ab i hin
 by_cases hmn:m<n
 ·have ei:i=m:=by rw[hi,Nat.mod_eq_of_lt hmn]
  subst ei;have hb:=h2 hmn;have en:nextO d (A i) (B i) t=t-t%d+(if A i>t%d then A i else t%d):=by
   unfold nextO;rw[if_neg ⋯]
  rw[en];rcases(by omega:j=i\/j<i\/i<j) with e|e|e
  ·subst e;have:=k5 k' x' x1 x2 hx;rw[en] at this;exact this
  ·have hjb:=h1 j e;rcases(by omega:k'<=q\/q<k') with hk|hk
   ·have:=kD hk (kE d0);omega
   ·have:=EE d0 hk;split<;>omega
  ·have:=K.lt i j e hj;rcases(by omega:k'<q\/k'=q\/q<k') with hk|hk|hk
   ·have:=EE d0 hk;omega
   ·subst hk;split<;>omega
   ·have:=EE d0 hk;split<;>omega
 ·have em:m=n:=⋯;have ei:i=0:=by rw[hi,em,Nat.mod_self]
  subst ei;have hb:=h1 0 ⋯;have en:nextO d (A 0) (B 0) t=t-t%d+d+A 0:=by
   unfold nextO;rw[if_pos ⋯]
  rw[en];have hjb:=h1 j ⋯;have a0j:A 0<=A j:=by
   rcases M3 j with e|e
   ·rw[e];exact DY _
   ·have:=K.lt 0 j e hj;omega
  rcases(by omega:k'<=q\/q<k') with hk|hk
  ·have:=kD hk (kE d0);omega
  ·have:=EE d0 hk;omega
theorem First.uniq(K:Clk d n A B C){x':Int}(h:First d n A B C t x y)(h':First d n A B C t x' y'):x=x'/\y=y':=by
 have a:=h.least _ _ h'.dep h'.le;have b:=h'.least _ _ h.dep h.le;have e:x=x':=⋯;subst e;exact⟨U,aZ K h.dep h'.dep⟩
theorem last_of(K:Clk d n A B C)(hn:0<n){s:Int}{m:Nat}(hm:m<=n)
  (h1:∀i,i<m->¬(A 0+C 0+(s-(A 0+C 0))%d<A i+C i)) (h2:m<n->A 0+C 0+(s-(A 0+C 0))%d<A m+C m) :
  0<m/\Last d n A B C s (lastO d (A (m-1)) (B (m-1)) (s-C (m-1))):=by
 obtain⟨q,hq,r0,r1⟩:=split d (s-(A 0+C 0)) K.d0;have d0:=K.d0;generalize hh:(s-(A 0+C 0))%d=r at *;have m0:0<m:=by
  rcases M3 m with e|e
  ·subst e;have:=h2 hn;omega
  ·exact e
 refine⟨m0,?_⟩;have hin:m-1<n:=⋯;generalize ei:m-1=i at *;obtain⟨k,k1,k2,k3,k4,k5⟩:=fX (t:=s-C i) d0 (K.a0 i hin) (K.ab i hin) (K.bd i hin);have ge:A i+C i<=A 0+C 0+r:=Int.not_lt.mp (h1 i ⋯);have abi:=K.ab i hin;have ai:=K.a0 i hin;have lo:d*q+A i<=lastO d (A i) (B i) (s-C i):=k5 q (d*q+A i) (DY _) ⋯ ⋯;refine⟨⟨_,⟨i,k,hin,k1,k2,U⟩,⋯⟩,?_⟩;intro x' y' z9 hy;obtain⟨j,k',hj,x1,x2,rfl⟩ := z9;have aj:=K.a0 j hj;have bj:=K.bd j hj;have abj:=K.ab j hj;have lo0:A 0+C 0<=A j+C j:=by
  rcases M3 j with e|e
  ·rw[e];exact DY _
  ·have:=K.yl 0 j e hj;have:=K.ab 0 hn;omega
 rcases(by omega:k'<q\/k'=q\/q<k') with hk|hk|hk
 ·have:=EE d0 hk;omega
 ·subst hk;rcases(by omega:j=i\/j<i\/i<j) with e|e|e
  ·subst e;exact k5 k' x' x1 x2 ⋯
  ·have:=K.lt j i e hin;omega
  ·exfalso
   have hmn:m<n:=⋯;have h3:=h2 hmn;rcases(by omega:j=m\/m<j) with e'|e'
   ·rw[e'] at x1 x2 hy;omega
   ·have:=K.yl m j e' hj;have:=K.ab m hmn;omega
 ·have:=EE d0 hk;omega
end
end Ma
namespace Ma
abbrev T3:=Int×Int×Int
structure Rw(R:List T3)(at_ ride:Int):Prop where
 at0:0<=at_
 r0:0<=ride
 atb:at_<=3000000000000*(R.length:Int)
 rb:ride<=2000000000000*(R.length:Int)
 row:∀(i:Nat)(a b c:Int),R[i]?=some (a,b,c)->0<=a/\a<=b/\b<at_/\0<=c/\c<=2000000000000*(R.length:Int)
 adj:∀(i:Nat)(a b c a' b' c':Int),R[i]?=some (a,b,c)->R[i+1]?=some (a',b',c')->b<a'/\b+c<a'+c'
 last:∀(a b c:Int),R[R.length-1]?=some (a,b,c)->b=at_-1/\c=ride
 tch:∀(i:Nat)(a b c a' b' c':Int),R[i]?=some (a,b,c)->R[i+1]?=some (a',b',c')->b+1=a'->c≠c'
def rA(R:List T3)(i:Nat):Int:=(R.getD i (0,0,0)).1
def rB(R:List T3)(i:Nat):Int:=(R.getD i (0,0,0)).2.1
def rC(R:List T3)(i:Nat):Int:=(R.getD i (0,0,0)).2.2
theorem r_at{R:List T3}{i:Nat}(h:i<R.length):R[i]?=some (rA R i,rB R i,rC R i):=by
 unfold rA rB rC;rw[IP,BK h];rfl
theorem vF{R:List T3}{i:Nat}{a b c:Int}(h:R[i]?=some (a,b,c)):rA R i=a/\rB R i=b/\rC R i=c:=by
 unfold rA rB rC;rw[IP,h];exact⟨U,U,U⟩
section
variable {d:Int}{n:Nat}{A B C:Nat->Int}
theorem O1(K:Clk d n A B C){t:Int}{j:Nat}(hj:j<n)(hm:∀i,i<n->nextO d (A j) (B j) t<=nextO d (A i) (B i) t):First d n A B C t (nextO d (A j) (B j) t) (nextO d (A j) (B j) t+C j):=by
 obtain⟨k,k1,k2,k3,k4,k5⟩:=G7 (t:=t) K.d0 (K.a0 j hj) (K.ab j hj) (K.bd j hj);refine⟨⟨j,k,hj,k1,k2,U⟩,k3,?_⟩;intro x' y' z9 hx;obtain⟨i,k',hi,x1,x2,rfl⟩ := z9;obtain⟨k',a1,a2,a3,a4,a5⟩:=G7 (t:=t) K.d0 (K.a0 i hi) (K.ab i hi) (K.bd i hi);have:=a5 _ x' x1 x2 hx;have:=hm i hi;omega
theorem leaveT(K:Clk d n A B C){s x t xt yt:Int}(h:Last d n A B C s x)(ft:First d n A B C t xt yt):yt<=s↔t<=x:=by
 obtain⟨y,h1,h2⟩:=h.dep
 constructor
 ·intro z;have:=h.most _ _ ft.dep z;have:=ft.le;omega
 ·intro z;have q:=ft.least _ _ h1 z;rcases(by omega:xt<x\/xt=x) with e|e
  ·have:=jO K ft.dep h1 e;omega
  ·subst e;have:=aZ K ft.dep h1;omega
end
end Ma
namespace L2
open PySem PySem.Spec PyProof.Rows
variable {a b:Addr}{op op':CmpOp}{X:Cx}{c e iter tg:Expr}{fd:FuncData}{base h':Heap}{H:Hp}{pins:List (Addr×Obj)}{caps:List (Option Nat)}{es:List Expr}{N ps:List Str}{i j k n:Nat}{o:Obj}{p pos pos':Pos}{P:Program}{r r':R2}{scope:Scope}{s:Shared}{sp:Sp}{σ:St}{st:Stmt}{x:Str}{mg:Str->Option Value}{t:TA}{te:TE}{g:TG}{wi:TI}{tt:TT}{Q:VK}{K:W.Frag}{w:World}
theorem J3:bootBuiltins "max"=some (.builtin "max"):=by decide +kernel
theorem bt_min:bootBuiltins "min"=some (.builtin "min"):=by decide +kernel
theorem C5:bootBuiltins "len"=some (.builtin "len"):=by decide +kernel
theorem LG:bootBuiltins "all"=some (.builtin "all"):=by decide +kernel
theorem K2:bootBuiltins "isinstance"=some (.builtin "isinstance"):=by decide +kernel
theorem RL:bootBuiltins "int"=some (.type "int"):=by decide +kernel
theorem YU:bootBuiltins "bool"=some (.type "bool"):=by decide +kernel
theorem mD:bootBuiltins "tuple"=some (.type "tuple"):=by decide +kernel
theorem NU:bootBuiltins "list"=some (.type "list"):=by decide +kernel
def BX:Expr->Bool
 | .Starred ..=>false
 |_=>true
theorem BC{env:Env}(h:BX e=true):starEach (e::es) env=(false,eval e env)::starEach es env:=by
 cases e<;>first|rfl|cases h
theorem JX{pos:Pos}{env:Env}:∀{es:List Expr},es.all BX=true->(backTo pos (starEach es env)).any (·.1)=false
 | [],_=>rfl
 |e::es,h=>by
  rw[yH,KH] at h;rw[BC h.1];show(false||(backTo pos (starEach es env)).any (·.1))=false;rw[JX h.2];rfl
theorem WJ(ha:PE X e te)(hr:PA X es t)(h:BX e=true:=by rfl):PA X (e::es) (MA te t):=W0 ha hr (BC h)
section
variable {id T:String}{r:List V->Hp->VK->Prop}
theorem oJ(hc:DO X (.builtin id) r)(hg:Gl X x)(hm:X.mg x=none)(hv:bootBuiltins x=some (.builtin id))(ha:PA X (e::es) t)(hn:x≠"__name__" := by decide)(hdb:(x==("__debug__":Str))=false:=by decide)
  (he:BX e=true:=by rfl) (hpl:es.all BX=true:=by rfl):PE X (.Call (.Name x p) (e::es) [] pos) (jH r t):=RA hc hg hm hv ha hn hdb (BC he) (JX hpl)
theorem o6(hc:DO X (.type T) r)(hg:Gl X x)(hm:X.mg x=none)(hv:bootBuiltins x=some (.type T))(ha:PA X (e::es) t)(hn:x≠"__name__" := by decide)(hdb:(x==("__debug__":Str))=false:=by decide)
  (he:BX e=true:=by rfl) (hpl:es.all BX=true:=by rfl):PE X (.Call (.Name x p) (e::es) [] pos) (jH r t):=NM hc hg hm hv ha hn hdb (BC he) (JX hpl)
end
structure Callee(P:Program)(w:World)(K:W.Frag)(mg:Str->Option Value)(base:Heap)(k:Nat)(x:Str)(ps:List Str)(sp:Sp):Prop where
 ex:∃(f:Addr)(fd:FuncData),FnOk P w K mg base B5 k f fd ps sp/\Binds K fd ps []/\W.keepIn K (.ref f)=true/\mg x=some (.ref f)
theorem Callee.up(C:Callee P w K mg base j x ps sp)(h:j<=k):Callee P w K mg base k x ps sp:=by
 obtain⟨f,fd,G,b,kp,m⟩:=C.ex;exact⟨f,fd,G.mono h,b,kp,m⟩
theorem Callee.mk'{f:Addr}(G:FnOk P w K mg base B5 k f fd ps sp)(b:Binds K fd ps [])(kp:W.keepIn K (.ref f)=true)(m:mg x=some (.ref f)):Callee P w K mg base k x ps sp:=⟨f,fd,G,b,kp,m⟩
theorem dF(C:Callee X.prog X.w X.K X.mg X.base k x ps sp)(hr:Room k X.A)(hg:Gl X x)(ha:PA X (e::es) t)(hdb:(x==("__debug__":Str))=false:=by decide)
  (he:BX e=true:=by rfl) (hpl:es.all BX=true:=by rfl) :
  PE X (.Call (.Name x p) (e::es) [] pos) (RF sp [] E0 t):=by
 obtain⟨f,fd,G,b,kp,m⟩:=C.ex;exact Y6 G hr hg m kp b .nil JY ha hdb (BC he) (JX hpl)
def dE(_ j:Int):Prop:=0<j/\j<1606938044258990275541962092341162602522202993782792835301376
theorem UT:FI X (binaryOp .FloorDiv) (rI dE λ i j=>.int (i/j)):=rQ λ i j _ _ _ _ _ hc q=>by
 have h1:(0:Int)<j:=hc.1;have h2:=hc.2;refine floordiv_int ⋯ (by rw[Int.fdiv_eq_ediv_of_nonneg i ⋯];exact q) (.inl (PyProof.noPylong_of_log2 ?_));have h0:j.natAbs≠0:=⋯;have h3:j.natAbs<2 ^ 200:=by
  have e:(2:Nat) ^ 200=1606938044258990275541962092341162602522202993782792835301376:=by decide +kernel
  rw[e];omega
 have:=(xP h0).mpr h3;omega
theorem V8:DO X (.builtin "isinstance") (λ xs H Q=>∃x T t b,xs=[x,.ty T]/\TyOf X.K H x t/\W.kitOne X.K t (.type T)=some b/\Q (.bl b) H):=by
 intro pins s σ H xs us Q I r h;obtain⟨x,T,t,b,rfl,ty,hk,q⟩:=h;obtain⟨u,v,rfl,r1,r2⟩:=Vals.two r;cases (show v=Value.type T from r2);exact O8 I r1 ty hk λ tk=>⟨.bl b,H,I.tok tk,rfl,q⟩
def E6(X:Cx)(N':List Str)(scope:Scope)(cl:List (Str×Addr))(C:Addr)(s0:Shared)(H0:Hp)(fp:List Addr):Cx :=
 { X with N:=N',s₀:=s0,H₀:=H0,env:=compEnvC scope cl C X.env,outer:=X.stack,ex:=fp,fn:=λ _=>false,pn:=[],xe:=λ _ _=>False }
def seen(caps:List (Option Nat))(σ:St):St:=caps.map λ o=>o.bind λ j=>(σ[j]?).join
structure BlkOk(X:Cx)(N':List Str)(scope:Scope)(cl:List (Str×Addr))(caps:List (Option Nat)):Prop where
 clos:closureFor scope X.env=pure cl
 nocell:∀y∈scope.names,y.2 ≠ .cell
 kind:scope.kind=.function
 names:∀y∈scope.names,y.2=.local->scope.names.lookup y.1=some .local
 sub:∀x c,cl.lookup x=some c->X.env.cells.lookup x=some c
 has:∀x,((relabel scope X.env).names.lookup x=some .cell\/(relabel scope X.env).names.lookup x=some .free)->∃c,cl.lookup x=some c
 len:caps.length=N'.length
 cap:∀(i j:Nat)(x:Str),caps[i]?=some (some j)->N'[i]?=some x->X.N[j]?=some x/\(X.env.kindOf x=some .cell\/X.env.kindOf x=some .free)/\((relabel scope X.env).names.lookup x=some .cell\/(relabel scope X.env).names.lookup x=some .free)
theorem cH{h:Heap}(x:Heap.SameBut a h h')(n:b≠a)(e:h.get? b=some o):h'.get? b=some o:=x.extBut b o n e
section
variable {N':List Str}{cl:List (Str×Addr)}{fp:List Addr}
theorem gS(B:BlkOk X N' scope cl caps)(I:Inv X pins σ H s)(hf:∀b∈fp,FK X pins H b){h1:Heap}{m:Str->Option Value}(hn:h1.Ns s.heap.objs.size m)(hk:∀b o,s.heap.get? b=some o->h1.get? b=some o){tk:Nat}
  (hfp:∀b∈fp,b<s.heap.objs.size):Inv (E6 X N' scope cl s.heap.objs.size s H fp) [] (seen caps σ) H { s with heap:=h1,toks:=tk }:=by
 have bsz:X.base.objs.size<=s.heap.objs.size:=FB I.ok.bsz I.sz;refine⟨⟨I.ok.mod,B.kind,I.ok.glob,I.ok.blt,BU _,λ x y c e1 e2=>I.ok.inj x y c (B.sub x c e1) (B.sub y c e2),B.has,λ _ _ z=>(nomatch z),I.ok.hd,I.ok.frames,.inl rfl,λ b hb=>⟨FZ (hfp b hb),λ x c e=>(hf b hb).2.2.2.2.1 x c (B.sub x c e)⟩,
   I.bs,bsz,λ b o e hb=>?_,λ b hb z=>?_,I.stack,I.stkFree⟩,rfl,I.bare,Un.kept hk,⟨m,hn,λ i x v e1 e2 _=>?_⟩,λ x c e=>?_,I.hok.fresh (BU _),λ x c e=>I.freeC x c (B.sub x c e),λ p hp=>absurd (show p∈([]:List (Addr×Obj)) from hp) (by simp),I.hok.kept hk,?_⟩
 ·obtain⟨_,_,_,z,_⟩:=hf b hb;rcases z with z|z
  ·exact I.ok.noex b o e z
  ·exact absurd (HP (D1 e) (FB I.ok.bsz z)) (OY _)
 ·obtain⟨_,z1,z2,_⟩:=hf b hb;rcases C6.mp (I.stkSub b z) with e|e
  ·exact z1 e
  ·exact z2 e
 ·have e2':(seen caps σ)[i]?=some (some v):=e2;unfold seen at e2';rw[EH] at e2';cases ec:caps[i]? with
  |none=>rw[ec] at e2';cases e2'
  |some oj =>
   rw[ec] at e2';have e3:(oj.bind λ j=>(σ[j]?).join)=some v:=Option.some.inj e2';cases oj with
   |none=>cases e3
   |some j =>
    obtain⟨c1,c2,c3⟩:=B.cap i j x ec e1;have e4:σ[j]?=some (some v):=by
     have e5:(σ[j]?).join=some v:=e3;cases ej:σ[j]? with
     |none=>rw[ej] at e5;cases e5
     |some ov =>
      rw[ej] at e5;cases ov with
      |none=>cases e5
      |some v'=>exact congrArg some e5
    obtain⟨m0,hn0,hl⟩:=I.loc;obtain⟨u,ru,lk⟩:=hl j x v c1 e4 (by
     rcases c2 with z|z
     ·exact .inr (.inl z)
     ·exact .inr (.inr z))
    refine⟨u,ru,.inr ⟨c3,?_⟩⟩;obtain⟨c,ecl⟩:=B.has x c3;refine⟨c,ecl,?_⟩;rcases lk with⟨z,_⟩|⟨_,c',e',⟨oc,q1,q2⟩⟩
    ·rcases c2 with y|y
     ·rw[y] at z;cases z
     ·rw[y] at z;cases z
    ·have ee:c'=c:=Option.some.inj (e'.symm.trans (B.sub x c ecl));subst ee;exact⟨oc,hk _ _ q1,q2⟩
 ·obtain⟨v,o,q1,q2⟩:=I.cell x c (B.sub x c e);exact⟨v,o,hk _ _ q1,q2⟩
 ·show(seen caps σ).length=N'.length;unfold seen;rw[BY];exact B.len
theorem jE(I:Inv X pins σ H s)(hf:∀b∈fp,FK X pins H b)(hfp:∀b∈fp,b<s.heap.objs.size){σ':St}{H':Hp}{s':Shared}(J:Inv (E6 X N' scope cl s.heap.objs.size s H fp) [] σ' H' s')
  (sb:Heap.SameBut s.heap.objs.size s'.heap h'):Inv X pins σ H' { s' with heap:=h' }:=by
 have hC:∀b o,s.heap.get? b=some o->b≠s.heap.objs.size:=λ b o e=>FZ (D1 e)
 have u:=J.base;have u':Un (JM X.stack) fp H H' s.heap h':=by
  refine⟨λ b o e n hb hx=>cH sb (hC b o e) (u.keep b o e n hb hx),λ b o e n hb hx=>?_,u.free,λ b o e hx=>?_,u.tups,u.frzs,u.tbls⟩
  ·obtain⟨sl,q⟩:=u.slot b o e n hb hx;exact⟨sl,cH sb (hC b o e) q⟩
  ·obtain⟨o',q⟩:=u.there b o e hx;exact⟨o',cH sb (hC b o e) q⟩
 have nC:H' s.heap.objs.size=none:=J.free;have hok:HOk X.prog X.w H' h':=λ b o e=>by
  refine(J.hok b o e).stay (λ c v hc q=>cH sb ?_ q) (λ _ q=>q) λ _ _ q=>q
  rcases hc with z|z
  ·intro z';rw[z] at z';rw[z',nC] at e;cases e
  ·intro z';rw[z',nC] at z;cases z
 obtain⟨hh,g,d,t,os'⟩:=s';obtain rfl:os'=s.os:=J.os;show Inv X pins σ H' { s with heap:=h',gens:=g,drawn:=d,toks:=t };refine Inv.call (s:=s) (h':=h') (g':=g) (d':=d) (t':=t) (ch:=fp) I u' hok J.bare λ b hb=>?_
 obtain⟨_,z1,_,z3,z4,z5⟩:=hf b hb;exact⟨z3,z1,z4,z5⟩
def FQ(caps:List (Option Nat))(g:TG)(tt:TT)(te:TE)(σ:St)(Q:VK)(J:It)(H1:Hp):Prop:=∀D,H1 D=none->∃W:Nat->Nat->Hp->Prop,(∃m,W 0 m (AD H1 D (.lst [])))/\∀i m H2,W i m H2 ->
 (J.stop i H2/\Q (.ref D) H2)\/(J.go i H2/\∃N:Hp->Prop,(∀H',N H'->∃m',m'<m/\W (i+1) m' H')/\∀x H3,J.yld i H2 x H3->g x (seen caps σ) H3 λ σ4 H4=>(∀(k:Nat) v,(seen caps σ)[k]?=some (some v)->σ4[k]?=some (some v))/\tt σ4 H4 λ b H5 =>
  if b=true then te σ4 H5 λ y H6=>∃ys,H6 D=some (.lst ys)/\ys.length<sizeLine/\N (AD H6 D (.lst (ys++[y]))) else N H5)
def HU(wi:TI)(caps:List (Option Nat))(g:TG)(tt:TT)(te:TE):TE:=λ σ H Q=>wi σ H (FQ caps g tt te σ Q)
def EC:TT:=λ _ H Q=>Q true H
section
variable {elt:Expr}
theorem bB{J:It}{it:Addr}{tn:Nat->Heap->Prop}{H0:Hp}{C:Addr}(T:Turn X.prog X.w X.K tg J fp it tn){s7 s9:Shared}{W:Nat->Nat->Hp->Prop}{N:Hp->Prop}(hN:∀H',N H'->∃m',m'<n/\W (i+1) m' H')
  (st7:tn (i+1) s7.heap) {σ8:St} {H9:Hp} (I9:Inv (E6 X N' scope cl C s H0 fp) ([]++SS fp s7.heap) σ8 H9 s9) (kp:∀(k:Nat) v,(seen caps σ)[k]?=some (some v)->σ8[k]?=some (some v)) (hl:(seen caps σ).length=σ8.length) (n9:N H9) :
  ∃m,m<n/\∃j H',Inv (E6 X N' scope cl C s H0 fp) [] (seen caps σ) H' s9/\tn j s9.heap/\(∀b∈fp,H' b=none)/\W j m H':=by
 obtain⟨m',hm,w7⟩:=hN H9 n9;refine⟨m',hm,i+1,H9,(I9.unpinned).weak hl kp,T.keep _ _ _ st7 λ b hb o e=>(I9.pin (b,o) (GR _ (GR _ (SK hb e)))).1,λ b hb=>?_,w7⟩;obtain⟨o,e,d⟩:=T.obj _ _ st7 b hb;exact(I9.pin (b,o) (GR _ (GR _ (SK hb e)))).2.1
theorem Z1(B:BlkOk X N' scope cl caps)(hc:X.calm=true)(hi:PI X tg iter wi)(hg:∀C s0 H0 fp,PG (E6 X N' scope cl C s0 H0 fp) tg g)(he:∀C s0 H0 fp,PE (E6 X N' scope cl C s0 H0 fp) elt te)
  (hs:∀x,foldedSetIterable iter X.env x=pure x:=by intro _;rfl):PE X (.ListComp elt [⟨tg,iter,[],0⟩] scope pos) (HU wi caps g EC te):=by
 intro pins s σ H Q I h;rw[eval_ListComp];refine wpAny_comprehension_free (use:=none) rfl hs B.clos B.kind B.names ?_;refine B3 (hi pins s σ H _ I h) λ v s1 h1=>B3 h1 λ itv s2 h2=>?_
 obtain⟨it,fp,tn,J,H2,rfl,I2,T,st2,f2,q2⟩:=h2;have fpl:∀b∈fp,b<s2.heap.objs.size:=λ b hb=>by
  obtain⟨o,e,_⟩:=T.obj _ _ st2 b hb;exact D1 e
 obtain⟨W,⟨m0,w0⟩,turn⟩:=q2 s2.heap.objs.size (I2.hok.fresh (BU _));refine wpAny_newObj_type ?_;have I3:Inv X pins σ (AD H2 s2.heap.objs.size (.lst [])) { s2 with heap:=s2.heap.push { cls:=.type "list",data:=.seq ([]:List Value).toArray } } :=
  I2.laid (t':=s2.toks) (λ b u e=>DD _ e) (BU _) ⟨HV _,[],0,.nil,FF _ rfl⟩
 generalize hs3:({ s2 with heap:=s2.heap.push { cls:=.type "list",data:=.seq ([]:List Value).toArray } }:Shared)=s3 at I3;have k23:∀b o,s2.heap.get? b=some o->s3.heap.get? b=some o:=λ b o e=>by rw[<- hs3];exact DD _ e
 have fpl3:∀b∈fp,b<s3.heap.objs.size:=λ b hb=>by
  obtain⟨o,e,_⟩:=T.obj _ _ st2 b hb;exact D1 (k23 b o e)
 have f3:∀b∈fp,FK X pins (AD H2 s2.heap.objs.size (.lst [])) b:=λ b hb=>⟨by rw[AJ (FZ (fpl b hb))];exact(f2 b hb).1,(f2 b hb).2⟩
 refine wpAny_newFunctionEnv B.nocell (by intro y hy;simp at hy) (λ h1 hn1 sb1=>?_) B.kind;have k31:∀b o,s3.heap.get? b=some o->h1.get? b=some o:=λ b o e=>sb1.extBut b o (FZ (D1 e)) (DD _ e)
 have J0:=gS (fp:=fp) (tk:=s3.toks+([]:List (Str×Value)).length) B I3 f3 hn1 k31 fpl3;have st1:tn 0 h1:=T.keep _ _ _ st2 λ b _ o e=>k31 b o (k23 b o e)
 have loop:codeAny (model X.prog X.w) X.A (.compLoop (.ListComp elt [⟨tg,iter,[],0⟩] scope pos) 0 (.ref it) (.ref s2.heap.objs.size) (E6 X N' scope cl s3.heap.objs.size s3 (AD H2 s2.heap.objs.size (.lst [])) fp).env)
   (compPost (model X.prog X.w) X.A X.xe none (EP X pins σ Q) (.ref s2.heap.objs.size) s3.heap.objs.size) { s3 with heap:=h1,toks:=s3.toks+([]:List (Str×Value)).length }:=by
  refine codeAny_loop rfl (λ n s'=>∃i H',Inv (E6 X N' scope cl s3.heap.objs.size s3 (AD H2 s2.heap.objs.size (.lst [])) fp) [] (seen caps σ) H' s'/\tn i s'.heap/\(∀b∈fp,H' b=none)/\W i n H') (λ n s5 hI=>?_) m0
   ⟨0,_,J0,st1,λ b hb=>(f3 b hb).1,w0⟩
  obtain⟨i,H5,I5,st5,fr5,w5⟩:=hI;show wpAny _ _ ((compTurn (.ListComp elt [⟨tg,iter,[],0⟩] scope pos) 0 (.ref it) (.ref s2.heap.objs.size) (E6 X N' scope cl s3.heap.objs.size s3 (AD H2 s2.heap.objs.size (.lst [])) fp).env).onRaise (λ x=>do noteFrame x (E6 X N' scope cl s3.heap.objs.size s3 (AD H2 s2.heap.objs.size (.lst [])) fp).env;theTreesLotGoes x)) _ _ s5;refine wpAny_noted ?_;rw[compTurn_list1];have ff:∀{H':Hp},(∀b∈fp,H' b=none)->∀b∈fp,FK (E6 X N' scope cl s3.heap.objs.size s3 (AD H2 s2.heap.objs.size (.lst [])) fp) [] H' b:=λ {H'} hn b hb =>
   ⟨hn b hb,(J0.ok.exf b hb).1,J0.ok.exfs b hb,.inl hb,λ x c e=>(J0.ok.exf b hb).2 x c e,λ p hp=>absurd (show p∈([]:List (Addr×Obj)) from hp) (by simp)⟩
  rcases turn i n H5 w5 with⟨stop,qn⟩|⟨go,N,hN,step⟩
  ·refine wpAny_bind (wpAny_standAt (wpAny_bind (B3 (T.done (E6 X N' scope cl s3.heap.objs.size s3 (AD H2 s2.heap.objs.size (.lst [])) fp) rfl rfl rfl hc i [] s5 _ H5 _ I5 (ff fr5) st5 stop) λ r s6 z9=>?_)));obtain⟨hr,I6⟩ := z9;subst hr;refine wpAny_pure ?_;obtain⟨m,hn,_⟩:=id I6.loc;exact⟨m,hn,λ h' sb=>⟨.ref s2.heap.objs.size,H5,jE I3 f3 fpl3 I6 sb,U,qn⟩⟩
  ·refine wpAny_bind (wpAny_standAt (wpAny_bind (B3 (T.item (E6 X N' scope cl s3.heap.objs.size s3 (AD H2 s2.heap.objs.size (.lst [])) fp) rfl rfl rfl hc i [] s5 _ H5 _ I5 (ff fr5) st5 go) λ r s6 z9=>?_)));obtain⟨u,hr,h6⟩ := z9;subst hr;refine wpAny_bind (B3 h6 λ _ s7 z9=>?_);obtain⟨x,H7,I7,r7,y7,st7,fr7⟩ := z9;have I7':=I7.pinned (ff fr7) (T.obj _ _ st7);refine wpAny_bind (wpAny_mono (hg _ _ _ _ _ s7 _ H7 x u _ I7' r7 (step x H7 y7)) (λ _ s8 z9=>?_) λ _ _ f=>f.elim);obtain⟨σ8,H8,I8,kp,q8⟩ := z9;have q8':te σ8 H8 λ y H6=>∃ys,H6 s2.heap.objs.size=some (.lst ys)/\ys.length<sizeLine/\N (AD H6 s2.heap.objs.size (.lst (ys++[y]))):=by
    have z:=q8;unfold EC at z;dsimp only at z;rw[if_pos rfl] at z;exact z
   refine wpAny_bind (wpAny_bind (wpAny_mono (he _ _ _ _ _ s8 σ8 H8 _ I8 q8') (λ y s9 z9=>?_) λ _ _ f=>f.elim));obtain⟨y',H9,I9,r9,ys,hD,hl,n9⟩ := z9;refine wpAny_bind (wpAny_mono (aV (X:=E6 X N' scope cl s3.heap.objs.size s3 (AD H2 s2.heap.objs.size (.lst [])) fp) _ s9 σ8 H9 (.ref s2.heap.objs.size) [y'] (.ref s2.heap.objs.size) [y] (λ _ H'=>N H') I9 rfl (.cons r9 .nil) ⟨_,ys,y',rfl,rfl,hD,hl,n9⟩) (λ _ s10 z9=>?_) λ _ _ f=>f.elim);obtain⟨_,H10,I10,_,n10⟩ := z9;exact wpAny_pure (wpAny_pure ⟨rfl,bB T hN st7 I10 kp (I5.len.trans I10.len.symm) n10⟩)
 exact codeAny_compStart_list loop (T.self X.A 0 _ _ _ st1 loop)
theorem OR(B:BlkOk X N' scope cl caps)(hc:X.calm=true)(hi:PI X tg iter wi)(hg:∀C s0 H0 fp,PG (E6 X N' scope cl C s0 H0 fp) tg g)(ht:∀C s0 H0 fp,PT (E6 X N' scope cl C s0 H0 fp) c tt)
  (he:∀C s0 H0 fp,PE (E6 X N' scope cl C s0 H0 fp) elt te) (hs:∀x,foldedSetIterable iter X.env x=pure x:=by intro _;rfl):PE X (.ListComp elt [⟨tg,iter,[c],0⟩] scope pos) (HU wi caps g tt te):=by
 intro pins s σ H Q I h;rw[eval_ListComp];refine wpAny_comprehension_free (use:=none) rfl hs B.clos B.kind B.names ?_;refine B3 (hi pins s σ H _ I h) λ v s1 h1=>B3 h1 λ itv s2 h2=>?_
 obtain⟨it,fp,tn,J,H2,rfl,I2,T,st2,f2,q2⟩:=h2;have fpl:∀b∈fp,b<s2.heap.objs.size:=λ b hb=>by
  obtain⟨o,e,_⟩:=T.obj _ _ st2 b hb;exact D1 e
 obtain⟨W,⟨m0,w0⟩,turn⟩:=q2 s2.heap.objs.size (I2.hok.fresh (BU _));refine wpAny_newObj_type ?_;have I3:Inv X pins σ (AD H2 s2.heap.objs.size (.lst [])) { s2 with heap:=s2.heap.push { cls:=.type "list",data:=.seq ([]:List Value).toArray } } :=
  I2.laid (t':=s2.toks) (λ b u e=>DD _ e) (BU _) ⟨HV _,[],0,.nil,FF _ rfl⟩
 generalize hs3:({ s2 with heap:=s2.heap.push { cls:=.type "list",data:=.seq ([]:List Value).toArray } }:Shared)=s3 at I3;have k23:∀b o,s2.heap.get? b=some o->s3.heap.get? b=some o:=λ b o e=>by rw[<- hs3];exact DD _ e
 have fpl3:∀b∈fp,b<s3.heap.objs.size:=λ b hb=>by
  obtain⟨o,e,_⟩:=T.obj _ _ st2 b hb;exact D1 (k23 b o e)
 have f3:∀b∈fp,FK X pins (AD H2 s2.heap.objs.size (.lst [])) b:=λ b hb=>⟨by rw[AJ (FZ (fpl b hb))];exact(f2 b hb).1,(f2 b hb).2⟩
 refine wpAny_newFunctionEnv B.nocell (by intro y hy;simp at hy) (λ h1 hn1 sb1=>?_) B.kind;have k31:∀b o,s3.heap.get? b=some o->h1.get? b=some o:=λ b o e=>sb1.extBut b o (FZ (D1 e)) (DD _ e)
 have J0:=gS (fp:=fp) (tk:=s3.toks+([]:List (Str×Value)).length) B I3 f3 hn1 k31 fpl3;have st1:tn 0 h1:=T.keep _ _ _ st2 λ b _ o e=>k31 b o (k23 b o e)
 have loop:codeAny (model X.prog X.w) X.A (.compLoop (.ListComp elt [⟨tg,iter,[c],0⟩] scope pos) 0 (.ref it) (.ref s2.heap.objs.size) (E6 X N' scope cl s3.heap.objs.size s3 (AD H2 s2.heap.objs.size (.lst [])) fp).env)
   (compPost (model X.prog X.w) X.A X.xe none (EP X pins σ Q) (.ref s2.heap.objs.size) s3.heap.objs.size) { s3 with heap:=h1,toks:=s3.toks+([]:List (Str×Value)).length }:=by
  refine codeAny_loop rfl (λ n s'=>∃i H',Inv (E6 X N' scope cl s3.heap.objs.size s3 (AD H2 s2.heap.objs.size (.lst [])) fp) [] (seen caps σ) H' s'/\tn i s'.heap/\(∀b∈fp,H' b=none)/\W i n H') (λ n s5 hI=>?_) m0
   ⟨0,_,J0,st1,λ b hb=>(f3 b hb).1,w0⟩
  obtain⟨i,H5,I5,st5,fr5,w5⟩:=hI;show wpAny _ _ ((compTurn (.ListComp elt [⟨tg,iter,[c],0⟩] scope pos) 0 (.ref it) (.ref s2.heap.objs.size) (E6 X N' scope cl s3.heap.objs.size s3 (AD H2 s2.heap.objs.size (.lst [])) fp).env).onRaise (λ x=>do noteFrame x (E6 X N' scope cl s3.heap.objs.size s3 (AD H2 s2.heap.objs.size (.lst [])) fp).env;theTreesLotGoes x)) _ _ s5;refine wpAny_noted ?_;rw[compTurn_list];have ff:∀{H':Hp},(∀b∈fp,H' b=none)->∀b∈fp,FK (E6 X N' scope cl s3.heap.objs.size s3 (AD H2 s2.heap.objs.size (.lst [])) fp) [] H' b:=λ {H'} hn b hb =>
   ⟨hn b hb,(J0.ok.exf b hb).1,J0.ok.exfs b hb,.inl hb,λ x c e=>(J0.ok.exf b hb).2 x c e,λ p hp=>absurd (show p∈([]:List (Addr×Obj)) from hp) (by simp)⟩
  rcases turn i n H5 w5 with⟨stop,qn⟩|⟨go,N,hN,step⟩
  ·refine wpAny_bind (wpAny_standAt (wpAny_bind (B3 (T.done (E6 X N' scope cl s3.heap.objs.size s3 (AD H2 s2.heap.objs.size (.lst [])) fp) rfl rfl rfl hc i [] s5 _ H5 _ I5 (ff fr5) st5 stop) λ r s6 z9=>?_)));obtain⟨hr,I6⟩ := z9;subst hr;refine wpAny_pure ?_;obtain⟨m,hn,_⟩:=id I6.loc;exact⟨m,hn,λ h' sb=>⟨.ref s2.heap.objs.size,H5,jE I3 f3 fpl3 I6 sb,U,qn⟩⟩
  ·refine wpAny_bind (wpAny_standAt (wpAny_bind (B3 (T.item (E6 X N' scope cl s3.heap.objs.size s3 (AD H2 s2.heap.objs.size (.lst [])) fp) rfl rfl rfl hc i [] s5 _ H5 _ I5 (ff fr5) st5 go) λ r s6 z9=>?_)));obtain⟨u,hr,h6⟩ := z9;subst hr;refine wpAny_bind (B3 h6 λ _ s7 z9=>?_);obtain⟨x,H7,I7,r7,y7,st7,fr7⟩ := z9;have I7':=I7.pinned (ff fr7) (T.obj _ _ st7);refine wpAny_bind (wpAny_mono (hg _ _ _ _ _ s7 _ H7 x u _ I7' r7 (step x H7 y7)) (λ _ s8 z9=>?_) λ _ _ f=>f.elim);obtain⟨σ8,H8,I8,kp,q8⟩ := z9;refine wpAny_bind (wpAny_tests_one (wpAny_mono (ht _ _ _ _ _ s8 σ8 H8 _ I8 q8) (λ b s9 z9=>?_) λ _ _ f=>f.elim));obtain⟨H9,I9,q9⟩ := z9;cases b with
   |false =>
    rw[if_neg HB] at q9;exact wpAny_pure ⟨rfl,bB T hN st7 I9 kp (I5.len.trans I9.len.symm) q9⟩
   |true =>
    rw[if_pos rfl] at q9;refine wpAny_bind (wpAny_bind (wpAny_mono (he _ _ _ _ _ s9 σ8 H9 _ I9 q9) (λ y s10 z9=>?_) λ _ _ f=>f.elim));obtain⟨y',H10,I10,r10,ys,hD,hl,n10⟩ := z9;refine wpAny_bind (wpAny_mono (aV (X:=E6 X N' scope cl s3.heap.objs.size s3 (AD H2 s2.heap.objs.size (.lst [])) fp) _ s10 σ8 H10 (.ref s2.heap.objs.size) [y'] (.ref s2.heap.objs.size) [y] (λ _ H'=>N H') I10 rfl (.cons r10 .nil) ⟨_,ys,y',rfl,rfl,hD,hl,n10⟩) (λ _ s11 z9=>?_) λ _ _ f=>f.elim);obtain⟨_,H11,I11,_,n11⟩ := z9;exact wpAny_pure (wpAny_pure ⟨rfl,bB T hN st7 I11 kp (I5.len.trans I11.len.symm) n11⟩)
 exact codeAny_compStart_list loop (T.self X.A 0 _ _ _ st1 loop)
end
end
section
variable {a b d:Expr}{ta tb tc td:TE}
def N8(r r' r'':R2)(ta tb tc td:TE):TE:=λ σ H Q=>ta σ H λ x H1=>tb σ H1 λ y H2=>r x y H2 λ z H3=>∃k,z=.bl k /\
 (if k=true then tc σ H3 λ w' H4=>r' y w' H4 λ z' H5=>∃k',z'=.bl k'/\(if k'=true then td σ H5 λ w2 H6=>r'' w' w2 H6 Q else Q (.bl false) H5) else Q (.bl false) H3)
theorem NL{op'':CmpOp}{r'':R2}(ho:FI X (compareOp op) r)(ho':FI X (compareOp op') r')(ho'':FI X (compareOp op'') r'')(ha:PE X a ta)(hb:PE X b tb)(hc:PE X c tc)(hd:PE X d td)
  (hm:lastMarks [op,op',op''] [b,c,d]=false:=by with_unfolding_all rfl):PE X (.Compare a [op,op',op''] [b,c,d] pos) (N8 r r' r'' ta tb tc td):=by
 intro pins s σ H Q I h;refine Compare_chain (B3 (ha pins s σ H _ I h) λ v s1 ⟨x,H1,I1,r1,q1⟩=>chain_link (B3 (hb pins s1 σ H1 _ I1 q1) λ u s2 ⟨y,H2,I2,r2,q2⟩ =>
  B3 (ho pins s2 σ H2 x y v u _ I2 r1 r2 q2) λ d s3 ⟨z,H3,I3,r3,k,e,q3⟩=>?_)) hm
 subst e;cases r3;refine wpAny_truthy_bool ?_;cases k with
 |false=>exact ite_ff ⟨.bl false,H3,I3,rfl,q3⟩
 |true =>
  refine ite_tt (chain_link (B3 (hc pins s3 σ H3 _ I3 q3) λ w' s4 ⟨z',H4,I4,r4,q4⟩=>B3 (ho' pins s4 σ H4 y z' u w' _ I4 r2 r4 q4) λ d' s5 z9=>?_));obtain⟨z2,H5,I5,r5,k2,e2,q5⟩ := z9;subst e2;cases r5;refine wpAny_truthy_bool ?_;cases k2 with
  |false=>exact ite_ff ⟨.bl false,H5,I5,rfl,q5⟩
  |true=>exact ite_tt (chain_last (B3 (hd pins s5 σ H5 _ I5 q5) λ w2 s6 ⟨z3,H6,I6,r6,q6⟩=>ho'' pins s6 σ H6 z' z3 w' w2 Q I6 r4 r6 q6))
theorem MK{bs:List Bool}{its:List Value}(r:Vals (bs.map V.bl) its){v:Value}(h:its[i]?=some v):∃k,bs[i]?=some k/\v=.bool k:=by
 have hl:=r.length;rw[BY] at hl;have hi:i<bs.length:=by
  have:=(CP.mp h).1;omega
 obtain⟨u,hu,ru⟩:=r.get (i:=i) (x:=.bl bs[i]) (by rw[EH,BK hi];rfl);rw[h] at hu;cases hu;exact⟨bs[i],BK hi,ru⟩
theorem OG(bs:List Bool):((QX bs.length).all λ i=>(bs[i]?).getD true)=bs.all id:=by
 rw[SV,JL,JL]
 constructor
 ·intro h x hx;obtain⟨i,hi,e⟩:=rE.mp hx;have:=h i (jZ.mpr hi);rw[BK hi,e] at this;exact this
 ·intro h i hi;have hi':=jZ.mp hi;rw[BK hi'];exact h _ (KR hi')
theorem RM(hc:X.calm=true):DO X (.builtin "all") (λ xs H Q=>∃(p:Addr)(bs:List Bool),xs=[.ref p]/\SqL X.K H p (bs.map V.bl)/\Q (.bl (bs.all id)) H):=by
 intro pins s σ H xs us Q I r h;obtain⟨p,bs,rfl,hS,q⟩:=h;obtain⟨u,rfl,ru⟩:=E7 r;cases ru;obtain⟨its,rv,pl,hz⟩:=I.list hS;have hl:=pl.isList;have hlt:p<s.heap.objs.size:=by obtain⟨_,e,_⟩:=hl;exact D1 e
 refine call_all_walk (wpAny_pyIter_list hl ?_);refine⟨s.heap.objs.size,[s.heap.objs.size,p],[s.heap.objs.size],its.toArray.size,_,_,λ i=>(bs[i]?).getD true,U,Walks.list (A:=X.A.in1) (I.ok.hd hc) _ p (FZ hlt) its.toArray,
  ⟨⟨_,FF _ rfl,rfl,rfl⟩,hl.push _⟩,λ i v s' Q' E' hP hQ=>?_,λ h' tk hk=>?_⟩
 ·obtain⟨k,e,rfl⟩:=MK rv (i:=i) (v:=v) (by simpa using hP);simp only[e,Am] at hQ;exact wpAny_truthy_bool hQ
 ·have e:((QX its.toArray.size).all λ i=>(bs[i]?).getD true)=bs.all id:=by
   have hl2:=rv.length;rw[BY] at hl2;rw[GC,<- hl2];exact OG bs
  rw[e];have keep:∀b x,s.heap.get? b=some x->h'.get? b=some x:=λ b x e=>hk b x (λ hm=>by rw[D8.mp hm] at e;exact OY _ (D1 e)) (DD _ e)
  exact⟨.bl (bs.all id),H,I.kept (t':=tk) keep,U,q⟩
end
section
variable {C3:List Stmt}{t u:TS}
inductive tCut(t u:TS)(D:Ends)(σ:St)(H:Hp):Prop
 |mk (M:St->Hp->Prop):(t { D with nx:=M } σ H)->(∀σ' H',M σ' H'->u D σ' H')->tCut t u D σ H
theorem cC(h1:PS X st t)(h2:PSs X C3 u):PSs X (st::C3) (tCut t u):=by
 intro pins s σ H D I h;obtain⟨M,h,hM⟩:=h;refine wpAny_execs_cons (B3 (h1 pins s σ H { D with nx:=M } I h) λ f s1 q=>?_);cases f with
 |next =>
  obtain⟨σ',H',I',q⟩:=q;exact h2 pins s1 σ' H' D I' (hM σ' H' q)
 |ret v=>exact q
 |brk=>exact q
 |cont=>exact q
inductive tCutE(t:TE)(σ:St)(H:Hp)(Q:VK):Prop
 |mk (M:V->Hp->Prop):t σ H M->(∀v H',M v H'->Q v H')->tCutE t σ H Q
theorem k8(h:PE X e te):PE X e (tCutE te):=by
 intro pins s σ H Q I q;obtain⟨M,q,hM⟩:=q;exact B3 (h pins s σ H M I q) λ u s1 ⟨v,H1,I1,r1,q1⟩=>⟨v,H1,I1,r1,hM v H1 q1⟩
inductive tCutT(t:TT)(σ:St)(H:Hp)(Q:Bool->Hp->Prop):Prop
 |mk (M:Bool->Hp->Prop):t σ H M->(∀b H',M b H'->Q b H')->tCutT t σ H Q
theorem eO(h:PT X e tt):PT X e (tCutT tt):=by
 intro pins s σ H Q I q;obtain⟨M,q,hM⟩:=q;exact B3 (h pins s σ H M I q) λ b s1 ⟨H1,I1,q1⟩=>⟨H1,I1,hM b H1 q1⟩
end
def qM(X:Cx)(N':List Str)(scope:Scope)(cl:List (Str×Addr))(caps:List (Option Nat)):Bool :=
 (scope.names.all λ y=>y.2 != .cell)&&(scope.names.all λ y=>y.2 != .local||scope.names.lookup y.1==some .local) &&
 ((relabel scope X.env).names.all λ y=>!(y.2 == .cell||y.2 == .free)||(cl.lookup y.1).isSome)&&(caps.length==N'.length) &&
 ((QX caps.length).all λ i=>match caps[i]?,N'[i]? with
  |some (some j),some x=>(X.N[j]? == some x)&&(X.env.kindOf x==some .cell||X.env.kindOf x==some .free)&&((relabel scope X.env).names.lookup x==some .cell||(relabel scope X.env).names.lookup x==some .free)
  |_,_=>true)
theorem BlkOk.of{N':List Str}{cl:List (Str×Addr)}(clos:closureFor scope X.env=pure cl)(kind:scope.kind=.function)(sub:∀x c,cl.lookup x=some c->X.env.cells.lookup x=some c)
  (h:qM X N' scope cl caps=true):BlkOk X N' scope cl caps:=by
 unfold qM at h;simp only[KH] at h;obtain⟨⟨⟨⟨h1,h2⟩,h3⟩,h4⟩,h5⟩:=h;have ok3:∀x k,(relabel scope X.env).names.lookup x=some k->(k=.cell\/k=.free)->∃c,cl.lookup x=some c:=λ x k e hk=>by
  have:=JL.mp h3 _ (PySem.mem_of_lookup e);have hb:(k==NameKind.cell||k==NameKind.free)=true:=by
   rcases hk with rfl|rfl<;>rfl
  simp only[hb,Bd,Bool.false_or] at this;exact Ai.mp this
 refine⟨clos,λ y hy=>?_,kind,λ y hy e=>?_,sub,λ x hx=>?_,by simpa using h4,λ i j x e1 e2=>?_⟩
 ·have:=JL.mp h1 y hy
  simpa using this
 ·have:=JL.mp h2 y hy;rw[e] at this
  simpa using this
 ·rcases hx with hx|hx
  ·exact ok3 x _ hx (.inl rfl)
  ·exact ok3 x _ hx (.inr rfl)
 ·have hi:i<caps.length:=(CP.mp e1).1;have:=JL.mp h5 i (jZ.mpr hi);rw[e1,e2] at this;simp only[KH,x6,beq_iff_eq] at this;exact⟨this.1.1,this.1.2,this.2⟩
section
variable {xs:List V}
theorem P5(Pv:Addr->Nat->Hp->Prop)(h0:∀D,H D=none->Pv D 0 (AD H D (.lst [])))(hl:∀D i H',H D=none->i<=xs.length->Pv D i H'->SqL K H' a xs)
  (hs:∀D i x H',H D=none->xs[i]?=some x->Pv D i H'->g x (seen caps σ) H' λ σ4 H4=>(∀(k:Nat) v,(seen caps σ)[k]?=some (some v)->σ4[k]?=some (some v))/\tt σ4 H4 λ b H5 =>
   if b=true then te σ4 H5 λ y H6=>∃ys,H6 D=some (.lst ys)/\ys.length<sizeLine/\Pv D (i+1) (AD H6 D (.lst (ys++[y]))) else Pv D (i+1) H5)
  (hd:∀D H',H D=none->Pv D xs.length H'->Q (.ref D) H'):FQ caps g tt te σ Q (cY K a) H:=by
 intro D hD;refine⟨λ i m H'=>m=xs.length-i/\i<=xs.length/\Pv D i H',⟨xs.length,by simp,HV _,h0 D hD⟩,?_⟩;intro i m H2 z9;obtain⟨rfl,hi,p⟩ := z9;have q:=hl D i H2 hD hi p
 by_cases hlt:i<xs.length
 ·refine .inr ⟨⟨xs,xs[i],q,by simp[hlt]⟩,Pv D (i+1),λ H' p'=>⟨xs.length-(i+1),⋯,rfl,hlt,p'⟩,λ x H3 y=>?_⟩;obtain⟨e,y⟩:=y;subst e;exact hs D i x _ hD (y xs q) p
 ·have e:i=xs.length:=⋯;subst e;exact .inl ⟨⟨xs,q,BU _⟩,hd D H2 hD p⟩
theorem HX(Pv:Addr->Nat->Hp->Prop)(h0:∀D,H D=none->Pv D 0 (AD H D (.lst [])))(hl:∀D i H',H D=none->i<=xs.length->Pv D i H'->SqL K H' a xs)
  (hs:∀D i x H',H D=none->xs[i]?=some x->Pv D i H'->g x (seen caps σ) H' λ σ4 H4=>(∀(k:Nat) v,(seen caps σ)[k]?=some (some v)->σ4[k]?=some (some v)) /\
   te σ4 H4 λ y H6=>∃ys,H6 D=some (.lst ys)/\ys.length<sizeLine/\Pv D (i+1) (AD H6 D (.lst (ys++[y]))))
  (hd:∀D H',H D=none->Pv D xs.length H'->Q (.ref D) H'):FQ caps g EC te σ Q (cY K a) H:=P5 Pv h0 hl hs hd
theorem pU(Pv:Addr->Nat->Hp->Prop)(h0:∀D,H D=none->Pv D 0 (AD H D (.lst [])))(hl:∀D i H',H D=none->i<=xs.length->Pv D i H'->SqT K H' a xs)
  (hs:∀D i x H',H D=none->xs[i]?=some x->Pv D i H'->g x (seen caps σ) H' λ σ4 H4=>(∀(k:Nat) v,(seen caps σ)[k]?=some (some v)->σ4[k]?=some (some v))/\tt σ4 H4 λ b H5 =>
   if b=true then te σ4 H5 λ y H6=>∃ys,H6 D=some (.lst ys)/\ys.length<sizeLine/\Pv D (i+1) (AD H6 D (.lst (ys++[y]))) else Pv D (i+1) H5)
  (hd:∀D H',H D=none->Pv D xs.length H'->Q (.ref D) H'):FQ caps g tt te σ Q (rJ K a) H:=by
 intro D hD;refine⟨λ i m H'=>m=xs.length-i/\i<=xs.length/\Pv D i H',⟨xs.length,by simp,HV _,h0 D hD⟩,?_⟩;intro i m H2 z9;obtain⟨rfl,hi,p⟩ := z9;have q:=hl D i H2 hD hi p
 by_cases hlt:i<xs.length
 ·refine .inr ⟨⟨xs,xs[i],q,by simp[hlt]⟩,Pv D (i+1),λ H' p'=>⟨xs.length-(i+1),⋯,rfl,hlt,p'⟩,λ x H3 y=>?_⟩;obtain⟨e,y⟩:=y;subst e;exact hs D i x _ hD (y xs q) p
 ·have e:i=xs.length:=⋯;subst e;exact .inl ⟨⟨xs,q,BU _⟩,hd D H2 hD p⟩
theorem Q7(Pv:Addr->Nat->Hp->Prop)(h0:∀D,H D=none->Pv D 0 (AD H D (.lst [])))(hl:∀D i H',H D=none->i<=xs.length->Pv D i H'->SqT K H' a xs)
  (hs:∀D i x H',H D=none->xs[i]?=some x->Pv D i H'->g x (seen caps σ) H' λ σ4 H4=>(∀(k:Nat) v,(seen caps σ)[k]?=some (some v)->σ4[k]?=some (some v)) /\
   te σ4 H4 λ y H6=>∃ys,H6 D=some (.lst ys)/\ys.length<sizeLine/\Pv D (i+1) (AD H6 D (.lst (ys++[y]))))
  (hd:∀D H',H D=none->Pv D xs.length H'->Q (.ref D) H'):FQ caps g EC te σ Q (rJ K a) H:=pU Pv h0 hl hs hd
end
mutual
inductive RdV(K:W.Frag)(H:Hp):V->PyData->Prop
 |non:RdV K H .non .none
 |bl (b:Bool):RdV K H (.bl b) (.bool b)
 |int (i:Int):RdV K H (.int i) (.int i)
 |str (x:Str):RdV K H (.str x) (.str x)
 |lst {a:Addr} {xs:List V} {ds:List PyData}:SqL K H a xs->RdAll K H xs ds->RdV K H (.ref a) (.list ds)
 |tup {a:Addr} {xs:List V} {ds:List PyData}:SqT K H a xs->RdAll K H xs ds->RdV K H (.ref a) (.tuple ds)
inductive RdAll(K:W.Frag)(H:Hp):List V->List PyData->Prop
 |nil:RdAll K H [] []
 |cons {x:V} {d:PyData} {xs:List V} {ds:List PyData}:RdV K H x d->RdAll K H xs ds->RdAll K H (x::xs) (d::ds)
end
mutual
theorem Inv.rd(I:Inv X pins σ H s):∀{x:V}{d:PyData},RdV X.K H x d->∀u,RelV x u->∃as,Reads s.heap u d as
 |_,_,.non,u,r=>by cases (show u=Value.none from r);exact⟨_,.none⟩
 |_,_,.bl b,u,r=>by cases (show u=Value.bool b from r);exact⟨_,.bool b⟩
 |_,_,.int i,u,r=>by obtain⟨t,q⟩:=(show ∃t,u=Value.int i t from r);cases q;exact⟨_,.int i t⟩
 |_,_,.str x,u,r=>by obtain⟨t,q⟩:=(show ∃t,u=Value.str x t from r);cases q;exact⟨_,.str x t⟩
 |_,_,.lst (a:=a) hS hA,u,r=>by
  cases (show u=Value.ref a from r);obtain⟨its,rv,p,hz⟩:=I.list hS;obtain⟨as,q⟩:=Inv.rdAll I hA its rv;obtain⟨o,e,hc,n,hd⟩:=p.isList;exact⟨_,.list e hc hd (by simpa using q)⟩
 |_,_,.tup (a:=a) hS hA,u,r=>by
  cases (show u=Value.ref a from r);obtain⟨its,rv,p,hz⟩:=I.tuple hS;obtain⟨as,q⟩:=Inv.rdAll I hA its rv;obtain⟨o,e,hc,n,hd⟩:=p;exact⟨_,.tuple e hc hd (by simpa using q)⟩
theorem Inv.rdAll(I:Inv X pins σ H s):∀{xs:List V}{ds:List PyData},RdAll X.K H xs ds->∀us,Vals xs us->∃as,ReadsAll s.heap us ds as
 |_,_,.nil,us,r=>by cases r;exact⟨_,.nil⟩
 |_,_,.cons h1 h2,us,r=>by
  cases r with
  |cons r1 r2 =>
   obtain⟨as,q1⟩:=Inv.rd I h1 _ r1;obtain⟨bs,q2⟩:=Inv.rdAll I h2 _ r2;exact⟨_,.cons q1 q2⟩
end
inductive rEqD(K:W.Frag)(x:V)(y:V)(H:Hp)(Q:VK):Prop
 |mk (d:_) (e:_):RdV K H x d->RdV K H y e->SeqAt.shaped d=true->SeqAt.shaped e=true->Q (.bl (PyData.eqv d e)) H->rEqD K x y H Q
inductive rNeD(K:W.Frag)(x:V)(y:V)(H:Hp)(Q:VK):Prop
 |mk (d:_) (e:_):RdV K H x d->RdV K H y e->SeqAt.shaped d=true->SeqAt.shaped e=true->Q (.bl (!PyData.eqv d e)) H->rNeD K x y H Q
theorem fQ(hu:X.A.units+64<cLine):FI X (compareOp .Eq) (rEqD X.K):=by
 intro pins s σ H x y v u Q I rx ry h;obtain⟨d,e,hd,he,sd,se,q⟩:=h;obtain⟨as,ra⟩:=I.rd hd v rx;obtain⟨bs,rb⟩:=I.rd he u ry;exact eq_dataH ra rb sd se hu ⟨.bl _,H,I,rfl,q⟩
theorem eR(hu:X.A.units+64<cLine):FI X (compareOp .NotEq) (rNeD X.K):=by
 intro pins s σ H x y v u Q I rx ry h;obtain⟨d,e,hd,he,sd,se,q⟩:=h;obtain⟨as,ra⟩:=I.rd hd v rx;obtain⟨bs,rb⟩:=I.rd he u ry;exact ne_dataH ra rb sd se hu ⟨.bl _,H,I,rfl,q⟩
structure QE(X:Cx)(e:Expr)(t:TE):Prop where
 run:PE X e t
structure QT(X:Cx)(e:Expr)(t:TT):Prop where
 run:PT X e t
structure QW(X:Cx)(e:Expr)(t:TT):Prop where
 run:PW X e t
structure QA(X:Cx)(es:List Expr)(t:TA):Prop where
 run:PA X es t
structure QS(X:Cx)(st:Stmt)(t:TS):Prop where
 run:PS X st t
structure QSs(X:Cx)(st:List Stmt)(t:TS):Prop where
 run:PSs X st t
structure QG(X:Cx)(e:Expr)(t:TG):Prop where
 run:PG X e t
structure QGs(X:Cx)(es:List Expr)(t:YI):Prop where
 run:nB X es t
structure QI(X:Cx)(tg it:Expr)(w:TI):Prop where
 run:PI X tg it w
structure QO(X:Cx)(e:Option Expr)(t:TO):Prop where
 run:PO X e t
structure QOp(X:Cx)(f:Value->Value->Sem Value)(r:R2):Prop where
 run:FI X f r
structure QCall(X:Cx)(f:Value)(r:List V->Hp->VK->Prop):Prop where
 run:DO X f r
structure QIx(X:Cx)(r:R2):Prop where
 run:qI X r
section
variable {C3:List Stmt}{t u:TS}{a b d:Expr}{ta tb tc td:TE}{tA tB':TT}
theorem AY:QSs X [] d4:=⟨ZQ⟩
theorem AA(h1:QS X st t):QSs X [st] t:=⟨ZF h1.run⟩
theorem A9(h1:QS X st t)(h2:QSs X C3 u):QSs X (st::C3) (nW t u):=⟨UE h1.run h2.run⟩
theorem IE(h1:QS X st t)(h2:QSs X C3 u):QSs X (st::C3) (tCut t u):=⟨cC h1.run h2.run⟩
theorem AC(hN:X.N.Nodup)(hi:X.N[i]?=some x)(hx:VZ X.env.scope x)(he:QE X e te)(hs:swapsWith e (some (.Name x pos')) pos.line X.env=pure false:=by rfl)(hf:X.fn x=true\/X.env.scope.names.lookup x=some .local:=by first|exact .inl rfl|exact .inr rfl|assumption) :
  QS X (.Assign [.Name x pos'] e pos) (OC te (GP i)):=⟨gP hN hi hx he.run hs hf⟩
theorem QR(he:QE X e te)(hg:QG X tg g)(hs:swapsWithSole [tg] e pos.line X.env=pure false:=by rfl)(hw:swappedStores [tg] e X.env=pure none:=by rfl)
  (h1:(assignEach [tg] X.env).map (·.2)=[assign tg X.env]:=by rfl):QS X (.Assign [tg] e pos) (OC te g):=⟨jJ he.run hg.run hs hw h1⟩
theorem AE{a b:List Stmt}{tc:TT}(hc:QT X c tc)(ha:QSs X a t)(hb:QSs X b u):QS X (.If c a b pos) (pA tc t u):=⟨nG hc.run ha.run hb.run⟩
theorem AF(he:QE X e te):QS X (.Return (some e) pos) (nH te):=⟨fE he.run⟩
theorem W6:QS X (.Return none pos) d5:=⟨aW⟩
theorem CF(he:QE X e te)(hs:swapsWith e none pos.line X.env=pure false:=by rfl):QS X (.Expr e pos) (d6 te):=⟨ZO he.run hs⟩
theorem SF{body:List Stmt}{tb:TS}(hp:PassesOwn (model X.prog X.w) X.A X.env X.xe)(hc:QT X c tt)(hb:QSs X body tb):QS X (.While c body [] pos) (tWhile tt tb):=⟨SQ hp hc.run hb.run⟩
theorem DJ{body:List Stmt}{tb:TS}(hp:PassesOwn (model X.prog X.w) X.A X.env X.xe)(hc:X.calm=true)(hi:QI X tg iter wi)(hg:QG X tg g)(hb:QSs X body tb)
  (hs:∀x,foldedSetIterable iter X.env x=pure x:=by intro _;rfl):QS X (.For tg iter body [] pos) (qG wi g tb):=⟨iJ hp hc hi.run hg.run hb.run hs⟩
theorem AV(hN:X.N.Nodup)(hi:X.N[i]?=some x)(hx:VZ X.env.scope x)(hf:X.fn x=true\/X.env.scope.names.lookup x=some .local:=by first|exact .inl rfl|exact .inr rfl|assumption):QG X (.Name x pos) (GP i):=⟨MF hN hi hx hf⟩
theorem FX:QGs X [] gNil:=⟨cG⟩
theorem BI{t:TG}{u:YI}(h1:QG X e t)(h2:QGs X es u)(hs:(assignEach (e::es) X.env).map (·.2)=assign e X.env::(assignEach es X.env).map (·.2):=by rfl):QGs X (e::es) (gCons t u):=⟨RZ h1.run h2.run hs⟩
theorem G8{k:Nat}{t:YI}(hc:X.calm=true)(h:QGs X es t)
  (hn:(assignEach es X.env).length=n:=by rfl) (hst:(assignEach es X.env).findIdx? (·.1)=none:=by rfl):QG X (.Tuple es k pos) (gTup X.K n t):=⟨iM hc h.run hn hst⟩
theorem OH{o i:Expr}{to ti:TE}{t:XE}(ho:QE X o to)(hi:QE X i ti)(hs:fI X t)
  (ha:∀v,assign (.Subscript o i pos) X.env v=(do
   let ov <- holding [v] (eval o X.env)
   let iv <- holding [v,ov] (eval i X.env)
   standAt pos
   holding [v,ov,iv] (setItem ov iv v)
   release [v,ov,iv] []):=by intro _;rfl):QG X (.Subscript o i pos) (l9 to ti t):=⟨jK ho.run hi.run hs ha⟩
theorem DN{l:Expr}{tl:TE}(hl:QE X l tl):QI X tg l (dO X.K tl):=⟨YX hl.run⟩
theorem SW{l:Expr}{tl:TE}(hl:QE X l tl):QI X tg l (pP X.K tl):=⟨j6 hl.run⟩
theorem HZ{tg:Expr}{ta:TA}(hg:Gl X "range")(hm:X.mg "range"=none)(ha:QA X [a] ta)(h:BX a=true:=by rfl):QI X tg (.Call (.Name "range" p) [a] [] pos) (d8 ta):=⟨PJ hg hm ha.run (BC h)⟩
theorem A5:QA X [] j5:=⟨SR⟩
theorem A4{t:TA}(ha:QE X e te)(hr:QA X es t)(h:BX e=true:=by rfl):QA X (e::es) (MA te t):=⟨WJ ha.run hr.run h⟩
theorem qv(i:Nat)(hN:X.N[i]?=some x:=by rfl)(hv:QZ X.env.scope x:=by first|exact AH rfl|exact IH (AH rfl)|exact IH (IH rfl))(hd:(x==("__debug__":Str))=false:=by decide)
  (hcd:(x==("__classdict__":Str))=false:=by decide):QE X (.Name x pos) (tVar i):=⟨IV hN hv hd hcd⟩
theorem JP{v:V}{u:Value}(hg:Gl X x)(hm:X.mg x=none)(hv:bootBuiltins x=some u)(r:RelV v u)(hn:x≠"__name__" := by decide)(hd:(x==("__debug__":Str))=false:=by decide):QE X (.Name x pos) (tC v):=⟨Z0 hg hm hv r hn hd⟩
theorem A6{i:Int}:QE X (.Constant (.int i) j pos) (tC (.int i)):=⟨RJ⟩
theorem DS{b:Bool}:QE X (.Constant (.bool b) j pos) (tC (.bl b)):=⟨lI⟩
theorem DE:QE X (.Constant .none j pos) (tC .non):=⟨gY⟩
theorem BP:QE X (.Constant (.str x) j pos) (tC (.str x)):=⟨iX⟩
theorem A7{op:Operator}(ho:QOp X (binaryOp op) r)(ha:QE X a ta)(hb:QE X b tb):QE X (.BinOp a op b pos) (aP r ta tb):=⟨dB ho.run ha.run hb.run⟩
theorem G0(ha:QE X a ta):QE X (.UnaryOp .USub a pos) (Bm (rU λ i=>.int (-i)) ta):=⟨nM gU ha.run⟩
theorem UX(ha:QE X a ta):QE X (.UnaryOp .Not a pos) (dM ta):=⟨fZ ha.run⟩
theorem jL(ha:QE X a ta):QE X (.Compare a [.Is] [.Constant .none j pos'] pos) (iE ta):=⟨RR (U5 ha.run)⟩
theorem YW(ha:QE X a ta):QE X (.Compare a [.IsNot] [.Constant .none j pos'] pos) (VF ta):=⟨RR (MX ha.run)⟩
theorem EN(ha:QE X a ta):QT X (.Compare a [.Is] [.Constant .none j pos'] pos) (tB (iE ta)):=⟨SM (U5 ha.run)⟩
theorem NG(ha:QE X a ta):QT X (.Compare a [.IsNot] [.Constant .none j pos'] pos) (tB (VF ta)):=⟨SM (MX ha.run)⟩
theorem IZ(ho:QOp X (compareOp op) r)(ha:QE X a ta)(hb:QE X b tb)(hm:behindInMarks op b=false):QE X (.Compare a [op] [b] pos) (aP r ta tb):=⟨ZZ ho.run ha.run hb.run hm⟩
theorem AX(ho:QOp X (compareOp op) r)(ha:QE X a ta)(hb:QE X b tb)(hm:behindInMarks op b=false):QT X (.Compare a [op] [b] pos) (N5 (aP r ta tb)):=⟨WA ho.run ha.run hb.run hm⟩
theorem oW(ho:QOp X (compareOp op) r)(ho':QOp X (compareOp op') r')(ha:QE X a ta)(hb:QE X b tb)(hc:QE X c tc)(hm:lastMarks [op,op'] [b,c]=false:=by with_unfolding_all rfl) :
  QE X (.Compare a [op,op'] [b,c] pos) (JA r r' ta tb tc):=⟨UP ho.run ho'.run ha.run hb.run hc.run hm⟩
theorem QJ(ho:QOp X (compareOp op) r)(ho':QOp X (compareOp op') r')(ha:QE X a ta)(hb:QE X b tb)(hc:QE X c tc)(hm:lastMarks [op,op'] [b,c]=false:=by with_unfolding_all rfl) :
  QT X (.Compare a [op,op'] [b,c] pos) (N5 (JA r r' ta tb tc)):=⟨SG ho.run ho'.run ha.run hb.run hc.run hm⟩
theorem P9{op'':CmpOp}{r'':R2}(ho:QOp X (compareOp op) r)(ho':QOp X (compareOp op') r')(ho'':QOp X (compareOp op'') r'')(ha:QE X a ta)(hb:QE X b tb)(hc:QE X c tc)(hd:QE X d td)(hm:lastMarks [op,op',op''] [b,c,d]=false:=by with_unfolding_all rfl) :
  QE X (.Compare a [op,op',op''] [b,c,d] pos) (N8 r r' r'' ta tb tc td):=⟨NL ho.run ho'.run ho''.run ha.run hb.run hc.run hd.run hm⟩
theorem LM{op:BoolOp}(h:QE X a ta):QE X (.BoolOp op [a] pos) ta:=⟨fF h.run⟩
theorem KY{C3:List Expr}(ha:QE X a ta)(hb:QE X (.BoolOp .And (b::C3) pos) tb):QE X (.BoolOp .And (a::b::C3) pos) (d7 ta tb):=⟨gM ha.run hb.run⟩
theorem J6(ha:QT X a tA):QW X (.BoolOp .And [a] pos) tA:=⟨X3 ha.run⟩
theorem FC(ha:QT X a tA):QW X (.BoolOp .Or [a] pos) tA:=⟨fK ha.run⟩
theorem I0{C3:List Expr}(ha:QT X a tA)(hb:QW X (.BoolOp .And (b::C3) pos) tB'):QW X (.BoolOp .And (a::b::C3) pos) (pN tA tB'):=⟨iY ha.run hb.run⟩
theorem CO{C3:List Expr}(ha:QT X a tA)(hb:QW X (.BoolOp .Or (b::C3) pos) tB'):QW X (.BoolOp .Or (a::b::C3) pos) (zZ tA tB'):=⟨oX ha.run hb.run⟩
theorem QW.pt(h:QW X e tt):QT X e tt:=⟨h.run.pt⟩
theorem EF(ha:QT X a tA):QT X (.UnaryOp .Not a pos) (pE tA):=⟨j3 ha.run⟩
theorem CD(h:QE X e te)(he:∀whole,isTrue e X.env whole=(do let v <- whole;standAt e.pos;holding [v] (truthy v)):=by intro _;rfl):QT X e (tB te):=⟨f9 h.run he⟩
theorem FM(h:QT X e tt):QT X e (tCutT tt):=⟨eO h.run⟩
theorem KB(h:QE X e te):QE X e (tCutE te):=⟨k8 h.run⟩
theorem FJ(hc:QT X c tA)(ha:QE X a ta)(hb:QE X b tb):QE X (.IfExp c a b pos) (zW tA ta tb):=⟨TN hc.run ha.run hb.run⟩
theorem D4{t:TA}{x1:Nat}(h:QA X es t):QE X (.Tuple es x1 pos) (pR t):=⟨jD h.run⟩
theorem D0{t:TA}(h:QA X es t):QE X (.List es pos) (m7 t):=⟨gQ h.run⟩
theorem A8(hr:QIx X r)(ha:QE X a ta)(hb:QE X b tb)(hs:MZ b):QE X (.Subscript a b pos) (aP r ta tb):=⟨JN hr.run ha.run hb.run hs⟩
theorem IC:QO X none MI:=⟨XI⟩
theorem IG(h:QE X e te):QO X (some e) (dA te):=⟨ZU h.run⟩
theorem L6{lo hi:Option Expr}{tl th:TO}{p2:Pos}(he:QE X e te)(hl:QO X lo tl)(hu:QO X hi th):QE X (.Subscript e (.Slice lo hi none p2) pos) (yI (rSlL X.K) te tl th):=⟨nQ WE he.run hl.run hu.run⟩
theorem AL{t:TA}{id:String}{r:List V->Hp->VK->Prop}(hc:QCall X (.builtin id) r)(hg:Gl X x)(hm:X.mg x=none)(hv:bootBuiltins x=some (.builtin id))(ha:QA X (e::es) t)(hn:x≠"__name__" := by decide)(hdb:(x==("__debug__":Str))=false:=by decide)
  (he:BX e=true:=by rfl) (hpl:es.all BX=true:=by rfl):QE X (.Call (.Name x p) (e::es) [] pos) (jH r t):=⟨oJ hc.run hg hm hv ha.run hn hdb he hpl⟩
theorem DA{t:TA}{T:String}{r:List V->Hp->VK->Prop}(hc:QCall X (.type T) r)(hg:Gl X x)(hm:X.mg x=none)(hv:bootBuiltins x=some (.type T))(ha:QA X (e::es) t)(hn:x≠"__name__" := by decide)(hdb:(x==("__debug__":Str))=false:=by decide)
  (he:BX e=true:=by rfl) (hpl:es.all BX=true:=by rfl):QE X (.Call (.Name x p) (e::es) [] pos) (jH r t):=⟨o6 hc.run hg hm hv ha.run hn hdb he hpl⟩
theorem AB{t:TA}(C:Callee X.prog X.w X.K X.mg X.base k x ps sp)(hr:Room k X.A)(hg:Gl X x)(ha:QA X (e::es) t)(hdb:(x==("__debug__":Str))=false:=by decide)
  (he:BX e=true:=by rfl) (hpl:es.all BX=true:=by rfl):QE X (.Call (.Name x p) (e::es) [] pos) (RF sp [] E0 t):=⟨dF C hr hg ha.run hdb he hpl⟩
theorem DG{o:Expr}{to:TE}{t:TA}{apos:Pos}(ho:QE X o to)(ha:QA X [e] t)(h:BX e=true:=by rfl)(hbase:attributeBase o "append" X.env (eval o X.env)=eval o X.env:=by rfl)(hline:(apos.endLine==pos.line)=true:=by rfl) :
  QE X (.Call (.Attribute o "append" apos) [e] [] pos) (aY X.K "list" MH to t) :=
 ⟨GN PySem.F.plainAttrs_list PySem.F.slot_list_append PySem.F.type_list_append aV ho.run ha.run hbase (by rw[BC h];rfl) hline (BC h) rfl⟩
end
theorem B7:QOp X (binaryOp .Add) (rI0 λ i j=>.int (i+j)):=⟨S3⟩
theorem D5:QOp X (binaryOp .Sub) (rI0 λ i j=>.int (i-j)):=⟨j9⟩
theorem OF:QOp X (binaryOp .Mult) (rI CMul λ i j=>.int (i*j)):=⟨iS⟩
theorem E8:QOp X (binaryOp .FloorDiv) (rI dE λ i j=>.int (i/j)):=⟨UT⟩
theorem BR:QOp X (binaryOp .Mod) (rI (λ _ j=>0<j) λ i j=>.int (i%j)):=⟨jY⟩
theorem L9:QOp X (binaryOp .Pow) (rI lU λ i j=>.int (i ^ j.toNat)):=⟨jM⟩
theorem CS:QOp X (compareOp .Eq) rEq:=⟨mM⟩
theorem LL:QOp X (compareOp .NotEq) rNe:=⟨pK⟩
theorem F7:QOp X (compareOp .Lt) (rI0 λ i j=>.bl (decide (i<j))):=⟨dY⟩
theorem EA:QOp X (compareOp .LtE) (rI0 λ i j=>.bl (decide (i<=j))):=⟨SX⟩
theorem JF:QOp X (compareOp .Gt) (rI0 λ i j=>.bl (decide (j<i))):=⟨nN⟩
theorem LD:QOp X (compareOp .GtE) (rI0 λ i j=>.bl (decide (j<=i))):=⟨qF⟩
theorem LX(hu:X.A.units+64<cLine):QOp X (compareOp .Eq) (rEqD X.K):=⟨fQ hu⟩
theorem ZE(hu:X.A.units+64<cLine):QOp X (compareOp .NotEq) (rNeD X.K):=⟨eR hu⟩
theorem AM:QIx X (rIxL X.K):=⟨aR⟩
theorem AU:QIx X (rIxT X.K):=⟨RU⟩
theorem CN:QCall X (.builtin "len") (λ xs H Q=>∃p ys,xs=[.ref p]/\(SqL X.K H p ys\/SqT X.K H p ys)/\Q (.int ys.length) H):=⟨wX⟩
theorem gR(hc:X.calm=true):QCall X (.builtin "max") (λ xs H Q=>∃i j,xs=[.int i,.int j]/\Q (.int (if j>i then j else i)) H):=⟨O6 hc⟩
theorem K1(hc:X.calm=true):QCall X (.builtin "min") (λ xs H Q=>∃i j,xs=[.int i,.int j]/\Q (.int (if j<i then j else i)) H):=⟨NF hc⟩
theorem K5:QCall X (.builtin "isinstance") (λ xs H Q=>∃x T t b,xs=[x,.ty T]/\TyOf X.K H x t/\W.kitOne X.K t (.type T)=some b/\Q (.bl b) H):=⟨V8⟩
theorem LF(hc:X.calm=true):QCall X (.builtin "all") (λ xs H Q=>∃(p:Addr)(bs:List Bool),xs=[.ref p]/\SqL X.K H p (bs.map V.bl)/\Q (.bl (bs.all id)) H):=⟨RM hc⟩
theorem bL:QCall X (.type "list") (λ xs H Q=>∃p ys,xs=[.ref p]/\(SqL X.K H p ys\/SqT X.K H p ys)/\∀l,H l=none->Q (.ref l) (AD H l (.lst ys))):=⟨tM⟩
theorem Fun.okQ{qual:Str}{f:Addr}(F:Fun K x qual st f fd)(S:FnScope N ps (AG st))(len:∀vs H Q E,sp vs H Q E->vs.length=ps.length)
  (hbody:∀(cdv:Value)(A:Around)(outer:List Env)(s:Shared)(H:Hp)(vs:List V)(Q:VK)(E:XK),Room k (A.deeper (envOfC qual (AG st) s.heap.objs.size f cdv))->sp vs H Q E ->
   ∃t,QSs (JS B5 P w K mg base N qual (AG st) f cdv A outer s H E).nox (C7 st) t/\t { nx:=λ _ H'=>Q .non H',rt:=Q } (FP N vs) H):FnOk P w K mg base B5 (k+1) f fd ps sp:=by
 refine F.ok S len λ cdv A outer s H vs Q E hr h=>?_
 obtain⟨t,h1,h2⟩:=hbody cdv A outer s H vs Q E hr h;exact⟨t,h1.run,h2⟩
structure SubL(cl cells:List (Str×Addr)):Prop where
 to:∀x c,cl.lookup x=some c->cells.lookup x=some c
theorem EX{cells:List (Str×Addr)}:SubL [] cells:=⟨λ _ _ e=>nomatch e⟩
theorem IA{c:Addr}{cl cells:List (Str×Addr)}(h:cells.lookup x=some c)(r:SubL cl cells):SubL ((x,c)::cl) cells:=⟨λ y d e=>by
 rw[dW] at e;cases q:y==x with
 |true=>rw[q] at e;cases e;rw[eq_of_beq q];exact h
 |false=>rw[q] at e;exact r.to y d e⟩
section
variable {cl:List (Str×Addr)}{elt:Expr}
theorem GK(N':List Str)(caps:List (Option Nat))(B:BlkOk X N' scope cl caps)(hc:X.calm=true)(hi:QI X tg iter wi)(hg:∀C s0 H0 fp,QG (E6 X N' scope cl C s0 H0 fp) tg g)(he:∀C s0 H0 fp,QE (E6 X N' scope cl C s0 H0 fp) elt te)
  (hs:∀x,foldedSetIterable iter X.env x=pure x:=by intro _;rfl):QE X (.ListComp elt [⟨tg,iter,[],0⟩] scope pos) (HU wi caps g EC te):=⟨Z1 B hc hi.run (λ C s0 H0 fp=>(hg C s0 H0 fp).run) (λ C s0 H0 fp=>(he C s0 H0 fp).run) hs⟩
theorem QL(N':List Str)(caps:List (Option Nat))(B:BlkOk X N' scope cl caps)(hc:X.calm=true)(hi:QI X tg iter wi)(hg:∀C s0 H0 fp,QG (E6 X N' scope cl C s0 H0 fp) tg g)(ht:∀C s0 H0 fp,QT (E6 X N' scope cl C s0 H0 fp) c tt)
  (he:∀C s0 H0 fp,QE (E6 X N' scope cl C s0 H0 fp) elt te) (hs:∀x,foldedSetIterable iter X.env x=pure x:=by intro _;rfl):QE X (.ListComp elt [⟨tg,iter,[c],0⟩] scope pos) (HU wi caps g tt te) :=
 ⟨OR B hc hi.run (λ C s0 H0 fp=>(hg C s0 H0 fp).run) (λ C s0 H0 fp=>(ht C s0 H0 fp).run) (λ C s0 H0 fp=>(he C s0 H0 fp).run) hs⟩
end
theorem N6(K:W.Frag)(hK:X.K=K){k:Nat}{t:YI}(hc:X.calm=true)(h:QGs X es t)
  (hn:(assignEach es X.env).length=n:=by rfl) (hst:(assignEach es X.env).findIdx? (·.1)=none:=by rfl):QG X (.Tuple es k pos) (gTup K n t):=by
 subst hK;exact G8 hc h hn hst
theorem kR(K:W.Frag)(hK:X.K=K):QIx X (rIxL K):=by subst hK;exact AM
theorem j4(K:W.Frag)(hK:X.K=K):QIx X (rIxT K):=by subst hK;exact AU
inductive tClo(i:Nat)(f:Addr)(sp:Sp)(t:TA)(σ:St)(H:Hp)(Q:VK):Prop
 |mk  : σ[i]?=some (some (.ref f))->(t σ H λ vs H1=>sp (vs++[]) H1 Q E0)->tClo i f sp t σ H Q
section
variable {f:Addr}
theorem KJ(i:Nat)(G:FnOk X.prog X.w X.K X.mg X.base B5 k f fd ps sp)(hr:Room k X.A)(hb:Binds X.K fd ps [])(ho:W.FnAt f X.base)(ha:PA X (e::es) t)(hN:X.N[i]?=some x:=by rfl)
  (hv:QZ X.env.scope x:=by first|exact AH rfl|exact IH (AH rfl)|exact IH (IH rfl)) (hd:(x==("__debug__":Str))=false:=by decide) (hcd:(x==("__classdict__":Str))=false:=by decide)
  (he:starEach (e::es) X.env=(false,eval e X.env)::starEach es X.env:=by rfl) (hpl:(backTo pos (starEach es X.env)).any (·.1)=false:=by rfl) :
  PE X (.Call (.Name x p) (e::es) [] pos) (tClo i f sp t):=by
 intro pins s σ H Q I h;obtain⟨hσ,h⟩:=h;have fa:∀{H':Hp}{s':Shared},Inv X pins σ H' s'->W.FnAt f s'.heap:=λ {H' s'} J=>by
  obtain⟨oc,od,fd',sl,e0⟩:=ho;exact⟨oc,od,fd',sl,J.bk _ _ e0⟩
 refine wpAny_Call_Name_kw (B3 (IV (pos:=p) hN hv hd hcd pins s σ H (λ v H'=>v=.ref f/\H'=H) I ⟨_,hσ,rfl,rfl⟩) λ u s1 z9=>?_);obtain⟨v,H',I1,r,e1,e2⟩ := z9;subst e1 e2;cases r;refine W.callWith_F (fa I1) (B3 (ha pos pins s1 σ H' _ I1 h) λ us s2 ⟨vs,H2,I2,r2,q⟩=>⟨fa I2,?_⟩) he hpl;exact IT G hr hb .nil JY I2 r2 q
end
def CW(c:Addr)(qual:Str):Heap->Prop:=λ h=>h.CodeRec (.ref c) qual
def V5(P:Program)(w:World)(K:W.Frag)(mg:Str->Option Value)(base:Heap)(N:List Str)(qual:Str)(scope:Scope)(f:Addr)(cd:Value)(clos:List (Str×Addr))(A:Around)(outer:List Env)(s:Shared)(H:Hp):Cx where
 prog:=P
 w:=w
 K:=K
 mg:=mg
 base:=base
 A:=A.deeper (W.envX qual scope s.heap.objs.size f cd clos)
 N:=N
 s₀:=s
 H₀:=H
 env:=W.envX qual scope s.heap.objs.size f cd clos
 outer:=outer
 stack:=W.envX qual scope s.heap.objs.size f cd clos::outer
 ex:=[]
 calm:=true
 fn:=λ _=>false
 pn:=[]
 xe:=λ _ _=>False
structure LamScope(N ps:List Str)(sc:Scope)(clos:List (Str×Addr)):Prop where
 kind:sc.kind=.function
 co:sc.isCoroutine=false
 gen:sc.isGenerator=false
 nd:ps.Nodup
 pre:N.take ps.length=ps
 par:∀x∈ps,sc.names.lookup x=some .local
 nocell:∀y∈sc.names,y.2 ≠ .cell
 has:∀x,sc.names.lookup x=some .free->∃c,clos.lookup x=some c
 inj:∀x y c,clos.lookup x=some c->clos.lookup y=some c->x=y
def JI(base:Heap)(sc:Scope)(clos:List (Str×Addr))(N ps:List Str)(cs:List V):Prop :=
 N.length=ps.length+cs.length/\(∀x c,clos.lookup x=some c->∃v,base.IsCell c v) /\
 ∀i x v,N[ps.length+i]?=some x->cs[i]?=some v->sc.names.lookup x=some .free/\∃c u,clos.lookup x=some c/\base.IsCell c (some u)/\RelV v u
theorem yX:∀{ps:List Str}{us:List Value}{i:Nat}{x:Str}{u:Value},ps.Nodup->ps[i]?=some x->us[i]?=some u->((ps.zip us).reverse.lookup x)=some u:=by
 intro ps
 induction ps with
 |nil=>intro us i x u _ h;cases i<;>cases h
 |cons p ps ih =>
  intro us i x u nd h1 h2;cases us with
  |nil=>cases i<;>cases h2
  |cons w us =>
   rw[List.zip_cons_cons,Bb,List.lookup_append];cases i with
   |zero =>
    have e1:p=x:=Option.some.inj h1;have e2:w=u:=Option.some.inj h2;subst e1 e2;have hn:(ps.zip us).reverse.lookup p=none:=by
     rw[List.lookup_eq_none_iff];intro q hq;have hq':=List.mem_reverse.mp hq;have:=(nE (a:=q.1) (b:=q.2) hq').1;exact bne_iff_ne.mpr λ e=>(KE.mp nd).1 (by rw[e];exact this)
    rw[hn];simp
   |succ i =>
    have q:=ih (KE.mp nd).2 (by simpa using h1) (by simpa using h2);rw[q];rfl
theorem IY{f:Addr}{name qual:Str}{params:Arguments}{body:Expr}{sc:Scope}{clos:List (Str×Addr)}{pm ctv:Value}{c':Addr}{cs:List V}
  (ho:base.get? f=some (W.kla_obj name qual params body sc clos pm c' ctv)) (hcd:∀vs H Q E,sp vs H Q E->H c'=some (.ext (CW c' qual))) (S:LamScope N ps sc clos) (C:JI base sc clos N ps cs) (len:∀vs H Q E,sp vs H Q E->vs.length=ps.length)
  (hbody:∀(A:Around)(outer:List Env)(s:Shared)(H:Hp)(vs:List V)(Q:VK)(E:XK),Room k (A.deeper (W.envX qual sc s.heap.objs.size f (.ref c') clos))->sp vs H Q E ->
   ∃t,PE (V5 P w K mg base N qual sc f (.ref c') clos A outer s H) body t/\t (vs.map some++cs.map some) H Q) :
  FnOk P w K mg base B5 (k+1) f (W.kla_fn name qual params body sc clos pm (.ref c') ctv) ps sp:=by
 refine⟨len,λ A outer s H args us vs Q E hr e0 hb r hsp=>?_⟩;have hl:=len _ _ _ _ hsp;have bk:∀b o,base.get? b=some o->s.heap.get? b=some o:=λ b o e=>(e0.bs b o e).1
 have lim:s.heap.NoLimit:=e0.mod.nolimit.keeps bk;refine W.kla_callFunE hr.depth (bk _ _ ho) rfl S.co S.gen rfl (e0.hok c' _ (hcd _ _ _ _ hsp)).1 (hb _ _ _ _ ?_);refine wpAny_newFunctionEnv S.nocell (λ y hy=>S.par y.1 (nE (a:=y.1) (b:=y.2) hy).1) (λ h1 hn1 sb1=>?_) S.kind;have k1:∀b o,s.heap.get? b=some o->h1.get? b=some o:=λ b o e=>sb1.extBut b o (FZ (D1 e)) (DD _ e)
 refine⟨lim.keeps k1,W.kla_codeExpr ?_⟩;obtain⟨t,ht,hq⟩:=hbody A outer s H vs Q E (hr.deeper _) hsp;have ul:us.length=ps.length:=by rw[<- r.length];exact hl
 have I:Inv (V5 P w K mg base N qual sc f (.ref c') clos A outer s H) [] (vs.map some++cs.map some) H { s with heap:=h1,toks:=s.toks+(ps.zip us).length }:=by
  have noA:∀b:Addr,b∉(V5 P w K mg base N qual sc f (.ref c') clos A outer s H).ex:=λ b z=>absurd (show b∈([]:List Addr) from z) (by simp)
  have cl:∀x c,clos.lookup x=some c->∃v,base.IsCell c v:=C.2.1;refine⟨⟨e0.mod,S.kind,rfl,rfl,BU _,S.inj,λ y hy=>?_,λ _ _ z=>(nomatch z),λ _=>hr.hd,Around.frames_deeper e0.frames,.inr ⟨rfl,rfl⟩,λ b z=>absurd z (noA b),e0.bs,e0.bsz,λ b _ _=>noA b,λ b z=>absurd z (noA b),e0.funs,e0.frf⟩,
   rfl,e0.bare,Un.kept k1,⟨_,hn1,λ i y v h1' h2 h3=>?_⟩,λ y c h=>?_,e0.hok.fresh (BU _),λ y c h=>?_,λ p hp=>absurd (show p∈([]:List (Addr×Obj)) from hp) (by simp),e0.hok.kept k1,?_⟩
  ·have hy:sc.names.lookup y=some .cell\/sc.names.lookup y=some .free:=hy;rcases hy with hy|hy
   ·exact absurd rfl (S.nocell _ (PySem.mem_of_lookup hy))
   ·exact S.has y hy
  ·by_cases hi:i<vs.length
   ·rw[GF (by simpa using hi),EH] at h2;have ha:vs[i]?=some v:=by
     cases e:vs[i]? with
     |none=>rw[e] at h2;cases h2
     |some a=>rw[e] at h2;cases h2;rfl
    obtain⟨u,hu,rv⟩:=r.get ha;have hp:ps[i]?=some y:=by
     rw[<- S.pre,qW ⋯];exact h1'
    exact⟨u,rv,.inl ⟨S.par y (DL hp),yX S.nd hp hu⟩⟩
   ·rw[GM (by simpa using hi),EH,BY] at h2;have ha:cs[i-vs.length]?=some v:=by
     cases e:cs[i-vs.length]? with
     |none=>rw[e] at h2;cases h2
     |some a=>rw[e] at h2;cases h2;rfl
    have hN:N[ps.length+(i-vs.length)]?=some y:=by
     rw[<- hl,show vs.length+(i-vs.length)=i by omega];exact h1'
    obtain⟨fr,c,u,e1,e2,rv⟩:=C.2.2 _ y v hN ha;exact⟨u,rv,.inr ⟨.inr fr,c,e1,(e2.keeps bk).keeps k1⟩⟩
  ·obtain⟨v,q⟩:=cl y c h;exact⟨v,(q.keeps bk).keeps k1⟩
  ·obtain⟨v,o,q,_⟩:=cl y c h;exact(e0.bs _ _ q).2
  ·show(vs.map some++cs.map some).length=N.length;rw[G2,BY,BY,C.1,hl]
 refine wpAny_mono (ht [] _ _ H Q I hq) (λ u s' hs=>?_) λ _ _ z=>z.elim
 obtain⟨v,H',J,rv,q⟩:=hs;exact⟨v,H',J.os,J.bare,J.base,J.hok,rv,q⟩
def TabOk(H:Hp)(P:Addr)(pos:Pos)(qual:Str):Prop :=
 ∃ps:Array Value,H P=some (.tbl ps)/\TriplesOk ps.toList/\(codeAmong pos ps.toList=none\/∃c,codeAmong pos ps.toList=some (.ref c)/\H c=some (.ext (CW c qual)))
def SameT(P:Addr)(H H':Hp):Prop:=∀b o,H b=some o->b≠P->H' b=some o
def ES(mg:Str->Option Value)(base:Heap):Prop:=∃bm ob,mg "__builtins__"=some (.ref bm)/\bm≠builtinsNs/\base.get? bm=some ob/\ob.cls=.type "module" /\ ob.dict=some builtinsNs/\ob.data=.plain
def HI(X:Cx)(H:Hp)(h:Heap):Heap:=W.hideAll h (iC h H++JM X.stack)
theorem LR{h:Heap}:b∈iC h H↔b<h.objs.size/\(H b).isSome=true:=by
 unfold iC;rw[uC,jZ]
theorem OV(e:s.heap.get? b=some o)(n:H b=none)(nf:b∉JM X.stack):(HI X H s.heap).get? b=some o :=
 W.hideAll_get _ e λ z=>by
  rcases EW.mp z with z|z
  ·have:=(LR.mp z).2;rw[n] at this;cases this
  ·exact nf z
theorem VJ(e:(HI X H s.heap).get? b=some o):s.heap.get? b=some o/\H b=none:=by
 have e1:=W.of_hideAll _ e;refine⟨e1,?_⟩;cases q:H b with
 |none=>rfl
 |some u =>
  have:(HI X H s.heap).get? b=none:=W.hideAll_none _ (K3 _ (LR.mpr ⟨D1 e1,by rw[q];rfl⟩));rw[this] at e;cases e
theorem Inv.base_fixed(I:Inv X pins σ H s):∀b o,X.base.get? b=some o->(HI X H s.heap).get? b=some o:=λ b o e=>by
 obtain⟨e1,n⟩:=I.bs b o e;refine OV e1 n λ z=>?_
 have:=(I.stack.mem z).1;rw[this] at e;cases e
theorem Inv.env_fixed(I:Inv X pins σ H s):Env0 X.prog X.w X.K X.mg (HI X H s.heap) X.A X.stack s H:=by
 have k:=I.base_fixed;obtain⟨mb,h1,h2⟩:=I.mod.blt;refine⟨I.ok.frames,⟨I.mod.kin.keeps k,I.mod.glob.keeps k,⟨mb,h1.keeps k,h2⟩,I.mod.nolimit.keeps k⟩,λ b o e=>VJ e,rM (W.hideAll_size _ _),?_,I.stkFree,I.hok,I.bare⟩;refine W.funFrames_hide I.stack λ env he a ha=>GR _ ?_
 exact sY.mpr ⟨env,he,ha⟩
inductive tLam(i:Nat)(P:Addr)(pos:Pos)(qual:Str)(te:TE)(spG:V->Addr->Addr->Sp)(σ:St)(H:Hp)(Q:VK):Prop
 |mk (v:_):σ[i]?=some (some v)->(te σ H λ w H1=>TabOk H1 P pos qual/\∀fl c' H2,SameT P H1 H2->TabOk H2 P pos qual->H2 c'=some (.ext (CW c' qual))->spG v fl c' [w,.ref fl] H2 Q E0)->tLam i P pos qual te spG σ H Q
section
variable {y:Str}{g c P cy:Addr}{gd:FuncData}{ps2:List Str}{spG:V->Addr->Addr->Sp}{e1 body:Expr}{params:Arguments}{sc:Scope}{lpos:Pos}{clos:List (Str×Addr)}
theorem gT(i:Nat)(hr:Room k X.A)(hg:Gl X x)(hm:X.mg x=some (.ref g))(hk:W.keepIn X.K (.ref g)=true)(hbG:Binds X.K gd ps2 [])(hl2:ps2.length=2)(hcode:X.env.code=.ref c)(hC:W.CodeHd X.base c P)(hB:ES X.mg X.base)
  (hcl:closureFor sc X.env=pure clos) (hN:X.N[i]?=some y) (hky:X.env.kindOf y=some .cell) (hvy:QZ X.env.scope y) (hcy:X.env.cells.lookup y=some cy) (hfy:X.fn y=true) (hcly:clos.lookup y=some cy) (honly:∀z d,clos.lookup z=some d->z=y/\d=cy) (hNp:N=ps++[y]) (hsy:sc.names.lookup y=some .free)
  (h1:PE X e1 te)
  (G:∀(base':Heap)(fl c':Addr)(v:V)(pm ctv:Value),base'.get? fl=some (W.kla_obj "<lambda>" (X.env.qual++"<lambda>") params body sc clos pm c' ctv)->JI base' sc clos N ps [v]->FnOk X.prog X.w X.K X.mg base' B5 k g gd ps2 (spG v fl c'))
  (hdb:(x==("__debug__":Str))=false:=by decide) (hdef:defaultsOf params X.env=([],[]):=by rfl)
  (he:starEach [e1,.Lambda params body sc lpos] X.env=(false,eval e1 X.env)::starEach [.Lambda params body sc lpos] X.env:=by rfl) (he2:starEach [.Lambda params body sc lpos] X.env=(false,eval (.Lambda params body sc lpos) X.env)::starEach [] X.env:=by rfl)
  (hpl:(backTo pos (starEach [.Lambda params body sc lpos] X.env)).any (·.1)=false:=by rfl) :
  PE X (.Call (.Name x p) [e1,.Lambda params body sc lpos] [] pos) (tLam i P lpos (X.env.qual++"<lambda>") te spG):=by
 intro pins s σ H Q I h;obtain⟨v,hv,h⟩:=h;refine wpAny_Call_Name_kw (SH I hg hm ?_ hdb);refine W.callWith_K (h₀:=X.base) I.ok.mod.kin hk ?_ he hpl;rw[he];show wpAny _ _ (spliced ((false,eval e1 X.env)::backTo pos (starEach [.Lambda params body sc lpos] X.env))) _ _ s;refine Calls.spliced_cons (B3 (h1 pins s σ H _ I h) λ u1 s1 z9=>?_);obtain⟨w1,H1,I1,r1,tab,q1⟩ := z9;rw[he2];show wpAny _ _ (spliced ((false,eval (.Lambda params body sc lpos) X.env)::backTo pos (starEach [] X.env))) _ _ s1;refine Calls.spliced_cons (W.kla_eval hdef ?_);have cellAt:∀{H2:Hp}{s2:Shared},Inv X pins σ H2 s2->∃u,RelV v u/\s2.heap.IsCell cy (some u):=λ {H2 s2} J=>by
  obtain⟨m,_,hl⟩:=J.loc;obtain⟨u,ru,lk⟩:=hl i y v hN hv hvy;rcases lk with⟨z,_⟩|⟨_,d,e',q⟩
  ·rw[hky] at z;cases z
  ·rw[hcy] at e';cases e';exact⟨u,ru,q⟩
 have fin:∀(fl c':Addr)(pm ctv:Value)(H2:Hp)(s2:Shared),Inv X pins σ H2 s2->SameT P H1 H2->TabOk H2 P lpos (X.env.qual++"<lambda>")->H2 c'=some (.ext (CW c' (X.env.qual++"<lambda>"))) ->
   s2.heap.get? fl=some (W.kla_obj "<lambda>" (X.env.qual++"<lambda>") params body sc clos pm c' ctv)->H2 fl=none->fl∉JM X.stack ->
   wpAny (model X.prog X.w) X.A (spliced (backTo pos (starEach [] X.env))) (λ vs s3=>X.K.In s3.heap/\wpAny (model X.prog X.w) X.A (call (.ref g) ([]++(u1 :: .ref fl::vs))) (EP X pins σ Q) X.xe s3) X.xe s2:=by
  intro fl c' pm ctv H2 s2 I2 sm tb hc' hfl nfl nfs;refine Calls.spliced_nil ⟨I2.kIn,?_⟩;have hb1:=OV (X:=X) hfl nfl nfs;obtain⟨u,ru,oc,q1c,q2c⟩:=cellAt I2;have nc:cy∉JM X.stack:=λ z=>by
   rcases C6.mp (I2.stkSub cy z) with e|e
   ·exact I2.cne y cy hcy e
   ·have lo:=I2.ok.cab y cy hfy hcy;obtain⟨_,o,eo,_⟩:=I2.ok.funs.mem e;exact absurd (HP (D1 eo) lo) (OY _)
  have hb2:=OV (X:=X) q1c (I2.freeC y cy hcy) nc;have ca:JI (HI X H2 s2.heap) sc clos N ps [v]:=by
   refine⟨by rw[hNp,G2];rfl,λ z d e=>?_,λ j z v' e1 e2=>?_⟩
   ·obtain⟨rfl,rfl⟩:=honly z d e;exact⟨some u,oc,hb2,q2c⟩
   ·cases j with
    |zero =>
     have e3:v=v':=Option.some.inj e2;subst e3;have e4:y=z:=by
      rw[hNp,Nat.add_zero,GM (BU _),gC] at e1;exact Option.some.inj e1
     subst e4;exact⟨hsy,cy,u,hcly,⟨oc,hb2,q2c⟩,ru⟩
    |succ j=>cases e2
  have F:=G _ fl c' v pm ctv hb1 ca;have hsp:=q1 fl c' H2 sm tb hc';have bnd:BindsTo s2 gd ⟨[u1,.ref fl],[]⟩ (ps2.zip [u1,.ref fl]):=by
   have:=hbG s2 [u1,.ref fl] I2.kIn (by rw[hl2];rfl)
   simpa using this
  refine wpAny_call (codeAny_mono (F.run X.A X.stack s2 H2 ⟨[u1,.ref fl],[]⟩ [u1,.ref fl] [w1,.ref fl] Q E0 hr I2.env_fixed bnd (.cons r1 (.cons rfl .nil)) hsp) λ r s' hq=>?_);cases r with
  |error e=>exact False.elim hq
  |ok fl' =>
   cases fl' with
   |ret u=>exact I2.after hq
   |next=>exact False.elim hq
   |brk=>exact False.elim hq
   |cont=>exact False.elim hq
 obtain⟨bm,ob,b1,b2,b3,b4,b5,b6⟩:=hB;obtain⟨ps0,hP,ht,hor⟩:=tab;have hPo:s1.heap.get? P=some (W.tabObj ps0):=I1.hok P _ hP;have notP:∀b o,X.base.get? b=some o->b≠P:=λ b o e z=>by
  have:=(I1.bs b o e).2;rw[z,hP] at this;cases this
 obtain⟨og,esg,epg,eg,dg,rg⟩:=I1.mod.glob;have hbA:s1.heap.BuiltinsAt X.mg P:=⟨bm,ob,b1,b2,(λ z=>by rw[z,eg] at b3;cases b3;rw[b6] at dg;cases dg),notP _ _ b3,I1.bk _ _ b3,b4,b5,b6⟩
 have gl:s1.heap.Ns mainGlobals X.mg:=I1.mod.glob.keeps I1.bk;rcases hor with hnf|⟨c',hf,hc'⟩
 ·refine W.kla_makeFunction (mg:=X.mg) hcl I1.ok.glob gl hcode (hC.keeps I1.bk) hPo ht hnf (notP _ _ eg) hbA λ c' ctv h' tk hx hge hlt hrec htb=>?_
  have ltP:P<s1.heap.objs.size:=D1 hPo;have neP:P≠c':=FZ (HP ltP hge);have nc':H1 c'=none:=I1.hok.fresh hge;have old:∀b o,b≠P->s1.heap.get? b=some o->(h'.push (W.kla_obj "<lambda>" (X.env.qual++"<lambda>") params body sc clos ((X.mg "__name__").getD .none) c' ctv)).get? b=some o:=λ b o n e=>DD _ (hx b o n e)
  have kP:∀b o,H1 b=some o->(∀z,o ≠ .tbl z)->b≠P:=λ b o e n z=>by rw[z,hP] at e;exact n ps0 (Option.some.inj e).symm
  have up:∀b o,H1 b=some o->b≠P->AD (AD H1 c' (.ext (CW c' (X.env.qual++"<lambda>")))) P (.tbl (ps0 ++ #[rawInt lpos.line,rawInt lpos.col,.ref c'])) b=some o:=λ b o e n=>by
   rw[AJ n,AJ (DW e nc')];exact e
  have upN:∀b,H1 b=none->b≠c'->AD (AD H1 c' (.ext (CW c' (X.env.qual++"<lambda>")))) P (.tbl (ps0 ++ #[rawInt lpos.line,rawInt lpos.col,.ref c'])) b=none:=λ b e n=>by
   rw[AJ (λ z=>by rw[z,hP] at e;cases e),AJ n];exact e
  have u:Un X.fs [] H1 (AD (AD H1 c' (.ext (CW c' (X.env.qual++"<lambda>")))) P (.tbl (ps0 ++ #[rawInt lpos.line,rawInt lpos.col,.ref c']))) s1.heap (h'.push (W.kla_obj "<lambda>" (X.env.qual++"<lambda>") params body sc clos ((X.mg "__name__").getD .none) c' ctv)):=by
   have nP:∀b,H1 b=none->b≠P:=λ b n z=>by rw[z,hP] at n;cases n
   refine⟨λ b o e n _ _=>old b o (nP b n) e,λ b o e n _ _=>⟨o.slots,old b o (nP b n) e⟩,λ b o e n _=>upN b n (FZ (HP (D1 e) hge)),λ b o e _=>?_,λ b xs e=>up b _ e (kP b _ e λ _ z=>nomatch z),λ b o w e=>up b _ e (kP b _ e λ _ z=>nomatch z),λ b pz e=>?_⟩
   ·by_cases hb:b=P
    ·rw[hb];exact⟨_,DD _ htb⟩
    ·exact⟨o,old b o hb e⟩
   ·by_cases hb:b=P
    ·rw[hb] at e ⊢;rw[hP] at e;cases e;exact⟨_,AI⟩
    ·exact⟨#[],by rw[up b _ e hb];simp⟩
  have hok:HOk X.prog X.w (AD (AD H1 c' (.ext (CW c' (X.env.qual++"<lambda>")))) P (.tbl (ps0 ++ #[rawInt lpos.line,rawInt lpos.col,.ref c']))) (h'.push (W.kla_obj "<lambda>" (X.env.qual++"<lambda>") params body sc clos ((X.mg "__name__").getD .none) c' ctv)):=by
   intro b o e
   by_cases hb:b=P
   ·rw[hb,AI] at e;cases e;rw[hb];exact DD _ htb
   ·rw[AJ hb] at e
    by_cases hb2:b=c'
    ·rw[hb2,AI] at e;cases e;rw[hb2];obtain⟨c2,oc,vs,tq,ee,hoc,C3⟩:=hrec;cases ee;refine⟨⟨_,oc,vs,tq,U,DD _ hoc,C3⟩,⟨oc,DD _ hoc⟩,λ h1 h2 hq hk=>?_⟩;obtain⟨c3,o3,v3,t3,e3,g3,r3⟩:=hq;cases e3;exact⟨_,o3,v3,t3,U,hk _ g3,r3⟩
    ·rw[AJ hb2] at e;refine(I1.hok b o e).stay (λ d z hd q=>old d z ?_ q) (λ d q=>up d _ q (kP d _ q λ _ z=>nomatch z)) λ d xs q=>up d _ q (kP d _ q λ _ z=>nomatch z)
     rcases hd with hd|hd
     ·rw[hd];exact hb
     ·exact kP d _ hd λ _ z=>nomatch z
  have I2:=I1.un (t':=tk) u hok;refine fin h'.objs.size c' _ ctv _ _ I2 (λ b o e n=>up b o e n) ⟨_,AI,?_,.inr ⟨c',?_,?_⟩⟩ ?_ (FF _ rfl) ?_ ?_
  ·have:=TriplesOk_snoc lpos.line lpos.col (.ref c') ps0.toList ht
   simpa using this
  ·have:=codeAmong_snoc (pos:=lpos) (c:=.ref c') ps0.toList ht hnf
   simpa using this
  ·rw[AJ neP.symm,AI]
  ·rw[AJ neP.symm,AI]
  ·refine upN _ (I1.hok.fresh (FB hge (RS hlt))) (nK hlt)
  ·exact λ z=>by
    rcases C6.mp (I1.stkSub _ z) with e|e
    ·exact absurd (I1.lt) (by rw[<- e];exact VX.mpr (FB hge (RS hlt)))
    ·exact I1.nofs (FB hge (RS hlt)) e
 ·refine W.kla_makeFunctionHit (mg:=X.mg) hcl I1.ok.glob gl hcode (hC.keeps I1.bk) hPo ht hf hbA λ ctv h' tk hk hsz=>?_
  have I2:Inv X pins σ H1 { s1 with heap:=h'.push { cls:=.type "function",data:=.func (W.kla_fn "<lambda>" (X.env.qual++"<lambda>") params body sc clos ((X.mg "__name__").getD .none) (.ref c') ctv) },toks:=tk }:=I1.kept (t':=tk) λ b o e=>DD _ (hk b o e)
  refine fin h'.objs.size c' _ ctv H1 _ I2 (λ b o e _=>e) ⟨ps0,hP,ht,.inr ⟨c',hf,hc'⟩⟩ hc' (FF _ rfl) (I1.hok.fresh hsz) ?_;exact λ z=>by
   rcases C6.mp (I1.stkSub _ z) with e|e
   ·exact absurd (I1.lt) (by rw[<- e];exact VX.mpr hsz)
   ·exact I1.nofs hsz e
end
theorem NZ{mb:Str->Option Value}{fa:Addr}{s₁:Shared}{vs:List Value}{ns:List Int}{tabs:List (Addr×Addr)}
  (KX:K.In s₁.heap) (hns:s₁.heap.Ns mainGlobals mg) (hb:s₁.heap.Ns builtinsNs mb) (hbb:∀x:Str,x≠"__name__" -> mb x=bootBuiltins x) (hlim:s₁.heap.NoLimit) (hg:s₁.gens=#[])
  (ha:s₁.heap.get? a=some { cls:=.type "list",data:=.seq vs.toArray }) (hi:IntsAre vs ns) (hl:ns.length<=sizeLine) (hr:Room k callerA) (hBM:ES mg s₁.heap)
  (hT:∀q∈tabs,W.CodeHd s₁.heap q.1 q.2/\s₁.heap.get? q.2=some (W.tabObj #[])/\K.lookup q.2=none)
  (F:∀base:Heap,K.In base->base.Ns mainGlobals mg->ES mg base->(∀q∈tabs,W.CodeHd base q.1 q.2)->FnOk P w K mg base B5 k fa fd [x] sp) (hbind:∀(s:Shared)(u:Value),BindsTo s fd ⟨[u],[]⟩ [(x,u)])
  (hsp:∀H:Hp,(∀q∈tabs,H q.2=some (.tbl #[]))->SqL K H a (ns.map V.int)->sp [.ref a] H (λ v _=>v=.bl true) λ _ _ _=>False) :
  codeAny (model P w) callerA (.call (.ref fa) ⟨[.ref a],[]⟩) (λ r s'=>r=.ok (.ret (.bool true))/\OldK s₁.heap s'.heap/\s'.os=s₁.os/\AllBare s'.gens) s₁:=by
 have rv:=oI hi;have lenV:=hi.length;have aT:∀q∈tabs,q.2≠a:=λ q hq z=>by
  have:=(hT q hq).2.1;rw[z,ha] at this;cases this
 have core:∀H:Hp,(∀b,H b=none\/(b=a/\K.lookup a=none/\H b=some (.frz { cls:=.type "list",data:=.seq vs.toArray } (.lst (ns.map V.int))))\/∃q∈tabs,b=q.2/\H b=some (.tbl #[]))->(∀q∈tabs,H q.2=some (.tbl #[]))->SqL K H a (ns.map V.int) ->
   codeAny (model P w) callerA (.call (.ref fa) ⟨[.ref a],[]⟩) (λ r s'=>r=.ok (.ret (.bool true))/\OldK s₁.heap s'.heap/\s'.os=s₁.os/\AllBare s'.gens) s₁:=by
  intro H hO hTb hS;have hok:HOk P w H s₁.heap:=λ b u z=>by
   rcases hO b with e|⟨e,_,e2⟩|⟨q,hq,e,e2⟩
   ·rw[e] at z;cases z
   ·rw[e2] at z;cases z;subst e;exact⟨ha,by rw[BY];exact hl,vs,_,rv,ha⟩
   ·rw[e2] at z;cases z;rw[e];exact(hT q hq).2.1
  have base_of:∀{b:Addr}{o:Obj},s₁.heap.get? b=some o->H b=none->(HH s₁.heap H).get? b=some o:=λ e n=>VH e n
  have unt:∀{b:Addr}{o:Obj},s₁.heap.get? b=some o->o.cls ≠ .type "list" -> o.cls ≠ .none->H b=none:=λ {b o} e n1 n2=>by
   rcases hO b with z|⟨z,_,_⟩|⟨q,hq,z,_⟩
   ·exact z
   ·rw[z,ha] at e;cases e;exact absurd rfl n1
   ·rw[z,(hT q hq).2.1] at e;cases e;exact absurd rfl n2
  have noA:∀{b:Addr}{o:Obj}{es:Array DictEntry}{ep:Nat},s₁.heap.get? b=some o->o.data=.dict es ep->H b=none:=λ {b o es ep} e d=>by
   rcases hO b with z|⟨z,_,_⟩|⟨q,hq,z,_⟩
   ·exact z
   ·rw[z,ha] at e;cases e;cases (show Data.seq vs.toArray _=Data.dict es ep from d)
   ·rw[z,(hT q hq).2.1] at e;cases e;cases (show Data.fields _=Data.dict es ep from d)
  have nsK:∀{b:Addr}{m:Str->Option Value},s₁.heap.Ns b m->(HH s₁.heap H).Ns b m:=λ {b m} ⟨o,es,ep,e,d,r⟩=>⟨o,es,ep,base_of e (noA e d),d,r⟩
  have hKb:K.In (HH s₁.heap H):=λ b o e=>base_of (KX b o e) (by
   rcases hO b with z|⟨z,zk,_⟩|⟨q,hq,z,_⟩
   ·exact z
   ·rw[z,zk] at e;cases e
   ·rw[z,(hT q hq).2.2] at e;cases e)
  have hM:Mod K mg (HH s₁.heap H):=⟨hKb,nsK hns,⟨mb,nsK hb,hbb⟩,let ⟨mc,h1,h2⟩:=hlim;⟨mc,nsK h1,h2⟩⟩
  have hB2:ES mg (HH s₁.heap H):=by
   obtain⟨bm,ob,b1,b2,b3,b4,b5,b6⟩:=hBM;exact⟨bm,ob,b1,b2,base_of b3 (unt b3 (by rw[b4];decide) (by rw[b4];intro z;cases z)),b4,b5,b6⟩
  have hC2:∀q∈tabs,W.CodeHd (HH s₁.heap H) q.1 q.2:=λ q hq=>by
   obtain⟨o,vs',file,tf,flags,tg,inF,text,tt,e1,r1,r⟩:=(hT q hq).1;exact⟨o,vs',file,tf,flags,tg,inF,text,tt,base_of e1 (unt e1 (by rw[r1];decide) (by rw[r1];intro z;cases z)),r1,r⟩
  have e0:Env0 P w K mg (HH s₁.heap H) callerA [] s₁ H:=⟨rfl,hM,λ b o e=>aH e,rM (P8 _ _),trivial,λ b hb=>absurd (show b∈([]:List Addr) from hb) (by simp),hok,.of_eq hg⟩
  refine codeAny_mono ((F _ hKb (nsK hns) hB2 hC2).run callerA [] s₁ H ⟨[.ref a],[]⟩ [.ref a] [.ref a] _ _ hr e0 (hbind s₁ (.ref a)) (.cons rfl .nil) (hsp H hTb hS)) λ r s' h=>?_
  cases r with
  |error e=>exact False.elim h
  |ok fl =>
   cases fl with
   |next=>exact False.elim h
   |brk=>exact False.elim h
   |cont=>exact False.elim h
   |ret u =>
    obtain⟨v,H',os,bare,un,hok',r',q⟩:=h;have q':v=.bl true:=q;subst q';obtain rfl:u=Value.bool true:=r';have at_:∀b o,s₁.heap.get? b=some o->s'.heap.get? b=some o\/∃q∈tabs,b=q.2/\∃more,s'.heap.get? b=some (W.tabObj (#[]++more)):=λ b o e=>by
     rcases hO b with z|⟨z,_,z2⟩|⟨q,hq,z,z2⟩
     ·exact .inl (un.keep b o e z (by intro z;exact absurd (show b∈([]:List Addr) from z) (by simp)) (by simp))
     ·have z3:=un.frzs b _ _ z2;obtain⟨e2,_⟩:=hok' b _ z3;rw[z,ha] at e;cases e;exact .inl e2
     ·obtain⟨more,z3⟩:=un.tbls b _ z2;exact .inr ⟨q,hq,z,more,hok' b _ z3⟩
    refine⟨U,⟨λ b o e=>?_,λ b o e=>?_⟩,os,bare⟩
    ·rcases at_ b o e with z|⟨q,hq,z,more,z2⟩
     ·exact .inl z
     ·have e2:=(hT q hq).2.1;rw[<- z,e] at e2;cases e2;refine .inr (.inl ⟨?_,rfl,#[],more,rfl,z2⟩);rw[z];exact((hT q hq).1.tab (hT q hq).2.1).isCodeTable
    ·rcases at_ b o e with z|⟨q,hq,z,more,z2⟩
     ·exact⟨_,z⟩
     ·exact⟨_,z2⟩
 cases hk:K.lookup a with
 |some o =>
  have e:=KX a o hk;rw[ha] at e;cases e;refine core (λ b=>if b∈tabs.map (·.2) then some (.tbl #[]) else none) (λ b=>?_) (λ q hq=>if_pos (zU hq)) (.inr ⟨_,vs.toArray,_,hk,rfl,rfl,rfl,by rw[GC,lenV];exact hl,by simpa using rv⟩)
  by_cases hb:b∈tabs.map (·.2)
  ·obtain⟨q,hq,e⟩:=DT.mp hb;exact .inr (.inr ⟨q,hq,e.symm,if_pos hb⟩)
  ·exact .inl (if_neg hb)
 |none =>
  have na:a∉tabs.map (·.2):=λ z=>by
   obtain⟨q,hq,e⟩:=DT.mp z;exact aT q hq e
  refine core (λ b=>if b∈tabs.map (·.2) then some (.tbl #[]) else if b=a then some (.frz { cls:=.type "list",data:=.seq vs.toArray } (.lst (ns.map V.int))) else none) (λ b=>?_) (λ q hq=>if_pos (zU hq)) (.inl (.inr ⟨{ cls:=.type "list",data:=.seq vs.toArray },?_⟩))
  ·by_cases hb:b∈tabs.map (·.2)
   ·obtain⟨q,hq,e⟩:=DT.mp hb;exact .inr (.inr ⟨q,hq,e.symm,if_pos hb⟩)
   ·by_cases hb2:b=a
    ·exact .inr (.inl ⟨hb2,hk,by rw[if_neg hb,if_pos hb2]⟩)
    ·exact .inl (by rw[if_neg hb,if_neg hb2])
  ·show(if a∈tabs.map (·.2) then _ else _)=_;rw[if_neg na,if_pos rfl]
theorem walk_ofT{l:W.OpenLaw}{q:Program}{loose:List Str}{XP:(Str->Option Value)->Heap->Prop}{YP:World->Heap->Prop}{d:DefRec}{K:Params->W.Frag}{sp:W.Frag->List (Addr×Addr)->Sp}
  (hn:l.most=some n) (hn2:n<=sizeLine) (hdf:d.params.defaults=[]) (hr:Room k callerA)
  (hY:∀(w:World)(h:Heap),YP w h->(K w.params).In h)
  (F:∀(w:World)(mg mb:Str->Option Value)(mean:ExcName->Option Value)(fa:Addr)(h:Heap),(K w.params).In h->Top q (W.looseW q loose) mean mg mb h->mg d.name=some (.ref fa) ->
   ∃(fd:FuncData) (tabs:List (Addr×Addr)),(∀(s:Shared)(u:Value),BindsTo s fd ⟨[u],[]⟩ [(x,u)])/\(∀t∈tabs,W.CodeHd h t.1 t.2/\h.get? t.2=some (W.tabObj #[])/\(K w.params).lookup t.2=none) /\
    ∀base:Heap,(K w.params).In base->base.Ns mainGlobals mg->ES mg base->(∀t∈tabs,W.CodeHd base t.1 t.2)->FnOk l.prog w (K w.params) mg base B5 k fa fd [x] (sp (K w.params) tabs))
  (hsp:∀(K:W.Frag) (tabs:List (Addr×Addr)) (H:Hp) (a:Addr) (ns:List Int),ns.length<=n->(∀t∈tabs,H t.2=some (.tbl #[]))->SqL K H a (ns.map V.int)->sp K tabs [.ref a] H (λ v _=>v=.bl true) λ _ _ _=>False) :
  W.WalkO q loose XP YP l.row.toRowW d [] (λ f vs=>PySem.call f vs):=by
 refine Att.attach_call hn hdf λ w s₀ s₁ mg mb fa o pm cd doc a vs ns G Y ho hd hcd hmg hobj hints hlen hg=>?_
 have KX:=hY w _ Y;obtain⟨fd,tabs,hb,hT,hF⟩:=F w mg mb _ fa _ KX G.T hmg;obtain⟨bm,ob,b1,b2,b3,b4,b5,b6⟩:=G.T.bmain;exact NZ KX G.T.g G.T.b G.T.builtins G.T.nolimit hg hobj hints (FB hlen hn2) hr ⟨bm,ob,b1,b2,b3,b4,b5,b6⟩ hT hF hb (λ H hTb hS=>hsp _ _ H a ns hlen hTb hS)
theorem Inv.turnedL{H':Hp}{ch:List Addr}(I:Inv X pins σ H s)(hf:∀b∈ch,FK X pins H b)(k:∀b o,b∉ch->s.heap.get? b=some o->h'.get? b=some o)
  (up:∀b o,H b=some o->H' b=some o) (no:∀b o,s.heap.get? b=some o->H b=none->H' b=none) (new:∀b o,H b=none->H' b=some o->ObjOk X.prog X.w H' h' b o):Inv X pins σ H' { s with heap:=h' }:=by
 have tr:∀b o,H b=some o->b∉ch:=λ b o e z=>by rw[(hf b z).1] at e;cases e
 refine I.call (s:=s) (h':=h') (g':=s.gens) (d':=s.drawn) (t':=s.toks) (ch:=ch) ⟨λ b o e _ _ hx=>k b o hx e,λ b o e _ _ hx=>⟨o.slots,k b o hx e⟩,λ b o e n _=>no b o e n,λ b o e hx=>⟨o,k b o hx e⟩,λ b xs e=>up b _ e,λ b o u e=>up b _ e,λ b ps e=>⟨#[],by rw[up b _ e];simp⟩⟩ (λ b o e=>?_) I.bare λ b hb=>?_
 ·cases q:H b with
  |none=>exact new b o q e
  |some o2 =>
   have e2:=up b o2 q;rw[e] at e2;cases e2;refine(I.hok b o q).stay (λ c v hc q2=>k c v ?_ q2) (λ c q2=>up c _ q2) λ c xs q2=>up c _ q2
   rcases hc with hc|hc
   ·rw[hc];exact tr b o q
   ·exact tr c _ hc
 ·obtain⟨_,f1,_,f3,f4,f5⟩:=hf b hb;exact⟨f3,f1,f4,f5⟩
theorem VA:bootBuiltins "zip"=some (.type "zip"):=by decide +kernel
section
variable {xs ys:List V}
end
section
variable {o a:Expr}{to:TE}{apos:Pos}
end
end L2
namespace Ma
variable {P d lo t x y:Int}{R:List T3}{w:T3}
abbrev T4:=Int×Int×Bool×Int
def btS(d t:Int)(best:Option Int)(w:T3):Option Int :=
 match best with
 |none=>some (nextO d w.1 w.2.1 t+w.2.2)
 |some b=>if nextO d w.1 w.2.1 t+w.2.2<b then some (nextO d w.1 w.2.1 t+w.2.2) else some b
def bt(d:Int)(R:List T3)(t:Int):Option Int:=R.foldl (btS d t) none
theorem bt_nil(d t:Int):bt d [] t=none:=rfl
theorem bt_snoc(d:Int)(R:List T3)(w:T3)(t:Int):bt d (R++[w]) t=btS d t (bt d R t) w:=by
 unfold bt;rw[kH];rfl
structure IsMin(d t:Int)(R:List T3)(y:Int):Prop where
 at_:∃w∈R,y=nextO d w.1 w.2.1 t+w.2.2
 le:∀w∈R,y<=nextO d w.1 w.2.1 t+w.2.2
theorem IsMin.uniq{y':Int}(h:IsMin d t R y)(h':IsMin d t R y'):y=y':=by
 obtain⟨w,hw,e⟩:=h.at_;obtain⟨w',hw',e'⟩:=h'.at_;have:=h.le w' hw';have:=h'.le w hw;omega
theorem LY(d t:Int):∀(R:List T3)(best:Option Int),(best=none/\R=[]/\R.foldl (btS d t) best=none) \/
  ∃y,R.foldl (btS d t) best=some y/\(best=some y\/∃w∈R,y=nextO d w.1 w.2.1 t+w.2.2)/\(∀b,best=some b->y<=b)/\∀w∈R,y<=nextO d w.1 w.2.1 t+w.2.2
 | [],none=>.inl ⟨rfl,rfl,rfl⟩
 | [],some b=>.inr ⟨b,rfl,.inl rfl,λ b' e=>by cases e;exact DY _,λ w hw=>by cases hw⟩
 |w::R,best=>by
  rw[kN];rcases LY d t R (btS d t best w) with⟨e,_⟩|⟨y,e1,e2,e3,e4⟩
  ·cases best with
   |none=>cases e
   |some b =>
    simp only[btS] at e;split at e<;>cases e
  ·refine .inr ⟨y,e1,?_,λ b hb=>?_,λ u hu=>?_⟩
   ·rcases e2 with e2|⟨u,hu,e2⟩
    ·cases best with
     |none =>
      cases e2;exact .inr ⟨w,EZ ..,rfl⟩
     |some b =>
      simp only[btS] at e2;split at e2
      ·cases e2;exact .inr ⟨w,EZ ..,rfl⟩
      ·cases e2;exact .inl rfl
    ·exact .inr ⟨u,ER _ hu,e2⟩
   ·subst hb
    by_cases c:nextO d w.1 w.2.1 t+w.2.2<b
    ·have:=e3 _ (by simp only[btS];rw[if_pos c]);omega
    ·exact e3 _ (by simp only[btS];rw[if_neg c])
   ·rcases C6.mp hu with rfl|hu
    ·cases best with
     |none=>exact e3 _ rfl
     |some b =>
      by_cases c:nextO d u.1 u.2.1 t+u.2.2<b
      ·exact e3 _ (by simp only[btS];rw[if_pos c])
      ·have:=e3 b (by simp only[btS];rw[if_neg c]);omega
    ·exact e4 u hu
theorem bt_spec(d t:Int)(R:List T3):(R=[]/\bt d R t=none)\/∃y,bt d R t=some y/\IsMin d t R y:=by
 rcases LY d t R none with⟨_,e,e2⟩|⟨y,e1,e2,_,e4⟩
 ·exact .inl ⟨e,e2⟩
 ·refine .inr ⟨y,e1,?_,e4⟩;rcases e2 with e2|e2
  ·cases e2
  ·exact e2
theorem IsMin.bt(h:IsMin d t R y):bt d R t=some y:=by
 rcases bt_spec d t R with⟨rfl,_⟩|⟨y',e,h'⟩
 ·obtain⟨w,hw,_⟩:=h.at_;cases hw
 ·rw[e,h.uniq h']
theorem bt_min(h:bt d R t=some y):IsMin d t R y:=by
 rcases bt_spec d t R with⟨rfl,e⟩|⟨y',e,h'⟩
 ·rw[e] at h;cases h
 ·rw[e] at h;cases h;exact h'
def Tells(d:Int)(R:List T3)(f:Int->Int):Prop:=∀t,bt d R t=some (f t)
def bf(d:Int)(R:List T3)(t:Int):Int:=(bt d R t).getD 0
theorem tells_bf(h:R≠[]):Tells d R (bf d R):=λ t=>by
 unfold bf;rcases bt_spec d t R with⟨e,_⟩|⟨y,e,_⟩
 ·exact absurd e h
 ·rw[e];rfl
theorem Tells.ne{f:Int->Int}(h:Tells d R f):R≠[]:=λ e=>by
 have:=h 0;rw[e,bt_nil] at this;cases this
structure Rise(d:Int)(f:Int->Int):Prop where
 ge:∀t,t<=f t
 mono:∀t u,t<=u->f t<=f u
 per:∀t,f (t+d)=f t+d
theorem Rise.mul{f:Int->Int}(r:Rise d f)(t:Int):∀k:Int,f (t+d*k)=f t+d*k:=by
 have up:∀(t:Int)(n:Nat),f (t+d*(n:Int))=f t+d*(n:Int):=λ t n=>by
  induction n with
  |zero=>simp
  |succ n ih =>
   have e:d*((n+1:Nat):Int)=d*(n:Int)+d:=by
    rw[Bf,qY];simp
   rw[e,<- Int.add_assoc,r.per,ih];omega
 intro k;rcases zL 0 k with h|h
 ·have e:k=((k.toNat:Nat):Int):=⋯;rw[e];exact up t _
 ·obtain⟨m,e⟩:∃m:Nat,k=-(m:Int):=⟨(-k).toNat,⋯⟩
  subst e;have:=up (t+d * -(m:Int)) m;rw[yO] at this ⊢;have e2:t+-(d*(m:Int))+d*(m:Int)=t:=⋯;rw[e2] at this;omega
def Wins(d:Int)(R:List T3):Prop:=∀w∈R,0<=w.1/\w.1<=w.2.1/\w.2.1<d/\0<=w.2.2
theorem P1{a b u:Int}(hd:0<d)(h0:0<=a)(h1:a<=b)(h2:b<d)(l:t<=u):nextO d a b t<=nextO d a b u:=by
 obtain⟨k,k1,k2,k3,k4,k5⟩:=G7 (t:=u) hd h0 h1 h2;obtain⟨k',_,_,_,_,m5⟩:=G7 (t:=t) hd h0 h1 h2;exact m5 k _ k1 k2 ⋯
theorem qR{a b:Int}:nextO d a b (t+d)=nextO d a b t+d:=by
 unfold nextO;rw[t9];split<;>omega
theorem board_rise{f:Int->Int}(hd:0<d)(W:Wins d R)(T:Tells d R f):Rise d f:=by
 have m:∀t,IsMin d t R (f t):=λ t=>bt_min (T t)
 refine⟨λ t=>?_,λ t u l=>?_,λ t=>?_⟩
 ·obtain⟨w,hw,e⟩:=(m t).at_;obtain⟨w0,w1,w2,w3⟩:=W w hw;obtain⟨_,_,_,k3,_⟩:=G7 (t:=t) hd w0 w1 w2;omega
 ·obtain⟨w,hw,e⟩:=(m u).at_;obtain⟨w0,w1,w2,w3⟩:=W w hw;have:=(m t).le w hw;have:=P1 hd w0 w1 w2 l;omega
 ·refine IsMin.uniq (m (t+d)) ⟨?_,λ w hw=>?_⟩
  ·obtain⟨w,hw,e⟩:=(m t).at_;exact⟨w,hw,by rw[qR];omega⟩
  ·have:=(m t).le w hw;rw[qR];omega
structure CK(d:Int)(R:List T3):Prop where
 d0:0<d
 win:Wins d R
 srt:R.Pairwise λ u v=>u.2.1<v.1/\u.2.1+u.2.2<v.1+v.2.2/\(u.2.1+1=v.1->u.2.2≠v.2.2)
 wr:∀u∈R,∀v∈R,u.2.1+u.2.2<d+(v.1+v.2.2)
theorem ck_nil(h:0<d):CK d []:=⟨h,(λ w hw=>by cases hw),List.Pairwise.nil,(λ w hw=>by cases hw)⟩
theorem J4{i:Nat}(h:i<R.length):(rA R i,rB R i,rC R i)∈R:=DL (r_at h)
theorem L8(h:w∈R):∃i,i<R.length/\rA R i=w.1/\rB R i=w.2.1/\rC R i=w.2.2:=by
 obtain⟨i,hi,e⟩:=rE.mp h;have e2:R[i]?=some (w.1,w.2.1,w.2.2):=by rw[BK hi,e]
 exact⟨i,hi,vF e2⟩
theorem KQ{p:T3->T3->Prop}(h:R.Pairwise p){i j:Nat}(hij:i<j)(hj:j<R.length):p (rA R i,rB R i,rC R i) (rA R j,rB R j,rC R j):=by
 have e1:=r_at (R:=R) (i:=i) ⋯;have e2:=r_at (R:=R) hj;rw[BK ⋯] at e1;rw[BK hj] at e2;have:=zR.mp h i j ⋯ hj hij;rw[Option.some.inj e1,Option.some.inj e2] at this;exact this
theorem CK.clk(h:CK d R):Clk d R.length (rA R) (rB R) (rC R) :=
 ⟨h.d0,λ i hi=>(h.win _ (J4 hi)).1,λ i hi=>(h.win _ (J4 hi)).2.1,λ i hi=>(h.win _ (J4 hi)).2.2.1,λ i hi=>(h.win _ (J4 hi)).2.2.2,
  λ i j hij hj=>(KQ h.srt hij hj).1,λ i j hij hj=>(KQ h.srt hij hj).2.1,λ i j hi hj=>h.wr _ (J4 hi) _ (J4 hj)⟩
theorem T7(g:Nat->Int):∀n:Nat,0<n->∃j,j<n/\∀i,i<n->g j<=g i
 |0,h=>absurd h (OY _)
 |1,_=>⟨0,⋯,λ i hi=>by have:i=0:=⋯;rw[this];exact DY _⟩
 |n+2,_=>by
  obtain⟨j,hj,h⟩:=T7 g (n+1) ⋯;rcases zL (g j) (g (n+1)) with c|c
  ·refine⟨j,⋯,λ i hi=>?_⟩;rcases(by omega:i<n+1\/i=n+1) with z|z
   ·exact h i z
   ·rw[z];exact c
  ·refine⟨n+1,⋯,λ i hi=>?_⟩;rcases(by omega:i<n+1\/i=n+1) with z|z
   ·have:=h i z;omega
   ·rw[z];exact DY _
theorem clk_first(K:Clk d R.length (rA R) (rB R) (rC R))(n0:R.length≠0)(t:Int):∃x y,First d R.length (rA R) (rB R) (rC R) t x y/\bt d R t=some y:=by
 obtain⟨j,hj,hm⟩:=T7 (λ i=>nextO d (rA R i) (rB R i) t) R.length ⋯;have F:=O1 K hj hm;refine⟨_,_,F,IsMin.bt ⟨⟨_,J4 hj,U⟩,λ w hw=>?_⟩⟩;obtain⟨i,hi,e1,e2,e3⟩:=L8 hw;obtain⟨k,k1,k2,k3,k4,k5⟩:=G7 (t:=t) K.d0 (K.a0 i hi) (K.ab i hi) (K.bd i hi);have D:VW d R.length (rA R) (rB R) (rC R) (nextO d (rA R i) (rB R i) t) (nextO d (rA R i) (rB R i) t+rC R i):=⟨i,k,hi,k1,k2,rfl⟩
 have le:=F.least _ _ D k3;rw[<- e1,<- e2,<- e3];rcases(by omega:nextO d (rA R j) (rB R j) t<nextO d (rA R i) (rB R i) t\/nextO d (rA R j) (rB R j) t=nextO d (rA R i) (rB R i) t) with z|z
 ·have:=jO K F.dep D z;omega
 ·rw[<- z] at D;have:=aZ K F.dep D;omega
theorem first_bt(K:Clk d R.length (rA R) (rB R) (rC R))(h:First d R.length (rA R) (rB R) (rC R) t x y):bt d R t=some y:=by
 have n0:R.length≠0:=by
  obtain⟨i,_,hi,_⟩:=h.dep;omega
 obtain⟨x',y',h',e⟩:=clk_first K n0 t;rw[e,(h.uniq K h').2]
structure Can(lo P:Int)(f:Int->Int)(R:List T3):Prop where
 srt:R.Pairwise λ u v=>u.2.1<v.1/\(u.2.1+1=v.1->u.2.2≠v.2.2)
 mem:∀w∈R,lo<=w.1/\w.1<=w.2.1/\w.2.1<P/\∀x,w.1<=x->x<=w.2.1->f x=x+w.2.2/\f x<f (x+1)
 cov:∀x,lo<=x->x<P->f x<f (x+1)->∃w∈R,w.1<=x/\x<=w.2.1
theorem Can.tail{f:Int->Int}(h:Can lo P f (w::R)):Can (w.2.1+1) P f R:=by
 have s:=nO.mp h.srt;have hw:=h.mem w (EZ ..);refine⟨s.2,λ u hu=>?_,λ x x0 x1 x2=>?_⟩
 ·have a:=h.mem u (ER _ hu);have b:=(s.1 u hu).1;exact⟨⋯,a.2⟩
 ·obtain⟨u,hu,u1,u2⟩:=h.cov x ⋯ x1 x2;rcases C6.mp hu with rfl|hu
  ·omega
  ·exact⟨u,hu,u1,u2⟩
theorem Can.head_le{f:Int->Int}(h:Can lo P f (w::R))(x0:lo<=x)(x1:x<P)(x2:f x<f (x+1)):w.1<=x:=by
 have s:=nO.mp h.srt;obtain⟨u,hu,u1,u2⟩:=h.cov x x0 x1 x2;rcases C6.mp hu with rfl|hu
 ·exact u1
 ·have:=(s.1 u hu).1;have:=(h.mem w (EZ ..)).2.1;omega
theorem Can.end_le{f:Int->Int}{w':T3}{R':List T3}(h:Can lo P f (w::R))(h':Can lo P f (w'::R'))(ea:w.1=w'.1)(ec:w.2.2=w'.2.2):w'.2.1<=w.2.1:=by
 rcases dJ w.2.1 w'.2.1 with z|z
 ·exfalso
  have m:=h.mem w (EZ ..);have m':=h'.mem w' (EZ ..);have q:=m'.2.2.2 (w.2.1+1) ⋯ ⋯;obtain⟨u,hu,u1,u2⟩:=h.cov (w.2.1+1) ⋯ ⋯ q.2;rcases C6.mp hu with rfl|hu
  ·omega
  ·have s:=(nO.mp h.srt).1 u hu;have r:=((h.mem u (ER _ hu)).2.2.2 (w.2.1+1) u1 u2).1;exact s.2 ⋯ ⋯
 ·exact z
theorem Can.uniq{P:Int}{f:Int->Int}:∀{R R':List T3}{lo:Int},Can lo P f R->Can lo P f R'->R=R'
 | [],[],_,_,_=>rfl
 | [],w::R,lo,h,h'=>by
  have m:=h'.mem w (EZ ..);obtain⟨u,hu,_⟩:=h.cov w.1 m.1 ⋯ (m.2.2.2 w.1 (DY _) m.2.1).2;cases hu
 |w::R,[],lo,h,h'=>by
  have m:=h.mem w (EZ ..);obtain⟨u,hu,_⟩:=h'.cov w.1 m.1 ⋯ (m.2.2.2 w.1 (DY _) m.2.1).2;cases hu
 |w::R,w'::R',lo,h,h'=>by
  have m:=h.mem w (EZ ..);have m':=h'.mem w' (EZ ..);have q:=m.2.2.2 w.1 (DY _) m.2.1;have q':=m'.2.2.2 w'.1 (DY _) m'.2.1;have l1:=h.head_le (x:=w'.1) m'.1 ⋯ q'.2;have l2:=h'.head_le (x:=w.1) m.1 ⋯ q.2;have ea:w.1=w'.1:=⋯;have ec:w.2.2=w'.2.2:=by
   have:=q.1;have:=q'.1;rw[ea] at *;omega
  have b1:=h.end_le h' ea ec;have b2:=h'.end_le h ea.symm ec.symm;have eb:w.2.1=w'.2.1:=⋯;have ew:w=w':=by
   obtain⟨x,y,z⟩:=w;obtain⟨x',y',z'⟩:=w';cases ea;cases eb;cases ec;rfl
  subst ew;rw[Can.uniq h.tail h'.tail]
theorem kU{f:Int->Int}(mono:∀t u,t<=u->f t<=f u){x:Int}:∀(n:Nat),(∀y,x<=y->y<x+n->¬f y<f (y+1))->f x=f (x+n)
 |0,_=>by simp
 |n+1,h=>by
  have e:=kU mono (x:=x) n λ y y0 y1=>h y y0 ⋯
  have a:=h (x+n) ⋯ ⋯;have b:=mono (x+n) (x+n+1) ⋯;have e2:x+((n+1:Nat):Int)=x+n+1:=⋯;rw[e2];omega
theorem eQ{f:Int->Int}(mono:∀t u,t<=u->f t<=f u){z:Int}(hz:x<=z)(h:∀y,x<=y->y<z->¬f y<f (y+1)):f x=f z:=by
 have e:z=x+((z-x).toNat:Int):=⋯;have:=kU mono (x:=x) (z-x).toNat λ y y0 y1=>h y y0 ⋯
 rw[<- e] at this;exact this
theorem oO{f:Int->Int}(hd:0<d)(r:Rise d f)(t:Int):∃x,t<=x/\x<t+d/\f x=f t/\f x<f (x+1):=by
 have go:∀n:Nat,f t<f (t+n)->∃x,t<=x/\x<t+n/\f x=f t/\f x<f (x+1):=by
  intro n
  induction n with
  |zero=>intro h;simp at h
  |succ n ih =>
   intro h
   by_cases c:f t<f (t+n)
   ·obtain⟨x,x1,x2,x3,x4⟩:=ih c;exact⟨x,x1,⋯,x3,x4⟩
   ·have b:=r.mono t (t+n) ⋯;have e:t+((n+1:Nat):Int)=t+n+1:=⋯;rw[e] at h;exact⟨t+n,⋯,⋯,⋯,⋯⟩
 have e:d=((d.toNat:Nat):Int):=⋯;have:=go d.toNat (by rw[<- e,r.per];omega);rw[<- e] at this;exact this
theorem Can.tells{f:Int->Int}(hd:0<d)(r:Rise d f)(h:Can 0 d f R):Tells d R f:=by
 intro t;have lo:∀w∈R,f t<=nextO d w.1 w.2.1 t+w.2.2:=λ w hw=>by
  obtain⟨m0,m1,m2,m3⟩:=h.mem w hw;obtain⟨k,k1,k2,k3,k4,k5⟩:=G7 (t:=t) hd m0 m1 m2;generalize nextO d w.1 w.2.1 t=x at *;have q:=(m3 (x-d*k) ⋯ ⋯).1;have q2:=r.mul (x-d*k) k;have e:x-d*k+d*k=x:=⋯;rw[e] at q2;have:=r.mono t x k3;omega
 refine IsMin.bt ⟨?_,lo⟩;obtain⟨x,x1,x2,x3,x4⟩:=oO hd r t;obtain⟨q,e,e0,e1⟩:=split d x hd;have p0:=r.mul (x%d) q;have p1:=r.mul (x%d+1) q;have e2:x%d+d*q=x:=⋯;have e3:x%d+1+d*q=x+1:=⋯;rw[e2] at p0;rw[e3] at p1;obtain⟨w,hw,w1,w2⟩:=h.cov (x%d) e0 e1 ⋯;obtain⟨m0,m1,m2,m3⟩:=h.mem w hw;have c:=(m3 (x%d) w1 w2).1;obtain⟨k,k1,k2,k3,k4,k5⟩:=G7 (t:=t) hd m0 m1 m2;have u:=k5 q x ⋯ ⋯ x1;have v:=lo w hw;exact⟨w,hw,⋯⟩
theorem Can.ck{f:Int->Int}(hd:0<d)(r:Rise d f)(h:Can 0 d f R):CK d R:=by
 have at_:∀w∈R,f w.1=w.1+w.2.2/\f w.2.1=w.2.1+w.2.2/\f w.2.1<f (w.2.1+1):=λ w hw=>by
  obtain⟨m0,m1,m2,m3⟩:=h.mem w hw;exact⟨(m3 _ (DY _) m1).1,m3 _ m1 (DY _)⟩
 refine⟨hd,λ w hw=>?_,?_,λ u hu v hv=>?_⟩
 ·obtain⟨m0,m1,m2,m3⟩:=h.mem w hw;have:=at_ w hw;have:=r.ge w.1;exact⟨m0,m1,m2,⋯⟩
 ·refine List.Pairwise.imp_of_mem (λ {u v} hu hv p=>?_) h.srt;refine⟨p.1,?_,p.2⟩;have a:=at_ u hu;have b:=at_ v hv;have:=r.mono (u.2.1+1) v.1 ⋯;omega
 ·have a:=at_ u hu;have b:=at_ v hv;obtain⟨m0,m1,m2,m3⟩:=h.mem u hu;obtain⟨n0,_⟩:=h.mem v hv;have:=r.mono (u.2.1+1) (v.1+d) ⋯;have:=r.per v.1;omega
theorem CK.can{f:Int->Int}(h:CK d R)(T:Tells d R f):Can 0 d f R:=by
 have K:=h.clk;have n0:R.length≠0:=λ e=>T.ne (M6.mp e)
 have F:∀t,∃x,First d R.length (rA R) (rB R) (rC R) t x (f t):=λ t=>by
  obtain⟨x,y,h1,h2⟩:=clk_first K n0 t;rw[T t] at h2;cases h2;exact⟨x,h1⟩
 refine⟨h.srt.imp λ p=>⟨p.1,p.2.2⟩,λ w hw=>?_,λ x x0 x1 x2=>?_⟩
 ·obtain⟨w0,w1,w2,w3⟩:=h.win w hw;refine⟨w0,w1,w2,λ x a b=>?_⟩;obtain⟨i,hi,e1,e2,e3⟩:=L8 hw;have D:VW d R.length (rA R) (rB R) (rC R) x (x+w.2.2):=⟨i,0,hi,⋯,⋯,⋯⟩
  obtain⟨x',F1⟩:=F x;have l:=F1.least _ _ D (DY _);have l2:=F1.le;have e:x'=x:=⋯;subst e;have ey:=aZ K F1.dep D;obtain⟨x2,F2⟩:=F (x'+1);have:=jO K F1.dep F2.dep (by have:=F2.le;omega);exact⟨ey,this⟩
 ·obtain⟨x',F1⟩:=F x;rcases(by have:=F1.le;omega:x'=x\/x+1<=x') with e|e
  ·subst e;obtain⟨i,k,hi,k1,k2,_⟩:=F1.dep;have a0:=K.a0 i hi;have bd:=K.bd i hi;have d0:=K.d0;have:k=0:=by
    rcases(by omega:k<0\/k=0\/0<k) with z|z|z
    ·have:=EE d0 z;omega
    ·exact z
    ·have:=EE d0 z;omega
   subst this;exact⟨_,J4 hi,by simpa using k1,by simpa using k2⟩
  ·obtain⟨x2',F2⟩:=F (x+1);have F3:First d R.length (rA R) (rB R) (rC R) (x+1) x' (f x):=⟨F1.dep,e,λ u v h1 h2=>F1.least u v h1 ⋯⟩
   have:=(F2.uniq K F3).2;omega
theorem CK.uniq{d:Int}{R R':List T3}(h:CK d R)(h':CK d R')(e:∀t,bt d R t=bt d R' t):R=R':=by
 by_cases n:R=[]
 ·subst n
  by_cases n':R'=[]
  ·exact n'.symm
  ·have:=e 0;rw[bt_nil,tells_bf n' 0] at this;cases this
 ·have T:=tells_bf (d:=d) n;have T':Tells d R' (bf d R):=λ t=>by rw[<- e t];exact T t
  exact Can.uniq (h.can T) (h'.can T')
theorem CK.rise{f:Int->Int}(h:CK d R)(T:Tells d R f):Rise d f:=board_rise h.d0 h.win T
end Ma
namespace Ma
variable {R:List T3}
theorem pI{α:Type}{p:List α->Prop}(h0:p [])(hs:∀l x,p l->p (l++[x]))(l:List α):p l:=by
 rw[<- List.reverse_reverse l]
 induction l.reverse with
 |nil=>exact h0
 |cons x r ih =>
  rw[Bb];exact hs _ _ ih
def putW(R:List T3)(a b c:Int):List T3 :=
 if b<a then R else match R.getLast? with
  |some l=>if l.2.1+1=a/\l.2.2=c then R.dropLast++[(l.1,b,c)] else R++[(a,b,c)]
  |none=>R++[(a,b,c)]
theorem UG(R:List T3)(a b c:Int):(putW R a b c).length<=R.length+1:=by
 unfold putW;split
 ·omega
 ·split
  ·split
   ·rw[G2,List.length_dropLast,R6];omega
   ·simp
  ·simp
section
variable {lo P P':Int}{f:Int->Int}{a b c:Int}
theorem Can.app(h:Can lo P f R)(l0:lo<=P)(pa:P<=a)(ab:a<=b)(bp:b<P')(dep:∀x,P<=x->x<P'->(f x<f (x+1)↔a<=x/\x<=b))(ride:∀x,a<=x->x<=b->f x=x+c)
  (un:∀u∈R,u.2.1+1=a->u.2.2≠c):Can lo P' f (R++[(a,b,c)]):=by
 refine⟨rD.mpr ⟨h.srt,x8 _ _,λ u hu v hv=>?_⟩,λ w hw=>?_,λ x x0 x1 x2=>?_⟩
 ·rw[D8] at hv;subst hv;have m:=h.mem u hu;exact⟨by show u.2.1<a;omega,un u hu⟩
 ·rcases EW.mp hw with hw|hw
  ·obtain⟨m0,m1,m2,m3⟩:=h.mem w hw;exact⟨m0,m1,⋯,m3⟩
  ·rw[D8] at hw;subst hw;exact⟨by show lo<=a;omega,ab,bp,λ x x1 x2=>by
    have x1':a<=x:=x1;have x2':x<=b:=x2;exact⟨ride x x1 x2,(dep x ⋯ ⋯).mpr ⟨x1,x2⟩⟩⟩
 ·rcases dJ x P with z|z
  ·obtain⟨w,hw,w1⟩:=h.cov x x0 z x2;exact⟨w,K3 _ hw,w1⟩
  ·exact⟨(a,b,c),GR _ (D8.mpr rfl),(dep x z x1).mp x2⟩
theorem Can.step(h:Can lo P f R)(l0:lo<=P)(pa:P<=a)(bp:b<P')(hp:P<=P')(dep:∀x,P<=x->x<P'->(f x<f (x+1)↔a<=x/\x<=b))(ride:∀x,a<=x->x<=b->f x=x+c):Can lo P' f (putW R a b c):=by
 unfold putW;split
 ·rename_i ba
  refine⟨h.srt,λ w hw=>?_,λ x x0 x1 x2=>?_⟩
  ·obtain⟨m0,m1,m2,m3⟩:=h.mem w hw;exact⟨m0,m1,⋯,m3⟩
  ·rcases dJ x P with z|z
   ·exact h.cov x x0 z x2
   ·have:=(dep x z x1).mp x2;omega
 ·rename_i ab
  split
  ·rename_i l hl
   obtain⟨R0,rfl⟩:∃R0,R=R0++[l]:=by
    obtain⟨R0,e⟩:=Ao.mp hl;exact⟨R0,e⟩
   have s:=rD.mp h.srt;split
   ·rename_i tc
    rw[zD];have ml:=h.mem l (GR _ (D8.mpr rfl));refine⟨rD.mpr ⟨s.1,x8 _ _,λ u hu v hv=>?_⟩,λ w hw=>?_,λ x x0 x1 x2=>?_⟩
    ·rw[D8] at hv;subst hv;have q:=s.2.2 u hu l (D8.mpr rfl);rw[<- tc.2];exact q
    ·rcases EW.mp hw with hw|hw
     ·obtain⟨m0,m1,m2,m3⟩:=h.mem w (K3 _ hw);exact⟨m0,m1,⋯,m3⟩
     ·rw[D8] at hw;subst hw;obtain⟨m0,m1,m2,m3⟩:=ml;refine⟨m0,by show l.1<=b;omega,bp,λ x x1 x2=>?_⟩;have x1':l.1<=x:=x1;have x2':x<=b:=x2;show f x=x+c/\f x<f (x+1);rcases dJ l.2.1 x with z|z
      ·exact⟨ride x ⋯ x2',(dep x ⋯ ⋯).mpr ⟨⋯,x2'⟩⟩
      ·rw[<- tc.2];exact m3 x x1' z
    ·rcases dJ x P with z|z
     ·obtain⟨w,hw,w1,w2⟩:=h.cov x x0 z x2;rcases EW.mp hw with hw|hw
      ·exact⟨w,K3 _ hw,w1,w2⟩
      ·rw[D8] at hw;subst hw;exact⟨_,GR _ (D8.mpr rfl),w1,by show x<=b;omega⟩
     ·have q:=(dep x z x1).mp x2;exact⟨_,GR _ (D8.mpr rfl),by show l.1<=x;have:=ml.2.1;omega,q.2⟩
   ·rename_i tc
    refine h.app l0 pa ⋯ bp dep ride λ u hu e=>?_
    rcases EW.mp hu with hu|hu
    ·have q:=s.2.2 u hu l (D8.mpr rfl);have ml:=h.mem l (GR _ (D8.mpr rfl));omega
    ·rw[D8] at hu;subst hu;exact λ e2=>tc ⟨e,e2⟩
  ·rename_i hl
   have e:=Ax.mp hl;subst e;exact h.app l0 pa ⋯ bp dep ride λ u hu=>by cases hu
end
def JW(r:T4)(x:Int):Int:=if r.2.2.1=true then r.2.2.2 else x+r.2.2.2
def ftold(r:T4):Int:=if r.2.2.1=true then r.2.2.2 else r.1+r.2.2.2
theorem mT(r:T4):ftold r=JW r r.1:=rfl
def cfStep(fo:Int)(r:T4)(R:List T3):List T3 :=
 if r.2.2.1=true then putW R r.2.1 (if r.2.2.2<fo then r.2.1 else r.2.1-1) (r.2.2.2-r.2.1)
 else putW R r.1 (if r.2.1+r.2.2.2<fo then r.2.1 else r.2.1-1) r.2.2.2
theorem cfStep_len(fo:Int)(r:T4)(R:List T3):(cfStep fo r R).length<=R.length+1:=by
 unfold cfStep;split<;>exact UG ..
theorem Can.row{lo P:Int}{f:Int->Int}(h:Can lo P f R)(l0:lo<=P)(r:T4)(e:r.1=P)(le:r.1<=r.2.1)(tl:∀x,r.1<=x->x<=r.2.1->f x=JW r x) :
  Can lo (r.2.1+1) f (cfStep (f (r.2.1+1)) r R):=by
 obtain⟨p,q,s,v⟩:=r;have e':p=P:=e;subst e';have le':p<=q:=le;have tl':∀x,p<=x->x<=q->f x=if s=true then v else x+v:=tl;unfold cfStep;show Can lo (q+1) f (if s=true then putW R q (if v<f (q+1) then q else q-1) (v-q) else putW R p (if q+v<f (q+1) then q else q-1) v);cases s with
 |true =>
  rw[if_pos rfl];have t0:∀x,p<=x->x<=q->f x=v:=λ x h1 h2=>by have:=tl' x h1 h2;rw[if_pos rfl] at this;exact this
  refine h.step l0 le' (by split<;>omega) ⋯ (λ x x0 x1=>?_) λ x x0 x1=>?_
  ·rcases(by omega:x<q\/x=q) with z|z
   ·have:=t0 x x0 ⋯;have:=t0 (x+1) ⋯ ⋯
    constructor
    ·intro;omega
    ·rintro⟨h1,h2⟩;omega
   ·subst z;rw[t0 x x0 (DY _)]
    constructor
    ·intro z;rw[if_pos z];exact⟨DY _,DY _⟩
    ·intro z9;obtain⟨_,z⟩ := z9;split at z
     ·assumption
     ·omega
  ·have x1':x<=q:=by split at x1<;>omega
   have:=t0 x ⋯ x1';omega
 |false =>
  rw[if_neg (by decide)];have t0:∀x,p<=x->x<=q->f x=x+v:=λ x h1 h2=>by have:=tl' x h1 h2;rw[if_neg (by decide)] at this;exact this
  refine h.step l0 (DY _) (by split<;>omega) ⋯ (λ x x0 x1=>?_) λ x x0 x1=>?_
  ·rcases(by omega:x<q\/x=q) with z|z
   ·have:=t0 x x0 ⋯;have:=t0 (x+1) ⋯ ⋯
    constructor
    ·intro;refine⟨x0,?_⟩;split<;>omega
    ·intro;omega
   ·subst z;rw[t0 x x0 (DY _)]
    constructor
    ·intro z;rw[if_pos z];exact⟨x0,DY _⟩
    ·intro z9;obtain⟨_,z⟩ := z9;split at z
     ·assumption
     ·omega
  ·exact t0 x x0 (by split at x1<;>omega)
def Cov(f:Int->Int):Int->List T4->Int->Prop
 |lo,[],hi=>lo=hi
 |lo,r::S,hi=>r.1=lo/\r.1<=r.2.1/\(∀x,r.1<=x->x<=r.2.1->f x=JW r x)/\Cov f (r.2.1+1) S hi
theorem Cov.le{f:Int->Int}:∀{S:List T4}{lo hi:Int},Cov f lo S hi->lo<=hi
 | [],lo,hi,h=>by have:lo=hi:=h;omega
 |r::S,lo,hi,⟨h1,h2,_,h4⟩=>by have:=Cov.le h4;omega
theorem Cov.append{f:Int->Int}:∀{S S':List T4}{lo mid hi:Int},Cov f lo S mid->Cov f mid S' hi->Cov f lo (S++S') hi
 | [],S',lo,mid,hi,h,h'=>by
  have:lo=mid:=h;subst this;exact h'
 |r::S,S',lo,mid,hi,⟨h1,h2,h3,h4⟩,h'=>⟨h1,h2,h3,Cov.append h4 h'⟩
theorem Cov.one{f:Int->Int}{r:T4}(h:r.1<=r.2.1)(t:∀x,r.1<=x->x<=r.2.1->f x=JW r x):Cov f r.1 [r] (r.2.1+1):=⟨rfl,h,t,rfl⟩
theorem Cov.get{f:Int->Int}:∀{S:List T4}{lo hi:Int}{k:Nat}{r:T4},Cov f lo S hi->S[k]?=some r->lo<=r.1/\r.1<=r.2.1/\r.2.1<hi/\(∀x,r.1<=x->x<=r.2.1->f x=JW r x) /\
  (k=0->r.1=lo)/\(∀r',S[k+1]?=some r'->r'.1=r.2.1+1)/\(k+1=S.length->r.2.1+1=hi)
 | [],_,_,_,_,_,e=>by simp at e
 |r0::S,lo,hi,0,r,⟨h1,h2,h3,h4⟩,e=>by
  have e':r0=r:=by simpa using e
  subst e';have l:=Cov.le h4;refine⟨⋯,h2,⋯,h3,λ _=>h1,λ r' e'=>?_,λ e'=>?_⟩
  ·have e2:S[0]?=some r':=by simpa using e'
   exact(Cov.get h4 e2).2.2.2.2.1 rfl
  ·have:S=[]:=by
    simp at e';exact e'
   subst this;exact h4
 |r0::S,lo,hi,k+1,r,⟨h1,h2,h3,h4⟩,e=>by
  have e2:S[k]?=some r:=by simpa using e
  obtain⟨g1,g2,g3,g4,g5,g6,g7⟩:=Cov.get h4 e2;refine⟨⋯,g2,g3,g4,λ z=>⋯,λ r' e'=>g6 r' (by simpa using e'),λ e'=>g7 (by simp at e';omega)⟩
theorem Cov.find{f:Int->Int}:∀{S:List T4}{lo hi x:Int},Cov f lo S hi->lo<=x->x<hi->∃(k:Nat)(r:T4),S[k]?=some r/\r.1<=x/\x<=r.2.1
 | [],lo,hi,x,h,h1,h2=>by have:lo=hi:=h;omega
 |r::S,lo,hi,x,⟨h1,h2,h3,h4⟩,x0,x1=>by
  rcases dJ r.2.1 x with z|z
  ·obtain⟨k,r',e,e1⟩:=Cov.find h4 ⋯ x1;exact⟨k+1,r',by simpa using e,e1⟩
  ·exact⟨0,r,U,⋯,z⟩
def cfo(d:Int)(S:List T4)(k:Nat):Int:=match S[k+1]? with
 |some r=>ftold r
 |none=>d+(match S[0]? with
  |some r=>ftold r
  |none=>0)
theorem cfo_eq{d:Int}{f:Int->Int}{S:List T4}{k:Nat}{r:T4}(h:Cov f 0 S d)(per:∀t,f (t+d)=f t+d)(e:S[k]?=some r):cfo d S k=f (r.2.1+1):=by
 obtain⟨g1,g2,g3,g4,g5,g6,g7⟩:=h.get e;have hk:=(CP.mp e).1;unfold cfo;cases e1:S[k+1]? with
 |some r' =>
  have q:=g6 r' e1;obtain⟨_,g2',_,g4',_⟩:=h.get e1;show ftold r'=_;rw[mT,<- g4' r'.1 (DY _) g2',q]
 |none =>
  have el:k+1=S.length:=by
   have:=zE.mp e1;omega
  have q:=g7 el;have h0:0<S.length:=⋯;obtain⟨_,g2',_,g4',g5',_⟩:=h.get (BK h0);rw[BK h0];show d+ftold S[0]=_;rw[mT,<- g4' _ (DY _) g2',g5' rfl,q];have:=per 0;rw[Be] at this;omega
def stStep(acc:List T4×Int)(w:T3):List T4×Int:=((if acc.2<w.1 then acc.1++[(acc.2,w.1-1,true,w.1+w.2.2)] else acc.1)++[(w.1,w.2.1,false,w.2.2)],w.2.1+1)
def stPre(R:List T3):List T4×Int:=R.foldl stStep ([],0)
theorem stPre_snoc(R:List T3)(w:T3):stPre (R++[w])=stStep (stPre R) w:=by
 unfold stPre;rw[kH];rfl
def strOf(d:Int)(R:List T3):List T4:=if 0<(stPre R).1.length/\(stPre R).2<d then(stPre R).1++[((stPre R).2,d-1,true,d+rA R 0+rC R 0)] else(stPre R).1
theorem stPre_len(R:List T3):(stPre R).1.length<=2*R.length/\(R≠[]->0<(stPre R).1.length):=by
 refine pI (p:=λ R=>(stPre R).1.length<=2*R.length/\(R≠[]->0<(stPre R).1.length)) ⟨by simp[stPre],λ h=>absurd rfl h⟩ (λ R w ih=>?_) R;rw[stPre_snoc];unfold stStep;refine⟨?_,λ _=>by simp⟩;simp only[G2,R6];split
 ·simp only[G2,R6];omega
 ·omega
theorem strOf_len(d:Int)(R:List T3):(strOf d R).length<=2*R.length+1:=by
 have:=(stPre_len R).1;unfold strOf;split
 ·simp only[G2,R6];omega
 ·omega
section
variable {d:Int}{f:Int->Int}
theorem i3(h:CK d R)(T:Tells d R f):∀R1 R2,R=R1++R2->Cov f 0 (stPre R1).1 (stPre R1).2/\0<=(stPre R1).2/\(stPre R1).2<=d/\(∀u∈R1,u.2.1<(stPre R1).2)/\(∀v∈R2,(stPre R1).2<=v.1):=by
 have C:=h.can T;have r:=h.rise T;have d0:=h.d0;refine pI (p:=λ R1=>∀R2,R=R1++R2->Cov f 0 (stPre R1).1 (stPre R1).2/\0<=(stPre R1).2/\(stPre R1).2<=d/\(∀u∈R1,u.2.1<(stPre R1).2)/\(∀v∈R2,(stPre R1).2<=v.1)) (λ R2 e=>?_) λ R1 w ih R2 e=>?_
 ·refine⟨rfl,DY _,by show(0:Int)<=d;omega,(λ u hu=>by cases hu),λ v hv=>?_⟩;exact(h.win v (by rw[e];exact hv)).1
 ·have e':R=R1++(w::R2):=by rw[e];simp
  obtain⟨c,p0,pd,pu,pv⟩:=ih (w::R2) e';have hw:w∈R:=by rw[e'];simp
  obtain⟨w0,w1,w2,w3⟩:=h.win w hw;have pw:=pv w (EZ ..);have srt:=h.srt;rw[e'] at srt;have s2:=nO.mp (rD.mp srt).2.1;rw[stPre_snoc];unfold stStep;generalize (stPre R1).1=S at *;generalize (stPre R1).2=p at *;have mw:=(C.mem w hw).2.2.2;have fa:=(mw w.1 (DY _) w1).1;refine⟨?_,by show 0<=w.2.1+1;omega,by show w.2.1+1<=d;omega,λ u hu=>?_,λ v hv=>?_⟩
  ·have last:Cov f w.1 [(w.1,w.2.1,false,w.2.2)] (w.2.1+1):=Cov.one (r:=(w.1,w.2.1,false,w.2.2)) w1 λ x x0 x1=>by
    rw[(mw x x0 x1).1];rfl
   show Cov f 0 ((if p<w.1 then S++[(p,w.1-1,true,w.1+w.2.2)] else S)++[(w.1,w.2.1,false,w.2.2)]) (w.2.1+1);split
   ·rename_i z
    refine Cov.append (Cov.append c (mid:=p) (hi:=w.1) ?_) last;have e1:w.1-1+1=w.1:=⋯;have:=Cov.one (f:=f) (r:=(p,w.1-1,true,w.1+w.2.2)) (by show p<=w.1-1;omega) λ x x0 x1=>?_
    ·rw[e1] at this;exact this
    ·have x0':p<=x:=x0;have x1':x<=w.1-1:=x1;show f x=w.1+w.2.2;rw[<- fa];refine eQ r.mono ⋯ λ y y0 y1 yd=>?_
     obtain⟨u,hu,u1,u2⟩:=C.cov y ⋯ ⋯ yd;rw[e'] at hu;rcases EW.mp hu with hu|hu
     ·have:=pu u hu;omega
     ·rcases C6.mp hu with rfl|hu
      ·omega
      ·have:=(s2.1 u hu).1;omega
   ·rename_i z
    have:p=w.1:=⋯;subst this;exact Cov.append c last
  ·show u.2.1<w.2.1+1;rcases EW.mp hu with hu|hu
   ·have:=pu u hu;omega
   ·rw[D8] at hu;subst hu;omega
  ·have:=(s2.1 v hv).1;show w.2.1+1<=v.1;omega
theorem str_cov(h:CK d R)(T:Tells d R f):Cov f 0 (strOf d R) d:=by
 obtain⟨c,p0,pd,pu,pv⟩:=i3 h T R [] (by simp);have C:=h.can T;have r:=h.rise T;have ne:=(stPre_len R).2 T.ne;unfold strOf;generalize (stPre R).1=S at *;generalize (stPre R).2=p at *;split
 ·rename_i z
  refine Cov.append c ?_;have e1:d-1+1=d:=⋯;have:=Cov.one (f:=f) (r:=(p,d-1,true,d+rA R 0+rC R 0)) (by show p<=d-1;omega) λ x x0 x1=>?_
  ·rw[e1] at this;exact this
  ·have x0':p<=x:=x0;have x1':x<=d-1:=x1;show f x=d+rA R 0+rC R 0;have hn:0<R.length:=zI.mpr T.ne;have m0:=C.mem _ (J4 hn);have f0:f (rA R 0)=rA R 0+rC R 0:=(m0.2.2.2 (rA R 0) (DY _) m0.2.1).1;have a0:(0:Int)<=rA R 0:=m0.1;have z0:f 0=f (rA R 0):=eQ r.mono a0 λ y y0 y1 yd=>by
    have q:=m0.2.2.1;have q1:=m0.2.1;obtain⟨u,hu,u1,u2⟩:=C.cov y y0 ⋯ yd;obtain⟨i,hi,e1,e2,e3⟩:=L8 hu;rcases M3 i with e|e
    ·subst e;omega
    ·have:=(KQ h.srt e hi).1;omega
   have z1:f x=f d:=eQ r.mono ⋯ λ y y0 y1 yd=>by
    obtain⟨u,hu,u1,u2⟩:=C.cov y ⋯ y1 yd;have:=pu u hu;omega
   have:=r.per 0;rw[Be] at this;omega
 ·rename_i z
  have:p=d:=⋯;subst this;exact c
end
end Ma
namespace Ma
variable {d:Int}{g:Int->Int}
abbrev T6:=Int×Int×Bool×Int×Bool×Int
def tl(s:Bool)(v x:Int):Int:=if s=true then v else x+v
def Cov2(f g:Int->Int):Int->List T6->Int->Prop
 |lo,[],hi=>lo=hi
 |lo,r::S,hi=>r.1=lo/\r.1<=r.2.1/\(∀x,r.1<=x->x<=r.2.1->f x=tl r.2.2.1 r.2.2.2.1 x/\g x=tl r.2.2.2.2.1 r.2.2.2.2.2 x)/\Cov2 f g (r.2.1+1) S hi
theorem Cov2.le{f g:Int->Int}:∀{S:List T6}{lo hi:Int},Cov2 f g lo S hi->lo<=hi
 | [],lo,hi,h=>by have:lo=hi:=h;omega
 |r::S,lo,hi,⟨h1,h2,_,h4⟩=>by have:=Cov2.le h4;omega
theorem Cov2.snoc{f g:Int->Int}{r:T6}(h2:r.1<=r.2.1)(h3:∀x,r.1<=x->x<=r.2.1->f x=tl r.2.2.1 r.2.2.2.1 x/\g x=tl r.2.2.2.2.1 r.2.2.2.2.2 x):∀{S:List T6}{lo:Int},Cov2 f g lo S r.1->Cov2 f g lo (S++[r]) (r.2.1+1)
 | [],lo,h=>by
  have:lo=r.1:=h;subst this;exact⟨U,h2,h3,U⟩
 |r0::S,lo,⟨a1,a2,a3,a4⟩=>⟨a1,a2,a3,Cov2.snoc h2 h3 a4⟩
theorem Cov2.get{f g:Int->Int}:∀{S:List T6}{lo hi:Int}{k:Nat}{r:T6},Cov2 f g lo S hi->S[k]?=some r->lo<=r.1/\r.1<=r.2.1/\r.2.1<hi/\(∀x,r.1<=x->x<=r.2.1->f x=tl r.2.2.1 r.2.2.2.1 x/\g x=tl r.2.2.2.2.1 r.2.2.2.2.2 x) /\
  (k=0->r.1=lo)/\(∀r',S[k+1]?=some r'->r'.1=r.2.1+1)/\(k+1=S.length->r.2.1+1=hi)
 | [],_,_,_,_,_,e=>by simp at e
 |r0::S,lo,hi,0,r,⟨h1,h2,h3,h4⟩,e=>by
  have e':r0=r:=by simpa using e
  subst e';have l:=Cov2.le h4;refine⟨⋯,h2,⋯,h3,λ _=>h1,λ r' e'=>?_,λ e'=>?_⟩
  ·have e2:S[0]?=some r':=by simpa using e'
   exact(Cov2.get h4 e2).2.2.2.2.1 rfl
  ·have:S=[]:=by
    simp at e';exact e'
   subst this;exact h4
 |r0::S,lo,hi,k+1,r,⟨h1,h2,h3,h4⟩,e=>by
  have e2:S[k]?=some r:=by simpa using e
  obtain⟨g1,g2,g3,g4,g5,g6,g7⟩:=Cov2.get h4 e2;refine⟨⋯,g2,g3,g4,λ z=>⋯,λ r' e'=>g6 r' (by simpa using e'),λ e'=>g7 (by simp at e';omega)⟩
def jn(late:Bool)(x y:Int):Int:=if late=true then(if y>x then y else x) else(if y<x then y else x)
theorem cB(late:Bool)(x y:Int):jn late x y=jn late y x:=by
 unfold jn;split
 ·split<;>split<;>omega
 ·split<;>split<;>omega
theorem TM(late:Bool)(x y d:Int):jn late (x+d) (y+d)=jn late x y+d:=by
 unfold jn;split
 ·split<;>split<;>omega
 ·split<;>split<;>omega
theorem rise_jn{f:Int->Int}(late:Bool)(rf:Rise d f)(rg:Rise d g):Rise d λ x=>jn late (f x) (g x):=by
 refine⟨λ t=>?_,λ t u l=>?_,λ t=>?_⟩
 ·have:=rf.ge t;have:=rg.ge t;unfold jn;split<;>split<;>omega
 ·have:=rf.mono t u l;have:=rg.mono t u l;unfold jn;split
  ·split<;>split<;>omega
  ·split<;>split<;>omega
 ·show jn late (f (t+d)) (g (t+d))=_;rw[rf.per,rg.per,TM]
def pickL(p q wt rd:Int)(late:Bool):List T4 :=
 (if p<=(if wt-rd<q then wt-rd else q) then [(p,(if wt-rd<q then wt-rd else q),late,if late=true then wt else rd)] else []) ++
 (if(if wt-rd+1>p then wt-rd+1 else p)<=q then [((if wt-rd+1>p then wt-rd+1 else p),q,!late,if late=true then rd else wt)] else [])
theorem mU{p q wt rd:Int}{late:Bool}{h:Int->Int}(pq:p<=q)(hh:∀x,p<=x->x<=q->h x=jn late wt (x+rd)):Cov h p (pickL p q wt rd late) (q+1):=by
 have lo:∀x,p<=x->x<=q->x<=wt-rd->h x=tl late (if late=true then wt else rd) x:=λ x x0 x1 x2=>by
  rw[hh x x0 x1];unfold jn tl;cases late
  ·simp only[h9,if_false];split<;>omega
  ·simp only[if_true];split<;>omega
 have hi:∀x,p<=x->x<=q->wt-rd<x->h x=tl (!late) (if late=true then rd else wt) x:=λ x x0 x1 x2=>by
  rw[hh x x0 x1];unfold jn tl;cases late
  ·simp only[h9,if_false,Bool.not_false,if_true];split<;>omega
  ·simp only[if_true,Bd,h9,if_false];split<;>omega
 unfold pickL;rcases(by omega:wt-rd<p\/(p<=wt-rd/\wt-rd<q)\/q<=wt-rd) with z|z|z
 ·rw[if_pos (show wt-rd<q by omega),if_neg (show ¬p<=wt-rd by omega),if_neg (show ¬wt-rd+1>p by omega),if_pos pq,kC];exact Cov.one (r:=(p,q,!late,if late=true then rd else wt)) pq λ x x0 x1=>hi x x0 x1 (by have:p<=x:=x0;omega)
 ·rw[if_pos z.2,if_pos z.1];have hm:(if wt-rd+1>p then wt-rd+1 else p)=wt-rd+1:=if_pos ⋯;rw[hm,if_pos (show wt-rd+1<=q by omega)];refine Cov.append (mid:=wt-rd+1) ?_ ?_
  ·exact Cov.one (r:=(p,wt-rd,late,if late=true then wt else rd)) z.1 λ x x0 x1=>lo x x0 (by have:x<=wt-rd:=x1;omega) x1
  ·exact Cov.one (r:=(wt-rd+1,q,!late,if late=true then rd else wt)) (by show wt-rd+1<=q;omega) λ x x0 x1=>hi x (by have:wt-rd+1<=x:=x0;omega) x1 (by have:wt-rd+1<=x:=x0;omega)
 ·rw[if_neg (show ¬wt-rd<q by omega),if_pos pq];have hm:¬(if wt-rd+1>p then wt-rd+1 else p)<=q:=by split<;>omega
  rw[if_neg hm,M5];exact Cov.one (r:=(p,q,late,if late=true then wt else rd)) pq λ x x0 x1=>lo x x0 x1 (by have:x<=q:=x1;omega)
theorem pick_len(p q wt rd:Int)(late:Bool):(pickL p q wt rd late).length<=2:=by
 unfold pickL;rw[G2];have one:∀(c:Prop) [Decidable c] (x:T4),(if c then [x] else []).length<=1:=λ c _ x=>by split<;>simp
 exact Ba (one _ _) (one _ _)
def joinRow(late:Bool)(r:T6):List T4 :=
 if r.2.2.1=r.2.2.2.2.1 then [(r.1,r.2.1,r.2.2.1,jn late r.2.2.2.1 r.2.2.2.2.2)]
 else if r.2.2.1=true then pickL r.1 r.2.1 r.2.2.2.1 r.2.2.2.2.2 late else pickL r.1 r.2.1 r.2.2.2.2.2 r.2.2.2.1 late
theorem joinRow_len(late:Bool)(r:T6):(joinRow late r).length<=2:=by
 unfold joinRow;split
 ·simp
 ·split<;>exact pick_len ..
theorem joinRow_cov{late:Bool}{r:T6}{f:Int->Int}(pq:r.1<=r.2.1)(h:∀x,r.1<=x->x<=r.2.1->f x=tl r.2.2.1 r.2.2.2.1 x/\g x=tl r.2.2.2.2.1 r.2.2.2.2.2 x) :
  Cov (λ x=>jn late (f x) (g x)) r.1 (joinRow late r) (r.2.1+1):=by
 obtain⟨p,q,s,v,s',v'⟩:=r;have h':∀x,p<=x->x<=q->f x=tl s v x/\g x=tl s' v' x:=h;unfold joinRow;show Cov _ p (if s=s' then [(p,q,s,jn late v v')] else if s=true then pickL p q v v' late else pickL p q v' v late) (q+1)
 by_cases e:s=s'
 ·rw[if_pos e];subst e;refine Cov.one (r:=(p,q,s,jn late v v')) pq λ x x0 x1=>?_
  obtain⟨e1,e2⟩:=h' x x0 x1;show jn late (f x) (g x)=tl s (jn late v v') x;rw[e1,e2];unfold tl;cases s
  ·simp only[h9,if_false];have:=TM late v v' x;rw[Bn v x,Bn v' x] at this;omega
  ·simp
 ·rw[if_neg e];cases s with
  |true =>
   have e':s'=false:=by cases s' with|true=>exact absurd rfl e|false=>rfl
   subst e';rw[if_pos rfl];refine mU pq λ x x0 x1=>?_
   obtain⟨e1,e2⟩:=h' x x0 x1;show jn late (f x) (g x)=_;rw[e1,e2];rfl
  |false =>
   have e':s'=true:=by cases s' with|false=>exact absurd rfl e|true=>rfl
   subst e';rw[if_neg (by decide)];refine mU pq λ x x0 x1=>?_
   obtain⟨e1,e2⟩:=h' x x0 x1;show jn late (f x) (g x)=_;rw[e1,e2,cB];rfl
def omin:Option Int->Option Int->Option Int
 |none,b=>b
 |a,none=>a
 |some x,some y=>some (jn false x y)
theorem bt_append(d:Int)(R R':List T3)(t:Int):bt d (R++R') t=omin (bt d R t) (bt d R' t):=by
 rcases bt_spec d t R with⟨rfl,e⟩|⟨y,e,m⟩
 ·rw[e,kC];cases bt d R' t<;>rfl
 ·rcases bt_spec d t R' with⟨rfl,e'⟩|⟨y',e',m'⟩
  ·rw[e',e,M5,e];rfl
  ·rw[e,e'];show _=some (jn false y y');refine IsMin.bt ⟨?_,λ w hw=>?_⟩
   ·unfold jn;rw[if_neg (by decide)];split
    ·obtain⟨w,hw,q⟩:=m'.at_;exact⟨w,GR _ hw,q⟩
    ·obtain⟨w,hw,q⟩:=m.at_;exact⟨w,K3 _ hw,q⟩
   ·unfold jn;rw[if_neg (by decide)];rcases EW.mp hw with hw|hw
    ·have:=m.le w hw;split<;>omega
    ·have:=m'.le w hw;split<;>omega
theorem Tells.min{R R':List T3}{f:Int->Int}(h:Tells d R f)(h':Tells d R' g)(t:Int):omin (bt d R t) (bt d R' t)=some (jn false (f t) (g t)):=by rw[h t,h' t];rfl
theorem ck_one(hd:0<d){w:T3}(h:0<=w.1/\w.1<=w.2.1/\w.2.1<d/\0<=w.2.2):CK d [w]:=by
 refine⟨hd,λ u hu=>?_,x8 _ _,λ u hu v hv=>?_⟩
 ·rw[D8] at hu;subst hu;exact h
 ·rw[D8] at hu hv;subst hu hv;omega
end Ma
namespace Ma
theorem iZ{α:Type} [DecidableEq α]:∀{l L:List α},l.Nodup->(∀x∈l,x∈L)->l.length<=L.length
 | [],_,_,_=>HV _
 |x::l,L,h,s=>by
  obtain⟨L1,L2,rfl⟩:=Aq (s x (EZ ..));have h':=KE.mp h;have:=iZ (L:=L1++L2) h'.2 λ y hy=>by
   have q:=s y (ER _ hy);rcases EW.mp q with q|q
   ·exact K3 _ q
   ·rcases C6.mp q with rfl|q
    ·exact absurd hy h'.1
    ·exact GR _ q
  simp only[KD,G2] at *;omega
theorem CK.starts{d:Int}{R:List T3}(h:CK d R):(R.map (·.1)).Nodup:=by
 refine sW.mpr (h.srt.imp_of_mem λ {u v} hu hv p=>?_);have:=(h.win u hu).2.1;omega
section
variable {d:Int}{R R':List T3}
theorem M8{f:Int->Int}{t:Int}(hd:0<d)(W:Wins d R)(T:Tells d R f)(t0:0<=t)(t1:t<d)(lt:f t<f (t+1)):∃u∈R,u.1<=t/\t<=u.2.1/\f t=t+u.2.2:=by
 obtain⟨u,hu,e⟩:=(bt_min (T t)).at_;obtain⟨w0,w1,w2,w3⟩:=W u hu;obtain⟨k,k1,k2,k3,k4,k5⟩:=G7 (t:=t) hd w0 w1 w2;obtain⟨k',m1,m2,m3,m4,m5⟩:=G7 (t:=t+1) hd w0 w1 w2;have le:=(bt_min (T (t+1))).le u hu;rcases(by omega:nextO d u.1 u.2.1 t=t\/t+1<=nextO d u.1 u.2.1 t) with z|z
 ·rw[z] at k1 k2 e;have:k=0:=by
   rcases(by omega:k<0\/k=0\/0<k) with y|y|y
   ·have:=EE hd y;omega
   ·exact y
   ·have:=EE hd y;omega
  subst this;exact⟨u,hu,⋯,⋯,e⟩
 ·have:=m5 k _ k1 k2 z;omega
theorem R9(h:CK d R')(W:Wins d R){f:Int->Int}(T:Tells d R f)(T':Tells d R' f):∀w∈R',w.1∈0::(R.map (·.1)++R.map (·.2.1+1)):=by
 intro w hw;have C:=h.can T';obtain⟨m0,m1,m2,m3⟩:=C.mem w hw;have d0:=h.d0
 by_cases z:w.1=0
 ·rw[z];exact EZ ..
 refine ER _ ?_;obtain⟨fa,fl⟩:=m3 w.1 (DY _) m1;obtain⟨u,hu,u1,u2,u3⟩:=M8 d0 W T m0 ⋯ fl
 by_cases ea:w.1=u.1
 ·exact K3 _ (DT.mpr ⟨u,hu,ea.symm⟩)
 refine GR _ ?_;have r:=h.rise T';have open_le:∀v∈R,∀x,v.1<=x->x<=v.2.1->f x<=x+v.2.2:=λ v hv x x1 x2=>by
  obtain⟨w0,w1,w2,w3⟩:=W v hv;obtain⟨k,k1,k2,k3,k4,k5⟩:=G7 (t:=x) d0 w0 w1 w2;have:=k5 0 x ⋯ ⋯ (DY _);have:=(bt_min (T x)).le v hv;omega
 have l1:=open_le u hu (w.1-1) ⋯ ⋯;have e1:w.1-1+1=w.1:=⋯;have lt:f (w.1-1)<f (w.1-1+1):=by rw[e1];omega
 have ne:f (w.1-1)≠w.1-1+u.2.2:=λ e=>by
  obtain⟨w',hw',y1,y2⟩:=C.cov (w.1-1) ⋯ ⋯ lt;obtain⟨n0,n1,n2,n3⟩:=C.mem w' hw';have c':=(n3 _ y1 y2).1;have apart:w'.2.1<w.1:=by
   rcases(by omega:w'.2.1<w.1\/w.1<=w'.2.1) with y|y
   ·exact y
   ·exfalso
    obtain⟨i,hi,a1,a2,a3⟩:=L8 hw;obtain⟨j,hj,b1,b2,b3⟩:=L8 hw';rcases(by omega:i<j\/i=j\/j<i) with q|q|q
    ·have:rB R' i<rA R' j:=(KQ h.srt q hj).1;omega
    ·subst q;omega
    ·have:rB R' j<rA R' i:=(KQ h.srt q hi).1;omega
  obtain⟨i,hi,a1,a2,a3⟩:=L8 hw;obtain⟨j,hj,b1,b2,b3⟩:=L8 hw';rcases(by omega:i<j\/i=j\/j<i) with q|q|q
  ·have:rB R' i<rA R' j:=(KQ h.srt q hj).1;omega
  ·subst q;omega
  ·have:=(KQ h.srt q hi).2.2;exact this (by show rB R' j+1=rA R' i;omega) (by show rC R' j=rC R' i;omega)
 obtain⟨v,hv,v1,v2,v3⟩:=M8 d0 W T ⋯ ⋯ lt;rcases(by omega:v.2.1=w.1-1\/w.1<=v.2.1) with y|y
 ·exact DT.mpr ⟨v,hv,⋯⟩
 ·have:=open_le v hv w.1 ⋯ y;omega
theorem ck_len(h:CK d R')(W:Wins d R)(e:∀t,bt d R' t=bt d R t):R'.length<=2*R.length+1:=by
 by_cases n:R'=[]
 ·rw[n];simp
 ·have T':=tells_bf (d:=d) n;have T:Tells d R (bf d R'):=λ t=>by rw[<- e t];exact T' t
  have:=iZ h.starts (L:=0::(R.map (·.1)++R.map (·.2.1+1))) λ x hx=>by
   obtain⟨w,hw,rfl⟩:=DT.mp hx;exact R9 h W T T' w hw
  simp only[BY,KD,G2] at this;omega
end
end Ma
namespace Ma
theorem Cov.lt{f:Int->Int}:∀{S:List T4}{lo hi:Int}{i j:Nat}{r r':T4},Cov f lo S hi->S[i]?=some r->S[j]?=some r'->i<j->r.2.1<r'.1
 | [],_,_,_,_,_,_,_,e,_,_=>by simp at e
 |r0::S,lo,hi,0,j+1,r,r',⟨_,h2,h3,h4⟩,e,e',_=>by
  have e1:r0=r:=by simpa using e
  subst e1;have e2:S[j]?=some r':=by simpa using e'
  have:=(Cov.get h4 e2).1;omega
 |r0::S,lo,hi,i+1,j+1,r,r',⟨_,h2,h3,h4⟩,e,e',l=>Cov.lt h4 (by simpa using e) (by simpa using e') ⋯
 |r0::S,lo,hi,i,0,r,r',_,_,_,l=>⋯
theorem Cov.congr{f g:Int->Int}:∀{S:List T4}{lo hi:Int},(∀x,lo<=x->x<hi->f x=g x)->Cov f lo S hi->Cov g lo S hi
 | [],_,_,_,h=>h
 |r::S,lo,hi,e,⟨h1,h2,h3,h4⟩=>⟨h1,h2,λ x a b=>by
  have:=Cov.le h4;rw[<- e x ⋯ ⋯];exact h3 x a b,Cov.congr (λ x a b=>e x ⋯ b) h4⟩
theorem rise_comp{d:Int}{f g:Int->Int}(rf:Rise d f)(rg:Rise d g):Rise d λ x=>g (f x):=by
 refine⟨λ t=>?_,λ t u l=>rg.mono _ _ (rf.mono t u l),λ t=>?_⟩
 ·have:=rf.ge t;have:=rg.ge (f t);show t<=g (f t);omega
 ·show g (f (t+d))=g (f t)+d;rw[rf.per,rg.per]
def rideRow(p e m ride:Int)(r:T4):T4:=if r.2.2.1=true then(p,e,true,m+r.2.2.2) else(p,e,false,ride+r.2.2.2)
theorem ride_cov{d:Int}{g:Int->Int}(rg:Rise d g){r:T4}{p e m k ride:Int}(hm:m=d*k)(pe:p<=e)(h1:m+r.1<=p+ride)(h2:e+ride<=m+r.2.1)(t:∀x,r.1<=x->x<=r.2.1->g x=JW r x) :
  Cov (λ x=>g (x+ride)) p [rideRow p e m ride r] (e+1):=by
 have gx:∀x,p<=x->x<=e->g (x+ride)=m+JW r (x+ride-m):=λ x x0 x1=>by
  have q:=rg.mul (x+ride-m) k;rw[<- hm] at q;have e1:x+ride-m+m=x+ride:=⋯;rw[e1] at q;rw[q,t _ ⋯ ⋯];omega
 unfold rideRow;unfold JW at gx
 by_cases s:r.2.2.1=true
 ·rw[if_pos s];refine Cov.one (r:=(p,e,true,m+r.2.2.2)) pe λ x x0 x1=>?_
  show g (x+ride)=m+r.2.2.2;rw[gx x x0 x1,if_pos s]
 ·rw[if_neg s];refine Cov.one (r:=(p,e,false,ride+r.2.2.2)) pe λ x x0 x1=>?_
  show g (x+ride)=x+(ride+r.2.2.2);rw[gx x x0 x1,if_neg s];omega
def obind(a b:Int->Option Int)(t:Int):Option Int:=(a t).bind b
end Ma
namespace Ma
end Ma
namespace Ma
section
variable {d a b c:Int}
end
structure IsLv(d:Int)(R:List T3)(s y:Int):Prop where
 at_:∃w∈R,y=lastO d w.1 w.2.1 (s-w.2.2)
 le:∀w∈R,lastO d w.1 w.2.1 (s-w.2.2)<=y
section
variable {d:Int}{R:List T3}{f:Int->Int}
theorem IsLv.gal(hd:0<d)(W:Wins d R)(T:Tells d R f){s y:Int}(h:IsLv d R s y)(x:Int):f x<=s↔x<=y:=by
 have m:=bt_min (T x)
 constructor
 ·intro l;obtain⟨w,hw,e⟩:=m.at_;obtain⟨w0,w1,w2,w3⟩:=W w hw;obtain⟨k,k1,k2,k3,k4,k5⟩:=G7 (t:=x) hd w0 w1 w2;obtain⟨k',m1,m2,m3,m4,m5⟩:=fX (t:=s-w.2.2) hd w0 w1 w2;have:=m5 k _ k1 k2 ⋯;have:=h.le w hw;omega
 ·intro l;obtain⟨w,hw,e⟩:=h.at_;obtain⟨w0,w1,w2,w3⟩:=W w hw;obtain⟨k,k1,k2,k3,k4,k5⟩:=G7 (t:=x) hd w0 w1 w2;obtain⟨k',m1,m2,m3,m4,m5⟩:=fX (t:=s-w.2.2) hd w0 w1 w2;have:=k5 k' _ m1 m2 ⋯;have:=m.le w hw;omega
end
end Ma
namespace Ma
section
variable {f g:Int->Int}
end
end Ma
namespace Ma
theorem lastO_eq(d a b t:Int)(h1:a<=b):lastO d a b t=if t%d<a then t-t%d-d+b else if b<t%d then t-t%d+b else t:=by
 unfold lastO;split
 ·rfl
 ·split<;>omega
theorem nextO_eq(d a b t:Int)(h1:a<=b):nextO d a b t=if b<t%d then t+d+a-t%d else if t%d<a then t+a-t%d else t:=by
 unfold nextO;split
 ·omega
 ·split<;>omega
end Ma
namespace L2
open PySem PySem.Spec PyProof.Rows
variable {X:Cx}{a tg:Expr}{H:Hp}{b c:Int}{es:List Expr}{i kk:Nat}{cpos p pos pos' tp:Pos}{σ:St}{x:Str}{ta:TA}{te:TE}{g:TG}{K:W.Frag}
def nY(K:W.Frag)(a:Addr):It :=
 ⟨λ i H=>∃xs x,SqL K H a xs/\xs[i]?=some x,
  λ i H v H'=>∃p x,v=.ref p/\H p=none/\H'=AD H p (.tup [.int i,x])/\(∀xs,SqL K H a xs->xs[i]?=some x),
  λ i H=>∃xs,SqL K H a xs/\xs.length<=i⟩
theorem N9{P:Program}{w:World}{e it a:Addr}(D:e≠it):Turn P w K (.Tuple es kk tp) (nY K a) [e,it] e
  (λ i h=>(∃old,IsEnum h e it (i:Int) old)/\h.IsListIter it a i) where
 mem:=by simp
 obj:=λ i h st c hc=>by
  obtain⟨⟨old,he⟩,⟨o1,e1,c1,d1⟩⟩:=st;simp only[C6,GY,or_false] at hc;rcases hc with rfl|rfl
  ·exact⟨_,he,λ v q=>by cases (show Data.fields _=Data.cell v from q)⟩
  ·exact⟨o1,e1,λ v q=>by rw[d1] at q;cases q⟩
 keep:=λ i h h' st k=>by
  obtain⟨⟨old,he⟩,h1⟩:=st;exact⟨⟨old,k e (by simp) _ he⟩,h1.at λ o e=>k it (by simp) o e⟩
 item:=by
  intro X hP hw hK hc i pins s σ H E I hf st hg;subst hP hw hK;obtain⟨xs,x,hq1,hx⟩:=hg;obtain⟨t1,rv1,p1,hz1⟩:=I.list hq1;obtain⟨u,hu,ru⟩:=rv1.get hx;obtain⟨⟨old,he⟩,h1⟩:=st;refine wpAny_pyNext_enum_item he h1 p1.isList (x:=u) (by simpa using hu) D λ h' a1 a3 a5 a6 k=>?_
  have fresh:H s.heap.objs.size=none:=I.hok.fresh (BU _);have szn:∀c o,s.heap.get? c=some o->c≠s.heap.objs.size:=λ c o e=>FZ (D1 e)
  have I1:Inv X pins σ (AD H s.heap.objs.size (.tup [.int i,x])) { s with heap:=h' }:=by
   refine I.turnedL (ch:=[e,it]) (λ c hc=>hf c hc) (λ c o hc e=>?_) (λ c o e=>by rw[AJ (DW e fresh)];exact e) (λ c o e n=>by rw[AJ (szn c o e)];exact n) λ c o n e=>?_
   ·simp only[C6,GY,or_false,not_or] at hc;exact k c o hc.1 hc.2 e
   ·by_cases ec:c=s.heap.objs.size
    ·rw[ec,AI] at e;cases e;rw[ec];exact⟨by show 2<=sizeLine;decide,[.int i s.toks,u],.cons ⟨_,U⟩ (.cons ru .nil),_,a5,U,_,U⟩
    ·rw[AJ ec,n] at e;cases e
  have I1':Inv X pins σ (AD H s.heap.objs.size (.tup [.int i,x])) { s with heap:=h',toks:=s.toks+1 }:=I1.tok _;refine⟨_,U,wpAny_letOwnedTupleGo_enum a1 λ h'' hz'' sb=>?_⟩;have zf:=hf e (by simp);have zs:e≠s.heap.objs.size:=szn e _ he;have I2:Inv X pins σ (AD H s.heap.objs.size (.tup [.int i,x])) { s with heap:=h'',toks:=s.toks+1 }:=Inv.turned (s:={ s with heap:=h',toks:=s.toks+1 }) (h':=h'') (t':=s.toks+1) (it:=e) I1' (λ c o hc e=>sb.extBut c o hc e) (by rw[AJ zs];exact zf.1) zf.2.1 zf.2.2.2.1 zf.2.2.2.2.1 zf.2.2.2.2.2;refine⟨.ref s.heap.objs.size,_,I2,U,⟨_,x,U,fresh,U,λ xs' h=>by rw[I.list_inj h hq1];exact hx⟩,?_,λ c hc=>?_⟩
  ·exact⟨⟨_,hz''⟩,a3.extBut sb.extBut D.symm⟩
  ·have q:c≠s.heap.objs.size:=by
    obtain⟨o1,e1,_⟩:=h1;simp only[C6,GY,or_false] at hc;rcases hc with rfl|rfl
    ·exact zs
    ·exact szn _ _ e1
   rw[AJ q];exact(hf c hc).1
 done:=by
  intro X hP hw hK hc i pins s σ H E I hf st hg;subst hP hw hK;obtain⟨xs,hq1,hl⟩:=hg;obtain⟨t1,rv1,p1,hz1⟩:=I.list hq1;have l1:=rv1.length;obtain⟨⟨old,he⟩,h1⟩:=st;refine wpAny_pyNext_enum_end (I.ok.hd hc) he h1 p1.isList (by simp;omega) λ h' k=>⟨rfl,?_⟩
  refine I.turnedL (ch:=[e,it]) (λ c hc=>hf c hc) (λ c o hc e=>?_) (λ c o e=>e) (λ c o e n=>n) λ c o n e=>by rw[n] at e;cases e
  simp only[C6,GY,or_false,not_or] at hc;exact k c o hc.2 e
 self:=λ _ _ _ _ _ st h=>by
  obtain⟨⟨old,he⟩,_⟩:=st;exact wpAny_pyIter_enum he h
def eB(K:W.Frag)(ta:TA):TI:=λ σ H R=>ta σ H λ vs H1=>∃l1,vs=[.ref l1]/\(∃xs,SqL K H1 l1 xs)/\R (nY K l1) H1
theorem QH:bootBuiltins "enumerate"=some (.type "enumerate"):=by decide +kernel
theorem aU(hg:Gl X "enumerate")(hm:X.mg "enumerate"=none)(ha:PA X [a] ta)(hs:starEach [a] X.env=[(false,eval a X.env)]) :
  PI X (.Tuple es kk tp) (.Call (.Name "enumerate" p) [a] [] pos) (eB X.K ta):=by
 intro pins s σ H R I h;refine Call_ (JG I hg hm QH (PyProof.Rows.callWith_type1 (B3 (ha pos pins s σ H _ I h) λ us s1 ⟨vs,H1,I1,r1,q1⟩=>?_) (by rw[hs];rfl) (by rfl)));obtain⟨l1,e,⟨xs,hq1⟩,q⟩:=q1;subst e;cases r1 with
 |cons r rr =>
  cases rr;cases r;obtain⟨t1,rv1,p1,hz1⟩:=I1.list hq1;refine call_enumerate_list p1.isList λ h' hz hit1 hsz k=>wpAny_pyIter_enum hz ?_
  refine⟨s1.heap.objs.size+1,[s1.heap.objs.size+1,s1.heap.objs.size],_,_,H1,U,I1.kept (t':=s1.toks) k,N9 (xK _),⟨⟨_,hz⟩,hit1⟩,λ c hc=>?_,q⟩;have ge:s1.heap.objs.size<=c:=by
   simp only[C6,GY,or_false] at hc;rcases hc with rfl|rfl<;>omega
  exact I1.fpOk ge (I1.hok.fresh ge)
theorem ME{p pos tp:Pos}{es:List Expr}{kk:Nat}(hg:Gl X "enumerate")(hm:X.mg "enumerate"=none)(ha:QA X [a] ta)(h:BX a=true:=by rfl) :
  QI X (.Tuple es kk tp) (.Call (.Name "enumerate" p) [a] [] pos) (eB X.K ta):=⟨aU hg hm ha.run (by rw[BC h];rfl)⟩
theorem nD{a:Addr}{xs:List V}{tb:TS}{D:Ends}(Pv:Nat->St->Hp->Prop)(h0:Pv 0 σ H)(hl:∀i σ H,i<=xs.length->Pv i σ H->SqL K H a xs)
  (hs:∀i x p σ H,xs[i]?=some x->Pv i σ H->H p=none->g (.ref p) σ (AD H p (.tup [.int i,x])) λ σ2 H2=>tb { D with nx:=Pv (i+1),ct:=Pv (i+1),bk:=D.nx } σ2 H2) (hd:∀σ H,Pv xs.length σ H->D.nx σ H) :
  ∃W:Nat->Nat->St->Hp->Prop,(∃m,W 0 m σ H)/\∀i m σ H,W i m σ H ->
   ((nY K a).stop i H/\D.nx σ H)\/((nY K a).go i H/\∃N:St->Hp->Prop,(∀σ' H',N σ' H'->∃m',m'<m/\W (i+1) m' σ' H')/\∀x H',(nY K a).yld i H x H'->g x σ H' λ σ2 H2=>tb { D with nx:=N,ct:=N,bk:=D.nx } σ2 H2):=by
 refine⟨λ i m σ H=>m=xs.length-i/\i<=xs.length/\Pv i σ H,⟨xs.length,by simp,HV _,h0⟩,?_⟩;intro i m σ H z9;obtain⟨rfl,hi,p⟩ := z9;have q:=hl i σ H hi p
 by_cases hlt:i<xs.length
 ·refine .inr ⟨⟨xs,xs[i],q,by simp[hlt]⟩,Pv (i+1),λ σ' H' p'=>⟨xs.length-(i+1),⋯,rfl,hlt,p'⟩,λ x H' y=>?_⟩;obtain⟨c,x,e,fr,e2,y⟩:=y;subst e e2;exact hs i x c σ _ (y xs q) p fr
 ·have e:i=xs.length:=⋯;subst e;exact .inl ⟨⟨xs,q,BU _⟩,hd σ H p⟩
section
variable {e o:Expr}{to:TE}{t:TA}{apos:Pos}
theorem JB{op:Operator}{ti:lQ}{pos':Pos}(hN:X.N.Nodup)(hi:X.N[i]?=some x)(hx:VZ X.env.scope x)(ho:yP X op ti)(he:QE X e te)(hf:X.fn x=true\/X.env.scope.names.lookup x=some .local:=by first|exact .inl rfl|exact .inr rfl|assumption) :
  QS X (.AugAssign (.Name x pos') op e pos) (tAug i te ti):=⟨iF hN hi hx he.run ho hf⟩
theorem K9{st:Stmt}:QS X st VL:=⟨UI⟩
theorem LW:QOp X (binaryOp .Add) rCat:=⟨k7⟩
theorem j8(ho:QE X o to)(ha:QA X [e] t)(h:BX e=true:=by rfl)(hbase:attributeBase o "extend" X.env (eval o X.env)=eval o X.env:=by rfl)(hline:(apos.endLine==pos.line)=true:=by rfl) :
  QE X (.Call (.Attribute o "extend" apos) [e] [] pos) (aY X.K "list" LP to t) :=
 ⟨GN PySem.F.plainAttrs_list PySem.F.slot_list_extend PySem.F.type_list_extend PU ho.run ha.run hbase (by rw[BC h];rfl) hline (BC h) rfl⟩
end
section
variable {lo:Int}{n:Nat}{caps:List (Option Nat)}{tt:TT}{Q:VK}
theorem vG(Pv:Addr->Nat->Hp->Prop)(h0:∀D,H D=none->Pv D 0 (AD H D (.lst [])))
  (hs:∀D i H',H D=none->i<n->Pv D i H'->g (.int (lo+(i:Nat))) (seen caps σ) H' λ σ4 H4=>(∀(k:Nat) v,(seen caps σ)[k]?=some (some v)->σ4[k]?=some (some v))/\tt σ4 H4 λ b H5 =>
   if b=true then te σ4 H5 λ y H6=>∃ys,H6 D=some (.lst ys)/\ys.length<sizeLine/\Pv D (i+1) (AD H6 D (.lst (ys++[y]))) else Pv D (i+1) H5)
  (hd:∀D H',H D=none->Pv D n H'->Q (.ref D) H'):FQ caps g tt te σ Q (dP lo n) H:=by
 intro D hD;refine⟨λ i m H'=>m=n-i/\i<=n/\Pv D i H',⟨n,by simp,HV _,h0 D hD⟩,?_⟩;intro i m H2 z9;obtain⟨rfl,hi,p⟩ := z9
 by_cases hlt:i<n
 ·refine .inr ⟨hlt,Pv D (i+1),λ H' p'=>⟨n-(i+1),⋯,rfl,hlt,p'⟩,λ x H3 y=>?_⟩;obtain⟨e,y⟩:=y;subst e y;exact hs D i _ hD hlt p
 ·have e:i=n:=⋯;subst e;exact .inl ⟨BU _,hd D H2 hD p⟩
theorem bT(Pv:Addr->Nat->Hp->Prop)(h0:∀D,H D=none->Pv D 0 (AD H D (.lst [])))
  (hs:∀D i H',H D=none->i<n->Pv D i H'->g (.int (lo+(i:Nat))) (seen caps σ) H' λ σ4 H4=>(∀(k:Nat) v,(seen caps σ)[k]?=some (some v)->σ4[k]?=some (some v)) /\
   te σ4 H4 λ y H6=>∃ys,H6 D=some (.lst ys)/\ys.length<sizeLine/\Pv D (i+1) (AD H6 D (.lst (ys++[y]))))
  (hd:∀D H',H D=none->Pv D n H'->Q (.ref D) H'):FQ caps g EC te σ Q (dP lo n) H:=vG Pv h0 hs hd
end
def l5(lo st:Int)(n:Nat):It:=⟨λ i _=>i<n,λ i H x H'=>H'=H/\x=.int (lo+(i:Nat)*st),λ i _=>n<=i⟩
theorem xI{P:Program}{w:World}(it:Addr)(lo stp:Int)(n:Nat):Turn P w K tg (l5 lo stp n) [it] it (λ i h=>IsRangeIter h it (lo+(i:Nat)*stp) ((n:Int)-(i:Nat)) stp) where
 mem:=by simp
 obj:=λ i h st b hb=>by
  have e:b=it:=by simpa using hb
  subst e;exact⟨_,st,λ v z=>by
   have z':Data.fields _=Data.cell v:=z;cases z'⟩
 keep:=λ i h h' st k=>k it (by simp) _ st
 item:=by
  intro X hP hw hK hc i pins s σ H E I hf st hg;subst hP hw hK;obtain⟨f0,f1,f2,f3,f4,f5⟩:=hf it (by simp);have hg':i<n:=hg;refine wpAny_pyNext_range_item st ⋯ λ h' st' sb=>?_
  have I1:Inv X pins σ H { s with heap:=h',toks:=s.toks+1 }:=I.turned (λ b o hb e=>sb.extBut b o hb e) f0 f1 f3 f4 f5;refine⟨_,rfl,KC (s:={ s with heap:=h',toks:=s.toks+1 }) (n := "range_iterator") st' rfl rfl (by decide) ⟨.int _,H,I1,⟨_,rfl⟩,⟨rfl,rfl⟩,?_,λ b hb=>(hf b hb).1⟩⟩;show IsRangeIter h' it (lo+((i+1:Nat):Int)*stp) ((n:Int)-((i+1:Nat):Int)) stp;have e1:lo+((i+1:Nat):Int)*stp=lo+(i:Int)*stp+stp:=by
   rw[Bf,Int.add_mul];simp;omega
  have e2:(n:Int)-((i+1:Nat):Int)=(n:Int)-(i:Int)-1:=⋯;rw[e1,e2];exact st'
 done:=by
  intro X hP hw hK hc i pins s σ H E I hf st hg;subst hP hw hK;obtain⟨f0,f1,f2,f3,f4,f5⟩:=hf it (by simp);exact wpAny_pyNext_range_end (I.ok.hd hc) st (by have:n<=i:=hg;omega) λ h' eb=>⟨rfl,I.turned (t':=s.toks) (λ b o hb e=>eb b o hb e) f0 f1 f3 f4 f5⟩
 self:=λ _ _ _ _ _ st h=>wpAny_pyIter_rangeiter st h
def GJ(a b c:Int):Nat:=if a<b then((b-a-1)/c+1).toNat else 0
theorem qO{a:Int}(hc:0<c):Builtin.Range.rangeSize a b c=((GJ a b c:Nat):Int):=by
 unfold Builtin.Range.rangeSize GJ;rw[if_pos ⋯];split
 ·have:0<=(b-a-1)/c:=Aa ⋯ ⋯;omega
 ·rfl
theorem WT{a:Int}(hc:0<c)(h:i<GJ a b c):a+(i:Int)*c<b:=by
 unfold GJ at h;split at h
 ·have h1:(i:Int)<=(b-a-1)/c:=⋯;have h2:=Int.mul_le_mul_of_nonneg_right h1 (kE hc);have h3:=Int.ediv_mul_le (b-a-1) (b:=c) ⋯;omega
 ·omega
theorem i7{a:Int}(ha:-(2 ^ 60)<=a)(ha':a<2 ^ 60)(hb:-(2 ^ 60)<=b)(hb':b<2 ^ 60)(hc:0<c)(hc':c<1000):Builtin.Range.small a b c=true:=by
 have hn:0<=Builtin.Range.rangeSize a b c/\Builtin.Range.rangeSize a b c<2 ^ 62:=by
  unfold Builtin.Range.rangeSize;rw[if_pos ⋯];split
  ·have h1:0<=(b-a-1)/c:=Aa ⋯ ⋯;have h2:(b-a-1)/c<=b-a-1:=Int.ediv_le_self _ ⋯;omega
  ·omega
 unfold Builtin.Range.small Builtin.Range.rangeFitsLong;generalize Builtin.Range.rangeSize a b c=k at *;simp only[KH,x6,decide_eq_true_eq,beq_iff_eq];refine⟨⟨⟨⟨?_,?_⟩,?_⟩,?_⟩,.inr ?_⟩
 ·omega
 ·omega
 ·omega
 ·omega
 ·rw[if_pos ⋯];simp only[KH,decide_eq_true_eq];omega
def eA(ta:TA):TI:=λ σ H R=>ta σ H λ vs H1=>∃i j c:Int,vs=[.int i,.int j,.int c]/\(-(2 ^ 60)<=i/\i<2 ^ 60/\-(2 ^ 60)<=j/\j<2 ^ 60/\0<c/\c<1000)/\R (l5 i c (GJ i j c)) H1
theorem O5{b c:Expr}(hg:Gl X "range")(hm:X.mg "range"=none)(ha:PA X [a,b,c] ta)(hs:starEach [a,b,c] X.env=(false,eval a X.env)::starEach [b,c] X.env)(hs2:(backTo pos (starEach [b,c] X.env)).any (·.1)=false) :
  PI X tg (.Call (.Name "range" p) [a,b,c] [] pos) (eA ta):=by
 intro pins s σ H R I h;refine Call_ (JG I hg hm boot_range (PyProof.Rows.callWith_type1 (B3 (ha pos pins s σ H _ I h) λ us s1 z9=>?_) hs hs2));obtain⟨vs,H1,I1,r1,q1⟩ := z9;obtain⟨i,j,k,e,⟨q1,q2,q3,q4,q5,q6⟩,q⟩:=q1;subst e;cases r1 with
 |cons r rr =>
  cases rr with
  |cons r' rr =>
   cases rr with
   |cons r'' rr =>
    cases rr;obtain⟨t,rfl⟩:=r;obtain⟨t',rfl⟩:=r';obtain⟨t'',rfl⟩:=r'';refine call_range_3 ⋯ ?_ (.inl (PyProof.noPylong_small ⋯));refine wpAny_pyIter_range (IsRange.new ..) (i7 q1 q2 q3 q4 q5 q6) ?_;have I2:Inv X pins σ H1 { s1 with heap:=s1.heap.push { cls:=.type "range",data:=.fields #[.int i t,.int j t',.int k t''] } }:=I1.kept (t':=s1.toks) λ b o e=>DD _ e
    refine⟨(s1.heap.push { cls:=.type "range",data:=.fields #[.int i t,.int j t',.int k t''] }).objs.size,[(s1.heap.push { cls:=.type "range",data:=.fields #[.int i t,.int j t',.int k t''] }).objs.size],_,_,H1,U,
     I2.kept (t':=s1.toks) λ b o e=>DD _ e,xI _ i k (GJ i j k),?_,λ b hb=>?_,q⟩
    ·show IsRangeIter _ _ (i+((0:Nat):Int)*k) (((GJ i j k:Nat):Int)-((0:Nat):Int)) k;have e1:i+((0:Nat):Int)*k=i:=by simp
     have e2:((GJ i j k:Nat):Int)-((0:Nat):Int)=Builtin.Range.rangeSize i j k:=by rw[qO q5];simp
     rw[e1,e2];exact FF _ rfl
    ·have e:b=(s1.heap.push { cls:=.type "range",data:=.fields #[.int i t,.int j t',.int k t''] }).objs.size:=by simpa using hb
     subst e;exact I2.fpOk (BU _) (I2.hok.fresh (BU _))
theorem P4{b c:Expr}{p pos:Pos}(hg:Gl X "range")(hm:X.mg "range"=none)(ha:QA X [a,b,c] ta)(h:BX a=true:=by rfl)(h2:[b,c].all BX=true:=by rfl):QI X tg (.Call (.Name "range" p) [a,b,c] [] pos) (eA ta) :=
 ⟨O5 hg hm ha.run (BC h) (JX h2)⟩
theorem w6{lo st:Int}{n:Nat}{tb:TS}{D:Ends}(Pv:Nat->St->Hp->Prop)(h0:Pv 0 σ H)
  (hs:∀i σ H,i<n->Pv i σ H->g (.int (lo+(i:Nat)*st)) σ H λ σ2 H2=>tb { D with nx:=Pv (i+1),ct:=Pv (i+1),bk:=D.nx } σ2 H2) (hd:∀σ H,Pv n σ H->D.nx σ H) :
  ∃W:Nat->Nat->St->Hp->Prop,(∃m,W 0 m σ H)/\∀i m σ H,W i m σ H ->
   ((l5 lo st n).stop i H/\D.nx σ H)\/((l5 lo st n).go i H/\∃N:St->Hp->Prop,(∀σ' H',N σ' H'->∃m',m'<m/\W (i+1) m' σ' H')/\∀x H',(l5 lo st n).yld i H x H'->g x σ H' λ σ2 H2=>tb { D with nx:=N,ct:=N,bk:=D.nx } σ2 H2):=by
 refine⟨λ i m σ H=>m=n-i/\i<=n/\Pv i σ H,⟨n,by simp,HV _,h0⟩,?_⟩;intro i m σ H z9;obtain⟨rfl,hi,p⟩ := z9
 by_cases hlt:i<n
 ·refine .inr ⟨hlt,Pv (i+1),λ σ' H' p'=>⟨n-(i+1),⋯,rfl,hlt,p'⟩,λ x H' y=>?_⟩;obtain⟨e,y⟩:=y;subst e y;exact hs i σ _ hlt p
 ·have e:i=n:=⋯;subst e;exact .inl ⟨BU _,hd σ H p⟩
section
variable {N':List Str}{scope:Scope}{cl:List (Str×Addr)}{caps:List (Option Nat)}{iter elt:Expr}{wi:TI}{tt:TT}
theorem UR{use:Option (Value->Sem Unit)}{QQ:Value->Shared->Prop}{pins:List (Addr×Obj)}{s:Shared}{σ:St}{H:Hp}{Q:VK}{cpos:Pos}(B:BlkOk X N' scope cl caps)(hc:X.calm=true)(hi:PI X tg iter wi)(hg:∀C s0 H0 fp,PG (E6 X N' scope cl C s0 H0 fp) tg g)(he:∀C s0 H0 fp,PE (E6 X N' scope cl C s0 H0 fp) elt te)
  (hs:∀x,foldedSetIterable iter X.env x=pure x:=by intro _;rfl) (I:Inv X pins σ H s) (h:(HU wi caps g EC te) σ H Q)
  (fin:∀(D C:Addr)(s6:Shared)(H5:Hp),Inv X pins σ H5 s6->FK X pins H5 C->(∃m,s6.heap.Ns C m)->Q (.ref D) H5->compPost (model X.prog X.w) X.A X.xe use QQ (.ref D) C (.ok .next) s6) :
  wpAny (model X.prog X.w) X.A (comprehension (.ListComp elt [⟨tg,iter,[],0⟩] scope pos) scope X.env cpos (newList []) false (eval iter X.env) use) QQ X.xe s:=by
 refine wpAny_comprehension_free (use:=use) rfl hs B.clos B.kind B.names ?_;refine B3 (hi pins s σ H _ I h) λ v s1 h1=>B3 h1 λ itv s2 h2=>?_
 obtain⟨it,fp,tn,J,H2,rfl,I2,T,st2,f2,q2⟩:=h2;have fpl:∀b∈fp,b<s2.heap.objs.size:=λ b hb=>by
  obtain⟨o,e,_⟩:=T.obj _ _ st2 b hb;exact D1 e
 obtain⟨W,⟨m0,w0⟩,turn⟩:=q2 s2.heap.objs.size (I2.hok.fresh (BU _));refine wpAny_newObj_type ?_;have I3:Inv X pins σ (AD H2 s2.heap.objs.size (.lst [])) { s2 with heap:=s2.heap.push { cls:=.type "list",data:=.seq ([]:List Value).toArray } } :=
  I2.laid (t':=s2.toks) (λ b u e=>DD _ e) (BU _) ⟨HV _,[],0,.nil,FF _ rfl⟩
 generalize hs3:({ s2 with heap:=s2.heap.push { cls:=.type "list",data:=.seq ([]:List Value).toArray } }:Shared)=s3 at I3;have k23:∀b o,s2.heap.get? b=some o->s3.heap.get? b=some o:=λ b o e=>by rw[<- hs3];exact DD _ e
 have fpl3:∀b∈fp,b<s3.heap.objs.size:=λ b hb=>by
  obtain⟨o,e,_⟩:=T.obj _ _ st2 b hb;exact D1 (k23 b o e)
 have f3:∀b∈fp,FK X pins (AD H2 s2.heap.objs.size (.lst [])) b:=λ b hb=>⟨by rw[AJ (FZ (fpl b hb))];exact(f2 b hb).1,(f2 b hb).2⟩
 refine wpAny_newFunctionEnv B.nocell (by intro y hy;simp at hy) (λ h1 hn1 sb1=>?_) B.kind;have k31:∀b o,s3.heap.get? b=some o->h1.get? b=some o:=λ b o e=>sb1.extBut b o (FZ (D1 e)) (DD _ e)
 have J0:=gS (fp:=fp) (tk:=s3.toks+([]:List (Str×Value)).length) B I3 f3 hn1 k31 fpl3;have st1:tn 0 h1:=T.keep _ _ _ st2 λ b _ o e=>k31 b o (k23 b o e)
 have loop:codeAny (model X.prog X.w) X.A (.compLoop (.ListComp elt [⟨tg,iter,[],0⟩] scope pos) 0 (.ref it) (.ref s2.heap.objs.size) (E6 X N' scope cl s3.heap.objs.size s3 (AD H2 s2.heap.objs.size (.lst [])) fp).env)
   (compPost (model X.prog X.w) X.A X.xe use QQ (.ref s2.heap.objs.size) s3.heap.objs.size) { s3 with heap:=h1,toks:=s3.toks+([]:List (Str×Value)).length }:=by
  refine codeAny_loop rfl (λ n s'=>∃i H',Inv (E6 X N' scope cl s3.heap.objs.size s3 (AD H2 s2.heap.objs.size (.lst [])) fp) [] (seen caps σ) H' s'/\tn i s'.heap/\(∀b∈fp,H' b=none)/\W i n H') (λ n s5 hI=>?_) m0
   ⟨0,_,J0,st1,λ b hb=>(f3 b hb).1,w0⟩
  obtain⟨i,H5,I5,st5,fr5,w5⟩:=hI;show wpAny _ _ ((compTurn (.ListComp elt [⟨tg,iter,[],0⟩] scope pos) 0 (.ref it) (.ref s2.heap.objs.size) (E6 X N' scope cl s3.heap.objs.size s3 (AD H2 s2.heap.objs.size (.lst [])) fp).env).onRaise (λ x=>do noteFrame x (E6 X N' scope cl s3.heap.objs.size s3 (AD H2 s2.heap.objs.size (.lst [])) fp).env;theTreesLotGoes x)) _ _ s5;refine wpAny_noted ?_;rw[compTurn_list1];have ff:∀{H':Hp},(∀b∈fp,H' b=none)->∀b∈fp,FK (E6 X N' scope cl s3.heap.objs.size s3 (AD H2 s2.heap.objs.size (.lst [])) fp) [] H' b:=λ {H'} hn b hb =>
   ⟨hn b hb,(J0.ok.exf b hb).1,J0.ok.exfs b hb,.inl hb,λ x c e=>(J0.ok.exf b hb).2 x c e,λ p hp=>absurd (show p∈([]:List (Addr×Obj)) from hp) (by simp)⟩
  rcases turn i n H5 w5 with⟨stop,qn⟩|⟨go,N,hN,step⟩
  ·refine wpAny_bind (wpAny_standAt (wpAny_bind (B3 (T.done (E6 X N' scope cl s3.heap.objs.size s3 (AD H2 s2.heap.objs.size (.lst [])) fp) rfl rfl rfl hc i [] s5 _ H5 _ I5 (ff fr5) st5 stop) λ r s6 z9=>?_)));obtain⟨hr,I6⟩ := z9;subst hr;refine wpAny_pure ?_;obtain⟨m,hn,_⟩:=id I6.loc;exact fin _ _ _ _ (jE I3 f3 fpl3 I6 (Heap.SameBut.refl _ _)) (I3.fpOk (BU _) I6.free) ⟨m,hn⟩ qn
  ·refine wpAny_bind (wpAny_standAt (wpAny_bind (B3 (T.item (E6 X N' scope cl s3.heap.objs.size s3 (AD H2 s2.heap.objs.size (.lst [])) fp) rfl rfl rfl hc i [] s5 _ H5 _ I5 (ff fr5) st5 go) λ r s6 z9=>?_)));obtain⟨u,hr,h6⟩ := z9;subst hr;refine wpAny_bind (B3 h6 λ _ s7 z9=>?_);obtain⟨x,H7,I7,r7,y7,st7,fr7⟩ := z9;have I7':=I7.pinned (ff fr7) (T.obj _ _ st7);refine wpAny_bind (wpAny_mono (hg _ _ _ _ _ s7 _ H7 x u _ I7' r7 (step x H7 y7)) (λ _ s8 z9=>?_) λ _ _ f=>f.elim);obtain⟨σ8,H8,I8,kp,q8⟩ := z9;have q8':te σ8 H8 λ y H6=>∃ys,H6 s2.heap.objs.size=some (.lst ys)/\ys.length<sizeLine/\N (AD H6 s2.heap.objs.size (.lst (ys++[y]))):=by
    have z:=q8;unfold EC at z;dsimp only at z;rw[if_pos rfl] at z;exact z
   refine wpAny_bind (wpAny_bind (wpAny_mono (he _ _ _ _ _ s8 σ8 H8 _ I8 q8') (λ y s9 z9=>?_) λ _ _ f=>f.elim));obtain⟨y',H9,I9,r9,ys,hD,hl,n9⟩ := z9;refine wpAny_bind (wpAny_mono (aV (X:=E6 X N' scope cl s3.heap.objs.size s3 (AD H2 s2.heap.objs.size (.lst [])) fp) _ s9 σ8 H9 (.ref s2.heap.objs.size) [y'] (.ref s2.heap.objs.size) [y] (λ _ H'=>N H') I9 rfl (.cons r9 .nil) ⟨_,ys,y',rfl,rfl,hD,hl,n9⟩) (λ _ s10 z9=>?_) λ _ _ f=>f.elim);obtain⟨_,H10,I10,_,n10⟩ := z9;exact wpAny_pure (wpAny_pure ⟨rfl,bB T hN st7 I10 kp (I5.len.trans I10.len.symm) n10⟩)
 exact codeAny_compStart_list loop (T.self X.A 0 _ _ _ st1 loop)
theorem wZ{pos' cpos:Pos}{c:Expr}(hN:X.N.Nodup)(hix:X.N[i]?=some x)(hx:VZ X.env.scope x)(B:BlkOk X N' scope cl caps)(hc:X.calm=true)(hi:PI X tg iter wi)(hg:∀C s0 H0 fp,PG (E6 X N' scope cl C s0 H0 fp) tg g)(he:∀C s0 H0 fp,PE (E6 X N' scope cl C s0 H0 fp) elt te)
  (hs:∀x,foldedSetIterable iter X.env x=pure x:=by intro _;rfl) (hsw:swapsWith (.ListComp elt [⟨tg,iter,[],0⟩] scope cpos) (some (.Name x pos')) pos.line X.env=pure true:=by rfl) (hf:X.fn x=true\/X.env.scope.names.lookup x=some .local:=by first|exact .inl rfl|exact .inr rfl|assumption) :
  PS X (.Assign [.Name x pos'] (.ListComp elt [⟨tg,iter,[],0⟩] scope cpos) pos) (OC (HU wi caps g EC te) (GP i)):=by
 intro pins s σ H D I h;rw[exec_Assign_Name_used _ _ _ _ hsw];refine wpAny_bind (wpAny_standAt (wpAny_bind ?_));refine wpAny_bind (B3 (UR (use:=some (assign (.Name x pos') X.env)) (QQ:=λ _ s'=>SP X pins D .next s') B hc hi hg he hs I h ?_) λ _ s' q=>wpAny_pure (wpAny_pure q));intro Da C s6 H5 I6 fC z9 q;obtain⟨m,hn⟩ := z9;show wpAny _ _ (assign (.Name x pos') X.env (.ref Da)) _ _ s6;obtain⟨o,es,ep,eo,ed,k1,k2⟩:=hn;have I6':=I6.pinned (fp:=[C]) (λ b hb=>by rw[D8.mp hb];exact fC) (λ b hb=>⟨o,by rw[D8.mp hb];exact eo,λ v z=>by rw[ed] at z;cases z⟩);refine B3 (MF (pos:=pos') hN hix hx hf _ s6 σ H5 (.ref Da) (.ref Da) D.nx I6' rfl q) λ _ s7 z9=>?_
 obtain⟨σ7,H7,I7,q7⟩ := z9;have e7:=I7.pin (C,o) (GR _ (GR _ (SK (by simp) eo)));exact⟨m,⟨o,es,ep,e7.1,ed,k1,k2⟩,λ h' sb=>⟨σ7,H7,Inv.turned (t':=s7.toks) (it:=C) I7.unpinned (λ b o hb e=>sb.extBut b o hb e) e7.2.1 fC.2.1 fC.2.2.2.1 fC.2.2.2.2.1 fC.2.2.2.2.2,q7⟩⟩
theorem Y7{pos' cpos:Pos}(N':List Str)(caps:List (Option Nat))(hN:X.N.Nodup)(hix:X.N[i]?=some x)(hx:VZ X.env.scope x)(B:BlkOk X N' scope cl caps)(hc:X.calm=true)(hi:QI X tg iter wi)(hg:∀C s0 H0 fp,QG (E6 X N' scope cl C s0 H0 fp) tg g)(he:∀C s0 H0 fp,QE (E6 X N' scope cl C s0 H0 fp) elt te)
  (hs:∀x,foldedSetIterable iter X.env x=pure x:=by intro _;rfl) (hsw:swapsWith (.ListComp elt [⟨tg,iter,[],0⟩] scope cpos) (some (.Name x pos')) pos.line X.env=pure true:=by rfl) (hf:X.fn x=true\/X.env.scope.names.lookup x=some .local:=by first|exact .inl rfl|exact .inr rfl|assumption) :
  QS X (.Assign [.Name x pos'] (.ListComp elt [⟨tg,iter,[],0⟩] scope cpos) pos) (OC (HU wi caps g EC te) (GP i)) :=
 ⟨wZ (c:=elt) hN hix hx B hc hi.run (λ C s0 H0 fp=>(hg C s0 H0 fp).run) (λ C s0 H0 fp=>(he C s0 H0 fp).run) hs hsw hf⟩
end
def EV(ns:List Int)(i:Nat):Int:=(ns[i]?).getD 0
theorem ZH{ns:List Int}{its:List Value}(r:Vals (ns.map V.int) its){v:Value}(h:its[i]?=some v):∃t,v=.int (EV ns i) t:=by
 have hl:=r.length;rw[BY] at hl;have hi:i<ns.length:=by
  have:=(CP.mp h).1;omega
 obtain⟨u,hu,ru⟩:=r.get (i:=i) (x:=.int ns[i]) (by rw[EH,BK hi];rfl);rw[h] at hu;cases hu;obtain⟨t,e⟩:=ru;exact⟨t,by rw[e];unfold EV;rw[BK hi];rfl⟩
theorem MG(f:Nat->Int):∀k,argBest (λ i j=>decide (f i<f j)) k<=k/\∀i,i<=k->f (argBest (λ i j=>decide (f i<f j)) k)<=f i
 |0=>⟨BU _,λ i hi=>by
  have:i=0:=⋯;subst this;exact DY _⟩
 |k+1=>by
  obtain⟨h1,h2⟩:=MG f k;simp only[argBest]
  by_cases c:f (k+1)<f (argBest (λ i j=>decide (f i<f j)) k)
  ·rw[if_pos (CB c)];refine⟨BU _,λ i hi=>?_⟩;rcases(by omega:i<=k\/i=k+1) with z|z
   ·have:=h2 i z;omega
   ·rw[z];exact DY _
  ·rw[if_neg (λ z=>c (D6 z))];refine⟨⋯,λ i hi=>?_⟩;rcases(by omega:i<=k\/i=k+1) with z|z
   ·exact h2 i z
   ·rw[z];omega
theorem MB(f:Nat->Int):∀k,argBest (λ i j=>decide (f i>f j)) k<=k/\∀i,i<=k->f i<=f (argBest (λ i j=>decide (f i>f j)) k)
 |0=>⟨BU _,λ i hi=>by
  have:i=0:=⋯;subst this;exact DY _⟩
 |k+1=>by
  obtain⟨h1,h2⟩:=MB f k;simp only[argBest]
  by_cases c:f (k+1)>f (argBest (λ i j=>decide (f i>f j)) k)
  ·rw[if_pos (CB c)];refine⟨BU _,λ i hi=>?_⟩;rcases(by omega:i<=k\/i=k+1) with z|z
   ·have:=h2 i z;omega
   ·rw[z];exact DY _
  ·rw[if_neg (λ z=>c (D6 z))];refine⟨⋯,λ i hi=>?_⟩;rcases(by omega:i<=k\/i=k+1) with z|z
   ·exact h2 i z
   ·rw[z];omega
theorem nZ{ns:List Int}(h:i<ns.length):EV ns i∈ns:=by
 unfold EV;rw[BK h];exact KR h
theorem l7{ns:List Int}{x:Int}(h:x∈ns):∃i,i<ns.length/\EV ns i=x:=by
 obtain⟨i,hi,e⟩:=rE.mp h;exact⟨i,hi,by unfold EV;rw[BK hi,e];rfl⟩
end L2
namespace My
open PySem L2
variable {P a l p:Addr}{o:HO}{H H' H1:Hp}{R:List T3}{vs xs zs:List V}{n:Nat}{x:V}{K:W.Frag}
def pV(H:Hp)(r:Addr)(a b c:Int):Prop:=H r=some (.tup [.int a,.int b,.int c])
theorem BD(h:H p=none)(o:HO):Same H (AD H p o):=λ b u q=>by rw[AJ (DW q h)];exact q
theorem pB(hp:H p=none)(hg:AD H p o=H'):Same H H'/\H' p=some o:=by
 subst hg;exact⟨BD hp o,AI⟩
theorem VE{ns:List Int}{k:Int}(h0:0<=k)(h:k<(ns.length:Int)):∃v:Int,DK (ns.map V.int) k=some (.int v):=by
 have hk:k.toNat<ns.length:=⋯;have ek:k=((k.toNat:Nat):Int):=⋯;have q:DK (ns.map V.int) ((k.toNat:Nat):Int)=some (.int ns[k.toNat]):=F6 (by rw[EH,BK hk]<;>rfl);rw[<- ek] at q;exact⟨_,q⟩
theorem D2{c A B:Prop} [Decidable c](h:c)(x:A):if c then A else B:=by
 rw[if_pos h];exact x
theorem CU{c A B:Prop} [Decidable c](h:¬c)(x:B):if c then A else B:=by
 rw[if_neg h];exact x
theorem HJ:((10:Int) ^ (15:Int).toNat)=1000000000000000:=by decide +kernel
inductive spCell(K:W.Frag)(vs:List V)(H:Hp)(Q:VK)(z3q:XK):Prop
 |mk (a:Addr) (ns:List Int) (k:Int):vs=[.ref a,.int k]->SqL K H a (ns.map V.int)->0<=k->(∀c:Int,Q (.int c) H)->spCell K vs H Q z3q
inductive spDay(vs:List V)(H:Hp)(Q:VK)(z3q:XK):Prop
 |mk (c:Int):vs=[.int c]->(∀(d:Int)(H':Hp),1<=d->d<=1000000000000000->Same H H'->Q (.int d) H')->spDay vs H Q z3q
open Ma (T3 rA rB rC)
def qQ(R:List T3)(i:Nat):HO:=.tup [.int (rA R i),.int (rB R i),.int (rC R i)]
structure RowsAt(H:Hp)(p:Addr)(R:List T3):Prop where
 ex:∃rs:List Addr,H p=some (.lst (rs.map V.ref))/\rs.length=R.length/\∀(i:Nat) r,rs[i]?=some r->H r=some (qQ R i)
theorem RowsAt.mono(h:RowsAt H p R)(s:∀b o,H b=some o->(∀z,o ≠ .tbl z)->H' b=some o):RowsAt H' p R:=by
 obtain⟨rs,h1,h2,h3⟩:=h.ex;exact⟨rs,s _ _ h1 (λ _ z=>nomatch z),h2,λ i r e=>s _ _ (h3 i r e) (λ _ z=>nomatch z)⟩
theorem RowsAt.at(h:RowsAt H p R):∃xs:List V,SqL K H p xs/\xs.length=R.length/\∀k:Int,0<=k->k<(R.length:Int)->∃r,DK xs k=some (.ref r)/\H r=some (qQ R k.toNat):=by
 obtain⟨rs,h1,h2,h3⟩:=h.ex;refine⟨rs.map V.ref,SqL.of h1,by rw[BY,h2],λ k k0 k1=>?_⟩;have hk:k.toNat<rs.length:=⋯;have ek:k=((k.toNat:Nat):Int):=⋯;have q:DK (rs.map V.ref) ((k.toNat:Nat):Int)=some (.ref rs[k.toNat]):=F6 (by rw[EH];simp[hk]);rw[<- ek] at q;exact⟨rs[k.toNat],q,h3 _ _ (BK hk)⟩
theorem cD{rs:List Addr}{i:Nat}{y:V}(h:(rs.map V.ref)[i]?=some y):∃r,y=V.ref r/\rs[i]?=some r:=by
 rw[EH] at h;cases e:rs[i]? with
 |none=>rw[e] at h;cases h
 |some z=>rw[e] at h;exact⟨z,(Option.some.inj h).symm,rfl⟩
def FO(R:List T3):List PyData:=R.map λ t=>.tuple [.int t.1,.int t.2.1,.int t.2.2]
theorem qA:∀R:List T3,PyData.canLayAll0 (FO R)=true
 | []=>by simp[FO,PyData.canLayAll0]
 |_::r=>by
  have:=qA r;simp only[FO,PZ] at this ⊢;simp[PyData.canLayAll0,PyData.canLay0,this]
theorem oZ:∀R:List T3,PyData.depthAll (FO R)<=2
 | []=>by simp[FO,PyData.depthAll]
 |_::r=>by
  have:=oZ r;simp only[FO,PZ] at this ⊢;simp only[PyData.depthAll,PyData.depth];omega
theorem sF(R:List T3):SeqAt.shaped (.list (FO R))=true:=by
 have h1:=qA R;have h2:=oZ R;have h3:PyData.depth (.list (FO R))<=64:=by simp only[PyData.depth];omega
 show(PyData.canLay0 (.list (FO R))&&decide (PyData.depth (.list (FO R))<=64))=true;rw[KH];exact⟨by simp only[PyData.canLay0];exact h1,CB h3⟩
theorem nA:SeqAt.shaped (.list [])=true:=sF []
theorem WK{pos:Pos}{q:Str}(h:H P=some (.tbl #[])):TabOk H P pos q:=⟨#[],h,trivial,.inl rfl⟩
structure LA{α:Type}(enc:α->List V)(H:Hp)(p:Addr)(xs:List α):Prop where
 ex:∃rs:List Addr,H p=some (.lst (rs.map V.ref))/\rs.length=xs.length/\∀(i:Nat) r x,rs[i]?=some r->xs[i]?=some x->H r=some (.tup (enc x))
section
variable {α:Type}{enc:α->List V}{H H':Hp}{p q r:Addr}{xs ys:List α}{vs ws:List V}
theorem LA.nil(h:H p=some (.lst [])):LA enc H p []:=⟨[],h,rfl,λ i r x e=>by cases i<;>cases e⟩
theorem LA.mono(h:LA enc H p xs)(s:∀b o,H b=some o->(∀z,o ≠ .tbl z)->H' b=some o):LA enc H' p xs:=by
 obtain⟨rs,h1,h2,h3⟩:=h.ex;exact⟨rs,s _ _ h1 (λ _ z=>nomatch z),h2,λ i r x e e'=>s _ _ (h3 i r x e e') (λ _ z=>nomatch z)⟩
theorem LA.same(h:LA enc H p xs)(s:Same H H'):LA enc H' p xs:=h.mono λ b o e _=>s b o e
theorem LA.lst(h:LA enc H p xs):∃vs,H p=some (.lst vs)/\vs.length=xs.length/\∀(i:Nat) y,vs[i]?=some y->∃r x,y=.ref r/\xs[i]?=some x/\H r=some (.tup (enc x)):=by
 obtain⟨rs,h1,h2,h3⟩:=h.ex;refine⟨_,h1,by rw[BY,h2],λ i y e=>?_⟩;obtain⟨r,rfl,er⟩:=cD e;have hi:i<xs.length:=by
  have:=(CP.mp er).1;omega
 exact⟨r,xs[i],U,BK hi,h3 i r _ er (BK hi)⟩
theorem LA.of(h:H p=some (.lst vs))(l:vs.length=xs.length)(g:∀(i:Nat) y,vs[i]?=some y->∃r,y=.ref r/\∀x,xs[i]?=some x->H r=some (.tup (enc x))):LA enc H p xs:=by
 have go:∀(vs:List V),(∀(i:Nat) y,vs[i]?=some y->∃r,y=V.ref r)->∃rs:List Addr,vs=rs.map V.ref:=by
  intro vs
  induction vs with
  |nil=>intro _;exact⟨[],rfl⟩
  |cons v vs ih =>
   intro g;obtain⟨r,e⟩:=g 0 v rfl;obtain⟨rs,e2⟩:=ih λ i y e=>g (i+1) y (by simpa using e)
   exact⟨r::rs,by rw[e,e2];rfl⟩
 obtain⟨rs,e⟩:=go vs λ i y e=>by
  obtain⟨r,e1,_⟩:=g i y e;exact⟨r,e1⟩
 subst e;refine⟨rs,h,by rw[BY] at l;exact l,λ i r x e1 e2=>?_⟩;obtain⟨r',e3,e4⟩:=g i (.ref r) (by rw[EH,e1];rfl);cases e3;exact e4 x e2
theorem LA.append{x:α}(h:LA enc H p xs)(hx:H p=some (.lst vs))(hr:H r=some (.tup (enc x))):LA enc (AD H p (.lst (vs++[.ref r]))) p (xs++[x]):=by
 obtain⟨vs',h1,h2,h3⟩:=h.lst;rw[h1] at hx;cases hx;have ne:∀q (ys:List V),H q=some (.tup ys)->q≠p:=λ q ys e z=>by rw[z,h1] at e;cases e
 refine LA.of AI (by simp[h2]) λ i y e=>?_
 rcases(by omega:i<vs.length\/vs.length<=i) with hi|hi
 ·rw[GF hi] at e;obtain⟨r',x',e1,e2,e3⟩:=h3 i y e;refine⟨r',e1,λ x2 e4=>?_⟩;rw[GF ⋯,e2] at e4;cases e4;rw[AJ (ne r' _ e3)];exact e3
 ·rw[GM hi] at e;have ei:i-vs.length=0:=by
   have:=(CP.mp e).1;simp at this;omega
  rw[ei] at e;have e':V.ref r=y:=by simpa using e
  refine⟨r,e'.symm,λ x2 e4=>?_⟩;rw[GM ⋯,show i-xs.length=0 by omega] at e4;have e5:x=x2:=by simpa using e4
  subst e5;rw[AJ (ne r _ hr)];exact hr
theorem LA.extend(h:LA enc H p xs)(h':LA enc H q ys)(hx:H p=some (.lst vs))(hy:H q=some (.lst ws)):LA enc (AD H p (.lst (vs++ws))) p (xs++ys):=by
 obtain⟨vs',h1,h2,h3⟩:=h.lst;obtain⟨ws',k1,k2,k3⟩:=h'.lst;rw[h1] at hx;cases hx;rw[k1] at hy;cases hy;have ne:∀q (ys:List V),H q=some (.tup ys)->q≠p:=λ q ys e z=>by rw[z,h1] at e;cases e
 refine LA.of AI (by simp[h2,k2]) λ i y e=>?_
 rcases(by omega:i<vs.length\/vs.length<=i) with hi|hi
 ·rw[GF hi] at e;obtain⟨r',x',e1,e2,e3⟩:=h3 i y e;refine⟨r',e1,λ x2 e4=>?_⟩;rw[GF ⋯,e2] at e4;cases e4;rw[AJ (ne r' _ e3)];exact e3
 ·rw[GM hi] at e;obtain⟨r',x',e1,e2,e3⟩:=k3 _ y e;refine⟨r',e1,λ x2 e4=>?_⟩;rw[GM ⋯,show i-xs.length=i-vs.length by omega,e2] at e4;cases e4;rw[AJ (ne r' _ e3)];exact e3
theorem LA.cat(h:LA enc H p xs)(h':LA enc H q ys)(hx:H p=some (.lst vs))(hy:H q=some (.lst ws))(hr:H r=none):LA enc (AD H r (.lst (vs++ws))) r (xs++ys):=by
 obtain⟨vs',h1,h2,h3⟩:=h.lst;obtain⟨ws',k1,k2,k3⟩:=h'.lst;rw[h1] at hx;cases hx;rw[k1] at hy;cases hy;have ne:∀q o,H q=some o->q≠r:=λ q o e=>DW e hr
 refine LA.of AI (by simp[h2,k2]) λ i y e=>?_
 rcases(by omega:i<vs.length\/vs.length<=i) with hi|hi
 ·rw[GF hi] at e;obtain⟨r',x',e1,e2,e3⟩:=h3 i y e;refine⟨r',e1,λ x2 e4=>?_⟩;rw[GF ⋯,e2] at e4;cases e4;rw[AJ (ne r' _ e3)];exact e3
 ·rw[GM hi] at e;obtain⟨r',x',e1,e2,e3⟩:=k3 _ y e;refine⟨r',e1,λ x2 e4=>?_⟩;rw[GM ⋯,show i-xs.length=i-vs.length by omega,e2] at e4;cases e4;rw[AJ (ne r' _ e3)];exact e3
theorem LA.setAt{x:α}{j:Nat}(h:LA enc H p xs)(hx:H p=some (.lst vs))(hr:H r=some (.tup (enc x))):LA enc (AD H p (.lst (vs.set j (.ref r)))) p (xs.set j x):=by
 obtain⟨vs',h1,h2,h3⟩:=h.lst;rw[h1] at hx;cases hx;have ne:∀q (ys:List V),H q=some (.tup ys)->q≠p:=λ q ys e z=>by rw[z,h1] at e;cases e
 refine LA.of AI (by simp[h2]) λ i y e=>?_
 rw[gG] at e
 by_cases c:j=i
 ·rw[if_pos c] at e;split at e
  ·have e':V.ref r=y:=by simpa using e
   refine⟨r,e'.symm,λ x2 e4=>?_⟩;rw[gG,if_pos c] at e4;split at e4
   ·have e5:x=x2:=by simpa using e4
    subst e5;rw[AJ (ne r _ hr)];exact hr
   ·cases e4
  ·cases e
 ·rw[if_neg c] at e;obtain⟨r',x',e1,e2,e3⟩:=h3 i y e;refine⟨r',e1,λ x2 e4=>?_⟩;rw[gG,if_neg c,e2] at e4;cases e4;rw[AJ (ne r' _ e3)];exact e3
theorem LA.copy(h:LA enc H p xs)(s:Same H H')(hx:H p=some (.lst vs))(e:H' q=some (.lst vs)):LA enc H' q xs:=by
 obtain⟨rs,h1,h2,h3⟩:=h.ex;rw[h1] at hx;cases hx;exact⟨rs,e,h2,λ i r x e1 e2=>s _ _ (h3 i r x e1 e2)⟩
theorem LA.at{K:W.Frag}(h:LA enc H p xs):∃vs:List V,H p=some (.lst vs)/\vs.length=xs.length/\∀(k:Nat) x,xs[k]?=some x->∃r,DK vs (k:Int)=some (.ref r)/\H r=some (.tup (enc x)):=by
 obtain⟨vs,h1,h2,h3⟩:=h.lst;refine⟨vs,h1,h2,λ k x e=>?_⟩;have hk:k<vs.length:=by
  have:=(CP.mp e).1;omega
 obtain⟨r,x',e1,e2,e3⟩:=h3 k _ (BK hk);rw[e] at e2;cases e2;exact⟨r,F6 (by rw[BK hk,e1]),e3⟩
end
theorem lX(h:vs≠[]):DK vs (-1)=vs[vs.length-1]?:=by
 have hl:0<vs.length:=zI.mpr h;unfold DK J7;rw[if_neg ⋯,if_pos ⋯];show vs[(-1+(vs.length:Int)).toNat]?=_;congr 1;omega
section
variable {α:Type}{D:α->PyData}
theorem pL [DecidableEq α](hD:∀x y,PyData.eqv (D x) (D y)=decide (x=y)):∀xs ys:List α,PyData.eqvAll (xs.map D) (ys.map D)=decide (xs=ys)
 | [],[]=>by simp[PyData.eqvAll]
 | [],y::ys=>by simp[PyData.eqvAll]
 |x::xs,[]=>by simp[PyData.eqvAll]
 |x::xs,y::ys=>by
  have ih:=pL hD xs ys;simp only[PZ,PyData.eqvAll,ih,hD]
  by_cases c:x=y<;>by_cases c':xs=ys<;>simp[c,c']
theorem mQ [DecidableEq α](hD:∀x y,PyData.eqv (D x) (D y)=decide (x=y))(xs ys:List α):PyData.eqv (.list (xs.map D)) (.list (ys.map D))=decide (xs=ys):=by
 simp only[PyData.eqv];exact pL hD xs ys
theorem jX(h:∀x,PyData.canLay0 (D x)=true):∀xs:List α,PyData.canLayAll0 (xs.map D)=true
 | []=>by simp[PyData.canLayAll0]
 |x::xs=>by
  have:=jX h xs;simp[PyData.canLayAll0,h,this]
theorem iG{n:Nat}(h:∀x,PyData.depth (D x)<=n):∀xs:List α,PyData.depthAll (xs.map D)<=n
 | []=>by simp[PyData.depthAll]
 |x::xs=>by
  have:=iG h xs;have:=h x;simp only[PZ,PyData.depthAll];omega
theorem nI(h:∀x,PyData.canLay0 (D x)=true)(h2:∀x,PyData.depth (D x)<=n)(hn:n<=60)(xs:List α):SeqAt.shaped (.list (xs.map D))=true:=by
 have h3:=iG h2 xs;show(PyData.canLay0 (.list (xs.map D))&&decide (PyData.depth (.list (xs.map D))<=64))=true;rw[KH];exact⟨by simp only[PyData.canLay0];exact jX h xs,CB (by simp only[PyData.depth];omega)⟩
theorem LA.rd{enc:α->List V}{ds:α->List PyData}{xs:List α}(h:LA enc H p xs)(hd:∀x,RdAll K H (enc x) (ds x)):RdV K H (.ref p) (.list (xs.map λ x=>.tuple (ds x))):=by
 obtain⟨rs,h1,h2,h3⟩:=h.ex;refine .lst (SqL.of h1) ?_;have go:∀(rs:List Addr)(xs:List α),rs.length=xs.length->(∀(i:Nat) r x,rs[i]?=some r->xs[i]?=some x->H r=some (.tup (enc x)))->RdAll K H (rs.map V.ref) (xs.map λ x=>.tuple (ds x)):=by
  intro rs
  induction rs with
  |nil =>
   intro xs hl _;cases xs with
   |nil=>exact .nil
   |cons x xs=>cases hl
  |cons r rs ih =>
   intro xs hl g;cases xs with
   |nil=>cases hl
   |cons x xs=>exact .cons (.tup (SqT.of (g 0 r x rfl rfl)) (hd x)) (ih xs (by simpa using hl) λ i r' x' e1 e2=>g (i+1) r' x' (by simpa using e1) (by simpa using e2))
 exact go rs xs h2 h3
end
open Ma (T4)
def AQ(t:T3):List V:=[.int t.1,.int t.2.1,.int t.2.2]
def DF(t:T4):List V:=[.int t.1,.int t.2.1,.bl t.2.2.1,.int t.2.2.2]
def JO(t:T3):PyData:=.tuple [.int t.1,.int t.2.1,.int t.2.2]
theorem sI(x y:T3):PyData.eqv (JO x) (JO y)=decide (x=y):=by
 obtain⟨a,b,c⟩:=x;obtain⟨a',b',c'⟩:=y;simp only[JO,PyData.eqv,PyData.eqvAll,Prod.mk.injEq]
 by_cases c1:a=a'<;>by_cases c2:b=b'<;>by_cases c3:c=c'<;>simp[c1,c2,c3]
theorem Bw(h:LA AQ H p R):RdV K H (.ref p) (.list (R.map JO)):=h.rd λ x=>.cons (.int _) (.cons (.int _) (.cons (.int _) .nil))
theorem LA.rows(h:LA AQ H p R):RowsAt H p R:=by
 obtain⟨rs,h1,h2,h3⟩:=h.ex;refine⟨rs,h1,h2,λ i r e1=>?_⟩;have hi:i<R.length:=by
  have:=(CP.mp e1).1;omega
 exact h3 i r _ e1 (Ma.r_at hi)
inductive Dv(H:Hp):V->Prop
 |non:Dv H .non
 |bl (b:Bool):Dv H (.bl b)
 |int (i:Int):Dv H (.int i)
 |str (x:Str):Dv H (.str x)
 |lst {a:Addr} {xs:List V}:H a=some (.lst xs)->Dv H (.ref a)
 |tup {a:Addr} {xs:List V}:H a=some (.tup xs)->Dv H (.ref a)
def EK:V->Bool
 | .int _=>true
 |_=>false
def DB(H:Hp):V->Option (List V)
 | .ref a=>match H a with
  |some (.tup xs)=>some xs
  |_=>none
 |_=>none
def DI(H:Hp):V->Option (List V)
 | .ref a=>match H a with
  |some (.lst xs)=>some xs
  |_=>none
 |_=>none
theorem gX(h:H a=some (.tup xs)):DB H (.ref a)=some xs:=by simp[DB,h]
theorem bH(h:H a=some (.lst xs)):DI H (.ref a)=some xs:=by simp[DI,h]
theorem RB(h:DB H x=some xs):∃a,x=.ref a/\H a=some (.tup xs):=by
 unfold DB at h;split at h
 ·rename_i a
  split at h
  ·rename_i ys e
   cases h;exact⟨a,U,e⟩
  ·cases h
 ·cases h
theorem V7(h:DI H x=some xs):∃a,x=.ref a/\H a=some (.lst xs):=by
 unfold DI at h;split at h
 ·rename_i a
  split at h
  ·rename_i ys e
   cases h;exact⟨a,U,e⟩
  ·cases h
 ·cases h
theorem Dv.same(h:Dv H x)(s:Same H H'):Dv H' x:=by
 cases h with
 |non=>exact .non
 |bl b=>exact .bl b
 |int i=>exact .int i
 |str x=>exact .str x
 |lst e=>exact .lst (s _ _ e)
 |tup e=>exact .tup (s _ _ e)
theorem Dv.tupV_same(h:Dv H x)(s:Same H H'):DB H' x=DB H x:=by
 cases h with
 |non=>rfl
 |bl b=>rfl
 |int i=>rfl
 |str x=>rfl
 |lst e=>simp[DB,e,s _ _ e]
 |tup e=>simp[DB,e,s _ _ e]
theorem Dv.lstV_same(h:Dv H x)(s:Same H H'):DI H' x=DI H x:=by
 cases h with
 |non=>rfl
 |bl b=>rfl
 |int i=>rfl
 |str x=>rfl
 |lst e=>simp[DI,e,s _ _ e]
 |tup e=>simp[DI,e,s _ _ e]
theorem Dv.isTup(h:Dv H x):∃t,TyOf K H x t/\W.kitOne K t (.type "tuple")=some (DB H x).isSome:=by
 cases h with
 |non=>exact⟨_,.non,rfl⟩
 |bl b=>exact⟨_,.bl b,rfl⟩
 |int i=>exact⟨_,.int i,rfl⟩
 |str x=>exact⟨_,.str x,rfl⟩
 |lst e=>exact⟨_,.lst e,by simp only[DB,e];rfl⟩
 |tup e=>exact⟨_,.tup e,by simp only[DB,e];rfl⟩
theorem Dv.isLst(h:Dv H x):∃t,TyOf K H x t/\W.kitOne K t (.type "list")=some (DI H x).isSome:=by
 cases h with
 |non=>exact⟨_,.non,rfl⟩
 |bl b=>exact⟨_,.bl b,rfl⟩
 |int i=>exact⟨_,.int i,rfl⟩
 |str x=>exact⟨_,.str x,rfl⟩
 |lst e=>exact⟨_,.lst e,by simp only[DI,e];rfl⟩
 |tup e=>exact⟨_,.tup e,by simp only[DI,e];rfl⟩
def Dv2(H:Hp)(x:V):Prop:=Dv H x/\∀zs,DB H x=some zs->∀z∈zs,Dv H z
theorem Dv2.same{H H':Hp}{x:V}(h:Dv2 H x)(s:Same H H'):Dv2 H' x:=⟨h.1.same s,λ zs e z hz=>(h.2 zs (by rw[<- h.1.tupV_same s];exact e) z hz).same s⟩
def JZ(day:Int):List V->Bool
 | [.int a,.int b,.int c]=>decide (0<=a)&&(decide (a<=b)&&(decide (b<day)&&decide (0<=c)))
 |_=>false
def EJ(H:Hp)(day:Int)(x:V):Bool:=match DB H x with
 |some xs=>JZ day xs
 |none=>false
theorem Dv.winV_same(h:Dv H x)(s:Same H H')(day:Int):EJ H' day x=EJ H day x:=by
 unfold EJ;rw[h.tupV_same s]
def GS(H:Hp)(day:Int)(x:V):Bool:=match DI H x with
 |some xs=>xs.all (EJ H day)
 |none=>false
inductive spIsWhole(vs:List V)(H:Hp)(Q:VK)(z3q:XK):Prop
 |mk (x:V):vs=[x]->Dv H x->Q (.bl (EK x)) H->spIsWhole vs H Q z3q
inductive spWindow(vs:List V)(H:Hp)(Q:VK)(z3q:XK):Prop
 |mk (day:Int) (x:V):vs=[.int day,x]->Dv2 H x->(∀H',Same H H'->Q (.bl (EJ H day x)) H')->spWindow vs H Q z3q
def Dv3(H:Hp)(x:V):Prop:=Dv H x/\∀xs,DI H x=some xs->xs.length<=1000/\∀y∈xs,Dv2 H y
inductive spBoard(vs:List V)(H:Hp)(Q:VK)(z3q:XK):Prop
 |mk (day:Int) (x:V):vs=[.int day,x]->Dv3 H x->(∀H',Same H H'->Q (.bl (GS H day x)) H')->spBoard vs H Q z3q
theorem V3{α β:Type}{xs:List α}{i:Nat}{y:α}(f:α->β)(h:xs[i]?=some y):(xs.take (i+1)).map f=(xs.take i).map f++[f y]:=by
 rw[RG,h,HA];rfl
theorem dG{α:Type}:∀{xs:List α},xs.length=3->∃u v w,xs=[u,v,w]
 | [u,v,w],_=>⟨u,v,w,rfl⟩
theorem T8(h:EK x=true):∃i,x=.int i:=by
 cases x<;>first|exact⟨_,rfl⟩|cases h
inductive Ev(H:Hp):Nat->V->Prop
 |non {n:Nat}:Ev H n .non
 |bl {n:Nat} (b:Bool):Ev H n (.bl b)
 |int {n:Nat} (i:Int):Ev H n (.int i)
 |str {n:Nat} {x:Str}:PyData.strOk x=true->Ev H n (.str x)
 |lst {n:Nat} {a:Addr} {xs:List V}:H a=some (.lst xs)->(∀y∈xs,Ev H n y)->Ev H (n+1) (.ref a)
 |tup {n:Nat} {a:Addr} {xs:List V}:H a=some (.tup xs)->(∀y∈xs,Ev H n y)->Ev H (n+1) (.ref a)
theorem Ev.dv(h:Ev H n x):Dv H x:=by
 cases h with
 |non=>exact .non
 |bl b=>exact .bl b
 |int i=>exact .int i
 |str h=>exact .str _
 |lst e _=>exact .lst e
 |tup e _=>exact .tup e
theorem Ev.parts(h:Ev H (n+1) x)(e:DB H x=some zs):∀z∈zs,Ev H n z:=by
 obtain⟨a,rfl,ea⟩:=RB e;cases h with
 |lst e2 _=>rw[ea] at e2;cases e2
 |tup e2 p=>rw[ea] at e2;cases e2;exact p
theorem Ev.items(h:Ev H (n+1) x)(e:DI H x=some zs):∀z∈zs,Ev H n z:=by
 obtain⟨a,rfl,ea⟩:=V7 e;cases h with
 |tup e2 _=>rw[ea] at e2;cases e2
 |lst e2 p=>rw[ea] at e2;cases e2;exact p
theorem Ev.d2(h:Ev H (n+1) x):Dv2 H x:=⟨h.dv,λ zs e z hz=>(h.parts e z hz).dv⟩
theorem Ev.d3(h:Ev H (n+2) x)(l:∀zs,DI H x=some zs->zs.length<=1000):Dv3 H x:=⟨h.dv,λ zs e=>⟨l zs e,λ z hz=>(h.items e z hz).d2⟩⟩
theorem Same.seqT(e:Same H H')(h:SqT K H a xs):SqT K H' a xs:=by
 rcases h with(h|⟨o,h⟩)|h
 ·exact .inl (.inl (e _ _ h))
 ·exact .inl (.inr ⟨o,e _ _ h⟩)
 ·exact .inr h
mutual
theorem UA{K:W.Frag}{H H':Hp}(s:Same H H'):∀{x:V}{d:PyData},RdV K H x d->RdV K H' x d
 |_,_,.non=>.non
 |_,_,.bl b=>.bl b
 |_,_,.int i=>.int i
 |_,_,.str x=>.str x
 |_,_,.lst h a=>.lst (s.seq h) (qmp9 s a)
 |_,_,.tup h a=>.tup (Same.seqT s h) (qmp9 s a)
theorem qmp9{K:W.Frag}{H H':Hp}(s:Same H H'):∀{xs:List V}{ds:List PyData},RdAll K H xs ds->RdAll K H' xs ds
 |_,_,.nil=>.nil
 |_,_,.cons h1 h2=>.cons (UA s h1) (qmp9 s h2)
end
theorem jB(xs:List V):GT xs (some 1) none=xs.drop 1:=by
 unfold GT;cases xs with
 |nil=>simp
 |cons x r =>
  have e1:HT.sIx (x::r).length 0 (some 1)=1:=by
   simp[HT.sIx]
  have e2:HT.sIx (x::r).length (x::r).length none=(x::r).length:=rfl;rw[e1,e2];simp
def B9:Option Int->V
 |none=>.non
 |some y=>.int y
theorem BW(h:n<=16000000):n<sizeLine:=by
 have e:sizeLine=16777216:=by decide +kernel
 omega
theorem C4(hp:H p=none)(s:Same H H1):Same H (AD H1 p o):=λ b u e=>by
 rw[AJ (DW e hp)];exact s _ _ e
theorem SameT.trans{H2:Hp}(a:SameT P H H1)(b:SameT P H1 H2):SameT P H H2:=λ c o e n=>b c o (a c o e n) n
theorem SameT.same(a:Same H H1):SameT P H H1:=λ c o e _=>a c o e
def SameU(H H':Hp):Prop:=(∀b o,H b=some o->(∀z,o ≠ .tbl z)->H' b=some o)/\∀b o,H b=some o->∃o',H' b=some o'
theorem SameU.refl(H:Hp):SameU H H:=⟨λ _ _ e _=>e,λ _ o e=>⟨o,e⟩⟩
theorem SameU.trans{H2:Hp}(a:SameU H H1)(b:SameU H1 H2):SameU H H2:=⟨λ c o e n=>b.1 c o (a.1 c o e n) n,λ c o e=>by
 obtain⟨o1,e1⟩:=a.2 c o e;exact b.2 c o1 e1⟩
theorem SameU.of(a:Same H H1):SameU H H1:=⟨λ c o e _=>a c o e,λ c o e=>⟨o,a c o e⟩⟩
theorem SameU.tab{pos pos':Pos}{q q':Str}(a:SameT P H H1)(t:TabOk H P pos q)(t':TabOk H1 P pos' q'):SameU H H1:=⟨λ c o e n=>a c o e λ z=>by
 obtain⟨ps,hp,_⟩:=t;rw[z,hp] at e;exact n ps (Option.some.inj e).symm,λ c o e=>by
 by_cases z:c=P
 ·obtain⟨ps,hp,_⟩:=t';exact⟨_,by rw[z];exact hp⟩
 ·exact⟨o,a c o e z⟩⟩
theorem SameU.free(a:SameU H H1)(h:H1 p=none):H p=none:=by
 cases e:H p with
 |none=>rfl
 |some o =>
  obtain⟨o',e'⟩:=a.2 p o e;rw[h] at e';cases e'
theorem SameU.lst{H H1:Hp}{p:Addr}{xs:List V}(a:SameU H H1)(e:H p=some (.lst xs)):H1 p=some (.lst xs):=a.1 _ _ e λ _ z=>nomatch z
theorem SameU.tup{H H1:Hp}{p:Addr}{xs:List V}(a:SameU H H1)(e:H p=some (.tup xs)):H1 p=some (.tup xs):=a.1 _ _ e λ _ z=>nomatch z
theorem SameU.wr(hp:H p=none)(s:SameU H H1):SameU H (AD H1 p o):=⟨λ b u e n=>by
 rw[AJ (DW e hp)];exact s.1 _ _ e n,λ b u e=>by
 rw[AJ (DW e hp)];exact s.2 _ _ e⟩
theorem LA.u{α:Type}{enc:α->List V}{xs:List α}(h:LA enc H p xs)(s:SameU H H'):LA enc H' p xs:=h.mono s.1
theorem Callee.imp{P:Program}{w:World}{K:W.Frag}{mg:Str->Option Value}{base:Heap}{k:Nat}{x:Str}{ps:List Str}{sp sp':Sp}(C:Callee P w K mg base k x ps sp)(h:∀vs H Q E,sp' vs H Q E->sp vs H Q E):Callee P w K mg base k x ps sp':=by
 obtain⟨f,fd,G,b,kp,m⟩:=C.ex;exact⟨f,fd,G.imp h,b,kp,m⟩
structure TB(T:Hp->Prop):Prop where
 same:∀H H',T H->Same H H'->T H'
 wr:∀H p xs ys,T H->H p=some (.lst xs)->T (AD H p (.lst ys))
section
variable {d:Int}
theorem UC{y:V}(h:LA AQ H p R)(hv:H p=some (.lst vs))(hy:y∈vs):∃r x,y=.ref r/\x∈R/\H r=some (.tup (AQ x)):=by
 obtain⟨vs',h1,h2,h3⟩:=h.lst;rw[h1] at hv;cases hv;obtain⟨i,hi⟩:=KF hy;obtain⟨r,x,e1,e2,e3⟩:=h3 i y hi;exact⟨r,x,e1,DL e2,e3⟩
theorem qB(h:LA AQ H p R):Ev H 3 (.ref p):=by
 obtain⟨vs,h1,h2,h3⟩:=h.lst;refine .lst h1 λ y hy=>?_
 obtain⟨r,x,rfl,_,e⟩:=UC h h1 hy;refine .tup e λ z hz=>?_
 simp only[AQ,C6,GY,or_false] at hz;rcases hz with rfl|rfl|rfl<;>exact .int _
theorem i8(h:LA AQ H p R)(e:DI H (.ref p)=some vs):vs.length=R.length:=by
 obtain⟨ws,h1,h2,h3⟩:=h.lst;rw[bH h1] at e;cases e;exact h2
theorem k9(h:LA AQ H p R)(hl:R.length<=1000):Dv3 H (.ref p):=Ev.d3 (n:=1) (qB h) λ zs e=>by rw[i8 h e];exact hl
theorem mJ(h:LA AQ H p R)(W:Ma.Wins d R):GS H d (.ref p)=true:=by
 obtain⟨vs,h1,h2,h3⟩:=h.lst;unfold GS;rw[bH h1];refine JL.mpr λ y hy=>?_
 obtain⟨r,x,rfl,hx,e⟩:=UC h h1 hy;obtain⟨w0,w1,w2,w3⟩:=W x hx;unfold EJ;rw[gX e];simp[AQ,JZ,w0,w1,w2,w3]
end
theorem UJ(vs:List V)(h:Nat)(hh:h<=vs.length):GT vs none (some (h:Int))=vs.take h:=by
 unfold GT HT.sIx;have h0:¬(h:Int)<0:=⋯;simp only[if_neg h0,rV,bV,vC];rw[rK hh]
theorem TC(vs:List V)(h:Nat)(hh:h<=vs.length):GT vs (some (h:Int)) none=vs.drop h:=by
 unfold GT HT.sIx;have h0:¬(h:Int)<0:=⋯;simp only[if_neg h0,rV];rw[rK hh,W8];rw[cX];exact BU _
theorem LA.part{α:Type}{enc:α->List V}{xs:List α}(h:LA enc H p xs)(s:Same H H')(hv:H p=some (.lst vs))(lo hi:Nat)(e:H' l=some (.lst ((vs.drop lo).take hi))):LA enc H' l ((xs.drop lo).take hi):=by
 obtain⟨rs,h1,h2,h3⟩:=h.ex;rw[h1] at hv;cases hv;refine⟨(rs.drop lo).take hi,by rw[e,<- List.map_drop,<- List.map_take],by simp[h2],λ i r x e1 e2=>?_⟩;rw[List.getElem?_take] at e1 e2;split at e1
 ·rw[rW] at e1
  rename_i c
  rw[if_pos c,rW] at e2;exact s _ _ (h3 _ r x e1 e2)
 ·cases e1
def JR(R:List T3):PyData:=.list (R.map JO)
theorem sM(x y:List T3):PyData.eqv (JR x) (JR y)=decide (x=y):=mQ sI x y
theorem xZ(R:List T3):PyData.canLay0 (JR R)=true:=by
 simp only[JR,PyData.canLay0];exact jX (λ x=>by simp[JO,PyData.canLay0,PyData.canLayAll0]) R
theorem uL(R:List T3):PyData.depth (JR R)<=3:=by
 have:=iG (D:=JO) (n:=2) (λ x=>by simp[JO,PyData.depth,PyData.depthAll]) R;simp only[JR,PyData.depth];omega
theorem MV(xs:List (List T3)):SeqAt.shaped (.list (xs.map JR))=true:=nI (n:=3) xZ uL (by decide) xs
theorem G1{α:Type}{enc:α->List V}{q:Addr}{xs:List α}{ys:List V}(h:LA enc H q xs)(hz:H l=some (.lst zs))(nq:q≠l):LA enc (AD H l (.lst ys)) q xs:=by
 obtain⟨rs,h1,h2,h3⟩:=h.ex;refine⟨rs,by rw[AJ nq];exact h1,h2,λ i r x e e'=>?_⟩;have h4:=h3 i r x e e';have nr:r≠l:=λ z=>by rw[z,hz] at h4;cases h4
 rw[AJ nr];exact h4
theorem HE{α β:Type}{enc:α->List V}{enc':β->List V}{xs:List α}(h:LA enc H p xs)(hl:H l=none):p≠l:=λ e=>by
 obtain⟨vs,h1,_⟩:=h.lst;rw[e,hl] at h1;cases h1
end My
namespace L2
open PySem PySem.Spec PyProof.Rows
variable {a:Addr}{A:Around}{X:Cx}{e o value:Expr}{H:Hp}{pins:List (Addr×Obj)}{apos pos:Pos}{P:Program}{s:Shared}{σ:St}{x:Str}{td te ty:TE}{y:V}{E:Value->Shared->Prop}{w:World}
section
variable {κ:Type} [DecidableEq κ]
end
theorem dN{k:GG}{u:Value}(r:RelV (kV k) u):(KL P w).is k u=true:=by
 cases k with
 |inl i=>obtain⟨t,e⟩:=(show ∃t,u=Value.int i t from r);subst e;exact uZ P w i t
 |inr x=>obtain⟨t,e⟩:=(show ∃t,u=Value.str x t from r);subst e;exact iV P w x t
section
variable {h:Heap}
end
section
variable {v:V}{u r:Value}{o:Option V}
end
section
variable {kvs:List (GG×V)}{k:GG}{u:Value}
end
def gD(i:Expr):Prop:=∀ov iv,subscripted i false ov iv=operate [ov,iv] (getItem ov iv)
theorem bI{prog:Program}{env:Env}{slice:Expr}{T id:String}{Q:Value->Shared->Prop}
  (hl:typeLookup (.type T) "__getitem__"=pure (some (.builtin id))) (hs:gD slice)
  (h:wpAny (model prog w) A (eval value env) (λ o s₁=>wpAny (model prog w) A (eval slice env) (λ i s₂=>s₂.TypeIs o T/\wpAny (model prog w) A (getItem o i) Q E s₂) E s₁) E s) :
  wpAny (model prog w) A (eval (.Subscript value slice pos) env) Q E s:=by
 refine Subscript_ (wpAny_mono h (λ o s₁ h₁=>wpAny_mono h₁ (λ i s₂ h₂=>?_) λ _ _ x=>x) λ _ _ x=>x);obtain⟨hT,h₂⟩:=h₂;unfold subscriptTail;refine wpAny_bind ?_;rw[getitemInPython_of_ne hT.not_modules];refine wpAny_bind (wpAny_specialOf hT hl ?_);have fin:wpAny (model prog w) A (subscripted slice false o i) (λ r s₃=>wpAny (model prog w) A (letTemporaryGo value o r >>= λ _=>pure r) Q E s₃) E s₂:=by
  rw[hs o i];exact wpAny_operating (wpAny_mono h₂ (λ r s₃ h₃=>wpAny_bind (wpAny_letTemporaryGo (wpAny_pure h₃))) λ _ _ x=>x)
 first
  |exact wpAny_pure (wpAny_bind fin)
  |exact wpAny_bind (wpAny_pure (wpAny_bind fin))
  |exact wpAny_bind fin
section
variable {i:Expr}{pos' tpos:Pos}{tv:TE}
end
structure M1(X:Cx)(o:Expr)(m:Str)(apos:Pos)(e:Expr)(cpos:Pos):Prop where
 base:attributeBase o m X.env (eval o X.env)=eval o X.env
 few:((backTo cpos (starEach [e] X.env)).all (λ x=>!x.1)&&(backToKw cpos (keywordEach [] X.env)).all (λ x=>x.1.isSome)
  && decide (([e]:List Expr).length+([]:List Keyword).length+(if([]:List Keyword).isEmpty then 0 else 1)<30))=true
 line:(apos.endLine==cpos.line)=true
 trees:backTo cpos (starEach [e] X.env)=[(false,eval e X.env)]
structure M2(X:Cx)(o:Expr)(m:Str)(apos:Pos)(e f:Expr)(cpos:Pos):Prop where
 base:attributeBase o m X.env (eval o X.env)=eval o X.env
 few:((backTo cpos (starEach [e,f] X.env)).all (λ x=>!x.1)&&(backToKw cpos (keywordEach [] X.env)).all (λ x=>x.1.isSome)
  && decide (([e,f]:List Expr).length+([]:List Keyword).length+(if([]:List Keyword).isEmpty then 0 else 1)<30))=true
 line:(apos.endLine==cpos.line)=true
 trees:backTo cpos (starEach [e,f] X.env)=[(false,eval e X.env),(false,eval f X.env)]
section
variable {d:V}{u r:Value}{o:Option V}
end
section
variable {f:Expr}{cpos:Pos}{tx:TE}
end
section
variable {kvs:List (GG×V)}
end
section
variable {u:Value}
end
section
variable {i:Expr}{pos':Pos}{tv:TE}
end
section
variable {es:List Expr}{to:TE}
abbrev TF:=Str->St->Hp->(Str->Hp->Prop)->Prop
structure QF(X:Cx)(es:List Expr)(t:TF):Prop where
 run:∀(pins:List (Addr×Obj)) (s:Shared) (σ:St) (H:Hp) (acc:Str) (Q:Str->Hp->Prop),Inv X pins σ H s->t acc σ H Q->Joins (model X.prog X.w) X.A X.xe (evalEach es X.env) acc (λ out s1=>∃H1,Inv X pins σ H1 s1/\Q out H1) s
theorem oY{M:Model}{A:Around}{E:Value->Shared->Prop}:∀(ps:List (Sem Value)) (acc:Str) (Q Q':Str->Shared->Prop) (s:Shared),(∀o s,Q o s->Q' o s)->Joins M A E ps acc Q s->Joins M A E ps acc Q' s
 | [],acc,Q,Q',s,h,q=>h _ _ q
 |x::r,acc,Q,Q',s,h,q=>wpAny_mono q (λ v s1 ⟨y,t,e,z,q1⟩=>⟨y,t,e,z,oY r _ Q Q' s1 h q1⟩) λ _ _ e=>e
theorem k6:QF X [] (λ acc _ H Q=>Q acc H):=⟨λ pins s σ H acc Q I h=>⟨H,I,h⟩⟩
theorem fN{j pos}{t:TF}(h:QF X es t)(he:evalEach (.Constant (.str x) j pos::es) X.env=eval (.Constant (.str x) j pos) X.env::evalEach es X.env:=by rfl) :
  QF X (.Constant (.str x) j pos::es) (λ acc σ H Q=>(acc++x).length<=sizeLine/\t (acc++x) σ H Q):=⟨by
 intro pins s σ H acc Q I q;rw[he];refine Calls.Constant_str ⟨x,_,rfl,q.1,h.run pins _ σ H _ Q (I.tok _) q.2⟩⟩
theorem fY{t:TF}(hv:QE X e te)(h:QF X es t)(he:evalEach (.FormattedValue e (-1) none pos::es) X.env=eval (.FormattedValue e (-1) none pos) X.env::evalEach es X.env:=by rfl) :
  QF X (.FormattedValue e (-1) none pos::es) (λ acc σ H Q=>te σ H λ v H1=>(∃i:Int,v=.int i/\i.natAbs.log2<1920/\(acc++toString i).length<=sizeLine/\t (acc++toString i) σ H1 Q)\/(∃y,v=.str y/\y.length<=sizeLine/\(acc++y).length<=sizeLine/\t (acc++y) σ H1 Q)):=⟨by
 intro pins s σ H acc Q I q;rw[he];refine wpAny_FormattedValue_plain (B3 (hv.run pins s σ H _ I q) λ u s1 z9=>?_);obtain⟨v,H1,I1,rv,q1⟩ := z9;rcases q1 with⟨i,rfl,hl,hz,q2⟩|⟨y,rfl,hl,hz,q2⟩
 ·obtain⟨tk,rfl⟩:=rv;exact wpAny_formatField_int hl ⟨_,_,rfl,hz,h.run pins _ σ H1 _ Q (I1.tok _) q2⟩
 ·obtain⟨tk,rfl⟩:=rv;exact wpAny_formatField_str ⟨_,_,rfl,hz,h.run pins _ σ H1 _ Q I1 q2⟩ ⟨_,_,rfl,hz,h.run pins _ σ H1 _ Q (I1.tok _) q2⟩ hl⟩
theorem aL{v1 v2:Expr}{t:TF}(h:QF X (v1::v2::es) t):QE X (.JoinedStr (v1::v2::es) pos) (λ σ H Q=>t J5 σ H λ out H1=>out.length<=sizeLine/\Q (.str out) H1):=⟨by
 intro pins s σ H Q I q;refine wpAny_JoinedStr (oY _ _ _ _ _ (λ out s1 hq=>?_) (h.run pins s σ H _ _ I q));obtain⟨H1,I1,hz,q1⟩:=hq;exact⟨hz,.str out,H1,I1.tok _,⟨_,U⟩,q1⟩⟩
inductive rJoin(K:W.Frag)(x:V)(vs:List V)(H:Hp)(Q:VK):Prop
 |mk (sep:_) (p:_) (ys:_):x=.str sep->vs=[.ref p]->SqL K H p (ys.map V.str)->JoinOk sep ys=true->Q (.str (Txt.join sep ys)) H->rJoin K x vs H Q
theorem N0:∀{ys:List Str}{its:List Value},Vals (ys.map V.str) its->∃l:List (Str×Tok),strValues l=its/\l.map (·.1)=ys
 | [],_,r=>by
  cases r;exact⟨[],U,U⟩
 |y::ys,_,r=>by
  cases r with
  |cons r1 r2 =>
   obtain⟨t,rfl⟩:=r1;obtain⟨l,h1,h2⟩:=N0 r2;exact⟨(y,t)::l,by rw[<- h1];rfl,by rw[<- h2];rfl⟩
theorem YD:kM X "str.join" (rJoin X.K):=by
 intro pins s σ H x vs v us Q I rx rv h;obtain⟨sep,p,ys,rfl,rfl,hS,hok,q⟩:=h;obtain⟨t,rfl⟩:=rx;obtain⟨u,rfl,ru⟩:=E7 rv;cases ru;obtain⟨its,r,pl,hz⟩:=I.list hS;obtain⟨l,h1,h2⟩:=N0 r;subst h1;exact SC.join pl.isList h2 hok λ t' k=>⟨.str _,H,I.kept (h':=s.heap) (t':=k) (λ _ _ e=>e),⟨_,rfl⟩,q⟩
theorem MT{t:TA}(ho:QE X o to)(ha:QA X [e] t)(h:BX e=true:=by rfl)(hbase:attributeBase o "join" X.env (eval o X.env)=eval o X.env:=by rfl)(hline:(apos.endLine==pos.line)=true:=by rfl) :
  QE X (.Call (.Attribute o "join" apos) [e] [] pos) (aY X.K "str" (rJoin X.K) to t):=⟨GN PySem.F.plainAttrs_str PySem.F.slot_str_join PySem.F.type_str_join YD ho.run ha.run hbase (by rw[BC h];rfl) hline (BC h) rfl⟩
theorem yV(K:W.Frag)(hK:X.K=K):QCall X (.type "list") (λ xs H Q=>∃p ys,xs=[.ref p]/\(SqL K H p ys\/SqT K H p ys)/\∀l,H l=none->Q (.ref l) (AD H l (.lst ys))):=by
 subst hK;exact bL
theorem DZ:QOp X (binaryOp .Add) (λ x y H Q=>∃i j,x=.str i/\y=.str j/\i.length+j.length<=sizeLine/\Q (.str (i++j)) H):=⟨tJ⟩
theorem GW:QCall X (.type "str") (λ xs H Q=>∃i,xs=[.int i]/\i.natAbs.log2<1920/\Q (.str (toString i)) H):=⟨w9⟩
theorem N7:QIx X rIxS:=⟨hX⟩
theorem GB:bootBuiltins "str"=some (.type "str"):=by decide +kernel
theorem iK:QOp X (compareOp .NotIn) (rIn X.K true):=⟨vV⟩
end
variable {t:TF}
def fP(x:Str):It:=⟨λ i _=>i<x.length,λ i H v H'=>H'=H/\∃c,x.cps[i]?=some c/\v=.str ⟨#[c]⟩,λ i _=>i=x.length⟩
theorem V0{K:W.Frag}{tg:Expr}(x:Str)(t:Tok)(it:Addr):Turn P w K tg (fP x) [it] it (λ i h=>h.IsStrIter it "str_ascii_iterator" x t i) where
 mem:=by simp
 obj:=λ i h st b hb=>by
  have e:b=it:=by simpa using hb
  subst e;obtain⟨o,e,c,d⟩:=st;exact⟨o,e,λ v z=>by rw[d] at z;cases z⟩
 keep:=λ i h h' st k=>by
  obtain⟨o,e,r⟩:=st;exact⟨o,k it (by simp) o e,r⟩
 item:=by
  intro X hP hw hK hc i pins s σ H E I hf st hg;subst hP hw hK;have hi:i<x.cps.size:=hg;obtain⟨f0,f1,f2,f3,f4,f5⟩:=hf it (by simp);refine wpAny_pyNext_ascii_item st (c:=x.cps[i]) (by simp[hi]) λ h' st' hs=>?_
  have I1:Inv X pins σ H { s with heap:=h',toks:=s.toks+1 }:=I.turned (t':=s.toks+1) (λ b o hb e=>hs.extBut b o hb e) f0 f1 f3 f4 f5;obtain⟨o,e,c,d⟩:=id st';exact⟨_,rfl,KC (s:={ s with heap:=h',toks:=s.toks+1 }) e c d (by decide) ⟨.str ⟨#[x.cps[i]]⟩,H,I1,⟨_,rfl⟩,⟨rfl,_,by simp[hi],rfl⟩,st',λ b hb=>(hf b hb).1⟩⟩
 done:=by
  intro X hP hw hK hc i pins s σ H E I hf st hg;subst hP hw hK;have hg':i=x.length:=hg;subst hg';obtain⟨f0,f1,f2,f3,f4,f5⟩:=hf it (by simp);exact wpAny_pyNext_ascii_end (I.ok.hd hc) st (by simp[JD]) λ h' eb=>⟨rfl,I.turned (t':=s.toks) (λ b o hb e=>eb b o hb e) f0 f1 f3 f4 f5⟩
 self:=λ _ _ _ _ _ st h=>wpAny_pyIter_striter_ascii st h
def qK(tl:TE):TI:=λ σ H R=>tl σ H λ v H1=>∃x,v=.str x/\x.cps.all (· < 128)=true/\R (fP x) H1
section
variable {tg:Expr}{to:TE}
theorem h8{l:Expr}{tl:TE}(hl:PE X l tl):PI X tg l (qK tl):=by
 intro pins s σ H R I h;refine B3 (hl pins s σ H _ I h) λ v s1 z9=>?_
 obtain⟨x,H1,I1,r1,q1⟩ := z9;obtain⟨z,rfl,ha,q⟩:=q1;obtain⟨t,rfl⟩:=r1;refine wpAny_pyIter_ascii ha ?_;refine⟨s1.heap.objs.size,[s1.heap.objs.size],_,_,H1,U,I1.kept (t':=s1.toks) λ b o e=>DD _ e,V0 z t _,⟨_,FF _ rfl,U,U⟩,λ b hb=>?_,q⟩;have e:b=s1.heap.objs.size:=by simpa using hb
 subst e;exact I1.fpOk (BU _) (I1.hok.fresh (BU _))
theorem LC{l:Expr}{tl:TE}(hl:QE X l tl):QI X tg l (qK tl):=⟨h8 hl.run⟩
end
section
variable {caps:List (Option Nat)}{g:TG}{Q:VK}
theorem T5(Pv:Addr->Nat->Hp->Prop)(h0:∀D,H D=none->Pv D 0 (AD H D (.lst [])))
  (hs:∀D i c H',H D=none->x.cps[i]?=some c->Pv D i H'->g (.str ⟨#[c]⟩) (seen caps σ) H' λ σ4 H4=>(∀(k:Nat) v,(seen caps σ)[k]?=some (some v)->σ4[k]?=some (some v)) /\
   te σ4 H4 λ y H6=>∃ys,H6 D=some (.lst ys)/\ys.length<sizeLine/\Pv D (i+1) (AD H6 D (.lst (ys++[y]))))
  (hd:∀D H',H D=none->Pv D x.length H'->Q (.ref D) H'):FQ caps g EC te σ Q (fP x) H:=by
 intro D hD;refine⟨λ i m H'=>m=x.length-i/\i<=x.length/\Pv D i H',⟨x.length,by simp,HV _,h0 D hD⟩,?_⟩;intro i m H2 z9;obtain⟨rfl,hi,p⟩ := z9
 by_cases hlt:i<x.length
 ·refine .inr ⟨hlt,Pv D (i+1),λ H' p'=>⟨x.length-(i+1),⋯,rfl,hlt,p'⟩,λ v H3 y=>?_⟩;obtain⟨rfl,c,hc,rfl⟩:=y;have:=hs D i c H3 hD hc p;refine(?_:g _ _ _ _);exact this
 ·have e:i=x.length:=⋯;subst e;exact .inl ⟨rfl,hd D H2 hD p⟩
end
section
variable {to:TE}{t:TA}
theorem mL:∀l:List (Str×Tok),Vals ((l.map (·.1)).map V.str) (strValues l)
 | []=>.nil
 | (y,t)::l=>.cons ⟨t,rfl⟩ (mL l)
inductive rSplit(x:V)(vs:List V)(H:Hp)(Q:VK):Prop
 |mk (z:_) (sep:_):x=.str z->vs=[.str sep]->(sep.length==0)=false->z.length<=sizeLine->(Builtin.Str.partsBetween z (Builtin.Str.occurrences z sep 0 z.length (z.length+1)) sep.length).length<=sizeLine->(Txt.split z sep).length<=sizeLine->(∀l,H l=none->Q (.ref l) (AD H l (.lst ((Txt.split z sep).map V.str))))->rSplit x vs H Q
theorem UF:kM X "str.split" rSplit:=by
 intro pins s σ H x vs v us Q I rx rv h;obtain⟨z,sep,rfl,rfl,hy,hz,hz2,hz3,q⟩:=h;obtain⟨t,rfl⟩:=rx;obtain⟨u',rfl,u,rfl⟩:=E7 rv;have fin:∀(l:List (Str×Tok)) (k:Nat),l.map (·.1)=Txt.split z sep->EP X pins σ Q (.ref s.heap.objs.size) { s with heap:=s.heap.push { cls:=.type "list",data:=.seq (strValues l).toArray },toks:=k }:=λ l k e=>by
  refine⟨.ref s.heap.objs.size,_,I.laid (t':=k) (λ b o e=>DD _ e) (BU _) (show ObjOk X.prog X.w _ _ _ (.lst ((Txt.split z sep).map V.str)) from⟨by rw[BY];exact hz3,strValues l,0,?_,FF _ rfl⟩),U,q _ (I.hok.fresh (BU _))⟩;rw[<- e];exact mL l
 cases h1:(decide (z.length<sep.length)||decide (Builtin.Str.strKind z<Builtin.Str.strKind sep))
 ·cases hf:(Builtin.Str.occurrences z sep 0 z.length (z.length+1)).isEmpty
  ·refine call_meets F.slot_str_split (typeIs_str _ _ _) F.entry_str_split (F.args_str_split_2 _ _) (meets_str_split_sep z sep t u h1 hy hf hz hz2) ?_;show wants _ _ _ { s with toks:=_,heap:=s.heap.push { cls:=.type "list",data:=.seq (strsFrom s.toks (Builtin.Str.partsBetween z (Builtin.Str.occurrences z sep 0 z.length (z.length+1)) sep.length)).toArray } };rw[strsFrom_eq];exact fin (numbered s.toks _) _ ((numbered_texts _ _).trans ((if_neg (ne_true_of_eq_false h1)).trans (if_neg (ne_true_of_eq_false hf))).symm)
  ·exact call_meets F.slot_str_split (typeIs_str _ _ _) F.entry_str_split (F.args_str_split_2 _ _) (meets_str_split_not_found z sep t u h1 hy hf) (fin [(z,t)] _ ((if_neg (ne_true_of_eq_false h1)).trans (if_pos hf)).symm)
 ·exact call_meets F.slot_str_split (typeIs_str _ _ _) F.entry_str_split (F.args_str_split_2 _ _) (meets_str_split_cannot_occur z sep t u h1) (fin [(z,t)] _ (if_pos h1).symm)
theorem gK(K:W.Frag)(hK:X.K=K)(ho:QE X o to)(ha:QA X [e] t)(h:BX e=true:=by rfl)(hbase:attributeBase o "split" X.env (eval o X.env)=eval o X.env:=by rfl)(hline:(apos.endLine==pos.line)=true:=by rfl) :
  QE X (.Call (.Attribute o "split" apos) [e] [] pos) (aY K "str" rSplit to t):=by
 subst hK;exact⟨GN PySem.F.plainAttrs_str PySem.F.slot_str_split PySem.F.type_str_split UF ho.run ha.run hbase (by rw[BC h];rfl) hline (BC h) rfl⟩
inductive rPart(x:V)(vs:List V)(H:Hp)(Q:VK):Prop
 |mk (z:_) (sep:_):x=.str z->vs=[.str sep]->(sep.length==0)=false->z.length<=sizeLine->(∀l,H l=none->Q (.ref l) (AD H l (.tup [.str (Txt.partition z sep).1,.str (Txt.partition z sep).2.1,.str (Txt.partition z sep).2.2])))->rPart x vs H Q
theorem WQ:kM X "str.partition" rPart:=by
 intro pins s σ H x vs v us Q I rx rv h;obtain⟨z,sep,rfl,rfl,hy,hz,q⟩:=h;obtain⟨t,rfl⟩:=rx;obtain⟨u',rfl,u,rfl⟩:=E7 rv;have fin:∀(ta tb tc:Tok)(k:Nat),EP X pins σ Q (.ref s.heap.objs.size) { s with heap:=s.heap.push { cls:=.type "tuple",data:=.seq [.str (Txt.partition z sep).1 ta,.str (Txt.partition z sep).2.1 tb,.str (Txt.partition z sep).2.2 tc].toArray },toks:=k }:=λ ta tb tc k=>by
  refine⟨.ref s.heap.objs.size,_,I.laid (t':=k) (λ b o e=>DD _ e) (BU _) (show ObjOk X.prog X.w _ _ _ (.tup [.str (Txt.partition z sep).1,.str (Txt.partition z sep).2.1,.str (Txt.partition z sep).2.2]) from⟨QY,[.str (Txt.partition z sep).1 ta,.str (Txt.partition z sep).2.1 tb,.str (Txt.partition z sep).2.2 tc],.cons ⟨_,U⟩ (.cons ⟨_,U⟩ (.cons ⟨_,U⟩ .nil)),_,FF _ rfl,U,_,U⟩),U,q _ (I.hok.fresh (BU _))⟩
 refine call_meets F.slot_str_partition (typeIs_str _ _ _) F.entry_str_partition (F.args_str_partition_2 _ _) (meets_str_partition z sep t u hy hz) ?_;have h':=fin;unfold Txt.partition at h';revert h';cases Builtin.Str.occurrences z sep 0 z.length 1 with
 |nil=>intro h';exact h' _ _ _ _
 |cons i r=>intro h';exact h' _ _ _ _
theorem cM(K:W.Frag)(hK:X.K=K)(ho:QE X o to)(ha:QA X [e] t)(h:BX e=true:=by rfl)(hbase:attributeBase o "partition" X.env (eval o X.env)=eval o X.env:=by rfl)(hline:(apos.endLine==pos.line)=true:=by rfl) :
  QE X (.Call (.Attribute o "partition" apos) [e] [] pos) (aY K "str" rPart to t):=by
 subst hK;exact⟨GN PySem.F.plainAttrs_str PySem.F.slot_str_partition PySem.F.type_str_partition WQ ho.run ha.run hbase (by rw[BC h];rfl) hline (BC h) rfl⟩
theorem xJ:FI X (compareOp .In) (λ x y H Q=>∃(c:Nat)(j:Str),x=.str ⟨#[c]⟩/\y=.str j/\Q (.bl (decide (c∈j.cps.toList))) H):=by
 intro pins s σ H x y v u Q I rx ry h;obtain⟨c,j,rfl,rfl,q⟩:=h;obtain⟨t,rfl⟩:=rx;obtain⟨t',rfl⟩:=ry;rw[<- StrLaws.found_one] at q;exact in_str ⟨.bl _,H,I,rfl,q⟩
theorem LZ:QOp X (compareOp .In) (λ x y H Q=>∃(c:Nat)(j:Str),x=.str ⟨#[c]⟩/\y=.str j/\Q (.bl (decide (c∈j.cps.toList))) H):=⟨xJ⟩
theorem OI:DO X (.builtin "len") (λ xs H Q=>∃z:Str,xs=[.str z]/\z.length<=sizeLine/\Q (.int z.length) H):=by
 intro pins s σ H xs us Q I r h;obtain⟨z,rfl,hz,q⟩:=h;obtain⟨u,rfl,t,rfl⟩:=E7 r;have hn:=KO;exact len_str ⋯ ⟨.int z.length,H,I.tok _,⟨_,rfl⟩,q⟩
theorem gN:QCall X (.builtin "len") (λ xs H Q=>∃z:Str,xs=[.str z]/\z.length<=sizeLine/\Q (.int z.length) H):=⟨OI⟩
theorem Q0:DO X (.type "int") (λ xs H Q=>∃(z:Str)(n:Int),xs=[.str z]/\PySem.intText? z=some n/\z.length<=640/\Q (.int n) H):=by
 intro pins s σ H xs us Q I r h;obtain⟨z,n,rfl,hn,hz,q⟩:=h;obtain⟨u,rfl,t,rfl⟩:=E7 r;exact W.KIN.call_text hn hz ⟨.int n,H,I.tok _,⟨_,rfl⟩,q⟩
theorem vU:QCall X (.type "int") (λ xs H Q=>∃(z:Str)(n:Int),xs=[.str z]/\PySem.intText? z=some n/\z.length<=640/\Q (.int n) H):=⟨Q0⟩
inductive rIndexS(K:W.Frag)(x:V)(vs:List V)(H:Hp)(Q:VK):Prop
 |mk (l:Addr) (z:Str) (ys:List Str):x=.ref l->vs=[.str z]->SqL K H l (ys.map V.str)->z∈ys->ys.length<=sizeLine->(Q (.int ((ys.idxOf z:Nat):Int)) H)->rIndexS K x vs H Q
theorem RY(ys:List Str):(ys.map V.str).all FN=true:=by
 rw[JL];intro y hy;obtain⟨z,_,rfl⟩:=DT.mp hy;rfl
theorem NW:kM X "list.index" (rIndexS X.K):=by
 intro pins s σ H x vs v us Q I rx rv h;obtain⟨l,z,ys,rfl,rfl,hS,hk,hl,q⟩:=h;cases rx;obtain⟨u',rfl,u,rfl⟩:=E7 rv;obtain⟨its,r,pl,hz⟩:=I.list hS;obtain⟨⟨cls,dd,data,sl⟩,ho,hc,n,hd⟩:=pl.isList;simp only at hc hd;subst hc hd;have hlen:=r.length;rw[BY] at hlen;have hj:ys.idxOf z<ys.length:=List.idxOf_lt_length_iff.mpr hk;have hn:=KO;have at_:∀(i:Nat)(h1:i<its.toArray.size)(h2:i<ys.length),K6 (.str z) (its.toArray[i])=decide (ys[i]=z):=λ i h1 h2=>by
  have e1:(ys.map V.str)[i]?=some (.str ys[i]):=by rw[EH,BK h2];rfl
  obtain⟨w,hw,rw'⟩:=r.get e1;obtain⟨tw,rfl⟩:=rw';have:its.toArray[i]=.str ys[i] tw:=by
   have:=(CP.mp hw).2
   simpa using this
  rw[this];show(ys[i]==z)=_;rw[SV,beq_iff_eq,decide_eq_true_eq]
 refine call_meets PySem.F.slot_list_index ⟨_,ho,rfl⟩ PySem.F.entry_list_index (PySem.F.args_list_index_2 _ _)
  (SeqAt.list_indexAt l its.toArray n dd sl (.str z u) (K6 (.str z)) (ys.idxOf z) (by simp;omega) ⋯ ?_ ?_) ⟨ho,λ y hy=>O4 (x:=.str z) ⟨u,rfl⟩ rfl r (RY ys) y (by simpa using hy),⟨.int _,H,I.tok _,⟨_,rfl⟩,q⟩⟩
 ·rw[at_ _ (by simp;omega) hj];simp[uP hj]
 ·intro j hjs hlt;rw[at_ j hjs (by simp at hjs;omega)];refine decide_eq_false λ e=>?_
  have:=List.not_of_lt_findIdx (xs:=ys) (p:=(· == z)) (i:=j) hlt;simp[e] at this
theorem oK(K:W.Frag)(hK:X.K=K)(ho:QE X o to)(ha:QA X [e] t)(h:BX e=true:=by rfl)(hbase:attributeBase o "index" X.env (eval o X.env)=eval o X.env:=by rfl)(hline:(apos.endLine==pos.line)=true:=by rfl) :
  QE X (.Call (.Attribute o "index" apos) [e] [] pos) (aY K "list" (rIndexS K) to t):=by
 subst hK;exact⟨GN PySem.F.plainAttrs_list PySem.F.slot_list_index PySem.F.type_list_index NW ho.run ha.run hbase (by rw[BC h];rfl) hline (BC h) rfl⟩
theorem MR{z:Str}{tk:Tok}(hg:Gl X x)(hm:X.mg x=some (.str z tk))(hd:(x==("__debug__":Str))=false:=by decide):QE X (.Name x pos) (tC (.str z)):=⟨aI hg hm ⟨_,rfl⟩ hd⟩
theorem HD{z:Int}{tk:Tok}(hg:Gl X x)(hm:X.mg x=some (.int z tk))(hd:(x==("__debug__":Str))=false:=by decide):QE X (.Name x pos) (tC (.int z)):=⟨aI hg hm ⟨_,rfl⟩ hd⟩
end
inductive rSlA(x:V)(lo:Option Int)(hi:Option Int)(H:Hp)(Q:VK):Prop
 |mk (z:_):x=.str z->z.length<=sizeLine->Q (.str (Txt.slice z lo hi)) H->rSlA x lo hi H Q
theorem cL:y6 X rSlA:=by
 intro pins s σ H x v vl vu lo hi sl Q I rx hs pl pu h;obtain⟨z,rfl,hz,q⟩:=h;obtain⟨t,rfl⟩:=rx;refine⟨"str",_,PySem.F.slot_str_getitem.lookup,typeIs_str _ _ _,?_⟩;cases pl with
 |none =>
  cases pu with
  |none=>exact wpAny_getItem_str_slice (l:=none) (u:=none) (st:=none) hs rfl (post_val_or_str ⟨FB (Txt.slice_le z _ _) hz,λ t' k=>⟨.str _,H,I.kept (h':=s.heap) (t':=k) (λ _ _ e=>e),⟨_,rfl⟩,q⟩⟩)
  |int j uj=>exact wpAny_getItem_str_slice (l:=none) (u:=some (_,uj)) (st:=none) hs rfl (post_val_or_str ⟨FB (Txt.slice_le z _ _) hz,λ t' k=>⟨.str _,H,I.kept (h':=s.heap) (t':=k) (λ _ _ e=>e),⟨_,rfl⟩,q⟩⟩)
 |int i ui =>
  cases pu with
  |none=>exact wpAny_getItem_str_slice (l:=some (_,ui)) (u:=none) (st:=none) hs rfl (post_val_or_str ⟨FB (Txt.slice_le z _ _) hz,λ t' k=>⟨.str _,H,I.kept (h':=s.heap) (t':=k) (λ _ _ e=>e),⟨_,rfl⟩,q⟩⟩)
  |int j uj=>exact wpAny_getItem_str_slice (l:=some (_,ui)) (u:=some (_,uj)) (st:=none) hs rfl (post_val_or_str ⟨FB (Txt.slice_le z _ _) hz,λ t' k=>⟨.str _,H,I.kept (h':=s.heap) (t':=k) (λ _ _ e=>e),⟨_,rfl⟩,q⟩⟩)
theorem LH{lo hi:Option Expr}{tl th:TO}{p2:Pos}(he:QE X e te)(hl:QO X lo tl)(hu:QO X hi th):QE X (.Subscript e (.Slice lo hi none p2) pos) (yI rSlA te tl th):=⟨nQ cL he.run hl.run hu.run⟩
theorem pH(x:Array Nat)(a:Nat):∀m:Nat,a+m<=x.size->((QX m).map (a+·)).filterMap (x[·]?)=(x.toList.drop a).take m
 |0,_=>by simp
 |m+1,h=>by
  rw[Bo,HA,List.filterMap_append,pH x a m ⋯,RG,rW,rO];have hx:x[a+m]?=some x[a+m]:=Array.getElem?_eq_getElem ⋯;simp[hx]
theorem qC{lo hi:Option Int}{a b:Nat}(hi':Builtin.Str.strSliceIndices lo hi 1 x.length=(QX (b-a)).map (a+·))(ab:b<=x.length)(aa:a<=x.length):(Txt.slice x lo hi).cps.toList=(x.cps.toList.drop a).take (b-a):=by
 have sz:x.length=x.cps.size:=rfl;unfold Txt.slice;rw[hi'];split
 ·rename_i c
  have c':b-a=x.length:=by simpa using c
  have a0:a=0:=by
   by_cases z:x.length=0
   ·omega
   ·omega
  subst a0;rw[bV,c',sz,W8 (by simp)]
 ·show(((QX (b-a)).map (a+·)).filterMap (x.cps[·]?)).toArray.toList=_
  by_cases z:a<=b
  ·rw[pH x.cps a (b-a) ⋯]
  ·have:b-a=0:=⋯;rw[this];simp
theorem VM{a b:Int}(ha:0<=a):sliceRange a b 1=(QX (b.toNat-a.toNat)).map (a.toNat+·):=by
 unfold sliceRange;simp only[show(1:Int)>0 by decide,if_true];have ec:(if a<b then(b-a+1-1)/1 else 0).toNat=b.toNat-a.toNat:=by
  split
  ·rw[Int.ediv_one];omega
  ·omega
 rw[ec];refine Bj λ k _=>?_
 omega
theorem TX{i:Int}(h0:0<=i):(Txt.slice x (some i) none).cps.toList=x.cps.toList.drop i.toNat:=by
 have sz:x.cps.toList.length=x.length:=by simp[JD]
 have:=qC (x:=x) (lo:=some i) (hi:=none) (a:=min i.toNat x.length) (b:=x.length) (by
  unfold Builtin.Str.strSliceIndices;simp only[show(1:Int)>0 by decide,if_true];rw[show(if i<0 then i+(x.length:Int) else i)=i from if_neg ⋯,VM ⋯];have e1:(max 0 (min i (x.length:Int))).toNat=min i.toNat x.length:=⋯;have e2:((x.length:Nat):Int).toNat=x.length:=⋯;rw[e1,e2]) ⋯ ⋯
 rw[this]
 by_cases c:i.toNat<=x.length
 ·rw[rK c,W8 (by rw[cX];omega)]
 ·have em:min i.toNat x.length=x.length:=⋯;rw[em,oU ⋯,oU ⋯];simp
theorem SL{j:Int}(h1:0<=j):(Txt.slice x none (some j)).cps.toList=x.cps.toList.take j.toNat:=by
 have sz:x.cps.toList.length=x.length:=by simp[JD]
 have:=qC (x:=x) (lo:=none) (hi:=some j) (a:=0) (b:=min j.toNat x.length) (by
  unfold Builtin.Str.strSliceIndices;simp only[show(1:Int)>0 by decide,if_true];rw[show(if j<0 then j+(x.length:Int) else j)=j from if_neg ⋯,VM ⋯];have e2:(max 0 (min j (x.length:Int))).toNat=min j.toNat x.length:=⋯;rw[e2];rfl) ⋯ ⋯
 rw[this,bV,vC]
 by_cases d:j.toNat<=x.length
 ·rw[rK d]
 ·rw[Nat.min_eq_right ⋯,W8 ⋯,W8 ⋯]
theorem Q9(bs:List Bool):((QX bs.length).any λ i=>(bs[i]?).getD true)=bs.any id:=by
 rw[SV,lK,lK]
 constructor
 ·intro z9;obtain⟨i,hi,h⟩ := z9;have hi':=jZ.mp hi;rw[BK hi'] at h;exact⟨_,KR hi',h⟩
 ·intro z9;obtain⟨x,hx,h⟩ := z9;obtain⟨i,hi,e⟩:=rE.mp hx;refine⟨i,jZ.mpr hi,?_⟩;rw[BK hi,e];exact h
theorem UN(hc:X.calm=true):DO X (.builtin "any") (λ xs H Q=>∃(p:Addr)(bs:List Bool),xs=[.ref p]/\SqL X.K H p (bs.map V.bl)/\Q (.bl (bs.any id)) H):=by
 intro pins s σ H xs us Q I r h;obtain⟨p,bs,rfl,hS,q⟩:=h;obtain⟨u,rfl,ru⟩:=E7 r;cases ru;obtain⟨its,rv,pl,hz⟩:=I.list hS;have hl:=pl.isList;have hlt:p<s.heap.objs.size:=by obtain⟨_,e,_⟩:=hl;exact D1 e
 refine call_any_walk (wpAny_pyIter_list hl ?_);refine⟨s.heap.objs.size,[s.heap.objs.size,p],[s.heap.objs.size],its.toArray.size,_,_,λ i=>(bs[i]?).getD true,U,Walks.list (A:=X.A.in1) (I.ok.hd hc) _ p (FZ hlt) its.toArray,
  ⟨⟨_,FF _ rfl,rfl,rfl⟩,hl.push _⟩,λ i v s' Q' E' hP hQ=>?_,λ h' tk hk=>?_⟩
 ·obtain⟨k,e,rfl⟩:=MK rv (i:=i) (v:=v) (by simpa using hP);simp only[e,Am] at hQ;exact wpAny_truthy_bool hQ
 ·have e:((QX its.toArray.size).any λ i=>(bs[i]?).getD true)=bs.any id:=by
   have hl2:=rv.length;rw[BY] at hl2;rw[GC,<- hl2];exact Q9 bs
  rw[e];have keep:∀b x,s.heap.get? b=some x->h'.get? b=some x:=λ b x e=>hk b x (λ hm=>by rw[D8.mp hm] at e;exact OY _ (D1 e)) (DD _ e)
  exact⟨.bl (bs.any id),H,I.kept (t':=tk) keep,U,q⟩
theorem fD:bootBuiltins "any"=some (.builtin "any"):=by decide +kernel
theorem OT(hc:X.calm=true):QCall X (.builtin "any") (λ xs H Q=>∃(p:Addr)(bs:List Bool),xs=[.ref p]/\SqL X.K H p (bs.map V.bl)/\Q (.bl (bs.any id)) H):=⟨UN hc⟩
end L2
namespace L2
variable {s:Shared}
section
open PySem PySem.Spec PyProof.Rows
variable {prog:Program}{w:World}{A:Around}{R:Result->Shared->Prop}{I:Addr}{fp wr:List Addr}{n:Nat}{P:Nat->Value->Prop}{St:Nat->Heap->Prop}
theorem NR(W:Walks prog w A.in1 I fp wr n P St)(bt:Nat->Nat->Bool)(hcmp:CmpOf prog w A.in1 .Gt P bt)(S:Addr)(hSf:S∉fp)(kw:List (Str×Value)) :
  ∀(k j:Nat)(s:Shared)(vb:Value)(c:Nat),n-(j+1)=k->j+1<=n->St (j+1) s.heap->P (argBest bt j) vb->s.heap.get? S=some { cls:=.type "list",dict:=none,data:=.seq #[vb,vb] c,slots:=#[] } ->
   (∀v h' tk,P (argBest bt (n-1)) v->(∀b o,b∉wr->b≠S->s.heap.get? b=some o->h'.get? b=some o)->R (.ok (.ret v)) { s with heap:=h',toks:=tk }) ->
   codeAny (model prog w) A (.builtin "max.loop" ⟨[.ref I,.none,.ref S],kw⟩) R s:=by
 have hSw:S∉wr:=λ h=>hSf (W.sub _ h)
 have hname:(toString "max"++toString ".loop":String)="max.loop" := by decide
 intro k
 induction k with
 |zero =>
  intro j s vb c hk hj hst hPb hS hR;have e1:j+1=n:=⋯;refine codeAny_builtin F.entry_max_loop ?_;rw[Around.under_plainId F.plain_max_loop _];refine wpAny_bind (wpAny_seqItems hS rfl ?_);refine wpAny_bind (wpAny_tryCatch (W.done s _ _ (e1 ▸ hst) λ h' tk hk'=>?_));refine wpAny_bind (wpAny_updateSeq (hk' S _ hSw hS) rfl (wpAny_bind (wpAny_letGo (wpAny_pure ?_))));refine hR vb _ tk (by rw[<- e1];exact hPb) λ b o b1 b2 e=>?_
  exact(QV _ _ (Ne.symm b2)).trans (hk' b o b1 e)
 |succ k ih =>
  intro j s vb c hk hj hst hPb hS hR;refine codeAny_builtin F.entry_max_loop ?_;rw[Around.under_plainId F.plain_max_loop _];refine wpAny_bind (wpAny_seqItems hS rfl ?_);refine wpAny_bind (wpAny_tryCatch (W.item (j+1) s _ _ ⋯ hst λ v h' tk hP hst' hk'=>?_));have hS':=hk' S _ hSw hS;show wpAny _ A.in1 (tryCatch (holding [v,v] (richCompare .Gt v vb >>= _)) _ >>= _) _ _ _;refine wpAny_bind (wpAny_tryCatch (wpAny_holding (wpAny_bind (hcmp (j+1) (argBest bt j) v vb _ _ _ hP hPb ?_))));refine wpAny_bind (wpAny_holding (wpAny_truthy_bool ?_));refine wpAny_bind (wpAny_letGo (wpAny_pure ?_));cases hb:bt (j+1) (argBest bt j) with
  |true =>
   rw[if_pos rfl];refine wpAny_bind (wpAny_updateSeq hS' rfl (wpAny_bind (wpAny_letGo ?_)));rw[hname];refine wpAny_pure ⟨plainId_quiet F.plain_max_loop _,ih (j+1) _ v _ ⋯ ⋯ (W.frame _ _ _ hst' λ b hbf o e=>?_) (by simp only[argBest,hb,if_true];exact hP) (kQ _ hS' rfl) λ v' h2 tk2 hP' hk2=>?_⟩
   ·exact(QV _ _ (λ z:S=b=>hSf (by rw[z];exact hbf))).trans e
   ·exact hR v' h2 tk2 hP' λ b o b1 b2 e=>hk2 b o b1 b2 ((QV _ _ (Ne.symm b2)).trans (hk' b o b1 e))
  |false =>
   rw[if_neg (by decide)];refine wpAny_bind (wpAny_letGo ?_);rw[hname];exact wpAny_pure ⟨plainId_quiet F.plain_max_loop _,ih (j+1) _ vb c ⋯ ⋯ hst' (by simp only[argBest,hb,h9,if_false];exact hPb) hS' λ v' h2 tk2 hP' hk2=>hR v' h2 tk2 hP' λ b o b1 b2 e=>hk2 b o b1 b2 (hk' b o b1 e)⟩
theorem y8(W:Walks prog w A.in1 I fp wr n P St)(bt:Nat->Nat->Bool)(hcmp:CmpOf prog w A.in1 .Gt P bt)(S:Addr)(hSf:S∉fp)(dn:Str)(dv:Value){c:Nat}(hst:St 0 s.heap)
  (hS:s.heap.get? S=some { cls:=.type "list",dict:=none,data:=.seq #[] c,slots:=#[] })
  (h0:n=0->∀h' tk,(∀b o,b∉wr->b≠S->s.heap.get? b=some o->h'.get? b=some o)->R (.ok (.ret dv)) { s with heap:=h',toks:=tk })
  (hR:0<n->∀v h' tk,P (argBest bt (n-1)) v->(∀b o,b∉wr->b≠S->s.heap.get? b=some o->h'.get? b=some o)->R (.ok (.ret v)) { s with heap:=h',toks:=tk }) :
  codeAny (model prog w) A (.builtin "max.loop" ⟨[.ref I,.none,.ref S],[(dn,dv)]⟩) R s:=by
 have hSw:S∉wr:=λ h=>hSf (W.sub _ h)
 have hname:(toString "max"++toString ".loop":String)="max.loop" := by decide
 refine codeAny_builtin F.entry_max_loop ?_;rw[Around.under_plainId F.plain_max_loop _];refine wpAny_bind (wpAny_seqItems hS rfl ?_);rcases M3 n with z|hn
 ·refine wpAny_bind (wpAny_tryCatch (W.done s _ _ (z ▸ hst) λ h' tk hk'=>?_));refine wpAny_bind (wpAny_rule (wpAny_pure ?_));exact h0 z h' tk λ b o b1 b2 e=>hk' b o b1 e
 ·refine wpAny_bind (wpAny_tryCatch (W.item 0 s _ _ hn hst λ v h' tk hP hst' hk'=>?_));have hS':=hk' S _ hSw hS;show wpAny _ A.in1 (updateSeq S (λ _=>#[v,v]) >>= _) _ _ _;refine wpAny_bind (wpAny_updateSeq hS' rfl ?_);rw[hname];refine wpAny_pure ⟨plainId_quiet F.plain_max_loop _,NR W bt hcmp S hSf _ _ 0 _ v _ rfl hn (W.frame _ _ _ hst' λ b hbf o e=>?_) hP (kQ _ hS' rfl) λ v' h2 tk2 hP' hk2=>?_⟩
  ·exact(QV _ _ (λ z:S=b=>hSf (by rw[z];exact hbf))).trans e
  ·exact hR hn v' h2 tk2 hP' λ b o b1 b2 e=>hk2 b o b1 b2 ((QV _ _ (Ne.symm b2)).trans (hk' b o b1 e))
end
section
open PySem PySem.Spec PyProof.Rows
theorem OB(a d:Value):argsOk "max" ⟨[a],[("default",d)]⟩:=by unfold argsOk;kernel_rfl
theorem kY{prog:Program}{w:World}{A:Around}{E:Value->Shared->Prop}{id:String}{b:Builtin}{args:List Value}{kw:List (Str×Value)}{Q:Value->Shared->Prop}(hk:builtinKind id=none)(hp:plainId id=true)(hb:entryFor table id=some b)(ha:argsOk id ⟨args,kw⟩)
  (hc:wpAny (model prog w) A.in1 (b ⟨args,kw⟩) (λ fin s'=>match fin with
   | .done f=>(match (Except.ok f:Result) with | .ok (.ret v)=>Q v s' | .ok _=>False | .error e=>E e s')
   | .again c'=>c'.quiet=true/\codeAny (model prog w) A c' (λ r s'=>match r with | .ok (.ret v)=>Q v s' | .ok _=>False | .error e=>E e s') s') E s):wpAny (model prog w) A (call (.builtin id) args kw) Q E s:=by
 refine wpAny_call (codeAny_call_builtin hp hb ?_);simp only[checkBuiltinCall,hk];cases hsig:Manifest.signature? id with
 |none=>exact wpAny_pure hc
 |some sig =>
  have h2:Bind.checkArgs id sig ⟨args,kw⟩=pure ():=by simpa only[argsOk,hsig] using ha
  simp only[h2];exact wpAny_pure hc
variable {X:Cx}
theorem O3(hc:X.calm=true){pins:List (Addr×Obj)}{σ:St}{H:Hp}{p:Addr}{ns:List Int}{d:V}{dv:Value}{Q:VK}(I:Inv X pins σ H s)(rd:RelV d dv)(hS:SqL X.K H p (ns.map V.int))(q0:ns=[]->Q d H)(q1:ns≠[]->∀m,m∈ns->(∀x∈ns,x<=m)->Q (.int m) H) :
  wpAny (model X.prog X.w) X.A (call (.builtin "max") [.ref p] [("default",dv)]) (λ v s'=>∃x H',Inv X pins σ H' s'/\RelV x v/\Q x H') X.xe s:=by
 obtain⟨its,rv,pl,hz⟩:=I.list hS;have hl:=pl.isList;have hlt:p<s.heap.objs.size:=by obtain⟨_,e,_⟩:=hl;exact D1 e
 have hl2:=rv.length;rw[BY] at hl2;have hsz:its.toArray.size=ns.length:=by rw[GC,hl2]
 have hname:(toString "max"++toString ".loop":String)="max.loop" := by decide
 refine kY F.kind_max F.plain_max F.entry_max (OB _ _) ?_;show wpAny _ X.A.in1 (Builtin.Builtins.bindParams "max" ["key","default"] 0 ⟨[],[("default",dv)]⟩ >>= _) _ _ s;refine wpAny_bind (wpAny_of_eq (show Builtin.Builtins.bindParams "max" ["key","default"] 0 ⟨[],[("default",dv)]⟩=pure [none,some dv] from rfl) ?_);refine wpAny_bind (wpAny_pure ?_);refine wpAny_bind (wpAny_pyIter_list hl ?_);refine wpAny_bind (wpAny_newObj_type ?_);rw[hname];have hsz2:(s.heap.push { cls:=.type "list_iterator",data:=.fields #[.ref p,.int 0 0] }).objs.size=s.heap.objs.size+1:=eG ..;have W:=Walks.list (prog:=X.prog) (w:=X.w) (A:=X.A.in1) (I.ok.hd hc) s.heap.objs.size p (FZ hlt) its.toArray;have keep:∀{h':Heap},(∀b o,b∉[s.heap.objs.size]->b≠s.heap.objs.size+1->((s.heap.push { cls:=.type "list_iterator",data:=.fields #[.ref p,.int 0 0] }).push { cls:=.type "list",data:=.seq #[] }).get? b=some o->h'.get? b=some o)->∀b x,s.heap.get? b=some x->h'.get? b=some x:=λ hk b x e =>
  hk b x (λ hm=>by rw[D8.mp hm] at e;exact OY _ (D1 e)) (λ z=>by have h1:=D1 e;rw[z] at h1;exact absurd h1 (VX.mpr (mE _))) (DD _ (DD _ e))
 refine wpAny_pure ⟨plainId_quiet F.plain_max_loop _,y8 W (λ i j=>decide (EV ns i>EV ns j)) (CmpOf.ints_gt (EV ns) (λ i v hP=>ZH rv (by simpa using hP))) _ ?_ "default" dv ?_ (FF _ rfl) (λ z h' tk hk=>?_) (λ hn v h' tk hP hk=>?_)⟩
 ·rw[hsz2];intro hm;simp only[C6,GY,or_false] at hm;rcases hm with z|z
  ·exact absurd z (xK _)
  ·rw[<- z] at hlt;exact absurd hlt (VX.mpr (mE _))
 ·exact⟨⟨_,DD _ (FF _ rfl),U,U⟩,(hl.push _).push _⟩
 ·rw[hsz2] at hk;exact⟨d,H,I.kept (t':=tk) (keep hk),rd,q0 (M6.mp ⋯)⟩
 ·rw[hsz2] at hk;obtain⟨t,rfl⟩:=ZH rv (i:=argBest (λ i j=>decide (EV ns i>EV ns j)) (its.toArray.size-1)) (v:=v) (by simpa using hP);obtain⟨b1,b2⟩:=MB (EV ns) (its.toArray.size-1);refine⟨.int _,H,I.kept (t':=tk) (keep hk),⟨_,U⟩,q1 (λ z=>by rw[z] at hsz;simp at hsz;simp[hsz] at hn) _ (nZ ⋯) λ x hx=>?_⟩;obtain⟨i,hi,e⟩:=l7 hx;rw[<- e];exact b2 i ⋯
def qJ(K:W.Frag)(ta:TA)(td:TE):TE:=λ σ H Q=>ta σ H λ vs H1=>∃p,vs=[.ref p]/\td σ H1 λ d H2=>∃ns:List Int,SqL K H2 p (ns.map V.int)/\(ns=[]->Q d H2)/\(ns≠[]->∀m,m∈ns->(∀x∈ns,x<=m)->Q (.int m) H2)
theorem cV{e e2:Expr}{ta:TA}{td:TE}{p pos kp:Pos}(hc:X.calm=true)(hg:Gl X "max")(hm:X.mg "max"=none)(ha:QA X [e] ta)(hd:QE X e2 td)(hs:BX e=true:=by rfl) :
  QE X (.Call (.Name "max" p) [e] [⟨some "default",e2,kp⟩] pos) (qJ X.K ta td):=⟨by
 intro pins s σ H Q I h;refine wpAny_Call_Name_kw (JG I hg hm J3 ?_);refine callWith_kw (B3 (ha.run pos pins s σ H _ I h) λ us s1 ⟨vs,H1,I1,r1,q1⟩=>?_) (by rw[BC hs];rfl) (by rw[BC hs];rfl);obtain⟨a,rfl,q⟩:=q1;obtain⟨u,rfl,ru⟩:=E7 r1;cases ru;refine kws_cons (B3 (hd.run pins s1 σ H1 _ I1 q) λ dv s2 ⟨d,H2,I2,rd,q2⟩=>kws_nil ?_);obtain⟨ns,hS,q0,q1⟩:=q2;exact O3 hc I2 rd hS q0 q1⟩
end
end L2
namespace L2
section
open PySem PySem.Spec PyProof.Rows
variable {prog:Program}{w:World}{A:Around}{R:Result->Shared->Prop}{I:Addr}{fp wr:List Addr}{n:Nat}{P:Nat->Value->Prop}{St:Nat->Heap->Prop}
theorem NJ(W:Walks prog w A.in1 I fp wr n P St)(bt:Nat->Nat->Bool)(hcmp:CmpOf prog w A.in1 .Lt P bt)(S:Addr)(hSf:S∉fp)(kw:List (Str×Value)) :
  ∀(k j:Nat)(s:Shared)(vb:Value)(c:Nat),n-(j+1)=k->j+1<=n->St (j+1) s.heap->P (argBest bt j) vb->s.heap.get? S=some { cls:=.type "list",dict:=none,data:=.seq #[vb,vb] c,slots:=#[] } ->
   (∀v h' tk,P (argBest bt (n-1)) v->(∀b o,b∉wr->b≠S->s.heap.get? b=some o->h'.get? b=some o)->R (.ok (.ret v)) { s with heap:=h',toks:=tk }) ->
   codeAny (model prog w) A (.builtin "min.loop" ⟨[.ref I,.none,.ref S],kw⟩) R s:=by
 have hSw:S∉wr:=λ h=>hSf (W.sub _ h)
 have hname:(toString "min"++toString ".loop":String)="min.loop" := by decide
 intro k
 induction k with
 |zero =>
  intro j s vb c hk hj hst hPb hS hR;have e1:j+1=n:=⋯;refine codeAny_builtin F.entry_min_loop ?_;rw[Around.under_plainId F.plain_min_loop _];refine wpAny_bind (wpAny_seqItems hS rfl ?_);refine wpAny_bind (wpAny_tryCatch (W.done s _ _ (e1 ▸ hst) λ h' tk hk'=>?_));refine wpAny_bind (wpAny_updateSeq (hk' S _ hSw hS) rfl (wpAny_bind (wpAny_letGo (wpAny_pure ?_))));refine hR vb _ tk (by rw[<- e1];exact hPb) λ b o b1 b2 e=>?_
  exact(QV _ _ (Ne.symm b2)).trans (hk' b o b1 e)
 |succ k ih =>
  intro j s vb c hk hj hst hPb hS hR;refine codeAny_builtin F.entry_min_loop ?_;rw[Around.under_plainId F.plain_min_loop _];refine wpAny_bind (wpAny_seqItems hS rfl ?_);refine wpAny_bind (wpAny_tryCatch (W.item (j+1) s _ _ ⋯ hst λ v h' tk hP hst' hk'=>?_));have hS':=hk' S _ hSw hS;show wpAny _ A.in1 (tryCatch (holding [v,v] (richCompare .Lt v vb >>= _)) _ >>= _) _ _ _;refine wpAny_bind (wpAny_tryCatch (wpAny_holding (wpAny_bind (hcmp (j+1) (argBest bt j) v vb _ _ _ hP hPb ?_))));refine wpAny_bind (wpAny_holding (wpAny_truthy_bool ?_));refine wpAny_bind (wpAny_letGo (wpAny_pure ?_));cases hb:bt (j+1) (argBest bt j) with
  |true =>
   rw[if_pos rfl];refine wpAny_bind (wpAny_updateSeq hS' rfl (wpAny_bind (wpAny_letGo ?_)));rw[hname];refine wpAny_pure ⟨plainId_quiet F.plain_min_loop _,ih (j+1) _ v _ ⋯ ⋯ (W.frame _ _ _ hst' λ b hbf o e=>?_) (by simp only[argBest,hb,if_true];exact hP) (kQ _ hS' rfl) λ v' h2 tk2 hP' hk2=>?_⟩
   ·exact(QV _ _ (λ z:S=b=>hSf (by rw[z];exact hbf))).trans e
   ·exact hR v' h2 tk2 hP' λ b o b1 b2 e=>hk2 b o b1 b2 ((QV _ _ (Ne.symm b2)).trans (hk' b o b1 e))
  |false =>
   rw[if_neg (by decide)];refine wpAny_bind (wpAny_letGo ?_);rw[hname];exact wpAny_pure ⟨plainId_quiet F.plain_min_loop _,ih (j+1) _ vb c ⋯ ⋯ hst' (by simp only[argBest,hb,h9,if_false];exact hPb) hS' λ v' h2 tk2 hP' hk2=>hR v' h2 tk2 hP' λ b o b1 b2 e=>hk2 b o b1 b2 (hk' b o b1 e)⟩
theorem xS(W:Walks prog w A.in1 I fp wr n P St)(bt:Nat->Nat->Bool)(hcmp:CmpOf prog w A.in1 .Lt P bt)(S:Addr)(hSf:S∉fp)(dn:Str)(dv:Value){s:Shared}{c:Nat}(hst:St 0 s.heap)
  (hS:s.heap.get? S=some { cls:=.type "list",dict:=none,data:=.seq #[] c,slots:=#[] })
  (h0:n=0->∀h' tk,(∀b o,b∉wr->b≠S->s.heap.get? b=some o->h'.get? b=some o)->R (.ok (.ret dv)) { s with heap:=h',toks:=tk })
  (hR:0<n->∀v h' tk,P (argBest bt (n-1)) v->(∀b o,b∉wr->b≠S->s.heap.get? b=some o->h'.get? b=some o)->R (.ok (.ret v)) { s with heap:=h',toks:=tk }) :
  codeAny (model prog w) A (.builtin "min.loop" ⟨[.ref I,.none,.ref S],[(dn,dv)]⟩) R s:=by
 have hSw:S∉wr:=λ h=>hSf (W.sub _ h)
 have hname:(toString "min"++toString ".loop":String)="min.loop" := by decide
 refine codeAny_builtin F.entry_min_loop ?_;rw[Around.under_plainId F.plain_min_loop _];refine wpAny_bind (wpAny_seqItems hS rfl ?_);rcases M3 n with z|hn
 ·refine wpAny_bind (wpAny_tryCatch (W.done s _ _ (z ▸ hst) λ h' tk hk'=>?_));refine wpAny_bind (wpAny_rule (wpAny_pure ?_));exact h0 z h' tk λ b o b1 b2 e=>hk' b o b1 e
 ·refine wpAny_bind (wpAny_tryCatch (W.item 0 s _ _ hn hst λ v h' tk hP hst' hk'=>?_));have hS':=hk' S _ hSw hS;show wpAny _ A.in1 (updateSeq S (λ _=>#[v,v]) >>= _) _ _ _;refine wpAny_bind (wpAny_updateSeq hS' rfl ?_);rw[hname];refine wpAny_pure ⟨plainId_quiet F.plain_min_loop _,NJ W bt hcmp S hSf _ _ 0 _ v _ rfl hn (W.frame _ _ _ hst' λ b hbf o e=>?_) hP (kQ _ hS' rfl) λ v' h2 tk2 hP' hk2=>?_⟩
  ·exact(QV _ _ (λ z:S=b=>hSf (by rw[z];exact hbf))).trans e
  ·exact hR hn v' h2 tk2 hP' λ b o b1 b2 e=>hk2 b o b1 b2 ((QV _ _ (Ne.symm b2)).trans (hk' b o b1 e))
end
section
open PySem PySem.Spec PyProof.Rows
theorem NO(a d:Value):argsOk "min" ⟨[a],[("default",d)]⟩:=by unfold argsOk;kernel_rfl
variable {X:Cx}
theorem NC(hc:X.calm=true){pins:List (Addr×Obj)}{s:Shared}{σ:St}{H:Hp}{p:Addr}{ns:List Int}{d:V}{dv:Value}{Q:VK}(I:Inv X pins σ H s)(rd:RelV d dv)(hS:SqL X.K H p (ns.map V.int))(q0:ns=[]->Q d H)(q1:ns≠[]->∀m,m∈ns->(∀x∈ns,m<=x)->Q (.int m) H) :
  wpAny (model X.prog X.w) X.A (call (.builtin "min") [.ref p] [("default",dv)]) (λ v s'=>∃x H',Inv X pins σ H' s'/\RelV x v/\Q x H') X.xe s:=by
 obtain⟨its,rv,pl,hz⟩:=I.list hS;have hl:=pl.isList;have hlt:p<s.heap.objs.size:=by obtain⟨_,e,_⟩:=hl;exact D1 e
 have hl2:=rv.length;rw[BY] at hl2;have hsz:its.toArray.size=ns.length:=by rw[GC,hl2]
 have hname:(toString "min"++toString ".loop":String)="min.loop" := by decide
 refine kY F.kind_min F.plain_min F.entry_min (NO _ _) ?_;show wpAny _ X.A.in1 (Builtin.Builtins.bindParams "min" ["key","default"] 0 ⟨[],[("default",dv)]⟩ >>= _) _ _ s;refine wpAny_bind (wpAny_of_eq (show Builtin.Builtins.bindParams "min" ["key","default"] 0 ⟨[],[("default",dv)]⟩=pure [none,some dv] from rfl) ?_);refine wpAny_bind (wpAny_pure ?_);refine wpAny_bind (wpAny_pyIter_list hl ?_);refine wpAny_bind (wpAny_newObj_type ?_);rw[hname];have hsz2:(s.heap.push { cls:=.type "list_iterator",data:=.fields #[.ref p,.int 0 0] }).objs.size=s.heap.objs.size+1:=eG ..;have W:=Walks.list (prog:=X.prog) (w:=X.w) (A:=X.A.in1) (I.ok.hd hc) s.heap.objs.size p (FZ hlt) its.toArray;have keep:∀{h':Heap},(∀b o,b∉[s.heap.objs.size]->b≠s.heap.objs.size+1->((s.heap.push { cls:=.type "list_iterator",data:=.fields #[.ref p,.int 0 0] }).push { cls:=.type "list",data:=.seq #[] }).get? b=some o->h'.get? b=some o)->∀b x,s.heap.get? b=some x->h'.get? b=some x:=λ hk b x e =>
  hk b x (λ hm=>by rw[D8.mp hm] at e;exact OY _ (D1 e)) (λ z=>by have h1:=D1 e;rw[z] at h1;exact absurd h1 (VX.mpr (mE _))) (DD _ (DD _ e))
 refine wpAny_pure ⟨plainId_quiet F.plain_min_loop _,xS W (λ i j=>decide (EV ns i<EV ns j)) (CmpOf.ints_lt (EV ns) (λ i v hP=>ZH rv (by simpa using hP))) _ ?_ "default" dv ?_ (FF _ rfl) (λ z h' tk hk=>?_) (λ hn v h' tk hP hk=>?_)⟩
 ·rw[hsz2];intro hm;simp only[C6,GY,or_false] at hm;rcases hm with z|z
  ·exact absurd z (xK _)
  ·rw[<- z] at hlt;exact absurd hlt (VX.mpr (mE _))
 ·exact⟨⟨_,DD _ (FF _ rfl),U,U⟩,(hl.push _).push _⟩
 ·rw[hsz2] at hk;exact⟨d,H,I.kept (t':=tk) (keep hk),rd,q0 (M6.mp ⋯)⟩
 ·rw[hsz2] at hk;obtain⟨t,rfl⟩:=ZH rv (i:=argBest (λ i j=>decide (EV ns i<EV ns j)) (its.toArray.size-1)) (v:=v) (by simpa using hP);obtain⟨b1,b2⟩:=MG (EV ns) (its.toArray.size-1);refine⟨.int _,H,I.kept (t':=tk) (keep hk),⟨_,U⟩,q1 (λ z=>by rw[z] at hsz;simp at hsz;simp[hsz] at hn) _ (nZ ⋯) λ x hx=>?_⟩;obtain⟨i,hi,e⟩:=l7 hx;rw[<- e];exact b2 i ⋯
def lY(K:W.Frag)(ta:TA)(td:TE):TE:=λ σ H Q=>ta σ H λ vs H1=>∃p,vs=[.ref p]/\td σ H1 λ d H2=>∃ns:List Int,SqL K H2 p (ns.map V.int)/\(ns=[]->Q d H2)/\(ns≠[]->∀m,m∈ns->(∀x∈ns,m<=x)->Q (.int m) H2)
theorem YB{e e2:Expr}{ta:TA}{td:TE}{p pos kp:Pos}(hc:X.calm=true)(hg:Gl X "min")(hm:X.mg "min"=none)(ha:QA X [e] ta)(hd:QE X e2 td)(hs:BX e=true:=by rfl) :
  QE X (.Call (.Name "min" p) [e] [⟨some "default",e2,kp⟩] pos) (lY X.K ta td):=⟨by
 intro pins s σ H Q I h;refine wpAny_Call_Name_kw (JG I hg hm bt_min ?_);refine callWith_kw (B3 (ha.run pos pins s σ H _ I h) λ us s1 ⟨vs,H1,I1,r1,q1⟩=>?_) (by rw[BC hs];rfl) (by rw[BC hs];rfl);obtain⟨a,rfl,q⟩:=q1;obtain⟨u,rfl,ru⟩:=E7 r1;cases ru;refine kws_cons (B3 (hd.run pins s1 σ H1 _ I1 q) λ dv s2 ⟨d,H2,I2,rd,q2⟩=>kws_nil ?_);obtain⟨ns,hS,q0,q1⟩:=q2;exact NC hc I2 rd hS q0 q1⟩
end
end L2
namespace Ma
variable {d:Int}{g:Int->Int}{R:List T3}{m m1 m2:Nat}
def Mu(d:Int)(f:Int->Int)(m:Nat):Prop :=
 ∃J V:List Int,J.length+V.length<=m/\(∀b,0<=b->b<d->f b+2<=f (b+1)->b∈J)/\∀t,0<=t->t<d->f t=f (t+1)->f t%d∈V
theorem fA{p:T3->T3->Prop}(h:R.Pairwise p):∀u∈R,∀v∈R,u=v\/p u v\/p v u:=by
 induction R with
 |nil=>intro u hu;cases hu
 |cons x l ih =>
  have h':=nO.mp h;intro u hu v hv;rcases C6.mp hu with rfl|hu'
  ·rcases C6.mp hv with rfl|hv'
   ·exact .inl rfl
   ·exact .inr (.inl (h'.1 v hv'))
  ·rcases C6.mp hv with rfl|hv'
   ·exact .inr (.inr (h'.1 u hu'))
   ·exact ih h'.2 u hu' v hv'
theorem CK.end_at{f:Int->Int}(h:CK d R)(T:Tells d R f):∀w∈R,0<=w.2.1/\w.2.1<d/\f w.2.1<f (w.2.1+1)/\(w.2.1+1<d->f (w.2.1+1)=f w.2.1+1->f (w.2.1+1)=f (w.2.1+1+1)):=by
 intro w hw;have C:=h.can T;obtain⟨m0,m1,m2,m3⟩:=C.mem w hw;obtain⟨e1,e2⟩:=m3 w.2.1 m1 (DY _);refine⟨⋯,m2,e2,λ k1 k2=>?_⟩;have mo:=(h.rise T).mono (w.2.1+1) (w.2.1+1+1) ⋯;rcases(by omega:f (w.2.1+1)=f (w.2.1+1+1)\/f (w.2.1+1)<f (w.2.1+1+1)) with z|k3
 ·exact z
 exfalso
 obtain⟨v,hv,v1,v2⟩:=C.cov (w.2.1+1) ⋯ k1 k3;obtain⟨e3,_⟩:=(C.mem v hv).2.2.2 _ v1 v2;rcases fA C.srt w hw v hv with rfl|⟨p,q⟩|⟨p,q⟩
 ·omega
 ·exact q ⋯ ⋯
 ·omega
theorem KZ{x y:Int}(l:x<y)(l2:y<x+d):x%d≠y%d:=λ e=>by
 have a1:=rX x d;have a2:=rX y d;have k1:0<d*(y/d)-d*(x/d):=⋯;have k2:d*(y/d)-d*(x/d)<d:=⋯;rw[<- Bi] at k1 k2;generalize y/d-x/d=k at k1 k2;rcases(by omega:k<=0\/1<=k) with y|y
 ·have:=Int.mul_nonpos_of_nonneg_of_nonpos (show 0<=d by omega) y;omega
 ·have:=kD y (show 0<=d by omega);omega
theorem gE{f:Int->Int}(h:CK d R)(T:Tells d R f)(M:Mu d f m):R.length<=m+1:=by
 obtain⟨J,V,hm,hJ,hV⟩:=M;have hd:=h.d0;have rf:=h.rise T
 let key:T3->Nat×Int:=λ w=>if w.2.1+1=d then(0,0) else if f w.2.1+2<=f (w.2.1+1) then(1,w.2.1) else(2,f (w.2.1+1)%d)
 have nd:(R.map key).Nodup:=by
  refine sW.mpr (h.srt.imp_of_mem λ {u v} hu hv p=>?_);obtain⟨u0,u1,u2,u3⟩:=h.end_at T u hu;obtain⟨v0,v1,v2,v3⟩:=h.end_at T v hv;have vl:=(h.win v hv).2.1;intro z;dsimp only[key] at z;rw[if_neg ⋯] at z;split at z
  ·split at z
   ·cases (Prod.mk.inj z).1
   ·split at z
    ·have:=(Prod.mk.inj z).2;omega
    ·cases (Prod.mk.inj z).1
  ·split at z
   ·cases (Prod.mk.inj z).1
   ·split at z
    ·cases (Prod.mk.inj z).1
    ·have m1:=rf.mono (u.2.1+1) v.2.1 ⋯;have m2:=rf.mono (v.2.1+1) (u.2.1+d) ⋯;have m3:=rf.mul u.2.1 1;rw[eJ] at m3;exact KZ (d:=d) (show f (u.2.1+1)<f (v.2.1+1) by omega) ⋯ (Prod.mk.inj z).2
 have:=iZ (l:=R.map key) (L:=(0,0)::(J.map (λ b=>(1,b))++V.map (λ b=>(2,b)))) nd λ x hx=>by
  obtain⟨w,hw,rfl⟩:=DT.mp hx;obtain⟨b0,b1,e1,e2⟩:=h.end_at T w hw;show(if w.2.1+1=d then(0,0) else if f w.2.1+2<=f (w.2.1+1) then(1,w.2.1) else(2,f (w.2.1+1)%d))∈_;split
  ·exact EZ ..
  ·refine ER _ ?_;split
   ·exact K3 _ (DT.mpr ⟨_,hJ _ b0 b1 (by assumption),rfl⟩)
   ·exact GR _ (DT.mpr ⟨_,hV (w.2.1+1) ⋯ ⋯ (e2 ⋯ ⋯),rfl⟩)
 simp only[BY,KD,G2] at this;omega
theorem W1(late:Bool)(x y:Int):(late=true/\x<=jn late x y/\y<=jn late x y/\(jn late x y=x\/jn late x y=y))\/(late=false/\jn late x y<=x/\jn late x y<=y/\(jn late x y=x\/jn late x y=y)):=by
 unfold jn;cases late
 ·refine .inr ⟨rfl,?_⟩;simp only[h9,if_false];split<;>omega
 ·refine .inl ⟨rfl,?_⟩;simp only[if_true];split<;>omega
theorem pQ{late:Bool}{f:Int->Int}(rf:Rise d f)(rg:Rise d g)(M1:Mu d f m1)(M2:Mu d g m2):Mu d (λ x=>jn late (f x) (g x)) (m1+m2):=by
 obtain⟨J1,V1,h1,j1,v1⟩:=M1;obtain⟨J2,V2,h2,j2,v2⟩:=M2;refine⟨J1++J2,V1++V2,by simp only[G2];omega,λ b b0 b1 e=>?_,λ t t0 t1 e=>?_⟩
 ·have f1:=rf.mono b (b+1) ⋯;have g1:=rg.mono b (b+1) ⋯;have c0:=W1 late (f b) (g b);have c1:=W1 late (f (b+1)) (g (b+1));dsimp only at e;have:f b+2<=f (b+1)\/g b+2<=g (b+1):=by
   rcases c0 with⟨a0,a1,a2,a3⟩|⟨a0,a1,a2,a3⟩<;>rcases c1 with⟨b0,b1,b2,b3⟩|⟨b0,b1,b2,b3⟩
   ·omega
   ·rw[a0] at b0;cases b0
   ·rw[a0] at b0;cases b0
   ·omega
  rcases this with z|z
  ·exact K3 _ (j1 b b0 b1 z)
  ·exact GR _ (j2 b b0 b1 z)
 ·have f1:=rf.mono t (t+1) ⋯;have g1:=rg.mono t (t+1) ⋯;have c0:=W1 late (f t) (g t);have c1:=W1 late (f (t+1)) (g (t+1));dsimp only at e ⊢;have:(f t=f (t+1)/\jn late (f t) (g t)=f t)\/(g t=g (t+1)/\jn late (f t) (g t)=g t):=by
   rcases c0 with⟨a0,a1,a2,a3⟩|⟨a0,a1,a2,a3⟩<;>rcases c1 with⟨b0,b1,b2,b3⟩|⟨b0,b1,b2,b3⟩
   ·omega
   ·rw[a0] at b0;cases b0
   ·rw[a0] at b0;cases b0
   ·omega
  rcases this with⟨z,w⟩|⟨z,w⟩
  ·rw[w];exact K3 _ (v1 t t0 t1 z)
  ·rw[w];exact GR _ (v2 t t0 t1 z)
theorem Rise.at_mod(rg:Rise d g)(x:Int):g (x%d)=g x-d*(x/d)/\g (x%d+1)=g (x+1)-d*(x/d):=by
 have ed:=rX x d;have p0:=rg.mul (x%d) (x/d);have p1:=rg.mul (x%d+1) (x/d);rw[ed] at p0;rw[show x%d+1+d*(x/d)=x+1 by omega] at p1;omega
theorem jF{x k:Int}:(x-d*k)%d=x%d:=by
 rw[Int.sub_eq_add_neg,<- yO,sE]
theorem WS(hd:0<d){f:Int->Int}(rf:Rise d f)(rg:Rise d g)(M1:Mu d f m1)(M2:Mu d g m2):Mu d (λ x=>g (f x)) (m1+m2):=by
 obtain⟨J1,V1,h1,j1,v1⟩:=M1;obtain⟨J2,V2,h2,j2,v2⟩:=M2
 classical
 let back:Int->Int:=λ x=>if h:∃b,0<=b/\b<d/\f b%d=x/\f b<f (b+1) then h.choose else 0
 have hback:∀b,0<=b->b<d->f b<f (b+1)->back (f b%d)=b:=λ b b0 b1 l=>by
  have ex:∃c,0<=c/\c<d/\f c%d=f b%d/\f c<f (c+1):=⟨b,b0,b1,rfl,l⟩
  simp only[back];rw[dif_pos ex];obtain⟨c0,c1,c2,c3⟩:=ex.choose_spec;generalize ex.choose=c at *;rcases(by omega:c<b\/c=b\/b<c) with z|z|z
  ·have n1:=rf.mono (c+1) b ⋯;have n2:=rf.mono (b+1) (c+d) ⋯;have n3:=rf.mul c 1;rw[eJ] at n3;exact absurd c2 (KZ ⋯ ⋯)
  ·exact z
  ·have n1:=rf.mono (b+1) c ⋯;have n2:=rf.mono (c+1) (b+d) ⋯;have n3:=rf.mul b 1;rw[eJ] at n3;exact absurd c2.symm (KZ ⋯ ⋯)
 refine⟨J1++J2.map back,V1.map (λ u=>g u%d)++V2,by simp only[G2,BY];omega,λ b b0 b1 e=>?_,λ t t0 t1 e=>?_⟩
 ·dsimp only at e;have fm:=rf.mono b (b+1) ⋯;rcases(by omega:f b+2<=f (b+1)\/f (b+1)=f b+1\/f (b+1)=f b) with z|z|z
  ·exact K3 _ (j1 b b0 b1 z)
  ·refine GR _ (DT.mpr ⟨f b%d,?_,hback b b0 b1 ⋯⟩);have p:=rg.at_mod (f b);rw[z] at e;exact j2 _ (UH _ ⋯) (UV _ hd) ⋯
  ·rw[z] at e;omega
 ·dsimp only at e ⊢;have fm:=rf.mono t (t+1) ⋯
  by_cases z:f t=f (t+1)
  ·refine K3 _ (DT.mpr ⟨f t%d,v1 t t0 t1 z,?_⟩);rw[(rg.at_mod (f t)).1,jF]
  ·refine GR _ ?_;have p:=rg.at_mod (f t);have q1:=rg.mono (f t) (f t+1) ⋯;have q2:=rg.mono (f t+1) (f (t+1)) ⋯;have:=v2 _ (UH (f t) ⋯) (UV (f t) hd) ⋯;rw[p.1,jF] at this;exact this
theorem mu_of{f:Int->Int}(h:CK d R)(T:Tells d R f):Mu d f (2*R.length):=by
 have C:=h.can T;have hd:=h.d0;have rf:=h.rise T;refine⟨R.map (·.2.1),R.map (λ w=>(w.1+w.2.2)%d),by simp only[BY];omega,λ b b0 b1 e=>?_,λ t t0 t1 e=>?_⟩
 ·obtain⟨w,hw,w1,w2⟩:=C.cov b b0 b1 ⋯;obtain⟨_,_,_,m3⟩:=C.mem w hw;refine DT.mpr ⟨w,hw,?_⟩;rcases(by omega:w.2.1=b\/b+1<=w.2.1) with z|z
  ·exact z
  ·have a1:=(m3 b w1 w2).1;have a2:=(m3 (b+1) ⋯ z).1;omega
 ·obtain⟨x,x0,x1,x2,x3⟩:=oO hd rf t;have ne:t≠x:=λ z=>by subst z;omega
  have fx:=rf.mono t (x-1) ⋯;have fx':=rf.mono (x-1) x ⋯;have p:=rf.at_mod x;have pm:=rf.at_mod (x-1);obtain⟨w,hw,w1,w2⟩:=C.cov (x%d) (UH _ ⋯) (UV _ hd) ⋯;obtain⟨m0,_,_,m3⟩:=C.mem w hw;have a1:=(m3 _ w1 w2).1;refine DT.mpr ⟨w,hw,?_⟩;rcases(by omega:w.1=x%d\/w.1<=x%d-1) with z|z
  ·rw[z,<- a1,p.1,jF,x2]
  ·have a2:=(m3 (x%d-1) z ⋯).1;have:=rf.mul (x%d-1) (x/d);have ed:=rX x d;rw[show x%d-1+d*(x/d)=x-1 by omega] at this;omega
def MuR(d:Int)(R:List T3)(m:Nat):Prop:=CK d R/\(R≠[]->Mu d (bf d R) m)
theorem Mu.congr{f:Int->Int}(M:Mu d f m)(e:∀t,f t=g t):Mu d g m:=by
 have:f=g:=funext e;exact this ▸ M
theorem Mu.le{f:Int->Int}{m':Nat}(M:Mu d f m)(l:m<=m'):Mu d f m':=by
 obtain⟨J,V,h,a,b⟩:=M;exact⟨J,V,⋯,a,b⟩
theorem MuR.len(h:MuR d R m):R.length<=m+1:=by
 by_cases z:R=[]
 ·rw[z];exact HV _
 ·exact gE h.1 (tells_bf z) (h.2 z)
theorem mur_nil(hd:0<d):MuR d [] m:=⟨ck_nil hd,λ z=>absurd rfl z⟩
theorem mur_one{w:T3}(h:CK d [w]):MuR d [w] 2:=⟨h,λ z=>mu_of h (tells_bf z)⟩
theorem MuR.le{d:Int}{R:List T3}{m m':Nat}(h:MuR d R m)(l:m<=m'):MuR d R m':=⟨h.1,λ z=>(h.2 z).le l⟩
theorem MuR.min{d:Int}{R R1 R2:List T3}{m1 m2:Nat}(h:CK d R)(h1:MuR d R1 m1)(h2:MuR d R2 m2)(e:∀t,bt d R t=omin (bt d R1 t) (bt d R2 t)):MuR d R (m1+m2):=by
 by_cases z1:R1=[]
 ·subst z1;have:R=R2:=h.uniq h2.1 λ t=>by rw[e t,bt_nil];cases bt d R2 t<;>rfl
  rw[this];exact h2.le ⋯
 by_cases z2:R2=[]
 ·subst z2;have:R=R1:=h.uniq h1.1 λ t=>by rw[e t,bt_nil];cases bt d R1 t<;>rfl
  rw[this];exact h1.le ⋯
 refine⟨h,λ z=>(pQ (late:=false) (h1.1.rise (tells_bf (d:=d) z1)) (h2.1.rise (tells_bf (d:=d) z2)) (h1.2 z1) (h2.2 z2)).congr λ t=>?_⟩;have a:=tells_bf (d:=d) z t;rw[e t,(tells_bf (d:=d) z1).min (tells_bf (d:=d) z2) t] at a;exact Option.some.inj a
theorem MuR.bind{R1 R2:List T3}(h:CK d R)(h1:MuR d R1 m1)(h2:MuR d R2 m2)(e:∀t,bt d R t=obind (bt d R1) (bt d R2) t):MuR d R (m1+m2):=by
 by_cases z1:R1=[]
 ·subst z1;have:R=[]:=h.uniq (ck_nil h.d0) λ t=>by rw[e t];rfl
  rw[this];exact mur_nil h.d0
 by_cases z2:R2=[]
 ·subst z2;have:R=[]:=h.uniq (ck_nil h.d0) λ t=>by rw[e t];unfold obind;cases bt d R1 t<;>rfl
  rw[this];exact mur_nil h.d0
 refine⟨h,λ z=>(WS h.d0 (h1.1.rise (tells_bf (d:=d) z1)) (h2.1.rise (tells_bf (d:=d) z2)) (h1.2 z1) (h2.2 z2)).congr λ t=>?_⟩;have a:=tells_bf (d:=d) z t;rw[e t] at a;unfold obind at a;rw[tells_bf (d:=d) z1 t] at a;exact Option.some.inj ((tells_bf (d:=d) z2 _).symm.trans a)
end Ma
namespace L2
open PySem PySem.Spec PyProof.Rows
variable {a:Addr}{X:Cx}{e:Expr}{base:Heap}{H:Hp}{es:List Expr}{ps:List Str}{k kk:Nat}{apos p pos tp:Pos}{P:Program}{s:Shared}{sp:Sp}{σ:St}{x:Str}{mg:Str->Option Value}{t:TA}{Q:Value->Shared->Prop}{K:W.Frag}{w:World}
theorem mH{h base base':Heap}(k:∀b o,base.get? b=some o->base'.get? b=some o):∀{l:List Env},h.FunFrames base' l->h.FunFrames base l
 | [],_=>trivial
 |env::C3,⟨hk,⟨L,o,hf,hn,ho,hd⟩,hr⟩=>⟨hk,⟨L,o,hf,(by
   cases e:base.get? L with
   |none=>rfl
   |some x =>
    rw[k L x e] at hn;cases hn),ho,hd⟩,mH k hr⟩
theorem FnOk.widen{base':Heap}{CX:R8}{f:Addr}{fd:FuncData}(F:FnOk P w K mg base CX k f fd ps sp)(m:Mod K mg base)(hk:∀b o,base.get? b=some o->base'.get? b=some o)(hz:base.objs.size<=base'.objs.size) :
  FnOk P w K mg base' CX k f fd ps sp:=⟨F.len,λ A outer s H args us vs Q E hr e0 hb r hsp=>F.run A outer s H args us vs Q E hr ⟨e0.frames,m,λ b o e=>e0.bs b o (hk b o e),FB hz e0.bsz,mH hk e0.funs,e0.frf,e0.hok,e0.bare⟩ hb r hsp⟩
theorem Callee.widen{P:Program}{w:World}{K:W.Frag}{mg:Str->Option Value}{base base':Heap}{k:Nat}{x:Str}{ps:List Str}{sp:Sp}(C:Callee P w K mg base k x ps sp)(m:Mod K mg base)(hk:∀b o,base.get? b=some o->base'.get? b=some o)(hz:base.objs.size<=base'.objs.size) :
  Callee P w K mg base' k x ps sp:=by
 obtain⟨f,fd,G,b,kp,m'⟩:=C.ex;exact⟨f,fd,G.widen m hk hz,b,kp,m'⟩
inductive tLam4(i1 i2:Nat)(P:Addr)(pos:Pos)(qual:Str)(te1 te2 te3:TE)(spG:V->V->Addr->Addr->Sp)(σ:St)(H:Hp)(Q:VK):Prop
 |mk (v1:_) (v2:_):σ[i1]?=some (some v1)->σ[i2]?=some (some v2)->(te1 σ H λ w1 H1=>te2 σ H1 λ w2 H2=>te3 σ H2 λ w3 H3=>TabOk H3 P pos qual/\∀fl c' H4,SameT P H3 H4->TabOk H4 P pos qual->H4 c'=some (.ext (CW c' qual))->spG v1 v2 fl c' [w1,w2,w3,.ref fl] H4 Q E0)->tLam4 i1 i2 P pos qual te1 te2 te3 spG σ H Q
section
variable {y1 y2:Str}{g c P cy1 cy2:Addr}{gd:FuncData}{ps2 N:List Str}{spG:V->V->Addr->Addr->Sp}{e1 e2 e3 body:Expr}{te1 te2 te3:TE}{params:Arguments}{sc:Scope}{lpos:Pos}{clos:List (Str×Addr)}
theorem yM(i1 i2:Nat)(hr:Room k X.A)(hg:Gl X x)(hm:X.mg x=some (.ref g))(hk:W.keepIn X.K (.ref g)=true)(hbG:Binds X.K gd ps2 [])(hl2:ps2.length=4)(hcode:X.env.code=.ref c)(hC:W.CodeHd X.base c P)(hB:ES X.mg X.base)
  (hcl:closureFor sc X.env=pure clos)
  (hN1:X.N[i1]?=some y1) (hky1:X.env.kindOf y1=some .cell) (hvy1:QZ X.env.scope y1) (hcy1:X.env.cells.lookup y1=some cy1) (hfy1:X.fn y1=true) (hcly1:clos.lookup y1=some cy1)
  (hN2:X.N[i2]?=some y2) (hky2:X.env.kindOf y2=some .cell) (hvy2:QZ X.env.scope y2) (hcy2:X.env.cells.lookup y2=some cy2) (hfy2:X.fn y2=true) (hcly2:clos.lookup y2=some cy2)
  (honly:∀z d,clos.lookup z=some d->(z=y1/\d=cy1)\/(z=y2/\d=cy2)) (hNp:N=ps++[y1,y2]) (hsy1:sc.names.lookup y1=some .free) (hsy2:sc.names.lookup y2=some .free)
  (h1:PE X e1 te1) (h2:PE X e2 te2) (h3:PE X e3 te3)
  (G:∀(base':Heap)(fl c':Addr)(v1 v2:V)(pm ctv:Value),Mod X.K X.mg X.base->(∀b o,X.base.get? b=some o->base'.get? b=some o)->X.base.objs.size<=base'.objs.size->base'.get? fl=some (W.kla_obj "<lambda>" (X.env.qual++"<lambda>") params body sc clos pm c' ctv)->JI base' sc clos N ps [v1,v2]->FnOk X.prog X.w X.K X.mg base' B5 k g gd ps2 (spG v1 v2 fl c'))
  (hdb:(x==("__debug__":Str))=false:=by decide) (hdef:defaultsOf params X.env=([],[]):=by rfl)
  (he:starEach [e1,e2,e3,.Lambda params body sc lpos] X.env=(false,eval e1 X.env)::starEach [e2,e3,.Lambda params body sc lpos] X.env:=by rfl) (he2:starEach [e2,e3,.Lambda params body sc lpos] X.env=(false,eval e2 X.env)::starEach [e3,.Lambda params body sc lpos] X.env:=by rfl)
  (he3:starEach [e3,.Lambda params body sc lpos] X.env=(false,eval e3 X.env)::starEach [.Lambda params body sc lpos] X.env:=by rfl) (he4:starEach [.Lambda params body sc lpos] X.env=(false,eval (.Lambda params body sc lpos) X.env)::starEach [] X.env:=by rfl)
  (hpl:(backTo pos (starEach [e2,e3,.Lambda params body sc lpos] X.env)).any (·.1)=false:=by rfl) :
  PE X (.Call (.Name x p) [e1,e2,e3,.Lambda params body sc lpos] [] pos) (tLam4 i1 i2 P lpos (X.env.qual++"<lambda>") te1 te2 te3 spG):=by
 intro pins s σ H Q I h;obtain⟨v1,v2,hv1,hv2,h⟩:=h;refine wpAny_Call_Name_kw (SH I hg hm ?_ hdb);refine W.callWith_K (h₀:=X.base) I.ok.mod.kin hk ?_ he hpl;rw[he];show wpAny _ _ (spliced ((false,eval e1 X.env)::backTo pos (starEach [e2,e3,.Lambda params body sc lpos] X.env))) _ _ s;refine Calls.spliced_cons (B3 (h1 pins s σ H _ I h) λ u1 sa z9=>?_);obtain⟨w1,Ha,Ia,r1,ha⟩ := z9;rw[he2];show wpAny _ _ (spliced ((false,eval e2 X.env)::backTo pos (starEach [e3,.Lambda params body sc lpos] X.env))) _ _ sa;refine Calls.spliced_cons (B3 (h2 pins sa σ Ha _ Ia ha) λ u2 sb z9=>?_);obtain⟨w2,Hb,Ib,r2,hb⟩ := z9;rw[he3];show wpAny _ _ (spliced ((false,eval e3 X.env)::backTo pos (starEach [.Lambda params body sc lpos] X.env))) _ _ sb;refine Calls.spliced_cons (B3 (h3 pins sb σ Hb _ Ib hb) λ u3 s1 z9=>?_);obtain⟨w3,H1,I1,r3,tab,q1⟩ := z9;rw[he4];show wpAny _ _ (spliced ((false,eval (.Lambda params body sc lpos) X.env)::backTo pos (starEach [] X.env))) _ _ s1;refine Calls.spliced_cons (W.kla_eval hdef ?_);have cellAt:∀{i:Nat}{y:Str}{cy:Addr}{v:V},X.N[i]?=some y->X.env.kindOf y=some .cell->QZ X.env.scope y->X.env.cells.lookup y=some cy->σ[i]?=some (some v)->∀{H2:Hp}{s2:Shared},Inv X pins σ H2 s2->∃u,RelV v u/\s2.heap.IsCell cy (some u):=λ {i y cy v} hN hky hvy hcy hv {H2 s2} J=>by
  obtain⟨m,_,hl⟩:=J.loc;obtain⟨u,ru,lk⟩:=hl i y v hN hv hvy;rcases lk with⟨z,_⟩|⟨_,d,e',q⟩
  ·rw[hky] at z;cases z
  ·rw[hcy] at e';cases e';exact⟨u,ru,q⟩
 have fin:∀(fl c':Addr)(pm ctv:Value)(H2:Hp)(s2:Shared),Inv X pins σ H2 s2->SameT P H1 H2->TabOk H2 P lpos (X.env.qual++"<lambda>")->H2 c'=some (.ext (CW c' (X.env.qual++"<lambda>"))) ->
   s2.heap.get? fl=some (W.kla_obj "<lambda>" (X.env.qual++"<lambda>") params body sc clos pm c' ctv)->H2 fl=none->fl∉JM X.stack ->
   wpAny (model X.prog X.w) X.A (spliced (backTo pos (starEach [] X.env))) (λ vs s3=>X.K.In s3.heap/\wpAny (model X.prog X.w) X.A (call (.ref g) ([]++(u1::u2::u3 :: .ref fl::vs))) (EP X pins σ Q) X.xe s3) X.xe s2:=by
  intro fl c' pm ctv H2 s2 I2 sm tb hc' hfl nfl nfs;refine Calls.spliced_nil ⟨I2.kIn,?_⟩;have hb1:=OV (X:=X) hfl nfl nfs;have nc:∀{y:Str}{cy:Addr},X.env.cells.lookup y=some cy->X.fn y=true->cy∉JM X.stack:=λ {y cy} hcy hfy z=>by
   rcases C6.mp (I2.stkSub cy z) with e|e
   ·exact I2.cne y cy hcy e
   ·have lo:=I2.ok.cab y cy hfy hcy;obtain⟨_,o,eo,_⟩:=I2.ok.funs.mem e;exact absurd (HP (D1 eo) lo) (OY _)
  obtain⟨ua,ra,oa,qa1,qa2⟩:=cellAt hN1 hky1 hvy1 hcy1 hv1 I2;obtain⟨ub,rb,ob,qb1,qb2⟩:=cellAt hN2 hky2 hvy2 hcy2 hv2 I2;have hba:=OV (X:=X) qa1 (I2.freeC y1 cy1 hcy1) (nc hcy1 hfy1);have hbb:=OV (X:=X) qb1 (I2.freeC y2 cy2 hcy2) (nc hcy2 hfy2);have ca:JI (HI X H2 s2.heap) sc clos N ps [v1,v2]:=by
   refine⟨by rw[hNp,G2];rfl,λ z d e=>?_,λ j z v' e1 e2=>?_⟩
   ·rcases honly z d e with⟨rfl,rfl⟩|⟨rfl,rfl⟩
    ·exact⟨some ua,oa,hba,qa2⟩
    ·exact⟨some ub,ob,hbb,qb2⟩
   ·rw[hNp,GM (Nat.le_add_right _ _),Nat.add_sub_cancel_left] at e1
    match j,e1,e2 with
    |0,e1,e2 =>
     cases e1;cases e2;exact⟨hsy1,cy1,ua,hcly1,⟨oa,hba,qa2⟩,ra⟩
    |1,e1,e2 =>
     cases e1;cases e2;exact⟨hsy2,cy2,ub,hcly2,⟨ob,hbb,qb2⟩,rb⟩
    |j+2,e1,e2=>cases e2
  have F:=G _ fl c' v1 v2 pm ctv I2.ok.mod I2.base_fixed (FB I2.env0.bsz (rM (W.hideAll_size _ _).symm)) hb1 ca;have hsp:=q1 fl c' H2 sm tb hc';have bnd:BindsTo s2 gd ⟨[u1,u2,u3,.ref fl],[]⟩ (ps2.zip [u1,u2,u3,.ref fl]):=by
   have:=hbG s2 [u1,u2,u3,.ref fl] I2.kIn (by rw[hl2];rfl)
   simpa using this
  refine wpAny_call (codeAny_mono (F.run X.A X.stack s2 H2 ⟨[u1,u2,u3,.ref fl],[]⟩ [u1,u2,u3,.ref fl] [w1,w2,w3,.ref fl] Q E0 hr I2.env_fixed bnd (.cons r1 (.cons r2 (.cons r3 (.cons rfl .nil)))) hsp) λ r s' hq=>?_);cases r with
  |error e=>exact False.elim hq
  |ok fl' =>
   cases fl' with
   |ret u=>exact I2.after hq
   |next=>exact False.elim hq
   |brk=>exact False.elim hq
   |cont=>exact False.elim hq
 obtain⟨bm,ob,b1,b2,b3,b4,b5,b6⟩:=hB;obtain⟨ps0,hP,ht,hor⟩:=tab;have hPo:s1.heap.get? P=some (W.tabObj ps0):=I1.hok P _ hP;have notP:∀b o,X.base.get? b=some o->b≠P:=λ b o e z=>by
  have:=(I1.bs b o e).2;rw[z,hP] at this;cases this
 obtain⟨og,esg,epg,eg,dg,rg⟩:=I1.mod.glob;have hbA:s1.heap.BuiltinsAt X.mg P:=⟨bm,ob,b1,b2,(λ z=>by rw[z,eg] at b3;cases b3;rw[b6] at dg;cases dg),notP _ _ b3,I1.bk _ _ b3,b4,b5,b6⟩
 have gl:s1.heap.Ns mainGlobals X.mg:=I1.mod.glob.keeps I1.bk;rcases hor with hnf|⟨c',hf,hc'⟩
 ·refine W.kla_makeFunction (mg:=X.mg) hcl I1.ok.glob gl hcode (hC.keeps I1.bk) hPo ht hnf (notP _ _ eg) hbA λ c' ctv h' tk hx hge hlt hrec htb=>?_
  have ltP:P<s1.heap.objs.size:=D1 hPo;have neP:P≠c':=FZ (HP ltP hge);have nc':H1 c'=none:=I1.hok.fresh hge;have old:∀b o,b≠P->s1.heap.get? b=some o->(h'.push (W.kla_obj "<lambda>" (X.env.qual++"<lambda>") params body sc clos ((X.mg "__name__").getD .none) c' ctv)).get? b=some o:=λ b o n e=>DD _ (hx b o n e)
  have kP:∀b o,H1 b=some o->(∀z,o ≠ .tbl z)->b≠P:=λ b o e n z=>by rw[z,hP] at e;exact n ps0 (Option.some.inj e).symm
  have up:∀b o,H1 b=some o->b≠P->AD (AD H1 c' (.ext (CW c' (X.env.qual++"<lambda>")))) P (.tbl (ps0 ++ #[rawInt lpos.line,rawInt lpos.col,.ref c'])) b=some o:=λ b o e n=>by
   rw[AJ n,AJ (DW e nc')];exact e
  have upN:∀b,H1 b=none->b≠c'->AD (AD H1 c' (.ext (CW c' (X.env.qual++"<lambda>")))) P (.tbl (ps0 ++ #[rawInt lpos.line,rawInt lpos.col,.ref c'])) b=none:=λ b e n=>by
   rw[AJ (λ z=>by rw[z,hP] at e;cases e),AJ n];exact e
  have u:Un X.fs [] H1 (AD (AD H1 c' (.ext (CW c' (X.env.qual++"<lambda>")))) P (.tbl (ps0 ++ #[rawInt lpos.line,rawInt lpos.col,.ref c']))) s1.heap (h'.push (W.kla_obj "<lambda>" (X.env.qual++"<lambda>") params body sc clos ((X.mg "__name__").getD .none) c' ctv)):=by
   have nP:∀b,H1 b=none->b≠P:=λ b n z=>by rw[z,hP] at n;cases n
   refine⟨λ b o e n _ _=>old b o (nP b n) e,λ b o e n _ _=>⟨o.slots,old b o (nP b n) e⟩,λ b o e n _=>upN b n (FZ (HP (D1 e) hge)),λ b o e _=>?_,λ b xs e=>up b _ e (kP b _ e λ _ z=>nomatch z),λ b o w e=>up b _ e (kP b _ e λ _ z=>nomatch z),λ b pz e=>?_⟩
   ·by_cases hb:b=P
    ·rw[hb];exact⟨_,DD _ htb⟩
    ·exact⟨o,old b o hb e⟩
   ·by_cases hb:b=P
    ·rw[hb] at e ⊢;rw[hP] at e;cases e;exact⟨_,AI⟩
    ·exact⟨#[],by rw[up b _ e hb];simp⟩
  have hok:HOk X.prog X.w (AD (AD H1 c' (.ext (CW c' (X.env.qual++"<lambda>")))) P (.tbl (ps0 ++ #[rawInt lpos.line,rawInt lpos.col,.ref c']))) (h'.push (W.kla_obj "<lambda>" (X.env.qual++"<lambda>") params body sc clos ((X.mg "__name__").getD .none) c' ctv)):=by
   intro b o e
   by_cases hb:b=P
   ·rw[hb,AI] at e;cases e;rw[hb];exact DD _ htb
   ·rw[AJ hb] at e
    by_cases hb2:b=c'
    ·rw[hb2,AI] at e;cases e;rw[hb2];obtain⟨c2,oc,vs,tq,ee,hoc,C3⟩:=hrec;cases ee;refine⟨⟨_,oc,vs,tq,U,DD _ hoc,C3⟩,⟨oc,DD _ hoc⟩,λ h1 h2 hq hk=>?_⟩;obtain⟨c3,o3,v3,t3,e3,g3,r3⟩:=hq;cases e3;exact⟨_,o3,v3,t3,U,hk _ g3,r3⟩
    ·rw[AJ hb2] at e;refine(I1.hok b o e).stay (λ d z hd q=>old d z ?_ q) (λ d q=>up d _ q (kP d _ q λ _ z=>nomatch z)) λ d xs q=>up d _ q (kP d _ q λ _ z=>nomatch z)
     rcases hd with hd|hd
     ·rw[hd];exact hb
     ·exact kP d _ hd λ _ z=>nomatch z
  have I2:=I1.un (t':=tk) u hok;refine fin h'.objs.size c' _ ctv _ _ I2 (λ b o e n=>up b o e n) ⟨_,AI,?_,.inr ⟨c',?_,?_⟩⟩ ?_ (FF _ rfl) ?_ ?_
  ·have:=TriplesOk_snoc lpos.line lpos.col (.ref c') ps0.toList ht
   simpa using this
  ·have:=codeAmong_snoc (pos:=lpos) (c:=.ref c') ps0.toList ht hnf
   simpa using this
  ·rw[AJ neP.symm,AI]
  ·rw[AJ neP.symm,AI]
  ·refine upN _ (I1.hok.fresh (FB hge (RS hlt))) (nK hlt)
  ·exact λ z=>by
    rcases C6.mp (I1.stkSub _ z) with e|e
    ·exact absurd (I1.lt) (by rw[<- e];exact VX.mpr (FB hge (RS hlt)))
    ·exact I1.nofs (FB hge (RS hlt)) e
 ·refine W.kla_makeFunctionHit (mg:=X.mg) hcl I1.ok.glob gl hcode (hC.keeps I1.bk) hPo ht hf hbA λ ctv h' tk hk hsz=>?_
  have I2:Inv X pins σ H1 { s1 with heap:=h'.push { cls:=.type "function",data:=.func (W.kla_fn "<lambda>" (X.env.qual++"<lambda>") params body sc clos ((X.mg "__name__").getD .none) (.ref c') ctv) },toks:=tk }:=I1.kept (t':=tk) λ b o e=>DD _ (hk b o e)
  refine fin h'.objs.size c' _ ctv H1 _ I2 (λ b o e _=>e) ⟨ps0,hP,ht,.inr ⟨c',hf,hc'⟩⟩ hc' (FF _ rfl) (I1.hok.fresh hsz) ?_;exact λ z=>by
   rcases C6.mp (I1.stkSub _ z) with e|e
   ·exact absurd (I1.lt) (by rw[<- e];exact VX.mpr hsz)
   ·exact I1.nofs hsz e
end
section
variable {o value:Expr}{f m:Str}{pos':Pos}{ta tv:TE}{C:Addr}
theorem G3(he:QE X e ta)(hb:attributeBase e f X.env (eval e X.env)=eval e X.env:=by rfl):QE X (.Attribute e f pos) (fJ X.K ta f):=⟨fS he.run hb⟩
theorem KM(ha:QE X o ta)(hv:QE X value tv)(hs:swapsWith value (some (.Attribute o f pos')) pos.line X.env=pure false:=by rfl):QS X (.Assign [.Attribute o f pos'] value pos) (qH X.K ta tv f):=⟨gZ ha.run hv.run hs⟩
structure MCal(P:Program)(w:World)(K:W.Frag)(mg:Str->Option Value)(base:Heap)(k:Nat)(C:Addr)(m:Str)(ps:List Str)(sp:Sp):Prop where
 ex:∃(f:Addr)(fd:FuncData),FnOk P w K mg base B5 k f fd ps sp/\Binds K fd ps []/\Meth K C m f
 cl:Cls K C
theorem MCal.up{j:Nat}(M:MCal P w K mg base j C m ps sp)(h:j<=k):MCal P w K mg base k C m ps sp:=by
 obtain⟨⟨f,fd,G,b,me⟩,c⟩:=M;exact⟨⟨f,fd,G.mono h,b,me⟩,c⟩
theorem VT{pl:Sem Bool}(M:MCal X.prog X.w X.K X.mg X.base k C m ps sp)(hr:Room k X.A)(ho:QE X o ta)(ha:QA X (e::es) t)(h:BX e=true:=by rfl)(hpl:es.all BX=true:=by rfl)
  (ht:eval (.Call (.Attribute o m apos) (e::es) [] pos) X.env=(do
   let ov <- eval o X.env
   standAt apos.atName
   let (f,first) <- holding [ov] (getMethod ov m pl)
   callWith pos f first (backTo pos (starEach (e::es) X.env)) (backToKw pos (keywordEach [] X.env))):=by rfl) :
  QE X (.Call (.Attribute o m apos) (e::es) [] pos) (d9 C m sp [] E0 ta t):=by
 obtain⟨⟨f,fd,G,b,me⟩,c⟩:=M;exact⟨WH ho.run c me G hr b .nil JY ha.run (BC h) (JX hpl) ht⟩
structure KCal(P:Program)(w:World)(K:W.Frag)(mg:Str->Option Value)(base:Heap)(k:Nat)(x:Str)(C:Addr)(ps:List Str)(sp:Sp):Prop where
 ex:∃(f:Addr)(fd:FuncData),Mk K C f/\FnOk P w K mg base B5 k f fd ps sp/\Binds K fd ps []
 mg_:mg x=some (.ref C)
theorem KCal.up{j:Nat}(M:KCal P w K mg base j x C ps sp)(h:j<=k):KCal P w K mg base k x C ps sp:=by
 obtain⟨⟨f,fd,mk,G,b⟩,c⟩:=M;exact⟨⟨f,fd,mk,G.mono h,b⟩,c⟩
theorem W4(M:KCal X.prog X.w X.K X.mg X.base k x C ps sp)(hr:Room (k+1) X.A)(hg:Gl X x)(ha:QA X (e::es) t)(h:BX e=true:=by rfl)(hpl:es.all BX=true:=by rfl)(hdb:(x==("__debug__":Str))=false:=by decide) :
  QE X (.Call (.Name x p) (e::es) [] pos) (dD C sp [] E0 t):=by
 obtain⟨⟨f,fd,mk,G,b⟩,c⟩:=M;exact⟨XQ mk G hr hg c b .nil JY ha.run hdb (BC h) (JX hpl)⟩
end
structure FunD(K:W.Frag)(x qual:Str)(st:Stmt)(f:Addr)(fd:FuncData):Prop where
 ex:∃(oc:Value)(od:Option Addr)(dV kV doc pm:Value)(an:Option Addr)(cdv ct:Value) (osl:Array (Option Value)),
  fd=W.fnOf x qual (D7 st) (C7 st) (AG st) dV kV doc pm an cdv ct/\K.lookup f=some ⟨oc,od,.func fd,osl⟩/\W.codeIn K cdv qual=true
theorem FunD.okQ{qual:Str}{st:Stmt}{f:Addr}{fd:FuncData}{N:List Str}(F:FunD K x qual st f fd)(S:FnScope N ps (AG st))(len:∀vs H Q E,sp vs H Q E->vs.length=ps.length)
  (hbody:∀(cdv:Value)(A:Around)(outer:List Env)(s:Shared)(H:Hp)(vs:List V)(Q:VK)(E:XK),Room k (A.deeper (envOfC qual (AG st) s.heap.objs.size f cdv))->sp vs H Q E ->
   ∃t,QSs (JS B5 P w K mg base N qual (AG st) f cdv A outer s H E).nox (C7 st) t/\t { nx:=λ _ H'=>Q .non H',rt:=Q } (FP N vs) H):FnOk P w K mg base B5 (k+1) f fd ps sp:=by
 obtain⟨oc,od,dV,kV,doc,pm,an,cdv,ct,osl,rfl,lk,hcd⟩:=F.ex;refine IQ lk hcd S len λ A outer s H vs Q E hr hsp=>?_
 obtain⟨t,h,q⟩:=hbody cdv A outer s H vs Q E hr hsp;exact⟨t,h.run.nox,q⟩
section
variable {prog:Program}{A:Around}{E:Value->Shared->Prop}{it t:Addr}{i:Nat}{items:Array Value}
theorem vS{x:Value}(hi:s.heap.IsTupleIter it t i)(ht:s.heap.IsTuple t items)(hx:items[i]?=some x)(hQ:∀h',h'.IsTupleIter it t (i+1)->Heap.SameBut it s.heap h'->Q x { s with heap:=h' }) :
  wpAny (model prog w) A (Builtin.SmallTypes.nextOf (.ref it)) Q E s:=by
 obtain⟨o,ho,hc,hd⟩:=id hi;obtain⟨ot,hot,_,nt,hdt⟩:=ht;have go:wpAny (model prog w) A (callSpecial? (.ref it) (IL "__next__")) (λ v s'=>wpAny (model prog w) A (match v with|some v=>pure v|none=>do rule "iternext.gone";raiseError "TypeError" s!"'{← typeNameOf (.ref it)}' object is not iterable") Q E s') E s:=by
  refine wpAny_callSpecial?_slot ⟨o,ho,hc⟩ F.slot_tuple_iterator_next (wpAny_call_entry F.slot_tuple_iterator_next ⟨o,ho,hc⟩ F.entry_tuple_iterator_next ?_ (F.args_tuple_iterator_next_1 _));refine(show wpAny (model prog w) _ (field (.ref it) 0 >>= _) _ _ s from ?_);refine wpAny_bind (wpAny_field ho hd (x:=.ref t) rfl ?_);refine(show wpAny (model prog w) _ (field (.ref it) 1 >>= _) _ _ s from ?_);refine wpAny_bind (wpAny_field ho hd (x:=.int i 0) rfl ?_);refine(show wpAny (model prog w) _ (seqItems? (.ref t) >>= _) _ _ s from ?_);refine wpAny_bind (wpAny_seqItems hot hdt ?_);simp only[rV,hx];refine wpAny_bind (wpAny_setField ho hd (by simp) (wpAny_pure ⟨x,rfl,wpAny_pure (hQ _ ⟨_,kQ _ ho (Obj.isFreed_of_fields (Obj.data_mapFields hd _)),(Obj.cls_mapFields ..).trans hc,?_⟩ (Heap.SameBut.update ..))⟩));rw[Obj.data_mapFields hd];simp[rawInt]
 exact wpAny_bind go
theorem Q4{Q:Value->Shared->Prop}(hh:A.handled=none)(hi:s.heap.IsTupleIter it t i)(ht:s.heap.IsTuple t items)(hx:items[i]?=none)(hE:∀h' e,Heap.ExtBut it s.heap h'->(∃o,h'.get? e=some o/\o.cls=.type "StopIteration")->E (.ref e) { s with heap:=h' }) :
  wpAny (model prog w) A (Builtin.SmallTypes.nextOf (.ref it)) Q E s:=by
 obtain⟨o,ho,hc,hd⟩:=id hi;obtain⟨ot,hot,_,nt,hdt⟩:=ht;have go:∀Q',wpAny (model prog w) A (callSpecial? (.ref it) (IL "__next__")) Q' E s:=λ Q'=>by
  refine wpAny_callSpecial?_slot ⟨o,ho,hc⟩ F.slot_tuple_iterator_next (wpAny_call_entry F.slot_tuple_iterator_next ⟨o,ho,hc⟩ F.entry_tuple_iterator_next ?_ (F.args_tuple_iterator_next_1 _));refine(show wpAny (model prog w) _ (field (.ref it) 0 >>= _) _ _ s from ?_);refine wpAny_bind (wpAny_field ho hd (x:=.ref t) rfl ?_);refine(show wpAny (model prog w) _ (field (.ref it) 1 >>= _) _ _ s from ?_);refine wpAny_bind (wpAny_field ho hd (x:=.int i 0) rfl ?_);refine(show wpAny (model prog w) _ (seqItems? (.ref t) >>= _) _ _ s from ?_);refine wpAny_bind (wpAny_seqItems hot hdt ?_);simp only[rV,hx];refine wpAny_bind (wpAny_rule (wpAny_bind (wpAny_setField ho hd (by simp) ?_)));refine(show wpAny (model prog w) _ (newExc (.type "StopIteration") [] >>= _) _ _ _ from wpAny_bind ?_);simp only[newExc,newTuple];refine wpAny_bind (wpAny_newObj_type (wpAny_bind (m:=firstArgMember _ _) (wpAny_of_eq (a:=Value.none) (by first|rfl|(simp only[firstArgMember];rfl)) (wpAny_newObj_type ?_ (by size_fits)))) (by size_fits));simp only[raiseNew];refine wpAny_bind (wpAny_handled ?_);rw[show A.in1.handled=none from hh];exact wpAny_bind (wpAny_pure (wpAny_throw (hE _ _ (((Heap.SameBut.update ..).extBut.push _).push _) ⟨_,FF _ rfl,rfl⟩)))
 exact wpAny_bind (go _)
end
section
variable {prog:Program}{A:Around}{E:Value->Shared->Prop}{z TI TO i1 i2 l1 l2:Addr}{xs ys:Array Value}{x y a b:Value}
structure ZipT(h:Heap)(z TI TO i1 i2 l1 l2:Addr)(k:Nat):Prop where
 hz:IsZip h z TI TO .none
 hTI:IsPair h TI (.ref i1) (.ref i2)
 hTO:∃a b,IsPair h TO a b
 h1:h.IsTupleIter i1 l1 k
 h2:h.IsListIter i2 l2 k
theorem NT(D:ZipApart z TI TO i1 i2 l1 l2)(Z:ZipT s.heap z TI TO i1 i2 l1 l2 k)(hl1:s.heap.IsTuple l1 xs)(hl2:s.heap.IsList l2 ys)(hx:xs[k]?=some x)(hy:ys[k]?=some y)
  (hQ:∀h',IsZip h' z TI TO (rawInt s.heap.objs.size)->IsPair h' TI (.ref i1) (.ref i2)->IsPair h' TO x y->h'.IsTupleIter i1 l1 (k+1)->h'.IsListIter i2 l2 (k+1)->IsPair h' s.heap.objs.size x y->(∀c o,c≠z->c≠TO->c≠i1->c≠i2->s.heap.get? c=some o->h'.get? c=some o)->Q (.ref s.heap.objs.size) { s with heap:=h' }) :
  wpAny (model prog w) A (Builtin.«zip.__next__» ⟨[.ref z],[]⟩) (λ fin s'=>∃v,fin=.done (.ret v)/\Q v s') E s:=by
 obtain⟨hz,hTI,⟨a,b,hTO⟩,h1,h2⟩:=Z;refine(show wpAny (model prog w) _ (field (.ref z) 2 >>= _) _ _ s from ?_);refine wpAny_bind (wpAny_field hz rfl (x:=.bool false) rfl ?_);refine(show wpAny (model prog w) _ (field (.ref z) 3 >>= _) _ _ s from ?_);refine wpAny_bind (wpAny_field hz rfl (x:=.ref TI) rfl (wpAny_bind (wpAny_seqItems hTI rfl ?_)));refine(show wpAny (model prog w) _ (Builtin.SmallTypes.ownedTupleIsFree (.ref z) >>= _) _ _ s from wpAny_bind ?_);unfold Builtin.SmallTypes.ownedTupleIsFree;refine wpAny_bind (wpAny_field hz rfl (x:=.none) rfl (wpAny_pure ?_));simp only[if_true];refine wpAny_bind (wpAny_rule (wpAny_bind (wpAny_field hz rfl (x:=.ref TO) rfl ?_)));refine wpAny_bind (wpAny_setField_rec hz (by simp) λ g1 z1 b1=>wpAny_bind ?_);simp only[Ah,zM,zP,zJ];have e1:=b1.extBut;refine wpAny_bind (wpAny_bind (wpAny_onRaise ?_));refine(show wpAny (model prog w) _ (Builtin.SmallTypes.nextOf (.ref i1) >>= _) _ _ _ from ?_);refine wpAny_bind (vS (h1.extBut e1 D.i1z) (hl1.extBut e1 D.l1z) hx λ g2 j1 b2=>wpAny_pure ?_);have e2:=b2.extBut;have o2:IsPair g2 TO a b:=e2 _ _ D.TOi1 (e1 _ _ D.TOz hTO);refine wpAny_bind (wpAny_seqItems o2 rfl (wpAny_bind (wpAny_updateSeq_pair o2 λ g3 o3 b3=>wpAny_bind (wpAny_letGo (wpAny_pure ?_)))));have o3:IsPair g3 TO x b:=o3;have e3:=b3.extBut;refine wpAny_bind (wpAny_bind (wpAny_onRaise ?_));refine(show wpAny (model prog w) _ (Builtin.SmallTypes.nextOf (.ref i2) >>= _) _ _ _ from ?_);refine wpAny_bind (wpAny_nextOf_list_item (((h2.extBut e1 D.i2z).extBut e2 D.i12.symm).extBut e3 D.TOi2.symm) (((hl2.extBut e1 D.l2z).extBut e2 D.l2i1).extBut e3 D.l2TO) hy λ g4 j2 b4=>wpAny_pure ?_);have e4:=b4.extBut;have o4:IsPair g4 TO x b:=e4 _ _ D.TOi2 o3;refine wpAny_bind (wpAny_seqItems o4 rfl (wpAny_bind (wpAny_updateSeq_pair o4 λ g5 o5 b5=>wpAny_bind (wpAny_letGo (wpAny_pure (wpAny_pure ?_))))));have o5:IsPair g5 TO x y:=o5;have e5:=b5.extBut;refine wpAny_bind (wpAny_seqItems o5 rfl (wpAny_bind (wpAny_newTuple ?_)));have sz:g5.objs.size=s.heap.objs.size:=by rw[b5.1,b4.1,b3.1,b2.1,b1.1]
 have z1:IsZip g1 z TI TO .ellipsis:=z1;have z5:IsZip g5 z TI TO .ellipsis:=e5 _ _ D.TOz.symm (e4 _ _ D.i2z.symm (e3 _ _ D.TOz.symm (e2 _ _ D.i1z.symm z1)));have k5:∀c o,c≠z->c≠TO->c≠i1->c≠i2->s.heap.get? c=some o->g5.get? c=some o:=λ c o c1 c2 c3 c4 e=>e5 _ _ c2 (e4 _ _ c4 (e3 _ _ c2 (e2 _ _ c3 (e1 _ _ c1 e))))
 have zlt:z<g5.objs.size:=D1 z5;refine(show wpAny (model prog w) _ (Builtin.SmallTypes.ownedTupleHandOut (.ref z) (.ref g5.objs.size) >>= _) _ _ _ from wpAny_bind ?_);unfold Builtin.SmallTypes.ownedTupleHandOut;have z6:IsZip (g5.push { cls:=.type "tuple",data:=.seq #[x,y] }) z TI TO .ellipsis:=DD _ z5;refine wpAny_bind (wpAny_setField_rec z6 (by simp) λ g7 z7 b7=>?_);have z7:IsZip g7 z TI TO (rawInt g5.objs.size):=z7;refine wpAny_setField_rec z7 (by simp) λ g8 z8 b8=>?_
 have z8:IsZip g8 z TI TO (rawInt g5.objs.size):=z8;have up:∀c o,c≠z->g5.get? c=some o->g8.get? c=some o:=λ c o c1 e=>b8.extBut _ _ c1 (b7.extBut _ _ c1 (DD _ e))
 have t8:IsPair g8 g5.objs.size x y:=b8.extBut _ _ (nK zlt) (b7.extBut _ _ (nK zlt) (FF _ rfl));rw[sz] at z8 t8;refine wpAny_pure ⟨_,rfl,?_⟩;rw[sz];exact hQ g8 z8 (up _ _ D.TIz (k5 _ _ D.TIz D.TITO D.TIi1 D.TIi2 hTI)) (up _ _ D.TOz o5) ((((j1.extBut e3 D.TOi1.symm).extBut e4 D.i12).extBut e5 D.TOi1.symm).at λ o e=>up _ o D.i1z e) ((j2.extBut e5 D.TOi2.symm).at λ o e=>up _ o D.i2z e) t8 λ c o c1 c2 c3 c4 e=>up c o c1 (k5 c o c1 c2 c3 c4 e)
theorem UQ{Q:PySem.Fin->Shared->Prop}(hh:A.handled=none)(D:ZipApart z TI TO i1 i2 l1 l2)(Z:ZipT s.heap z TI TO i1 i2 l1 l2 k)(hl1:s.heap.IsTuple l1 xs)(hx:xs[k]?=none)
  (hE:∀h' e,(∀c o,c≠z->c≠i1->s.heap.get? c=some o->h'.get? c=some o)->(∃o,h'.get? e=some o/\o.cls=.type "StopIteration")->E (.ref e) { s with heap:=h' }) :
  wpAny (model prog w) A (Builtin.«zip.__next__» ⟨[.ref z],[]⟩) Q E s:=by
 obtain⟨hz,hTI,⟨a,b,hTO⟩,h1,h2⟩:=Z;refine(show wpAny (model prog w) _ (field (.ref z) 2 >>= _) _ _ s from ?_);refine wpAny_bind (wpAny_field hz rfl (x:=.bool false) rfl ?_);refine(show wpAny (model prog w) _ (field (.ref z) 3 >>= _) _ _ s from ?_);refine wpAny_bind (wpAny_field hz rfl (x:=.ref TI) rfl (wpAny_bind (wpAny_seqItems hTI rfl ?_)));refine(show wpAny (model prog w) _ (Builtin.SmallTypes.ownedTupleIsFree (.ref z) >>= _) _ _ s from wpAny_bind ?_);unfold Builtin.SmallTypes.ownedTupleIsFree;refine wpAny_bind (wpAny_field hz rfl (x:=.none) rfl (wpAny_pure ?_));simp only[if_true];refine wpAny_bind (wpAny_rule (wpAny_bind (wpAny_field hz rfl (x:=.ref TO) rfl ?_)));refine wpAny_bind (wpAny_setField_rec hz (by simp) λ g1 z1 b1=>wpAny_bind ?_);simp only[Ah,zM,zP,zJ];have z1:IsZip g1 z TI TO .ellipsis:=z1;refine wpAny_bind (wpAny_bind (wpAny_onRaise ?_));refine(show wpAny (model prog w) _ (Builtin.SmallTypes.nextOf (.ref i1) >>= _) _ _ _ from ?_);refine wpAny_bind (Q4 hh (h1.extBut b1.extBut D.i1z) (hl1.extBut b1.extBut D.l1z) hx λ g2 e b2 he=>?_);obtain⟨oe,hoe,hce⟩:=he;have z2:IsZip g2 z TI TO .ellipsis:=b2 _ _ D.i1z.symm z1;have ne:e≠z:=λ q=>by
  subst q;rw[z2] at hoe;cases hoe;simp at hce
 exact wpAny_setField_rec z2 (by simp) λ g3 _ b3=>hE g3 e (λ c o c1 c3 q=>b3.extBut _ _ c1 (b2 _ _ c3 (b1.extBut _ _ c1 q))) ⟨oe,b3.extBut _ _ ne hoe,hce⟩
theorem uU{Q:Option Value->Shared->Prop}(D:ZipApart z TI TO i1 i2 l1 l2)(Z:ZipT s.heap z TI TO i1 i2 l1 l2 k)(hl1:s.heap.IsTuple l1 xs)(hl2:s.heap.IsList l2 ys)(hx:xs[k]?=some x)(hy:ys[k]?=some y)
  (hQ:∀h',IsZip h' z TI TO (rawInt s.heap.objs.size)->IsPair h' TI (.ref i1) (.ref i2)->IsPair h' TO x y->h'.IsTupleIter i1 l1 (k+1)->h'.IsListIter i2 l2 (k+1)->IsPair h' s.heap.objs.size x y->(∀c o,c≠z->c≠TO->c≠i1->c≠i2->s.heap.get? c=some o->h'.get? c=some o)->Q (some (.ref s.heap.objs.size)) { s with heap:=h' }):wpAny (model prog w) A (pyNext (.ref z)) Q E s:=by
 have hT:s.TypeIs (.ref z) "zip" := ⟨_,Z.hz,rfl⟩
 unfold pyNext;refine wpAny_bind (wpAny_attempt (wpAny_callSpecial?_slot hT F.slot_zip_next (wpAny_call_entry F.slot_zip_next hT F.entry_zip_next ?_ (F.args_zip_next_1 _))));exact NT (Q:=λ v s'=>wpAny (model prog w) A (pure (some v)) Q E s') D Z hl1 hl2 hx hy λ h' a1 a2 a3 a4 a5 a6 a7=>wpAny_pure (hQ h' a1 a2 a3 a4 a5 a6 a7)
theorem PQ{Q:Option Value->Shared->Prop}(hh:A.handled=none)(D:ZipApart z TI TO i1 i2 l1 l2)(Z:ZipT s.heap z TI TO i1 i2 l1 l2 k)(hl1:s.heap.IsTuple l1 xs)(hx:xs[k]?=none)
  (hQ:∀h',(∀c o,c≠z->c≠i1->s.heap.get? c=some o->h'.get? c=some o)->Q none { s with heap:=h' }):wpAny (model prog w) A (pyNext (.ref z)) Q E s:=by
 have hT:s.TypeIs (.ref z) "zip" := ⟨_,Z.hz,rfl⟩
 unfold pyNext;refine wpAny_bind (wpAny_attempt (wpAny_callSpecial?_slot hT F.slot_zip_next (wpAny_call_entry F.slot_zip_next hT F.entry_zip_next (UQ hh D Z hl1 hx λ h' e hk he=>?_) (F.args_zip_next_1 _))));obtain⟨o,ho,hc⟩:=he;exact wpAny_bind (wpAny_isInstance (T := "StopIteration") (b:=true) ⟨o,ho,hc⟩ isSubtype_stop (wpAny_pure (hQ _ hk)))
abbrev rZ(h:Heap)(t:Addr):Heap:=h.push { cls:=.type "tuple_iterator",data:=.fields #[.ref t,.int 0 0] }
abbrev rR(h:Heap)(t l:Addr):Heap:=(rZ h t).push { cls:=.type "list_iterator",data:=.fields #[.ref l,.int 0 0] }
abbrev rL(h:Heap)(t l:Addr):Heap:=(rR h t l).push { cls:=.type "tuple",data:=.seq #[.ref h.objs.size,.ref (rZ h t).objs.size] }
abbrev rG(h:Heap)(t l:Addr):Heap:=(rL h t l).push { cls:=.type "tuple",data:=.seq #[.none,.none] }
abbrev kK(h:Heap)(t l:Addr):Heap:=(rG h t l).push { cls:=.type "zip",data:=.fields #[.none,.bool false,.bool false,.ref (rR h t l).objs.size,.ref (rL h t l).objs.size] }
theorem vW(t l:Addr)(xs ys:Array Value):Meets (Builtin.«zip.__new__» ⟨[.type "zip",.ref t,.ref l],[]⟩) (λ _ R s=>s.heap.IsTuple t xs/\s.heap.IsList l ys/\R (.ok (.ret (.ref (rG s.heap t l).objs.size))) { s with heap:=kK s.heap t l }) :=
 .of_wp λ prog w A R s h=>by
  obtain⟨hp,g,d,tk,os⟩:=s;obtain⟨ht,hl,h⟩:=h;have hsub:=sub_zip;have a1:Heap.IsTuple (Shared.heap ⟨hp,g,d,tk,os⟩) t xs:=ht;have a2:Heap.IsList (Shared.heap ⟨hp.push { cls:=.type "tuple_iterator",data:=.fields #[.ref t,.int 0 0] },g,d,tk,os⟩) l ys:=Heap.IsList.push hl _
  wp_walk using wpAny_pyIter_tuple a1,wpAny_pyIter_list a2
  exact⟨_,U,h⟩
theorem OJ{t l:Addr}(ht:s.heap.IsTuple t xs)(hl:s.heap.IsList l ys)
  (h:∀h',ZipT h' (s.heap.objs.size+4) (s.heap.objs.size+2) (s.heap.objs.size+3) s.heap.objs.size (s.heap.objs.size+1) t l 0->(∀c o,s.heap.get? c=some o->h'.get? c=some o)->Q (.ref (s.heap.objs.size+4)) { s with heap:=h' }) :
  wpAny (model prog w) A (call (.type "zip") [.ref t,.ref l]) Q E s:=by
 refine callType_new F.called_zip (by decide) (F.typeCall_zip_2 _ _) (F.newCall_zip_2 _ _) (λ obj=>F.args_object_init_3 obj _ _) F.entry_zip_new (vW t l xs ys) ⟨ht,hl,?_⟩;have z1:(rZ s.heap t).objs.size=s.heap.objs.size+1:=eG ..;have z2:(rR s.heap t l).objs.size=s.heap.objs.size+2:=by rw[eG,z1]
 have z3:(rL s.heap t l).objs.size=s.heap.objs.size+3:=by rw[eG,z2]
 have z4:(rG s.heap t l).objs.size=s.heap.objs.size+4:=by rw[eG,z3]
 have p:∀{h:Heap}{c:Addr}{o o':Obj},h.get? c=some o->(h.push o').get? c=some o:=λ e=>DD _ e
 have g5:(kK s.heap t l).get? (rG s.heap t l).objs.size=some _:=FF _ rfl;have g4:(kK s.heap t l).get? (rL s.heap t l).objs.size=some _:=p (FF _ rfl);have g3:(kK s.heap t l).get? (rR s.heap t l).objs.size=some _:=p (p (FF _ rfl));have g2:(kK s.heap t l).get? (rZ s.heap t).objs.size=some _:=p (p (p (FF _ rfl)));have g1:(kK s.heap t l).get? s.heap.objs.size=some _:=p (p (p (p (FF _ rfl))));rw[z2,z3,z4] at g5;rw[z1,z2] at g3;rw[z3] at g4;rw[z1] at g2;refine(show _/\_ from ?_);rw[z4];exact⟨⟨_,g5,U⟩,h _ ⟨g5,g3,⟨_,_,g4⟩,⟨_,g1,U,U⟩,⟨_,g2,U,U⟩⟩ λ c o e=>p (p (p (p (p e))))⟩
end
def SN(K:W.Frag)(a b:Addr):It :=
 ⟨λ i H=>∃xs ys x y,SqT K H a xs/\SqL K H b ys/\xs[i]?=some x/\ys[i]?=some y,
  λ i H v H'=>∃p x y,v=.ref p/\H p=none/\H'=AD H p (.tup [x,y])/\(∀xs,SqT K H a xs->xs[i]?=some x)/\(∀ys,SqL K H b ys->ys[i]?=some y),
  λ i H=>∃xs,SqT K H a xs/\xs.length<=i⟩
theorem NB{z TI TO i1 i2 b:Addr}(D:ZipApart z TI TO i1 i2 a b):Turn P w K (.Tuple es kk tp) (SN K a b) [z,TI,TO,i1,i2] z (λ i h=>ZipT h z TI TO i1 i2 a b i) where
 mem:=by simp
 obj:=λ i h st c hc=>by
  obtain⟨hz,hTI,⟨x,y,hTO⟩,⟨o1,e1,c1,d1⟩,⟨o2,e2,c2,d2⟩⟩:=st;simp only[C6,GY,or_false] at hc;rcases hc with rfl|rfl|rfl|rfl|rfl
  ·exact⟨_,hz,λ v q=>by cases (show Data.fields _=Data.cell v from q)⟩
  ·exact⟨_,hTI,λ v q=>by cases (show Data.seq _ _=Data.cell v from q)⟩
  ·exact⟨_,hTO,λ v q=>by cases (show Data.seq _ _=Data.cell v from q)⟩
  ·exact⟨o1,e1,λ v q=>by rw[d1] at q;cases q⟩
  ·exact⟨o2,e2,λ v q=>by rw[d2] at q;cases q⟩
 keep:=λ i h h' st k=>by
  obtain⟨hz,hTI,⟨x,y,hTO⟩,h1,h2⟩:=st;exact⟨k z (by simp) _ hz,k TI (by simp) _ hTI,⟨x,y,k TO (by simp) _ hTO⟩,h1.at λ o e=>k i1 (by simp) o e,h2.at λ o e=>k i2 (by simp) o e⟩
 item:=by
  intro X hP hw hK hc i pins s σ H E I hf st hg;subst hP hw hK;obtain⟨xs,ys,x,y,hq1,hq2,hx,hy⟩:=hg;obtain⟨t1,rv1,p1,hz1⟩:=I.tuple hq1;obtain⟨t2,rv2,p2,hz2⟩:=I.list hq2;obtain⟨u,hu,ru⟩:=rv1.get hx;obtain⟨v,hv,rv⟩:=rv2.get hy;refine uU D st (show s.heap.IsTuple a t1.toArray from p1) p2.isList (x:=u) (y:=v) (by simpa using hu) (by simpa using hv) λ h' a1 a0 a2 a3 a4 a5 k=>?_
  have fresh:H s.heap.objs.size=none:=I.hok.fresh (BU _);have hz4:∀c∈[z,TO,i1,i2],c∈[z,TI,TO,i1,i2]:=λ c hc=>by
   simp only[C6,GY,or_false] at hc ⊢;rcases hc with rfl|rfl|rfl|rfl<;>simp
  have szn:∀c o,s.heap.get? c=some o->c≠s.heap.objs.size:=λ c o e=>FZ (D1 e)
  have I1:Inv X pins σ (AD H s.heap.objs.size (.tup [x,y])) { s with heap:=h' }:=by
   refine I.turnedL (ch:=[z,TO,i1,i2]) (λ c hc=>hf c (hz4 c hc)) (λ c o hc e=>?_) (λ c o e=>by rw[AJ (DW e fresh)];exact e) (λ c o e n=>by rw[AJ (szn c o e)];exact n) λ c o n e=>?_
   ·simp only[C6,GY,or_false,not_or] at hc;exact k c o hc.1 hc.2.1 hc.2.2.1 hc.2.2.2 e
   ·by_cases ec:c=s.heap.objs.size
    ·rw[ec,AI] at e;cases e;rw[ec];exact⟨by show 2<=sizeLine;decide,[u,v],.cons ru (.cons rv .nil),_,a5,U,_,U⟩
    ·rw[AJ ec,n] at e;cases e
  refine⟨_,U,wpAny_letOwnedTupleGo_zip a1 λ h'' hz'' sb=>?_⟩;have zf:=hf z (by simp);have zs:z≠s.heap.objs.size:=szn z _ st.hz;have I2:Inv X pins σ (AD H s.heap.objs.size (.tup [x,y])) { s with heap:=h'' }:=Inv.turned (s:={ s with heap:=h' }) (h':=h'') (t':=s.toks) (it:=z) I1 (λ c o hc e=>sb.extBut c o hc e) (by rw[AJ zs];exact zf.1) zf.2.1 zf.2.2.2.1 zf.2.2.2.2.1 zf.2.2.2.2.2;refine⟨.ref s.heap.objs.size,_,I2,U,⟨_,x,y,U,fresh,U,λ xs' h=>by rw[I.tuple_inj h hq1];exact hx,λ ys' h=>by rw[I.list_inj h hq2];exact hy⟩,?_,λ c hc=>?_⟩
  ·exact⟨hz'',sb.extBut _ _ D.TIz a0,⟨_,_,sb.extBut _ _ D.TOz a2⟩,a3.extBut sb.extBut D.i1z,a4.extBut sb.extBut D.i2z⟩
  ·have q:c≠s.heap.objs.size:=by
    obtain⟨_,hTI,⟨_,_,hTO⟩,⟨o1,e1,_⟩,⟨o2,e2,_⟩⟩:=st;simp only[C6,GY,or_false] at hc;rcases hc with rfl|rfl|rfl|rfl|rfl
    ·exact zs
    ·exact szn _ _ hTI
    ·exact szn _ _ hTO
    ·exact szn _ _ e1
    ·exact szn _ _ e2
   rw[AJ q];exact(hf c hc).1
 done:=by
  intro X hP hw hK hc i pins s σ H E I hf st hg;subst hP hw hK;obtain⟨xs,hq1,hl⟩:=hg;obtain⟨t1,rv1,p1,hz1⟩:=I.tuple hq1;have l1:=rv1.length;refine PQ (I.ok.hd hc) D st (show s.heap.IsTuple a t1.toArray from p1) (by simp;omega) λ h' k=>⟨rfl,?_⟩
  refine I.turnedL (ch:=[z,i1]) (λ c hc=>hf c ?_) (λ c o hc e=>?_) (λ c o e=>e) (λ c o e n=>n) λ c o n e=>by rw[n] at e;cases e
  ·simp only[C6,GY,or_false] at hc;rcases hc with rfl|rfl<;>simp
  ·simp only[C6,GY,or_false,not_or] at hc;exact k c o hc.1 hc.2 e
 self:=λ _ _ _ _ _ st h=>wpAny_pyIter_zip st.1 h
def cZ(K:W.Frag)(ta:TA):TI:=λ σ H R=>ta σ H λ vs H1=>∃l1 l2,vs=[.ref l1,.ref l2]/\(∃xs,SqT K H1 l1 xs)/\(∃ys,SqL K H1 l2 ys)/\R (SN K l1 l2) H1
theorem XS{a b:Expr}{ta:TA}(hg:Gl X "zip")(hm:X.mg "zip"=none)(ha:PA X [a,b] ta)(hs:starEach [a,b] X.env=[(false,eval a X.env),(false,eval b X.env)])(hs2:starEach [b] X.env=[(false,eval b X.env)]) :
  PI X (.Tuple es kk tp) (.Call (.Name "zip" p) [a,b] [] pos) (cZ X.K ta):=by
 intro pins s σ H R I h;refine Call_ (JG I hg hm VA (PyProof.Rows.callWith_type1 (B3 (ha pos pins s σ H _ I h) λ us s1 ⟨vs,H1,I1,r1,q1⟩=>?_) (by rw[hs,hs2]) (by rw[hs2];rfl)));obtain⟨l1,l2,e,⟨xs,hq1⟩,⟨ys,hq2⟩,q⟩:=q1;subst e;cases r1 with
 |cons r rr =>
  cases rr with
  |cons r' rr =>
   cases rr;cases r;cases r';obtain⟨t1,rv1,p1,hz1⟩:=I1.tuple hq1;obtain⟨t2,rv2,p2,hz2⟩:=I1.list hq2;have p1:s1.heap.IsTuple l1 t1.toArray:=p1;have lt1:l1<s1.heap.objs.size:=by obtain⟨_,e,_⟩:=p1;exact D1 e
   have lt2:l2<s1.heap.objs.size:=by obtain⟨_,e,_⟩:=p2.isList;exact D1 e
   refine OJ p1 p2.isList λ h' Z k=>wpAny_pyIter_zip Z.hz ?_
   refine⟨s1.heap.objs.size+4,[s1.heap.objs.size+4,s1.heap.objs.size+2,s1.heap.objs.size+3,s1.heap.objs.size,s1.heap.objs.size+1],_,_,H1,U,I1.kept (t':=s1.toks) k,NB (zipApart_new lt1 lt2),Z,λ c hc=>?_,q⟩;have ge:s1.heap.objs.size<=c:=by
    simp only[C6,GY,or_false] at hc;rcases hc with rfl|rfl|rfl|rfl|rfl<;>omega
   exact I1.fpOk ge (I1.hok.fresh ge)
theorem ZD{a b:Expr}{ta:TA}{p pos tp:Pos}{es:List Expr}{kk:Nat}(hg:Gl X "zip")(hm:X.mg "zip"=none)(ha:QA X [a,b] ta)(h:BX a=true:=by rfl)(h2:BX b=true:=by rfl) :
  QI X (.Tuple es kk tp) (.Call (.Name "zip" p) [a,b] [] pos) (cZ X.K ta):=⟨XS hg hm ha.run (by rw[BC h,BC h2];rfl) (by rw[BC h2];rfl)⟩
theorem TQ{b:Addr}{xs ys:List V}{g:TG}{tb:TS}{D:Ends}(hn:xs.length=ys.length)(Pv:Nat->St->Hp->Prop)(h0:Pv 0 σ H)(hl:∀i σ H,i<=xs.length->Pv i σ H->SqT K H a xs/\SqL K H b ys)
  (hs:∀i x y p σ H,xs[i]?=some x->ys[i]?=some y->Pv i σ H->H p=none->g (.ref p) σ (AD H p (.tup [x,y])) λ σ2 H2=>tb { D with nx:=Pv (i+1),ct:=Pv (i+1),bk:=D.nx } σ2 H2) (hd:∀σ H,Pv xs.length σ H->D.nx σ H) :
  ∃W:Nat->Nat->St->Hp->Prop,(∃m,W 0 m σ H)/\∀i m σ H,W i m σ H ->
   ((SN K a b).stop i H/\D.nx σ H)\/((SN K a b).go i H/\∃N:St->Hp->Prop,(∀σ' H',N σ' H'->∃m',m'<m/\W (i+1) m' σ' H')/\∀x H',(SN K a b).yld i H x H'->g x σ H' λ σ2 H2=>tb { D with nx:=N,ct:=N,bk:=D.nx } σ2 H2):=by
 refine⟨λ i m σ H=>m=xs.length-i/\i<=xs.length/\Pv i σ H,⟨xs.length,by simp,HV _,h0⟩,?_⟩;intro i m σ H z9;obtain⟨rfl,hi,p⟩ := z9;obtain⟨q1,q2⟩:=hl i σ H hi p
 by_cases hlt:i<xs.length
 ·have i2:i<ys.length:=⋯;refine .inr ⟨⟨xs,ys,xs[i],ys[i],q1,q2,by simp[hlt],by simp[i2]⟩,Pv (i+1),λ σ' H' p'=>⟨xs.length-(i+1),⋯,rfl,hlt,p'⟩,λ v H3 y=>?_⟩;obtain⟨c,x,y,e,fr,e2,y1,y2⟩:=y;subst e e2;exact hs i x y c σ _ (y1 xs q1) (y2 ys q2) p fr
 ·have e:i=xs.length:=⋯;subst e;exact .inl ⟨⟨xs,q1,BU _⟩,hd σ H p⟩
theorem bF(l:Addr)(items:Array Value)(n:Nat)(b:Addr)(od:Option Addr)(items2:Array Value)(n2:Nat)(sl:Array (Option Value))(h0:¬(!items.isEmpty&&Builtin.List.listTooLong (items.size+items2.size))=true)(h1:items.size<=sizeLine)(h2:items.size+items2.size<=sizeLine+1) :
  Meets (Builtin.«list.extend» ⟨[.ref l,.ref b],[]⟩) (λ _ R s=>s.heap.get? l=some ⟨.type "list",none,.seq items n,#[]⟩/\s.heap.get? b=some ⟨.type "tuple",od,.seq items2 n2,sl⟩/\R (.ok (.ret Value.none)) { s with heap:=s.heap.update l (Obj.mapSeq λ x=>x++items2),toks:=s.toks }) :=
 .of_wp λ prog w A R s h=>by
  obtain⟨hp,g,d,tk,os⟩:=s;obtain⟨hl,hb,h⟩:=h;have f2:=AutoSeq1.sub_tuple_tuple;have f3:=AutoSeq1.sub_list_list;have f4:=AutoSeq1.sub_tuple_list;have f5:=AutoSeq1.sub_list_tuple;have hz':(items++items2).size<=sizeLine+1:=by rw[Array.size_append];exact h2
  wp_walk using (wpAny_updateSeq hl rfl (hz:=h1) (_hz':=hz')),AutoSeq1.wpAny_loadPart' hl,AutoSeq1.wpAny_loadPart' hb
  exact⟨_,U,h⟩
section
variable {o:Expr}{to:TE}
inductive rExtT(K:W.Frag)(x:V)(vs:List V)(H:Hp)(Q:VK):Prop
 |mk (l:_) (b:_) (xs:_) (zs:_):x=.ref l->vs=[.ref b]->H l=some (.lst xs)->SqT K H b zs->xs.length+zs.length<=sizeLine->Q .non (AD H l (.lst (xs++zs)))->rExtT K x vs H Q
theorem YC:uX X "list.extend" (rExtT X.K):=by
 intro pins s σ H x vs v us Q I rx rv h;obtain⟨l,b,xs,zs,rfl,rfl,hH,hB,hz,q⟩:=h;cases rx;obtain⟨u,rfl,ru⟩:=rv.one;cases ru;obtain⟨z,its,n,r,hl,e⟩:=I.lstM hH;obtain⟨its2,r2,⟨⟨c2,od,dt,sl⟩,e2,hc2,n2,hd2⟩,z2⟩:=I.tuple hB;simp only at hc2 hd2;subst hc2 hd2;have hl2:=r2.length;have hsz:its.toArray.size+its2.toArray.size<=sizeLine:=by rw[GC,GC];omega
 have hlong:¬(!its.toArray.isEmpty&&Builtin.List.listTooLong (its.toArray.size+its2.toArray.size))=true:=by
  rw[oA hsz,Bg];exact HB
 refine call_meets F.slot_list_extend ⟨_,e,rfl⟩ F.entry_list_extend (F.args_list_extend_2 _ _) (bF l its.toArray n b od its2.toArray n2 sl hlong (by rw[GC];omega) ⋯) ⟨e,e2,?_⟩;refine⟨.non,_,I.lset (its':=its++its2) hH e (by simp) (r.append r2) ?_,U,q⟩;rw[G2];omega
theorem bE(ho:QE X o to)(ha:QA X [e] t)(h:BX e=true:=by rfl)(hbase:attributeBase o "extend" X.env (eval o X.env)=eval o X.env:=by rfl)(hline:(apos.endLine==pos.line)=true:=by rfl) :
  QE X (.Call (.Attribute o "extend" apos) [e] [] pos) (aY X.K "list" (rExtT X.K) to t) :=
 ⟨GN PySem.F.plainAttrs_list PySem.F.slot_list_extend PySem.F.type_list_extend YC ho.run ha.run hbase (by rw[BC h];rfl) hline (BC h) rfl⟩
inductive rStarts(x:V)(vs:List V)(H:Hp)(Q:VK):Prop
 |mk (z y:Str):x=.str z->vs=[.str y]->Q (.bl (Txt.startswith z y)) H->rStarts x vs H Q
theorem OS:kM X "str.startswith" rStarts:=by
 intro pins s σ H x vs v us Q I rx rv h;obtain⟨z,y,rfl,rfl,q⟩:=h;obtain⟨t,rfl⟩:=rx;obtain⟨u',rfl,u,rfl⟩:=E7 rv;exact SC.startswith ⟨.bl _,H,I,rfl,q⟩
theorem OU(ho:QE X o to)(ha:QA X [e] t)(h:BX e=true:=by rfl)(hbase:attributeBase o "startswith" X.env (eval o X.env)=eval o X.env:=by rfl)(hline:(apos.endLine==pos.line)=true:=by rfl) :
  QE X (.Call (.Attribute o "startswith" apos) [e] [] pos) (aY X.K "str" rStarts to t) :=
 ⟨GN PySem.F.plainAttrs_str PySem.F.slot_str_startswith PySem.F.type_str_startswith OS ho.run ha.run hbase (by rw[BC h];rfl) hline (BC h) rfl⟩
end
structure KDict(K:W.Frag)(P:Params)(a:Addr)(kvs:List (Str×Tok×Value)):Prop where
 at_:∃ep,K.lookup a=some ⟨.type "dict",none,.dict (kvs.map λ q=>(⟨PyData.keyHash P q.1,.str q.1 q.2.1,q.2.2⟩:DictEntry)).toArray ep,#[]⟩
 nd:(kvs.map (·.1)).Nodup
 ns:(a==sysModules)=false
def HN(kvs:List (Str×Tok×Value))(x:Str):Option Value:=(kvs.find? λ q=>decide (q.1=x)).map (·.2.2)
theorem KU(x:Str):∀kvs:List (Str×Tok×Value),valueAt (kvs.map λ q=>((Sum.inr q.1:GG),q.2.2)) (Sum.inr x)=HN kvs x
 | []=>rfl
 |q::kvs=>by
  have ih:=KU x kvs;unfold valueAt HN at *;rw[PZ,zH,zH]
  by_cases e:q.1=x
  ·simp[e]
  ·have e':¬((Sum.inr q.1:GG)=Sum.inr x):=λ z=>e (by injection z)
   simp only[decide_eq_false e,decide_eq_false e'];exact ih
section
variable {pins:List (Addr×Obj)}{kvs:List (Str×Tok×Value)}
theorem KDict.of(h:KDict X.K X.w.params a kvs)(I:Inv X pins σ H s):s.heap.DictOf (KL X.prog X.w) a (kvs.map λ q=>((Sum.inr q.1:GG),q.2.2)):=by
 obtain⟨⟨ep,e⟩,nd,_⟩:=h;refine⟨_,_,ep,I.kIn a _ e,⟨U,U,U⟩,U,λ x hx=>?_,?_,?_⟩
 ·obtain⟨q,_,rfl⟩:=DT.mp (List.mem_toArray.mp hx);exact⟨Sum.inr q.1,iV _ _ _ _,U⟩
 ·rw[List.toList_toArray];clear e nd
  induction kvs with
  |nil=>exact .nil
  |cons q kvs ih=>exact .cons (iV _ _ _ _) rfl ih
 ·rw[iR];have:((λ x:GG×Value=>x.1)∘λ q:Str×Tok×Value=>((Sum.inr q.1:GG),q.2.2))=Sum.inr∘λ q:Str×Tok×Value=>q.1:=rfl
  rw[this,<- iR];exact List.Pairwise.map _ (λ _ _ h z=>h (by injection z)) nd
end
section
variable {i:Expr}{n:Str}{cpos:Pos}{ty:TE}{kvs:List (Str×Tok×Value)}
def dX(kvs:List (Str×Tok×Value))(ty:TE):TE:=λ σ H Q=>ty σ H λ y H1=>∃x u v,y=.str x/\HN kvs x=some u/\RelV v u/\Q v H1
def UO(kvs:List (Str×Tok×Value))(ty:TE):TE:=λ σ H Q=>ty σ H λ y H1=>∃x v,y=.str x/\RelV v ((HN kvs x).getD .none)/\Q v H1
theorem XW(hD:KDict X.K X.w.params a kvs)(hg:Gl X n)(hm:X.mg n=some (.ref a))(hi:PE X i ty)(hs:gD i)(hd:(n==("__debug__":Str))=false):PE X (.Subscript (.Name n p) i pos) (dX kvs ty):=by
 intro pins s σ H Q I h;refine bI PySem.F.slot_dict_getitem.lookup hs (B3 (aI (v:=.ref a) hg hm rfl hd pins s σ H (λ v H'=>v=.ref a/\H'=H) I ⟨rfl,rfl⟩) λ u s1 z9=>?_);obtain⟨x,H1,I1,rx,ex,eH⟩ := z9;subst ex eH;obtain rfl:u=Value.ref a:=rx;refine B3 (hi pins s1 σ H1 _ I1 h) λ iv s2 z9=>?_
 obtain⟨y,H2,I2,ry,x,u,v,ey,hv,rv,q⟩ := z9;subst ey;have dd:=hD.of I2;refine⟨dd.typeIs,wpAny_getItem_of (dN (k:=Sum.inr x) ry) dd.mapOf (KU x kvs ▸ hv) ⟨v,H2,I2.tok _,rv,q⟩⟩
theorem RQ(hD:KDict X.K X.w.params a kvs)(hg:Gl X n)(hm:X.mg n=some (.ref a))(he:PE X e ty)(m:M1 X (.Name n p) "get" apos e cpos)(hd:(n==("__debug__":Str))=false):PE X (.Call (.Attribute (.Name n p) "get" apos) [e] [] cpos) (UO kvs ty):=by
 intro pins s σ H Q I h;refine wpAny_Call_method m.base m.few m.line PySem.F.plainAttrs_dict PySem.F.slot_dict_get PySem.F.type_dict_get (B3 (aI (v:=.ref a) hg hm rfl hd pins s σ H (λ v H'=>v=.ref a/\H'=H) I ⟨rfl,rfl⟩) λ u s1 z9=>?_);obtain⟨x,H1,I1,rx,ex,eH⟩ := z9;subst ex eH;obtain rfl:u=Value.ref a:=rx;have d1:=hD.of I1;refine⟨d1.typeIs,d1.mapOf.noDict,?_⟩;rw[m.trees];refine Calls.callWith_builtin rfl (Calls.evalArgs_plain (Calls.spliced_cons (B3 (he pins s1 σ H1 _ I1 h) λ iv s2 ⟨y,H2,I2,ry,x,v,ey,rv,q⟩=>Calls.spliced_nil ?_)));subst ey;have dd:=hD.of I2;refine call_meetsIn PySem.F.slot_dict_get dd.typeIs PySem.F.entry_dict_get (PySem.F.args_dict_get_2 _ _) (meets_dict_get (KL X.prog X.w) a (dN (k:=Sum.inr x) ry) hD.ns) ⟨_,dd.mapOf,v,H2,I2.tok _,?_,q⟩;rw[KU];exact rv
theorem ZP(hD:KDict X.K X.w.params a kvs)(hg:Gl X n)(hm:X.mg n=some (.ref a))(hi:QE X i ty)(hs:gD i)(hd:(n==("__debug__":Str))=false:=by decide):QE X (.Subscript (.Name n p) i pos) (dX kvs ty):=⟨XW hD hg hm hi.run hs hd⟩
theorem U9(hD:KDict X.K X.w.params a kvs)(hg:Gl X n)(hm:X.mg n=some (.ref a))(he:QE X e ty)(m:M1 X (.Name n p) "get" apos e cpos)(hd:(n==("__debug__":Str))=false:=by decide):QE X (.Call (.Attribute (.Name n p) "get" apos) [e] [] cpos) (UO kvs ty):=⟨RQ hD hg hm he.run m hd⟩
end
def iP(P:Program)(w:World)(K:W.Frag)(mg:Str->Option Value)(base:Heap)(CX:R8)(k:Nat)(ps:List Str)(f:Addr)(sp:Sp):Prop:=∃fd,FnOk P w K mg base CX k f fd ps sp/\Binds K fd ps []/\∃oc od sl,K.lookup f=some ⟨oc,od,.func fd,sl⟩
inductive tAns(i:Nat)(L:List (Addr×Sp))(E:XK)(t:TA)(σ:St)(H:Hp)(Q:VK):Prop
 |mk (f:_) (sp:_):(f,sp)∈L->σ[i]?=some (some (.ref f))->(t σ H λ vs H1=>sp (vs++[]) H1 Q E)->tAns i L E t σ H Q
section
variable {L:List (Addr×Sp)}{E:XK}{CX:R8}
theorem jR(i:Nat)(G:∀q∈L,iP X.prog X.w X.K X.mg X.base CX k ps q.1 q.2)(hr:Room k X.A)(hx:JQ CX X E)(ha:PA X (e::es) t)(hN:X.N[i]?=some x)
  (hv:QZ X.env.scope x) (hd:(x==("__debug__":Str))=false) (hcd:(x==("__classdict__":Str))=false)
  (he:starEach (e::es) X.env=(false,eval e X.env)::starEach es X.env) (hpl:(backTo pos (starEach es X.env)).any (·.1)=false) :
  PE X (.Call (.Name x p) (e::es) [] pos) (tAns i L E t):=by
 intro pins s σ H Q I h;obtain⟨f,sp,hm,hσ,h⟩:=h;obtain⟨fd,F,hb,oc,od,sl,lk⟩:=G _ hm;have fa:∀{H':Hp}{s':Shared},Inv X pins σ H' s'->W.FnAt f s'.heap:=λ J=>⟨oc,od,fd,sl,J.kIn _ _ lk⟩
 refine wpAny_Call_Name_kw (B3 (IV (pos:=p) hN hv hd hcd pins s σ H (λ v H'=>v=.ref f/\H'=H) I ⟨_,hσ,rfl,rfl⟩) λ u s1 z9=>?_);obtain⟨v,H',I1,r,e1,e2⟩ := z9;subst e1 e2;cases r;refine W.callWith_F (fa I1) (B3 (ha pos pins s1 σ H' _ I1 h) λ us s2 ⟨vs,H2,I2,r2,q⟩=>⟨fa I2,?_⟩) he hpl;exact IT F hr hb .nil hx I2 r2 q
theorem fL(i:Nat)(G:∀q∈L,iP X.prog X.w X.K X.mg X.base CX k ps q.1 q.2)(hr:Room k X.A)(hx:JQ CX X E)(ha:QA X (e::es) t)(hN:X.N[i]?=some x:=by rfl)
  (hv:QZ X.env.scope x:=by first|exact AH rfl|exact IH (AH rfl)|exact IH (IH rfl)) (hd:(x==("__debug__":Str))=false:=by decide) (hcd:(x==("__classdict__":Str))=false:=by decide)
  (h:BX e=true:=by rfl) (hpl:es.all BX=true:=by rfl) :
  QE X (.Call (.Name x p) (e::es) [] pos) (tAns i L E t):=⟨jR i G hr hx ha.run hN hv hd hcd (BC h) (JX hpl)⟩
end
section
variable {f:Str}{ta:TE}
theorem MP(K:W.Frag)(hK:X.K=K)(he:QE X e ta)(hb:attributeBase e f X.env (eval e X.env)=eval e X.env:=by rfl):QE X (.Attribute e f pos) (fJ K ta f):=by
 subst hK;exact G3 he hb
theorem VI(K:W.Frag)(hK:X.K=K):QOp X (compareOp .In) (rIn K false):=by
 subst hK;exact⟨oV⟩
theorem YY:QOp X (compareOp .In) (rIn X.K false):=⟨oV⟩
end
theorem aQ{g:TG}{tb:TS}{D:Ends}(Pv:Nat->St->Hp->Prop)(h0:Pv 0 σ H)
  (hs:∀i c σ H,x.cps[i]?=some c->Pv i σ H->g (.str ⟨#[c]⟩) σ H λ σ2 H2=>tb { D with nx:=Pv (i+1),ct:=Pv (i+1),bk:=D.nx } σ2 H2) (hd:∀σ H,Pv x.length σ H->D.nx σ H) :
  ∃W:Nat->Nat->St->Hp->Prop,(∃m,W 0 m σ H)/\∀i m σ H,W i m σ H ->
   ((fP x).stop i H/\D.nx σ H)\/((fP x).go i H/\∃N:St->Hp->Prop,(∀σ' H',N σ' H'->∃m',m'<m/\W (i+1) m' σ' H')/\∀v H',(fP x).yld i H v H'->g v σ H' λ σ2 H2=>tb { D with nx:=N,ct:=N,bk:=D.nx } σ2 H2):=by
 refine⟨λ i m σ H=>m=x.length-i/\i<=x.length/\Pv i σ H,⟨x.length,by simp,HV _,h0⟩,?_⟩;intro i m σ H z9;obtain⟨rfl,hi,p⟩ := z9
 by_cases hlt:i<x.length
 ·refine .inr ⟨hlt,Pv (i+1),λ σ' H' p'=>⟨x.length-(i+1),⋯,rfl,hlt,p'⟩,λ v H3 y=>?_⟩;obtain⟨rfl,c,hc,rfl⟩:=y;have:=hs i c σ H3 hc p;refine(?_:g _ _ _ _);exact this
 ·have e:i=x.length:=⋯;subst e;exact .inl ⟨rfl,hd σ H p⟩
section
variable {p2:Pos}{st:Expr}{te:TE}{ts:TO}
end
end L2
namespace My
open PySem L2
open PyProof.Rows (toString_length_le)
open Ma (T3 T4 rA rB rC)
variable {C P0 c' c1 c2 cy fl p r:Addr}{osl:Array (Option Value)}{fd fdl gd:FuncData}{base:Heap}{H H' H1:Hp}{T:Hp->Prop}{b d day g q s size t z:Int}{S S':Int->Prop}{Os:List (List (Option Int))}{os:List (Option Int)}{kvS:List (Str×Tok×Value)}{rs:List Addr}{names ts ys:List Str}{R:List T3}{vs xs zs:List V}{us:List Value}{c i j k n:Nat}{an od:Option Addr}{a o:Option Int}{pos:Pos}{P:Program}{e qual sep x y y1 y2:Str}{mg:Str->Option Value}{v:V}{Q:VK}{ct ctv doc oc pm:Value}{K:W.Frag}{w:World}
theorem BS{N p:List Str}{s:Scope}(h:FnScope N p s:=by exact⟨rfl,rfl,rfl,by decide +kernel,rfl,by decide +kernel,by decide +kernel⟩):FnScope N p s:=h
theorem sZ:FnScope ["thing"] ["thing"] (AG cQ):=BS
theorem sP:FnScope ["day","thing"] ["day","thing"] (AG bD):=BS
theorem yB:FnScope ["day","thing"] ["day","thing"] (AG XZ):=BS
theorem EL:FnScope ["day","window","t","hour","midnight"] ["day","window","t"] (AG WL):=BS
theorem EI:FnScope ["day","window","t","hour","midnight"] ["day","window","t"] (AG cN):=BS
theorem yC:FnScope ["count","thing"] ["count","thing"] (AG XO):=BS
theorem wN:FnScope ["day","size","thing"] ["day","size","thing"] (AG Z6):=BS
theorem OD:FnScope ["day","size","roads"] ["day","size","roads"] (AG Z9):=BS
theorem uH:FnScope ["day","size","roads"] ["day","size","roads"] (AG YA):=BS
theorem uE:FnScope ["size","thing"] ["size","thing"] (AG X8):=BS
theorem AR:FnScope ["clock","holds","low","high","middle"] ["clock","holds"] (AG GU):=BS
theorem DM:FnScope ["day","clock","t","hour","number","found","x"] ["day","clock","t"] (AG HG):=BS
theorem LQ:FnScope ["day","clock","t","departure"] ["day","clock","t"] (AG Y5):=BS
theorem F5:FnScope ["day","clock","s","start","hour","number","found"] ["day","clock","s"] (AG HQ):=BS
theorem tH:FnScope ["day"] ["day"] (AG XC):=BS
theorem BV:FnScope ["day","clock","rows","p","a","b","c"] ["day","clock"] (AG bZ):=BS
theorem xU:FnScope ["row"] ["row"] (AG b9):=BS
theorem BG:FnScope ["day","one","other","ones","others","rows","k","j","p","q"] ["day","one","other"] (AG XA):=BS
theorem tL:FnScope ["clock","a","b","c"] ["clock","a","b","c"] (AG aN):=BS
theorem BO:FnScope ["day","rows","clock","k","row","following","q","v"] ["day","rows"] (AG YZ):=BS
theorem FD:FnScope ["p","q","waiting","riding","late","cut","ahead","then"] ["p","q","waiting","riding","late"] (AG aF):=BS
theorem CV:FnScope ["day","one","other","late","rows","p","q","still","v","other_still","other_v"] ["day","one","other","late"] (AG WW):=BS
theorem OM:FnScope ["day","one","other"] ["day","one","other"] (AG ZN):=BS
theorem C0:FnScope ["day","p","q","ride","others","hour","midnight","k","rows","end"] ["day","p","q","ride","others"] (AG HM):=BS
theorem D9:FnScope ["day","one","other","others","rows","p","q","still","v"] ["day","one","other"] (AG bJ):=BS
theorem CQ:FnScope ["day","board","half"] ["day","board"] (AG TY):=BS
theorem vI:FnScope ["day","board"] ["day","board"] (AG YO):=BS
theorem wO:FnScope ["day","roads"] ["day","roads"] (AG ZR):=BS
theorem uM:FnScope ["day","size","place"] ["day","size","place"] (AG c9):=BS
theorem xC:FnScope ["told"] ["told"] (AG X1):=BS
theorem JU:FnScope ["day","size","place","step","found"] ["day","size","place","step"] (AG KN):=BS
theorem CH:FnScope ["day","fords","told","found","start","end","ford"] ["day","fords","told"] (AG bC):=BS
theorem G5:FnScope ["day","size","roads","goal","fords"] ["day","size","roads","goal"] (AG HS):=BS
theorem NK:FnScope ["day","size","roads","goal"] ["day","size","roads","goal"] (AG ZS):=BS
theorem RK:FnScope ["day","size","roads","goal"] ["day","size","roads","goal"] (AG W7):=BS
theorem GQ:FnScope ["day","clock","t","s","y"] ["day","clock","t","s"] (AG cA):=BS
theorem DR:FnScope ["day","tables","place","t","s","number","told"] ["day","tables","place","t","s"] (AG X6):=BS
theorem EO:FnScope ["day","size","roads","goal","place","t","s","tables"] ["day","size","roads","goal","place","t","s"] (AG cF):=BS
theorem uF:FnScope ["text","most_figures"] ["text","most_figures"] (AG SO):=BS
theorem yE:FnScope ["text"] ["text"] (AG YH):=BS
theorem G4:FnScope ["text","parts"] ["text"] (AG bA):=BS
theorem DH:FnScope ["text","parts","a","b"] ["text"] (AG W2):=BS
theorem C8:FnScope ["day","text","parts","span","ride","window"] ["day","text"] (AG YR):=BS
theorem F0:FnScope ["text","parts","day"] ["text"] (AG X9):=BS
theorem FT:FnScope ["day","words","board"] ["day","words"] (AG XD):=BS
theorem xF:FnScope ["names","name"] ["names","name"] (AG ZX):=BS
theorem BF:FnScope ["text","parts","day","names","roads","part","words","ends","board","start"] ["text"] (AG aX):=BS
theorem sR:FnScope ["day","names","roads"] ["day","names","roads"] (AG c5):=BS
theorem x9:FnScope ["words"] ["words"] (AG XH):=BS
theorem F9:FnScope ["word","moment"] ["word"] (AG cP):=BS
theorem FU:FnScope ["word","turns"] ["word"] (AG W9):=BS
theorem xO:FnScope ["kind","word"] ["kind","word"] (AG WR):=BS
theorem tP:FnScope ["day","kind","word"] ["day","kind","word"] (AG XM):=BS
theorem BM:FnScope ["day","row","words","shape","names","values","kind","word","named","found"] ["day","row"] (AG ZT):=BS
theorem TZ:FnScope ["moment"] ["moment"] (AG a8):=BS
theorem uI:FnScope ["desk","places"] ["desk","places"] (AG Z2):=BS
theorem vZ:FnScope ["desk","places","values"] ["desk","places","values"] (AG TH):=BS
theorem w8:FnScope ["desk","places","values"] ["desk","places","values"] (AG SD):=BS
theorem EM:FnScope ["desk","places","values","t","s"] ["desk","places","values"] (AG U7):=BS
theorem yT:FnScope ["desk","places","values"] ["desk","places","values"] (AG U3):=BS
theorem yQ:FnScope ["script","k"] ["script","k"] (AG YG):=BS
theorem yA:FnScope ["cell"] ["cell"] (AG cT):=BS
theorem tR:FnScope ["cell","room"] ["cell","room"] (AG bU):=BS
theorem uN:FnScope ["cell","day"] ["cell","day"] (AG c6):=BS
theorem AO:FnScope ["script","day","size","goal","most","many","boards","k","a","b","at","roads","cell","here","there"] ["script","day","size","goal","most"] (AG YM):=BS
theorem B8:FnScope ["cell","ahead","some","word","rest","k","sign"] ["cell","ahead"] (AG bS):=BS
theorem E9:FnScope ["script","size","words","k"] ["script","size"] (AG YN):=BS
theorem wG:FnScope ["window"] ["window"] (AG cR):=BS
theorem BL:FnScope ["day","words","roads","text","here","there","board","parts","window"] ["day","words","roads"] (AG X7):=BS
theorem BZ:FnScope ["roads","order","here","there","board","place"] ["roads"] (AG c7):=BS
theorem sL:FnScope ["cell","day"] ["cell","day"] (AG WI):=BS
theorem C9:FnScope ["day","board","t","found","a","b","c"] ["day","board","t"] (AG aM):=BS
theorem BJ:FnScope ["day","board","s","found","a","b","c","x"] ["day","board","s"] (AG WU):=BS
theorem B0:FnScope ["day","size","roads","start","t","best","told","turn","more","here","there","board","y"] ["day","size","roads","start","t"] (AG XB):=BS
theorem BH:FnScope ["day","size","roads","start","goal","s","best","turn","here","there","board","x"] ["day","size","roads","start","goal","s"] (AG W5):=BS
theorem FR:FnScope ["told","goal","k"] ["told","goal"] (AG XN):=BS
theorem uV:FnScope ["moment"] ["moment"] (AG bX):=BS
theorem CG:FnScope ["script","day","size","roads","words","desk","order","here","there","t","told","ends","soonest","rides"] ["script"] (AG K7):=BS
theorem EB:FnScope ["self","text","told"] ["self","text"] (AG KW):=BS
theorem F4:FnScope ["self","row","found","answer"] ["self","row"] (AG L5):=BS
theorem BE{o:HO}{G:Hp->Prop}(h:H p=none)(k:∀H1,Same H H1->H1 p=some o->G H1):∀H1,AD H p o=H1->G H1:=λ _ e=>e ▸ k _ (pB h rfl).1 (pB h rfl).2
theorem jV(h:us.length=1):∃a0:Value,us=[a0]:=match us,h with | [_],_=>⟨_,rfl⟩
theorem LN(h:us.length=2):∃a0 a1:Value,us=[a0,a1]:=by
 cases us with
 |nil=>cases h
 |cons _ t =>
  obtain⟨_,rfl⟩:=jV (us:=t) (Nat.succ.inj h);exact⟨_,_,U⟩
theorem K8(h:us.length=3):∃a0 a1 a2:Value,us=[a0,a1,a2]:=by
 cases us with
 |nil=>cases h
 |cons _ t =>
  obtain⟨_,_,rfl⟩:=LN (us:=t) (Nat.succ.inj h);exact⟨_,_,_,U⟩
theorem YK(h:us.length=4):∃a0 a1 a2 a3:Value,us=[a0,a1,a2,a3]:=by
 cases us with
 |nil=>cases h
 |cons _ t =>
  obtain⟨_,_,_,rfl⟩:=K8 (us:=t) (Nat.succ.inj h);exact⟨_,_,_,_,U⟩
theorem i9(h:us.length=5):∃a0 a1 a2 a3 a4:Value,us=[a0,a1,a2,a3,a4]:=by
 cases us with
 |nil=>cases h
 |cons _ t =>
  obtain⟨_,_,_,_,rfl⟩:=YK (us:=t) (Nat.succ.inj h);exact⟨_,_,_,_,_,U⟩
theorem kT(h:us.length=6):∃a0 a1 a2 a3 a4 a5:Value,us=[a0,a1,a2,a3,a4,a5]:=by
 cases us with
 |nil=>cases h
 |cons _ t =>
  obtain⟨_,_,_,_,_,rfl⟩:=i9 (us:=t) (Nat.succ.inj h);exact⟨_,_,_,_,_,_,U⟩
theorem xB(h:us.length=7):∃a0 a1 a2 a3 a4 a5 a6:Value,us=[a0,a1,a2,a3,a4,a5,a6]:=by
 cases us with
 |nil=>cases h
 |cons _ t =>
  obtain⟨_,_,_,_,_,_,rfl⟩:=kT (us:=t) (Nat.succ.inj h);exact⟨_,_,_,_,_,_,_,U⟩
inductive spLaw(K:W.Frag)(tabs:List (Addr×Addr))(vs:List V)(H:Hp)(Q:VK)(z3q:XK):Prop
 |mk (a:Addr) (ns:List Int):vs=[.ref a]->SqL K H a (ns.map V.int)->ns.length<=63->((∀t∈tabs,H t.2=some (.tbl #[])))->(∀H',Q (.bl true) H')->spLaw K tabs vs H Q z3q
theorem EG(x:Int){m:Int}(h:0<m):0<=x%m/\x%m<m:=⟨UH x ⋯,UV x h⟩
structure Bl(mg:Str->Option Value):Prop where
 len:mg "len"=none
 max:mg "max"=none
 min:mg "min"=none
 all:mg "all"=none
 any:mg "any"=none
 zip:mg "zip"=none
 range:mg "range"=none
 enumerate:mg "enumerate"=none
 isinstance:mg "isinstance"=none
 bool_:mg "bool"=none
 int_:mg "int"=none
 tuple_:mg "tuple"=none
 list_:mg "list"=none
 str_:mg "str"=none
section
variable {f:Addr}
theorem xW(F:Fun K "is_whole" "is_whole" cQ f fd)(B:Bl mg):FnOk P w K mg base B5 (n+1) f fd ["thing"] spIsWhole:=by
 refine F.okQ sZ ?_ ?_;walk_at "o";obtain⟨x,rfl,dv,q⟩:=h;refine⟨_,(AA (AF (KY (AL K5 U B.isinstance K2 (A4 (qv 0) (A4 (JP (v:=.ty "int") U B.int_ RL U) A5))) (LM (UX (AL K5 U B.isinstance K2 (A4 (qv 0) (A4 (JP (v:=.ty "bool") U B.bool_ YU U) A5)))))))),?_⟩;walk_at "d";cases dv with
 |non=>exact⟨_,rfl,_,"int",_,_,rfl,.non,rfl,_,rfl,BB q⟩
 |bl b=>exact⟨_,rfl,_,"int",_,_,rfl,.bl _,rfl,_,rfl,DC ⟨_,rfl,_,"bool",_,_,rfl,.bl _,rfl,_,rfl,q⟩⟩
 |int i=>exact⟨_,rfl,_,"int",_,_,rfl,.int _,rfl,_,rfl,DC ⟨_,rfl,_,"bool",_,_,rfl,.int _,rfl,_,rfl,q⟩⟩
 |str z=>exact⟨_,rfl,_,"int",_,_,rfl,.str _,rfl,_,rfl,BB q⟩
 |lst e=>exact⟨_,rfl,_,"int",_,_,rfl,.lst e,rfl,_,rfl,BB q⟩
 |tup e=>exact⟨_,rfl,_,"int",_,_,rfl,.tup e,rfl,_,rfl,BB q⟩
theorem tI(F:Fun K "is_window" "is_window" bD f fd)(B:Bl mg)(Cf0:Callee P w K mg base n "is_whole" ["thing"] spIsWhole):FnOk P w K mg base B5 (n+1) f fd ["day","thing"] spWindow:=by
 refine F.okQ sP ?_ ?_;walk_at "o";obtain⟨day,x,rfl,dv,q⟩:=h;refine⟨_,(A9 (AE (QW.pt (CO (EF (CD (AL K5 U B.isinstance K2 (A4 (qv 1) (A4 (JP (v:=.ty "tuple") U B.tuple_ mD U) A5))))) (FC (AX LL (AL CN U B.len C5 (A4 (qv 1) A5)) A6 (AS _))))) (AA (AF DS)) AY) (A9 (AE (EF (CD (AL (LF U) U B.all LG (A4 (GK ["part"] [none] (BlkOk.of U U (SubL.to EX) U) U (SW (qv 1)) (λ _ _ _ _=>(AV (i:=0) (show(["part"]:List Str).Nodup by decide) U (AH U))) (λ _ _ _ _=>(AB Cf0 hr U (A4 (qv 0) A5)))) A5)))) (AA (AF DS)) AY) (AA (AF (KY (P9 EA EA F7 A6 (A8 AU (qv 1) A6 Y9) (A8 AU (qv 1) A6 Y9) (qv 0)) (LM (IZ LD (A8 AU (qv 1) A6 Y9) A6 (AS _)))))))),?_⟩;walk_at "d";obtain⟨t,hty,hk⟩:=dv.1.isTup (K:=K);have q0:EJ H day x=false->∀H',Same H H'->Q (.bl false) H':=λ e H' s=>by
  have:=q H' s;rw[e] at this;exact this
 cases ht:DB H x with
 |none =>
  rw[ht] at hk;have hw:EJ H day x=false:=by unfold EJ;rw[ht]
  exact⟨_,U,_,"tuple",t,_,U,hty,hk,_,U,DC (DC (q0 hw _ (Same.refl H)))⟩
 |some xs =>
  rw[ht] at hk;have hwl:EJ H day x=JZ day xs:=by unfold EJ;rw[ht]
  have dz:=dv.2 xs ht;obtain⟨r,rfl,er⟩:=RB ht;refine⟨_,U,_,"tuple",t,_,U,hty,hk,_,U,BB ?_⟩;refine⟨_,U,r,xs,U,.inr (SqT.of er),U,_,U,?_⟩
  by_cases hl:xs.length=3
  ·obtain⟨u,v,w',rfl⟩:=dG hl;refine CU (by simp) ?_;refine⟨_,U,r,U,⟨_,SqT.of er⟩,?_⟩;refine Q7 (K:=K) (a:=r) (xs:=[u,v,w']) (λ D i H'=>Same H H'/\H' D=some (.lst ((([u,v,w']:List V).take i).map λ y=>V.bl (EK y)))) (λ D hD=>⟨BD hD _,AI⟩) (λ D i H' _ _ h=>SqT.of (h.1 _ _ er)) ?_ ?_
   ·intro D i y H' hD hi z9;obtain⟨s2,hD2⟩ := z9;refine⟨λ k v' e=>?_,_,U,y,U,(dz y (DL hi)).same s2,_,hD2,(by rw[BY,GV];exact aK (by simp;omega)),λ b o eb=>?_,?_⟩
    ·match k,e with
     |0,e=>cases e
     |k+1,e=>cases e
    ·rw[AJ (DW eb hD)];exact s2 _ _ eb
    ·rw[AI,V3 _ hi]
   ·intro D H' hD z9;obtain⟨s2,hD2⟩ := z9;have eD:H' D=some (.lst (([EK u,EK v,EK w']:List Bool).map V.bl)):=hD2;refine⟨D,_,U,SqL.of eD,_,U,?_⟩;refine AZ (λ c=>?_) (λ c=>?_)
    ·refine q0 ?_ H' s2;rw[hwl];have c':(EK u&&(EK v&&EK w'))=false:=by cases hu:EK u<;>cases hv:EK v<;>cases hw:EK w'<;>simp[hu,hv,hw] at c ⊢
     unfold JZ;split
     ·rename_i a b c e
      cases e;exact absurd c' (by simp[EK])
     ·rfl
    ·have c':EK u=true/\EK v=true/\EK w'=true:=by simpa using c
     obtain⟨a,rfl⟩:=T8 c'.1;obtain⟨b,rfl⟩:=T8 c'.2.1;obtain⟨c3,rfl⟩:=T8 c'.2.2;have q1:=q H' s2;rw[hwl] at q1;have er':=s2 _ _ er;unfold JZ at q1;dsimp only at q1;refine⟨_,U,r,_,_,_,U,U,SqT.of er',U,_,_,U,U,_,U,?_⟩;refine AZ (λ c1=>?_) (λ c1=>?_)
     ·rw[c1,kO] at q1;refine⟨_,U,r,_,_,_,U,U,SqT.of er',U,_,_,U,U,_,U,?_⟩;refine AZ (λ c2=>?_) (λ c2=>?_)
      ·rw[c2,kO] at q1;refine⟨_,U,_,_,U,U,_,U,?_⟩;refine AZ (λ c3=>?_) (λ c3=>?_)
       ·rw[c3,kO] at q1;exact⟨_,U,r,_,_,_,U,U,SqT.of er',U,_,_,U,U,q1⟩
       ·rw[TJ.mpr c3,nU] at q1;exact q1
      ·rw[TJ.mpr c2,nU] at q1;exact⟨_,U,BB q1⟩
     ·rw[TJ.mpr c1,nU] at q1;exact⟨_,U,BB q1⟩
  ·refine D2 (by simp;omega) (q0 ?_ _ (Same.refl H));rw[hwl];unfold JZ;split
   ·rename_i e
    exact absurd rfl hl
   ·rfl
theorem wM(F:Fun K "is_board" "is_board" XZ f fd)(B:Bl mg)(Cl0:Callee P w K mg base n "is_window" ["day","thing"] spWindow):FnOk P w K mg base B5 (n+1) f fd ["day","thing"] spBoard:=by
 refine F.okQ yB ?_ ?_;walk_at "o";obtain⟨day,x,rfl,dv,q⟩:=h;refine⟨_,(AA (AF (KY (AL K5 U B.isinstance K2 (A4 (qv 1) (A4 (JP (v:=.ty "list") U B.list_ NU U) A5))) (LM (AL (LF U) U B.all LG (A4 (GK ["part","day"] [none,some 0] (BlkOk.of U U (SubL.to (IA U EX)) U) U (DN (qv 1)) (λ _ _ _ _=>(AV (i:=0) (show(["part","day"]:List Str).Nodup by decide) U (AH U))) (λ _ _ _ _=>(AB Cl0 hr U (A4 (qv 1) (A4 (qv 0) A5))))) A5)))))),?_⟩;walk_at "d";obtain⟨t,hty,hk⟩:=dv.1.isLst (K:=K);unfold GS at q;cases ht:DI H x with
 |none =>
  rw[ht] at hk q;exact⟨_,U,_,"list",t,_,U,hty,hk,_,U,BB (q _ (Same.refl H))⟩
 |some xs =>
  rw[ht] at hk q;obtain⟨hlen,dz⟩:=dv.2 xs ht;obtain⟨p,rfl,ep⟩:=V7 ht;refine⟨_,U,_,"list",t,_,U,hty,hk,_,U,DC ?_⟩;refine⟨_,U,p,U,⟨_,SqL.of ep⟩,?_⟩;refine HX (K:=K) (a:=p) (xs:=xs) (λ D i H'=>Same H H'/\H' D=some (.lst ((xs.take i).map λ y=>V.bl (EJ H day y)))) (λ D hD=>⟨BD hD _,AI⟩) (λ D i H' _ _ h=>SqL.of (h.1 _ _ ep)) ?_ ?_
  ·intro D i y H' hD hi z9;obtain⟨s2,hD2⟩ := z9;have d2:=dz y (DL hi);refine⟨λ k v' e=>?_,_,U,_,U,day,y,U,d2.same s2,λ H3 s3=>⟨_,s3 _ _ hD2,(by rw[BY,GV];exact aK ⋯),λ b o eb=>?_,?_⟩⟩
   ·match k,e with
    |0,e=>cases e
    |1,e=>exact e
    |k+2,e=>cases e
   ·rw[AJ (DW eb hD)];exact s3 _ _ (s2 _ _ eb)
   ·rw[AI,V3 _ hi,d2.1.winV_same s2]
  ·intro D H' hD z9;obtain⟨s2,hD2⟩ := z9;have eD:H' D=some (.lst ((xs.map (EJ H day)).map V.bl)):=by
    rw[hD2,JH,iR];rfl
   refine⟨D,_,U,SqL.of eD,?_⟩;have e1:(xs.map (EJ H day)).all id=xs.all (EJ H day):=by rw[yS];rfl
   rw[e1];exact q H' s2
inductive spStretches(vs:List V)(H:Hp)(Q:VK)(z3q:XK):Prop
 |mk (day:Int) (p:Addr) (R:List T3):vs=[.int day,.ref p]->LA AQ H p R->R.length<=4000000->(∀(l:Addr)(H':Hp),Same H H'->H l=none->LA DF H' l (Ma.strOf day R)->Q (.ref l) H')->spStretches vs H Q z3q
theorem uG(F:Fun K "stretches" "stretches" bZ f fd)(B:Bl mg):FnOk P w K mg base B5 (n+1) f fd ["day","clock"] spStretches:=by
 refine F.okQ BV ?_ ?_;walk_at "o";obtain⟨day,p,R,rfl,hR,hlen,q⟩:=h;refine⟨_,(A9 (AC (i:=2) BV.nd U (AH U) (D0 A5)) (A9 (AC (i:=3) BV.nd U (AH U) A6) (A9 (DJ PassesOwn.never U (DN (qv 1)) (G8 U (BI (AV (i:=4) BV.nd U (AH U)) (BI (AV (i:=5) BV.nd U (AH U)) (BI (AV (i:=6) BV.nd U (AH U)) FX)))) (IE (AE (AX F7 (qv 3) (qv 4) (AS _)) (AA (CF (DG (qv 2) (A4 (D4 (A4 (qv 3) (A4 (A7 D5 (qv 4) A6) (A4 DS (A4 (A7 B7 (qv 4) (qv 6)) A5))))) A5)))) AY) (A9 (CF (DG (qv 2) (A4 (D4 (A4 (qv 4) (A4 (qv 5) (A4 DS (A4 (qv 6) A5))))) A5))) (AA (AC (i:=3) BV.nd U (AH U) (A7 B7 (qv 5) A6)))))) (IE (AE (FM (QW.pt (I0 (AX JF (AL CN U B.len C5 (A4 (qv 2) A5)) A6 (AS _)) (J6 (AX F7 (qv 3) (qv 0) (AS _)))))) (AA (CF (DG (qv 2) (A4 (D4 (A4 (qv 3) (A4 (A7 D5 (qv 0) A6) (A4 DS (A4 (A7 B7 (A7 B7 (qv 0) (A8 AU (A8 AM (qv 1) A6 Y9) A6 Y9)) (A8 AU (A8 AM (qv 1) A6 Y9) A6 Y9)) A5))))) A5)))) AY) (AA (AF (qv 2))))))),?_⟩;walk_at "d";refine⟨II,λ pr hpr=>?_⟩;have s0:Same H (AD H pr (.lst [])):=BD hpr _;obtain⟨ws,hw1,hw2,hw3⟩:=hR.lst;refine⟨_,U,p,U,⟨_,SqL.of (s0 _ _ hw1)⟩,GI (K:=K) (a:=p) (xs:=ws)
  (λ i σ H'=>∃(v1 v2 v3:Option V),σ=[some (.int day),some (.ref p),some (.ref pr),some (.int (Ma.stPre (R.take i)).2),v1,v2,v3]/\Same H H'/\LA DF H' pr (Ma.stPre (R.take i)).1)
  ⟨_,_,_,rfl,s0,LA.nil AI⟩ (λ i σ H' _ z9=>by obtain⟨_,_,_,_,s1,_⟩ := z9;exact SqL.of (s1 _ _ hw1)) ?_ ?_⟩
 ·intro i y σ H1 hi z9;obtain⟨v1,v2,v3,rfl,s1,hL⟩ := z9;obtain⟨r,x,rfl,ex,er⟩:=hw3 i y hi;obtain⟨a,b,c⟩:=x;have er1:=s1 _ _ er;have hi2:i<R.length:=(CP.mp ex).1;have et:R.take (i+1)=R.take i++[(a,b,c)]:=by rw[RG,ex];rfl
  have ln:(Ma.stPre (R.take i)).1.length<=2*i:=by
   have:=(Ma.stPre_len (R.take i)).1;rw[GV] at this;omega
  rw[et,Ma.stPre_snoc];unfold Ma.stStep;generalize (Ma.stPre (R.take i)).1=S at *;generalize (Ma.stPre (R.take i)).2=pp at *;refine⟨r,_,U,SqT.of er1,U,_,_,U,_,_,U,_,_,U,U,?_⟩;refine⟨λ σ' H2=>σ'=[some (.int day),some (.ref p),some (.ref pr),some (.int pp),some (.int a),some (.int b),some (.int c)]/\Same H H2/\LA DF H2 pr (if pp<a then S++[(pp,a-1,true,a+c)] else S),?_,?_⟩
  ·refine⟨_,U,_,U,_,_,U,U,_,U,?_⟩;refine AZ (λ z=>?_) (λ z=>?_)
   ·rw[if_pos (D6 z)];obtain⟨us,hu1,hu2,hu3⟩:=hL.lst;refine⟨_,U,.inl ⟨U,_,SqL.of hu1⟩,_,U,_,U,_,_,U,U,_,U,_,U,_,_,U,U,VU,λ r2 hr2=>?_⟩;have s2:=BD hr2 (.tup [.int pp,.int (a-1),.bl true,.int (a+c)]);refine⟨pr,us,.ref r2,U,U,s2 _ _ hu1,BW ⋯,U,C4 hpr (s1.trans s2),?_⟩;exact(hL.same s2).append (x:=(pp,a-1,true,a+c)) (s2 _ _ hu1) AI
   ·rw[if_neg (λ y=>z (CB y))];exact⟨U,s1,hL⟩
  intro σ' H2 z9;obtain⟨rfl,s2,hL2⟩ := z9;have ln2:(if pp<a then S++[(pp,a-1,true,a+c)] else S).length<=2*i+1:=by
   split
   ·simp;omega
   ·omega
  generalize (if pp<a then S++[(pp,a-1,true,a+c)] else S)=S2 at *;obtain⟨us,hu1,hu2,hu3⟩:=hL2.lst;refine⟨_,U,.inl ⟨U,_,SqL.of hu1⟩,_,U,_,U,_,U,VU,λ r2 hr2=>?_⟩;have s3:=BD hr2 (.tup [.int a,.int b,.bl false,.int c]);refine⟨pr,us,.ref r2,U,U,s3 _ _ hu1,BW ⋯,?_⟩;refine⟨_,U,_,_,U,U,_,_,_,U,C4 hpr (s2.trans s3),?_⟩;exact(hL2.same s3).append (x:=(a,b,false,c)) (s3 _ _ hu1) AI
 ·intro σ H1 z9;obtain⟨v1,v2,v3,rfl,s1,hL⟩ := z9;rw[hw2,JH] at hL ⊢;have ln:=Ma.stPre_len R;obtain⟨us,hu1,hu2,hu3⟩:=hL.lst;refine⟨λ σ' H2=>∃u1 u2 u3 u4,σ'=[some (.int day),some (.ref p),some (.ref pr),u1,u2,u3,u4]/\Same H H2/\LA DF H2 pr (Ma.strOf day R),?_,?_⟩
  ·unfold Ma.strOf;refine⟨λ c H2=>H2=H1/\c=decide (0<(Ma.stPre R).1.length/\(Ma.stPre R).2<day),?_,?_⟩
   ·refine⟨_,U,pr,_,U,.inl (SqL.of hu1),_,_,U,U,_,U,?_⟩;refine AZ (λ z=>?_) (λ z=>?_)
    ·have z':(0:Int)<((us.length:Nat):Int):=D6 z;refine⟨_,U,_,U,_,_,U,U,_,U,U,?_⟩;have z2:0<(Ma.stPre R).1.length:=⋯
     by_cases c:(Ma.stPre R).2<day<;>simp[c,z2]
    ·refine⟨U,?_⟩;have z':¬(0:Int)<((us.length:Nat):Int):=λ y=>z (CB y)
     exact(decide_eq_false ⋯).symm
   intro c H2 z9;obtain⟨rfl,rfl⟩ := z9;refine AZ (λ z=>?_) (λ z=>?_)
   ·have z':=D6 z;rw[if_pos z'];have n0:0<R.length:=by
     rcases M3 R.length with e|e
     ·have:=ln.1;omega
     ·exact e
    obtain⟨ws',k1,k2,k3⟩:=(hR.same s1).at (K:=K);obtain⟨r0,ka,kb⟩:=k3 0 _ (Ma.r_at n0);refine⟨_,U,.inl ⟨U,_,SqL.of hu1⟩,_,U,_,U,_,_,U,U,_,U,_,U,p,_,_,_,U,U,SqL.of k1,ka,r0,_,_,_,U,U,SqT.of kb,U,_,_,U,U,_,U,p,_,_,_,U,U,SqL.of k1,ka,r0,_,_,_,U,U,SqT.of kb,U,_,_,U,U,
     VU,λ r2 hr2=>?_⟩
    have s3:=BD hr2 (.tup [.int (Ma.stPre R).2,.int (day-1),.bl true,.int (day+Ma.rA R 0+Ma.rC R 0)]);refine⟨pr,us,.ref r2,U,U,s3 _ _ hu1,BW ⋯,_,_,_,_,U,C4 hpr (s1.trans s3),?_⟩;exact(hL.same s3).append (x:=((Ma.stPre R).2,day-1,true,day+Ma.rA R 0+Ma.rC R 0)) (s3 _ _ hu1) AI
   ·rw[if_neg (λ y=>z (CB y))];exact⟨_,_,_,_,U,s1,hL⟩
  intro σ' H2 z9;obtain⟨u1,u2,u3,u4,rfl,s2,hL2⟩ := z9;exact⟨_,U,q pr H2 s2 hpr hL2⟩
end
open Ma (T6)
def oC(r:T6):List V:=[.int r.1,.int r.2.1,.bl r.2.2.1,.int r.2.2.2.1,.bl r.2.2.2.2.1,.int r.2.2.2.2.2]
inductive spFirstTold(vs:List V)(H:Hp)(Q:VK)(z3q:XK):Prop
 |mk (r:Addr) (x:T4):vs=[.ref r]->H r=some (.tup (DF x))->Q (.int (Ma.ftold x)) H->spFirstTold vs H Q z3q
inductive spPut(vs:List V)(H:Hp)(Q:VK)(z3q:XK):Prop
 |mk (p:Addr) (a b c:Int) (R:List T3):vs=[.ref p,.int a,.int b,.int c]->LA AQ H p R->R.length<=16000000->(∀H',SameT p H H'->LA AQ H' p (Ma.putW R a b c)->Q .non H')->spPut vs H Q z3q
inductive spClockFrom(vs:List V)(H:Hp)(Q:VK)(z3q:XK):Prop
 |mk (day:Int) (p:Addr) (S:List T4) (g:Int->Int):vs=[.int day,.ref p]->LA DF H p S->S.length<=16000000->0<day->Ma.Rise day g->Ma.Cov g 0 S day->(∀(l:Addr)(R:List T3)(H':Hp),Same H H'->H l=none->LA AQ H' l R->R.length<=S.length->Ma.Can 0 day g R->Q (.ref l) H')->spClockFrom vs H Q z3q
inductive spOverlay(vs:List V)(H:Hp)(Q:VK)(z3q:XK):Prop
 |mk (day:Int) (p1 p2:Addr) (R1 R2:List T3) (f1 f2:Int->Int):vs=[.int day,.ref p1,.ref p2]->LA AQ H p1 R1->LA AQ H p2 R2->R1.length<=1900000->R2.length<=1900000->Ma.CK day R1->Ma.CK day R2->Ma.Tells day R1 f1->Ma.Tells day R2 f2->(∀(l:Addr)(O:List T6)(H':Hp),Same H H'->H l=none->LA oC H' l O->O.length<=2*R1.length+2*R2.length+2->Ma.Cov2 f1 f2 0 O day->Q (.ref l) H')->spOverlay vs H Q z3q
inductive spPicked(vs:List V)(H:Hp)(Q:VK)(z3q:XK):Prop
 |mk (p q wt rd:Int) (late:Bool):vs=[.int p,.int q,.int wt,.int rd,.bl late]->(∀(l:Addr)(H':Hp),Same H H'->H l=none->LA DF H' l (Ma.pickL p q wt rd late)->Q (.ref l) H')->spPicked vs H Q z3q
inductive spJoined(vs:List V)(H:Hp)(Q:VK)(z3q:XK):Prop
 |mk (day:Int) (p1 p2:Addr) (late:Bool) (R1 R2:List T3) (f1 f2:Int->Int):vs=[.int day,.ref p1,.ref p2,.bl late]->LA AQ H p1 R1->LA AQ H p2 R2->R1.length<=1900000->R2.length<=1900000->Ma.CK day R1->Ma.CK day R2->Ma.Tells day R1 f1->Ma.Tells day R2 f2->(∀(l:Addr)(R:List T3)(H':Hp),Same H H'->H l=none->LA AQ H' l R->R.length<=4*R1.length+4*R2.length+4->Ma.Can 0 day (λ x=>Ma.jn late (f1 x) (f2 x)) R->Q (.ref l) H')->spJoined vs H Q z3q
inductive spTwo(op:Option Int->Option Int->Option Int)(vs:List V)(H:Hp)(Q:VK)(z3q:XK):Prop
 |mk (day:Int) (p1 p2:Addr) (R1 R2:List T3):vs=[.int day,.ref p1,.ref p2]->LA AQ H p1 R1->LA AQ H p2 R2->R1.length<=1900000->R2.length<=1900000->Ma.CK day R1->Ma.CK day R2->(∀(l:Addr)(R:List T3)(H':Hp),Same H H'->H l=none->LA AQ H' l R->R.length<=4*R1.length+4*R2.length+4->Ma.CK day R->(∀t,Ma.bt day R t=op (Ma.bt day R1 t) (Ma.bt day R2 t))->Q (.ref l) H')->spTwo op vs H Q z3q
section
variable {f:Addr}
theorem xE(F:Fun K "first_told" "first_told" b9 f fd):FnOk P w K mg base B5 (n+1) f fd ["row"] spFirstTold:=by
 refine F.okQ xU ?_ ?_;walk_at "o";obtain⟨r,x,rfl,hx,q⟩:=h;refine⟨_,(AA (AF (FJ (CD (A8 AU (qv 0) A6 Y9)) (A8 AU (qv 0) A6 Y9) (A7 B7 (A8 AU (qv 0) A6 Y9) (A8 AU (qv 0) A6 Y9))))),?_⟩;walk_at "d";refine⟨_,U,r,_,_,_,U,U,SqT.of hx,U,_,U,?_⟩;unfold Ma.ftold at q;refine AZ (λ c=>?_) (λ c=>?_)
 ·rw[if_pos c] at q;exact⟨_,U,r,_,_,_,U,U,SqT.of hx,U,q⟩
 ·rw[if_neg c] at q;exact⟨_,U,r,_,_,_,U,U,SqT.of hx,U,_,U,r,_,_,_,U,U,SqT.of hx,U,_,_,U,U,q⟩
theorem fV(F:Fun K "put_window" "put_window" aN f fd)(B:Bl mg):FnOk P w K mg base B5 (n+1) f fd ["clock","a","b","c"] spPut:=by
 refine F.okQ tL ?_ ?_;walk_at "o";obtain⟨p,a,b,c,R,rfl,hR,hlen,q⟩:=h;refine⟨_,(A9 (AE (AX JF (qv 1) (qv 2) (AS _)) (AA W6) AY) (AA (AE (FM (QW.pt (I0 (AX JF (AL CN U B.len C5 (A4 (qv 0) A5)) A6 (AS _)) (I0 (AX CS (A7 B7 (A8 AU (A8 AM (qv 0) (G0 A6) Y9) A6 Y9) A6) (qv 1) (AS _)) (J6 (AX CS (A8 AU (A8 AM (qv 0) (G0 A6) Y9) A6 Y9) (qv 3) (AS _))))))) (AA (QR (D4 (A4 (A8 AU (A8 AM (qv 0) (G0 A6) Y9) A6 Y9) (A4 (qv 2) (A4 (qv 3) A5)))) (OH (qv 0) (G0 A6) PD))) (AA (CF (DG (qv 0) (A4 (D4 (A4 (qv 1) (A4 (qv 2) (A4 (qv 3) A5)))) A5))))))),?_⟩;walk_at "d";obtain⟨vs,hv1,hv2,hv3⟩:=hR.lst;have neg1:∀(i:Int) ,(-1:Int)=-i->i=1:=λ i e=>⋯
 refine⟨_,U,_,U,_,_,U,U,_,U,?_⟩;unfold Ma.putW at q;refine AZ (λ z=>?_) (λ z=>?_)
 ·rw[if_pos (D6 z)] at q;exact q H (λ b o e _=>e) hR
 rw[if_neg (λ y=>z (CB y))] at q;have app:∀H1:Hp,H1=H->(∀H',SameT p H H'->LA AQ H' p (R++[(a,b,c)])->Q .non H')->∀r2,H1 r2=none->Q .non (AD (AD H1 r2 (.tup [.int a,.int b,.int c])) p (.lst (vs++[.ref r2]))):=by
  rintro H1 rfl q' r2 hr2;have s2:=BD hr2 (.tup [.int a,.int b,.int c]);refine q' _ (λ x o e nx=>?_) ((hR.same s2).append (x:=(a,b,c)) (s2 _ _ hv1) AI);rw[AJ nx];exact s2 _ _ e
 cases hl:R.getLast? with
 |none =>
  rw[hl] at q;have e0:=Ax.mp hl;subst e0;have v0:vs=[]:=M6.mp hv2;subst v0;refine⟨λ k H'=>k=false/\H'=H,?_,?_⟩
  ·exact⟨_,U,p,_,U,.inl (SqL.of hv1),_,_,U,U,_,U,CU (by simp) ⟨U,U⟩⟩
  intro k H1 z9;obtain⟨rfl,rfl⟩ := z9;refine BB ⟨_,rfl,.inl ⟨rfl,_,SqL.of hv1⟩,_,rfl,_,rfl,_,rfl,QY,λ r2 hr2=>?_⟩;refine⟨p,_,.ref r2,U,U,(BD hr2 _) _ _ hv1,BW (by simp),app H1 rfl q r2 hr2⟩
 |some l =>
  rw[hl] at q;obtain⟨R0,rfl⟩:=Ao.mp hl;have vl:vs.length=R0.length+1:=by rw[hv2];simp
  have vne:vs≠[]:=λ e=>by rw[e] at vl;simp at vl
  obtain⟨r,x,e1,e2,e3⟩:=hv3 R0.length _ (BK ⋯);have e2':l=x:=by simpa using e2
  subst e2';have at1:DK vs (-1)=some (.ref r):=by
   rw[lX vne,show vs.length-1=R0.length by omega,BK ⋯,e1]
  obtain⟨la,lb,lc⟩:=l;refine⟨λ k H'=>k=decide (lb+1=a/\lc=c)/\H'=H,?_,?_⟩
  ·refine⟨_,U,p,_,U,.inl (SqL.of hv1),_,_,U,U,_,U,D2 (CB (by show(0:Int)<((vs.length:Nat):Int);omega)) ?_⟩;refine⟨_,U,_,U,p,_,_,_,U,U,SqL.of hv1,at1,r,_,_,_,U,U,SqT.of e3,U,_,_,U,U,_,U,U,_,U,?_⟩;refine AZ (λ y=>?_) (λ y=>?_)
   ·have y':lb+1=a:=by
     have:=D6 y
     simpa [AQ] using this
    refine⟨_,U,_,U,p,_,_,_,U,U,SqL.of hv1,at1,r,_,_,_,U,U,SqT.of e3,U,_,U,U,_,U,?_,U⟩
    by_cases c0:lc=c<;>simp[y',c0]
   ·have y':¬lb+1=a:=λ e=>y (CB (by rw[<- e]))
    exact⟨by simp[y'],U⟩
  intro k H1 z9;obtain⟨rfl,rfl⟩ := z9;dsimp only at q;refine AZ (λ y=>?_) (λ y=>?_)
  ·have y':=D6 y;rw[if_pos y',zD] at q;refine⟨_,U,_,U,p,_,_,_,U,U,SqL.of hv1,at1,r,_,_,_,U,U,SqT.of e3,U,_,U,_,U,QY,λ r2 hr2=>?_⟩;have s2:=BD hr2 (.tup [.int la,.int b,.int c]);have ix:J7 vs.length (-1)=some R0.length:=by
    unfold J7;rw[if_neg ⋯,if_pos ⋯];congr 1;omega
   refine⟨_,U,_,U,p,vs,-1,R0.length,U,U,s2 _ _ hv1,ix,?_⟩;refine q _ (λ x o e nx=>?_) ?_
   ·rw[AJ nx];exact s2 _ _ e
   ·have h:=(hR.same s2).setAt (x:=(la,b,c)) (j:=R0.length) (s2 _ _ hv1) AI;have e:(R0++[(la,lb,lc)]).set R0.length (la,b,c)=R0++[(la,b,c)]:=by simp
    rw[e] at h;exact h
  ·rw[if_neg (λ z=>y (CB z))] at q;refine⟨_,U,.inl ⟨U,_,SqL.of hv1⟩,_,U,_,U,_,U,QY,λ r2 hr2=>?_⟩;exact⟨p,_,.ref r2,U,U,(BD hr2 _) _ _ hv1,BW ⋯,app H1 rfl q r2 hr2⟩
theorem tW(F:Fun K "clock_from" "clock_from" YZ f fd)(B:Bl mg)(Cs0:Callee P w K mg base n "first_told" ["row"] spFirstTold)(Ct0:Callee P w K mg base n "put_window" ["clock","a","b","c"] spPut) :
  FnOk P w K mg base B5 (n+1) f fd ["day","rows"] spClockFrom:=by
 refine F.okQ BO ?_ ?_;walk_at "o";obtain⟨day,p,S,g,rfl,hS,hlen,hd,rg,hC,q⟩:=h;refine⟨_,(A9 (AC (i:=2) BO.nd U (AH U) (D0 A5)) (A9 (DJ PassesOwn.never U (ME U B.enumerate (A4 (qv 1) A5)) (G8 U (BI (AV (i:=3) BO.nd U (AH U)) (BI (AV (i:=4) BO.nd U (AH U)) FX))) (A9 (AC (i:=5) BO.nd U (AH U) (KB (FJ (AX F7 (A7 B7 (qv 3) A6) (AL CN U B.len C5 (A4 (qv 1) A5)) (AS _)) (AB Cs0 hr U (A4 (A8 AM (qv 1) (A7 B7 (qv 3) A6) Y9) A5)) (A7 B7 (qv 0) (AB Cs0 hr U (A4 (A8 AM (qv 1) A6 Y9) A5)))))) (A9 (AC (i:=6) BO.nd U (AH U) (A8 AU (qv 4) A6 Y9)) (A9 (AC (i:=7) BO.nd U (AH U) (A8 AU (qv 4) A6 Y9)) (AA (AE (CD (A8 AU (qv 4) A6 Y9)) (AA (CF (AB Ct0 hr U (A4 (qv 2) (A4 (qv 6) (A4 (KB (FJ (AX F7 (qv 7) (qv 5) (AS _)) (qv 6) (A7 D5 (qv 6) A6))) (A4 (A7 D5 (qv 7) (qv 6)) A5))))))) (AA (CF (AB Ct0 hr U (A4 (qv 2) (A4 (A8 AU (qv 4) A6 Y9) (A4 (KB (FJ (AX F7 (A7 B7 (qv 6) (qv 7)) (qv 5) (AS _)) (qv 6) (A7 D5 (qv 6) A6))) (A4 (qv 7) A5))))))))))))) (AA (AF (qv 2))))),?_⟩;walk_at "d";refine⟨II,λ pc hpc=>?_⟩;have s0:Same H (AD H pc (.lst [])):=BD hpc _;obtain⟨ws,hw1,hw2,hw3⟩:=hS.lst;refine⟨_,U,p,U,⟨_,SqL.of (s0 _ _ hw1)⟩,nD (K:=K) (a:=p) (xs:=ws)
  (λ i σ H'=>∃(R:List T3)(at_:Int)(v1 v2 v3 v4 v5:Option V),σ=[some (.int day),some (.ref p),some (.ref pc),v1,v2,v3,v4,v5]/\Same H H'/\LA AQ H' pc R/\R.length<=i/\0<=at_/\Ma.Can 0 at_ g R/\(∀r,S[i]?=some r->r.1=at_)/\(i=S.length->at_=day))
  ⟨[],0,_,_,_,_,_,rfl,s0,LA.nil AI,BU _,DY _,⟨List.Pairwise.nil,(λ w hw=>by cases hw),λ x x0 x1=>⋯⟩,λ r e=>(hC.get e).2.2.2.2.1 rfl,λ e=>?_⟩
  (λ i σ H' _ z9=>by obtain⟨_,_,_,_,_,_,_,_,s1,_⟩ := z9;exact SqL.of (s1 _ _ hw1)) ?_ ?_⟩
 ·have:S=[]:=M6.mp e.symm;rw[this] at hC;exact hC
 ·intro i y pe σ H1 hi z9 hpe;obtain⟨R,at_,v1,v2,v3,v4,v5,rfl,s1,hR,hRl,a0,hCan,hat,_⟩ := z9;obtain⟨r,x,rfl,ex,er⟩:=hw3 i y hi;have e1:=hat x ex;obtain⟨g1,g2,g3,g4,g5,g6,g7⟩:=hC.get ex;have hi2:i<S.length:=(CP.mp ex).1;have s2:=BD hpe (.tup [.int i,.ref r]);generalize hg2:AD H1 pe (.tup [.int i,.ref r])=H2 at *;have ep:H2 pe=some (.tup [.int i,.ref r]):=by rw[<- hg2];exact AI
  clear hg2;have s02:=s1.trans s2;have er2:=s02 _ _ er;have hw12:=s02 _ _ hw1;have fo:=Ma.cfo_eq hC rg.per ex;have step:=hCan.row a0 x e1 g2 g4;rw[<- fo] at step;refine⟨pe,_,U,SqT.of ep,U,_,_,U,_,_,U,U,?_⟩;refine⟨λ v H'=>H'=H2/\v=.int (Ma.cfo day S i),?_,?_⟩
  ·refine⟨_,U,_,_,U,U,_,U,p,_,U,.inl (SqL.of hw12),_,_,U,U,_,U,?_⟩;obtain⟨ws',k1,k2,k3⟩:=(hS.same s02).at (K:=K);rw[hw12] at k1;cases k1;unfold Ma.cfo;refine AZ (λ c=>?_) (λ c=>?_)
   ·have c':(i:Int)+1<((ws.length:Nat):Int):=D6 c;have hi3:i+1<S.length:=⋯;obtain⟨r3,ka,kb⟩:=k3 (i+1) _ (BK hi3);rw[BK hi3];exact⟨_,U,_,U,_,_,U,U,p,_,_,_,U,U,SqL.of hw12,ka,r3,_,U,kb,U,U⟩
   ·have c':¬(i:Int)+1<((ws.length:Nat):Int):=λ z=>c (CB z)
    have hi3:S.length<=i+1:=⋯;obtain⟨r3,ka,kb⟩:=k3 0 _ (BK (by omega:0<S.length));rw[zE.mpr hi3,BK (by omega:0<S.length)];exact⟨_,U,_,U,p,_,_,_,U,U,SqL.of hw12,ka,r3,_,U,kb,_,_,U,U,U,U⟩
  intro v H3 z9;obtain⟨rfl,rfl⟩ := z9;generalize Ma.cfo day S i=fol at *;obtain⟨xp,xq,xs,xv⟩:=x;refine⟨_,U,r,_,_,_,U,U,SqT.of er2,U,?_⟩;refine⟨_,U,r,_,_,_,U,U,SqT.of er2,U,?_⟩;have hR2:=hR.same s2;have fin:∀(H4:Hp)(u1 u2 u3 u4 u5:Option V),SameT pc H3 H4->LA AQ H4 pc (Ma.cfStep fol (xp,xq,xs,xv) R)->∃(R:List T3)(at_:Int)(v1 v2 v3 v4 v5:Option V),[some (.int day),some (.ref p),some (.ref pc),u1,u2,u3,u4,u5]=[some (.int day),some (.ref p),some (.ref pc),v1,v2,v3,v4,v5]/\Same H H4/\LA AQ H4 pc R/\R.length<=i+1/\0<=at_/\Ma.Can 0 at_ g R/\(∀r,S[i+1]?=some r->r.1=at_)/\(i+1=S.length->at_=day):=by
   intro H4 u1 u2 u3 u4 u5 s4 h4;refine⟨_,xq+1,u1,u2,u3,u4,u5,U,λ b o e=>s4 b o (s02 _ _ e) (DW e hpc),h4,?_,?_,step,λ r' e'=>g6 r' e',λ e=>g7 e⟩
   ·have:=Ma.cfStep_len fol (xp,xq,xs,xv) R;omega
   ·have g1':0<=xp:=g1;have g2':xp<=xq:=g2;omega
  unfold Ma.cfStep at fin;dsimp only at fin;refine⟨_,U,r,_,_,_,U,U,SqT.of er2,U,_,U,?_⟩;refine AZ (λ c=>?_) (λ c=>?_)
  ·have c':xs=true:=c;rw[if_pos c'] at fin;refine⟨_,U,_,U,?_⟩;refine⟨λ v H'=>H'=H3/\v=.int (if xv<fol then xq else xq-1),?_,?_⟩
   ·refine⟨_,U,_,U,_,_,U,U,_,U,?_⟩;refine AZ (λ z=>?_) (λ z=>?_)
    ·exact⟨_,U,U,by rw[if_pos (D6 z)]⟩
    ·exact⟨_,U,_,_,U,U,U,by rw[if_neg (λ y=>z (CB y))]⟩
   intro v H4 z9;obtain⟨rfl,rfl⟩ := z9;exact⟨_,U,_,U,_,_,U,U,pc,_,_,_,R,U,hR2,⋯,λ H5 s5 h5=>fin H5 _ _ _ _ _ s5 h5⟩
  ·have c':¬xs=true:=c;rw[if_neg c'] at fin;refine⟨_,U,_,U,r,_,_,_,U,U,SqT.of er2,U,?_⟩;refine⟨λ v H'=>H'=H3/\v=.int (if xq+xv<fol then xq else xq-1),?_,?_⟩
   ·refine⟨_,U,_,U,_,_,U,U,_,U,_,_,U,U,_,U,?_⟩;refine AZ (λ z=>?_) (λ z=>?_)
    ·exact⟨_,U,U,by rw[if_pos (D6 z)]⟩
    ·exact⟨_,U,_,_,U,U,U,by rw[if_neg (λ y=>z (CB y))]⟩
   intro v H4 z9;obtain⟨rfl,rfl⟩ := z9;exact⟨_,U,pc,_,_,_,R,U,hR2,⋯,λ H5 s5 h5=>fin H5 _ _ _ _ _ s5 h5⟩
 ·intro σ H1 z9;obtain⟨R,at_,v1,v2,v3,v4,v5,rfl,s1,hR,hRl,a0,hCan,hat,hend⟩ := z9;have e:=hend hw2;subst e;exact⟨_,U,q pc R H1 s1 hpc hR ⋯ hCan⟩
theorem tN(F:Fun K "overlay" "overlay" XA f fd)(B:Bl mg)(Cg0:Callee P w K mg base n "stretches" ["day","clock"] spStretches):FnOk P w K mg base B5 (n+1) f fd ["day","one","other"] spOverlay:=by
 refine F.okQ BG ?_ ?_;walk_at "o";obtain⟨day,p1,p2,R1,R2,f1,f2,rfl,hR1,hR2,hl1,hl2,ck1,ck2,T1,T2,q⟩:=h;refine⟨_,(A9 (AC (i:=3) BG.nd U (AH U) (AB Cg0 hr U (A4 (qv 0) (A4 (qv 1) A5)))) (A9 (AC (i:=4) BG.nd U (AH U) (AB Cg0 hr U (A4 (qv 0) (A4 (qv 2) A5)))) (A9 (AC (i:=5) BG.nd U (AH U) (D0 A5)) (A9 (AC (i:=6) BG.nd U (AH U) A6) (A9 (AC (i:=7) BG.nd U (AH U) A6) (A9 (AC (i:=8) BG.nd U (AH U) A6) (A9 (SF PassesOwn.never (AX F7 (qv 8) (qv 0) (AS _)) (A9 (AC (i:=9) BG.nd U (AH U) (AL (K1 U) U B.min bt_min (A4 (A8 AU (A8 AM (qv 3) (qv 6) Y9) A6 Y9) (A4 (A8 AU (A8 AM (qv 4) (qv 7) Y9) A6 Y9) A5)))) (A9 (CF (DG (qv 5) (A4 (D4 (A4 (qv 8) (A4 (qv 9) (A4 (A8 AU (A8 AM (qv 3) (qv 6) Y9) A6 Y9) (A4 (A8 AU (A8 AM (qv 3) (qv 6) Y9) A6 Y9) (A4 (A8 AU (A8 AM (qv 4) (qv 7) Y9) A6 Y9) (A4 (A8 AU (A8 AM (qv 4) (qv 7) Y9) A6 Y9) A5))))))) A5))) (IE (AE (AX CS (A8 AU (A8 AM (qv 3) (qv 6) Y9) A6 Y9) (qv 9) (AS _)) (AA (JB (i:=6) BG.nd U (AH U) JE A6)) AY) (IE (AE (AX CS (A8 AU (A8 AM (qv 4) (qv 7) Y9) A6 Y9) (qv 9) (AS _)) (AA (JB (i:=7) BG.nd U (AH U) JE A6)) AY) (AA (AC (i:=8) BG.nd U (AH U) (A7 B7 (qv 9) A6)))))))) (AA (AF (qv 5)))))))))),?_⟩;walk_at "d";refine⟨_,U,_,U,day,p1,R1,U,hR1,⋯,λ l1 H1 s1 fr1 hS1=>?_⟩;refine⟨_,U,_,U,day,p2,R2,U,hR2.same s1,⋯,λ l2 H2 s2 fr2 hS2=>?_⟩;have C1:=Ma.str_cov ck1 T1;have C2:=Ma.str_cov ck2 T2;have b1:=Ma.strOf_len day R1;have b2:=Ma.strOf_len day R2;have hS1:=hS1.same s2;generalize Ma.strOf day R1=S1 at *;generalize Ma.strOf day R2=S2 at *;have s02:=s1.trans s2;have hd:=ck1.d0;refine⟨II,λ pr hpr=>?_⟩;have sr:Same H2 (AD H2 pr (.lst [])):=BD hpr _;refine U1 (λ σ H'=>∃(O:List T6)(k j:Nat)(p:Int)(v:Option V),σ=[some (.int day),some (.ref p1),some (.ref p2),some (.ref l1),some (.ref l2),some (.ref pr),some (.int k),some (.int j),some (.int p),v] /\
   Same H2 H'/\LA oC H' pr O/\Ma.Cov2 f1 f2 0 O p/\0<=p/\p<=day/\O.length<=k+j/\k<=S1.length/\j<=S2.length/\(p<day->∃r1 r2,S1[k]?=some r1/\r1.1<=p/\p<=r1.2.1/\S2[j]?=some r2/\r2.1<=p/\p<=r2.2.1))
  (λ σ _=>match σ with | [_,_,_,_,_,_,_,_,some (.int p),_]=>(day-p).toNat|_=>0) ?_ ?_ ?_
 ·refine⟨[],0,0,0,none,U,sr,LA.nil AI,U,DY _,⋯,by simp,HV _,HV _,λ h=>?_⟩;have n1:0<S1.length:=by
   rcases M3 S1.length with e|e
   ·rw[M6.mp e] at C1;have:(0:Int)=day:=C1;omega
   ·exact e
  have n2:0<S2.length:=by
   rcases M3 S2.length with e|e
   ·rw[M6.mp e] at C2;have:(0:Int)=day:=C2;omega
   ·exact e
  have e1:=BK n1;have e2:=BK n2;obtain⟨g1,g2,g3,g4,g5,g6,g7⟩:=C1.get e1;obtain⟨h1,h2,h3,h4,h5,h6,h7⟩:=C2.get e2;have:=g5 rfl;have:=h5 rfl;exact⟨_,_,e1,⋯,⋯,e2,⋯,⋯⟩
 ·intro σ H3 z9;obtain⟨O,k,j,p,v,rfl,s3,hO,cv,p0,pd,ol,kl,jl,hin⟩ := z9;refine⟨_,U,_,U,_,_,U,U,_,U,?_⟩;refine AZ (λ c=>?_) (λ c=>?_)
  ·have c':p<day:=D6 c;obtain⟨r1,r2,e1,x1,x2,e2,y1,y2⟩:=hin c';obtain⟨g1,g2,g3,g4,g5,g6,g7⟩:=C1.get e1;obtain⟨h1,h2,h3,h4,h5,h6,h7⟩:=C2.get e2;obtain⟨us1,u1,u2,u3⟩:=(hS1.same s3).at (K:=K);obtain⟨us2,w1,w2,w3⟩:=(hS2.same s3).at (K:=K);obtain⟨a1,ua,ub⟩:=u3 k _ e1;obtain⟨a2,wa,wb⟩:=w3 j _ e2;obtain⟨q1p,q1q,q1s,q1v⟩:=r1;obtain⟨q2p,q2q,q2s,q2v⟩:=r2;have x2':p<=q1q:=x2;have y2':p<=q2q:=y2;refine⟨_,U,_,U,l1,_,_,_,U,U,SqL.of u1,ua,a1,_,_,_,U,U,SqT.of ub,U,_,U,_,U,l2,_,_,_,U,U,SqL.of w1,wa,a2,_,_,_,U,U,SqT.of wb,U,_,_,U,?_⟩;generalize hq:(if q2q<q1q then q2q else q1q)=qq;have qp:p<=qq:=by rw[<- hq];split<;>omega
   have qa:qq<=q1q:=by rw[<- hq];split<;>omega
   have qb:qq<=q2q:=by rw[<- hq];split<;>omega
   have qe:qq=q1q\/qq=q2q:=by rw[<- hq];split<;>simp
   obtain⟨vs,v1,v2,v3⟩:=hO.lst;refine⟨_,U,.inl ⟨U,_,SqL.of v1⟩,_,U,_,U,_,U,_,U,l1,_,_,_,U,U,SqL.of u1,ua,a1,_,_,_,U,U,SqT.of ub,U,_,U,_,U,l1,_,_,_,U,U,SqL.of u1,ua,a1,_,_,_,U,U,SqT.of ub,U,
    _,rfl,_,rfl,l2,_,_,_,rfl,rfl,SqL.of w1,wa,a2,_,_,_,rfl,rfl,SqT.of wb,rfl,_,rfl,_,rfl,l2,_,_,_,rfl,rfl,SqL.of w1,wa,a2,_,_,_,rfl,rfl,SqT.of wb,rfl,Br,λ rn hrn=>?_⟩
   have s4:=BD hrn (.tup [.int p,.int qq,.bl q1s,.int q1v,.bl q2s,.int q2v]);refine⟨pr,vs,.ref rn,U,U,s4 _ _ v1,BW ⋯,?_⟩;have hO5:=(hO.same s4).append (x:=(p,qq,q1s,q1v,q2s,q2v)) (s4 _ _ v1) AI;have s5:=C4 (o:=.lst (vs++[.ref rn])) hpr (s3.trans s4);have cv5:Ma.Cov2 f1 f2 0 (O++[(p,qq,q1s,q1v,q2s,q2v)]) (qq+1):=Ma.Cov2.snoc (r:=(p,qq,q1s,q1v,q2s,q2v)) qp (λ x a b=>by
    have a':p<=x:=a;have b':x<=qq:=b;exact⟨g4 x (by show q1p<=x;have:q1p<=p:=x1;omega) (by show x<=q1q;omega),h4 x (by show q2p<=x;have:q2p<=p:=y1;omega) (by show x<=q2q;omega)⟩) cv
   generalize AD (AD H3 rn _) pr _=H5 at *;have hS15:=hS1.same s5;have hS25:=hS2.same s5;obtain⟨us1,u1,u2,u3⟩:=hS15.at (K:=K);obtain⟨us2,w1,w2,w3⟩:=hS25.at (K:=K);obtain⟨a1,ua,ub⟩:=u3 k _ e1;obtain⟨a2,wa,wb⟩:=w3 j _ e2;refine⟨λ σ' H'=>H'=H5/\∃k':Nat,σ'=[some (.int day),some (.ref p1),some (.ref p2),some (.ref l1),some (.ref l2),some (.ref pr),some (.int k'),some (.int j),some (.int p),some (.int qq)]/\((qq=q1q/\k'=k+1)\/(qq<q1q/\k'=k)),?_,?_⟩
   ·refine⟨_,U,_,U,l1,_,_,_,U,U,SqL.of u1,ua,a1,_,_,_,U,U,SqT.of ub,U,_,U,U,_,U,?_⟩;refine AZ (λ z=>?_) (λ z=>?_)
    ·have z':=D6 z;injection z' with z'
     exact⟨_,U,_,_,U,U,U,k+1,U,.inl ⟨z'.symm,U⟩⟩
    ·have z':¬q1q=qq:=λ e=>z (CB (by rw[e]))
     exact⟨U,k,U,.inr ⟨⋯,U⟩⟩
   intro σ' H6 z9;obtain⟨rfl,k',rfl,hk'⟩ := z9;refine⟨λ σ' H'=>H'=H6/\∃j':Nat,σ'=[some (.int day),some (.ref p1),some (.ref p2),some (.ref l1),some (.ref l2),some (.ref pr),some (.int k'),some (.int j'),some (.int p),some (.int qq)]/\((qq=q2q/\j'=j+1)\/(qq<q2q/\j'=j)),?_,?_⟩
   ·refine⟨_,U,_,U,l2,_,_,_,U,U,SqL.of w1,wa,a2,_,_,_,U,U,SqT.of wb,U,_,U,U,_,U,?_⟩;refine AZ (λ z=>?_) (λ z=>?_)
    ·have z':=D6 z;injection z' with z'
     exact⟨_,U,_,_,U,U,U,j+1,U,.inl ⟨z'.symm,U⟩⟩
    ·have z':¬q2q=qq:=λ e=>z (CB (by rw[e]))
     exact⟨U,j,U,.inr ⟨⋯,U⟩⟩
   intro σ' H7 z9;obtain⟨rfl,j',rfl,hj'⟩ := z9;have kS:k<S1.length:=(CP.mp e1).1;have jS:j<S2.length:=(CP.mp e2).1;refine⟨_,U,_,_,U,U,⟨_,k',j',qq+1,_,U,s5,hO5,cv5,⋯,?_,?_,⋯,⋯,λ lt=>?_⟩,?_⟩
   ·have:q1q<day:=g3;omega
   ·rw[G2,R6];omega
   ·have A:∃r1,S1[k']?=some r1/\r1.1<=qq+1/\qq+1<=r1.2.1:=by
     rcases hk' with⟨z,rfl⟩|⟨z,rfl⟩
     ·have hk1:k+1<S1.length:=by
       rcases(by omega:k+1<S1.length\/k+1=S1.length) with y|y
       ·exact y
       ·have:=g7 y;have:q1q+1=day:=this;omega
      have e:=BK hk1;have:=g6 _ e;have:=(C1.get e).2.1;have:(S1[k+1]).1=q1q+1:=g6 _ e;exact⟨_,e,⋯,⋯⟩
     ·exact⟨_,e1,by show q1p<=qq+1;have:q1p<=p:=x1;omega,by show qq+1<=q1q;omega⟩
    have A2:∃r2,S2[j']?=some r2/\r2.1<=qq+1/\qq+1<=r2.2.1:=by
     rcases hj' with⟨z,rfl⟩|⟨z,rfl⟩
     ·have hk1:j+1<S2.length:=by
       rcases(by omega:j+1<S2.length\/j+1=S2.length) with y|y
       ·exact y
       ·have:=h7 y;have:q2q+1=day:=this;omega
      have e:=BK hk1;have:=(C2.get e).2.1;have:(S2[j+1]).1=q2q+1:=h6 _ e;exact⟨_,e,⋯,⋯⟩
     ·exact⟨_,e2,by show q2p<=qq+1;have:q2p<=p:=y1;omega,by show qq+1<=q2q;omega⟩
    obtain⟨r1',b1,b2,b3⟩:=A;obtain⟨r2',d1,d2,d3⟩:=A2;exact⟨r1',r2',b1,b2,b3,d1,d2,d3⟩
   ·show(day-(qq+1)).toNat<(day-p).toNat;omega
  ·have c':¬p<day:=λ z=>c (CB z)
   have e:p=day:=⋯;subst e;refine⟨_,U,q pr O H3 (s02.trans s3) (s02.free hpr) hO ⋯ cv⟩
 ·intro σ H' Q1 Q2 hq z9;obtain⟨v,e1,v',e2,i,j,e3,e4,k,e5,q1⟩ := z9;exact⟨v,e1,v',e2,i,j,e3,e4,k,e5,hq _ _ q1⟩
theorem O0(F:Fun K "picked" "picked" aF f fd)(B:Bl mg):FnOk P w K mg base B5 (n+1) f fd ["p","q","waiting","riding","late"] spPicked:=by
 refine F.okQ FD ?_ ?_;walk_at "o";obtain⟨p,qq,wt,rd,late,rfl,q⟩:=h;refine⟨_,(A9 (AC (i:=5) FD.nd U (AH U) (A7 D5 (qv 2) (qv 3))) (A9 (AC (i:=6) FD.nd U (AH U) (D4 (A4 (qv 0) (A4 (AL (K1 U) U B.min bt_min (A4 (qv 1) (A4 (qv 5) A5))) (A4 (qv 4) (A4 (KB (FJ (CD (qv 4)) (qv 2) (qv 3))) A5)))))) (A9 (AC (i:=7) FD.nd U (AH U) (D4 (A4 (AL (gR U) U B.max J3 (A4 (qv 0) (A4 (A7 B7 (qv 5) A6) A5))) (A4 (qv 1) (A4 (UX (qv 4)) (A4 (KB (FJ (CD (qv 4)) (qv 3) (qv 2))) A5)))))) (AA (AF (QL ["part"] [none] (BlkOk.of U U (SubL.to EX) U) U (SW (D4 (A4 (qv 6) (A4 (qv 7) A5)))) (λ _ _ _ _=>(AV (i:=0) (show(["part"]:List Str).Nodup by decide) U (AH U))) (λ _ _ _ _=>(AX EA (A8 (j4 K U) (qv 0) A6 Y9) (A8 (j4 K U) (qv 0) A6 Y9) (AS _))) (λ _ _ _ _=>(qv 0)))))))),?_⟩;walk_at "d";refine⟨_,U,_,U,_,_,U,U,?_⟩;refine⟨_,U,_,U,_,U,_,_,U,_,U,?_⟩;refine⟨λ v H'=>H'=H/\v=.int (if late=true then wt else rd),?_,?_⟩
 ·refine⟨_,U,_,U,?_⟩;cases late
  ·exact BB ⟨_,rfl,rfl,rfl⟩
  ·exact DC ⟨_,rfl,rfl,rfl⟩
 intro v H1 z9;obtain⟨rfl,rfl⟩ := z9;refine⟨VU,λ ra hra=>?_⟩;generalize hgH2:AD _ ra _=H2;revert H2;refine BE hra λ H2 s2 e2=>?_
 refine⟨_,U,_,U,_,_,U,U,_,_,U,_,U,_,U,_,U,?_⟩;refine⟨λ v H'=>H'=H2/\v=.int (if late=true then rd else wt),?_,?_⟩
 ·refine⟨_,U,_,U,?_⟩;cases late
  ·exact BB ⟨_,rfl,rfl,rfl⟩
  ·exact DC ⟨_,rfl,rfl,rfl⟩
 intro v H2 z9;obtain⟨rfl,rfl⟩ := z9;refine⟨VU,λ rt hrt=>?_⟩;generalize hgH3:AD _ rt _=H3;revert H3;refine BE hrt λ H3 s3 e3=>?_
 have e23:=s3 _ _ e2;refine⟨_,U,_,U,iI,λ rp hrp=>?_⟩;generalize hgH4:AD _ rp _=H4;revert H4;refine BE hrp λ H4 s4 e4=>?_
 have e24:=s4 _ _ e23;have e34:=s4 _ _ e3;have s14:=(s2.trans s3).trans s4;unfold Ma.pickL at q;generalize hx1:(if wt-rd<qq then wt-rd else qq)=x1 at *;generalize hx2:(if wt-rd+1>p then wt-rd+1 else p)=x2 at *;generalize (if late=true then wt else rd)=v1 at *;generalize (if late=true then rd else wt)=v2 at *;refine⟨rp,U,⟨_,SqT.of e4⟩,?_⟩;refine pU (K:=K) (a:=rp) (xs:=[.ref ra,.ref rt]) (λ D i H'=>Same H4 H'/\LA DF H' D (if i=0 then [] else if i=1 then(if p<=x1 then [(p,x1,late,v1)] else []) else(if p<=x1 then [(p,x1,late,v1)] else [])++(if x2<=qq then [(x2,qq,!late,v2)] else [])))
  (λ D hD=>⟨BD hD _,LA.nil AI⟩) (λ D i H' _ _ h=>SqT.of (h.1 _ _ e4)) ?_ ?_
 ·intro D i y H' hD hi z9;obtain⟨sD,hD2⟩ := z9;obtain⟨ds,hd1,hd2,hd3⟩:=hD2.lst;refine⟨λ k v e=>?_,?_⟩
  ·match k,e with
   |0,e=>cases e
   |k+1,e=>cases e
  match i,hi with
  |0,hi =>
   have ey:y=.ref ra:=by simpa using hi.symm
   subst ey;have er:=sD _ _ e24;refine⟨_,U,ra,_,_,_,U,U,SqT.of er,U,_,U,ra,_,_,_,U,U,SqT.of er,U,_,_,U,U,_,U,?_⟩;refine AZ (λ c=>?_) (λ c=>?_)
   ·refine⟨_,U,ds,hd1,BW (by rw[hd2];simp),C4 hD sD,?_⟩;have c':p<=x1:=D6 c;have:=hD2.append (x:=(p,x1,late,v1)) hd1 er
    simpa [c'] using this
   ·have c':¬p<=x1:=λ z=>c (CB z)
    exact⟨sD,by simpa [c'] using hD2⟩
  |1,hi =>
   have ey:y=.ref rt:=by simpa using hi.symm
   subst ey;have er:=sD _ _ e34;refine⟨_,U,rt,_,_,_,U,U,SqT.of er,U,_,U,rt,_,_,_,U,U,SqT.of er,U,_,_,U,U,_,U,?_⟩;refine AZ (λ c=>?_) (λ c=>?_)
   ·refine⟨_,U,ds,hd1,BW (by rw[hd2];simp;split<;>simp),C4 hD sD,?_⟩;have c':x2<=qq:=D6 c;have:=hD2.append (x:=(x2,qq,!late,v2)) hd1 er
    simpa [c'] using this
   ·have c':¬x2<=qq:=λ z=>c (CB z)
    exact⟨sD,by simpa [c'] using hD2⟩
  |k+2,hi=>simp at hi
 ·intro D H' hD z9;obtain⟨sD,hD2⟩ := z9;exact q D H' (s14.trans sD) (s14.free hD) (by simpa using hD2)
theorem NP(F:Fun K "joined" "joined" WW f fd)(B:Bl mg)(Cx1:Callee P w K mg base n "overlay" ["day","one","other"] spOverlay)(Cl1:Callee P w K mg base n "picked" ["p","q","waiting","riding","late"] spPicked)(Cj0:Callee P w K mg base n "clock_from" ["day","rows"] spClockFrom) :
  FnOk P w K mg base B5 (n+1) f fd ["day","one","other","late"] spJoined:=by
 refine F.okQ CV ?_ ?_;walk_at "o";obtain⟨day,p1,p2,late,R1,R2,f1,f2,rfl,hR1,hR2,hl1,hl2,ck1,ck2,T1,T2,q⟩:=h;refine⟨_,(A9 (AC (i:=4) CV.nd U (AH U) (D0 A5)) (A9 (DJ PassesOwn.never U (DN (AB Cx1 hr U (A4 (qv 0) (A4 (qv 1) (A4 (qv 2) A5))))) (G8 U (BI (AV (i:=5) CV.nd U (AH U)) (BI (AV (i:=6) CV.nd U (AH U)) (BI (AV (i:=7) CV.nd U (AH U)) (BI (AV (i:=8) CV.nd U (AH U)) (BI (AV (i:=9) CV.nd U (AH U)) (BI (AV (i:=10) CV.nd U (AH U)) FX))))))) (AA (AE (AX CS (qv 7) (qv 9) (AS _)) (AA (CF (DG (qv 4) (A4 (D4 (A4 (qv 5) (A4 (qv 6) (A4 (qv 7) (A4 (KB (FJ (CD (qv 3)) (AL (gR U) U B.max J3 (A4 (qv 8) (A4 (qv 10) A5))) (AL (K1 U) U B.min bt_min (A4 (qv 8) (A4 (qv 10) A5))))) A5))))) A5)))) (AA (AE (CD (qv 7)) (AA (CF (j8 (qv 4) (A4 (AB Cl1 hr U (A4 (qv 5) (A4 (qv 6) (A4 (qv 8) (A4 (qv 10) (A4 (qv 3) A5)))))) A5)))) (AA (CF (j8 (qv 4) (A4 (AB Cl1 hr U (A4 (qv 5) (A4 (qv 6) (A4 (qv 10) (A4 (qv 8) (A4 (qv 3) A5)))))) A5))))))))) (AA (AF (AB Cj0 hr U (A4 (qv 0) (A4 (qv 4) A5))))))),?_⟩;walk_at "d";refine⟨II,λ pr hpr=>?_⟩;have s0:Same H (AD H pr (.lst [])):=BD hpr _;refine⟨_,U,_,U,_,U,day,p1,p2,R1,R2,f1,f2,U,hR1.same s0,hR2.same s0,hl1,hl2,ck1,ck2,T1,T2,λ lo O H1 s1 fr1 hO hOl cv=>?_⟩;have er1:H1 pr=some (.lst []):=s1 _ _ AI;have nlo:lo≠pr:=λ e=>by rw[e,AI] at fr1;cases fr1
 have s01:=s0.trans s1;clear fr1 s1;obtain⟨ws,hw1,hw2,hw3⟩:=hO.lst;have nws:∀(i:Nat) r,ws[i]?=some (.ref r)->r≠pr:=λ i r e z=>by
  obtain⟨r',x,e1,_,e2⟩:=hw3 i _ e;cases e1;rw[z,er1] at e2;cases e2
 have rg:=Ma.rise_jn late (ck1.rise T1) (ck2.rise T2);refine⟨lo,U,⟨_,SqL.of hw1⟩,GI (K:=K) (a:=lo) (xs:=ws)
  (λ i σ H'=>∃(S:List T4)(at_:Int)(v1 v2 v3 v4 v5 v6:Option V),σ=[some (.int day),some (.ref p1),some (.ref p2),some (.bl late),some (.ref pr),v1,v2,v3,v4,v5,v6]/\Same H H'/\SameT pr H1 H'/\LA DF H' pr S/\S.length<=2*i/\Ma.Cov (λ x=>Ma.jn late (f1 x) (f2 x)) 0 S at_/\(∀r,O[i]?=some r->r.1=at_)/\(i=O.length->at_=day))
  ⟨[],0,_,_,_,_,_,_,rfl,s01,λ b o e _=>e,LA.nil er1,by simp,rfl,λ r e=>(cv.get e).2.2.2.2.1 rfl,λ e=>?_⟩
  (λ i σ H' _ z9=>by obtain⟨_,_,_,_,_,_,_,_,_,_,s1,_⟩ := z9;exact SqL.of (s1 _ _ hw1 nlo)) ?_ ?_⟩
 ·rw[M6.mp e.symm] at cv;exact cv
 ·intro i y σ H2 hi z9;obtain⟨S,at_,v1,v2,v3,v4,v5,v6,rfl,sH,s2,hS,hSl,hC,hat,_⟩ := z9;obtain⟨r,x,rfl,ex,er⟩:=hw3 i y hi;have e1:=hat x ex;obtain⟨g1,g2,g3,g4,g5,g6,g7⟩:=cv.get ex;have er2:=s2 _ _ er (nws i r hi);have hi2:i<O.length:=(CP.mp ex).1;have jr:=Ma.joinRow_cov (late:=late) g2 g4;rw[e1] at jr;have hC2:=hC.append jr;have jl:=Ma.joinRow_len late x;obtain⟨us,hu1,hu2,hu3⟩:=hS.lst;have fin:∀(H4:Hp)(u1 u2 u3 u4 u5 u6:Option V),SameT pr H2 H4->LA DF H4 pr (S++Ma.joinRow late x)->∃(S:List T4)(at_:Int)(v1 v2 v3 v4 v5 v6:Option V),[some (.int day),some (.ref p1),some (.ref p2),some (.bl late),some (.ref pr),u1,u2,u3,u4,u5,u6]=[some (.int day),some (.ref p1),some (.ref p2),some (.bl late),some (.ref pr),v1,v2,v3,v4,v5,v6]/\Same H H4/\SameT pr H1 H4/\LA DF H4 pr S/\S.length<=2*(i+1)/\Ma.Cov (λ x=>Ma.jn late (f1 x) (f2 x)) 0 S at_/\(∀r,O[i+1]?=some r->r.1=at_)/\(i+1=O.length->at_=day):=by
   intro H4 u1 u2 u3 u4 u5 u6 s4 h4;refine⟨_,_,u1,u2,u3,u4,u5,u6,U,λ b o e=>s4 _ _ (sH _ _ e) (DW e hpr),λ b o e nb=>s4 _ _ (s2 _ _ e nb) nb,h4,?_,hC2,λ r' e'=>g6 r' e',λ e=>g7 e⟩;rw[G2];omega
  obtain⟨xp,xq,xs,xv,xs',xv'⟩:=x;unfold Ma.joinRow at fin;dsimp only at fin;refine⟨r,_,U,SqT.of er2,U,_,_,U,_,_,U,_,_,U,_,_,U,_,_,U,_,_,U,U,?_⟩;refine⟨_,U,_,U,U,_,U,?_⟩;refine AZ (λ c=>?_) (λ c=>?_)
  ·have c':xs=xs':=by
    have:=D6 c;injection this
   rw[if_pos c'] at fin;refine⟨_,U,.inl ⟨U,_,SqL.of hu1⟩,_,U,_,U,_,U,?_⟩;refine⟨λ v H'=>H'=H2/\v=.int (Ma.jn late xv xv'),?_,?_⟩
   ·refine⟨_,U,_,U,?_⟩;unfold Ma.jn;cases late
    ·exact BB ⟨_,rfl,_,rfl,_,_,rfl,rfl,rfl⟩
    ·exact DC ⟨_,rfl,_,rfl,_,_,rfl,rfl,rfl⟩
   intro v H3 z9;obtain⟨rfl,rfl⟩ := z9;refine⟨VU,λ rn hrn=>?_⟩;have s4:=BD hrn (.tup [.int xp,.int xq,.bl xs,.int (Ma.jn late xv xv')]);refine⟨pr,us,.ref rn,U,U,s4 _ _ hu1,BW ⋯,?_⟩;refine fin _ _ _ _ _ _ _ (λ b o e nb=>?_) ((hS.same s4).append (x:=(xp,xq,xs,Ma.jn late xv xv')) (s4 _ _ hu1) AI);rw[AJ nb];exact s4 _ _ e
  ·have c':¬xs=xs':=λ e=>c (CB (by rw[e]))
   rw[if_neg c'] at fin;refine⟨_,U,_,U,?_⟩;have ext:∀(L:List T4),L.length<=2->(∀(H4:Hp)(u1 u2 u3 u4 u5 u6:Option V),SameT pr H2 H4->LA DF H4 pr (S++L)->∃(S:List T4)(at_:Int)(v1 v2 v3 v4 v5 v6:Option V),[some (.int day),some (.ref p1),some (.ref p2),some (.bl late),some (.ref pr),u1,u2,u3,u4,u5,u6]=[some (.int day),some (.ref p1),some (.ref p2),some (.bl late),some (.ref pr),v1,v2,v3,v4,v5,v6]/\Same H H4/\SameT pr H1 H4/\LA DF H4 pr S/\S.length<=2*(i+1)/\Ma.Cov (λ x=>Ma.jn late (f1 x) (f2 x)) 0 S at_/\(∀r,O[i+1]?=some r->r.1=at_)/\(i+1=O.length->at_=day)) ->
     ∀(l:Addr)(H3:Hp),Same H2 H3->LA DF H3 l L->∀(u1 u2 u3 u4 u5 u6:Option V),∃(l2 b:Addr)(ys zs:List V),V.ref pr=.ref l2/\[V.ref l]=[.ref b]/\H3 l2=some (.lst ys)/\H3 b=some (.lst zs)/\ys.length+zs.length<=sizeLine/\∃(S:List T4)(at_:Int)(v1 v2 v3 v4 v5 v6:Option V),[some (.int day),some (.ref p1),some (.ref p2),some (.bl late),some (.ref pr),u1,u2,u3,u4,u5,u6]=[some (.int day),some (.ref p1),some (.ref p2),some (.bl late),some (.ref pr),v1,v2,v3,v4,v5,v6]/\Same H (AD H3 l2 (.lst (ys++zs)))/\SameT pr H1 (AD H3 l2 (.lst (ys++zs)))/\LA DF (AD H3 l2 (.lst (ys++zs))) pr S/\S.length<=2*(i+1)/\Ma.Cov (λ x=>Ma.jn late (f1 x) (f2 x)) 0 S at_/\(∀r,O[i+1]?=some r->r.1=at_)/\(i+1=O.length->at_=day):=by
    intro L hL fin' l H3 s3 hl u1 u2 u3 u4 u5 u6;obtain⟨zs,z1,z2,z3⟩:=hl.lst;refine⟨pr,l,us,zs,U,U,s3 _ _ hu1,z1,?_,fin' _ _ _ _ _ _ _ (λ b o e nb=>?_) ((hS.same s3).extend hl (s3 _ _ hu1) z1)⟩
    ·have:=BW (n:=us.length+zs.length) ⋯;omega
    ·rw[AJ nb];exact s3 _ _ e
   cases xs with
   |true =>
    rw[if_pos rfl] at fin;refine DC ⟨_,rfl,.inl ⟨rfl,_,SqL.of hu1⟩,_,rfl,_,rfl,_,rfl,_,rfl,_,rfl,xp,xq,xv,xv',late,rfl,λ l H3 s3 _ hl=>?_⟩;exact ext _ (Ma.pick_len ..) fin l H3 s3 hl _ _ _ _ _ _
   |false =>
    rw[if_neg (by decide)] at fin;refine BB ⟨_,rfl,.inl ⟨rfl,_,SqL.of hu1⟩,_,rfl,_,rfl,_,rfl,_,rfl,_,rfl,xp,xq,xv',xv,late,rfl,λ l H3 s3 _ hl=>?_⟩;exact ext _ (Ma.pick_len ..) fin l H3 s3 hl _ _ _ _ _ _
 ·intro σ H2 z9;obtain⟨S,at_,v1,v2,v3,v4,v5,v6,rfl,sH,s2,hS,hSl,hC,hat,hend⟩ := z9;have e:=hend hw2;subst e;refine⟨_,U,_,U,at_,pr,S,_,U,hS,⋯,ck1.d0,rg,hC,λ l R H3 s3 fl hR hRl can=>?_⟩;exact q l R H3 (sH.trans s3) (sH.free fl) hR ⋯ can
theorem QM(F:Fun K "sooner" "sooner" ZN f fd)(B:Bl mg)(Ca2:Callee P w K mg base n "joined" ["day","one","other","late"] spJoined):FnOk P w K mg base B5 (n+1) f fd ["day","one","other"] (spTwo Ma.omin):=by
 refine F.okQ OM ?_ ?_;walk_at "o";obtain⟨day,p1,p2,R1,R2,rfl,hR1,hR2,hl1,hl2,ck1,ck2,q⟩:=h;refine⟨_,(A9 (AE (FM (QW.pt (CO (AX CS (AL CN U B.len C5 (A4 (qv 1) A5)) A6 (AS _)) (FC (AX CS (AL CN U B.len C5 (A4 (qv 2) A5)) A6 (AS _)))))) (AA (AF (A7 LW (qv 1) (qv 2)))) AY) (AA (AF (AB Ca2 hr U (A4 (qv 0) (A4 (qv 1) (A4 (qv 2) (A4 DS A5)))))))),?_⟩;walk_at "d";obtain⟨us,hu1,hu2,hu3⟩:=hR1.lst;obtain⟨ws,hw1,hw2,hw3⟩:=hR2.lst;refine⟨λ b H'=>H'=H/\b=decide (R1=[]\/R2=[]),?_,?_⟩
 ·refine⟨_,U,p1,_,U,.inl (SqL.of hu1),U,_,U,?_⟩;refine AZ (λ c=>?_) (λ c=>?_)
  ·have c':=D6 c;injection c' with c'
   have e:R1=[]:=M6.mp ⋯;exact⟨U,by simp[e]⟩
  ·have n1:R1≠[]:=λ e=>c (CB (by rw[hu2,e];rfl))
   refine⟨_,U,p2,_,U,.inl (SqL.of hw1),U,_,U,U,?_⟩;rw[hw2];cases R2 with
   |nil=>simp
   |cons x r=>simp[n1];omega
 intro b H1 z9;obtain⟨rfl,rfl⟩ := z9;refine AZ (λ c=>?_) (λ c=>?_)
 ·have c':=D6 c;refine⟨_,U,_,U,p1,p2,us,ws,U,U,hu1,hw1,?_,λ l hl=>?_⟩
  ·have:=BW (n:=us.length+ws.length) ⋯;omega
  refine q l (R1++R2) _ (BD hl _) hl (hR1.cat hR2 hu1 hw1 hl) (by rw[G2];omega) ?_ (λ t=>Ma.bt_append day R1 R2 t);rcases c' with e|e
  ·rw[e];exact ck2
  ·rw[e,M5];exact ck1
 ·have c':¬(R1=[]\/R2=[]):=λ z=>c (CB z)
  have n1:R1≠[]:=λ e=>c' (.inl e)
  have n2:R2≠[]:=λ e=>c' (.inr e)
  have T1:=Ma.tells_bf (d:=day) n1;have T2:=Ma.tells_bf (d:=day) n2;refine⟨_,U,_,U,_,U,day,p1,p2,false,R1,R2,_,_,U,hR1,hR2,hl1,hl2,ck1,ck2,T1,T2,λ l R H2 s2 fl hR hRl can=>?_⟩;have rg:=Ma.rise_jn false (ck1.rise T1) (ck2.rise T2);exact q l R H2 s2 fl hR hRl (can.ck ck1.d0 rg) λ t=>by rw[can.tells ck1.d0 rg t,T1.min T2 t]
inductive spWithin(m:Nat)(vs:List V)(H:Hp)(Q:VK)(z3q:XK):Prop
 |mk (day:Int) (p:Addr) (R:List T3):vs=[.int day,.ref p]->LA AQ H p R->R.length<=2 ^ m->R.length<=900000->0<day->Ma.Wins day R->(∀(l:Addr)(R':List T3)(H':Hp),Same H H'->H l=none->LA AQ H' l R'->R'.length<=2*R.length+1->Ma.CK day R'->(∀t,Ma.bt day R' t=Ma.bt day R t)->Q (.ref l) H')->spWithin m vs H Q z3q
theorem mV(hd:0<d)(hW:Ma.Wins d R)(hl:R.length<=1):Ma.CK d R:=match R,hl,hW with
 | [],_,_=>Ma.ck_nil hd
 | [x],_,hW=>Ma.ck_one hd (hW x (D8.mpr rfl))
theorem nV(F:Fun K "clock_within" "clock_within" TY f fd)(B:Bl mg)(bd:Binds K fd ["day","board"] [])(kp:W.keepIn K (.ref f)=true)(mgf:mg "clock_within"=some (.ref f))(Cn3:Callee P w K mg base n "sooner" ["day","one","other"] (spTwo Ma.omin)) :
  ∀m,FnOk P w K mg base B5 (n+m+1) f fd ["day","board"] (spWithin m)
 |0=>by
  refine F.okQ CQ (λ vs H Q E h=>?_) (λ cdv A outer s H vs Q E hr h=>?_)
  ·obtain⟨_,_,_,rfl,_⟩:=h;rfl
  obtain⟨day,p,R,rfl,hR,hl,hl9,hd,hW,q⟩:=h;have Cn0:Callee P w K mg base (n+0) "sooner" ["day","one","other"] (λ _ _ _ _=>False):=by
   obtain⟨f,fd,G,b,kp,m⟩:=Cn3.ex;exact⟨f,fd,⟨λ _ _ _ _ h=>h.elim,λ _ _ _ _ _ _ _ _ _ _ _ _ _ h=>h.elim⟩,b,kp,m⟩
  have Ce0:Callee P w K mg base (n+0) "clock_within" ["day","board"] (λ _ _ _ _=>False):=⟨f,fd,⟨λ _ _ _ _ h=>h.elim,λ _ _ _ _ _ _ _ _ _ _ _ _ _ h=>h.elim⟩,bd,kp,mgf⟩
  refine⟨_,(A9 (AE (AX F7 (AL CN U B.len C5 (A4 (qv 1) A5)) A6 (AS _)) (AA (AF (DA bL U B.list_ NU (A4 (qv 1) A5)))) AY) (A9 (AC (i:=2) CQ.nd U (AH U) (A7 E8 (AL CN U B.len C5 (A4 (qv 1) A5)) A6)) (AA (AF (AB Cn0 hr U (A4 (qv 0) (A4 (AB Ce0 hr U (A4 (qv 0) (A4 (L6 (qv 1) IC (IG (qv 2))) A5))) (A4 (AB Ce0 hr U (A4 (qv 0) (A4 (L6 (qv 1) (IG (qv 2)) IC) A5))) A5)))))))),?_⟩;walk_at "d";obtain⟨us,hu1,hu2,hu3⟩:=hR.lst;have hl':R.length<=1:=hl;refine⟨_,U,p,_,U,.inl (SqL.of hu1),_,_,U,U,_,U,D2 (CB (by show((us.length:Nat):Int)<2;omega)) ?_⟩;refine⟨_,U,p,_,U,.inl (SqL.of hu1),λ pl hpl=>?_⟩;generalize hgH1:AD _ pl _=H1;revert H1;refine BE hpl λ H1 s1 e1=>?_
  have hR1:=hR.copy s1 hu1 e1;refine q pl R H1 s1 hpl hR1 ⋯ ?_ λ t=>rfl
  exact mV hd hW hl'
 |m+1=>by
  have Ce0:Callee P w K mg base (n+m+1) "clock_within" ["day","board"] (spWithin m):=Callee.mk' (nV F B bd kp mgf Cn3 m) bd kp mgf;have Cn0:=Cn3.up (show n<=n+m+1 by omega);refine F.okQ CQ (λ vs H Q E h=>?_) (λ cdv A outer s H vs Q E hr h=>?_)
  ·obtain⟨_,_,_,rfl,_⟩:=h;rfl
  obtain⟨day,p,R,rfl,hR,hl,hl9,hd,hW,q⟩:=h;refine⟨_,(A9 (AE (AX F7 (AL CN U B.len C5 (A4 (qv 1) A5)) A6 (AS _)) (AA (AF (DA bL U B.list_ NU (A4 (qv 1) A5)))) AY) (A9 (AC (i:=2) CQ.nd U (AH U) (A7 E8 (AL CN U B.len C5 (A4 (qv 1) A5)) A6)) (AA (AF (AB Cn0 hr U (A4 (qv 0) (A4 (AB Ce0 hr U (A4 (qv 0) (A4 (L6 (qv 1) IC (IG (qv 2))) A5))) (A4 (AB Ce0 hr U (A4 (qv 0) (A4 (L6 (qv 1) (IG (qv 2)) IC) A5))) A5)))))))),?_⟩;walk_at "d";obtain⟨us,hu1,hu2,hu3⟩:=hR.lst;refine⟨_,U,p,_,U,.inl (SqL.of hu1),_,_,U,U,_,U,?_⟩;refine AZ (λ c=>?_) (λ c=>?_)
  ·have c':((us.length:Nat):Int)<2:=D6 c;refine⟨_,U,p,_,U,.inl (SqL.of hu1),λ pl hpl=>?_⟩;generalize hgH1:AD _ pl _=H1;revert H1;refine BE hpl λ H1 s1 e1=>?_
   have hR1:=hR.copy s1 hu1 e1;have hl':R.length<=1:=⋯;refine q pl R H1 s1 hpl hR1 ⋯ ?_ λ t=>rfl
   exact mV hd hW hl'
  have c':¬((us.length:Nat):Int)<2:=λ z=>c (CB z)
  refine⟨_,U,p,_,U,.inl (SqL.of hu1),_,_,U,U,⟨by decide,by decide⟩,?_⟩;have eh:((us.length:Nat):Int)/2=((R.length/2:Nat):Int):=by rw[hu2];rfl
  dsimp only;rw[eh];generalize hh:R.length/2=h;have h1:0<h:=⋯;have h2:h<=us.length:=⋯;have pw:2 ^ (m+1)=2*2 ^ m:=by rw[Nat.pow_succ,Nat.mul_comm]
  refine⟨_,U,_,U,_,U,_,U,_,U,p,us,U,SqL.of hu1,λ pa hpa=>?_⟩;rw[UJ us h h2];have ea:us.take h=(us.drop 0).take h:=by simp
  rw[ea];generalize hgH1:AD _ pa _=H1;revert H1;refine BE hpa λ H1 s1 e1=>?_
  have hA:=hR.part s1 hu1 0 h e1;rw[bV] at hA;refine⟨day,pa,R.take h,U,hA,by rw[GV];omega,by rw[GV];omega,hd,λ w hw=>hW w (yJ hw),λ la Ra H2 s2 fa ha hal cka bta=>?_⟩;have hu12:=s2 _ _ (s1 _ _ hu1);have hR2:=(hR.same s1).same s2;refine⟨_,U,_,U,_,U,_,U,p,us,U,SqL.of hu12,λ pb hpb=>?_⟩;rw[TC us h h2];have eb:us.drop h=(us.drop h).take us.length:=by rw[W8];simp
  rw[eb];generalize hgH3:AD _ pb _=H3;revert H3;refine BE hpb λ H3 s3 e3=>?_
  have hB:=hR2.part s3 hu12 h us.length e3;rw[W8 (by rw[cX];omega)] at hB;refine⟨day,pb,R.drop h,U,hB,by rw[cX];omega,by rw[cX];omega,hd,λ w hw=>hW w (List.mem_of_mem_drop hw),λ lb Rb H4 s4 fb hb hbl ckb btb=>?_⟩;have s34:=s3.trans s4;rw[GV] at hal;rw[cX] at hbl;refine⟨day,la,lb,Ra,Rb,U,ha.same s34,hb,⋯,⋯,cka,ckb,λ l R' H5 s5 fl hR' hl' ck' bt'=>?_⟩;have s05:=((s1.trans s2).trans s34).trans s5;have eb:∀t,Ma.bt day R' t=Ma.bt day R t:=λ t=>by rw[bt',bta,btb,<- Ma.bt_append,List.take_append_drop]
  exact q l R' H5 s05 (((s1.trans s2).trans s34).free fl) hR' (Ma.ck_len ck' hW eb) ck' eb
inductive spClockOf(vs:List V)(H:Hp)(Q:VK)(z3q:XK):Prop
 |mk (day:Int) (p:Addr) (R:List T3):vs=[.int day,.ref p]->LA AQ H p R->R.length<=1000->0<day->Ma.Wins day R->(∀(l:Addr)(R':List T3)(H':Hp),Same H H'->H l=none->LA AQ H' l R'->R'.length<=2*R.length+1->Ma.CK day R'->(∀t,Ma.bt day R' t=Ma.bt day R t)->Q (.ref l) H')->spClockOf vs H Q z3q
theorem tV(F:Fun K "clock_of" "clock_of" YO f fd)(Cr0:Callee P w K mg base n "is_board" ["day","thing"] spBoard)(Ce0:Callee P w K mg base n "clock_within" ["day","board"] (spWithin 10)):FnOk P w K mg base B5 (n+1) f fd ["day","board"] spClockOf:=by
 refine F.okQ vI ?_ ?_;walk_at "o";obtain⟨day,p,R,rfl,hR,hl,hd,hW,q⟩:=h;refine⟨_,(A9 (AE (EF (CD (AB Cr0 hr U (A4 (qv 0) (A4 (qv 1) A5))))) (AA K9) AY) (AA (AF (AB Ce0 hr U (A4 (qv 0) (A4 (qv 1) A5)))))),?_⟩;walk_at "d";refine⟨_,U,_,U,day,.ref p,U,k9 hR hl,λ H1 s1=>?_⟩;rw[mJ hR hW];refine⟨_,U,BB ?_⟩;exact⟨_,U,_,U,day,p,R,U,hR.same s1,(by show R.length<=1024;omega),⋯,hd,hW,λ l R' H2 s2 fl h1 h2 h3 h4=>q l R' H2 (s1.trans s2) (s1.free fl) h1 h2 h3 h4⟩
theorem cI(F:Fun K "_law_cell_at" "_law_cell_at" YG f fd)(B:Bl mg):FnOk P w K mg base B5 (n+1) f fd ["script","k"] (spCell K):=by
 refine F.okQ yQ ?_ ?_;walk_at "o";obtain⟨a,ns,k,rfl,hS,h0,q⟩:=h;refine⟨_,(A9 (AE (AX F7 (qv 1) (AL CN U B.len C5 (A4 (qv 0) A5)) (AS _)) (AA (AF (A8 AM (qv 0) (qv 1) Y9))) AY) (AA (AF A6))),?_⟩;walk_at "d";have hl:(ns.map V.int).length=ns.length:=BY _;refine⟨_,U,_,U,a,_,U,.inl hS,_,_,U,U,_,U,?_⟩;refine AZ (λ c=>?_) (λ c=>?_)
 ·have c':k<(((ns.map V.int).length:Nat):Int):=D6 c;rw[hl] at c';obtain⟨v,hv⟩:=VE (ns:=ns) h0 ⋯;exact⟨_,U,_,U,a,_,_,_,U,U,hS,hv,q v⟩
 ·exact q 0
inductive spStay(vs:List V)(H:Hp)(Q:VK)(z3q:XK):Prop
 |mk (cell room:Int):vs=[.int cell,.int room]->0<room->(∀s:Int,0<=s->s<room->Q (.int s) H)->spStay vs H Q z3q
theorem qN{a c e f j:Int}{ok:Int->Prop}(ha:ok a)(hb:ok b)(hc:ok c)(hd:ok d)(he:ok e)(hf:ok f)(hg:ok g)(h0:0<=j)(h1:j<7):∃v:Int,DK [V.int a,V.int b,V.int c,V.int d,V.int e,V.int f,V.int g] j=some (.int v)/\ok v:=by
 rcases(by omega:j=0\/j=1\/j=2\/j=3\/j=4\/j=5\/j=6) with rfl|rfl|rfl|rfl|rfl|rfl|rfl
 ·exact⟨a,U,ha⟩
 ·exact⟨b,U,hb⟩
 ·exact⟨c,U,hc⟩
 ·exact⟨d,U,hd⟩
 ·exact⟨e,U,he⟩
 ·exact⟨f,U,hf⟩
 ·exact⟨g,U,hg⟩
theorem X5(F:Fun K "_law_day" "_law_day" cT f fd):FnOk P w K mg base B5 (n+1) f fd ["cell"] spDay:=by
 refine F.okQ yA ?_ ?_;walk_at "o";obtain⟨c,rfl,q⟩:=h;refine⟨_,(A9 (AE (AX CS (A7 BR (qv 0) A6) A6 (AS _)) (AA (AF (A7 B7 A6 (A7 BR (A7 E8 (qv 0) A6) (A7 L9 A6 A6))))) AY) (AA (AF (A8 AM (D0 (A4 A6 (A4 A6 (A4 A6 (A4 A6 (A4 A6 (A4 (A7 B7 (A7 L9 A6 A6) A6) (A4 (A7 L9 A6 A6) A5)))))))) (A7 BR (qv 0) A6) Y9)))),?_⟩;walk_at "d";refine⟨_,U,_,_,U,U,(by show(0:Int)<8;decide),U,_,U,?_⟩;have em:=EG c (show(0:Int)<8 by decide);refine AZ (λ z=>?_) (λ z=>?_)
 ·refine⟨_,U,_,_,U,U,⟨by decide,by decide⟩,_,_,U,U,⟨by decide,by decide,by decide⟩,_,_,U,U,(by show(0:Int)<10 ^ (15:Int).toNat;rw[HJ];decide),_,_,U,U,?_⟩;have e15:=EG (c/8) (show(0:Int)<10 ^ (15:Int).toNat by rw[HJ];decide);have e16:=e15.2;rw[HJ] at e16;refine q _ H ⋯ ?_ (Same.refl H);have:c/8%10 ^ (15:Int).toNat<1000000000000000:=by
   have:=e15.2;generalize c/8%10 ^ (15:Int).toNat=u at *;rw[HJ] at this;exact this
  omega
 ·have z':¬c%8=7:=λ y=>z (CB (by show V.int (c%8)=V.int 7;rw[y]))
  refine⟨_,_,U,U,⟨by decide,by decide,by decide⟩,_,_,U,U,_,_,U,U,⟨by decide,by decide,by decide⟩,Bt,λ p hp=>?_⟩;generalize hgH1:AD _ p _=H1;revert H1;refine BE hp λ H1 s1 e1=>?_
  obtain⟨v,hv,v1,v2⟩:=qN (ok:=λ v=>1<=v/\v<=1000000000000000) (a:=1) (b:=2) (c:=24) (d:=12) (e:=1440) (f:=10 ^ (9:Int).toNat+7) (g:=10 ^ (15:Int).toNat) (j:=c%8) (by decide) (by decide) (by decide) (by decide) (by decide) (by decide +kernel) (by decide +kernel) em.1 ⋯;exact⟨_,U,_,_,U,U,(by show(0:Int)<8;decide),p,_,_,.int v,U,U,SqL.of e1,hv,q v H1 v1 v2 s1⟩
theorem WC(F:Fun K "_law_stay" "_law_stay" bU f fd)(B:Bl mg):FnOk P w K mg base B5 (n+1) f fd ["cell","room"] spStay:=by
 refine F.okQ tR ?_ ?_;walk_at "o";obtain⟨c,room,rfl,r0,q⟩:=h;refine⟨_,(A9 (AE (AX CS (A7 BR (qv 0) A6) A6 (AS _)) (AA (AF A6)) AY) (A9 (AE (AX CS (A7 BR (qv 0) A6) A6 (AS _)) (AA (AF (A7 BR (A7 E8 (qv 0) A6) (AL (K1 U) U B.min bt_min (A4 A6 (A4 (qv 1) A5)))))) AY) (AA (AF (A7 BR (A7 E8 (qv 0) A6) (qv 1)))))),?_⟩;walk_at "d";refine⟨_,U,_,_,U,U,(by show(0:Int)<3;decide),U,_,U,?_⟩;refine AZ (λ z=>q 0 (DY _) r0) (λ z=>?_);refine⟨_,U,_,_,U,U,(by show(0:Int)<3;decide),U,_,U,?_⟩;refine AZ (λ z=>?_) (λ z=>?_)
 ·have m0:(0:Int)<(if room<4 then room else 4):=by split<;>omega
  have em:=EG (c/3) m0;refine⟨_,U,_,_,U,U,⟨by decide,by decide⟩,_,U,_,_,U,_,_,U,U,m0,q _ em.1 ?_⟩;have:(if room<4 then room else 4)<=room:=by split<;>omega
  show c/3%(if room<4 then room else 4)<room;omega
 ·have em:=EG (c/3) r0;exact⟨_,U,_,_,U,U,⟨by decide,by decide⟩,_,U,_,_,U,U,r0,q _ em.1 em.2⟩
inductive spNext(vs:List V)(H:Hp)(Q:VK)(z3q:XK):Prop
 |mk (day:Int) (r:Addr) (a b c t:Int):vs=[.int day,.ref r,.int t]->0<day->pV H r a b c->Q (.int (Ma.nextO day a b t)) H->spNext vs H Q z3q
inductive spLast(vs:List V)(H:Hp)(Q:VK)(z3q:XK):Prop
 |mk (day:Int) (r:Addr) (a b c t:Int):vs=[.int day,.ref r,.int t]->0<day->pV H r a b c->Q (.int (Ma.lastO day a b t)) H->spLast vs H Q z3q
theorem X2(F:Fun K "next_open" "next_open" WL f fd)(B:Bl mg):FnOk P w K mg base B5 (n+1) f fd ["day","window","t"] spNext:=by
 refine F.okQ EL ?_ ?_;walk_at "o";obtain⟨day,r,a,b,c,t,rfl,hd,hw,q⟩:=h;refine⟨_,(A9 (AC (i:=3) EL.nd U (AH U) (A7 BR (qv 2) (qv 0))) (A9 (AC (i:=4) EL.nd U (AH U) (A7 D5 (qv 2) (qv 3))) (A9 (AE (AX JF (qv 3) (A8 AU (qv 1) A6 Y9) (AS _)) (AA (AF (A7 B7 (A7 B7 (qv 4) (qv 0)) (A8 AU (qv 1) A6 Y9)))) AY) (AA (AF (A7 B7 (qv 4) (AL (gR U) U B.max J3 (A4 (qv 3) (A4 (A8 AU (qv 1) A6 Y9) A5))))))))),?_⟩;walk_at "d";refine⟨_,U,_,U,_,_,U,U,hd,?_⟩;refine⟨_,U,_,U,_,_,U,U,?_⟩;refine⟨_,U,_,U,r,_,_,_,U,U,SqT.of hw,U,_,_,U,U,_,U,?_⟩;unfold Ma.nextO at q;refine AZ (λ c1=>?_) (λ c1=>?_)
 ·rw[if_pos (D6 c1)] at q;exact⟨_,U,_,U,_,_,U,U,_,U,r,_,_,_,U,U,SqT.of hw,U,_,_,U,U,q⟩
 ·rw[if_neg (λ z=>c1 (CB z))] at q;exact⟨_,U,_,U,_,U,r,_,_,_,U,U,SqT.of hw,U,_,_,U,_,_,U,U,q⟩
theorem X4(F:Fun K "last_open" "last_open" cN f fd)(B:Bl mg):FnOk P w K mg base B5 (n+1) f fd ["day","window","t"] spLast:=by
 refine F.okQ EI ?_ ?_;walk_at "o";obtain⟨day,r,a,b,c,t,rfl,hd,hw,q⟩:=h;refine⟨_,(A9 (AC (i:=3) EI.nd U (AH U) (A7 BR (qv 2) (qv 0))) (A9 (AC (i:=4) EI.nd U (AH U) (A7 D5 (qv 2) (qv 3))) (A9 (AE (AX F7 (qv 3) (A8 AU (qv 1) A6 Y9) (AS _)) (AA (AF (A7 B7 (A7 D5 (qv 4) (qv 0)) (A8 AU (qv 1) A6 Y9)))) AY) (AA (AF (A7 B7 (qv 4) (AL (K1 U) U B.min bt_min (A4 (qv 3) (A4 (A8 AU (qv 1) A6 Y9) A5))))))))),?_⟩;walk_at "d";refine⟨_,U,_,U,_,_,U,U,hd,?_⟩;refine⟨_,U,_,U,_,_,U,U,?_⟩;refine⟨_,U,_,U,r,_,_,_,U,U,SqT.of hw,U,_,_,U,U,_,U,?_⟩;unfold Ma.lastO at q;refine AZ (λ c1=>?_) (λ c1=>?_)
 ·rw[if_pos (D6 c1)] at q;exact⟨_,U,_,U,_,_,U,U,_,U,r,_,_,_,U,U,SqT.of hw,U,_,_,U,U,q⟩
 ·rw[if_neg (λ z=>c1 (CB z))] at q;exact⟨_,U,_,U,_,U,r,_,_,_,U,U,SqT.of hw,U,_,_,U,_,_,U,U,q⟩
theorem RowsAt.sameT{P:Addr}(h:RowsAt H p R)(s:SameT P H H')(t:TabOk H P pos qual):RowsAt H' p R:=h.mono λ b o e n=>s b o e λ z=>by
 obtain⟨ps,hp,_⟩:=t;rw[z,hp] at e;exact n ps (Option.some.inj e).symm
def fT(p:T3->Bool)(R:List T3)(i:Nat):Bool:=p (rA R i,rB R i,rC R i)
inductive spLam(p:T3->Bool)(c':Addr)(qual:Str)(vs:List V)(H:Hp)(Q:VK)(z3q:XK):Prop
 |mk (r:Addr) (t:T3):vs=[.ref r]->H c'=some (.ext (CW c' qual))->H r=some (.tup [.int t.1,.int t.2.1,.int t.2.2])->Q (.bl (p t)) H->spLam p c' qual vs H Q z3q
inductive spFW(p:T3->Bool)(fl c':Addr)(qual:Str)(vs:List V)(H:Hp)(Q:VK)(z3q:XK):Prop
 |mk (pc:Addr) (R:List T3):vs=[.ref pc,.ref fl]->H c'=some (.ext (CW c' qual))->RowsAt H pc R->((∀i j,i<j->j<R.length->fT p R i=true->fT p R j=true))->(∀m:Nat,m<=R.length->(∀i,i<m->fT p R i=false)->(m<R.length->fT p R m=true)->Q (.int m) H)->spFW p fl c' qual vs H Q z3q
theorem qD{p:T3->Bool}(F:Fun K "first_where" "first_where" GU f fd)(B:Bl mg)(G:FnOk P w K mg base B5 n fl fdl ["window"] (spLam p c' qual))(bG:Binds K fdl ["window"] [])(ho:W.FnAt fl base) :
  FnOk P w K mg base B5 (n+1) f fd ["clock","holds"] (spFW p fl c' qual):=by
 refine F.okQ AR ?_ ?_;walk_at "o";obtain⟨pc,R,rfl,hc,hR,hmono,q⟩:=h;refine⟨_,(A9 (AC (i:=2) AR.nd U (AH U) A6) (A9 (AC (i:=3) AR.nd U (AH U) (AL CN U B.len C5 (A4 (qv 0) A5))) (A9 (SF PassesOwn.never (AX F7 (qv 2) (qv 3) (AS _)) (A9 (AC (i:=4) AR.nd U (AH U) (A7 E8 (A7 B7 (qv 2) (qv 3)) A6)) (AA (AE (CD ⟨KJ 1 G hr bG ho (A4 (A8 AM (qv 0) (qv 4) Y9) A5).run⟩) (AA (AC (i:=3) AR.nd U (AH U) (qv 4))) (AA (AC (i:=2) AR.nd U (AH U) (A7 B7 (qv 4) A6))))))) (AA (AF (qv 2)))))),?_⟩;walk_at "d";obtain⟨xs,hS,hlen,hat⟩:=hR.at (K:=K);refine⟨_,U,pc,_,U,.inl hS,?_⟩;refine U1 (λ σ H'=>H'=H/\∃(lo hi:Nat)(v:Option V),σ=[some (.ref pc),some (.ref fl),some (.int lo),some (.int hi),v]/\lo<=hi/\hi<=R.length/\(∀i,i<lo->fT p R i=false)/\(∀i,hi<=i->i<R.length->fT p R i=true))
  (λ σ _=>match σ with | [_,_,some (.int l),some (.int h),_]=>(h-l).toNat|_=>0) ⟨rfl,0,R.length,none,by rw[hlen];rfl,HV _,BU _,λ i hi=>absurd hi (rP _),λ i h1 h2=>absurd h2 (VX.mpr h1)⟩ ?_ ?_
 ·intro σ H' z9;obtain⟨rfl,lo,hi,v,rfl,l1,l2,l3,l4⟩ := z9;refine⟨_,U,_,U,_,_,U,U,_,U,?_⟩;refine AZ (λ c1=>?_) (λ c1=>?_)
  ·have c2:(lo:Int)<(hi:Int):=D6 c1;refine⟨_,U,_,U,_,_,U,U,_,_,U,U,⟨by decide,by decide⟩,?_⟩;have m1:(lo:Int)<=((lo:Int)+hi)/2:=⋯;have m2:((lo:Int)+hi)/2<(hi:Int):=⋯;obtain⟨r,ha,hr'⟩:=hat (((lo:Int)+hi)/2) ⋯ ⋯;refine⟨U,_,U,_,U,pc,_,_,_,U,U,hS,ha,r,(rA R (((lo:Int)+hi)/2).toNat,rB R (((lo:Int)+hi)/2).toNat,rC R (((lo:Int)+hi)/2).toNat),U,hc,hr',_,U,?_⟩;refine AZ (λ c3=>?_) (λ c3=>?_)
   ·refine⟨_,U,⟨U,lo,(((lo:Int)+hi)/2).toNat,some (.int (((lo:Int)+hi)/2)),?_,⋯,⋯,l3,λ i h1 h2=>?_⟩,?_⟩
    ·show _=([some (.ref pc),some (.ref fl),some (.int lo),some (.int (((((lo:Int)+hi)/2).toNat:Nat):Int)),some (.int (((lo:Int)+hi)/2))]:List (Option V))
     rw[show(((((lo:Int)+hi)/2).toNat:Nat):Int)=(((lo:Int)+hi)/2) by omega];rfl
    ·rcases(by omega:i=(((lo:Int)+hi)/2).toNat\/(((lo:Int)+hi)/2).toNat<i) with e|e
     ·rw[e];exact c3
     ·exact hmono _ _ e h2 c3
    ·show((((lo:Int)+hi)/2)-(lo:Int)).toNat<((hi:Int)-(lo:Int)).toNat;omega
   ·refine⟨_,U,_,_,U,U,⟨U,(((lo:Int)+hi)/2).toNat+1,hi,some (.int (((lo:Int)+hi)/2)),?_,⋯,l2,λ i h1=>?_,l4⟩,?_⟩
    ·show _=([some (.ref pc),some (.ref fl),some (.int (((((lo:Int)+hi)/2).toNat+1:Nat):Int)),some (.int hi),some (.int (((lo:Int)+hi)/2))]:List (Option V))
     rw[show(((((lo:Int)+hi)/2).toNat+1:Nat):Int)=(((lo:Int)+hi)/2)+1 by omega];rfl
    ·have c4:fT p R (((lo:Int)+hi)/2).toNat=false:=TJ.mpr c3;rcases(by omega:i=(((lo:Int)+hi)/2).toNat\/i<(((lo:Int)+hi)/2).toNat) with e|e
     ·rw[e];exact c4
     ·refine TJ.mpr λ z=>?_
      have:=hmono _ _ e ⋯ z;rw[c4] at this;cases this
    ·show((hi:Int)-((((lo:Int)+hi)/2)+1)).toNat<((hi:Int)-(lo:Int)).toNat;omega
  ·have c2:¬(lo:Int)<(hi:Int):=λ z=>c1 (CB z)
   have e:lo=hi:=⋯;subst e;exact⟨_,U,q lo l2 l3 λ h=>l4 lo (BU _) h⟩
 ·intro σ H' Q1 Q2 hq z9;obtain⟨v,e1,v',e2,i,j,e3,e4,k,e5,q1⟩ := z9;exact⟨v,e1,v',e2,i,j,e3,e4,k,e5,hq _ _ q1⟩
end
def AW(x:Str):Str:=(x++".<locals>.")++"<lambda>"
def UL:Stmt->Expr
 | .Assign _ (.Call _ [_,l] _ _) _=>l
 |_=>.Constant .none 0 ⟨0,0,0,0⟩
def ET:Expr->Scope
 | .Lambda _ _ sc _=>sc
 |_=>{ kind:=.function,names:=[],isGenerator:=false,isCoroutine:=false }
def ZC:Expr->Expr
 | .Lambda _ b _ _=>b
 |e=>e
def YF:Expr->Arguments
 | .Lambda a _ _ _=>a
 |_=>{ posonlyargs:=[],args:=[],vararg:=none,kwonlyargs:=[],kw_defaults:=[],kwarg:=none,defaults:=[] }
theorem HY{c:Addr}(z:Str)(d:Addr)(e:([(y,c)]:List (Str×Addr)).lookup z=some d):z=y/\d=c:=by
 rw[dW] at e;cases h:z==y with
 |true=>rw[h] at e;cases e;exact⟨eq_of_beq h,rfl⟩
 |false=>rw[h] at e;cases e
theorem gF{a b:Str}{c:Addr}(h:([(a,NameKind.local),(b,NameKind.free)]:List (Str×NameKind)).lookup x=some .free):∃d,([(b,c)]:List (Str×Addr)).lookup x=some d:=by
 rw[dW] at h;cases h1:x==a with
 |true=>rw[h1] at h;cases h
 |false =>
  rw[h1] at h;have h':([(b,NameKind.free)]:List (Str×NameKind)).lookup x=some .free:=h;rw[dW] at h';cases h2:x==b with
  |true=>exact⟨c,by rw[dW,h2]⟩
  |false=>rw[h2] at h';cases h'
inductive spSetOff(P0:Addr)(pos:Pos)(vs:List V)(H:Hp)(Q:VK)(z3q:XK):Prop
 |mk (day:Int) (pc:Addr) (t:Int) (R:List T3):vs=[.int day,.ref pc,.int t]->RowsAt H pc R->TabOk H P0 pos (AW "set_off")->Ma.Clk day R.length (rA R) (rB R) (rC R)->((R.length=0->Q .non H))->((R.length≠0->∀(x y:Int)(r:Addr)(H':Hp),Ma.First day R.length (rA R) (rB R) (rC R) t x y->SameT P0 H H'->TabOk H' P0 pos (AW "set_off")->H' r=some (.tup [.int x,.int y])->Q (.ref r) H'))->spSetOff P0 pos vs H Q z3q
inductive spCome(P0:Addr)(pos:Pos)(vs:List V)(H:Hp)(Q:VK)(z3q:XK):Prop
 |mk (day:Int) (pc:Addr) (t:Int) (R:List T3):vs=[.int day,.ref pc,.int t]->RowsAt H pc R->TabOk H P0 pos (AW "set_off")->Ma.Clk day R.length (rA R) (rB R) (rC R)->((R.length=0->Q .non H))->((R.length≠0->∀(x y:Int)(H':Hp),Ma.First day R.length (rA R) (rB R) (rC R) t x y->SameT P0 H H'->TabOk H' P0 pos (AW "set_off")->Q (.int y) H'))->spCome P0 pos vs H Q z3q
theorem TabOk.same{P:Addr}{q:Str}(t:TabOk H P pos q)(a:Same H H1):TabOk H1 P pos q:=by
 obtain⟨ps,h1,h2,h3⟩:=t;refine⟨ps,a _ _ h1,h2,?_⟩;rcases h3 with h3|⟨c,h3,h4⟩
 ·exact .inl h3
 ·exact .inr ⟨c,h3,a _ _ h4⟩
abbrev SY:Expr:=UL ((C7 HG).getD 2 (.Pass ⟨0,0,0,0⟩))
theorem cO(c:Addr):LamScope ["window","hour"] ["window"] (ET SY) [("hour",c)]:=⟨rfl,rfl,rfl,by decide,rfl,by decide +kernel,by decide +kernel,λ _ h=>gF h,λ x y d h1 h2=>(HY x d h1).1.trans (HY y d h2).1.symm⟩
def uJ(v:V)(fl c':Addr):Sp:=match v with
 | .int hour=>spFW (λ t=>decide (hour<=t.2.1)) fl c' (AW "set_off")
 |_=>λ _ _ _ _=>False
section
variable {f g:Addr}
theorem DV{ps:List Str}{f:Addr}:FnOk P w K mg base B5 k f fd ps (λ _ _ _ _=>False):=⟨λ _ _ _ _ h=>h.elim,λ _ _ _ _ _ _ _ _ _ _ _ _ _ h=>h.elim⟩
theorem Z3(FW:Fun K "first_where" "first_where" GU g gd)(B:Bl mg)
  (hfl:base.get? fl=some (W.kla_obj "<lambda>" (AW "set_off") (YF SY) (ZC SY) (ET SY) [("hour",cy)] pm c' ctv)) (hca:JI base (ET SY) [("hour",cy)] ["window","hour"] ["window"] [v]) :
  FnOk P w K mg base B5 2 g gd ["clock","holds"] (uJ v fl c'):=by
 cases v with
 |int hour =>
  refine qD (n:=1) FW B (IY (k:=0) (N:=["window","hour"]) (cs:=[.int hour]) hfl (λ vs H Q E h=>?_) (cO cy) hca (λ vs H Q E h=>?_) (λ A outer s H vs Q E hr h=>?_)) (Binds.all λ us hl=>match us,hl with | [_],_=>rfl) ⟨_,_,_,_,hfl⟩
  ·obtain⟨_,_,_,h,_⟩:=h;exact h
  ·obtain⟨_,_,rfl,_⟩:=h;rfl
  ·obtain⟨r,t,rfl,hc,hr',q⟩:=h;refine⟨_,ZZ SX (pv 1) (JN RU (pv 0) RJ Y9) (AS _),?_⟩;exact⟨_,U,_,U,r,_,_,_,U,U,SqT.of hr',U,_,_,U,U,q⟩
 |non=>exact DV
 |bl b=>exact DV
 |str x=>exact DV
 |byt b=>exact DV
 |flt b=>exact DV
 |ref a=>exact DV
 |ty n=>exact DV
theorem K0{A B C:Nat->Int}(h:Ma.Clk d n A B C):0<d:=h.d0
theorem vT{c:Addr}{kV:Value}(lk:K.lookup f=some ⟨oc,od,.func (W.fnOf "set_off" "set_off" (D7 HG) (C7 HG) (AG HG) .none kV doc pm an (.ref c) ct),osl⟩)(hcd:W.codeIn K (.ref c) "set_off"=true)
  (B:Bl mg) (hC:W.CodeHd base c P0) (hB:ES mg base) (FW:Fun K "first_where" "first_where" GU g gd) (bW:Binds K gd ["clock","holds"] []) (mW:mg "first_where"=some (.ref g)) (Cg1:Callee P w K mg base 2 "next_open" ["day","window","t"] spNext) :
  FnOk P w K mg base B5 3 f (W.fnOf "set_off" "set_off" (D7 HG) (C7 HG) (AG HG) .none kV doc pm an (.ref c) ct) ["day","clock","t"] (spSetOff P0 ⟨77,32,77,64⟩):=by
 refine IQ lk hcd DM (λ vs H Q E h=>?_) (λ A outer s H vs Q E hr h=>?_)
 ·obtain⟨_,_,_,_,rfl,_⟩:=h;rfl
 obtain⟨day,pc,t,R,rfl,hR,tab,hK,q0,q1⟩:=h;refine⟨_,PSs.nox (QSs.run (A9 (AE (AX CS (AL CN rfl B.len C5 (A4 (qv 1) A5)) A6 (AS _)) (AA (AF DE)) AY) (A9 (AC (i:=3) DM.nd rfl (IH rfl) (A7 BR (qv 2) (qv 0))) (A9 (AC (i:=4) DM.nd rfl (AH rfl) ⟨gT (N:=["window","hour"]) (ps:=["window"]) 3 hr rfl mW FW.kp bW rfl rfl hC hB rfl rfl rfl (IH (AH rfl)) rfl rfl rfl HY rfl rfl (pv 1) (λ base' fl c' v pm ctv hfl hca=>Z3 FW B hfl hca)⟩) (A9 (AC (i:=5) DM.nd rfl (AH rfl) (A8 AM (qv 1) (A7 BR (qv 4) (AL CN rfl B.len C5 (A4 (qv 1) A5))) Y9)) (A9 (AC (i:=6) DM.nd rfl (AH rfl) (AB Cg1 hr rfl (A4 (qv 0) (A4 (qv 5) (A4 (qv 2) A5))))) (AA (AF (D4 (A4 (qv 6) (A4 (A7 B7 (qv 6) (A8 AU (qv 5) A6 Y9)) A5))))))))))),?_⟩;walk_at "d";obtain⟨xs,hS,hlen,hat⟩:=hR.at (K:=K);refine⟨_,U,pc,_,U,.inl hS,U,_,U,?_⟩;refine AZ (λ c1=>?_) (λ c1=>?_)
 ·have c2:V.int ((xs.length:Nat):Int)=V.int 0:=D6 c1;injection c2 with c3
  exact q0 ⋯
 have n0:R.length≠0:=λ z=>c1 (CB (by rw[hlen,z];rfl))
 refine⟨_,U,_,U,_,_,U,U,K0 hK,?_⟩;refine⟨_,U,_,U,tab,λ fl c' H2 sm tb hc'=>?_⟩;refine⟨pc,R,U,hc',hR.sameT sm tab,λ i j hij hj hp=>?_,λ m m1 m2 m3=>?_⟩
 ·have a1:=D6 hp;have:=hK.lt i j hij hj;have:=hK.ab j hj;exact CB (by show t%day<=rB R j;have a2:t%day<=rB R i:=a1;omega)
 have hR2:=hR.sameT sm tab;obtain⟨xs2,hS2,hlen2,hat2⟩:=hR2.at (K:=K);have hm:((m:Int)%((xs2.length:Nat):Int))=((m%R.length:Nat):Int):=by rw[hlen2];rfl
 have hml:m%R.length<R.length:=uW _ ⋯;obtain⟨r,ha,hr'⟩:=hat2 ((m%R.length:Nat):Int) (Int.natCast_nonneg _) ⋯;refine⟨_,U,_,U,_,U,pc,_,U,.inl hS2,_,_,U,U,(by show 0<((xs2.length:Nat):Int);omega),pc,_,_,.ref r,U,U,hS2,by rw[hm];exact ha,?_⟩;refine⟨_,U,_,U,_,U,day,r,_,_,_,t,U,hK.d0,hr',?_⟩;refine⟨_,U,_,U,_,U,r,_,_,_,U,U,SqT.of hr',U,_,_,U,U,iI,λ r2 hr2=>?_⟩;refine q1 n0 _ _ r2 _ (Ma.first_of hK ⋯ m1 (λ i hi=>?_) (λ hi=>?_) (i:=m%R.length) rfl) (SameT.trans sm (SameT.same (BD hr2 _))) (TabOk.same tb (BD hr2 _)) AI
 ·have z:=m2 i hi;exact of_decide_eq_false z
 ·exact D6 (m3 hi)
theorem ZG(F:Fun K "come" "come" Y5 f fd)(Cy1:Callee P w K mg base n "set_off" ["day","clock","t"] (spSetOff P0 pos)):FnOk P w K mg base B5 (n+1) f fd ["day","clock","t"] (spCome P0 pos):=by
 refine F.okQ LQ ?_ ?_;walk_at "o";obtain⟨day,pc,t,R,rfl,hR,tab,hK,q0,q1⟩:=h;refine⟨_,(A9 (AC (i:=3) LQ.nd U (AH U) (AB Cy1 hr U (A4 (qv 0) (A4 (qv 1) (A4 (qv 2) A5))))) (A9 (AE (EN (qv 3)) (AA (AF DE)) AY) (AA (AF (A8 AU (qv 3) A6 Y9))))),?_⟩;walk_at "d";refine⟨_,U,_,U,_,U,day,pc,t,R,U,hR,tab,hK,λ e0=>?_,λ n0 x y r H' hF sm tb hr'=>?_⟩
 ·refine⟨_,U,_,U,D2 (CB rfl) (q0 e0)⟩
 ·refine⟨_,U,_,U,CU (by simp) ?_⟩;exact⟨_,U,r,_,_,_,U,U,SqT.of hr',U,q1 n0 x y H' hF sm tb⟩
inductive spLeave(P0:Addr)(pos:Pos)(vs:List V)(H:Hp)(Q:VK)(z3q:XK):Prop
 |mk (day:Int) (pc:Addr) (t:Int) (R:List T3):vs=[.int day,.ref pc,.int t]->RowsAt H pc R->TabOk H P0 pos (AW "leave")->Ma.Clk day R.length (rA R) (rB R) (rC R)->((R.length=0->Q .non H))->((R.length≠0->∀(x:Int)(H':Hp),Ma.Last day R.length (rA R) (rB R) (rC R) t x->SameT P0 H H'->TabOk H' P0 pos (AW "leave")->Q (.int x) H'))->spLeave P0 pos vs H Q z3q
abbrev RT:Expr:=UL ((C7 HQ).getD 3 (.Pass ⟨0,0,0,0⟩))
theorem XX(c:Addr):LamScope ["window","hour"] ["window"] (ET RT) [("hour",c)]:=⟨rfl,rfl,rfl,by decide,rfl,by decide +kernel,by decide +kernel,λ _ h=>gF h,λ x y d h1 h2=>(HY x d h1).1.trans (HY y d h2).1.symm⟩
def vY(v:V)(fl c':Addr):Sp:=match v with
 | .int hour=>spFW (λ t=>decide (hour<t.1+t.2.2)) fl c' (AW "leave")
 |_=>λ _ _ _ _=>False
theorem aJ(FW:Fun K "first_where" "first_where" GU g gd)(B:Bl mg)
  (hfl:base.get? fl=some (W.kla_obj "<lambda>" (AW "leave") (YF RT) (ZC RT) (ET RT) [("hour",cy)] pm c' ctv)) (hca:JI base (ET RT) [("hour",cy)] ["window","hour"] ["window"] [v]) :
  FnOk P w K mg base B5 2 g gd ["clock","holds"] (vY v fl c'):=by
 cases v with
 |int hour =>
  refine qD (n:=1) FW B (IY (k:=0) (N:=["window","hour"]) (cs:=[.int hour]) hfl (λ vs H Q E h=>?_) (XX cy) hca (λ vs H Q E h=>?_) (λ A outer s H vs Q E hr h=>?_)) (Binds.all λ us hl=>match us,hl with | [_],_=>rfl) ⟨_,_,_,_,hfl⟩
  ·obtain⟨_,_,_,h,_⟩:=h;exact h
  ·obtain⟨_,_,rfl,_⟩:=h;rfl
  ·obtain⟨r,t,rfl,hc,hr',q⟩:=h;refine⟨_,ZZ dY (pv 1) (dB S3 (JN RU (pv 0) RJ Y9) (JN RU (pv 0) RJ Y9)) (AS _),?_⟩;exact⟨_,U,_,U,r,_,_,_,U,U,SqT.of hr',U,_,U,r,_,_,_,U,U,SqT.of hr',U,_,_,U,U,_,_,U,U,q⟩
 |non=>exact DV
 |bl b=>exact DV
 |str x=>exact DV
 |byt b=>exact DV
 |flt b=>exact DV
 |ref a=>exact DV
 |ty n=>exact DV
theorem T9{c:Addr}{kV:Value}(lk:K.lookup f=some ⟨oc,od,.func (W.fnOf "leave" "leave" (D7 HQ) (C7 HQ) (AG HQ) .none kV doc pm an (.ref c) ct),osl⟩)(hcd:W.codeIn K (.ref c) "leave"=true)
  (B:Bl mg) (hC:W.CodeHd base c P0) (hB:ES mg base) (FW:Fun K "first_where" "first_where" GU g gd) (bW:Binds K gd ["clock","holds"] []) (mW:mg "first_where"=some (.ref g)) (Ch1:Callee P w K mg base 2 "last_open" ["day","window","t"] spLast) :
  FnOk P w K mg base B5 3 f (W.fnOf "leave" "leave" (D7 HQ) (C7 HQ) (AG HQ) .none kV doc pm an (.ref c) ct) ["day","clock","s"] (spLeave P0 ⟨91,32,91,75⟩):=by
 refine IQ lk hcd F5 (λ vs H Q E h=>?_) (λ A outer s H vs Q E hr h=>?_)
 ·obtain⟨_,_,_,_,rfl,_⟩:=h;rfl
 obtain⟨day,pc,t,R,rfl,hR,tab,hK,q0,q1⟩:=h;refine⟨_,PSs.nox (QSs.run (A9 (AE (AX CS (AL CN rfl B.len C5 (A4 (qv 1) A5)) A6 (AS _)) (AA (AF DE)) AY) (A9 (AC (i:=3) F5.nd rfl (AH rfl) (A7 B7 (A8 AU (A8 AM (qv 1) A6 Y9) A6 Y9) (A8 AU (A8 AM (qv 1) A6 Y9) A6 Y9))) (A9 (AC (i:=4) F5.nd rfl (IH rfl) (A7 B7 (qv 3) (A7 BR (A7 D5 (qv 2) (qv 3)) (qv 0)))) (A9 (AC (i:=5) F5.nd rfl (AH rfl) ⟨gT (N:=["window","hour"]) (ps:=["window"]) 4 hr rfl mW FW.kp bW rfl rfl hC hB rfl rfl rfl (IH (AH rfl)) rfl rfl rfl HY rfl rfl (pv 1) (λ base' fl c' v pm ctv hfl hca=>aJ FW B hfl hca)⟩) (A9 (AC (i:=6) F5.nd rfl (AH rfl) (A8 AM (qv 1) (A7 D5 (qv 5) A6) Y9)) (AA (AF (AB Ch1 hr rfl (A4 (qv 0) (A4 (qv 6) (A4 (A7 D5 (qv 2) (A8 AU (qv 6) A6 Y9)) A5)))))))))))),?_⟩;walk_at "d";obtain⟨xs,hS,hlen,hat⟩:=hR.at (K:=K);refine⟨_,U,pc,_,U,.inl hS,U,_,U,?_⟩;refine AZ (λ c1=>?_) (λ c1=>?_)
 ·have c2:V.int ((xs.length:Nat):Int)=V.int 0:=D6 c1;injection c2 with c3
  exact q0 ⋯
 have n0:R.length≠0:=λ z=>c1 (CB (by rw[hlen,z];rfl))
 obtain⟨r0,ha0,hr0⟩:=hat 0 ⋯ ⋯;refine⟨_,U,pc,_,_,_,U,U,hS,ha0,r0,_,_,_,U,U,SqT.of hr0,U,_,U,pc,_,_,_,U,U,hS,ha0,r0,_,_,_,U,U,SqT.of hr0,U,_,_,U,U,?_⟩;refine⟨_,U,_,U,_,U,_,_,U,U,_,U,_,_,U,U,K0 hK,_,_,U,U,?_⟩;refine⟨_,U,_,U,tab,λ fl c' H2 sm tb hc'=>?_⟩;refine⟨pc,R,U,hc',hR.sameT sm tab,λ i j hij hj hp=>?_,λ m m1 m2 m3=>?_⟩
 ·have a1:=D6 hp;have:=hK.yl i j hij hj;have:=hK.ab i ⋯;exact CB (by
   show rA R 0+rC R 0+(t-(rA R 0+rC R 0))%day<rA R j+rC R j;have a2:rA R 0+rC R 0+(t-(rA R 0+rC R 0))%day<rA R i+rC R i:=a1;omega)
 obtain⟨mp,hL⟩:=Ma.last_of hK (s:=t) ⋯ m1 (λ i hi=>of_decide_eq_false (m2 i hi)) (λ hi=>D6 (m3 hi));have hR2:=hR.sameT sm tab;obtain⟨xs2,hS2,hlen2,hat2⟩:=hR2.at (K:=K);obtain⟨r,ha,hr'⟩:=hat2 ((m:Int)-1) ⋯ ⋯;have e1:((m:Int)-1).toNat=m-1:=⋯;rw[e1] at hr';refine⟨_,U,_,U,_,_,U,U,pc,_,_,.ref r,U,U,hS2,ha,?_⟩;refine⟨_,U,_,U,_,U,_,U,r,_,_,_,U,U,SqT.of hr',U,_,_,U,U,day,r,_,_,_,_,U,K0 hK,hr',?_⟩;exact q1 n0 _ _ hL sm tb
end
theorem gA{P:Addr}{q:Str}{ys:List V}(t:TabOk H P pos q)(e:H p=some (.lst xs)):TabOk (AD H p (.lst ys)) P pos q:=by
 obtain⟨ps,h1,h2,h3⟩:=t;refine⟨ps,by rw[AJ (λ z=>by rw[z,e] at h1;cases h1)];exact h1,h2,?_⟩;rcases h3 with h3|⟨c,h3,h4⟩
 ·exact .inl h3
 ·exact .inr ⟨c,h3,by rw[AJ (λ z=>by rw[z,e] at h4;cases h4)];exact h4⟩
theorem IS(P:Addr)(pos:Pos)(q:Str):TB λ H=>TabOk H P pos q:=⟨λ _ _ t s=>TabOk.same t s,λ _ _ _ _ t e=>gA t e⟩
theorem TB.and{T':Hp->Prop}(h:TB T)(h':TB T'):TB λ H=>T H/\T' H:=⟨λ H H' t s=>⟨h.same H H' t.1 s,h'.same H H' t.2 s⟩,λ H p xs ys t e=>⟨h.wr H p xs ys t.1 e,h'.wr H p xs ys t.2 e⟩⟩
inductive spComeT(T:Hp->Prop)(vs:List V)(H:Hp)(Q:VK)(z3q:XK):Prop
 |mk (day:Int) (p:Addr) (t:Int) (R:List T3):vs=[.int day,.ref p,.int t]->LA AQ H p R->T H->Ma.CK day R->(∀H',SameU H H'->T H'->Q (B9 (Ma.bt day R t)) H')->spComeT T vs H Q z3q
theorem iL(C:Callee P w K mg base n "come" ["day","clock","t"] (spCome P0 pos))(h1:∀H,T H->TabOk H P0 pos (AW "set_off"))
  (h2:∀H H',T H->SameT P0 H H'->TabOk H' P0 pos (AW "set_off")->T H'):Callee P w K mg base n "come" ["day","clock","t"] (spComeT T):=Callee.imp C λ vs H Q E h=>by
 obtain⟨day,p,t,R,rfl,hR,hT,ck,q⟩:=h;refine⟨day,p,t,R,U,hR.rows,h1 H hT,ck.clk,λ e=>?_,λ n0 x y H' hF sm tb=>?_⟩
 ·have e':=M6.mp e;subst e';exact q H (SameU.refl H) hT
 ·have:=q H' (SameU.tab sm (h1 H hT) tb) (h2 H H' hT sm tb);rw[Ma.first_bt ck.clk hF] at this;exact this
theorem GX{P:Addr}{pos0:Pos}{q q0:Str}(t:TabOk H P pos q)(t0:TabOk H P0 pos0 q0)(s:SameT P0 H H')(ne:P≠P0):TabOk H' P pos q:=by
 obtain⟨ps,h1,h2,h3⟩:=t;refine⟨ps,s _ _ h1 ne,h2,?_⟩;rcases h3 with h3|⟨c,h3,h4⟩
 ·exact .inl h3
 ·refine .inr ⟨c,h3,s _ _ h4 λ z=>?_⟩;obtain⟨ps0,g1,_⟩:=t0;rw[z,g1] at h4;cases h4
inductive spLamG{α:Type}(enc:α->List V)(p:α->Bool)(c':Addr)(qual:Str)(vs:List V)(H:Hp)(Q:VK)(z3q:XK):Prop
 |mk (r:Addr) (x:α):vs=[.ref r]->H c'=some (.ext (CW c' qual))->H r=some (.tup (enc x))->Q (.bl (p x)) H->spLamG enc p c' qual vs H Q z3q
inductive spFWG{α:Type}(enc:α->List V)(p:α->Bool)(fl c':Addr)(qual:Str)(vs:List V)(H:Hp)(Q:VK)(z3q:XK):Prop
 |mk (pc:Addr) (xs:List α):vs=[.ref pc,.ref fl]->H c'=some (.ext (CW c' qual))->LA enc H pc xs->((∀(i j:Nat) x y,i<j->xs[i]?=some x->xs[j]?=some y->p x=true->p y=true))->(∀m:Nat,m<=xs.length->(∀(i:Nat) x,i<m->xs[i]?=some x->p x=false)->(∀x,xs[m]?=some x->p x=true)->Q (.int m) H)->spFWG enc p fl c' qual vs H Q z3q
section
variable {f:Addr}
theorem tO{α:Type}{enc:α->List V}{p:α->Bool}{v0:Str}(F:Fun K "first_where" "first_where" GU f fd)(B:Bl mg)(G:FnOk P w K mg base B5 n fl fdl [v0] (spLamG enc p c' qual))(bG:Binds K fdl [v0] [])(ho:W.FnAt fl base) :
  FnOk P w K mg base B5 (n+1) f fd ["clock","holds"] (spFWG enc p fl c' qual):=by
 refine F.okQ AR ?_ ?_;walk_at "o";obtain⟨pc,xs,rfl,hc,hR,hmono,q⟩:=h;refine⟨_,(A9 (AC (i:=2) AR.nd U (AH U) A6) (A9 (AC (i:=3) AR.nd U (AH U) (AL CN U B.len C5 (A4 (qv 0) A5))) (A9 (SF PassesOwn.never (AX F7 (qv 2) (qv 3) (AS _)) (A9 (AC (i:=4) AR.nd U (AH U) (A7 E8 (A7 B7 (qv 2) (qv 3)) A6)) (AA (AE (CD ⟨KJ 1 G hr bG ho (A4 (A8 AM (qv 0) (qv 4) Y9) A5).run⟩) (AA (AC (i:=3) AR.nd U (AH U) (qv 4))) (AA (AC (i:=2) AR.nd U (AH U) (A7 B7 (qv 4) A6))))))) (AA (AF (qv 2)))))),?_⟩;walk_at "d";obtain⟨vs,hv,hlen,hat⟩:=hR.at (K:=K);refine⟨_,U,pc,_,U,.inl (SqL.of hv),?_⟩;refine U1 (λ σ H'=>H'=H/\∃(lo hi:Nat)(v:Option V),σ=[some (.ref pc),some (.ref fl),some (.int lo),some (.int hi),v]/\lo<=hi/\hi<=xs.length/\(∀(i:Nat) x,i<lo->xs[i]?=some x->p x=false)/\(∀(i:Nat) x,hi<=i->xs[i]?=some x->p x=true))
  (λ σ _=>match σ with | [_,_,some (.int l),some (.int h),_]=>(h-l).toNat|_=>0) ⟨rfl,0,xs.length,none,by rw[hlen];rfl,HV _,BU _,λ i x hi=>absurd hi (rP _),λ i x h1 h2=>absurd (CP.mp h2).1 (VX.mpr h1)⟩ ?_ ?_
 ·intro σ H' z9;obtain⟨rfl,lo,hi,v,rfl,l1,l2,l3,l4⟩ := z9;refine⟨_,U,_,U,_,_,U,U,_,U,?_⟩;refine AZ (λ c1=>?_) (λ c1=>?_)
  ·have c2:(lo:Int)<(hi:Int):=D6 c1;refine⟨_,U,_,U,_,_,U,U,_,_,U,U,⟨by decide,by decide⟩,?_⟩;have m1:(lo:Int)<=((lo:Int)+hi)/2:=⋯;have m2:((lo:Int)+hi)/2<(hi:Int):=⋯;have hk:(((lo:Int)+hi)/2).toNat<xs.length:=⋯;have ex:=BK hk;obtain⟨r,ha,hr'⟩:=hat _ _ ex;have ek:((((((lo:Int)+hi)/2).toNat:Nat)):Int)=((lo:Int)+hi)/2:=⋯;rw[ek] at ha;refine⟨U,_,U,_,U,pc,_,_,_,U,U,SqL.of hv,ha,r,_,U,hc,hr',_,U,?_⟩;refine AZ (λ c3=>?_) (λ c3=>?_)
   ·refine⟨_,U,⟨U,lo,(((lo:Int)+hi)/2).toNat,some (.int (((lo:Int)+hi)/2)),?_,⋯,⋯,l3,λ i x h1 h2=>?_⟩,?_⟩
    ·rw[ek];rfl
    ·rcases(by omega:i=(((lo:Int)+hi)/2).toNat\/(((lo:Int)+hi)/2).toNat<i) with e|e
     ·rw[e,ex] at h2;cases h2;exact c3
     ·exact hmono _ _ _ _ e ex h2 c3
    ·show((((lo:Int)+hi)/2)-(lo:Int)).toNat<((hi:Int)-(lo:Int)).toNat;omega
   ·refine⟨_,U,_,_,U,U,⟨U,(((lo:Int)+hi)/2).toNat+1,hi,some (.int (((lo:Int)+hi)/2)),?_,⋯,l2,λ i x h1 h2=>?_,l4⟩,?_⟩
    ·rw[show(((((lo:Int)+hi)/2).toNat+1:Nat):Int)=(((lo:Int)+hi)/2)+1 by omega];rfl
    ·have c4:p xs[(((lo:Int)+hi)/2).toNat]=false:=TJ.mpr c3;rcases(by omega:i=(((lo:Int)+hi)/2).toNat\/i<(((lo:Int)+hi)/2).toNat) with e|e
     ·rw[e,ex] at h2;cases h2;exact c4
     ·refine TJ.mpr λ z=>?_
      have:=hmono _ _ _ _ e h2 ex z;rw[c4] at this;cases this
    ·show((hi:Int)-((((lo:Int)+hi)/2)+1)).toNat<((hi:Int)-(lo:Int)).toNat;omega
  ·have c2:¬(lo:Int)<(hi:Int):=λ z=>c1 (CB z)
   have e:lo=hi:=⋯;subst e;exact⟨_,U,q lo l2 l3 λ x h=>l4 lo x (BU _) h⟩
 ·intro σ H' Q1 Q2 hq z9;obtain⟨v,e1,v',e2,i,j,e3,e4,k,e5,q1⟩ := z9;exact⟨v,e1,v',e2,i,j,e3,e4,k,e5,hq _ _ q1⟩
end
inductive spRidden(P0:Addr)(pos:Pos)(vs:List V)(H:Hp)(Q:VK)(z3q:XK):Prop
 |mk (day p qq ride:Int) (po:Addr) (S:List T4) (g:Int->Int):vs=[.int day,.int p,.int qq,.int ride,.ref po]->LA DF H po S->TabOk H P0 pos (AW "ridden")->S.length<=4000000->0<day->p<=qq->qq<p+day->Ma.Rise day g->Ma.Cov g 0 S day->(∀(l:Addr)(S':List T4)(H':Hp),SameT P0 H H'->TabOk H' P0 pos (AW "ridden")->H l=none->LA DF H' l S'->S'.length<=S.length+1->Ma.Cov (λ x=>g (x+ride)) p S' (qq+1)->Q (.ref l) H')->spRidden P0 pos vs H Q z3q
abbrev U6:Expr:=UL ((C7 HM).getD 2 (.Pass ⟨0,0,0,0⟩))
theorem cJ(c:Addr):LamScope ["row","hour"] ["row"] (ET U6) [("hour",c)]:=⟨rfl,rfl,rfl,by decide,rfl,by decide +kernel,by decide +kernel,λ _ h=>gF h,λ x y d h1 h2=>(HY x d h1).1.trans (HY y d h2).1.symm⟩
def wD(v:V)(fl c':Addr):Sp:=match v with
 | .int hour=>spFWG DF (λ t=>decide (hour<=t.2.1)) fl c' (AW "ridden")
 |_=>λ _ _ _ _=>False
section
variable {f g:Addr}
theorem aD(FW:Fun K "first_where" "first_where" GU g gd)(B:Bl mg)
  (hfl:base.get? fl=some (W.kla_obj "<lambda>" (AW "ridden") (YF U6) (ZC U6) (ET U6) [("hour",cy)] pm c' ctv)) (hca:JI base (ET U6) [("hour",cy)] ["row","hour"] ["row"] [v]) :
  FnOk P w K mg base B5 2 g gd ["clock","holds"] (wD v fl c'):=by
 cases v with
 |int hour =>
  refine tO (n:=1) (v0 := "row") FW B (IY (k:=0) (N:=["row","hour"]) (cs:=[.int hour]) hfl (λ vs H Q E h=>?_) (cJ cy) hca (λ vs H Q E h=>?_) (λ A outer s H vs Q E hr h=>?_)) (Binds.all λ us hl=>match us,hl with | [_],_=>rfl) ⟨_,_,_,_,hfl⟩
  ·obtain⟨_,_,_,h,_⟩:=h;exact h
  ·obtain⟨_,_,rfl,_⟩:=h;rfl
  ·obtain⟨r,t,rfl,hc,hr',q⟩:=h;refine⟨_,ZZ SX (pv 1) (JN RU (pv 0) RJ Y9) (AS _),?_⟩;exact⟨_,U,_,U,r,_,_,_,U,U,SqT.of hr',U,_,_,U,U,q⟩
 |non=>exact DV
 |bl b=>exact DV
 |str x=>exact DV
 |byt b=>exact DV
 |flt b=>exact DV
 |ref a=>exact DV
 |ty n=>exact DV
theorem PN{c:Addr}{kV:Value}(lk:K.lookup f=some ⟨oc,od,.func (W.fnOf "ridden" "ridden" (D7 HM) (C7 HM) (AG HM) .none kV doc pm an (.ref c) ct),osl⟩)(hcd:W.codeIn K (.ref c) "ridden"=true)
  (B:Bl mg) (hC:W.CodeHd base c P0) (hB:ES mg base) (FW:Fun K "first_where" "first_where" GU g gd) (bW:Binds K gd ["clock","holds"] []) (mW:mg "first_where"=some (.ref g)) :
  FnOk P w K mg base B5 3 f (W.fnOf "ridden" "ridden" (D7 HM) (C7 HM) (AG HM) .none kV doc pm an (.ref c) ct) ["day","p","q","ride","others"] (spRidden P0 ⟨173,28,173,54⟩):=by
 refine IQ lk hcd C0 (λ vs H Q E h=>?_) (λ A outer s H vs Q E hr h=>?_)
 ·obtain⟨_,_,_,_,_,_,_,rfl,_⟩:=h;rfl
 obtain⟨day,p0,qq,ride,po,S,gg,rfl,hS,tab,hSl,hd,pq,qd,rg,hCv,q⟩:=h;refine⟨_,PSs.nox (QSs.run (A9 (AC (i:=5) C0.nd rfl (IH rfl) (A7 BR (A7 B7 (qv 1) (qv 3)) (qv 0))) (A9 (AC (i:=6) C0.nd rfl (AH rfl) (A7 D5 (A7 B7 (qv 1) (qv 3)) (qv 5))) (A9 (AC (i:=7) C0.nd rfl (AH rfl) ⟨gT (N:=["row","hour"]) (ps:=["row"]) 5 hr rfl mW FW.kp bW rfl rfl hC hB rfl rfl rfl (IH (AH rfl)) rfl rfl rfl HY rfl rfl (pv 4) (λ base' fl c' v pm ctv hfl hca=>aD FW B hfl hca)⟩) (A9 (AC (i:=8) C0.nd rfl (AH rfl) (D0 A5)) (A9 (SF PassesOwn.never (AX EA (qv 1) (qv 2) (AS _)) (A9 (AC (i:=9) C0.nd rfl (AH rfl) (AL (K1 rfl) rfl B.min bt_min (A4 (qv 2) (A4 (A7 D5 (A7 B7 (qv 6) (A8 AU (A8 AM (qv 4) (qv 7) Y9) A6 Y9)) (qv 3)) A5)))) (IE (AE (CD (A8 AU (A8 AM (qv 4) (qv 7) Y9) A6 Y9)) (AA (CF (DG (qv 8) (A4 (D4 (A4 (qv 1) (A4 (qv 9) (A4 DS (A4 (A7 B7 (qv 6) (A8 AU (A8 AM (qv 4) (qv 7) Y9) A6 Y9)) A5))))) A5)))) (AA (CF (DG (qv 8) (A4 (D4 (A4 (qv 1) (A4 (qv 9) (A4 DS (A4 (A7 B7 (qv 3) (A8 AU (A8 AM (qv 4) (qv 7) Y9) A6 Y9)) A5))))) A5))))) (A9 (AC (i:=1) C0.nd rfl (AH rfl) (A7 B7 (qv 9) A6)) (A9 (JB (i:=7) C0.nd rfl (AH rfl) JE A6) (AA (AE (AX CS (qv 7) (AL CN rfl B.len C5 (A4 (qv 4) A5)) (AS _)) (A9 (AC (i:=7) C0.nd rfl (AH rfl) A6) (AA (JB (i:=6) C0.nd rfl (AH rfl) JE (qv 0)))) AY))))))) (AA (AF (qv 8))))))))),?_⟩;walk_at "d";refine⟨_,U,_,U,_,_,U,U,_,U,_,_,U,U,hd,?_⟩;obtain⟨qt,eq0,h0,h1⟩:=Ma.split day (p0+ride) hd;dsimp only;generalize (p0+ride)%day=hour at *;refine⟨_,U,_,U,_,_,U,U,_,U,_,_,U,U,?_⟩;dsimp only;generalize hm0:p0+ride-hour=mid0;have em0:mid0=day*qt:=⋯;refine⟨_,U,_,U,tab,λ fl c' H2 sm tb hc'=>?_⟩;have su:=SameU.tab sm tab tb;have hS2:=hS.u su;refine⟨po,S,U,hc',hS2,λ i j x y hij ex ey hp=>?_,λ k0 m1 m2 m3=>?_⟩
 ·have a1:hour<=x.2.1:=D6 hp;have:=hCv.lt ex ey hij;have:=(hCv.get ey).2.1;exact CB (by show hour<=y.2.1;omega)
 have hk0:k0<S.length:=by
  rcases P3 k0 S.length with z|z
  ·exact z
  ·exfalso
   obtain⟨i,r,er,r1,r2⟩:=hCv.find h0 h1;have hi:=(CP.mp er).1;have:=of_decide_eq_false (m2 i r ⋯ er);omega
 have er0:=BK hk0;generalize hr0:S[k0]=r0 at *;have r0b:hour<=r0.2.1:=D6 (m3 r0 er0);have r0a:r0.1<=hour:=by
  rcases M3 k0 with z|z
  ·have:=(hCv.get er0).2.2.2.2.1 z;omega
  ·have hk:k0-1<S.length:=⋯;have e1:=BK hk;have:=of_decide_eq_false (m2 (k0-1) _ ⋯ e1);have:=(hCv.get e1).2.2.2.2.2.1 r0 (by rw[show k0-1+1=k0 by omega];exact er0);omega
 refine⟨II,λ pr hpr=>?_⟩;have sr:Same H2 (AD H2 pr (.lst [])):=BD hpr _;refine U1 (λ σ H'=>∃(S':List T4)(p m:Int)(k:Nat)(v:Option V),σ=[some (.int day),some (.int p),some (.int qq),some (.int ride),some (.ref po),some (.int hour),some (.int m),some (.int k),some (.ref pr),v] /\
   Same H2 H'/\LA DF H' pr S'/\Ma.Cov (λ x=>gg (x+ride)) p0 S' p/\p<=qq+1/\S'.length<=S.length+1 /\
   (p<=qq->(∃kk,m=day*kk)/\(∃r,S[k]?=some r/\m+r.1<=p+ride/\p+ride<=m+r.2.1)/\((m=mid0/\S'.length+k0=k)\/(m=mid0+day/\S'.length+k0=S.length+k/\k<=k0))))
  (λ σ _=>match σ with | [_,some (.int p),_,_,_,_,_,_,_,_]=>(qq+1-p).toNat|_=>0) ?_ ?_ ?_
 ·exact⟨[],p0,mid0,k0,none,U,sr,LA.nil AI,U,⋯,by simp,λ _=>⟨⟨qt,em0⟩,⟨r0,er0,⋯,⋯⟩,.inl ⟨U,by simp⟩⟩⟩
 ·intro σ H3 z9;obtain⟨S',p,m,k,v,rfl,s3,hS',cv,pl,sl,hin⟩ := z9;refine⟨_,U,_,U,_,_,U,U,_,U,?_⟩;refine AZ (λ c=>?_) (λ c=>?_)
  ·have c':p<=qq:=D6 c;obtain⟨⟨kk,em⟩,⟨r,er,x1,x2⟩,hw⟩:=hin c';obtain⟨g1,g2,g3,g4,g5,g6,g7⟩:=hCv.get er;have hkS:=(CP.mp er).1;obtain⟨us,u1,u2,u3⟩:=(hS2.same s3).at (K:=K);obtain⟨ra,ua,ub⟩:=u3 k _ er;refine⟨_,U,_,U,_,U,_,U,po,_,_,_,U,U,SqL.of u1,ua,ra,_,_,_,U,U,SqT.of ub,U,_,_,U,U,_,U,_,_,U,U,_,_,U,?_⟩;generalize he:(if m+r.2.1-ride<qq then m+r.2.1-ride else qq)=e;have e1:p<=e:=by rw[<- he];split<;>omega
   have e2:e<=qq:=by rw[<- he];split<;>omega
   have e3:e+ride<=m+r.2.1:=by rw[<- he];split<;>omega
   have e4:e<qq->e+ride=m+r.2.1:=by rw[<- he];split<;>omega
   have rc:=Ma.ride_cov rg em e1 x1 e3 g4;obtain⟨vs,v1,v2,v3⟩:=hS'.lst;refine⟨λ σ' H'=>σ'=[some (.int day),some (.int p),some (.int qq),some (.int ride),some (.ref po),some (.int hour),some (.int m),some (.int k),some (.ref pr),some (.int e)]/\Same H2 H'/\LA DF H' pr (S'++[Ma.rideRow p e m ride r]),?_,?_⟩
   ·refine⟨_,U,_,U,po,_,_,_,U,U,SqL.of u1,ua,ra,_,_,_,U,U,SqT.of ub,U,_,U,?_⟩;unfold Ma.rideRow;refine AZ (λ z=>?_) (λ z=>?_)
    ·rw[if_pos z];refine⟨_,U,.inl ⟨U,_,SqL.of v1⟩,_,U,_,U,_,U,_,U,_,U,po,_,_,_,U,U,SqL.of u1,ua,ra,_,_,_,U,U,SqT.of ub,U,_,_,U,U,VU,λ rn hrn=>?_⟩;have s4:=BD hrn (.tup [.int p,.int e,.bl true,.int (m+r.2.2.2)]);exact⟨pr,vs,.ref rn,U,U,s4 _ _ v1,BW ⋯,U,C4 hpr (s3.trans s4),(hS'.same s4).append (x:=(p,e,true,m+r.2.2.2)) (s4 _ _ v1) AI⟩
    ·rw[if_neg z];refine⟨_,U,.inl ⟨U,_,SqL.of v1⟩,_,U,_,U,_,U,_,U,_,U,po,_,_,_,U,U,SqL.of u1,ua,ra,_,_,_,U,U,SqT.of ub,U,_,_,U,U,VU,λ rn hrn=>?_⟩;have s4:=BD hrn (.tup [.int p,.int e,.bl false,.int (ride+r.2.2.2)]);exact⟨pr,vs,.ref rn,U,U,s4 _ _ v1,BW ⋯,U,C4 hpr (s3.trans s4),(hS'.same s4).append (x:=(p,e,false,ride+r.2.2.2)) (s4 _ _ v1) AI⟩
   intro σ' H4 z9;obtain⟨rfl,s4,hS4⟩ := z9;refine⟨_,U,_,_,U,U,?_⟩;refine⟨_,U,_,_,U,U,?_⟩;obtain⟨us,u1,u2,u3⟩:=(hS2.same s4).at (K:=K);have cv4:=cv.append rc;have sl4:(S'++[Ma.rideRow p e m ride r]).length<=S.length+1:=by
    rw[G2,R6];rcases hw with⟨_,z⟩|⟨_,z,z2⟩<;>omega
   have ek:((k:Int)+1)=(((k+1:Nat)):Int):=⋯;have nxt:∀(m':Int)(k':Nat),(k+1<S.length->m'=m/\k'=k+1)->(k+1=S.length->m'=m+day/\k'=0)->(e+1<=qq->(∃kk,m'=day*kk)/\(∃r,S[k']?=some r/\m'+r.1<=e+1+ride/\e+1+ride<=m'+r.2.1)/\((m'=mid0/\(S'++[Ma.rideRow p e m ride r]).length+k0=k')\/(m'=mid0+day/\(S'++[Ma.rideRow p e m ride r]).length+k0=S.length+k'/\k'<=k0))):=by
    intro m' k' ha hb lt;have e5:=e4 ⋯;rw[G2,R6];rcases(by omega:k+1<S.length\/k+1=S.length) with z|z
    ·obtain⟨rfl,rfl⟩:=ha z;have en:=BK z;have q1:=g6 _ en;have q2:=(hCv.get en).2.1;refine⟨⟨kk,em⟩,⟨_,en,⋯,⋯⟩,?_⟩;rcases hw with⟨y1,y2⟩|⟨y1,y2,y3⟩
     ·exact .inl ⟨y1,⋯⟩
     ·refine .inr ⟨y1,⋯,?_⟩;rcases(by omega:k<k0\/k=k0) with y|y
      ·omega
      ·exfalso
       have er':=er;rw[y,er0] at er';cases er';omega
    ·obtain⟨rfl,rfl⟩:=hb z;have q1:=g7 z;have hn0:0<S.length:=⋯;have en:=BK hn0;have q2:=(hCv.get en).2.2.2.2.1 rfl;have q3:=(hCv.get en).2.1;refine⟨⟨kk+1,by rw[em,qY,eJ]⟩,⟨_,en,⋯,⋯⟩,?_⟩;rcases hw with⟨y1,y2⟩|⟨y1,y2,y3⟩
     ·exact .inr ⟨⋯,⋯,HV _⟩
     ·exfalso
      have y:k=k0:=⋯;have er':=er;rw[y,er0] at er';cases er';omega
   dsimp only;rw[ek];refine⟨_,U,_,U,po,_,U,.inl (SqL.of u1),U,_,U,?_⟩;refine AZ (λ z=>?_) (λ z=>?_)
   ·have z':=D6 z;injection z' with z'
    refine⟨_,U,_,U,_,_,U,U,⟨_,e+1,m+day,0,_,U,s4,hS4,cv4,⋯,sl4,nxt (m+day) 0 (λ y=>⋯) λ _=>⟨U,U⟩⟩,?_⟩;show(qq+1-(e+1)).toNat<(qq+1-p).toNat;omega
   ·have z':¬(((k+1:Nat)):Int)=((us.length:Nat):Int):=λ y=>z (CB (by rw[y]))
    refine⟨⟨_,e+1,m,k+1,_,U,s4,hS4,cv4,⋯,sl4,nxt m (k+1) (λ _=>⟨U,U⟩) λ y=>⋯⟩,?_⟩;show(qq+1-(e+1)).toNat<(qq+1-p).toNat;omega
  ·have c':¬p<=qq:=λ z=>c (CB z)
   have e:p=qq+1:=⋯;subst e;have fr:H pr=none:=by
    cases eh:H pr with
    |none=>rfl
    |some o =>
     by_cases zp:pr=P0
     ·obtain⟨ps,hp,_⟩:=tb;rw[zp,hp] at hpr;cases hpr
     ·rw[sm _ _ eh zp] at hpr;cases hpr
   exact⟨_,U,q pr S' H3 (SameT.trans sm (SameT.same s3)) (TabOk.same tb s3) fr hS' sl cv⟩
 ·intro σ H' Q1 Q2 hq z9;obtain⟨v,e1,v',e2,i,j,e3,e4,k,e5,q1⟩ := z9;exact⟨v,e1,v',e2,i,j,e3,e4,k,e5,hq _ _ q1⟩
end
inductive spRiddenT(T:Hp->Prop)(vs:List V)(H:Hp)(Q:VK)(z3q:XK):Prop
 |mk (day p qq ride:Int) (po:Addr) (S:List T4) (g:Int->Int):vs=[.int day,.int p,.int qq,.int ride,.ref po]->LA DF H po S->T H->S.length<=4000000->0<day->p<=qq->qq<p+day->Ma.Rise day g->Ma.Cov g 0 S day->(∀(l:Addr)(S':List T4)(H':Hp),SameU H H'->T H'->H l=none->LA DF H' l S'->S'.length<=S.length+1->Ma.Cov (λ x=>g (x+ride)) p S' (qq+1)->Q (.ref l) H')->spRiddenT T vs H Q z3q
theorem VD(C:Callee P w K mg base n "ridden" ["day","p","q","ride","others"] (spRidden P0 pos))(h1:∀H,T H->TabOk H P0 pos (AW "ridden"))
  (h2:∀H H',T H->SameT P0 H H'->TabOk H' P0 pos (AW "ridden")->T H'):Callee P w K mg base n "ridden" ["day","p","q","ride","others"] (spRiddenT T):=Callee.imp C λ vs H Q E h=>by
 obtain⟨day,p,qq,ride,po,S,g,rfl,hS,hT,a1,a2,a3,a4,a5,a6,q⟩:=h;exact⟨day,p,qq,ride,po,S,g,U,hS,h1 H hT,a1,a2,a3,a4,a5,a6,λ l S' H' sm tb=>q l S' H' (SameU.tab sm (h1 H hT) tb) (h2 H H' hT sm tb)⟩
inductive spBehind(T:Hp->Prop)(vs:List V)(H:Hp)(Q:VK)(z3q:XK):Prop
 |mk (day:Int) (p1 p2:Addr) (R1 R2:List T3):vs=[.int day,.ref p1,.ref p2]->LA AQ H p1 R1->LA AQ H p2 R2->T H->R1.length<=1900000->R2.length<=1900000->(2*R1.length+1)*(2*R2.length+2)<=16000000->Ma.CK day R1->Ma.CK day R2->(∀(l:Addr)(R:List T3)(H':Hp),SameU H H'->T H'->H l=none->LA AQ H' l R->R.length<=(2*R1.length+1)*(2*R2.length+2)->Ma.CK day R->(∀t,Ma.bt day R t=Ma.obind (Ma.bt day R1) (Ma.bt day R2) t)->Q (.ref l) H')->spBehind T vs H Q z3q
section
variable {f:Addr}
theorem PM(hTB:TB T)(F:Fun K "behind" "behind" bJ f fd)(B:Bl mg)(Cg0:Callee P w K mg base n "stretches" ["day","clock"] spStretches)(Cu0:Callee P w K mg base n "come" ["day","clock","t"] (spComeT T))(Cb2:Callee P w K mg base n "ridden" ["day","p","q","ride","others"] (spRiddenT T))
  (Cj0:Callee P w K mg base n "clock_from" ["day","rows"] spClockFrom):FnOk P w K mg base B5 (n+1) f fd ["day","one","other"] (spBehind T):=by
 refine F.okQ D9 ?_ ?_;walk_at "o";obtain⟨day,p1,p2,R1,R2,rfl,hR1,hR2,hT,hl1,hl2,hl3,ck1,ck2,q⟩:=h;refine⟨_,(A9 (AE (FM (QW.pt (CO (AX CS (AL CN U B.len C5 (A4 (qv 1) A5)) A6 (AS _)) (FC (AX CS (AL CN U B.len C5 (A4 (qv 2) A5)) A6 (AS _)))))) (AA (AF (D0 A5))) AY) (A9 (AC (i:=3) D9.nd U (AH U) (AB Cg0 hr U (A4 (qv 0) (A4 (qv 2) A5)))) (A9 (AC (i:=4) D9.nd U (AH U) (D0 A5)) (A9 (DJ PassesOwn.never U (DN (AB Cg0 hr U (A4 (qv 0) (A4 (qv 1) A5)))) (G8 U (BI (AV (i:=5) D9.nd U (AH U)) (BI (AV (i:=6) D9.nd U (AH U)) (BI (AV (i:=7) D9.nd U (AH U)) (BI (AV (i:=8) D9.nd U (AH U)) FX))))) (AA (AE (CD (qv 7)) (AA (CF (DG (qv 4) (A4 (D4 (A4 (qv 5) (A4 (qv 6) (A4 DS (A4 (AB Cu0 hr U (A4 (qv 0) (A4 (qv 2) (A4 (qv 8) A5)))) A5))))) A5)))) (AA (CF (j8 (qv 4) (A4 (AB Cb2 hr U (A4 (qv 0) (A4 (qv 5) (A4 (qv 6) (A4 (qv 8) (A4 (qv 3) A5)))))) A5))))))) (AA (AF (AB Cj0 hr U (A4 (qv 0) (A4 (qv 4) A5))))))))),?_⟩;walk_at "d";obtain⟨us,hu1,hu2,hu3⟩:=hR1.lst;obtain⟨ws,hw1,hw2,hw3⟩:=hR2.lst;refine⟨λ b H'=>H'=H/\b=decide (R1=[]\/R2=[]),?_,?_⟩
 ·refine⟨_,U,p1,_,U,.inl (SqL.of hu1),U,_,U,?_⟩;refine AZ (λ c=>?_) (λ c=>?_)
  ·have c':=D6 c;injection c' with c'
   have e:R1=[]:=M6.mp ⋯;exact⟨U,by simp[e]⟩
  ·have n1:R1≠[]:=λ e=>c (CB (by rw[hu2,e];rfl))
   refine⟨_,U,p2,_,U,.inl (SqL.of hw1),U,_,U,U,?_⟩;rw[hw2];cases R2 with
   |nil=>simp
   |cons x r=>simp[n1];omega
 intro b H1 z9;obtain⟨rfl,rfl⟩ := z9;refine AZ (λ c=>?_) (λ c=>?_)
 ·have c':=D6 c;refine⟨II,λ l hl=>?_⟩;refine q l [] _ (SameU.of (BD hl _)) (hTB.same _ _ hT (BD hl _)) hl (LA.nil AI) (by simp) (Ma.ck_nil ck1.d0) λ t=>?_
  unfold Ma.obind;rcases c' with e|e
  ·rw[e];rfl
  ·rw[e,Ma.bt_nil];cases Ma.bt day R1 t<;>rfl
 have c':¬(R1=[]\/R2=[]):=λ z=>c (CB z)
 have T1:=Ma.tells_bf (d:=day) (λ e=>c' (.inl e));have T2:=Ma.tells_bf (d:=day) (λ e=>c' (.inr e));have rf:=ck1.rise T1;have rg:=ck2.rise T2;have C1:=Ma.str_cov ck1 T1;have C2:=Ma.str_cov ck2 T2;have b1:=Ma.strOf_len day R1;have b2:=Ma.strOf_len day R2;have hd:=ck1.d0;refine⟨_,U,_,U,day,p2,R2,U,hR2,⋯,λ l2 H2 s2 f2 hS2=>?_⟩;refine⟨II,λ pr hpr=>?_⟩;have s3:Same H2 (AD H2 pr (.lst [])):=BD hpr _;have s13:=s2.trans s3;refine⟨_,U,_,U,day,p1,R1,U,hR1.same s13,⋯,λ l1 H4 s4 f4 hS1=>?_⟩;have er4:H4 pr=some (.lst []):=s4 _ _ AI;have n1:l1≠pr:=λ e=>by rw[e,AI] at f4;cases f4
 have s14:=s13.trans s4;have hS2:=(hS2.same s3).same s4;have n2:l2≠pr:=λ e=>by
  have h:=s2.free hpr;obtain⟨vs,z,_⟩:=hS2.lst;rw[e,er4] at z;cases z;obtain⟨vs',z',_⟩:=(show LA DF H2 l2 (Ma.strOf day R2) from by assumption).lst;rw[e,hpr] at z';cases z'
 have hR2:=(hR2.same s14)
 have np2:p2≠pr:=λ e=>by
  have z:=s2 _ _ hw1;rw[e,hpr] at z;cases z
 have hT4:=hTB.same _ _ hT s14;have hfr:H1 pr=none:=s2.free hpr;clear s3 f4 f2;generalize Ma.strOf day R1=S1 at *;generalize Ma.strOf day R2=S2 at *;generalize Ma.bf day R1=f1 at *;generalize Ma.bf day R2=f2 at *;obtain⟨xs,hx1,hx2,hx3⟩:=hS1.lst;have hrow:∀{α:Type}{enc:α->List V}{l:Addr}{ys:List α}{H':Hp},LA enc H4 l ys->l≠pr->(∀b o,H4 b=some o->b≠pr->(∀z,o ≠ .tbl z)->H' b=some o)->LA enc H' l ys:=λ {α enc l ys H'} h nl st=>by
  obtain⟨rs,h1,h2,h3⟩:=h.ex;refine⟨rs,st _ _ h1 nl (λ _ z=>nomatch z),h2,λ i r x e e'=>?_⟩;have h4:=h3 i r x e e';exact st _ _ h4 (λ z=>by rw[z,er4] at h4;cases h4) (λ _ z=>nomatch z)
 refine⟨l1,U,⟨_,SqL.of hx1⟩,GI (K:=K) (a:=l1) (xs:=xs)
  (λ i σ H'=>∃(S:List T4)(at_:Int)(v1 v2 v3 v4:Option V),σ=[some (.int day),some (.ref p1),some (.ref p2),some (.ref l2),some (.ref pr),v1,v2,v3,v4]/\SameU H1 H'/\T H'/\(∀b o,H4 b=some o->b≠pr->(∀z,o ≠ .tbl z)->H' b=some o)/\LA DF H' pr S/\S.length<=i*(S2.length+1)/\Ma.Cov (λ x=>f2 (f1 x)) 0 S at_/\(∀r,S1[i]?=some r->r.1=at_)/\(i=S1.length->at_=day))
  ⟨[],0,_,_,_,_,rfl,SameU.of s14,hT4,λ b o e _ _=>e,LA.nil er4,by simp,rfl,λ r e=>(C1.get e).2.2.2.2.1 rfl,λ e=>?_⟩
  (λ i σ H' _ ⟨_,_,_,_,_,_,_,_,_,s1,_⟩=>SqL.of (s1 _ _ hx1 n1 (λ _ z=>nomatch z))) ?_ ?_⟩
 ·rw[M6.mp e.symm] at C1;exact C1
 ·intro i y σ H5 hi z9;obtain⟨S,at_,v1,v2,v3,v4,rfl,sU,t5,st,hS,hSl,hC,hat,_⟩ := z9;obtain⟨r,x,rfl,ex,er⟩:=hx3 i y hi;have e1:=hat x ex;obtain⟨g1,g2,g3,g4,g5,g6,g7⟩:=C1.get ex;have nr:r≠pr:=λ z=>by rw[z,er4] at er;cases er
  have er5:=st _ _ er nr (λ _ z=>nomatch z);have hi2:i<S1.length:=(CP.mp ex).1;obtain⟨xp,xq,xs',xv⟩:=x;have e1':xp=at_:=e1;subst e1';have g2':xp<=xq:=g2;have g3':xq<day:=g3;have g1':0<=xp:=g1;have g4':∀x,xp<=x->x<=xq->f1 x=if xs'=true then xv else x+xv:=g4;obtain⟨vs,hv1,hv2,hv3⟩:=hS.lst;have bnd:(i+1)*(S2.length+1)<=16000000:=by
   have:(i+1)*(S2.length+1)<=(2*R1.length+1)*(2*R2.length+2):=sA ⋯ ⋯;omega
  rw[yD] at bnd;refine⟨r,_,U,SqT.of er5,U,_,_,U,_,_,U,_,_,U,_,_,U,U,?_⟩;refine⟨_,U,_,U,?_⟩;cases xs' with
  |true =>
   refine DC ⟨_,rfl,.inl ⟨rfl,_,SqL.of hv1⟩,_,rfl,_,rfl,_,rfl,_,rfl,_,rfl,day,p2,xv,R2,rfl,hrow hR2 np2 st,t5,ck2,λ H6 u6 t6=>?_⟩;rw[T2 xv];refine⟨VU,λ rn hrn=>?_⟩;have s7:=BD hrn (.tup [.int xp,.int xq,.bl true,.int (f2 xv)]);have u7:=u6.trans (SameU.of s7);have hv7:=u7.lst hv1;refine⟨pr,vs,.ref rn,U,U,hv7,BW ⋯,?_⟩;have cr:Ma.Cov (λ x=>f2 (f1 x)) xp [(xp,xq,true,f2 xv)] (xq+1):=Ma.Cov.one (r:=(xp,xq,true,f2 xv)) g2' λ x x0 x1=>by
    have:=g4' x x0 x1;rw[if_pos rfl] at this;show f2 (f1 x)=f2 xv;rw[this]
   refine⟨_,_,_,_,_,_,U,SameU.wr hfr (sU.trans u7),hTB.wr _ _ _ _ (hTB.same _ _ t6 s7) hv7,λ b o e nb nt=>?_,((hS.u u6).same s7).append (x:=(xp,xq,true,f2 xv)) hv7 AI,?_,hC.append cr,λ r' e'=>g6 r' e',λ e=>g7 e⟩
   ·rw[AJ nb];exact u7.1 _ _ (st _ _ e nb nt) nt
   ·rw[G2,R6,yD];omega
  |false =>
   refine BB ⟨_,rfl,.inl ⟨rfl,_,SqL.of hv1⟩,_,rfl,_,rfl,_,rfl,_,rfl,_,rfl,day,xp,xq,xv,l2,S2,f2,rfl,hrow hS2 n2 st,t5,⋯,hd,g2',⋯,rg,C2,λ l S' H6 u6 t6 fl hS' hSl' cr=>?_⟩;obtain⟨zs,hz1,hz2,hz3⟩:=hS'.lst;have hv6:=u6.lst hv1;refine⟨pr,l,vs,zs,U,U,hv6,hz1,RS (BW ⋯),?_⟩;have cr':Ma.Cov (λ x=>f2 (f1 x)) xp S' (xq+1):=by
    refine Ma.Cov.congr (λ x x0 x1=>?_) cr;have:=g4' x x0 ⋯;rw[if_neg (by decide)] at this;show f2 (x+xv)=f2 (f1 x);rw[this]
   refine⟨_,_,_,_,_,_,U,SameU.wr hfr (sU.trans u6),hTB.wr _ _ _ _ t6 hv6,λ b o e nb nt=>?_,(hS.u u6).extend hS' hv6 hz1,?_,hC.append cr',λ r' e'=>g6 r' e',λ e=>g7 e⟩
   ·rw[AJ nb];exact u6.1 _ _ (st _ _ e nb nt) nt
   ·rw[G2,yD];omega
 ·intro σ H5 z9;obtain⟨S,at_,v1,v2,v3,v4,rfl,sU,t5,st,hS,hSl,hC,hat,hend⟩ := z9;have e:=hend hx2;subst e;rw[hx2] at hSl;have bnd:S1.length*(S2.length+1)<=(2*R1.length+1)*(2*R2.length+2):=sA b1 ⋯;have rc:=Ma.rise_comp rf rg;refine⟨_,U,_,U,at_,pr,S,_,U,hS,⋯,hd,rc,hC,λ l R H6 s6 fl hR hRl can=>?_⟩;refine q l R H6 (sU.trans (SameU.of s6)) (hTB.same _ _ t5 s6) (sU.free fl) hR ⋯ (can.ck hd rc) λ t=>?_
  rw[can.tells hd rc t];unfold Ma.obind;rw[T1 t];exact(T2 _).symm
end
abbrev BN:=Int×Int×Addr×List T3
variable {F M N:List BN}{m:BN}
def jN(m:BN):Int×Int×Addr:=(m.1,m.2.1,m.2.2.1)
def j7(k:Int×Int×Addr):List V:=[.int k.1,.int k.2.1,.ref k.2.2]
structure NA(H:Hp)(p:Addr)(N:List BN):Prop where
 la:LA j7 H p (N.map jN)
 bd:∀m∈N,LA AQ H m.2.2.1 m.2.2.2/\m.2.2.1≠p
 nd:(N.map λ m=>m.2.2.1).Nodup
section
variable {b:Addr}{e:Int}{us:List V}
theorem NA.nil(h:H p=some (.lst [])):NA H p []:=⟨LA.nil h,(λ m hm=>by cases hm),List.Pairwise.nil⟩
theorem NA.mono(h:NA H p N)(s:∀b o,H b=some o->(∀z,o ≠ .tbl z)->H' b=some o):NA H' p N:=⟨h.la.mono s,λ m hm=>⟨(h.bd m hm).1.mono s,(h.bd m hm).2⟩,h.nd⟩
theorem NA.same(h:NA H p N)(s:Same H H'):NA H' p N:=h.mono λ b o e _=>s b o e
theorem NA.fresh(h:NA H p N)(fb:H b=none):b≠p/\b∉N.map λ m=>m.2.2.1:=by
 refine⟨λ z=>?_,λ hm=>?_⟩
 ·obtain⟨vs,h1,_⟩:=h.la.lst;rw[<- z,fb] at h1;cases h1
 ·obtain⟨m,hm',e⟩:=DT.mp hm;obtain⟨vs,h1,_⟩:=(h.bd m hm').1.lst;rw[e,fb] at h1;cases h1
end
def MW(day size:Int)(N:List BN):Prop:=∀m∈N,(0<=m.1/\m.1<size)/\(0<=m.2.1/\m.2.1<size)/\m.2.2.2.length<=16/\∀w∈m.2.2.2,0<=w.1/\w.1<=w.2.1/\w.2.1<day/\1<=w.2.2/\w.2.2<=1000000000000000
def NFr(H:Hp)(N:List BN):Prop:=∀m∈N,H m.2.2.1=none
theorem NFr.snoc(h:NFr H N)(e:H m.2.2.1=none):NFr H (N++[m]):=λ x hx=>by
 rcases EW.mp hx with hx|hx
 ·exact h x hx
 ·rw[D8] at hx;subst hx;exact e
theorem NA.add{b:Addr}{e:Int}(h:NA H p N)(fb:b≠p/\b∉N.map λ m=>m.2.2.1)(hx:H p=some (.lst vs))(hb:LA AQ H b R)(hr:H r=some (.tup [.int s,.int e,.ref b])):NA (AD H p (.lst (vs++[.ref r]))) p (N++[(s,e,b,R)]):=by
 refine⟨?_,λ m hm=>?_,?_⟩
 ·rw[HA];exact h.la.append (x:=(s,e,b)) hx hr
 ·rcases EW.mp hm with hm|hm
  ·obtain⟨h1,h2⟩:=h.bd m hm;exact⟨G1 h1 hx h2,h2⟩
  ·rw[D8] at hm;subst hm;exact⟨G1 hb hx fb.1,fb.1⟩
 ·rw[HA];refine jG.mpr ⟨h.nd,by simp,λ x hx y hy=>?_⟩;simp only[PZ,pZ,D8] at hy;subst hy;exact λ z=>fb.2 (z ▸ hx)
def F8(m:BN):Int×Int×List T3:=(m.1,m.2.1,m.2.2.2)
def FY(count:Int):V->Bool
 | .int i=>decide (0<=i)&&decide (i<count)
 |_=>false
def ID(H:Hp)(x:V):Bool:=match DB H x with
 |some [_,_,.int c]=>decide (0<c)
 |_=>false
def K4(H:Hp)(x:V):Bool:=match DI H x with
 |some ws=>ws.all (ID H)
 |none=>false
def HK(H:Hp)(day size:Int):List V->Bool
 | [s,e,b]=>FY size s&&(FY size e&&(GS H day b&&K4 H b))
 |_=>false
def DP(H:Hp)(day size:Int)(x:V):Bool:=match DB H x with
 |some xs=>HK H day size xs
 |none=>false
def OQ(H:Hp)(day:Int)(size roads:V):Bool:=match size with
 | .int n=>decide (1<=n)&&(match DI H roads with
  |some xs=>xs.all (DP H day n)
  |none=>false)
 |_=>false
def DvR(H:Hp)(x:V):Prop:=Dv H x/\∀zs,DB H x=some zs->∀z∈zs,Dv3 H z
def zV(H:Hp)(x:V):Prop:=Dv H x/\∀xs,DI H x=some xs->xs.length<=1000/\∀y∈xs,DvR H y
theorem Dv3.same{H H':Hp}{x:V}(h:Dv3 H x)(s:Same H H'):Dv3 H' x:=⟨h.1.same s,λ xs e=>by
 rw[h.1.lstV_same s] at e;exact⟨(h.2 xs e).1,λ y hy=>((h.2 xs e).2 y hy).same s⟩⟩
theorem DvR.same{H H':Hp}{x:V}(h:DvR H x)(s:Same H H'):DvR H' x:=⟨h.1.same s,λ xs e=>by
 rw[h.1.tupV_same s] at e;exact λ y hy=>(h.2 xs e y hy).same s⟩
theorem Dv3.boardV_same{x:V}(h:Dv3 H x)(s:Same H H')(day:Int):GS H' day x=GS H day x:=by
 unfold GS;rw[h.1.lstV_same s];cases e:DI H x with
 |none=>rfl
 |some xs =>
  rw[SV,JL,JL];exact⟨λ z y hy=>by rw[<- ((h.2 xs e).2 y hy).1.winV_same s day];exact z y hy,λ z y hy=>by rw[((h.2 xs e).2 y hy).1.winV_same s day];exact z y hy⟩
theorem Dv2.posW_same{x:V}(h:Dv2 H x)(s:Same H H'):ID H' x=ID H x:=by
 unfold ID;rw[h.1.tupV_same s]
theorem Dv3.posB_same{x:V}(h:Dv3 H x)(s:Same H H'):K4 H' x=K4 H x:=by
 unfold K4;rw[h.1.lstV_same s];cases e:DI H x with
 |none=>rfl
 |some xs =>
  rw[SV,JL,JL];exact⟨λ z y hy=>by rw[<- ((h.2 xs e).2 y hy).posW_same s];exact z y hy,λ z y hy=>by rw[((h.2 xs e).2 y hy).posW_same s];exact z y hy⟩
theorem DvR.roadV_same{x:V}(h:DvR H x)(s:Same H H')(day size:Int):DP H' day size x=DP H day size x:=by
 unfold DP;rw[h.1.tupV_same s];cases e:DB H x with
 |none=>rfl
 |some xs =>
  have hz:=h.2 xs e;show HK H' day size xs=HK H day size xs;unfold HK;split
  ·rw[(hz _ (by simp)).boardV_same s,(hz _ (by simp)).posB_same s]
  ·rfl
theorem uD{x:V}(h:EJ H day x=true):∃(r:Addr)(a b c:Int),x=.ref r/\H r=some (.tup [.int a,.int b,.int c]):=by
 unfold EJ at h;split at h
 ·rename_i xs e
  obtain⟨r,rfl,er⟩:=RB e;unfold JZ at h;split at h
  ·exact⟨r,_,_,_,U,er⟩
  ·cases h
 ·cases h
inductive spNumber(vs:List V)(H:Hp)(Q:VK)(z3q:XK):Prop
 |mk (count:Int) (x:V):vs=[.int count,x]->Dv H x->Q (.bl (FY count x)) H->spNumber vs H Q z3q
inductive spRoad(vs:List V)(H:Hp)(Q:VK)(z3q:XK):Prop
 |mk (day size:Int) (x:V):vs=[.int day,.int size,x]->DvR H x->(∀H',Same H H'->Q (.bl (DP H day size x)) H')->spRoad vs H Q z3q
inductive spIsNet(vs:List V)(H:Hp)(Q:VK)(z3q:XK):Prop
 |mk (day:Int) (size x:V):vs=[.int day,size,x]->Dv H size->zV H x->(∀H',Same H H'->Q (.bl (OQ H day size x)) H')->spIsNet vs H Q z3q
section
variable {f:Addr}
theorem vM(F:Fun K "is_number" "is_number" XO f fd)(Cf0:Callee P w K mg base n "is_whole" ["thing"] spIsWhole):FnOk P w K mg base B5 (n+1) f fd ["count","thing"] spNumber:=by
 refine F.okQ yC ?_ ?_;walk_at "o";obtain⟨count,x,rfl,dv,q⟩:=h;refine⟨_,(AA (AF (KY (AB Cf0 hr U (A4 (qv 1) A5)) (LM (oW EA F7 A6 (qv 1) (qv 0)))))),?_⟩;walk_at "d";refine⟨_,U,x,U,dv,_,U,?_⟩;cases hw:EK x with
 |false =>
  refine BB ?_;have e:FY count x=false:=by
   unfold FY;split
   ·cases hw
   ·rfl
  rw[e] at q;exact q
 |true =>
  obtain⟨i,rfl⟩:=T8 hw;unfold FY at q;dsimp only at q;refine DC ⟨_,rfl,_,_,rfl,rfl,_,rfl,AZ (λ c=>?_) (λ c=>?_)⟩
  ·rw[c,kO] at q;exact⟨_,U,_,_,U,U,q⟩
  ·rw[TJ.mpr c,nU] at q;exact q
theorem tU(F:Fun K "is_road" "is_road" Z6 f fd)(B:Bl mg)(Ci0:Callee P w K mg base n "is_number" ["count","thing"] spNumber)(Cr0:Callee P w K mg base n "is_board" ["day","thing"] spBoard):FnOk P w K mg base B5 (n+1) f fd ["day","size","thing"] spRoad:=by
 refine F.okQ wN ?_ ?_;walk_at "o";obtain⟨day,size,x,rfl,dv,q⟩:=h;refine⟨_,(A9 (AE (QW.pt (CO (EF (CD (AL K5 U B.isinstance K2 (A4 (qv 2) (A4 (JP (v:=.ty "tuple") U B.tuple_ mD U) A5))))) (FC (AX LL (AL CN U B.len C5 (A4 (qv 2) A5)) A6 (AS _))))) (AA (AF DS)) AY) (A9 (AE (QW.pt (CO (EF (CD (AB Ci0 hr U (A4 (qv 1) (A4 (A8 AU (qv 2) A6 Y9) A5))))) (FC (EF (CD (AB Ci0 hr U (A4 (qv 1) (A4 (A8 AU (qv 2) A6 Y9) A5)))))))) (AA (AF DS)) AY) (AA (AF (KY (AB Cr0 hr U (A4 (qv 0) (A4 (A8 AU (qv 2) A6 Y9) A5))) (LM (AL (LF U) U B.all LG (A4 (GK ["window"] [none] (BlkOk.of U U (SubL.to EX) U) U (DN (A8 AU (qv 2) A6 Y9)) (λ _ _ _ _=>(AV (i:=0) (show(["window"]:List Str).Nodup by decide) U (AH U))) (λ _ _ _ _=>(IZ JF (A8 (j4 K U) (qv 0) A6 Y9) A6 (AS _)))) A5)))))))),?_⟩;walk_at "d";obtain⟨t,hty,hk⟩:=dv.1.isTup (K:=K);have q0:DP H day size x=false->∀H',Same H H'->Q (.bl false) H':=λ e H' s=>by
  have:=q H' s;rw[e] at this;exact this
 cases ht:DB H x with
 |none =>
  rw[ht] at hk;have hw:DP H day size x=false:=by unfold DP;rw[ht]
  exact⟨_,U,_,"tuple",t,_,U,hty,hk,_,U,DC (DC (q0 hw _ (Same.refl H)))⟩
 |some xs =>
  rw[ht] at hk;have hwl:DP H day size x=HK H day size xs:=by unfold DP;rw[ht]
  have dz:=dv.2 xs ht;obtain⟨r,rfl,er⟩:=RB ht;refine⟨_,U,_,"tuple",t,_,U,hty,hk,_,U,BB ?_⟩;refine⟨_,U,r,xs,U,.inr (SqT.of er),U,_,U,?_⟩
  by_cases hl:xs.length=3
  ·obtain⟨u,v,b,rfl⟩:=dG hl;refine CU (by simp) ?_;have eL:HK H day size [u,v,b]=(FY size u&&(FY size v&&(GS H day b&&K4 H b))):=rfl;rw[eL] at hwl;refine⟨_,U,_,U,r,_,_,_,U,U,SqT.of er,U,size,u,U,(dz u (by simp)).1,_,U,?_⟩;cases hu:FY size u with
   |false=>exact DC (DC (q0 (by rw[hwl,hu];rfl) _ (Same.refl H)))
   |true =>
    refine BB ⟨_,rfl,_,rfl,r,_,_,_,rfl,rfl,SqT.of er,rfl,size,v,rfl,(dz v (by simp)).1,_,rfl,?_⟩;cases hv:FY size v with
    |false=>exact DC (q0 (by rw[hwl,hu,hv];rfl) _ (Same.refl H))
    |true =>
     refine BB ?_;have db:=dz b (by simp);refine⟨_,U,_,U,r,_,_,_,U,U,SqT.of er,U,day,b,U,db,λ H1 s1=>⟨_,U,?_⟩⟩;cases hb:GS H day b with
     |false=>exact BB (q0 (by rw[hwl,hu,hv,hb];rfl) _ s1)
     |true =>
      refine DC ?_;rw[hwl,hu,hv,hb] at q;simp only[kO] at q;unfold GS at hb;split at hb
      ·rename_i ws hws
       obtain⟨hlen,_⟩:=db.2 ws hws;obtain⟨p,rfl,ep⟩:=V7 hws;rw[JL] at hb;have ep1:=s1 _ _ ep;refine⟨_,U,r,_,_,_,U,U,SqT.of (s1 _ _ er),U,p,U,⟨_,SqL.of ep1⟩,?_⟩;refine HX (K:=K) (a:=p) (xs:=ws) (λ D i H'=>Same H1 H'/\H' D=some (.lst ((ws.take i).map λ y=>V.bl (ID H y)))) (λ D hD=>⟨BD hD _,AI⟩) (λ D i H' _ _ h=>SqL.of (h.1 _ _ ep1)) ?_ ?_
       ·intro D i y H' hD hi z9;obtain⟨s2,hD2⟩ := z9;obtain⟨r2,a,b,c,rfl,e2⟩:=uD (hb y (DL hi));refine⟨λ k v' e=>?_,?_⟩
        ·match k,e with
         |0,e=>cases e
         |k+1,e=>cases e
        refine⟨_,U,r2,_,_,_,U,U,SqT.of (s2 _ _ (s1 _ _ e2)),U,_,_,U,U,_,hD2,(by rw[BY,GV];exact aK ⋯),λ b o eb=>?_,?_⟩
        ·rw[AJ (DW eb hD)];exact s2 _ _ eb
        ·rw[AI,V3 _ hi];simp[ID,DB,e2]
       ·intro D H' hD z9;obtain⟨s2,hD2⟩ := z9;have eD:H' D=some (.lst ((ws.map (ID H)).map V.bl)):=by
         rw[hD2,JH,iR];rfl
        refine⟨D,_,U,SqL.of eD,?_⟩;have e1:(ws.map (ID H)).all id=ws.all (ID H):=by rw[yS];rfl
        rw[e1];have:=q H' (s1.trans s2);unfold K4 at this;rw[hws] at this;exact this
      ·cases hb
  ·refine D2 (by simp;omega) (q0 ?_ _ (Same.refl H));rw[hwl];unfold HK;split
   ·rename_i e
    exact absurd rfl hl
   ·rfl
theorem PL(F:Fun K "is_net" "is_net" Z9 f fd)(B:Bl mg)(Cf0:Callee P w K mg base n "is_whole" ["thing"] spIsWhole)(Cz1:Callee P w K mg base n "is_road" ["day","size","thing"] spRoad):FnOk P w K mg base B5 (n+1) f fd ["day","size","roads"] spIsNet:=by
 refine F.okQ OD ?_ ?_;walk_at "o";obtain⟨day,size,x,rfl,ds,dv,q⟩:=h;refine⟨_,(A9 (AE (QW.pt (CO (EF (CD (AB Cf0 hr U (A4 (qv 1) A5)))) (CO (AX F7 (qv 1) A6 (AS _)) (FC (EF (CD (AL K5 U B.isinstance K2 (A4 (qv 2) (A4 (JP (v:=.ty "list") U B.list_ NU U) A5))))))))) (AA (AF DS)) AY) (AA (AF (AL (LF U) U B.all LG (A4 (GK ["road","day","size"] [none,some 0,some 1] (BlkOk.of U U (SubL.to (IA U (IA U EX))) U) U (DN (qv 2)) (λ _ _ _ _=>(AV (i:=0) (show(["road","day","size"]:List Str).Nodup by decide) U (AH U))) (λ _ _ _ _=>(AB Cz1 hr U (A4 (qv 1) (A4 (qv 2) (A4 (qv 0) A5)))))) A5))))),?_⟩;walk_at "d";refine⟨_,U,size,U,ds,_,U,?_⟩;cases hw:EK size with
 |false =>
  have e:OQ H day size x=false:=by
   unfold OQ;split
   ·cases hw
   ·rfl
  have q':=q H (Same.refl H);rw[e] at q';exact DC (DC q')
 |true =>
  obtain⟨m,rfl⟩:=T8 hw;unfold OQ at q;dsimp only at q;refine BB ⟨_,rfl,_,_,rfl,rfl,_,rfl,AZ (λ c=>?_) (λ c=>?_)⟩
  ·have c':m<1:=D6 c;have q':=q H (Same.refl H);rw[decide_eq_false (show ¬1<=m by omega)] at q';exact DC q'
  have c':1<=m:=by
   have:¬m<1:=λ z=>c (CB z)
   omega
  rw[CB c',kO] at q;obtain⟨t,hty,hk⟩:=dv.1.isLst (K:=K);cases ht:DI H x with
  |none =>
   rw[ht] at hk q;exact⟨_,U,_,"list",t,_,U,hty,hk,_,U,DC (q _ (Same.refl H))⟩
  |some xs =>
   rw[ht] at hk q;obtain⟨hlen,dz⟩:=dv.2 xs ht;obtain⟨p,rfl,ep⟩:=V7 ht;refine⟨_,U,_,"list",t,_,U,hty,hk,_,U,BB ?_⟩;refine⟨_,U,p,U,⟨_,SqL.of ep⟩,?_⟩;refine HX (K:=K) (a:=p) (xs:=xs) (λ D i H'=>Same H H'/\H' D=some (.lst ((xs.take i).map λ y=>V.bl (DP H day m y)))) (λ D hD=>⟨BD hD _,AI⟩) (λ D i H' _ _ h=>SqL.of (h.1 _ _ ep)) ?_ ?_
   ·intro D i y H' hD hi z9;obtain⟨s2,hD2⟩ := z9;have d2:=dz y (DL hi);refine⟨λ k v' e=>?_,_,U,_,U,_,U,day,m,y,U,d2.same s2,λ H3 s3=>⟨_,s3 _ _ hD2,(by rw[BY,GV];exact aK ⋯),λ b o eb=>?_,?_⟩⟩
    ·match k,e with
     |0,e=>cases e
     |1,e=>exact e
     |2,e=>exact e
     |k+3,e=>cases e
    ·rw[AJ (DW eb hD)];exact s3 _ _ (s2 _ _ eb)
    ·rw[AI,V3 _ hi,d2.roadV_same s2]
   ·intro D H' hD z9;obtain⟨s2,hD2⟩ := z9;have eD:H' D=some (.lst ((xs.map (DP H day m)).map V.bl)):=by
     rw[hD2,JH,iR];rfl
    refine⟨D,_,U,SqL.of eD,?_⟩;have e1:(xs.map (DP H day m)).all id=xs.all (DP H day m):=by rw[yS];rfl
    rw[e1];exact q H' s2
end
inductive Ew(H:Hp):Nat->V->Prop
 |non {n:Nat}:Ew H n .non
 |bl {n:Nat} (b:Bool):Ew H n (.bl b)
 |int {n:Nat} (i:Int):Ew H n (.int i)
 |str {n:Nat} (x:Str):Ew H n (.str x)
 |lst {n:Nat} {a:Addr} {xs:List V}:H a=some (.lst xs)->xs.length<=1000->(∀y∈xs,Ew H n y)->Ew H (n+1) (.ref a)
 |tup {n:Nat} {a:Addr} {xs:List V}:H a=some (.tup xs)->(∀y∈xs,Ew H n y)->Ew H (n+1) (.ref a)
theorem Ew.same(s:Same H H'):∀{n:Nat}{x:V},Ew H n x->Ew H' n x:=by
 intro n x h
 induction h with
 |non=>exact .non
 |bl b=>exact .bl b
 |int i=>exact .int i
 |str x=>exact .str x
 |lst e l _ ih=>exact .lst (s _ _ e) l ih
 |tup e _ ih=>exact .tup (s _ _ e) ih
theorem Ew.dv{x:V}(h:Ew H n x):Dv H x:=by
 cases h with
 |non=>exact .non
 |bl b=>exact .bl b
 |int i=>exact .int i
 |str x=>exact .str x
 |lst e _ _=>exact .lst e
 |tup e _=>exact .tup e
theorem Ew.parts{x:V}(h:Ew H (n+1) x)(e:DB H x=some zs):∀z∈zs,Ew H n z:=by
 obtain⟨a,rfl,ea⟩:=RB e;cases h with
 |lst e2 _ _=>rw[ea] at e2;cases e2
 |tup e2 p=>rw[ea] at e2;cases e2;exact p
theorem Ew.items{x:V}(h:Ew H (n+1) x)(e:DI H x=some zs):zs.length<=1000/\∀z∈zs,Ew H n z:=by
 obtain⟨a,rfl,ea⟩:=V7 e;cases h with
 |tup e2 _=>rw[ea] at e2;cases e2
 |lst e2 l p=>rw[ea] at e2;cases e2;exact⟨l,p⟩
theorem Ew.d2{x:V}(h:Ew H (n+1) x):Dv2 H x:=⟨h.dv,λ zs e z hz=>(h.parts e z hz).dv⟩
theorem Ew.d3{x:V}(h:Ew H (n+2) x):Dv3 H x:=⟨h.dv,λ zs e=>⟨(h.items e).1,λ z hz=>((h.items e).2 z hz).d2⟩⟩
theorem Ew.dr{x:V}(h:Ew H (n+3) x):DvR H x:=⟨h.dv,λ zs e z hz=>(h.parts e z hz).d3⟩
theorem Ew.dn{x:V}(h:Ew H (n+4) x):zV H x:=⟨h.dv,λ zs e=>⟨(h.items e).1,λ z hz=>((h.items e).2 z hz).dr⟩⟩
def PX(p:Addr)(H:Hp):Hp:=λ b=>if b=p then none else H b
theorem f7{b:Addr}{o:HO}(e:H b=some o)(n:b≠p):PX p H b=some o:=by
 unfold PX;rw[if_neg n];exact e
theorem Y0:Same (PX p H) H:=λ b o e=>by
 unfold PX at e;split at e
 ·cases e
 ·exact e
section
variable {H2:Hp}{q:Addr}
end
theorem oE{b:Addr}(h:LA AQ H b R)(hp:H p=some (.lst zs))(nb:b≠p)(l:R.length<=1000):Ew (PX p H) 2 (.ref b):=by
 obtain⟨vs,h1,h2,h3⟩:=h.lst;refine .lst (f7 h1 nb) ⋯ λ y hy=>?_
 obtain⟨i,hi⟩:=rY.mp hy;obtain⟨r,x,rfl,_,er⟩:=h3 i y hi;refine .tup (f7 er λ z=>by rw[z,hp] at er;cases er) λ y hy=>?_
 simp only[AQ,C6,GY,or_false] at hy;rcases hy with rfl|rfl|rfl<;>exact .int _
theorem NA.item{y:V}(h:NA H p N)(l:∀m∈N,m.2.2.2.length<=1000)(e:H p=some (.lst vs))(hy:y∈vs):Ew (PX p H) 3 y:=by
 obtain⟨vs',h1,h2,h3⟩:=h.la.lst;rw[h1] at e;cases e;obtain⟨i,hi⟩:=rY.mp hy;obtain⟨r,x,rfl,ex,er⟩:=h3 i y hi;obtain⟨m,hm,rfl⟩:=DT.mp (DL ex);refine .tup (f7 er λ z=>by rw[z,h1] at er;cases er) λ y hy=>?_
 simp only[j7,jN,C6,GY,or_false] at hy;rcases hy with rfl|rfl|rfl
 ·exact .int _
 ·exact .int _
 ·exact oE (h.bd m hm).1 h1 (h.bd m hm).2 (l m hm)
theorem NA.ew(h:NA H p N)(l:∀m∈N,m.2.2.2.length<=1000)(l2:N.length<=1000):Ew H 4 (.ref p):=by
 obtain⟨vs,h1,h2,_⟩:=h.la.lst;exact .lst h1 (by rw[h2,BY];exact l2) λ y hy=>(h.item l h1 hy).same Y0
def BA(H:Hp)(p:Addr)(Bs:List (List T3)):Prop:=∃rs:List Addr,H p=some (.lst (rs.map V.ref))/\rs.length=Bs.length/\p∉rs/\rs.Nodup/\∀(i:Nat) r B,rs[i]?=some r->Bs[i]?=some B->LA AQ H r B
section
variable {H H':Hp}{p q:Addr}{Bs:List (List T3)}{d:Int}
theorem BA.nil(h:H p=some (.lst [])):BA H p []:=⟨[],h,rfl,by simp,List.nodup_nil,λ i r B e=>by simp at e⟩
theorem BA.u(h:BA H p Bs)(s:SameU H H'):BA H' p Bs:=by
 obtain⟨rs,h1,h2,h3,h4,h5⟩:=h;exact⟨rs,s.lst h1,h2,h3,h4,λ i r B a b=>(h5 i r B a b).u s⟩
theorem BA.lst(h:BA H p Bs):∃rs:List Addr,H p=some (.lst (rs.map V.ref))/\rs.length=Bs.length:=by
 obtain⟨rs,h1,h2,_⟩:=h;exact⟨rs,h1,h2⟩
theorem BA.rd(h:BA H p Bs):RdV K H (.ref p) (.list (Bs.map JR)):=by
 obtain⟨rs,h1,h2,-,-,h5⟩:=h;refine .lst (SqL.of h1) ?_;clear h1
 induction rs generalizing Bs with
 |nil =>
  cases Bs with
  |nil=>exact .nil
  |cons B Bs=>simp at h2
 |cons r rs ih =>
  cases Bs with
  |nil=>simp at h2
  |cons B Bs=>exact .cons (Bw (h5 0 r B rfl rfl)) (ih (Bs:=Bs) (by simpa using h2) λ i r B a b=>h5 (i+1) r B a b)
theorem BA.snoc{B:List T3}(h:BA H p Bs)(hx:H p=some (.lst (rs.map V.ref)))(hr:LA AQ H r B)(n1:r≠p)(n2:r∉rs):BA (AD H p (.lst (rs.map V.ref++[.ref r]))) p (Bs++[B]):=by
 obtain⟨rs',h1,h2,h3,h4,h5⟩:=h;rw[hx] at h1;have e:rs=rs':=by
  have:rs.map V.ref=rs'.map V.ref:=by
   injection h1 with h1
   injection h1
  exact(Aw λ a b z=>by cases z;rfl).mp this
 subst e;refine⟨rs++[r],by rw[AI];simp,by simp[h2],by simp[h3,Ne.symm n1],?_,λ i r' B' a b=>?_⟩
 ·rw[jG];exact⟨h4,by simp,λ a ha b hb=>by rw[D8] at hb;subst hb;exact λ z=>n2 (z ▸ ha)⟩
 ·rcases P3 i rs.length with z|z
  ·rw[GF z] at a;rw[GF ⋯] at b;exact G1 (h5 i r' B' a b) hx λ z=>h3 (z ▸ DL a)
  ·obtain⟨lt,_⟩:=CP.mp a;have ei:i=rs.length:=by simp at lt;omega
   subst ei;rw[GM (BU _),gC] at a;rw[GM ⋯,show rs.length-Bs.length=0 by omega] at b;cases a;cases b;exact G1 hr hx n1
end
def Yg(H H':Hp)(p:Addr):Prop:=∀rs:List Addr,H' p=some (.lst (rs.map V.ref))->∀r∈rs,H r=none
theorem JV{rs':List Addr}(h:(HO.lst (rs.map V.ref))=.lst (rs'.map V.ref)):rs=rs':=by
 injection h with h
 exact(Aw λ a b z=>by cases z;rfl).mp h
theorem Yg.of(e:H' p=some (.lst (rs.map V.ref)))(h:∀r∈rs,H r=none):Yg H H' p:=λ rs' e'=>by
 rw[e] at e';rw[<- JV (Option.some.inj e')];exact h
theorem Ma.bt_still(hd:0<d)(t:Int):Ma.bt d [(0,d-1,0)] t=some t:=by
 have h:=Ma.bt_snoc d [] (0,d-1,0) t;rw[kC,Ma.bt_nil] at h;rw[h];unfold Ma.btS;dsimp only;rw[Ma.nextO_eq d 0 (d-1) t ⋯];have m:=EG t hd;rw[if_neg ⋯,if_neg ⋯,Int.add_zero]
theorem Ma.ck_still(hd:0<d):Ma.CK d [(0,d-1,0)]:=Ma.ck_one hd ⟨DY _,by show 0<=d-1;omega,by show d-1<d;omega,DY _⟩
theorem LA.one{x:T3}(h:H p=some (.lst [.ref r]))(e:H r=some (.tup (AQ x))):LA AQ H p [x]:=LA.of h rfl λ i y hi=>by
 match i,hi with
 |0,hi=>cases hi;exact⟨r,rfl,λ z hz=>by cases hz;exact e⟩
 |k+1,hi=>simp at hi
theorem HC{α:Type}{L:List α}{x:α}(h:L[i]?=some x):L.take (i+1)=L.take i++[x]:=by rw[List.take_succ,h];rfl
theorem BA.pushAt{t:Addr}{Cs:List (List T3)}{C:List T3}{x:T3}(h:BA H p Cs)(hx:H p=some (.lst (rs.map V.ref)))(hi:rs[i]?=some r)(hC:Cs[i]?=some C)(hv:H r=some (.lst vs))(ht:H t=some (.tup (AQ x))) :
  BA (AD H r (.lst (vs++[.ref t]))) p (Cs.set i (C++[x])):=by
 obtain⟨rs',h1,h2,h3,h4,h5⟩:=h;rw[hx] at h1;have e:=JV (Option.some.inj h1);subst e;have np:p≠r:=λ z=>h3 (z ▸ DL hi)
 refine⟨rs,by rw[AJ np];exact hx,by simp[h2],h3,h4,λ j r' B a b=>?_⟩;obtain⟨la,ea⟩:=CP.mp a;obtain⟨li,ei⟩:=CP.mp hi;rw[gG] at b
 by_cases z:i=j
 ·subst z;rw[if_pos rfl,if_pos ⋯] at b;cases b;rw[hi] at a;cases a;exact(h5 _ _ C hi hC).append (x:=x) hv ht
 ·rw[if_neg z] at b;have ne:r'≠r:=λ z2=>by
   have:rs[j]=rs[i]:=by rw[ea,ei,z2]
   exact z ((zB h4).mp this).symm
  exact G1 (h5 j r' B a b) hv ne
theorem BA.off{Cs:List (List T3)}{ys:List V}(h:BA H p Cs)(hx:H p=some (.lst (rs.map V.ref)))(hr:H r=some (.lst vs))(n1:p≠r)(n2:r∉rs):BA (AD H r (.lst ys)) p Cs:=by
 obtain⟨rs',h1,h2,h3,h4,h5⟩:=h;rw[hx] at h1;have e:=JV (Option.some.inj h1);subst e;exact⟨rs,by rw[AJ n1];exact hx,h2,h3,h4,λ j r' B a b=>G1 (h5 j r' B a b) hr λ z=>n2 (z ▸ DL a)⟩
theorem BA.self{Cs:List (List T3)}(h:BA H p Cs)(hx:H p=some (.lst (rs.map V.ref))):p∉rs/\rs.Nodup/\rs.length=Cs.length/\∀r∈rs,H r≠none:=by
 obtain⟨rs',h1,h2,h3,h4,h5⟩:=h;rw[hx] at h1;have e:=JV (Option.some.inj h1);subst e;refine⟨h3,h4,h2,λ r hr z=>?_⟩;obtain⟨j,hj⟩:=KF hr;have lj:=(CP.mp hj).1;exact HE (enc':=AQ) (h5 j r _ hj (BK ⋯)) z rfl
abbrev Tb:=List (List T3)
variable {B Cs:Tb}
def cl(Cs:Tb)(p:Int):List T3:=Cs.getD p.toNat []
def GE(d:Int)(F:List BN)(Cs:Tb)(p t:Int)(o:Option Int):Option Int:=F.foldl (λ acc m=>if m.1=p then Ma.omin acc (Ma.obind (Ma.bt d m.2.2.2) (Ma.bt d (cl Cs m.2.1)) t) else acc) o
def stepT(d:Int)(F:List BN)(Cs:Tb)(p t:Int):Option Int:=GE d F Cs p t (Ma.bt d (cl Cs p) t)
theorem NQ{p:Int}:GE d (F++[m]) Cs p t o=if m.1=p then Ma.omin (GE d F Cs p t o) (Ma.obind (Ma.bt d m.2.2.2) (Ma.bt d (cl Cs m.2.1)) t) else GE d F Cs p t o:=by simp[GE]
def stay(d:Int)(n:Nat)(p:Int):Tb:=(QX n).map λ(i:Nat)=>if(i:Int)=p then [(0,d-1,0)] else []
theorem eI{p:Int}(h0:0<=p)(h1:p<(Cs.length:Int)):Cs[p.toNat]?=some (cl Cs p):=by
 unfold cl;rw[IP,BK ⋯];rfl
theorem IU{p:Int}(h0:0<=p)(h1:p<(Cs.length:Int)):cl Cs p∈Cs:=DL (eI h0 h1)
theorem eP{p:Int}(h0:0<=p)(h1:p<(Cs.length:Int))(g0:0<=q)(g1:q<(Cs.length:Int)):cl (Cs.set q.toNat R) p=if q=p then R else cl Cs p:=by
 unfold cl;rw[IP,IP,gG]
 by_cases e:q=p
 ·subst e;rw[if_pos rfl,if_pos rfl,if_pos ⋯];rfl
 ·rw[if_neg e,if_neg ⋯]
theorem cE{p:Int}(h0:0<=q)(h1:q<(n:Int)):cl (stay d n p) q=if q=p then [(0,d-1,0)] else []:=by
 unfold cl stay;rw[IP,EH,List.getElem?_range ⋯];show(if((q.toNat:Nat):Int)=p then _ else _)=_;rw[show((q.toNat:Nat):Int)=q by omega]
def TOk(d:Int)(M:Nat)(Cs:Tb):Prop:=∀C∈Cs,Ma.MuR d C M
def FOk(d size:Int)(m:Nat)(F:List BN):Prop:=∀f∈F,(0<=f.1/\f.1<size)/\(0<=f.2.1/\f.2.1<size)/\Ma.MuR d f.2.2.2 m
theorem TOk.le{d:Int}{M M':Nat}{Cs:Tb}(h:TOk d M Cs)(l:M<=M'):TOk d M' Cs:=λ C hC=>(h C hC).le l
def L7(f m:Nat):Nat->Nat
 |0=>2
 |k+1=>L7 f m k+f*(m+L7 f m k)
structure NetOk(d size:Int)(N:List BN):Prop where
 all:∀m∈N,(0<=m.1/\m.1<size)/\(0<=m.2.1/\m.2.1<size)/\m.2.2.2.length<=100/\∀w∈m.2.2.2,0<=w.1/\w.1<=w.2.1/\w.2.1<d/\1<=w.2.2
def Fords(d:Int)(N F:List BN):Prop:=F.length=N.length/\∀(i:Nat) m f,N[i]?=some m->F[i]?=some f->f.1=m.1/\f.2.1=m.2.1/\Ma.CK d f.2.2.2/\f.2.2.2.length<=2*m.2.2.2.length+1/\∀t,Ma.bt d f.2.2.2 t=Ma.bt d m.2.2.2 t
theorem NetOk.wins(h:NetOk d size N)(hm:m∈N):Ma.Wins d m.2.2.2:=λ w hw=>by
 obtain⟨a,b,c,e⟩:=(h.all m hm).2.2.2 w hw;exact⟨a,b,c,⋯⟩
theorem Fords.ok{m:Nat}(h:Fords d N F)(hN:NetOk d size N)(l:∀x∈N,4*x.2.2.2.length+2<=m):FOk d size m F:=λ f hf=>by
 obtain⟨i,hi⟩:=KF hf;have lt:=(CP.mp hi).1;have hx:=BK (show i<N.length by rw[<- h.1];exact lt);obtain⟨e1,e2,ck,ln,_⟩:=h.2 i _ f hx hi;have hm:=DL hx;have:=hN.all _ hm;have:=l _ hm;exact⟨by rw[e1];exact(hN.all _ hm).1,by rw[e2];exact(hN.all _ hm).2.1,ck,λ z=>(Ma.mu_of ck (Ma.tells_bf z)).le ⋯⟩
structure FA(H:Hp)(p:Addr)(F:List BN):Prop where
 la:LA j7 H p (F.map jN)
 bd:∀m∈F,LA AQ H m.2.2.1 m.2.2.2
theorem FA.u{H H':Hp}{p:Addr}{F:List BN}(h:FA H p F)(s:SameU H H'):FA H' p F:=⟨h.la.u s,λ m hm=>(h.bd m hm).u s⟩
theorem NA.u{H H':Hp}{p:Addr}{N:List BN}(h:NA H p N)(s:SameU H H'):NA H' p N:=⟨h.la.u s,λ m hm=>⟨(h.bd m hm).1.u s,(h.bd m hm).2⟩,h.nd⟩
theorem NA.net(h:NA H p N)(hN:NetOk d size N)(h1:1<=size):OQ H d (.int size) (.ref p)=true:=by
 obtain⟨vs,e1,e2,e3⟩:=h.la.lst;unfold OQ;rw[bH e1];simp only[KH,decide_eq_true_eq];refine⟨h1,JL.mpr λ y hy=>?_⟩;obtain⟨i,hi⟩:=rY.mp hy;obtain⟨r,x,rfl,ex,er⟩:=e3 i y hi;obtain⟨m,hm,rfl⟩:=DT.mp (DL ex);obtain⟨⟨a1,a2⟩,⟨b1,b2⟩,_,w⟩:=hN.all m hm;unfold DP;rw[gX er];have hb:=(h.bd m hm).1;have hB:=mJ hb (hN.wins hm);show(FY size (.int m.1)&&(FY size (.int m.2.1)&&(GS H d (.ref m.2.2.1)&&K4 H (.ref m.2.2.1))))=true;rw[hB];simp only[FY,KH,decide_eq_true_eq];refine⟨⟨a1,a2⟩,⟨b1,b2⟩,trivial,?_⟩;obtain⟨us,u1,u2,u3⟩:=hb.lst;unfold K4;rw[bH u1];refine JL.mpr λ y hy=>?_
 obtain⟨i,hi⟩:=rY.mp hy;obtain⟨r,x,rfl,ex,er⟩:=u3 i y hi;unfold ID;rw[gX er];have:=(w x (DL ex)).2.2.2;simp only[AQ,decide_eq_true_eq];omega
theorem BA.at{i:Int}(h:BA H p Cs)(h0:0<=i)(h1:i<(Cs.length:Int)):∃(rs:List Addr)(r:Addr),H p=some (.lst (rs.map V.ref))/\DK (rs.map V.ref) i=some (.ref r)/\rs[i.toNat]?=some r/\rs.length=Cs.length/\LA AQ H r (cl Cs i):=by
 obtain⟨rs,e1,e2,e3,e4,e5⟩:=h;have hr:rs[i.toNat]?=some (rs[i.toNat]'⋯):=BK ⋯;refine⟨rs,_,e1,?_,hr,e2,e5 _ _ _ hr (eI h0 h1)⟩;have:=F6 (j:=i.toNat) (v:=V.ref (rs[i.toNat]'⋯)) (xs:=rs.map V.ref) (by rw[EH,hr];rfl);rw[show((i.toNat:Nat):Int)=i by omega] at this;exact this
theorem UZ{i:Int}(h0:0<=i)(h1:i<(n:Int)):J7 n i=some i.toNat:=by
 unfold J7;rw[if_pos h0,if_pos h1]
theorem BA.set{H:Hp}{p r:Addr}{Cs:Tb}{rs:List Addr}{i:Nat}{R:List T3}(h:BA H p Cs)(hx:H p=some (.lst (rs.map V.ref)))(hr:LA AQ H r R)(n1:r≠p)(n2:r∉rs)(hi:i<Cs.length):BA (AD H p (.lst ((rs.map V.ref).set i (.ref r)))) p (Cs.set i R):=by
 obtain⟨rs',e1,e2,e3,e4,e5⟩:=h;rw[hx] at e1;have e:=JV (Option.some.inj e1);subst e;have ms:(rs.map V.ref).set i (.ref r)=(rs.set i r).map V.ref:=by rw[vB]
 refine⟨rs.set i r,by rw[AI,ms],by simp[e2],λ z=>?_,?_,λ j r' B a b=>?_⟩
 ·rcases rT z with z|z
  ·exact e3 z
  ·exact n1 z.symm
 ·rw[List.nodup_iff_pairwise_ne,zR];intro a b ha hb hab;rw[Ak,Ak];have ha':a<rs.length:=by simpa using ha
  have hb':b<rs.length:=by simpa using hb
  by_cases z1:i=a
  ·rw[if_pos z1,if_neg ⋯];exact λ z=>n2 (z ▸ KR hb')
  ·rw[if_neg z1]
   by_cases z2:i=b
   ·rw[if_pos z2];exact λ z=>n2 (z ▸ KR ha')
   ·rw[if_neg z2];intro z;have:=(zB e4).mp z;omega
 ·rw[gG] at a b
  by_cases z:i=j
  ·rw[if_pos z,if_pos ⋯] at a b;cases a;cases b;exact G1 hr hx n1
  ·rw[if_neg z] at a b;exact G1 (e5 j r' B a b) hx λ z=>e3 (z ▸ DL a)
theorem Q8{σ:L2.St}(hB:BA H p Cs)(hl:Cs.length<=1000)(q:∀(l:Addr)(H':Hp),Same H H'->H l=none->BA H' l Cs->Yg H H' l->Q (.ref l) H') :
  FQ [none] (GP 0) EC (jH (λ xs H Q=>∃p ys,xs=[V.ref p]/\(SqL K H p ys\/SqT K H p ys)/\∀l,H l=none->Q (V.ref l) (AD H l (.lst ys))) (MA (tVar 0) j5)) σ Q (cY K p) H:=by
 obtain⟨rs,h1,h2,h3,h4,h5⟩:=id hB;have hrl:(rs.map V.ref).length=Cs.length:=by simp[h2]
 refine HX (K:=K) (a:=p) (xs:=rs.map V.ref) (λ D i H'=>Same H H'/\BA H' D (Cs.take i)/\Yg H H' D) (λ D hD=>⟨BD hD _,BA.nil AI,Yg.of (rs:=[]) AI (λ r hr=>by cases hr)⟩) (λ D i H' _ _ h=>SqL.of (h.1 _ _ h1)) ?_ ?_
 ·intro D i y H' hD hi z9;obtain⟨sD,hB',hY⟩ := z9;have hil:i<rs.length:=by
   have:=(CP.mp hi).1
   simpa using this
  have hr':rs[i]?=some rs[i]:=BK hil;have ey:y=.ref rs[i]:=by
   rw[EH,hr'] at hi;exact(Option.some.inj hi).symm
  subst ey;have hb:Cs[i]?=some (Cs[i]'⋯):=BK ⋯;have la:=(h5 i _ _ hr' hb).same sD;generalize Cs[i]'⋯=C at hb la;generalize rs[i]=rc at la;obtain⟨us,hu1,hu2,hu3⟩:=la.lst;refine⟨λ k v e=>?_,?_⟩
  ·match k,e with
   |0,e=>cases e
   |k+1,e=>cases e
  refine⟨_,U,rc,_,U,.inl (SqL.of hu1),λ l hl'=>?_⟩;have hl0:=hl';have s1:=BD hl' (.lst us);have hc:=la.copy s1 hu1 AI;generalize AD H' l (.lst us)=H1 at *;obtain⟨os,o1,o2,o3,o4,o5⟩:=id hB';have hol:os.length=i:=by rw[o2,GV];omega
  have nlD:l≠D:=λ z=>by rw[z,o1] at hl0;cases hl0
  have nlo:l∉os:=λ z=>by
   obtain⟨j,hj⟩:=KF z;have lj:=(CP.mp hj).1;exact HE (enc':=AQ) (o5 j l _ hj (BK ⋯)) hl0 rfl
  refine⟨_,s1 _ _ o1,BW (by simp;omega),C4 hD (sD.trans s1),?_,Yg.of (rs:=os++[l]) (by rw[AI];simp) λ r hr=>?_⟩
  ·rw[HC hb];exact(hB'.u (SameU.of s1)).snoc (s1 _ _ o1) hc nlD nlo
  ·rcases EW.mp hr with hr|hr
   ·exact hY os o1 r hr
   ·rw[D8] at hr;subst hr;exact sD.free hl0
 ·intro D H' hD z9;obtain⟨sD,hB',hY⟩ := z9;rw[hrl,JH] at hB';exact q D H' sD hD hB' hY
inductive spNeedNet(vs:List V)(H:Hp)(Q:VK)(z3q:XK):Prop
 |mk (d size:Int) (p:Addr) (N:List BN):vs=[.int d,.int size,.ref p]->NA H p N->N.length<=1000->NetOk d size N->1<=size->(∀H',Same H H'->Q .non H')->spNeedNet vs H Q z3q
inductive spNeedPlace(vs:List V)(H:Hp)(Q:VK)(z3q:XK):Prop
 |mk (size p:Int):vs=[.int size,.int p]->0<=p->p<size->Q .non H->spNeedPlace vs H Q z3q
inductive spFordsOf(vs:List V)(H:Hp)(Q:VK)(z3q:XK):Prop
 |mk (d size:Int) (p:Addr) (N:List BN):vs=[.int d,.ref p]->NA H p N->N.length<=1000->0<d->NetOk d size N->(∀(l:Addr)(F:List BN)(H':Hp),Same H H'->FA H' l F->Fords d N F->Q (.ref l) H')->spFordsOf vs H Q z3q
inductive spStand(vs:List V)(H:Hp)(Q:VK)(z3q:XK):Prop
 |mk (day:Int):vs=[.int day]->(∀(l:Addr)(H':Hp),Same H H'->H l=none->LA AQ H' l [(0,day-1,0)]->Q (.ref l) H')->spStand vs H Q z3q
inductive spStaying(vs:List V)(H:Hp)(Q:VK)(z3q:XK):Prop
 |mk (d:Int) (n:Nat) (p:Int):vs=[.int d,.int n,.int p]->n<=1000->(∀(l:Addr)(H':Hp),Same H H'->H l=none->BA H' l (stay d n p)->Yg H H' l->Q (.ref l) H')->spStaying vs H Q z3q
inductive spCopied(vs:List V)(H:Hp)(Q:VK)(z3q:XK):Prop
 |mk (p:Addr) (Cs:Tb):vs=[.ref p]->BA H p Cs->Cs.length<=1000->(∀(l:Addr)(H':Hp),Same H H'->H l=none->BA H' l Cs->Yg H H' l->Q (.ref l) H')->spCopied vs H Q z3q
def J8(T:Hp->Prop)(stp:Int->List BN->Tb->Int->Int->Option Int):Sp:=λ vs H Q _=>∃(d:Int)(pF:Addr)(F:List BN)(pt:Addr)(Cs:Tb)(M m:Nat),vs=[.int d,.ref pF,.ref pt]/\FA H pF F/\BA H pt Cs/\T H/\FOk d Cs.length m F/\TOk d M Cs/\M+F.length*(m+M)<=1000000/\(2*(m+1)+2)*(2*(M+1)+2)<=16000000/\Cs.length<=1000 /\
 ∀(l:Addr)(Ds:Tb)(H':Hp),SameU H H'->T H'->H l=none->BA H' l Ds->Yg H H' l->Ds.length=Cs.length->TOk d (M+F.length*(m+M)) Ds->(∀p,0<=p->p<(Cs.length:Int)->∀t,Ma.bt d (cl Ds p) t=stp d F Cs p t)->Q (.ref l) H'
section
variable {f:Addr}
theorem tQ(F:Fun K "need_net" "need_net" YA f fd)(Cc2:Callee P w K mg base n "is_net" ["day","size","roads"] spIsNet):FnOk P w K mg base B5 (n+1) f fd ["day","size","roads"] spNeedNet:=by
 refine F.okQ uH ?_ ?_;walk_at "o";obtain⟨d,size,p,N,rfl,hN,nl,ok,h1,q⟩:=h;refine⟨_,(AA (AE (EF (CD (AB Cc2 hr U (A4 (qv 0) (A4 (qv 1) (A4 (qv 2) A5)))))) (AA K9) AY)),?_⟩;walk_at "d";have ew:=hN.ew (λ m hm=>by have:=(ok.all m hm).2.2.1;omega) nl;refine⟨_,U,_,U,_,U,d,.int size,.ref p,U,.int _,Ew.dn (n:=0) ew,λ H1 s1=>?_⟩;rw[hN.net ok h1];exact⟨_,U,BB (q H1 s1)⟩
theorem yR(F:Fun K "need_place" "need_place" X8 f fd)(Ci0:Callee P w K mg base n "is_number" ["count","thing"] spNumber):FnOk P w K mg base B5 (n+1) f fd ["size","thing"] spNeedPlace:=by
 refine F.okQ uE ?_ ?_;walk_at "o";obtain⟨size,p,rfl,h0,h1,q⟩:=h;refine⟨_,(AA (AE (EF (CD (AB Ci0 hr U (A4 (qv 0) (A4 (qv 1) A5))))) (AA K9) AY)),?_⟩;walk_at "d";refine⟨_,U,_,U,size,.int p,U,.int _,?_⟩;have e:FY size (.int p)=true:=by simp[FY,h0,h1]
 rw[e];exact⟨_,U,BB q⟩
theorem RH(F:Fun K "standing" "standing" XC f fd):FnOk P w K mg base B5 (n+1) f fd ["day"] spStand:=by
 refine F.okQ tH ?_ ?_;walk_at "o";obtain⟨day,rfl,q⟩:=h;refine⟨_,(AA (AF (D0 (A4 (D4 (A4 A6 (A4 (A7 D5 (qv 0) A6) (A4 A6 A5)))) A5)))),?_⟩;walk_at "d";refine⟨_,U,_,_,U,U,QY,λ r1 hr1=>?_⟩;generalize hgH1:AD _ r1 _=H1;revert H1;refine BE hr1 λ H1 s1 e1=>?_
 refine⟨kG,λ pl hpl=>?_⟩;generalize hgH2:AD _ pl _=H2;revert H2;refine BE hpl λ H2 s2 e2=>?_
 exact q pl H2 (s1.trans s2) (s1.free hpl) (LA.one e2 (s2 _ _ e1))
theorem vE(F:Fun K "fords_of" "fords_of" ZR f fd)(Cm1:Callee P w K mg base n "clock_of" ["day","board"] spClockOf):FnOk P w K mg base B5 (n+1) f fd ["day","roads"] spFordsOf:=by
 refine F.okQ wO ?_ ?_;walk_at "o";obtain⟨d,size,pr,N,rfl,hN,nl,hd,ok,q⟩:=h;refine⟨_,(AA (AF (GK ["start","end","board","day"] [none,none,none,some 0] (BlkOk.of U U (SubL.to (IA U EX)) U) U (DN (qv 1)) (λ _ _ _ _=>(N6 (n:=3) K U U (BI (AV (i:=0) (show(["start","end","board","day"]:List Str).Nodup by decide) U (AH U)) (BI (AV (i:=1) (show(["start","end","board","day"]:List Str).Nodup by decide) U (AH U)) (BI (AV (i:=2) (show(["start","end","board","day"]:List Str).Nodup by decide) U (AH U)) FX))))) (λ _ _ _ _=>(D4 (A4 (qv 0) (A4 (qv 1) (A4 (AB Cm1 hr U (A4 (qv 3) (A4 (qv 2) A5))) A5)))))))),?_⟩;walk_at "d";obtain⟨ws,hw1,hw2,hw3⟩:=hN.la.lst;rw[BY] at hw2;refine⟨_,U,pr,U,⟨_,SqL.of hw1⟩,?_⟩;refine HX (K:=K) (a:=pr) (xs:=ws) (λ D i H'=>Same H H'/\∃F,FA H' D F/\(∀m∈F,m.2.2.1≠D)/\Fords d (N.take i) F) (λ D hD=>⟨BD hD _,[],⟨LA.nil AI,λ m hm=>by cases hm⟩,(λ m hm=>by cases hm),by simp,λ i m f a b=>by simp at b⟩) (λ D i H' _ _ h=>SqL.of (h.1 _ _ hw1)) ?_ ?_
 ·intro D i y H' hD hi z9;obtain⟨sD,F,hF,hne,fo⟩ := z9;obtain⟨r,x,rfl,ex,er⟩:=hw3 i y hi;have hi2:i<N.length:=by
   have:=(CP.mp hi).1;omega
  have em:=BK hi2;rw[EH,em] at ex;cases ex;have hm:=KR hi2;have hb:=(hN.bd _ hm).1;generalize N[i]=m at *;refine⟨r,_,U,SqT.of (sD _ _ er),U,_,_,U,_,_,U,_,_,U,U,λ k v e=>?_,?_⟩
  ·match k,e with
   |0,e=>cases e
   |1,e=>cases e
   |2,e=>cases e
   |3,e=>exact e
   |k+4,e=>cases e
  have lb:=(ok.all m hm).2.2.1;refine⟨_,U,_,U,_,U,_,U,d,m.2.2.1,m.2.2.2,U,hb.same sD,⋯,hd,ok.wins hm,λ l R' H1 s1 f1 la1 l1 ck1 e1=>?_⟩;refine⟨QY,λ rr hrr=>?_⟩;generalize hgH2:AD _ rr _=H2;revert H2;refine BE hrr λ H2 s2 e2=>?_
  have s12:=s1.trans s2;obtain⟨vs,hv1,hv2,_⟩:=(hF.u (SameU.of s12)).la.lst;have ml:F.length=i:=by rw[fo.1,GV];omega
  rw[BY] at hv2;have nlD:l≠D:=λ z=>by
   obtain⟨us,u1,_⟩:=hF.la.lst;rw[z,u1] at f1;cases f1
  refine⟨_,hv1,BW ⋯,C4 hD (sD.trans s12),F++[(m.1,m.2.1,l,R')],⟨?_,λ x hx=>?_⟩,λ x hx=>?_,?_,λ j a b ha hb'=>?_⟩
  ·rw[HA];exact(hF.u (SameU.of s12)).la.append (x:=(m.1,m.2.1,l)) hv1 e2
  ·rcases EW.mp hx with hx|hx
   ·exact G1 ((hF.u (SameU.of s12)).bd x hx) hv1 (hne x hx)
   ·rw[D8] at hx;subst hx;exact G1 (la1.same s2) hv1 nlD
  ·rcases EW.mp hx with hx|hx
   ·exact hne x hx
   ·rw[D8] at hx;subst hx;exact nlD
  ·rw[G2,ml,GV];simp;omega
  ·rw[HC em] at ha;rcases P3 j i with z|z
   ·rw[GF (by simp;omega)] at ha;rw[GF ⋯] at hb';exact fo.2 j a b ha hb'
   ·have:=(CP.mp hb').1;simp at this;have ej:j=i:=⋯;subst ej;rw[GM (by simp;omega),GV,show j-min j N.length=0 by omega] at ha;rw[GM ⋯,ml,gC] at hb';cases ha;cases hb';exact⟨U,U,ck1,l1,e1⟩
 ·intro D H' hD z9;obtain⟨sD,F,hF,hne,fo⟩ := z9;rw[hw2,JH] at fo;exact q D F H' sD hF fo
theorem ON(F:Fun K "copied_table" "copied_table" X1 f fd)(B:Bl mg):FnOk P w K mg base B5 (n+1) f fd ["told"] spCopied:=by
 refine F.okQ xC ?_ ?_;walk_at "o";obtain⟨p,Cs,rfl,hB,hl,q⟩:=h;refine⟨_,(AA (AF (GK ["clock"] [none] (BlkOk.of U U (SubL.to EX) U) U (DN (qv 0)) (λ _ _ _ _=>(AV (i:=0) (show(["clock"]:List Str).Nodup by decide) U (AH U))) (λ _ _ _ _=>(DA (yV K U) U B.list_ NU (A4 (qv 0) A5)))))),?_⟩;walk_at "d";obtain⟨rs,h1,h2,h3,h4,h5⟩:=id hB;refine⟨_,U,p,U,⟨_,SqL.of h1⟩,?_⟩;exact Q8 hB hl q
theorem tG(F:Fun K "staying" "staying" c9 f fd)(B:Bl mg)(Cn1:Callee P w K mg base n "standing" ["day"] spStand):FnOk P w K mg base B5 (n+1) f fd ["day","size","place"] spStaying:=by
 refine F.okQ uM ?_ ?_;walk_at "o";obtain⟨d,m,p,rfl,ml,q⟩:=h;refine⟨_,(AA (AF (GK ["number","day","place"] [none,some 0,some 2] (BlkOk.of U U (SubL.to (IA U (IA U EX))) U) U (HZ U B.range (A4 (qv 1) A5)) (λ _ _ _ _=>(AV (i:=0) (show(["number","day","place"]:List Str).Nodup by decide) U (AH U))) (λ _ _ _ _=>(KB (FJ (AX CS (qv 0) (qv 2) (AS _)) (AB Cn1 hr U (A4 (qv 1) A5)) (D0 A5))))))),?_⟩;walk_at "d";refine⟨_,U,(m:Int),U,⋯,⋯,?_⟩;have mt:((m:Nat):Int).toNat=m:=⋯;refine bT (lo:=0) (n:=((m:Nat):Int).toNat) (λ D i H'=>Same H H'/\BA H' D (stay d i p)/\Yg H H' D) (λ D hD=>⟨BD hD _,BA.nil AI,Yg.of (rs:=[]) AI (λ r hr=>by cases hr)⟩) ?_ ?_
 ·intro D i H' hD hi z9;obtain⟨sD,hB,hY⟩ := z9;refine⟨λ k v e=>?_,?_⟩
  ·match k,e with
   |0,e=>cases e
   |1,e=>exact e
   |2,e=>exact e
   |k+3,e=>cases e
  have fin:∀(l:Addr)(C:List T3)(H1:Hp),Same H' H1->H' l=none->LA AQ H1 l C->C=(if(i:Int)=p then [(0,d-1,0)] else [])->∃ys,H1 D=some (.lst ys)/\ys.length<sizeLine/\Same H (AD H1 D (.lst (ys++[.ref l])))/\BA (AD H1 D (.lst (ys++[.ref l]))) D (stay d (i+1) p)/\Yg H (AD H1 D (.lst (ys++[.ref l]))) D:=λ l C H1 s1 fl hC eC=>by
   obtain⟨os,o1,o2,o3,o4,o5⟩:=id hB;have hol:os.length=i:=by rw[o2];simp[stay]
   have nlD:l≠D:=λ z=>by rw[z,o1] at fl;cases fl
   have nlo:l∉os:=λ z=>by
    obtain⟨j,hj⟩:=KF z;have lj:=(CP.mp hj).1;exact HE (enc':=AQ) (o5 j l _ hj (BK ⋯)) fl rfl
   refine⟨_,s1 _ _ o1,BW (by simp;omega),C4 hD (sD.trans s1),?_,Yg.of (rs:=os++[l]) (by rw[AI];simp) λ r hr=>?_⟩
   ·have:=(hB.u (SameU.of s1)).snoc (s1 _ _ o1) hC nlD nlo;have e:stay d (i+1) p=stay d i p++[C]:=by
     unfold stay;rw[Bo,HA,eC];rfl
    rw[e];exact this
   ·rcases EW.mp hr with hr|hr
    ·exact hY os o1 r hr
    ·rw[D8] at hr;subst hr;exact sD.free fl
  rw[show(0:Int)+((i:Nat):Int)=(i:Int) by omega];refine⟨λ v H1=>∃(l:Addr)(C:List T3),v=.ref l/\Same H' H1/\H' l=none/\LA AQ H1 l C/\C=(if(i:Int)=p then [(0,d-1,0)] else []),?_,?_⟩
  ·refine⟨_,U,_,U,U,_,U,AZ (λ c=>?_) (λ c=>?_)⟩
   ·have c':(i:Int)=p:=by
     have:=D6 c;injection this
    refine⟨_,U,d,U,λ l H1 s1 f1 la1=>⟨l,_,U,s1,f1,la1,by rw[if_pos c']⟩⟩
   ·have c':¬(i:Int)=p:=λ z=>c (CB (by rw[z]))
    refine⟨II,λ l hl=>⟨l,[],U,BD hl _,hl,LA.nil AI,by rw[if_neg c']⟩⟩
  intro v H1 z9;obtain⟨l,C,rfl,s1,f1,la1,eC⟩ := z9;exact fin l C H1 s1 f1 la1 eC
 ·intro D H' hD z9;obtain⟨sD,hB,hY⟩ := z9;rw[mt] at hB;exact q D H' sD hD hB hY
theorem tS(hTB:TB T)(F:Fun K "ride_first" "ride_first" bC f fd)(Cc0:Callee P w K mg base n "copied_table" ["told"] spCopied)(Cn0:Callee P w K mg base n "sooner" ["day","one","other"] (spTwo Ma.omin))(Cd2:Callee P w K mg base n "behind" ["day","one","other"] (spBehind T)):FnOk P w K mg base B5 (n+1) f fd ["day","fords","told"] (J8 T stepT):=by
 refine F.okQ CH ?_ ?_;walk_at "o";obtain⟨d,pF,F,pt,Cs,M,m,rfl,hF,hB,hT,fok,tok,b1,b2,nl,q⟩:=h;refine⟨_,(A9 (AC (i:=3) CH.nd U (AH U) (AB Cc0 hr U (A4 (qv 2) A5))) (A9 (DJ PassesOwn.never U (DN (qv 1)) (G8 U (BI (AV (i:=4) CH.nd U (AH U)) (BI (AV (i:=5) CH.nd U (AH U)) (BI (AV (i:=6) CH.nd U (AH U)) FX)))) (AA (QR (AB Cn0 hr U (A4 (qv 0) (A4 (A8 AM (qv 3) (qv 4) Y9) (A4 (AB Cd2 hr U (A4 (qv 0) (A4 (qv 6) (A4 (A8 AM (qv 2) (qv 5) Y9) A5)))) A5)))) (OH (qv 3) (qv 4) PD)))) (AA (AF (qv 3))))),?_⟩;walk_at "d";refine⟨_,U,pt,Cs,U,hB,nl,λ pn H1 s1 f1 B1 Y1=>?_⟩;have u1:=SameU.of s1;obtain⟨ws,hw1,hw2,hw3⟩:=hF.la.lst;rw[BY] at hw2;refine⟨_,U,pF,U,⟨_,SqL.of (s1 _ _ hw1)⟩,GI (K:=K) (a:=pF) (xs:=ws)
  (λ i σ H'=>∃(Ds:Tb)(v4 v5 v6:Option V),σ=[some (.int d),some (.ref pF),some (.ref pt),some (.ref pn),v4,v5,v6]/\SameU H H'/\T H'/\BA H' pn Ds/\Yg H H' pn/\Ds.length=Cs.length/\TOk d (M+i*(m+M)) Ds/\∀p,0<=p->p<(Cs.length:Int)->∀t,Ma.bt d (cl Ds p) t=GE d (F.take i) Cs p t (Ma.bt d (cl Cs p) t))
  ⟨Cs,_,_,_,rfl,u1,hTB.same _ _ hT s1,B1,Y1,rfl,by simpa using tok,λ p _ _ t=>rfl⟩ (λ i σ H' _ z9=>by obtain⟨_,_,_,_,_,u,_⟩ := z9;exact SqL.of (u.lst hw1)) ?_ ?_⟩
 ·intro i y σ H2 hi z9;obtain⟨Ds,v4,v5,v6,rfl,u2,t2,B2,Y2,l2,tok2,e2⟩ := z9;obtain⟨r,x,rfl,ex,er⟩:=hw3 i y hi;have hi2:i<F.length:=by
   have:=(CP.mp hi).1;omega
  have em:=BK hi2;rw[EH,em] at ex;cases ex;have hm:=KR hi2;generalize F[i]=g at *;obtain⟨⟨a0,a1⟩,⟨b0,b1'⟩,mu⟩:=fok g hm;refine⟨r,_,U,SqT.of (u2.tup er),U,_,_,U,_,_,U,_,_,U,U,?_⟩;obtain⟨rs,rc,r1,r2,r3,r4,r5⟩:=B2.at a0 (by rw[l2];exact a1);obtain⟨ts,tc,q1,q2,q3,q4,q5⟩:=(hB.u u2).at b0 b1';have muD:=tok2 _ (IU a0 (by rw[l2];exact a1));have muC:=tok _ (IU b0 b1');have lg:=mu.len;have lC:=muC.len;have lD:=muD.len;have im:M+i*(m+M)<=M+F.length*(m+M):=As (Bk _ ⋯) _;have im2:M+(i+1)*(m+M)<=M+F.length*(m+M):=As (Bk _ ⋯) _;have ie:M+(i+1)*(m+M)=M+i*(m+M)+(m+M):=by rw[Nat.add_mul,Nat.one_mul];omega
  have bnd:(2*g.2.2.2.length+1)*(2*(cl Cs g.2.1).length+2)<=16000000:=FB (sA ⋯ ⋯) b2;refine⟨_,U,_,U,_,U,pn,_,_,_,U,U,SqL.of r1,r2,_,U,_,U,_,U,_,U,pt,_,_,_,U,U,SqL.of q1,q2,d,g.2.2.1,tc,g.2.2.2,cl Cs g.2.1,U,(hF.u u2).bd g hm,q5,t2,⋯,⋯,bnd,mu.1,muC.1,λ l3 R3 H3 u3 t3 f3 la3 _ ck3 e3=>?_⟩;have mu3:=Ma.MuR.bind ck3 mu muC e3;have l3':=mu3.len;refine⟨d,rc,l3,cl Ds g.1,R3,U,r5.u u3,la3,⋯,⋯,muD.1,ck3,λ l4 R4 H4 s4 f4 la4 _ ck4 e4=>?_⟩;have mu4:=Ma.MuR.min ck4 muD mu3 e4;have u24:=u3.trans (SameU.of s4);have r14:=u24.lst r1;have nlp:l4≠pn:=λ z=>by rw[z,u3.lst r1] at f4;cases f4
  have nlr:l4∉rs:=λ z=>by
   obtain⟨rs',x1,x2,x3,x4,x5⟩:=B2.u u3;rw[u3.lst r1] at x1;have:=JV (Option.some.inj x1);subst this;obtain⟨j,hj⟩:=KF z;have lj:=(CP.mp hj).1;exact HE (enc':=AQ) (x5 j l4 _ hj (BK ⋯)) f4 rfl
  refine⟨_,U,_,U,pn,_,_,g.1.toNat,U,U,r14,UZ a0 (by rw[BY,r4,l2];exact a1),?_⟩;refine⟨Ds.set g.1.toNat R4,_,_,_,U,SameU.wr f1 (u2.trans u24),hTB.wr _ _ _ _ (hTB.same _ _ t3 s4) r14,(B2.u u24).set r14 la4 nlp nlr ⋯,Yg.of (rs:=rs.set g.1.toNat l4) (by rw[AI,vB]) λ r' hr'=>?_,by simp[l2],λ C hC=>?_,λ p p0 p1 t=>?_⟩
  ·rcases rT hr' with z|z
   ·exact Y2 rs r1 r' z
   ·subst z;exact(u2.trans u3).free f4
  ·rw[ie];rcases rT hC with z|z
   ·exact(tok2 C z).le ⋯
   ·subst z;exact mu4
  ·rw[HC em,NQ,eP p0 (by rw[l2];exact p1) a0 (by rw[l2];exact a1)]
   by_cases z:g.1=p
   ·rw[if_pos z,if_pos z,e4,e2 g.1 a0 a1,e3,z]
   ·rw[if_neg z,if_neg z,e2 p p0 p1]
 ·intro σ H2 z9;obtain⟨Ds,v4,v5,v6,rfl,u2,t2,B2,Y2,l2,tok2,e2⟩ := z9;rw[hw2] at tok2 e2;rw[JH] at e2;exact⟨_,U,q pn Ds H2 u2 t2 f1 B2 Y2 l2 tok2 e2⟩
end
def TL(H0 H:Hp)(p:Addr)(Ts:List Tb):Prop:=∃qs:List (Addr×List Addr),H p=some (.lst (qs.map λ q=>V.ref q.1))/\qs.length=Ts.length/\(p::qs.flatMap λ q=>q.1::q.2).Nodup/\(∀a∈p::qs.flatMap λ q=>q.1::q.2,H0 a=none) /\
 ∀(i:Nat) q B,qs[i]?=some q->Ts[i]?=some B->H q.1=some (.lst (q.2.map V.ref))/\q.2.length=B.length/\∀(j:Nat) r C,q.2[j]?=some r->B[j]?=some C->LA AQ H r C
section
variable {H0 H H':Hp}{p:Addr}{Ts:List Tb}
theorem TL.live{qs:List (Addr×List Addr)}(e1:H p=some (.lst (qs.map λ q=>V.ref q.1)))(e2:qs.length=Ts.length)(e5:∀(i:Nat) q B,qs[i]?=some q->Ts[i]?=some B->H q.1=some (.lst (q.2.map V.ref))/\q.2.length=B.length/\∀(j:Nat) r C,q.2[j]?=some r->B[j]?=some C->LA AQ H r C) :
  ∀a∈p::qs.flatMap λ q=>q.1::q.2,H a≠none:=λ a ha z=>by
 rcases C6.mp ha with e|e
 ·rw[e,e1] at z;cases z
 ·obtain⟨q,hq,hm⟩:=qX.mp e;obtain⟨i,hi⟩:=KF hq;have lt:=(CP.mp hi).1;obtain⟨g1,g2,g3⟩:=e5 i q _ hi (BK ⋯);rcases C6.mp hm with e|e
  ·rw[e,g1] at z;cases z
  ·obtain⟨j,hj⟩:=KF e;have lj:=(CP.mp hj).1;exact HE (enc':=AQ) (g3 j a _ hj (BK ⋯)) z rfl
theorem TL.old(h:TL H1 H p Ts)(s:SameU H0 H1):TL H0 H p Ts:=by
 obtain⟨qs,e1,e2,e3,e4,e5⟩:=h;exact⟨qs,e1,e2,e3,λ a ha=>s.free (e4 a ha),e5⟩
theorem TL.lst(h:TL H0 H p Ts):∃xs:List V,H p=some (.lst xs)/\xs.length=Ts.length:=by
 obtain⟨qs,e1,e2,_⟩:=h;exact⟨_,e1,by simp[e2]⟩
theorem TL.at(h:TL H0 H p Ts)(hx:H p=some (.lst xs))(hi:Ts[i]?=some B):∃q:Addr,xs[i]?=some (.ref q)/\BA H q B/\H0 q=none/\Yg H0 H q/\q≠p:=by
 obtain⟨qs,e1,e2,e3,e4,e5⟩:=h;rw[e1] at hx;cases hx;have lt:=(CP.mp hi).1;have hq:qs[i]?=some (qs[i]'⋯):=BK ⋯;have hm:=DL hq;generalize qs[i]'⋯=q at hq hm;obtain⟨g1,g2,g3⟩:=e5 i q B hq hi;have fm:∀a∈q.1::q.2,a∈qs.flatMap λ q=>q.1::q.2:=λ a ha=>qX.mpr ⟨q,hm,ha⟩
 have nd:(q.1::q.2).Nodup:=by
  have:=(KE.mp e3).2;obtain⟨as,bs,rfl⟩:=Aq hm;rw[wI,VY] at this;exact(jG.mp ((jG.mp this).2.1)).1
 obtain⟨nd1,nd2⟩:=KE.mp nd;refine⟨q.1,by rw[EH,hq];rfl,⟨q.2,g1,g2,nd1,nd2,g3⟩,e4 _ (ER _ (fm _ (EZ ..))),Yg.of g1 λ r hr=>e4 _ (ER _ (fm _ (ER _ hr))),λ z=>?_⟩;exact(KE.mp e3).1 (z ▸ fm _ (EZ ..))
theorem TL.one{q:Addr}(hB:BA H q B)(hp:H p=none)(fp:H0 p=none)(fq:H0 q=none)(Y:Yg H0 H q):TL H0 (AD H p (.lst [.ref q])) p [B]:=by
 obtain⟨rs,b1,b2,b3,b4,b5⟩:=hB;have fr:=Y rs b1;have nq:q≠p:=λ z=>by rw[z,hp] at b1;cases b1
 have nr:p∉rs:=λ z=>by
  obtain⟨j,hj⟩:=KF z;have lj:=(CP.mp hj).1;exact HE (enc':=AQ) (b5 j p _ hj (BK ⋯)) hp rfl
 refine⟨[(q,rs)],AI,U,?_,λ a ha=>?_,λ i q' B' a b=>?_⟩
 ·show(p::(q::rs++[])).Nodup;rw[M5];refine KE.mpr ⟨λ z=>?_,KE.mpr ⟨b3,b4⟩⟩;rcases C6.mp z with e|e
  ·exact nq e.symm
  ·exact nr e
 ·have ha:a∈p::(q::rs++[]):=ha;rw[M5] at ha;rcases C6.mp ha with e|e
  ·rw[e];exact fp
  ·rcases C6.mp e with e|e
   ·rw[e];exact fq
   ·exact fr a e
 ·match i,a,b with
  |0,a,b =>
   cases a;cases b;exact⟨by rw[AJ nq];exact b1,b2,λ j r C x y=>(b5 j r C x y).same (BD hp _)⟩
  |i+1,a,b=>simp at a
theorem LB{α:Type}{xs:List α}(h1:1<=k)(h2:k<=xs.length):DK xs (-(k:Int))=xs[xs.length-k]?:=by
 unfold DK J7;rw[if_neg ⋯,if_pos ⋯];show xs[(-(k:Int)+(xs.length:Int)).toNat]?=_;congr 1;omega
theorem TL.snoc{Ha:Hp}{q:Addr}(h:TL H0 Ha p Ts)(s:SameU Ha H)(fq:Ha q=none)(hB:BA H q B)(hY:Yg Ha H q)(u:SameU H0 Ha)(hx:H p=some (.lst xs)):TL H0 (AD H p (.lst (xs++[.ref q]))) p (Ts++[B]):=by
 obtain⟨qs,e1,e2,e3,e4,e5⟩:=h;have lv:=TL.live e1 e2 e5;obtain⟨rs,b1,b2,b3,b4,b5⟩:=hB;have fr:=hY rs b1;rw[s.lst e1] at hx;cases hx;have ap:∀a∈q::rs,a≠p/\a∉(qs.flatMap λ q=>q.1::q.2)/\Ha a=none:=λ a ha=>by
  have z:Ha a=none:=by
   rcases C6.mp ha with e|e
   ·rw[e];exact fq
   ·exact fr a e
  exact⟨λ y=>lv a (by rw[y];exact EZ ..) z,λ y=>lv a (ER _ y) z,z⟩
 have hp:∀{r:Addr}{C:List T3},r≠p->LA AQ H r C->LA AQ (AD H p (.lst ((qs.map λ q=>V.ref q.1)++[.ref q]))) r C:=λ n h=>G1 h (s.lst e1) n
 refine⟨qs++[(q,rs)],by rw[AI,HA];rfl,by simp[e2],?_,λ a ha=>?_,λ i q' B' a b=>?_⟩
 ·obtain⟨n1,n2⟩:=KE.mp e3;rw[wI,VY,lZ,M5];refine KE.mpr ⟨λ z=>?_,jG.mpr ⟨n2,KE.mpr ⟨b3,b4⟩,λ a ha b hb e=>(ap b hb).2.1 (e ▸ ha)⟩⟩;rcases EW.mp z with z|z
  ·exact n1 z
  ·exact(ap p z).1 rfl
 ·rw[wI,VY,lZ,M5] at ha;rcases C6.mp ha with e|e
  ·exact e4 a (by rw[e];exact EZ ..)
  ·rcases EW.mp e with e|e
   ·exact e4 a (ER _ e)
   ·exact u.free (ap a e).2.2
 ·rcases P3 i qs.length with z|z
  ·rw[GF z] at a;rw[GF ⋯] at b;obtain⟨g1,g2,g3⟩:=e5 i q' B' a b;have hm:=DL a;have np:∀x∈q'.1::q'.2,x≠p:=λ x hx e=>(KE.mp e3).1 (e ▸ qX.mpr ⟨q',hm,hx⟩)
   exact⟨by rw[AJ (np _ (EZ ..))];exact s.lst g1,g2,λ j r C x y=>hp (np r (ER _ (DL x))) ((g3 j r C x y).u s)⟩
  ·have lt:=(CP.mp a).1;simp at lt;have ei:i=qs.length:=⋯;subst ei;rw[GM (BU _),gC] at a;rw[GM ⋯,show qs.length-Ts.length=0 by omega] at b;cases a;cases b;exact⟨by rw[AJ (ap q (EZ ..)).1];exact b1,b2,λ j r C x y=>hp (ap r (ER _ (DL x))).1 (b5 j r C x y)⟩
end
def US(T:Hp->Prop)(stp:Int->List BN->Tb->Int->Int->Option Int)(qual:Str)(v1 v2:V)(c':Addr):Sp:=match v1,v2 with
 | .int d,.ref pF=>λ vs H Q E=>H c'=some (.ext (CW c' qual))/\∃pt:Addr,vs=[.ref pt]/\J8 T stp [.int d,.ref pF,.ref pt] H Q E
 |_,_=>λ _ _ _ _=>False
structure TsOk(d:Int)(n:Nat)(p:Int)(F:List BN)(m:Nat)(stp:Int->List BN->Tb->Int->Int->Option Int)(Ts:List Tb):Prop where
 first:Ts[0]?=some (stay d n p)
 each:∀(i:Nat) A,Ts[i]?=some A->A.length=n/\TOk d (L7 F.length m i) A
 grow:∀(i:Nat) A B,Ts[i]?=some A->Ts[i+1]?=some B->∀p,0<=p->p<(n:Int)->∀t,Ma.bt d (cl B p) t=stp d F A p t
def pC(f m n:Nat):Prop:=∀k,k+1<n->L7 f m (k+1)<=1000000/\(2*(m+1)+2)*(2*(L7 f m k+1)+2)<=16000000
def iH(T:Hp->Prop)(stp:Int->List BN->Tb->Int->Int->Option Int)(qual:Str)(v1 v2:V)(fl c':Addr):Sp:=match v1,v2 with
 | .int d,.ref pF=>λ vs H Q _=>∃(n:Nat)(p:Int)(F:List BN)(m:Nat),vs=[.int d,.int n,.int p,.ref fl]/\H c'=some (.ext (CW c' qual))/\FA H pF F/\T H/\1<=n/\n<=1000/\0<d/\FOk d n m F/\pC F.length m n /\
  ∀(l:Addr)(Ts:List Tb)(H':Hp),SameU H H'->T H'->TL H H' l Ts->Ts.length=n->TsOk d n p F m stp Ts->Q (.ref l) H'
 |_,_=>λ _ _ _ _=>False
theorem Y8(hd:0<d){p:Int}:TOk d 2 (stay d n p):=λ C hC=>by
 obtain⟨i,_,rfl⟩:=DT.mp hC;split
 ·exact Ma.mur_one (Ma.ck_still hd)
 ·exact Ma.mur_nil hd
section
variable {f:Addr}
theorem SZ{v1 v2:V}{stp:Int->List BN->Tb->Int->Int->Option Int}(hTB:TB T)(F:Fun K "grown" "grown" KN f fd)(B:Bl mg)(Co0:Callee P w K mg base n "staying" ["day","size","place"] spStaying)(Cc0:Callee P w K mg base n "copied_table" ["told"] spCopied)
  (G:FnOk P w K mg base B5 n fl fdl ["told"] (US T stp qual v1 v2 c')) (bG:Binds K fdl ["told"] []) (ho:W.FnAt fl base):FnOk P w K mg base B5 (n+1) f fd ["day","size","place","step"] (iH T stp qual v1 v2 fl c'):=by
 unfold iH;split
 case h_2=>exact DV
 rename_i d pF
 refine F.okQ JU ?_ ?_;walk_at "o";obtain⟨N,p,Fs,m,rfl,hc,hF,hT,N1,N2,hd,fok,few,q⟩:=h;refine⟨_,(A9 (AC (i:=4) JU.nd U (AH U) (D0 (A4 (AB Co0 hr U (A4 (qv 0) (A4 (qv 1) (A4 (qv 2) A5)))) A5))) (A9 (SF PassesOwn.never (AX F7 (AL CN U B.len C5 (A4 (qv 4) A5)) (qv 1) (AS _)) (AA (AE (FM (QW.pt (I0 (AX JF (AL CN U B.len C5 (A4 (qv 4) A5)) A6 (AS _)) (J6 (AX (LX hr.units) (A8 AM (qv 4) (G0 A6) Y9) (A8 AM (qv 4) (G0 A6) Y9) (AS _)))))) (AA (CF (DG (qv 4) (A4 (AB Cc0 hr U (A4 (A8 AM (qv 4) (G0 A6) Y9) A5)) A5)))) (AA (CF (DG (qv 4) (A4 ⟨KJ 3 G hr bG ho (A4 (A8 AM (qv 4) (G0 A6) Y9) A5).run⟩ A5))))))) (AA (AF (qv 4))))),?_⟩;walk_at "d";refine⟨_,U,_,U,_,U,d,N,p,U,N2,λ q0 H1 s1 f1 B1 Y1=>⟨kG,λ pf hpf=>?_⟩⟩;have L1:=TL.one (H0:=H) B1 hpf (s1.free hpf) f1 Y1;have s12:=BD hpf (.lst [.ref q0]);have S2:=s1.trans s12;have k0:stay d N p∈[stay d N p]:=D8.mpr rfl;have ok1:TsOk d N p Fs m stp [stay d N p]:=⟨rfl,λ i A hA=>by
   match i,hA with
   |0,hA =>
    cases hA;exact⟨by simp[stay],Y8 hd⟩
   |i+1,hA=>simp at hA,λ i A B hA hB=>by simp at hB⟩
 generalize AD H1 pf (.lst [.ref q0])=H2 at *;refine U1 (λ σ H'=>σ=[some (.int d),some (.int N),some (.int p),some (.ref fl),some (.ref pf)]/\SameU H H'/\T H'/\∃Ts:List Tb,TL H H' pf Ts/\1<=Ts.length/\Ts.length<=N/\TsOk d N p Fs m stp Ts)
  (λ _ H'=>match H' pf with|some (.lst xs)=>N-xs.length|_=>0) ⟨rfl,SameU.of S2,hTB.same _ _ hT S2,_,L1,BU _,N1,ok1⟩ ?_ ?_
 ·intro σ H3 z9;obtain⟨rfl,u3,t3,Ts,L3,l1,l2,ok⟩ := z9;obtain⟨xs,x1,xl⟩:=L3.lst;refine⟨_,U,pf,_,U,.inl (SqL.of x1),_,U,_,_,U,U,_,U,AZ (λ c=>?_) (λ c=>?_)⟩
  ·have c':(xs.length:Int)<(N:Int):=D6 c;have hA:Ts[Ts.length-1]?=some (Ts[Ts.length-1]'⋯):=BK ⋯;generalize Ts[Ts.length-1]'⋯=A at hA;obtain⟨qa,qa1,qa2,qa3,qa4,qa5⟩:=L3.at x1 hA;obtain⟨oA1,oA2⟩:=ok.each _ A hA;have a1:DK xs (-1)=some (.ref qa):=by
    have:=LB (xs:=xs) (k:=1) (BU _) ⋯;rw[xl] at this;exact this.trans qa1
   have mu0:∀ys:List V,H3 pf=some (.lst ys)->ys=xs:=λ ys e=>by
    rw[x1] at e;cases e;rfl
   have fin:∀(l:Addr)(B:Tb)(H4:Hp),SameU H3 H4->T H4->H3 l=none->BA H4 l B->Yg H3 H4 l->B.length=N->TOk d (L7 Fs.length m Ts.length) B->(∀p,0<=p->p<(N:Int)->∀t,Ma.bt d (cl B p) t=stp d Fs A p t)->∃p_1 xs v,(V.ref pf:V)=.ref p_1/\[V.ref l]=[v]/\H4 p_1=some (.lst xs)/\xs.length<sizeLine /\
     ((([some (.int d),some (.int N),some (.int p),some (.ref fl),some (.ref pf)]:L2.St)=[some (.int d),some (.int N),some (.int p),some (.ref fl),some (.ref pf)]/\SameU H (AD H4 p_1 (.lst (xs++[v])))/\T (AD H4 p_1 (.lst (xs++[v])))/\∃Ts:List Tb,TL H (AD H4 p_1 (.lst (xs++[v]))) pf Ts/\1<=Ts.length/\Ts.length<=N/\TsOk d N p Fs m stp Ts) /\
     (match AD H4 p_1 (.lst (xs++[v])) pf with|some (.lst xs)=>N-xs.length|_=>0)<(match H3 pf with|some (.lst xs)=>N-xs.length|_=>0)):=by
    intro l B H4 u4 t4 fl4 hB hY bl tB gB;have x4:=u4.lst x1;have L4:=L3.snoc u4 fl4 hB hY u3 x4;obtain⟨qs0,z1,_,_,z4,_⟩:=id L3;have fpf:H pf=none:=z4 pf (EZ ..);refine⟨pf,xs,_,U,U,x4,BW ⋯,⟨U,SameU.wr fpf (u3.trans u4),hTB.wr _ _ _ _ t4 x4,Ts++[B],L4,by simp,by simp;omega,?_,?_,?_⟩,?_⟩
    ·rw[GF ⋯];exact ok.first
    ·intro i C hC;rcases P3 i Ts.length with z|z
     ·rw[GF z] at hC;exact ok.each i C hC
     ·have:=(CP.mp hC).1;simp at this;have ei:i=Ts.length:=⋯;subst ei;rw[GM (BU _),gC] at hC;cases hC;exact⟨bl,tB⟩
    ·intro i C D hC hD;rcases P3 (i+1) Ts.length with z|z
     ·rw[GF ⋯] at hC;rw[GF z] at hD;exact ok.grow i C D hC hD
     ·have:=(CP.mp hD).1;simp at this;have ei:i=Ts.length-1:=⋯;subst ei;rw[GF ⋯,hA] at hC;rw[GM ⋯,show Ts.length-1+1-Ts.length=0 by omega] at hD;cases hC;cases hD;exact gB
    ·rw[AI,x1];show N-(xs++[V.ref l]).length<N-xs.length;rw[G2,R6];omega
   have em:L7 Fs.length m Ts.length=L7 Fs.length m (Ts.length-1)+Fs.length*(m+L7 Fs.length m (Ts.length-1)):=by
    rw[show Ts.length=Ts.length-1+1 by omega];rfl
   refine⟨λ b H'=>H'=H3/\(b=true->∃A',Ts[Ts.length-1-1]?=some A'/\2<=Ts.length/\A'=A),?_,?_⟩
   ·refine⟨_,rfl,pf,_,rfl,.inl (SqL.of x1),_,_,rfl,rfl,_,rfl,AZ (λ c2=>?_) (λ c2=>⟨rfl,λ z=>by cases z⟩)⟩;have c2':(1:Int)<(xs.length:Int):=D6 c2;have hA':Ts[Ts.length-1-1]?=some (Ts[Ts.length-1-1]'⋯):=BK ⋯;generalize Ts[Ts.length-1-1]'⋯=A' at hA';obtain⟨qb,qb1,qb2,qb3,qb4,qb5⟩:=L3.at x1 hA';have a2:DK xs (-2)=some (.ref qb):=by
     have:=LB (xs:=xs) (k:=2) ⋯ ⋯;rw[xl,show Ts.length-2=Ts.length-1-1 by omega] at this;exact this.trans qb1
    refine⟨_,U,_,U,pf,_,_,_,U,U,SqL.of x1,a1,_,U,_,U,pf,_,_,_,U,U,SqL.of x1,a2,_,_,qa2.rd,qb2.rd,MV _,MV _,_,U,U,λ z=>⟨A',hA',⋯,?_⟩⟩;rw[mQ sM] at z;exact(D6 z).symm
   intro b H3' z9;obtain⟨rfl,hb⟩ := z9;refine AZ (λ cb=>?_) (λ cb=>?_)
   ·obtain⟨A',hA',l2',rfl⟩:=hb cb;refine⟨_,U,.inl ⟨U,_,SqL.of x1⟩,_,U,_,U,pf,_,_,_,U,U,SqL.of x1,a1,qa,A',U,qa2,⋯,λ l H4 s4 f4 B4 Y4=>?_⟩;refine fin l A' H4 (SameU.of s4) (hTB.same _ _ t3 s4) f4 B4 Y4 oA1 (oA2.le (by rw[em];omega)) λ p' p0 p1 t=>?_
    exact ok.grow _ A' A' hA' (by rw[show Ts.length-1-1+1=Ts.length-1 by omega];exact hA) p' p0 p1 t
   ·have fw:=few (Ts.length-1) ⋯;rw[show Ts.length-1+1=Ts.length by omega] at fw;refine⟨_,rfl,.inl ⟨rfl,_,SqL.of x1⟩,rfl,_,rfl,_,rfl,pf,_,_,_,rfl,rfl,SqL.of x1,a1,u3.1 _ _ hc (λ z y=>by cases y),qa,rfl,d,pF,Fs,qa,A,_,m,rfl,hF.u u3,qa2,t3,by rw[oA1];exact fok,oA2,by rw[<- em];exact fw.1,fw.2,⋯,λ l Ds H4 u4 t4 f4 B4 Y4 l4 tk4 e4=>?_⟩;refine fin l Ds H4 u4 t4 f4 B4 Y4 (l4.trans oA1) (by rw[em];exact tk4) λ p' p0 p1 t=>e4 p' p0 (by rw[oA1];exact p1) t
  ·have c':¬(xs.length:Int)<(N:Int):=λ z=>c (CB z)
   exact⟨_,U,q pf Ts H3 u3 t3 L3 ⋯ ok⟩
 ·intro σ H' Q1 Q2 hq z9;obtain⟨v,e1,p1,ys,e2,e3,v2,e4,i,j,e5,e6,k,e7,q1⟩ := z9;exact⟨v,e1,p1,ys,e2,e3,v2,e4,i,j,e5,e6,k,e7,hq _ _ q1⟩
end
def iB:Stmt->Expr
 | .Return (some (.Call _ [_,_,_,l] _ _)) _=>l
 |_=>.Constant .none 0 ⟨0,0,0,0⟩
theorem fU(z:Str)(d:Addr)(e:([(y2,c2),(y1,c1)]:List (Str×Addr)).lookup z=some d):(z=y1/\d=c1)\/(z=y2/\d=c2):=by
 rw[dW] at e;cases h:z==y2 with
 |true=>rw[h] at e;cases e;exact .inr ⟨eq_of_beq h,rfl⟩
 |false =>
  rw[h] at e;exact .inl (HY z d e)
theorem OX(ne:c1≠c2)(x y:Str)(c:Addr)(h1:([(y2,c2),(y1,c1)]:List (Str×Addr)).lookup x=some c)(h2:([(y2,c2),(y1,c1)]:List (Str×Addr)).lookup y=some c):x=y:=by
 rcases fU x c h1 with⟨a,b⟩|⟨a,b⟩<;>rcases fU y c h2 with⟨a',b'⟩|⟨a',b'⟩
 ·exact a.trans a'.symm
 ·exact absurd (b.symm.trans b') ne
 ·exact absurd (b'.symm.trans b) ne
 ·exact a.trans a'.symm
theorem UY{sc:Scope}(h:∀y∈sc.names,y.2=.free->y.1=y1\/y.1=y2)(x:Str)(e:sc.names.lookup x=some .free):∃d,([(y2,c2),(y1,c1)]:List (Str×Addr)).lookup x=some d:=by
 have hm:=PySem.mem_of_lookup e;rw[dW];rcases h _ hm rfl with z|z
 ·have z:x=y1:=z;cases h2:x==y2 with
  |true=>exact⟨c2,rfl⟩
  |false =>
   refine⟨c1,?_⟩;rw[z,dW];simp
 ·have z:x=y2:=z;rw[z];exact⟨c2,by simp⟩
abbrev V9:Expr:=iB ((C7 HS).getD 1 (.Pass ⟨0,0,0,0⟩))
theorem bO(c1 c2:Addr)(ne:c1≠c2):LamScope ["told","day","fords"] ["told"] (ET V9) [("fords",c2),("day",c1)]:=⟨rfl,rfl,rfl,by decide,rfl,by decide +kernel,by decide +kernel,UY (by decide +kernel),OX ne⟩
section
variable {f g:Addr}
theorem bK{v1 v2:V}(ne:c1≠c2)(hTB:TB T)(FG:Fun K "grown" "grown" KN g gd)(B:Bl mg)(Co0:Callee P w K mg base (n+1) "staying" ["day","size","place"] spStaying)(Cc0:Callee P w K mg base (n+1) "copied_table" ["told"] spCopied)(Cp0:Callee P w K mg base n "ride_first" ["day","fords","told"] (J8 T stepT))
  (hfl:base.get? fl=some (W.kla_obj "<lambda>" (AW "rounds_to") (YF V9) (ZC V9) (ET V9) [("fords",c2),("day",c1)] pm c' ctv)) (hca:JI base (ET V9) [("fords",c2),("day",c1)] ["told","day","fords"] ["told"] [v1,v2]) :
  FnOk P w K mg base B5 (n+2) g gd ["day","size","place","step"] (iH T stepT (AW "rounds_to") v1 v2 fl c'):=by
 refine SZ (n:=n+1) hTB FG B Co0 Cc0 (IY (k:=n) (N:=["told","day","fords"]) (cs:=[v1,v2]) hfl (λ vs H Q E h=>?_) (bO c1 c2 ne) hca (λ vs H Q E h=>?_) (λ A outer s H vs Q E hr h=>?_)) (Binds.all λ us hl=>match us,hl with | [_],_=>rfl) ⟨_,_,_,_,hfl⟩
 all_goals unfold US at h
 all_goals split at h
 all_goals first|exact h.elim|skip
 ·exact h.1
 ·obtain⟨_,_,rfl,_⟩:=h;rfl
 ·obtain⟨hc,pt,rfl,h⟩:=h;refine⟨_,dF Cp0 hr rfl (WJ (pv 1) (WJ (pv 2) (WJ (pv 0) SR))),?_⟩;exact⟨_,U,_,U,_,U,h⟩
inductive spRounds(T:Hp->Prop)(vs:List V)(H:Hp)(Q:VK)(z3q:XK):Prop
 |mk (d:Int) (n:Nat) (pr:Addr) (N:List BN) (goal:Int) (m:Nat):vs=[.int d,.int n,.ref pr,.int goal]->NA H pr N->T H->0<d->NetOk d n N->1<=n->n<=1000->N.length<=1000->((∀x∈N,4*x.2.2.2.length+2<=m))->pC N.length m n->0<=goal->(goal<(n:Int))->(∀(l:Addr)(F:List BN)(Ts:List Tb)(H':Hp),SameU H H'->T H'->Fords d N F->TL H H' l Ts->Ts.length=n->TsOk d n goal F m stepT Ts->Q (.ref l) H')->spRounds T vs H Q z3q
inductive spTable(T:Hp->Prop)(vs:List V)(H:Hp)(Q:VK)(z3q:XK):Prop
 |mk (d:Int) (n:Nat) (pr:Addr) (N:List BN) (goal:Int) (m:Nat):vs=[.int d,.int n,.ref pr,.int goal]->NA H pr N->T H->0<d->NetOk d n N->1<=n->n<=1000->N.length<=1000->((∀x∈N,4*x.2.2.2.length+2<=m))->pC N.length m n->0<=goal->(goal<(n:Int))->(∀(l:Addr)(F:List BN)(Ts:List Tb)(C:Tb)(H':Hp),SameU H H'->T H'->Fords d N F->Ts.length=n->TsOk d n goal F m stepT Ts->Ts[n-1]?=some C->BA H' l C->H l=none->Yg H H' l->Q (.ref l) H')->spTable T vs H Q z3q
theorem vA{c:Addr}{kV:Value}(lk:K.lookup f=some ⟨oc,od,.func (W.fnOf "rounds_to" "rounds_to" (D7 HS) (C7 HS) (AG HS) .none kV doc pm an (.ref c) ct),osl⟩)(hcd:W.codeIn K (.ref c) "rounds_to"=true)
  (B:Bl mg) (hC:W.CodeHd base c P0) (hB:ES mg base) (FG:Fun K "grown" "grown" KN g gd) (bG:Binds K gd ["day","size","place","step"] []) (mG:mg "grown"=some (.ref g)) (hTB:TB T) (h1:∀H,T H->TabOk H P0 ⟨234,34,234,75⟩ (AW "rounds_to")) (h2:∀H H',T H->SameT P0 H H'->TabOk H' P0 ⟨234,34,234,75⟩ (AW "rounds_to")->T H')
  (Co1:Callee P w K mg base (n+2) "fords_of" ["day","roads"] spFordsOf) (Co0:Callee P w K mg base (n+1) "staying" ["day","size","place"] spStaying) (Cc0:Callee P w K mg base (n+1) "copied_table" ["told"] spCopied) (Cp0:Callee P w K mg base n "ride_first" ["day","fords","told"] (J8 T stepT)) :
  FnOk P w K mg base B5 (n+3) f (W.fnOf "rounds_to" "rounds_to" (D7 HS) (C7 HS) (AG HS) .none kV doc pm an (.ref c) ct) ["day","size","roads","goal"] (spRounds T):=by
 refine IQ lk hcd G5 (λ vs H Q E h=>?_) (λ A outer s H vs Q E hr h=>?_)
 ·obtain⟨_,_,_,_,_,_,rfl,_⟩:=h;rfl
 obtain⟨d,N,pr,Ns,goal,m,rfl,hN,hT,hd,nok,N1,N2,nl,lm,few,g0,g1,q⟩:=h;refine⟨_,PSs.nox (QSs.run (A9 (AC (i:=4) G5.nd rfl (IH rfl) (AB Co1 hr rfl (A4 (qv 0) (A4 (qv 2) A5)))) (AA (AF ⟨yM (N:=["told","day","fords"]) (ps:=["told"]) 0 4 hr rfl mG FG.kp bG rfl rfl hC hB rfl rfl rfl (IH (AH rfl)) rfl rfl rfl rfl rfl (IH (AH rfl)) rfl rfl rfl fU rfl rfl rfl (pv 0) (pv 1) (pv 3) (λ base' fl c' v1 v2 pm ctv md hk hz hfl hca=>bK (FZ (vD _)) hTB FG B (Co0.widen md hk hz) (Cc0.widen md hk hz) (Cp0.widen md hk hz) hfl hca)⟩)))),?_⟩;walk_at "d";refine⟨_,U,_,U,d,N,pr,Ns,U,hN,nl,hd,nok,λ pF F H1 s1 hF fo=>?_⟩;have t1:=hTB.same _ _ hT s1;refine⟨_,_,U,U,_,U,_,U,_,U,h1 _ t1,λ fl c' H2 sm tb hc'=>?_⟩;have u2:=SameU.tab sm (h1 _ t1) tb;have u02:=(SameU.of s1).trans u2;refine⟨N,goal,F,m,U,hc',hF.u u2,h2 _ _ t1 sm tb,N1,N2,hd,fo.ok nok lm,by rw[fo.1];exact few,λ l Ts H3 u3 t3 L3 l3 ok3=>?_⟩;exact q l F Ts H3 (u02.trans u3) t3 fo (L3.old u02) l3 ok3
theorem NX(F:Fun K "rounds" "rounds" ZS f fd)(hTB:TB T)(Cp1:Callee P w K mg base n "need_net" ["day","size","roads"] spNeedNet)(Ck0:Callee P w K mg base n "need_place" ["size","thing"] spNeedPlace)(Ci1:Callee P w K mg base n "rounds_to" ["day","size","roads","goal"] (spRounds T)):FnOk P w K mg base B5 (n+1) f fd ["day","size","roads","goal"] (spRounds T):=by
 refine F.okQ NK ?_ ?_;walk_at "o";obtain⟨d,N,pr,Ns,goal,m,rfl,hN,hT,hd,nok,N1,N2,nl,lm,few,g0,g1,q⟩:=h;refine⟨_,(A9 (CF (AB Cp1 hr U (A4 (qv 0) (A4 (qv 1) (A4 (qv 2) A5))))) (A9 (CF (AB Ck0 hr U (A4 (qv 1) (A4 (qv 3) A5)))) (AA (AF (AB Ci1 hr U (A4 (qv 0) (A4 (qv 1) (A4 (qv 2) (A4 (qv 3) A5))))))))),?_⟩;walk_at "d";refine⟨_,U,_,U,_,U,d,N,pr,Ns,U,hN,nl,nok,⋯,λ H1 s1=>?_⟩;refine⟨_,U,_,U,N,goal,U,g0,g1,?_⟩;refine⟨_,U,_,U,_,U,_,U,d,N,pr,Ns,goal,m,U,hN.same s1,hTB.same _ _ hT s1,hd,nok,N1,N2,nl,lm,few,g0,g1,λ l F Ts H2 u2 t2 fo Lq l2 ok2=>?_⟩;exact q l F Ts H2 ((SameU.of s1).trans u2) t2 fo (Lq.old (SameU.of s1)) l2 ok2
theorem TK(F:Fun K "table" "table" W7 f fd)(Cv0:Callee P w K mg base n "rounds" ["day","size","roads","goal"] (spRounds T)):FnOk P w K mg base B5 (n+1) f fd ["day","size","roads","goal"] (spTable T):=by
 refine F.okQ RK ?_ ?_;walk_at "o";obtain⟨d,N,pr,Ns,goal,m,rfl,hN,hT,hd,nok,N1,N2,nl,lm,few,g0,g1,q⟩:=h;refine⟨_,(AA (AF (A8 AM (AB Cv0 hr U (A4 (qv 0) (A4 (qv 1) (A4 (qv 2) (A4 (qv 3) A5))))) (G0 A6) Y9))),?_⟩;walk_at "d";refine⟨_,U,_,U,_,U,_,U,d,N,pr,Ns,goal,m,U,hN,hT,hd,nok,N1,N2,nl,lm,few,g0,g1,λ l F Ts H2 u2 t2 fo Lq l2 ok2=>?_⟩;obtain⟨xs,x1,xl⟩:=Lq.lst;have hC:Ts[N-1]?=some (Ts[N-1]'⋯):=BK ⋯;generalize Ts[N-1]'⋯=C at hC;obtain⟨qa,qa1,qa2,qa3,qa4,qa5⟩:=Lq.at x1 hC;have a1:DK xs (-1)=some (.ref qa):=by
  have:=LB (xs:=xs) (k:=1) (BU _) ⋯;rw[xl,l2] at this;exact this.trans qa1
 exact⟨_,U,l,_,_,_,U,U,SqL.of x1,a1,q qa F Ts C H2 u2 t2 fo l2 ok2 hC qa2 qa3 qa4⟩
end
def Mn(S:Int->Prop)(o:Option Int):Prop:=(∀y,o=some y->S y/\∀z,S z->y<=z)/\(o=none->∀z,¬S z)
theorem Mn.eq{b:Option Int}(h:Mn S a)(h':Mn S' b)(h1:∀y,S y->∃x,x<=y/\S' x)(h2:∀y,S' y->∃x,x<=y/\S x):a=b:=by
 cases a with
 |none =>
  cases b with
  |none=>rfl
  |some y =>
   obtain⟨x,_,s⟩:=h2 y (h'.1 y rfl).1;exact absurd s (h.2 rfl x)
 |some x =>
  obtain⟨s1,s2⟩:=h.1 x rfl;obtain⟨z,l,sz⟩:=h1 x s1;cases b with
  |none=>exact absurd sz (h'.2 rfl z)
  |some y =>
   obtain⟨t1,t2⟩:=h'.1 y rfl;obtain⟨z',l',sz'⟩:=h2 y t1;have:=t2 z sz;have:=s2 z' sz';rw[show x=y by omega]
theorem Mn.uniq{b:Option Int}(h:Mn S a)(h':Mn S b):a=b:=h.eq h' (λ y s=>⟨y,DY _,s⟩) λ y s=>⟨y,DY _,s⟩
theorem Mn.dom(h:Mn S a)(h1:∀y,S y->S' y)(h2:∀y,S' y->∃x,x<=y/\S x):Mn S' a:=by
 refine⟨λ y e=>⟨h1 y (h.1 y e).1,λ z s=>?_⟩,λ e z s=>?_⟩
 ·obtain⟨x,l,sx⟩:=h2 z s;have:=(h.1 y e).2 x sx;omega
 ·obtain⟨x,l,sx⟩:=h2 z s;exact h.2 e x sx
theorem Mn.congr(h:Mn S a)(e:∀y,S y↔S' y):Mn S' a:=h.dom (λ y s=>(e y).mp s) λ y s=>⟨y,DY _,(e y).mpr s⟩
theorem Mn.omin{S S':Int->Prop}{a b:Option Int}(h:Mn S a)(h':Mn S' b):Mn (λ y=>S y\/S' y) (Ma.omin a b):=by
 cases a with
 |none=>exact⟨λ y e=>⟨.inr (h'.1 y e).1,λ z s=>s.elim (λ s=>absurd s (h.2 rfl z)) ((h'.1 y e).2 z)⟩,λ e z s=>s.elim (h.2 rfl z) (h'.2 e z)⟩
 |some x =>
  cases b with
  |none=>exact⟨λ y e=>⟨.inl (h.1 y e).1,λ z s=>s.elim ((h.1 y e).2 z) λ s=>absurd s (h'.2 rfl z)⟩,λ e=>by cases e⟩
  |some x' =>
   obtain⟨s1,s2⟩:=h.1 x rfl;obtain⟨t1,t2⟩:=h'.1 x' rfl;refine⟨λ y e=>?_,λ e=>by cases e⟩;have e:(if x'<x then x' else x)=y:=Option.some.inj e;split at e
   ·subst e;exact⟨.inr t1,λ z s=>s.elim (λ s=>by have:=s2 z s;omega) (t2 z)⟩
   ·subst e;exact⟨.inl s1,λ z s=>s.elim (s2 z) λ s=>by have:=t2 z s;omega⟩
theorem Mn.none(h:∀z,¬S z):Mn S none:=⟨λ y e=>(nomatch e),λ _=>h⟩
theorem Mn.one{x:Int}(h1:S x)(h2:∀z,S z->x<=z):Mn S (some x):=⟨λ y e=>by cases e;exact⟨h1,h2⟩,λ e=>by cases e⟩
theorem qP{C:List T3}(ck:Ma.CK d C){t':Int}(h:Ma.bt d C t=some z)(l:t'<=t):∃z',Ma.bt d C t'=some z'/\z'<=z:=by
 have n0:C≠[]:=λ e=>by rw[e] at h;cases h
 have T:=Ma.tells_bf (d:=d) n0;have r:=ck.rise T;rw[T t] at h;cases h;exact⟨_,T t',r.mono _ _ l⟩
theorem UK{C:List T3}(ck:Ma.CK d C)(h:Ma.bt d C t=some z):t<=z:=by
 have n0:C≠[]:=λ e=>by rw[e] at h;cases h
 have T:=Ma.tells_bf (d:=d) n0;rw[T t] at h;cases h;exact(ck.rise T).ge t
def pS(d:Int)(F:List BN):Prop:=∀m∈F,Ma.CK d m.2.2.2
def Jo(d:Int)(F:List BN):Nat->Int->Int->Int->Int->Prop
 |0,p,t,q,y=>p=q/\t=y
 |k+1,p,t,q,y=>Jo d F k p t q y\/∃m∈F,m.1=p/\∃z,Ma.bt d m.2.2.2 t=some z/\Jo d F k m.2.1 z q y
theorem gI{d:Int}{A:Tb}{p t:Int}{S:Int->Int->Int->Prop}:∀{F:List BN}{o:Option Int}{S0:Int->Prop},Mn S0 o->(∀m∈F,∀z,Mn (S m.2.1 z) (Ma.bt d (cl A m.2.1) z))->Mn (λ y=>S0 y\/∃m∈F,m.1=p/\∃z,Ma.bt d m.2.2.2 t=some z/\S m.2.1 z y) (GE d F A p t o)
 | [],o,S0,h,_=>h.congr λ y=>⟨.inl,λ s=>s.elim id λ⟨m,hm,_⟩=>by cases hm⟩
 |m::F,o,S0,h,hS=>by
  have hF:=λ x hx=>hS x (ER _ hx)
  by_cases e:m.1=p
  ·have hb:Mn (λ y=>∃z,Ma.bt d m.2.2.2 t=some z/\S m.2.1 z y) (Ma.obind (Ma.bt d m.2.2.2) (Ma.bt d (cl A m.2.1)) t):=by
    unfold Ma.obind;cases e':Ma.bt d m.2.2.2 t with
    |none=>exact Mn.none λ z ⟨x,hx,_⟩=>by cases hx
    |some z=>exact(hS m (EZ ..) z).congr λ y=>⟨λ s=>⟨z,rfl,s⟩,λ⟨x,hx,s⟩=>by cases hx;exact s⟩
   have:=gI (p:=p) (t:=t) (F:=F) (h.omin hb) hF;have e2:GE d (m::F) A p t o=GE d F A p t (Ma.omin o (Ma.obind (Ma.bt d m.2.2.2) (Ma.bt d (cl A m.2.1)) t)):=by
    show GE d F A p t (if m.1=p then _ else _)=_;rw[if_pos e]
   rw[e2];refine this.congr λ y=>⟨λ s=>?_,λ s=>?_⟩
   ·rcases s with(s|s)|⟨x,hx,s⟩
    ·exact .inl s
    ·exact .inr ⟨m,EZ ..,e,s⟩
    ·exact .inr ⟨x,ER _ hx,s⟩
   ·rcases s with s|⟨x,hx,s1,s2⟩
    ·exact .inl (.inl s)
    ·rcases C6.mp hx with rfl|hx
     ·exact .inl (.inr s2)
     ·exact .inr ⟨x,hx,s1,s2⟩
  ·have:=gI (p:=p) (t:=t) (F:=F) h hF;have e2:GE d (m::F) A p t o=GE d F A p t o:=by
    show GE d F A p t (if m.1=p then _ else _)=_;rw[if_neg e]
   rw[e2];refine this.congr λ y=>⟨λ s=>?_,λ s=>?_⟩
   ·rcases s with s|⟨x,hx,s⟩
    ·exact .inl s
    ·exact .inr ⟨x,ER _ hx,s⟩
   ·rcases s with s|⟨x,hx,s1,s2⟩
    ·exact .inl s
    ·rcases C6.mp hx with rfl|hx
     ·exact absurd s1 e
     ·exact .inr ⟨x,hx,s1,s2⟩
theorem TsOk.mn{d:Int}{n:Nat}{goal:Int}{F:List BN}{m:Nat}{Ts:List Tb}(hd:0<d)(fok:FOk d n m F)(ok:TsOk d n goal F m stepT Ts):∀{k:Nat}{A:Tb},Ts[k]?=some A->∀p,0<=p->p<(n:Int)->∀t,Mn (Jo d F k p t goal) (Ma.bt d (cl A p) t)
 |0,A,hA,p,p0,p1,t=>by
  rw[ok.first] at hA;cases hA;rw[cE p0 p1]
  by_cases e:p=goal
  ·rw[if_pos e,Ma.bt_still hd];exact Mn.one ⟨e,rfl⟩ λ z s=>Ar s.2
  ·rw[if_neg e];exact Mn.none λ z s=>e s.1
 |k+1,A,hA,p,p0,p1,t=>by
  have lt:=(CP.mp hA).1;have hA':=BK (show k<Ts.length by omega);rw[ok.grow k _ A hA' hA p p0 p1 t];exact gI (S:=λ q z=>Jo d F k q z goal) (ok.mn hd fok hA' p p0 p1 t) λ x hx z=>ok.mn hd fok hA' _ (fok x hx).2.1.1 (fok x hx).2.1.2 z
def Pa(d:Int)(F:List BN):List Int->Int->Int->Int->Int->Prop
 | [],p,t,q,y=>p=q/\t=y
 |x::ps,p,t,q,y=>∃m∈F,m.1=p/\m.2.1=x/\∃z,Ma.bt d m.2.2.2 t=some z/\Pa d F ps x z q y
theorem Jo.up:∀{k:Nat}{p t q y:Int},Jo d F k p t q y->Jo d F (k+1) p t q y:=λ h=>.inl h
theorem Jo.le{p y:Int}(h:Jo d F k p t q y)(l:k<=j):Jo d F j p t q y:=by
 induction j with
 |zero =>
  have:k=0:=⋯;subst this;exact h
 |succ j ih =>
  rcases(by omega:k=j+1\/k<=j) with e|e
  ·subst e;exact h
  ·exact(ih e).up
theorem Jo.pa:∀{k:Nat}{p t q y:Int},Jo d F k p t q y->∃ps,ps.length<=k/\Pa d F ps p t q y
 |0,p,t,q,y,h=>⟨[],BU _,h⟩
 |k+1,p,t,q,y,h=>by
  rcases h with h|⟨m,hm,e,z,hz,h⟩
  ·obtain⟨ps,l,h⟩:=h.pa;exact⟨ps,⋯,h⟩
  ·obtain⟨ps,l,h⟩:=h.pa;exact⟨m.2.1::ps,by simp;omega,m,hm,e,U,z,hz,h⟩
theorem Pa.jo:∀{ps:List Int}{p t q y:Int},Pa d F ps p t q y->Jo d F ps.length p t q y
 | [],p,t,q,y,h=>h
 |x::ps,p,t,q,y,⟨m,hm,e,ex,z,hz,h⟩=>.inr ⟨m,hm,e,z,hz,by rw[ex];exact h.jo⟩
theorem Pa.early(ck:pS d F):∀{ps:List Int}{p t t' q y:Int},Pa d F ps p t q y->t'<=t->∃y',y'<=y/\Pa d F ps p t' q y'
 | [],p,t,t',q,y,⟨e1,e2⟩,l=>⟨t',⋯,e1,rfl⟩
 |x::ps,p,t,t',q,y,⟨m,hm,e,ex,z,hz,h⟩,l=>by
  obtain⟨z',hz',lz⟩:=qP (ck m hm) hz l;obtain⟨y',ly,h'⟩:=h.early ck lz;exact⟨y',ly,m,hm,e,ex,z',hz',h'⟩
theorem Pa.from(ck:pS d F):∀{ps:List Int}{p t q y a:Int},Pa d F ps p t q y->a∈ps->∃ps' z,ps'.length<ps.length/\t<=z/\Pa d F ps' a z q y/\∀b∈ps',b∈ps
 |x::ps,p,t,q,y,a,⟨m,hm,e,ex,z,hz,h⟩,ha=>by
  have tz:=UK (ck m hm) hz;rcases C6.mp ha with rfl|ha
  ·exact⟨ps,z,by simp,tz,h,λ b hb=>ER _ hb⟩
  ·obtain⟨ps',z',l,tz',h',s⟩:=h.from ck ha
   exact⟨ps',z',by simp;omega,⋯,h',λ b hb=>ER _ (s b hb)⟩
theorem Pa.nodup(ck:pS d F):∀(n:Nat){ps:List Int}{p t q y:Int},ps.length<=n->Pa d F ps p t q y->∃ps' y',y'<=y/\Pa d F ps' p t q y'/\(p::ps').Nodup/\∀b∈ps',b∈ps
 |n,[],p,t,q,y,_,h=>⟨[],y,DY _,h,by simp,λ b hb=>hb⟩
 |0,x::ps,_,_,_,_,l,_=>by simp at l
 |n+1,x::ps,p,t,q,y,l,h=>by
  simp at l
  by_cases hp:p∈x::ps
  ·obtain⟨ps',z,l',tz,h',s⟩:=h.from ck hp
   obtain⟨y',ly,h''⟩:=h'.early ck tz;obtain⟨ps'',y'',ly',h3,nd,s'⟩:=Pa.nodup ck n (by simp at l';omega) h'';exact⟨ps'',y'',⋯,h3,nd,λ b hb=>s b (s' b hb)⟩
  ·obtain⟨m,hm,e,ex,z,hz,h⟩:=h;obtain⟨ps',y',ly,h',nd,s⟩:=Pa.nodup ck n l h;refine⟨x::ps',y',ly,⟨m,hm,e,ex,z,hz,h'⟩,KE.mpr ⟨λ z=>hp ?_,nd⟩,λ b hb=>?_⟩
   ·rcases C6.mp z with z|z
    ·exact C6.mpr (.inl z)
    ·exact ER _ (s _ z)
   ·rcases C6.mp hb with z|z
    ·exact C6.mpr (.inl z)
    ·exact ER _ (s _ z)
theorem ZK:∀(n:Nat){L:List Int},L.Nodup->(∀x∈L,0<=x/\x<(n:Int))->L.length<=n
 |0,L,nd,h=>by
  cases L with
  |nil=>exact BU _
  |cons x L =>
   have:=h x (EZ ..);omega
 |n+1,L,nd,h=>by
  by_cases hn:(n:Int)∈L
  ·have h1:=ZK n (nd.erase (n:Int)) λ x hx=>by
    have h2:=h x (List.mem_of_mem_erase hx);have h3:x≠(n:Int):=λ e=>nd.not_mem_erase (e ▸ hx)
    omega
   rw[List.length_erase_of_mem hn] at h1;omega
  ·have:=ZK n nd λ x hx=>by
    have h2:=h x hx;have h3:x≠(n:Int):=λ e=>hn (e ▸ hx)
    omega
   omega
theorem Pa.in(hF:∀m∈F,0<=m.2.1/\m.2.1<(n:Int)):∀{ps:List Int}{p t q y:Int},Pa d F ps p t q y->∀b∈ps,0<=b/\b<(n:Int)
 |x::ps,p,t,q,y,⟨m,hm,e,ex,z,hz,h⟩,b,hb=>by
  rcases C6.mp hb with rfl|hb
  ·rw[<- ex];exact hF m hm
  ·exact h.in hF b hb
theorem Jo.enough(ck:pS d F)(hF:∀m∈F,0<=m.2.1/\m.2.1<(n:Int)){p y:Int}(p0:0<=p)(p1:p<(n:Int))(h:Jo d F k p t q y):∃y',y'<=y/\Jo d F (n-1) p t q y':=by
 obtain⟨ps,l,h⟩:=h.pa;have hin:=h.in hF;obtain⟨ps',y',ly,h',nd,s⟩:=Pa.nodup ck _ (BU _) h;have:=ZK n nd λ x hx=>by
  rcases C6.mp hx with rfl|hx
  ·exact⟨p0,p1⟩
  ·exact hin x (s x hx)
 simp at this;exact⟨y',ly,h'.jo.le ⋯⟩
theorem FOk.ck{m:Nat}(h:FOk d size m F):pS d F:=λ x hx=>(h x hx).2.2.1
theorem TsOk.all{goal:Int}{m:Nat}{Ts:List Tb}{A:Tb}(hd:0<d)(fok:FOk d n m F)(ok:TsOk d n goal F m stepT Ts)(hA:Ts[n-1]?=some A)(p:Int)(p0:0<=p)(p1:p<(n:Int))(t:Int):Mn (λ y=>∃k,Jo d F k p t goal y) (Ma.bt d (cl A p) t) :=
 (ok.mn hd fok hA p p0 p1 t).dom (λ y s=>⟨_,s⟩) λ y ⟨k,s⟩=>s.enough fok.ck (λ x hx=>(fok x hx).2.1) p0 p1
theorem Fords.of(h:Fords d N F){f:BN}(hf:f∈F):∃x∈N,x.1=f.1/\x.2.1=f.2.1/\∀t,Ma.bt d f.2.2.2 t=Ma.bt d x.2.2.2 t:=by
 obtain⟨i,hi⟩:=KF hf;have lt:=(CP.mp hi).1;have hx:=BK (show i<N.length by rw[<- h.1];exact lt);obtain⟨e1,e2,_,_,e3⟩:=h.2 i _ f hx hi;exact⟨_,DL hx,e1.symm,e2.symm,e3⟩
theorem Fords.to(h:Fords d N F){x:BN}(hx:x∈N):∃f∈F,f.1=x.1/\f.2.1=x.2.1/\∀t,Ma.bt d f.2.2.2 t=Ma.bt d x.2.2.2 t:=by
 obtain⟨i,hi⟩:=KF hx;have lt:=(CP.mp hi).1;have hf:=BK (show i<F.length by rw[h.1];exact lt);obtain⟨e1,e2,_,_,e3⟩:=h.2 i _ _ hi hf;exact⟨_,DL hf,e1,e2,e3⟩
theorem ZW{f f' m:Nat}(h:f<=f'):∀k,L7 f m k<=L7 f' m k
 |0=>BU _
 |k+1=>by
  have:=ZW (m:=m) h k;exact Ba this (sA h ⋯)
theorem dQ{f:Nat}(h:f<=16)(hn:n<=4):pC f 66 n:=λ k hk=>by
 have h1:=ZW (m:=66) h (k+1);have h2:=ZW (m:=66) h k;have b1:L7 16 66 (k+1)<=1000000:=by
  match k,hk with
  |0,_=>decide
  |1,_=>decide
  |2,_=>decide
  |k+3,hk=>omega
 have b2:L7 16 66 k<=19586:=by
  match k,hk with
  |0,_=>decide
  |1,_=>decide
  |2,_=>decide
  |k+3,hk=>omega
 exact⟨⋯,FB (Nat.mul_le_mul_left _ (show 2*(L7 f 66 k+1)+2<=2*19587+2 by omega)) (by decide)⟩
theorem pO{f:Nat}(h:f<=16)(hn:n<=4)(hk:k<n):L7 f 66 k<=400000:=by
 refine FB (ZW (m:=66) h k) ?_
 match k,hk with
 |0,_=>decide
 |1,_=>decide
 |2,_=>decide
 |3,_=>decide
 |k+4,hk=>omega
theorem sJ(h:Ma.bt d R t=some z):∃w∈R,Ma.bt d [w] t=some z:=by
 obtain⟨⟨w,hw,e⟩,_⟩:=Ma.bt_min h;exact⟨w,hw,by rw[e];rfl⟩
theorem U4{w:T3}(hw:w∈R)(h:Ma.bt d [w] t=some z):∃z',Ma.bt d R t=some z'/\z'<=z:=by
 rcases Ma.bt_spec d t R with⟨e,_⟩|⟨y,e,m⟩
 ·rw[e] at hw;cases hw
 ·refine⟨y,e,?_⟩;have e2:Ma.bt d [w] t=some (Ma.nextO d w.1 w.2.1 t+w.2.2):=rfl;rw[e2] at h;cases h;exact m.2 w hw
section
variable {f:Addr}
end
section
variable {F':List BN}
theorem Jo.to(h:∀m∈F,∃m'∈F',m'.1=m.1/\m'.2.1=m.2.1/\∀t,Ma.bt d m'.2.2.2 t=Ma.bt d m.2.2.2 t):∀{k:Nat}{p t q y:Int},Jo d F k p t q y->Jo d F' k p t q y
 |0,p,t,q,y,j=>j
 |k+1,p,t,q,y,j=>by
  rcases j with j|⟨m,hm,e,z,hz,j⟩
  ·exact .inl (j.to h)
  ·obtain⟨m',hm',e1,e2,e3⟩:=h m hm;exact .inr ⟨m',hm',e1.trans e,z,by rw[e3];exact hz,by rw[e2];exact j.to h⟩
end
inductive spRide70(vs:List V)(H:Hp)(Q:VK)(z3q:XK):Prop
 |mk (cell day:Int):vs=[.int cell,.int day]->1<=day->day<=1000000000000000->(∀(c:Int)(H':Hp),Same H H'->1<=c->c<=1000000000000000->Q (.int c) H')->spRide70 vs H Q z3q
inductive spRoads70(K:W.Frag)(vs:List V)(H:Hp)(Q:VK)(z3q:XK):Prop
 |mk (a:Addr) (ns:List Int) (day size goal most:Int):vs=[.ref a,.int day,.int size,.int goal,.int most]->SqL K H a (ns.map V.int)->ns.length<=63->1<=day->day<=1000000000000000->1<=size->0<=most->most<=6->(∀(l:Addr)(N:List BN)(H':Hp),Same H H'->NA H' l N->MW day size N->N.length<=4->(∀m∈N,m.2.2.2.length<=most.toNat)->Q (.ref l) H')->spRoads70 K vs H Q z3q
theorem pM{j:Int}(h0:0<=j)(h1:j<5):∃v:Int,DK [V.int 2,V.int 3,V.int 4,V.int 1,V.int 0] j=some (.int v)/\0<=v/\v<=4:=by
 rcases(by omega:j=0\/j=1\/j=2\/j=3\/j=4) with rfl|rfl|rfl|rfl|rfl
 all_goals exact⟨_,rfl,by decide,by decide⟩
theorem i6{j:Int}(h0:0<=j)(h1:j<5):∃v:Int,DK [V.int 1,V.int 1,V.int 2,V.int 1,V.int 0] j=some (.int v):=by
 rcases(by omega:j=0\/j=1\/j=2\/j=3\/j=4) with rfl|rfl|rfl|rfl|rfl
 all_goals exact⟨_,rfl⟩
section
variable {f:Addr}
theorem PR(F:Fun K "_law_ride" "_law_ride" c6 f fd)(B:Bl mg):FnOk P w K mg base B5 (n+1) f fd ["cell","day"] spRide70:=by
 refine F.okQ uN ?_ ?_;walk_at "o";obtain⟨c,day,rfl,d1,d2,q⟩:=h;refine⟨_,(AA (AF (A7 B7 A6 (A7 BR (A7 E8 (qv 0) A6) (A8 AM (D0 (A4 A6 (A4 A6 (A4 (AL (K1 U) U B.min bt_min (A4 (A7 OF A6 (qv 1)) (A4 (A7 L9 A6 A6) A5))) (A4 (A7 L9 A6 A6) A5))))) (A7 BR (qv 0) A6) Y9))))),?_⟩;walk_at "d";refine⟨_,U,_,_,U,U,⟨by decide,by decide⟩,_,U,_,_,U,U,.inl ⟨by decide,by decide⟩,_,_,U,U,⟨by decide,by decide,by decide⟩,_,_,U,_,_,U,U,⟨by decide,by decide,by decide⟩,VU,λ p hp=>?_⟩;dsimp only;have hm:1<=(if(10:Int) ^ (15:Int).toNat<2*day then(10:Int) ^ (15:Int).toNat else 2*day)/\(if(10:Int) ^ (15:Int).toNat<2*day then(10:Int) ^ (15:Int).toNat else 2*day)<=1000000000000000:=by
  rw[HJ];split<;>omega
 generalize (if(10:Int) ^ (15:Int).toNat<2*day then(10:Int) ^ (15:Int).toNat else 2*day)=x at *;generalize hgH1:AD _ p _=H1;revert H1;refine BE hp λ H1 s1 e1=>?_
 obtain⟨v,hv,v0,v1⟩:∃v:Int,DK [V.int 3,V.int 8,V.int x,V.int ((10:Int) ^ (15:Int).toNat)] (c%4)=some (.int v)/\1<=v/\v<=1000000000000000:=by
  have e0:=UH c (by decide:(4:Int)≠0);have e1:=UV c (by decide:(0:Int)<4);rcases(by omega:c%4=0\/c%4=1\/c%4=2\/c%4=3) with e|e|e|e
  ·exact⟨3,by rw[e];rfl,by decide,by decide⟩
  ·exact⟨8,by rw[e];rfl,by decide,by decide⟩
  ·exact⟨x,by rw[e];rfl,hm.1,hm.2⟩
  ·exact⟨(10:Int) ^ (15:Int).toNat,by rw[e];rfl,by rw[HJ];decide,by rw[HJ];decide⟩
 have em:=EG (c/4) (show 0<v by omega);exact⟨_,U,_,_,U,U,(by show(0:Int)<4;decide),p,_,_,.int v,U,U,SqL.of e1,hv,_,_,U,U,⋯,_,_,U,U,q _ H1 s1 ⋯ ⋯⟩
theorem uA(F:Fun K "_law_roads" "_law_roads" YM f fd)(B:Bl mg)(Cb0:Callee P w K mg base n "_law_cell_at" ["script","k"] (spCell K))(Ch3:Callee P w K mg base n "_law_stay" ["cell","room"] spStay)(Ci3:Callee P w K mg base n "_law_ride" ["cell","day"] spRide70):FnOk P w K mg base B5 (n+1) f fd ["script","day","size","goal","most"] (spRoads70 K):=by
 refine F.okQ AO ?_ ?_;walk_at "o";obtain⟨a,ns,day,size,goal,most,rfl,hS,h63,d1,d2,z1,m0,m1,q⟩:=h;refine⟨_,(A9 (AC (i:=5) AO.nd U (AH U) (A8 AM (D0 (A4 A6 (A4 A6 (A4 A6 (A4 A6 (A4 A6 A5)))))) (A7 BR (A7 E8 (AB Cb0 hr U (A4 (qv 0) (A4 A6 A5))) A6) A6) Y9)) (A9 (Y7 (i:=6) ["k"] [none] AO.nd U (AH U) (BlkOk.of U U (SubL.to EX) U) U (HZ U B.range (A4 (qv 5) A5)) (λ _ _ _ _=>(AV (i:=0) (show(["k"]:List Str).Nodup by decide) U (AH U))) (λ _ _ _ _=>(D0 A5))) (A9 (DJ PassesOwn.never U (P4 U B.range (A4 A6 (A4 (AL (K1 U) U B.min bt_min (A4 (A7 D5 (AL CN U B.len C5 (A4 (qv 0) A5)) A6) (A4 (A7 B7 A6 (A7 OF A6 (qv 4))) A5))) (A4 A6 A5)))) (AV (i:=7) AO.nd U (AH U)) (AA (AE (AX JF (qv 5) A6 (AS _)) (A9 (AC (i:=8) AO.nd U (AH U) (A7 BR (A8 AM (qv 0) (qv 7) Y9) (qv 1))) (A9 (AC (i:=9) AO.nd U (AH U) (A7 B7 (qv 8) (AB Ch3 hr U (A4 (A8 AM (qv 0) (A7 B7 (qv 7) A6) Y9) (A4 (A7 D5 (qv 1) (qv 8)) A5))))) (A9 (AC (i:=10) AO.nd U (AH U) (A7 B7 (A7 E8 (qv 7) A6) (A7 OF (A7 E8 (A8 AM (qv 0) (A7 B7 (qv 7) A6) Y9) A6) (A7 E8 (A7 BR (A8 AM (qv 0) (A7 B7 (qv 7) A6) Y9) A6) A6)))) (AA (CF (DG (A8 AM (qv 6) (A7 BR (qv 10) (qv 5)) Y9) (A4 (D4 (A4 (qv 8) (A4 (qv 9) (A4 (AB Ci3 hr U (A4 (A8 AM (qv 0) (A7 B7 (qv 7) A6) Y9) (A4 (qv 1) A5))) A5)))) A5))))))) AY))) (A9 (AC (i:=11) AO.nd U (AH U) (D0 A5)) (A9 (DJ PassesOwn.never U (HZ U B.range (A4 (qv 5) A5)) (AV (i:=7) AO.nd U (AH U)) (A9 (AC (i:=12) AO.nd U (AH U) (AB Cb0 hr U (A4 (qv 0) (A4 (A7 B7 A6 (qv 7)) A5)))) (A9 (AC (i:=13) AO.nd U (AH U) (A7 BR (A7 B7 (A7 B7 (qv 3) (qv 7)) A6) (qv 2))) (A9 (AC (i:=14) AO.nd U (AH U) (A7 BR (A7 B7 (qv 3) (qv 7)) (qv 2))) (IE (AE (FM (QW.pt (CO (AX LD (qv 7) (A7 D5 (qv 2) A6) (AS _)) (FC (AX CS (A7 BR (qv 12) A6) A6 (AS _)))))) (A9 (AC (i:=13) AO.nd U (AH U) (A7 BR (A7 E8 (qv 12) A6) (qv 2))) (AA (AC (i:=14) AO.nd U (AH U) (A7 BR (A7 B7 (qv 13) (A8 AM (D0 (A4 A6 (A4 A6 (A4 A6 (A4 A6 (A4 A6 A5)))))) (A7 BR (A7 E8 (qv 12) A6) A6) Y9)) (qv 2))))) AY) (AA (CF (DG (qv 11) (A4 (D4 (A4 (qv 13) (A4 (qv 14) (A4 (A8 AM (qv 6) (qv 7) Y9) A5)))) A5))))))))) (AA (AF (qv 11)))))))),?_⟩;walk_at "d";have hl:(ns.map V.int).length=ns.length:=BY _;refine⟨Av,λ p1 hp1=>?_⟩;generalize hgH1:AD _ p1 _=H1;revert H1;refine BE hp1 λ H1 s1 e1=>?_
 refine⟨_,U,a,ns,1,U,s1.seq hS,by decide,λ c1=>?_⟩;obtain⟨mv,hv,mv0,mv1⟩:=pM (j:=c1/3%5) (UH _ (by decide)) (UV _ (by decide));obtain⟨many,rfl⟩:∃k:Nat,mv=(k:Int):=⟨mv.toNat,⋯⟩
 refine⟨_,_,U,U,⟨by decide,by decide⟩,_,_,U,U,(by show(0:Int)<5;decide),p1,_,_,.int (many:Int),U,U,SqL.of e1,hv,?_⟩;refine⟨_,U,(many:Int),U,⋯,⋯,?_⟩;refine bT (lo:=0) (n:=((many:Nat):Int).toNat) (λ D i H'=>Same H1 H'/\BA H' D (GL i [])/\Yg H1 H' D) (λ D hD=>⟨BD hD _,BA.nil AI,Yg.of (rs:=[]) AI (λ r hr=>by cases hr)⟩) ?_ ?_
 ·intro D i H' hD hi z9;obtain⟨sD,hB,hY⟩ := z9;refine⟨λ k v e=>?_,?_⟩
  ·match k,e with
   |0,e=>cases e
   |k+1,e=>cases e
  refine⟨II,λ l fl=>?_⟩;obtain⟨os,o1,o2,o3,o4,o5⟩:=id hB;have hol:os.length=i:=by rw[o2];simp
  have nlD:l≠D:=λ z=>by rw[z,o1] at fl;cases fl
  have nlo:l∉os:=λ z=>by
   obtain⟨j,hj⟩:=KF z;have lj:=(CP.mp hj).1;exact HE (enc':=AQ) (o5 j l _ hj (BK ⋯)) fl rfl
  have s2:=BD fl (.lst []);refine⟨_,s2 _ _ o1,BW (by simp;omega),C4 hD (sD.trans s2),?_,Yg.of (rs:=os++[l]) (by rw[AI];simp) λ r hr=>?_⟩
  ·have:=(hB.u (SameU.of s2)).snoc (s2 _ _ o1) (LA.nil AI) nlD nlo;rw[kJ];exact this
  ·rcases EW.mp hr with hr|hr
   ·exact hY os o1 r hr
   ·rw[D8] at hr;subst hr;exact sD.free fl
 intro pb H2 hpb z9;obtain⟨s2,hB,hY⟩ := z9;rw[show((many:Nat):Int).toNat=many by omega] at hB;have s02:=s1.trans s2;obtain⟨os,o1,o2⟩:=hB.lst;have o3:∀r∈os,H1 r=none:=hY os o1;refine⟨_,U,a,_,U,.inl (s02.seq hS),_,_,U,U,_,U,_,_,U,U,.inl ⟨by decide,by decide⟩,_,_,U,U,_,_,U,?_⟩;generalize hhi:(if 10+4*most<(((ns.map V.int).length:Nat):Int)-3 then 10+4*most else(((ns.map V.int).length:Nat):Int)-3)=hi;have hh1:hi<=(ns.length:Int)-3:=by rw[<- hhi];split<;>omega
 have hh2:-10<=hi:=by rw[<- hhi];split<;>omega
 have hh3:hi<=10+4*most:=by rw[<- hhi];split<;>omega
 have hcn:∀i,i<GJ 10 hi 4->10+(i:Int)*4<hi:=λ i hi'=>WT (by decide) hi'
 have hcl:GJ 10 hi 4<=most.toNat:=by
  rcases M3 (GJ 10 hi 4) with z|z
  ·omega
  ·have:=hcn (GJ 10 hi 4-1) ⋯;omega
 refine⟨10,hi,4,U,⟨⋯,⋯,⋯,⋯,by decide,by decide⟩,w6 (lo:=10) (st:=4) (n:=GJ 10 hi 4)
  (λ i σ H'=>∃(Cs:List (List T3)) (v7 v8 v9 v10:Option V),σ=[some (.ref a),some (.int day),some (.int size),some (.int goal),some (.int most),some (.int many),some (.ref pb),v7,v8,v9,v10,none,none,none,none]/\Same H H'/\BA H' pb Cs/\H' pb=some (.lst (os.map V.ref))/\Cs.length=many/\∀C∈Cs,C.length<=i/\∀w∈C,0<=w.1/\w.1<=w.2.1/\w.2.1<day/\1<=w.2.2/\w.2.2<=1000000000000000)
  ⟨_,_,_,_,_,rfl,s02,hB,o1,by simp,λ C hC=>?_⟩ ?_ ?_⟩
 ·have:=(List.mem_replicate.mp hC).2;subst this;exact⟨BU _,λ w hw=>by cases hw⟩
 ·intro i σ H3 hi' z9;obtain⟨Cs,v7,v8,v9,v10,rfl,s3,hB3,o13,lC,aC⟩ := z9;have hk:=hcn i hi';have k0:0<=10+(i:Int)*4:=⋯;generalize 10+(i:Int)*4=k at *;refine⟨_,U,_,_,U,U,_,U,AZ (λ c=>?_) (λ c=>⟨Cs,_,_,_,_,U,s3,hB3,o13,lC,λ C hC=>⟨by have:=(aC C hC).1;omega,(aC C hC).2⟩⟩)⟩;have mp:(0:Int)<(many:Int):=D6 c;have hS3:=s3.seq hS;have at_:∀j:Int,0<=j->j<(ns.length:Int)->∃v:Int,DK (ns.map V.int) j=some (.int v):=λ j j0 j1=>VE j0 j1
  obtain⟨x1,hx1⟩:=at_ k k0 ⋯;obtain⟨x2,hx2⟩:=at_ (k+1) ⋯ ⋯;obtain⟨x3,hx3⟩:=at_ (k+2) ⋯ ⋯;obtain⟨x4,hx4⟩:=at_ (k+3) ⋯ ⋯;have em:=EG x1 (show 0<day by omega);refine⟨_,U,_,U,a,_,_,_,U,U,hS3,hx1,_,U,_,_,U,U,(by show 0<day;omega),?_⟩;dsimp only;generalize x1%day=ax at *;refine⟨_,U,_,U,_,U,_,_,U,U,a,_,_,_,U,U,hS3,hx2,_,U,_,U,_,_,U,U,x2,day-ax,U,⋯,λ sy y0 y1=>⟨_,_,U,U,?_⟩⟩;refine⟨_,U,_,_,U,U,⟨by decide,by decide⟩,_,U,_,U,_,_,U,U,a,_,_,_,U,U,hS3,hx4,_,_,U,U,⟨by decide,by decide⟩,_,U,_,U,_,_,U,U,a,_,_,_,U,U,hS3,hx4,_,_,U,U,(by show(0:Int)<3;decide),_,_,U,U,⟨by decide,by decide⟩,_,_,U,U,?_,_,_,U,U,?_⟩
  ·right
   have:=EG x4 (show(0:Int)<3 by decide);refine⟨?_,?_⟩
   ·show -(2 ^ 64)<x4%3/2;omega
   ·show x4%3/2<2 ^ 64;omega
  dsimp only;generalize k/4+x4/3*(x4%3/2)=at';have ab:=EG at' mp;obtain⟨j,hj⟩:=pY ab.1;have lo:os.length=many:=by
   obtain⟨_,_,e,_⟩:=hB3.self o13;omega
  have hr:=BK (show j<os.length by omega);have hC:=BK (show j<Cs.length by omega);have mC:=DL hC;have mr:=DL hr;generalize os[j]=rb at hr mr;generalize Cs[j]=C at hC mC;have laC:LA AQ H3 rb C:=by
   obtain⟨rs',h1,h2,h3,h4,h5⟩:=id hB3;rw[o13] at h1;have e:=JV (Option.some.inj h1);subst e;exact h5 j rb C hr hC
  obtain⟨us,u1,u2,u3⟩:=laC.lst;have av:DK (os.map V.ref) (at'%(many:Int))=some (.ref rb):=by
   rw[hj];exact F6 (by rw[EH,hr];rfl)
  refine⟨_,U,_,U,_,U,_,_,U,U,mp,pb,_,_,_,U,U,SqL.of o13,av,.inl ⟨U,_,SqL.of u1⟩,_,U,_,U,_,U,_,U,_,_,U,U,a,_,_,_,U,U,hS3,hx3,_,U,x3,day,U,d1,d2,λ c' H4 s4 c0 c1'=>?_⟩;refine⟨QY,λ rr hrr=>?_⟩;generalize hgH5:AD _ rr _=H5;revert H5;refine BE hrr λ H5 s5 e5=>?_
  have s45:=s4.trans s5;have fresh:H rb=none:=s1.free (o3 rb mr);have aCC:=aC C mC;have npb:pb≠rb:=λ z=>(hB3.self o13).1 (z ▸ mr)
  refine⟨rb,us,.ref rr,U,U,s45 _ _ u1,BW ⋯,Cs.set j (C++[(ax,ax+sy,c')]),_,_,_,_,U,C4 fresh (s3.trans s45),(hB3.u (SameU.of s45)).pushAt (s45 _ _ o13) hr hC (s45 _ _ u1) e5,?_,by simp[lC],λ C' hC'=>?_⟩
  ·rw[AJ npb];exact s45 _ _ o13
  ·rcases rT hC' with z|z
   ·exact⟨by have:=(aC C' z).1;omega,(aC C' z).2⟩
   ·subst z;refine⟨by simp;omega,λ w hw=>?_⟩;rcases EW.mp hw with hw|hw
    ·exact aCC.2 w hw
    ·rw[D8] at hw;subst hw;exact⟨em.1,by show ax<=ax+sy;omega,by show ax+sy<day;omega,c0,c1'⟩
 intro σ H3 z9;obtain⟨Cs,v7,v8,v9,v10,rfl,s3,hB3,o13,lC,aC⟩ := z9;refine⟨II,λ pr hpr=>?_⟩;have hpr':=hpr;generalize hgH4:AD _ pr _=H4;revert H4;refine BE hpr λ H4 s4 e4=>?_
 have o14:=s4 _ _ o13;have hB4:=hB3.u (SameU.of s4);obtain⟨ns1,ns2,ns3,_⟩:=hB4.self o14;have nop:pr≠pb/\pr∉os:=by
  refine⟨λ z=>(by rw[z,o13] at hpr';cases hpr'),λ z=>?_⟩;exact(hB3.self o13).2.2.2 pr z hpr'
 refine⟨_,U,(many:Int),U,⋯,⋯,NN (lo:=0) (n:=((many:Nat):Int).toNat)
  (λ i σ H'=>∃(N:List BN)(v7 v12 v13 v14:Option V),σ=[some (.ref a),some (.int day),some (.int size),some (.int goal),some (.int most),some (.int many),some (.ref pb),v7,v8,v9,v10,some (.ref pr),v12,v13,v14]/\Same H H'/\BA H' pb Cs/\H' pb=some (.lst (os.map V.ref))/\NA H' pr N/\N.length=i/\MW day size N/\(N.map λ m=>m.2.2.1)=os.take i/\∀m∈N,m.2.2.2∈Cs)
  ⟨[],_,_,_,_,rfl,s3.trans s4,hB4,o14,NA.nil e4,rfl,(λ m hm=>by cases hm),rfl,λ m hm=>by cases hm⟩ ?_ ?_⟩
 ·intro i σ H5 hi z9;obtain⟨N,v7',v12,v13,v14,rfl,s5,hB5,o15,hN,lN,inN,mN,bN⟩ := z9;rw[show(0:Int)+((i:Nat):Int)=(i:Int) by omega];have i1:i<os.length:=⋯;have i2:i<Cs.length:=⋯;have sp:0<size:=⋯;refine⟨_,U,_,U,_,_,U,U,a,ns,6+(i:Int),U,s5.seq hS,⋯,λ cell=>?_⟩;refine⟨_,U,_,U,_,_,U,U,_,_,U,U,_,U,_,_,U,U,sp,?_⟩;refine⟨_,U,_,U,_,_,U,U,_,U,_,_,U,U,sp,?_⟩;refine⟨λ σ' H'=>∃here there:Int,σ'=[some (.ref a),some (.int day),some (.int size),some (.int goal),some (.int most),some (.int many),some (.ref pb),some (.int (i:Int)),v8,v9,v10,some (.ref pr),some (.int cell),some (.int here),some (.int there)]/\Same H5 H'/\(0<=here/\here<size)/\(0<=there/\there<size),?_,?_⟩
  ·refine⟨λ b H'=>H'=H5,?_,?_⟩
   ·refine⟨_,U,_,U,_,_,U,U,_,_,U,U,_,U,AZ (λ c=>rfl) (λ c=>?_)⟩;exact⟨_,U,_,_,U,U,(by show(0:Int)<4;decide),U,_,U,U⟩
   rintro b H6 rfl;refine AZ (λ c=>?_) (λ c=>⟨_,_,rfl,Same.refl _,EG _ sp,EG _ sp⟩);refine⟨_,U,_,_,U,U,⟨by decide,by decide⟩,_,U,_,_,U,U,sp,?_⟩;refine⟨_,U,Av,λ p6 hp6=>?_⟩;generalize hgH7:AD _ p6 _=H7;revert H7;refine BE hp6 λ H7 s7 e7=>?_
   obtain⟨v,hv⟩:=i6 (j:=cell/12%5) (UH _ (by decide)) (UV _ (by decide));exact⟨_,U,_,_,U,U,⟨by decide,by decide⟩,_,_,U,U,(by show(0:Int)<5;decide),p6,_,_,.int v,U,U,SqL.of e7,hv,_,_,U,U,_,U,_,_,U,U,sp,_,_,U,s7,EG _ sp,EG _ sp⟩
  intro σ' H6 z9;obtain⟨here,there,rfl,s6,b1,b2⟩ := z9;have hN6:=hN.same s6;obtain⟨vs,w1,w2,_⟩:=hN6.la.lst;rw[BY] at w2;have hr:=BK i1;have hC:=BK i2;have mr:=DL hr;have mC:=DL hC;have ndx:os[i]∉os.take i:=λ z=>by
   obtain⟨j,hj⟩:=KF z;have lj:=(CP.mp hj).1;rw[GV] at lj;rw[qW ⋯] at hj;have:=(Az ⋯ ns2).mp (hj.trans hr.symm);omega
  generalize os[i]=rb at hr mr ndx;generalize Cs[i]=C at hC mC;have B6:=hB5.u (SameU.of s6);have laC:LA AQ H6 rb C:=by
   obtain⟨rs',h1,h2,h3,h4,h5⟩:=id B6;rw[s6 _ _ o15] at h1;have e:=JV (Option.some.inj h1);subst e;exact h5 i rb C hr hC
  have av:DK (os.map V.ref) (i:Int)=some (.ref rb):=F6 (by rw[EH,hr];rfl);refine⟨_,U,.inl ⟨U,_,SqL.of w1⟩,_,U,_,U,_,U,_,U,pb,_,_,_,U,U,SqL.of (s6 _ _ o15),av,QY,λ rr hrr=>?_⟩;generalize hgH7:AD _ rr _=H7;revert H7;refine BE hrr λ H7 s7 e7=>?_
  have fb:rb≠pr/\rb∉N.map λ m=>m.2.2.1:=⟨λ z=>nop.2 (z ▸ mr),by rw[mN];exact ndx⟩
  have aC':=aC C mC;refine⟨pr,vs,.ref rr,U,U,s7 _ _ w1,BW ⋯,N++[(here,there,rb,C)],_,_,_,_,U,C4 (s3.free hpr') ((s5.trans s6).trans s7),?_,?_,(hN6.same s7).add fb (s7 _ _ w1) (laC.same s7) e7,by simp[lN],λ m hm=>?_,?_,λ m hm=>?_⟩
  ·exact(B6.u (SameU.of s7)).off (s7 _ _ (s6 _ _ o15)) (s7 _ _ w1) nop.1.symm nop.2
  ·rw[AJ nop.1.symm];exact s7 _ _ (s6 _ _ o15)
  ·rcases EW.mp hm with hm|hm
   ·exact inN m hm
   ·rw[D8] at hm;subst hm;exact⟨b1,b2,by show C.length<=16;omega,aC'.2⟩
  ·rw[HA,mN,HC hr];rfl
  ·rcases EW.mp hm with hm|hm
   ·exact bN m hm
   ·rw[D8] at hm;subst hm;exact mC
 intro σ H5 z9;obtain⟨N,v7',v12,v13,v14,rfl,s5,hB5,o15,hN,lN,inN,mN,bN⟩ := z9;exact⟨_,U,q pr N H5 s5 hN inN ⋯ λ m hm=>FB (aC _ (bN m hm)).1 hcl⟩
def OL(H:Hp)(p:Addr)(os:List (Option Int)):Prop:=H p=some (.lst (os.map B9))
theorem GO{i:Int}(h0:0<=i)(h1:i<(os.length:Int)):DK (os.map B9) i=some (B9 (os.getD i.toNat none)):=by
 have hq:os[i.toNat]?=some (os[i.toNat]'⋯):=BK ⋯;have:=F6 (xs:=os.map B9) (j:=i.toNat) (v:=B9 (os.getD i.toNat none)) (by rw[EH,hq,IP,hq];rfl);rw[show((i.toNat:Nat):Int)=i by omega] at this;exact this
theorem JC:(os.map B9).set i (B9 o)=(os.set i o).map B9:=by rw[vB]
theorem KP(hi:i<os.length):(os.set i o).getD j none=if i=j then o else os.getD j none:=by
 rw[IP,gG]
 by_cases e:i=j
 ·rw[if_pos e,if_pos ⋯,if_pos e];rfl
 ·rw[if_neg e,if_neg e,IP]
theorem VN{a:Int}(hd:0<d)(a0:0<=a)(ab:a<=b)(bd:b<d):Ma.nextO d a b t=if a<=t%d/\t%d<=b then t else t+(a-t)%d:=by
 have m0:=UH t (by omega:d≠0);have m1:=UV t hd;have md:=wK t d;have key:(a-t)%d=(a-t%d)%d:=by
  have:a-t=(a-t%d)+d*(-(t/d)):=by rw[yO];omega
  rw[this,sE]
 rw[Ma.nextO_eq d a b t ab,key]
 by_cases c1:b<t%d
 ·rw[if_pos c1,if_neg ⋯];have:(a-t%d)%d=a-t%d+d:=by
   rw[<- t9,rS ⋯ ⋯]
  rw[this];omega
 ·rw[if_neg c1]
  by_cases c2:t%d<a
  ·have:(a-t%d)%d=a-t%d:=rS ⋯ ⋯;rw[if_pos c2,if_neg ⋯,this];omega
  ·rw[if_neg c2,if_pos ⋯]
inductive spComing(vs:List V)(H:Hp)(Q:VK)(z3q:XK):Prop
 |mk (d:Int) (pb:Addr) (t:Int) (R:List T3):vs=[.int d,.ref pb,.int t]->LA AQ H pb R->R.length<=1000->0<d->((∀w∈R,0<=w.1/\w.1<=w.2.1/\w.2.1<d))->(∀H',Same H H'->Q (B9 (Ma.bt d R t)) H')->spComing vs H Q z3q
theorem PH(F:Fun K "_law_coming" "_law_coming" aM f fd)(B:Bl mg):FnOk P w K mg base B5 (n+1) f fd ["day","board","t"] spComing:=by
 refine F.okQ C9 ?_ ?_;walk_at "o";obtain⟨d,pb,t,R,rfl,hb,lR,hd,hw,q⟩:=h;refine⟨_,(A9 (AC (i:=3) C9.nd U (AH U) (D0 A5)) (A9 (DJ PassesOwn.never U (DN (qv 1)) (G8 U (BI (AV (i:=4) C9.nd U (AH U)) (BI (AV (i:=5) C9.nd U (AH U)) (BI (AV (i:=6) C9.nd U (AH U)) FX)))) (AA (AE (QJ EA EA (qv 4) (A7 BR (qv 2) (qv 0)) (qv 5)) (AA (CF (DG (qv 3) (A4 (A7 B7 (qv 2) (qv 6)) A5)))) (AA (CF (DG (qv 3) (A4 (A7 B7 (A7 B7 (qv 2) (A7 BR (A7 D5 (qv 4) (qv 2)) (qv 0))) (qv 6)) A5))))))) (AA (AF (YB U U B.min (A4 (qv 3) A5) DE))))),?_⟩;walk_at "d";refine⟨II,λ pf hpf=>?_⟩;have s0:=BD hpf (.lst []);obtain⟨bs,b1,b2,b3⟩:=hb.lst;refine⟨_,U,pb,U,⟨_,SqL.of (s0 _ _ b1)⟩,GI (K:=K) (a:=pb) (xs:=bs)
  (λ i σ H'=>∃v4 v5 v6:Option V,σ=[some (.int d),some (.ref pb),some (.int t),some (.ref pf),v4,v5,v6]/\Same H H'/\H' pf=some (.lst (((R.take i).map λ w=>Ma.nextO d w.1 w.2.1 t+w.2.2).map V.int)))
  ⟨_,_,_,rfl,s0,AI⟩ (λ i σ H' _ z9=>by obtain⟨_,_,_,_,s,_⟩ := z9;exact SqL.of (s _ _ b1)) ?_ ?_⟩
 ·intro i y σ H1 hi z9;obtain⟨v4,v5,v6,rfl,s1,e1⟩ := z9;obtain⟨r,x,rfl,ex,er⟩:=b3 i y hi;have hi2:=(CP.mp ex).1;obtain⟨x0,x1,x2⟩:=hw x (DL ex);have nx:=VN (t:=t) hd x0 x1 x2;refine⟨r,_,U,SqT.of (s1 _ _ er),U,_,_,U,_,_,U,_,_,U,U,?_⟩;have line:(((R.take i).map λ w=>Ma.nextO d w.1 w.2.1 t+w.2.2).map V.int).length<sizeLine:=by
   simp only[BY,GV];exact BW ⋯
  have inv:∀v:Int,v=Ma.nextO d x.1 x.2.1 t+x.2.2->∃v4 v5 v6:Option V,([some (.int d),some (.ref pb),some (.int t),some (.ref pf),some (.int x.1),some (.int x.2.1),some (.int x.2.2)]:L2.St)=[some (.int d),some (.ref pb),some (.int t),some (.ref pf),v4,v5,v6]/\Same H (AD H1 pf (.lst (((R.take i).map λ w=>Ma.nextO d w.1 w.2.1 t+w.2.2).map V.int++[.int v])))/\AD H1 pf (.lst (((R.take i).map λ w=>Ma.nextO d w.1 w.2.1 t+w.2.2).map V.int++[.int v])) pf=some (.lst (((R.take (i+1)).map λ w=>Ma.nextO d w.1 w.2.1 t+w.2.2).map V.int)):=λ v ev=>by
   refine⟨_,_,_,U,C4 hpf s1,?_⟩;rw[AI,HC ex,HA,HA,ev];rfl
  have late:¬(x.1<=t%d/\t%d<=x.2.1)->_:=λ c=>inv (t+(x.1-t)%d+x.2.2) (by rw[nx,if_neg c])
  refine⟨_,U,_,U,_,U,_,_,U,U,hd,_,_,U,U,_,U,AZ (λ c1=>?_) (λ c1=>?_)⟩
  ·have c1':x.1<=t%d:=D6 c1;refine⟨_,U,_,_,U,U,_,U,AZ (λ c2=>?_) (λ c2=>?_)⟩
   ·have c2':t%d<=x.2.1:=D6 c2;exact⟨_,U,.inl ⟨U,_,SqL.of e1⟩,_,U,_,U,_,_,U,U,pf,_,_,U,U,e1,line,inv _ (by rw[nx,if_pos ⟨c1',c2'⟩])⟩
   ·exact⟨_,U,.inl ⟨U,_,SqL.of e1⟩,_,U,_,U,_,U,_,_,U,U,_,U,_,_,U,U,hd,_,_,U,U,_,U,_,_,U,U,pf,_,_,U,U,e1,line,late λ z=>c2 (CB z.2)⟩
  ·refine⟨_,U,BB ?_⟩;exact⟨_,U,.inl ⟨U,_,SqL.of e1⟩,_,U,_,U,_,U,_,_,U,U,_,U,_,_,U,U,hd,_,_,U,U,_,U,_,_,U,U,pf,_,_,U,U,e1,line,late λ z=>c1 (CB z.1)⟩
 intro σ H1 z9;obtain⟨v4,v5,v6,rfl,s1,e1⟩ := z9;rw[b2,JH] at e1;refine⟨_,U,pf,U,_,SqL.of e1,λ e=>?_,λ ne m hm le=>?_⟩
 ·have:R=[]:=by simpa using e
  subst this;exact q H1 s1
 ·obtain⟨w,hw',rfl⟩:=DT.mp hm;have e:Ma.bt d R t=some (Ma.nextO d w.1 w.2.1 t+w.2.2):=by
   obtain⟨z,hz,lz⟩:=U4 hw' (show Ma.bt d [w] t=some (Ma.nextO d w.1 w.2.1 t+w.2.2) from rfl);obtain⟨w2,hw2,ew2⟩:=sJ hz;have e2:Ma.bt d [w2] t=some (Ma.nextO d w2.1 w2.2.1 t+w2.2.2):=rfl;rw[e2] at ew2;cases ew2;have:=le _ (DT.mpr ⟨w2,hw2,rfl⟩);rw[hz];congr 1;omega
  have:=q H1 s1;rw[e] at this;exact this
def CZ(w:T3):Str:=if w.1<w.2.1 then J5++(IL (toString w.1))++"-"++(IL (toString w.2.1))++"+"++(IL (toString w.2.2)) else J5++(IL (toString w.1))++"+"++(IL (toString w.2.2))
def JJ(R:List T3):Str:=Txt.join " " (R.map CZ)
def HR(s e:Str)(R:List T3):Str:=if R=[] then J5++s++">"++e else J5++s++">"++e++" "++JJ R
def E5(names:List Str)(i:Int):Str:=names.getD i.toNat J5
def Sm(x:Int):Prop:=0<=x/\x<10000000000000000
def xR(R:List T3):Prop:=∀w∈R,Sm w.1/\Sm w.2.1/\Sm w.2.2
theorem Sm.len{x:Int}(h:Sm x):(IL (toString x)).length<=16:=toString_length_le h.1 (by decide) (by have:=h.2;have e:(10:Int) ^ 16=10000000000000000:=(by decide);rw[e];exact this)
theorem Sm.log{x:Int}(h:Sm x):x.natAbs.log2<1920:=by
 rcases M3 x.natAbs with z|z
 ·rw[z];decide
 ·rw[xP ⋯];have h1:x.natAbs<10000000000000000:=by have:=h.1;have:=h.2;omega
  exact HP h1 (FB (by decide:10000000000000000<=2 ^ 54) (Bh (by decide) (by decide)))
theorem L.le(h:n<=16000000):n<=sizeLine:=RS (BW h)
theorem O7:Str.empty.length=0:=rfl
theorem ZM{w:T3}(h:Sm w.1/\Sm w.2.1/\Sm w.2.2):(CZ w).length<=50:=by
 have h1:=h.1.len;have h2:=h.2.1.len;have h3:=h.2.2.len;have e1:("-":Str).length=1:=by decide
 have e2:("+":Str).length=1:=by decide
 unfold CZ;split<;>simp only[EY,O7,e1,e2]<;>omega
theorem oB{B:Nat}(hB:∀y∈ts,y.length<=B)(h:ts.length*B+ts.length*sep.length<=16777216):JoinOk sep ts=true:=by
 unfold JoinOk;rw[StrLaws.joinFits hB h];rfl
theorem RC{B:Nat}(hB:∀y∈ts,y.length<=B):(Txt.join sep ts).length<=ts.length*B+ts.length*sep.length:=by
 unfold Txt.join;rw[StrLaws.glued_eq_join];have h1:=StrLaws.join_length_le sep ts;have h2:=StrLaws.sumLen_le ts hB;omega
theorem xD(h:xR R)(hl:R.length<=100):(JJ R).length<=5100:=by
 have e1:(" ":Str).length=1:=by decide
 have:=RC (sep := " ") (ts:=R.map CZ) (B:=50) λ y hy=>by
  obtain⟨w,hw,rfl⟩:=DT.mp hy;exact ZM (h w hw)
 rw[BY,e1] at this;unfold JJ;omega
theorem mP{s:Str}(h:xR R)(hl:R.length<=100)(hs:s.length<=100)(he:e.length<=100):(HR s e R).length<=5400:=by
 have e1:(" ":Str).length=1:=by decide
 have e2:(">":Str).length=1:=by decide
 have hb:=xD h hl;unfold HR;split<;>simp only[EY,O7,e1,e2]<;>omega
structure NetTx(names:List Str)(N:List BN):Prop where
 few:N.length<=100
 nm:∀x∈names,x.length<=100
 rd:∀m∈N,0<=m.1/\m.1<names.length/\0<=m.2.1/\m.2.1<names.length/\xR m.2.2.2/\m.2.2.2.length<=100
theorem LO{i:Int}(h0:0<=i)(h1:i<names.length):DK (names.map V.str) i=some (.str (E5 names i)):=by
 obtain⟨k,rfl⟩:=pY h0;refine F6 ?_;have hk:k<names.length:=⋯;rw[EH,BK hk];simp[E5,yU,BK hk]
theorem VO{B:Nat}(h:∀x∈names,x.length<=B)(i:Int):(E5 names i).length<=B:=by
 unfold E5;rcases P3 i.toNat names.length with z|z
 ·have e:names.getD i.toNat J5=names[i.toNat]:=by simp[yU,BK z]
  rw[e];exact h _ (KR z)
 ·have e:names.getD i.toNat J5=J5:=by simp[yU,List.getElem?_eq_none z]
  rw[e];exact HV _
end
section
open PySem.StrLaws PySem.Builtin.Str
theorem gL{a b:Nat}(hx:∀k,x.cps.toList[k]?=some c->At x sep x.length k)(hn:∀k,a<=k->k<b->¬At x sep x.length k):c∉(strSub x a b).cps.toList:=by
 intro hm;rw[strSub_toList] at hm;obtain⟨j,hj⟩:=KF hm;have hlt:j<b-a:=by
  have h1:j<((x.cps.toList.drop a).take (b-a)).length:=(CP.mp hj).1;simp at h1;omega
 rw[qW hlt,rW] at hj;exact hn (a+j) ⋯ ⋯ (hx _ hj)
theorem oS{x sep:Str}{c:Nat}(hx:∀k,x.cps.toList[k]?=some c->At x sep x.length k):∀(cuts:List Nat)(a f:Nat),ChainG x sep x.length a cuts f->(∀k,f<=k->¬At x sep x.length k)->∀p∈partsFrom x sep.length a cuts,c∉p.cps.toList
 | [],a,f,h,hn,p,hp=>by
  have e:f=a:=h;subst e;rw[D8.mp hp];exact gL hx λ k h1 _=>hn k h1
 |d::r,a,f,h,hn,p,hp=>by
  rcases C6.mp hp with rfl|hp'
  ·exact gL hx h.2.2.1
  ·exact oS hx r _ f h.2.2.2 hn p hp'
theorem vH(hs:1<=sep.length)(hk:¬PySem.Builtin.Str.strKind x<PySem.Builtin.Str.strKind sep)(hx:∀k,x.cps.toList[k]?=some c->At x sep x.length k):∀p∈Txt.split x sep,c∉p.cps.toList:=by
 obtain⟨f,hG,hn⟩:=occ_tight x sep hs;unfold Txt.split;split
 ·rename_i hc
  intro p hp;rw[D8.mp hp];intro hm;obtain⟨j,hj⟩:=KF hm;have hA:=hx j hj;rw[x6,decide_eq_true_eq,decide_eq_true_eq] at hc;rcases hc with h|h
  ·have:=hA.1;omega
  ·exact hk h
 ·split
  ·rename_i he
   intro p hp;rw[D8.mp hp];have e0:occurrences x sep 0 x.length (x.length+1)=[]:=List.isEmpty_iff.mp he;rw[e0] at hG;have ef:f=0:=hG;subst ef;rw[<- sub_whole x];exact gL hx λ k h1 _=>hn k h1
  ·rw[partsBetween_eq];exact oS hx _ 0 f hG hn
theorem KA(sep:Str):∀(x:Str)(r:List Str),(HW sep (x::r)).cps.toList=x.cps.toList++r.flatMap λ p=>sep.cps.toList++p.cps.toList
 |x,[]=>by simp[HW]
 |x,y::r=>by
  show(x++sep++HW sep (y::r)).cps.toList=_;have e:∀a b:Str,(a++b).cps.toList=a.cps.toList++b.cps.toList:=λ a b=>by
   show(a.cps++b.cps).toList=_;simp
  rw[e,e,KA sep y r,VY];simp
theorem o7{c:Nat}:∀{a b s t:List Nat},c∉a->c∉b->a++c::s=b++c::t->a=b/\s=t
 | [],[],s,t,_,_,e=>⟨rfl,by simpa using e⟩
 | [],y::b,s,t,_,hb,e=>by
  simp at e;exact absurd (C6.mpr (.inl e.1)) hb
 |x::a,[],s,t,ha,_,e=>by
  simp at e;exact absurd (C6.mpr (.inl e.1.symm)) ha
 |x::a,y::b,s,t,ha,hb,e=>by
  rw[Aj,Aj] at e;injection e with e1 e2
  obtain⟨h1,h2⟩:=o7 (λ h=>ha (ER _ h)) (λ h=>hb (ER _ h)) e2;exact⟨by rw[e1,h1],h2⟩
theorem KG(h:x.cps.toList=y.cps.toList):x=y:=by
 cases x;cases y;congr;exact Array.toList_inj.mp h
theorem oF{sep:Str}{c:Nat}{cs:List Nat}(hs:sep.cps.toList=c::cs):∀{xs ys:List Str},xs≠[]->ys≠[]->(∀p∈xs,c∉p.cps.toList)->(∀p∈ys,c∉p.cps.toList)->HW sep xs=HW sep ys->xs=ys
 | [],_,h,_,_,_,_=>absurd rfl h
 |_,[],_,h,_,_,_=>absurd rfl h
 |x::xs,y::ys,_,_,hx,hy,e=>by
  have e:=congrArg (λ z:Str=>z.cps.toList) e;rw[KA,KA] at e;have fx:=hx x (EZ ..);have fy:=hy y (EZ ..);cases xs with
  |nil =>
   cases ys with
   |nil =>
    rw[lZ,M5,M5] at e;rw[KG (x:=x) (y:=y) e]
   |cons y' ys =>
    rw[lZ,M5,VY,hs] at e;exact absurd (by rw[e];simp) fx
  |cons x' xs =>
   cases ys with
   |nil =>
    rw[lZ,M5,VY,hs] at e;exact absurd (by rw[<- e];simp) fy
   |cons y' ys =>
    have e':x.cps.toList++c::(cs++x'.cps.toList++xs.flatMap λ p=>sep.cps.toList++p.cps.toList)=y.cps.toList++c::(cs++y'.cps.toList++ys.flatMap λ p=>sep.cps.toList++p.cps.toList):=by
     rw[VY,VY,hs] at e
     simpa [hs] using e
    obtain⟨e1,e2⟩:=o7 fx fy e';rw[qV,qV] at e2;have e3:=Au e2;rw[<- KA,<- KA] at e3;have:=oF hs (xs:=x'::xs) (ys:=y'::ys) (by simp) (by simp) (λ p hp=>hx p (ER _ hp)) (λ p hp=>hy p (ER _ hp)) (KG e3);rw[KG e1,this]
theorem UU(x sep:Str):Txt.split x sep≠[]:=by
 unfold Txt.split;split
 ·simp
 ·split
  ·simp
  ·rw[partsBetween_eq];obtain⟨p,r,e⟩:=partsFrom_ne x sep.length 0 (occurrences x sep 0 x.length (x.length+1));rw[e];simp
theorem M7{sep:Str}{c:Nat}{cs:List Nat}(hs:sep.cps.toList=c::cs)(hc:c∉cs):∀{ts:List Str},(∀p∈ts,c∉p.cps.toList)->∀k,(HW sep ts).cps.toList[k]?=some c->(((HW sep ts).cps.toList.drop k).take sep.length=sep.cps.toList)
 | [],_,k,h=>by simp[HW,J5] at h
 | [x],hf,k,h=>absurd (DL h) (hf x (EZ ..))
 |x::y::r,hf,k,h=>by
  have ls:sep.length=(c::cs).length:=by rw[<- hs];simp[JD]
  have e:(HW sep (x::y::r)).cps.toList=x.cps.toList++(sep.cps.toList++(HW sep (y::r)).cps.toList):=by
   rw[KA,KA,VY,qV]
  rw[e] at h ⊢;rcases P3 k x.cps.toList.length with z|z
  ·rw[GF z] at h;exact absurd (DL h) (hf x (EZ ..))
  rw[GM z] at h;rw[uS,oU z,kC];generalize k-x.cps.toList.length=j at h;have lsep:sep.cps.toList.length=sep.length:=by simp[JD]
  rcases P3 j sep.cps.toList.length with y1|y1
  ·rw[GF y1,hs] at h;cases j with
   |zero =>
    rw[bV,<- lsep,y9]
   |succ j=>exact absurd (DL (by simpa using h)) hc
  ·rw[GM y1] at h;rw[uS,oU y1,kC];exact M7 hs hc (ts:=y::r) (λ p hp=>hf p (ER _ hp)) _ h
theorem fR{cs:List Nat}(hs:sep.cps.toList=c::cs)(hc:c∉cs)(ha:PySem.Builtin.Str.strKind sep=1)(h0:ts≠[])(hf:∀p∈ts,c∉p.cps.toList):Txt.split (HW sep ts) sep=ts:=by
 have ls:sep.length=(c::cs).length:=by rw[<- hs];simp[JD]
 have hk:¬PySem.Builtin.Str.strKind (HW sep ts)<PySem.Builtin.Str.strKind sep:=by
  rw[ha];unfold PySem.Builtin.Str.strKind;split
  ·omega
  ·split<;>omega
 refine oF hs (UU _ _) h0 (vH (by rw[ls];simp) hk λ k hkk=>?_) hf (join_split _ _);have e:=M7 hs hc hf k hkk;have hl:k+sep.length<=(HW sep ts).length:=by
  have:=congrArg rH e;rw[GV,cX] at this;have l1:sep.cps.toList.length=sep.length:=by simp[JD]
  have l2:(HW sep ts).cps.toList.length=(HW sep ts).length:=by simp[JD]
  have:1<=sep.length:=by rw[ls];simp
  omega
 refine⟨hl,?_⟩;rw[subAt_eq,e];simp
theorem aG(hx:c∉x.cps.toList):Txt.partition (x ++ ⟨#[c]⟩ ++ y) ⟨#[c]⟩=(x,⟨#[c]⟩,y):=by
 have ea:∀a b:Str,(a++b).cps.toList=a.cps.toList++b.cps.toList:=λ a b=>by
  show(a.cps++b.cps).toList=_;simp
 have e:(x++(⟨#[c]⟩:Str)++y).cps.toList=x.cps.toList++c::y.cps.toList:=by
  rw[ea,ea];simp
 have lx:x.cps.toList.length=x.length:=by simp[JD]
 have at_:(x++(⟨#[c]⟩:Str)++y).cps.toList[x.length]?=some c:=by
  rw[e,GM ⋯,lx,gC];rfl
 unfold Txt.partition;rcases occ_head (x++(⟨#[c]⟩:Str)++y) ⟨#[c]⟩ 1 (BU _) with⟨_,h⟩|⟨i,r,h,hA,hn⟩
 ·exact absurd ((subAt_one _ c _).mpr at_) (h x.length)
 ·have hi:=(subAt_one _ c i).mp hA;have i1:i=x.length:=by
   rcases zQ i x.length with z|z|z
   ·rw[e,GF ⋯] at hi;exact absurd (DL hi) hx
   ·exact z
   ·exact absurd ((subAt_one _ c _).mpr at_) (hn _ z)
  subst i1;rw[h];have l1:(⟨#[c]⟩:Str).length=1:=rfl;have s1:strSub (x++(⟨#[c]⟩:Str)++y) 0 x.length=x:=KG (by
   rw[strSub_toList,e,bV,vC,<- lx,y9])
  have s2:strSub (x++(⟨#[c]⟩:Str)++y) (x.length+1) (x++(⟨#[c]⟩:Str)++y).length=y:=KG (by
   have l2:(x++(⟨#[c]⟩:Str)++y).length=x.length+1+y.length:=by
    rw[EY,EY,l1]
   have ly:y.cps.toList.length=y.length:=by simp[JD]
   rw[strSub_toList,e,l2,uS,oU ⋯,kC,lx,show x.length+1-x.length=1 by omega,show x.length+1+y.length-(x.length+1)=y.length by omega,List.drop_succ_cons,bV,<- ly,JH])
  show(strSub _ 0 x.length,_,strSub _ (x.length+1) _)=_;rw[s1,s2]
theorem Q6(hx:c∉x.cps.toList):Txt.partition x ⟨#[c]⟩=(x,J5,J5):=by
 unfold Txt.partition;rcases occ_head x ⟨#[c]⟩ 1 (BU _) with⟨h,_⟩|⟨i,r,h,hA,hn⟩
 ·rw[h]
 ·exact absurd (DL ((subAt_one _ c i).mp hA)) hx
end
abbrev AN(n:Int):Str:=IL (toString n)
theorem jQ(m:Nat):1<=(dC 10 m).length:=Nat.length_toDigits_pos
theorem OW:∀m:Nat,1<=m->(dC 10 m).head? ≠ some '0':=by
 intro m
 induction m using Nat.strongRecOn with
 |_ m ih =>
  intro h1
  by_cases h:m<10
  ·rw[Nat.toDigits_of_lt_base h];have:∀m:Fin 10,1<=m.val->[Nat.digitChar m.val].head? ≠ some '0':=by decide
   exact this ⟨m,h⟩ h1
  ·have hm:m%10<10:=uW m (by decide);have t:dC 10 (m/10)++dC 10 (m%10)=dC 10 (10*(m/10)+m%10):=Nat.toDigits_append_toDigits (by decide) ⋯ hm;rw[Nat.div_add_mod] at t;rw[<- t];have:=ih (m/10) ⋯ ⋯;cases e:dC 10 (m/10) with
   |nil =>
    have h:=jQ (m/10);rw[e] at h;exact absurd h (by decide)
   |cons a l =>
    rw[e] at this;exact this
theorem ZI{n:Int}(h:0<=n):(AN n).cps.toList=(dC 10 n.toNat).map Char.toNat:=by
 obtain⟨m,rfl⟩:=pY h;exact W.KIN.signs_num m
theorem c8{n:Int}(h:0<=n):∀c∈(AN n).cps.toList,48<=c/\c<=57:=λ c hc=>by
 rw[ZI h] at hc;obtain⟨ch,hch,e⟩:=DT.mp hc;have r:=PyProof.Rows.digit_range (Nat.isDigit_of_mem_toDigits (by decide) (by decide) hch);rw[<- e];exact r
theorem SJ{n:Int}(h:0<=n):1<=(AN n).length:=by
 have e:(AN n).length=(AN n).cps.toList.length:=by simp[JD]
 rw[e,ZI h,BY];exact jQ _
theorem P6{n:Int}(h:0<=n)(hl:1<(AN n).length):∃c,(AN n).cps[0]?=some c/\c≠48:=by
 have e:(AN n).length=(AN n).cps.toList.length:=by simp[JD]
 have ec:=ZI h;have h1:1<=n.toNat:=by
  rcases M3 n.toNat with z|z
  ·rw[e,ec,z] at hl;exact absurd hl (by decide)
  ·exact z
 have hf:=OW n.toNat h1;cases hd:dC 10 n.toNat with
 |nil =>
  have:=jQ n.toNat;rw[hd] at this;exact absurd this (by decide)
 |cons a l =>
  rw[hd] at hf ec;refine⟨a.toNat,?_,λ z=>hf ?_⟩
  ·rw[<- rO,ec];rfl
  ·have:a='0':=Char.toNat_inj.mp z;rw[this];rfl
structure Low(x:Str):Prop where
 all:∀c∈x.cps.toList,97<=c/\c<=122
 l1:1<=x.length
 l8:x.length<=8
structure Gt(mg:Str->Option Value)(t1 t2 t3 t4:Tok):Prop where
 fig:mg "FIGURES"=some (.str "0123456789" t1)
 lets:mg "LETTERS"=some (.str "abcdefghijklmnopqrstuvwxyz" t2)
 mf:mg "MOST_FIGURES_texts"=some (.int 16 t3)
 mo:mg "MOST"=some (.int 1000000000000000 t4)
theorem iD(h:48<=c/\c<=57):c∈("0123456789":Str).cps.toList:=by
 have:∀c:Fin 58,48<=c.val->c.val∈("0123456789":Str).cps.toList:=by decide +kernel
 exact this ⟨c,⋯⟩ h.1
theorem hZ(h:97<=c/\c<=122):c∈("abcdefghijklmnopqrstuvwxyz":Str).cps.toList:=by
 have:∀c:Fin 123,97<=c.val->c.val∈("abcdefghijklmnopqrstuvwxyz":Str).cps.toList:=by decide +kernel
 exact this ⟨c,⋯⟩ h.1
theorem jW(h:∀c∈x.cps.toList,c<128):x.cps.all (· < 128)=true:=by
 rw[<- Array.all_toList,JL];exact λ c hc=>CB (h c hc)
inductive spNumR(vs:List V)(H:Hp)(Q:VK)(z3q:XK):Prop
 |mk (n:Int):vs=[.str (AN n),.int 16]->Sm n->(∀H',Same H H'->Q (.int n) H')->spNumR vs H Q z3q
inductive spNameR(vs:List V)(H:Hp)(Q:VK)(z3q:XK):Prop
 |mk (x:Str):vs=[.str x]->Low x->(∀H',Same H H'->Q (.bl true) H')->spNameR vs H Q z3q
inductive spEnds(vs:List V)(H:Hp)(Q:VK)(z3q:XK):Prop
 |mk (s e:Str):vs=[.str (s++">"++e)]->Low s->Low e->(∀(r:Addr)(H':Hp),Same H H'->H' r=some (.tup [.str s,.str e])->Q (.ref r) H')->spEnds vs H Q z3q
section
variable {P:Program}{w:World}{K:W.Frag}{mg:Str->Option Value}{base:Heap}{f:Addr}{fd:FuncData}{n:Nat}{t1 t2 t3 t4:Tok}
theorem kZ{σ:L2.St}(h:∀c∈x.cps.toList,c∈y.cps.toList)(hl:x.length<=100)(q:∀D H',Same H H'->H' D=some (.lst ((GL x.length true).map V.bl))->Q (.ref D) H') :
  FQ [none] (GP 0) EC (aP (λ x y H Q=>∃(c:Nat)(j:Str),x=.str ⟨#[c]⟩/\y=.str j/\Q (.bl (decide (c∈j.cps.toList))) H) (tVar 0) (tC (.str y))) σ Q (fP x) H:=by
 refine T5 (λ D i H'=>Same H H'/\H' D=some (.lst ((GL i true).map V.bl))) (λ D hD=>⟨BD hD _,AI⟩) ?_ (λ D H' hD h=>q D H' h.1 h.2);intro D i c H' hD hc z9;obtain⟨sD,eD⟩ := z9;have hi:i<x.length:=by
  have:=(Array.getElem?_eq_some_iff.mp hc).1;exact this
 refine⟨λ k v e=>?_,?_⟩
 ·match k,e with
  |0,e=>cases e
  |k+1,e=>cases e
 refine⟨_,U,c,y,U,U,_,eD,BW (by rw[BY,wL];omega),C4 hD sD,?_⟩;rw[AI,kJ,HA,CB (h c (DL (by rw[rO];exact hc)))];rfl
theorem iO(k:Nat):(GL k true).all id=true:=by
 rw[JL];intro x hx;rw[zT hx];rfl
theorem RN(gt:Gt mg t1 t2 t3 t4)(F:Fun K "is_name" "is_name" YH f fd)(B:Bl mg):FnOk P w K mg base B5 (n+1) f fd ["text"] spNameR:=by
 refine F.okQ yE ?_ ?_;walk_at "o";obtain⟨x,rfl,lo,q⟩:=h;refine⟨_,(AA (AF (KY (oW EA EA A6 (AL gN U B.len C5 (A4 (qv 0) A5)) A6) (LM (AL (LF U) U B.all LG (A4 (GK ["sign"] [none] (BlkOk.of U U (SubL.to EX) U) U (LC (qv 0)) (λ _ _ _ _=>(AV (i:=0) (show(["sign"]:List Str).Nodup by decide) U (AH U))) (λ _ _ _ _=>(IZ LZ (qv 0) (MR U gt.lets) U))) A5)))))),?_⟩;walk_at "d";have l1:=lo.l1;have l8:=lo.l8;refine⟨_,U,_,U,L.le ⋯,_,_,U,U,_,U,D2 (CB ⋯) ⟨_,_,U,U,_,U,D2 (by simp;omega) ?_⟩⟩;refine⟨_,U,_,U,jW (λ c hc=>by have:=lo.all c hc;omega),kZ (λ c hc=>hZ (lo.all c hc)) ⋯ λ D H1 s1 e1=>?_⟩;refine⟨D,_,U,SqL.of e1,?_⟩;rw[iO];exact q H1 s1
theorem XT(h:Low x)(hc:c<97\/122<c):c∉x.cps.toList:=λ z=>by
 have:=h.all c z;omega
theorem IB{n:Int}(h:0<=n)(hc:c<48\/57<c):c∉(AN n).cps.toList:=λ z=>by
 have:=c8 h c z;omega
theorem WN(F:Fun K "read_ends" "read_ends" bA f fd)(Cq0:Callee P w K mg base n "is_name" ["text"] spNameR):FnOk P w K mg base B5 (n+1) f fd ["text"] spEnds:=by
 refine F.okQ G4 ?_ ?_;walk_at "o";obtain⟨x,y,rfl,lx,ly,q⟩:=h;refine⟨_,(A9 (AC (i:=1) G4.nd U (AH U) (cM K U (qv 0) (A4 BP A5))) (A9 (AE (FM (QW.pt (CO (EF (CD (AB Cq0 hr U (A4 (A8 AU (qv 1) A6 Y9) A5)))) (FC (EF (CD (AB Cq0 hr U (A4 (A8 AU (qv 1) A6 Y9) A5)))))))) (AA (AF DE)) AY) (AA (AF (D4 (A4 (A8 AU (qv 1) A6 Y9) (A4 (A8 AU (qv 1) A6 Y9) A5))))))),?_⟩;walk_at "d";have ep:Txt.partition (x++">"++y) ">"=(x,(">":Str),y):=aG (c:=62) (XT lx ⋯);have e1':(">":Str).length=1:=by decide
 have l1:=lx.l8;have l2:=ly.l8;refine⟨_,U,U,_,_,U,U,by decide,L.le (by simp only[EY,e1'];omega),λ l hl=>?_⟩;rw[ep];generalize hgH1:AD _ l _=H1;revert H1;refine BE hl λ H1 s1 e1=>?_
 refine⟨λ b H'=>b=false/\Same H1 H',?_,?_⟩
 ·refine⟨_,U,l,_,_,_,U,U,SqT.of e1,U,x,U,lx,λ H2 s2=>⟨_,U,BB ?_⟩⟩;exact⟨_,U,l,_,_,_,U,U,SqT.of (s2 _ _ e1),U,y,U,ly,λ H3 s3=>⟨_,U,U,s2.trans s3⟩⟩
 intro b H2 z9;obtain⟨rfl,s2⟩ := z9;refine BB ?_;refine⟨_,U,l,_,_,_,U,U,SqT.of (s2 _ _ e1),U,_,U,l,_,_,_,U,U,SqT.of (s2 _ _ e1),U,iI,λ rr hrr=>?_⟩;generalize hgH3:AD _ rr _=H3;revert H3;refine BE hrr λ H3 s3 e3=>?_
 exact q rr H3 (s1.trans (s2.trans s3)) e3
def FV(a b:Int):Str:=if a<b then AN a++"-"++AN b else AN a
inductive spSpan(vs:List V)(H:Hp)(Q:VK)(z3q:XK):Prop
 |mk (a b:Int):vs=[.str (FV a b)]->Sm a->Sm b->a<=b->(∀(r:Addr)(H':Hp),Same H H'->H' r=some (.tup [.int a,.int b])->Q (.ref r) H')->spSpan vs H Q z3q
inductive spWinR(vs:List V)(H:Hp)(Q:VK)(z3q:XK):Prop
 |mk (day:Int) (x:T3):vs=[.int day,.str (CZ x)]->0<=x.1->x.1<=x.2.1->x.2.1<day->day<=1000000000000000->1<=x.2.2->x.2.2<=1000000000000000->(∀(r:Addr)(H':Hp),Same H H'->H' r=some (.tup (AQ x))->Q (.ref r) H')->spWinR vs H Q z3q
inductive spDayR(vs:List V)(H:Hp)(Q:VK)(z3q:XK):Prop
 |mk (day:Int):vs=[.str ("day "++AN day)]->1<=day->day<=1000000000000000->(∀H',Same H H'->Q (.int day) H')->spDayR vs H Q z3q
theorem WG(gt:Gt mg t1 t2 t3 t4)(F:Fun K "read_span" "read_span" W2 f fd)(Ca0:Callee P w K mg base n "read_number" ["text","most_figures"] spNumR):FnOk P w K mg base B5 (n+1) f fd ["text"] spSpan:=by
 refine F.okQ DH ?_ ?_;walk_at "o";obtain⟨a,b,rfl,sa,sb,ab,q⟩:=h;refine⟨_,(A9 (AC (i:=1) DH.nd U (AH U) (cM K U (qv 0) (A4 BP A5))) (A9 (AC (i:=2) DH.nd U (AH U) (AB Ca0 hr U (A4 (A8 AU (qv 1) A6 Y9) (A4 (HD U gt.mf) A5)))) (A9 (AE (AX CS (A8 AU (qv 1) A6 Y9) BP (AS _)) (AA (AF (FJ (EN (qv 2)) DE (D4 (A4 (qv 2) (A4 (qv 2) A5)))))) AY) (A9 (AC (i:=3) DH.nd U (AH U) (AB Ca0 hr U (A4 (A8 AU (qv 1) A6 Y9) (A4 (HD U gt.mf) A5)))) (A9 (AE (FM (QW.pt (CO (EN (qv 2)) (CO (EN (qv 3)) (FC (AX LD (qv 2) (qv 3) (AS _))))))) (AA (AF DE)) AY) (AA (AF (D4 (A4 (qv 2) (A4 (qv 3) A5)))))))))),?_⟩;walk_at "d";have e1':("-":Str).length=1:=by decide
 have l1:(AN a).length<=16:=sa.len;have l2:(AN b).length<=16:=sb.len
 by_cases c:a<b
 ·have et:FV a b=AN a++"-"++AN b:=if_pos c;have ep:Txt.partition (FV a b) "-"=(AN a,("-":Str),AN b):=by
   rw[et];exact aG (c:=45) (IB sa.1 ⋯)
  refine⟨_,U,U,_,_,U,U,by decide,L.le (by rw[et];simp only[EY,e1'];omega),λ l hl=>?_⟩;rw[ep];generalize hgH1:AD _ l _=H1;revert H1;refine BE hl λ H1 s1 e1=>?_
  refine⟨_,U,l,_,_,_,U,U,SqT.of e1,U,a,U,sa,λ H2 s2=>?_⟩;have e2:=s2 _ _ e1;refine⟨_,U,l,_,_,_,U,U,SqT.of e2,U,U,_,U,CU (by show ¬decide (V.str (("-":Str))=V.str "")=true;decide +kernel) ?_⟩;refine⟨_,U,l,_,_,_,U,U,SqT.of e2,U,b,U,sb,λ H3 s3=>?_⟩;refine⟨λ z H'=>z=false/\H'=H3,?_,?_⟩
  ·exact⟨_,U,_,U,BB ⟨_,U,_,U,BB ⟨_,U,_,U,_,_,U,U,_,U,decide_eq_false ⋯,U⟩⟩⟩
  intro z H4 z9;obtain⟨rfl,rfl⟩ := z9;refine BB ?_;refine⟨_,U,_,U,iI,λ rr hrr=>?_⟩;generalize hgH5:AD _ rr _=H5;revert H5;refine BE hrr λ H5 s5 e5=>?_
  exact q rr H5 (s1.trans (s2.trans (s3.trans s5))) e5
 ·have et:FV a b=AN a:=if_neg c;have eab:a=b:=⋯;subst eab;have ep:Txt.partition (FV a a) "-"=(AN a,J5,J5):=by
   rw[et];exact Q6 (c:=45) (IB sa.1 ⋯)
  refine⟨_,U,U,_,_,U,U,by decide,L.le (by rw[et];omega),λ l hl=>?_⟩;rw[ep];generalize hgH1:AD _ l _=H1;revert H1;refine BE hl λ H1 s1 e1=>?_
  refine⟨_,U,l,_,_,_,U,U,SqT.of e1,U,a,U,sa,λ H2 s2=>?_⟩;have e2:=s2 _ _ e1;refine⟨_,U,l,_,_,_,U,U,SqT.of e2,U,U,_,U,D2 (CB rfl) ?_⟩;refine⟨_,U,_,U,BB ⟨_,U,_,U,iI,λ rr hrr=>?_⟩⟩;generalize hgH5:AD _ rr _=H5;revert H5;refine BE hrr λ H5 s5 e5=>?_
  exact q rr H5 (s1.trans (s2.trans s5)) e5
theorem mR{x:T3}:CZ x=FV x.1 x.2.1++"+"++AN x.2.2:=by
 unfold CZ FV;split<;>simp only[kI]
theorem nJ{a:Int}(ha:0<=a)(hb:0<=b)(hc:(c<48\/57<c)/\c≠45):c∉(FV a b).cps.toList:=by
 unfold FV;split
 ·intro z;have e:∀u v:Str,(u++v).cps.toList=u.cps.toList++v.cps.toList:=λ u v=>by
   show(u.cps++v.cps).toList=_;simp
  rw[e,e,EW,EW] at z;rcases z with(z|z)|z
  ·exact IB ha hc.1 z
  ·have:(("-":Str)).cps.toList=[45]:=by decide +kernel
   rw[this] at z;exact hc.2 (by simpa using z)
  ·exact IB hb hc.1 z
 ·exact IB ha hc.1
theorem Q3{a c:Int}(e:H r=some (.tup [.int a,.int b,.int c])):Dv2 H (.ref r):=⟨.tup e,λ zs ez z hz=>by
 have:DB H (.ref r)=some [V.int a,V.int b,V.int c]:=by simp[DB,e]
 rw[this] at ez;cases ez;simp only[C6,GY,or_false] at hz;rcases hz with rfl|rfl|rfl<;>exact .int _⟩
theorem aO(gt:Gt mg t1 t2 t3 t4)(F:Fun K "read_window" "read_window" YR f fd)(Cj1:Callee P w K mg base n "read_span" ["text"] spSpan)(Ca0:Callee P w K mg base n "read_number" ["text","most_figures"] spNumR)(Cl0:Callee P w K mg base n "is_window" ["day","thing"] spWindow):FnOk P w K mg base B5 (n+1) f fd ["day","text"] spWinR:=by
 refine F.okQ C8 ?_ ?_;walk_at "o";obtain⟨day,⟨a,b,c⟩,rfl,a0,ab,bd,d2,c1,c2,q⟩:=h;dsimp only at a0 ab bd d2 c1 c2;refine⟨_,(A9 (AC (i:=2) C8.nd U (AH U) (cM K U (qv 1) (A4 BP A5))) (A9 (AC (i:=3) C8.nd U (AH U) (AB Cj1 hr U (A4 (A8 AU (qv 2) A6 Y9) A5))) (A9 (AC (i:=4) C8.nd U (AH U) (AB Ca0 hr U (A4 (A8 AU (qv 2) A6 Y9) (A4 (HD U gt.mf) A5)))) (A9 (AE (FM (QW.pt (CO (EN (qv 3)) (CO (EN (qv 4)) (FC (EF (QJ EA EA A6 (qv 4) (HD U gt.mo)))))))) (AA (AF DE)) AY) (A9 (AC (i:=5) C8.nd U (AH U) (D4 (A4 (A8 AU (qv 3) A6 Y9) (A4 (A8 AU (qv 3) A6 Y9) (A4 (qv 4) A5))))) (AA (AF (FJ (CD (AB Cl0 hr U (A4 (qv 0) (A4 (qv 5) A5)))) (qv 5) DE)))))))),?_⟩;walk_at "d";have sa:Sm a:=⟨a0,⋯⟩
 have sb:Sm b:=⟨⋯,⋯⟩
 have sc:Sm c:=⟨⋯,⋯⟩
 have ep:Txt.partition (CZ (a,b,c)) "+"=(FV a b,("+":Str),AN c):=by
  rw[mR];exact aG (c:=43) (nJ (a:=a) (b:=b) a0 ⋯ ⟨⋯,⋯⟩)
 refine⟨_,U,U,_,_,U,U,by decide,L.le (FB (ZM ⟨sa,sb,sc⟩) (by decide)),λ l hl=>?_⟩;rw[ep];generalize hgH1:AD _ l _=H1;revert H1;refine BE hl λ H1 s1 e1=>?_
 refine⟨_,U,l,_,_,_,U,U,SqT.of e1,U,a,b,U,sa,sb,ab,λ r2 H2 s2 e2=>?_⟩;refine⟨_,U,l,_,_,_,U,U,SqT.of (s2 _ _ e1),U,c,U,sc,λ H3 s3=>?_⟩;have e3:=s3 _ _ e2;refine⟨λ z H'=>z=false/\H'=H3,?_,?_⟩
 ·exact⟨_,U,_,U,BB ⟨_,U,_,U,BB ⟨_,U,_,_,U,U,_,U,D2 (CB c1) ⟨_,_,U,U,_,U,by simp;omega,U⟩⟩⟩⟩
 intro z H4 z9;obtain⟨rfl,rfl⟩ := z9;refine BB ?_;refine⟨_,U,r2,_,_,_,U,U,SqT.of e3,U,_,U,r2,_,_,_,U,U,SqT.of e3,U,_,U,QY,λ rr hrr=>?_⟩;generalize hgH5:AD _ rr _=H5;revert H5;refine BE hrr λ H5 s5 e5=>?_
 have wv:EJ H5 day (.ref rr)=true:=by
  have:DB H5 (.ref rr)=some [V.int a,V.int b,V.int c]:=by simp[DB,e5]
  unfold EJ;rw[this];simp[JZ,EK];omega
 refine⟨_,U,_,U,day,.ref rr,U,Q3 e5,λ H6 s6=>?_⟩;rw[wv];exact⟨_,U,DC ⟨_,U,q rr H6 (s1.trans (s2.trans (s3.trans (s5.trans s6)))) (s6 _ _ e5)⟩⟩
theorem XJ(gt:Gt mg t1 t2 t3 t4)(F:Fun K "read_day" "read_day" X9 f fd)(Ca0:Callee P w K mg base n "read_number" ["text","most_figures"] spNumR):FnOk P w K mg base B5 (n+1) f fd ["text"] spDayR:=by
 refine F.okQ F0 ?_ ?_;walk_at "o";obtain⟨day,rfl,d1,d2,q⟩:=h;refine⟨_,(A9 (AC (i:=1) F0.nd U (AH U) (cM K U (qv 0) (A4 BP A5))) (A9 (AC (i:=2) F0.nd U (AH U) (AB Ca0 hr U (A4 (A8 AU (qv 1) A6 Y9) (A4 (HD U gt.mf) A5)))) (A9 (AE (FM (QW.pt (CO (AX LL (A8 AU (qv 1) A6 Y9) BP (AS _)) (CO (EN (qv 2)) (FC (EF (QJ EA EA A6 (qv 2) (HD U gt.mo)))))))) (AA (AF DE)) AY) (AA (AF (qv 2)))))),?_⟩;walk_at "d";have sd:Sm day:=⟨⋯,⋯⟩
 have hd:(AN day).length<=16:=sd.len;have e4:("day ":Str).length=4:=by decide
 have ep:Txt.partition ("day "++AN day) " "=(("day":Str),(" ":Str),AN day):=by
  have e:("day ":Str)=("day":Str)++(" ":Str):=by decide +kernel
  rw[e];exact aG (c:=32) (by decide +kernel)
 refine⟨_,U,U,_,_,U,U,by decide,L.le (by simp only[EY,e4];omega),λ l hl=>?_⟩;rw[ep];generalize hgH1:AD _ l _=H1;revert H1;refine BE hl λ H1 s1 e1=>?_
 refine⟨_,U,l,_,_,_,U,U,SqT.of e1,U,day,U,sd,λ H2 s2=>?_⟩;have e2:=s2 _ _ e1;refine⟨λ z H'=>z=false/\H'=H2,?_,?_⟩
 ·refine⟨_,U,l,_,_,_,U,U,SqT.of e2,U,U,_,U,CU (by simp) ?_⟩;exact⟨_,U,_,U,BB ⟨_,U,_,_,U,U,_,U,D2 (CB d1) ⟨_,_,U,U,_,U,by simp;omega,U⟩⟩⟩
 intro z H4 z9;obtain⟨rfl,rfl⟩ := z9;refine BB ?_;exact⟨_,U,q H4 (s1.trans s2)⟩
def G6(day:Int)(R:List T3):Prop:=∀x∈R,0<=x.1/\x.1<=x.2.1/\x.2.1<day/\1<=x.2.2/\x.2.2<=1000000000000000
inductive spBoardR(K:W.Frag)(vs:List V)(H:Hp)(Q:VK)(z3q:XK):Prop
 |mk (day:Int) (p:Addr) (R:List T3):vs=[.int day,.ref p]->H p=some (.lst ((R.map CZ).map V.str))->G6 day R->day<=1000000000000000->R.length<=100->(∀(l:Addr)(H':Hp),Same H H'->H l=none->LA AQ H' l R->Q (.ref l) H')->spBoardR K vs H Q z3q
theorem QB(F:Fun K "read_board" "read_board" XD f fd)(B:Bl mg)(Ch0:Callee P w K mg base n "read_window" ["day","text"] spWinR):FnOk P w K mg base B5 (n+1) f fd ["day","words"] (spBoardR K):=by
 refine F.okQ FT ?_ ?_;walk_at "o";obtain⟨day,p,R,rfl,hp,hW,d2,hl,q⟩:=h;refine⟨_,(A9 (Y7 (i:=2) ["word","day"] [none,some 0] FT.nd U (AH U) (BlkOk.of U U (SubL.to (IA U EX)) U) U (DN (qv 1)) (λ _ _ _ _=>(AV (i:=0) (show(["word","day"]:List Str).Nodup by decide) U (AH U))) (λ _ _ _ _=>(AB Ch0 hr U (A4 (qv 1) (A4 (qv 0) A5))))) (AA (AF (FJ (CD (AL (OT U) U B.any fD (A4 (GK ["window"] [none] (BlkOk.of U U (SubL.to EX) U) U (DN (qv 2)) (λ _ _ _ _=>(AV (i:=0) (show(["window"]:List Str).Nodup by decide) U (AH U))) (λ _ _ _ _=>(jL (qv 0)))) A5))) DE (qv 2))))),?_⟩;walk_at "d";refine⟨_,U,p,U,⟨_,SqL.of hp⟩,?_⟩;refine HX (K:=K) (a:=p) (xs:=(R.map CZ).map V.str) (λ D i H'=>Same H H'/\LA AQ H' D (R.take i)) (λ D hD=>⟨BD hD _,LA.nil AI⟩) (λ D i H' _ _ h=>SqL.of (h.1 _ _ hp)) ?_ ?_
 ·intro D i y H' hD hi z9;obtain⟨sD,hL⟩ := z9;rw[EH,EH] at hi;cases hx:R[i]? with
  |none=>rw[hx] at hi;cases hi
  |some x =>
   rw[hx] at hi;cases hi;have li:=(CP.mp hx).1;obtain⟨x0,x1,x2,x3,x4⟩:=hW x (DL hx);refine⟨λ k v e=>?_,?_⟩
   ·match k,e with
    |0,e=>cases e
    |1,e=>exact e
    |k+2,e=>cases e
   refine⟨_,U,_,U,day,x,U,x0,x1,x2,d2,x3,x4,λ r H2 s2 e2=>?_⟩;have hL2:=hL.same s2;obtain⟨ys,y1,yl,_⟩:=hL2.lst;refine⟨ys,y1,BW (by rw[yl,GV];omega),C4 hD (sD.trans s2),?_⟩;have e:R.take (i+1)=R.take i++[x]:=by rw[RG,hx];rfl
   rw[e];exact hL2.append y1 e2
 ·intro D H1 hD z9;obtain⟨s1,hL⟩ := z9;rw[BY,BY,JH] at hL;obtain⟨us,u1,u2,u3⟩:=hL.lst;refine⟨_,U,D,U,⟨_,SqL.of u1⟩,?_⟩;refine HX (K:=K) (a:=D) (xs:=us) (λ D' i H'=>Same H1 H'/\H' D'=some (.lst ((GL i false).map V.bl))) (λ D' hD'=>⟨BD hD' _,AI⟩) (λ D' i H' _ _ h=>SqL.of (h.1 _ _ u1)) ?_ ?_
  ·intro D' i y H' hD' hi z9;obtain⟨sD,eD⟩ := z9;obtain⟨r,x,rfl,_,_⟩:=u3 i y hi;have li:=(CP.mp hi).1;refine⟨λ k v e=>?_,?_⟩
   ·match k,e with
    |0,e=>cases e
    |k+1,e=>cases e
   refine⟨_,U,_,eD,BW (by rw[BY,wL];omega),C4 hD' sD,?_⟩;rw[AI,kJ,HA];rfl
  ·intro D' H2 hD' z9;obtain⟨s2,e2⟩ := z9;refine⟨D',_,U,SqL.of e2,_,U,?_⟩;have:(GL us.length false).any id=false:=by
    rw[TJ];intro z;obtain⟨x,hx,e⟩:=lK.mp z;rw[zT hx] at e;cases e
   rw[this];exact BB ⟨_,rfl,q D H2 (s1.trans s2) hD (hL.same s2)⟩
inductive spNumOf(K:W.Frag)(vs:List V)(H:Hp)(Q:VK)(z3q:XK):Prop
 |mk (p:Addr) (z:Str) (ys:List Str):vs=[.ref p,.str z]->H p=some (.lst (ys.map V.str))->ys.length<=100000->(∀(v:Int)(ys':List Str),(z∈ys/\v=((ys.idxOf z:Nat):Int)/\ys'=ys)\/(z∉ys/\v=(ys.length:Int)/\ys'=ys++[z])->Q (.int v) (AD H p (.lst (ys'.map V.str))))->spNumOf K vs H Q z3q
theorem gW{o:HO}(h:H p=some o):AD H p o=H:=funext λ b=>by
 by_cases e:b=p
 ·rw[e,AI,h]
 ·rw[AJ e]
theorem cS{ns:List Str}:R5 (.str x) (ns.map V.str)=decide (x∈ns):=by
 unfold R5;rw[SV,lK,decide_eq_true_iff]
 constructor
 ·intro z9;obtain⟨y,hy,e⟩ := z9;obtain⟨z,hz,rfl⟩:=DT.mp hy;have:z=x:=by simpa [R7] using e
  exact this ▸ hz
 ·intro h;exact⟨.str x,DT.mpr ⟨x,h,U⟩,by simp[R7]⟩
theorem UM(F:Fun K "number_of" "number_of" ZX f fd):FnOk P w K mg base B5 (n+1) f fd ["names","name"] (spNumOf K):=by
 refine F.okQ xF ?_ ?_;walk_at "o";obtain⟨p,z,ys,rfl,hp,hl,qq⟩:=h;refine⟨_,(IE (AE (AX iK (qv 1) (qv 0) U) (AA (CF (DG (qv 0) (A4 (qv 1) A5)))) AY) (AA (AF (oK K U (qv 0) (A4 (qv 1) A5))))),?_⟩;walk_at "d";have q1:z∈ys->Q (.int ((ys.idxOf z:Nat):Int)) H:=λ c=>by
  have:=qq _ ys (.inl ⟨c,rfl,rfl⟩);rw[gW hp] at this;exact this
 have q2:z∉ys->Q (.int (ys.length:Int)) (AD H p (.lst ((ys++[z]).map V.str))):=λ c=>qq _ _ (.inr ⟨c,rfl,rfl⟩)
 have hz:=L.le (n:=ys.length) ⋯;have hz2:=L.le (n:=ys.length+1) ⋯
 by_cases c:z∈ys
 ·refine⟨λ σ' H'=>σ'=[some (.ref p),some (.str z)]/\H'=H,?_,?_⟩
  ·refine⟨_,U,_,U,p,_,U,.inl (SqL.of hp),U,RY _,_,U,?_⟩;rw[cS,CB c];exact CU (by decide) ⟨rfl,rfl⟩
  intro σ' H' z9;obtain⟨rfl,rfl⟩ := z9;exact⟨_,U,.inl ⟨U,_,SqL.of hp⟩,_,U,p,z,ys,U,U,SqL.of hp,c,hz,q1 c⟩
 ·refine⟨λ σ' H'=>σ'=[some (.ref p),some (.str z)]/\H'=AD H p (.lst ((ys++[z]).map V.str)),?_,?_⟩
  ·refine⟨_,U,_,U,p,_,U,.inl (SqL.of hp),U,RY _,_,U,?_⟩;rw[cS,decide_eq_false c];refine D2 (by decide) ⟨_,rfl,.inl ⟨rfl,_,SqL.of hp⟩,_,rfl,p,_,_,rfl,rfl,hp,BW (by rw[BY];omega),rfl,?_⟩;rw[HA];rfl
  intro σ' H' z9;obtain⟨rfl,rfl⟩ := z9;have e:AD H p (.lst ((ys++[z]).map V.str)) p=some (.lst ((ys++[z]).map V.str)):=AI;refine⟨_,U,.inl ⟨U,_,SqL.of e⟩,_,U,p,z,ys++[z],U,U,SqL.of e,by simp,by rw[G2,R6];exact hz2,?_⟩;rw[xQ,if_neg c]
  simpa using q2 c
theorem ZJ{s:Str}:HR s e R=HW " " ((s++">"++e)::R.map CZ):=by
 have h:∀(x:Str)(r:List Str),HW " " (x::r)=Txt.join " " (x::r):=λ x r=>by
  unfold Txt.join;rw[StrLaws.glued_eq_join]
 unfold HR JJ;cases R with
 |nil=>rw[if_pos rfl,kI];rfl
 |cons w R =>
  rw[if_neg (by simp),PZ,<- h,kI];rfl
theorem FE{u v:Str}:c∈(u++v).cps.toList↔c∈u.cps.toList\/c∈v.cps.toList:=by
 have e:(u++v).cps.toList=u.cps.toList++v.cps.toList:=by
  show(u.cps++v.cps).toList=_;simp
 rw[e,EW]
theorem jA{x:T3}(h0:0<=x.1)(h1:0<=x.2.1)(h2:0<=x.2.2)(hc:(c<48\/57<c)/\c≠45/\c≠43):c∉(CZ x).cps.toList:=λ z=>by
 rw[mR,FE,FE] at z;rcases z with(z|z)|z
 ·exact nJ h0 h1 ⟨hc.1,hc.2.1⟩ z
 ·have:(("+":Str)).cps.toList=[43]:=by decide +kernel
  rw[this] at z;exact hc.2.2 (by simpa using z)
 ·exact IB h2 hc.1 z
theorem fW{s:Str}(hs:Low s)(he:Low e)(hc:(c<97\/122<c)/\c≠62):c∉(s++">"++e).cps.toList:=λ z=>by
 rw[FE,FE] at z;rcases z with(z|z)|z
 ·exact XT hs hc.1 z
 ·have:((">":Str)).cps.toList=[62]:=by decide +kernel
  rw[this] at z;exact hc.2 (by simpa using z)
 ·exact XT he hc.1 z
theorem zC{s:Str}(hs:Low s)(he:Low e)(hR:G6 day R):Txt.split (HR s e R) " "=(s++">"++e)::R.map CZ:=by
 rw[ZJ];refine fR (c:=32) (cs:=[]) (by decide +kernel) (by simp) (by decide +kernel) (by simp) λ p hp=>?_
 rcases C6.mp hp with rfl|hp
 ·exact fW hs he ⟨⋯,⋯⟩
 ·obtain⟨x,hx,rfl⟩:=DT.mp hp;obtain⟨a,b,c,d,_⟩:=hR x hx;exact jA a ⋯ ⋯ ⟨⋯,⋯,⋯⟩
theorem NH{s:Str}(hs:Low s)(he:Low e)(hR:G6 day R):59∉(HR s e R).cps.toList:=by
 rw[ZJ,KA];intro z;rcases EW.mp z with z|z
 ·exact fW hs he ⟨⋯,⋯⟩ z
 ·obtain⟨p,hp,z⟩:=qX.mp z;rcases EW.mp z with z|z
  ·exact absurd z (by decide +kernel)
  ·obtain⟨x,hx,rfl⟩:=DT.mp hp;obtain⟨a,b,c,d,_⟩:=hR x hx;exact jA a ⋯ ⋯ ⟨⋯,⋯,⋯⟩ z
theorem FnOk.imp{P:Program}{w:World}{K:W.Frag}{mg:Str->Option Value}{base:Heap}{CX:R8}{f:Addr}{fd:FuncData}{ps:List Str}{sp sp':Sp}(F:FnOk P w K mg base CX k f fd ps sp)(h:∀vs H Q E,sp' vs H Q E->sp vs H Q E):FnOk P w K mg base CX k f fd ps sp' :=
 ⟨λ vs H Q E q=>F.len vs H Q E (h vs H Q E q),λ A outer s H args us vs Q E hr he hb hv q=>F.run A outer s H args us vs Q E hr he hb hv (h vs H Q E q)⟩
theorem V6{n:Int}(h0:0<=n)(hl:(AN n).length<=100):PySem.intText? (AN n)=some n:=by
 have hne:(AN n).cps.toList≠[]:=λ e=>by
  have:=SJ h0;have e':(AN n).length=(AN n).cps.toList.length:=by simp[JD]
  rw[e',e] at this;exact absurd this (by decide)
 have e:=intText_digits (λ c hc=>c8 h0 c hc) hne (FB hl (by decide));rw[ZI h0,W.KIN.val_back] at e;rw[e];congr 1;omega
inductive spNumG(vs:List V)(H:Hp)(Q:VK)(z3q:XK):Prop
 |mk (n:Int) (m:Nat):vs=[.str (AN n),.int m]->0<=n->(AN n).length<=m->m<=100->(∀H',Same H H'->Q (.int n) H')->spNumG vs H Q z3q
theorem LV(gt:Gt mg t1 t2 t3 t4)(F:Fun K "read_number" "read_number" SO f fd)(B:Bl mg):FnOk P w K mg base B5 (n+1) f fd ["text","most_figures"] spNumG:=by
 refine F.okQ uF ?_ ?_;walk_at "o";obtain⟨n,m,rfl,n0,hl,hm,q⟩:=h;refine⟨_,(A9 (AE (FM (QW.pt (CO (EF (QJ EA EA A6 (AL gN U B.len C5 (A4 (qv 0) A5)) (qv 1))) (FC (EF (CD (AL (LF U) U B.all LG (A4 (GK ["sign"] [none] (BlkOk.of U U (SubL.to EX) U) U (LC (qv 0)) (λ _ _ _ _=>(AV (i:=0) (show(["sign"]:List Str).Nodup by decide) U (AH U))) (λ _ _ _ _=>(IZ LZ (qv 0) (MR U gt.fig) U))) A5)))))))) (AA (AF DE)) AY) (A9 (AE (FM (QW.pt (I0 (AX JF (AL gN U B.len C5 (A4 (qv 0) A5)) A6 (AS _)) (J6 (AX CS (A8 N7 (qv 0) A6 Y9) BP (AS _)))))) (AA (AF DE)) AY) (AA (AF (DA vU U B.int_ RL (A4 (qv 0) A5)))))),?_⟩;walk_at "d";have hz:=L.le (n:=(AN n).length) ⋯;have l1:=SJ n0;refine⟨λ b H'=>b=false/\Same H H',?_,?_⟩
 ·refine⟨_,U,_,U,hz,_,_,U,U,_,U,D2 (CB ⋯) ⟨_,U,_,_,U,U,_,U,CU (by simp;omega) ?_⟩⟩;refine⟨_,U,_,U,jW (λ c hc=>by have:=c8 n0 c hc;omega),kZ (λ c hc=>iD (c8 n0 c hc)) ⋯ λ D H1 s1 e1=>?_⟩;exact⟨D,_,U,SqL.of e1,_,U,by rw[iO];rfl,s1⟩
 intro b H1 z9;obtain⟨rfl,s1⟩ := z9;refine BB ?_;refine⟨λ b H'=>b=false/\H'=H1,?_,?_⟩
 ·refine⟨_,U,_,U,hz,_,_,U,U,_,U,AZ (λ c=>?_) (λ c=>⟨U,U⟩)⟩;have c':1<(AN n).length:=by
   have:=D6 c;omega
  obtain⟨c,hc,n48⟩:=P6 n0 c';refine⟨_,U,_,0,c,U,U,hz,F6 (j:=0) (by rw[rO];exact hc),U,_,U,decide_eq_false λ z=>n48 ?_,U⟩;have z:(⟨#[c]⟩:Str)="0" := by
   injection z
  have:=congrArg (λ s:Str=>s.cps.toList) z;have e0:(("0":Str)).cps.toList=[48]:=by decide +kernel
  rw[e0] at this
  simpa using this
 intro b H2 z9;obtain⟨rfl,rfl⟩ := z9;refine BB ?_;exact⟨_,U,_,n,U,V6 n0 ⋯,⋯,q _ s1⟩
theorem RV:∀(vs:List V)(H:Hp)(Q:VK)(E:XK),spNumR vs H Q E->spNumG vs H Q E:=λ vs H Q E ⟨n,e,sm,q⟩=>⟨n,16,e,sm.1,sm.len,by decide,q⟩
theorem SU(a b:Str):(a++b).cps.toList=a.cps.toList++b.cps.toList:=by
 show(a.cps++b.cps).toList=_;simp
theorem YV(h:t<0):AN t="-"++AN (-t):=by
 obtain⟨m,rfl⟩:∃m:Nat,t=Al m:=⟨(-t-1).toNat,⋯⟩
 refine KG ?_;rw[SU,show -(Al m)=((m+1:Nat):Int) from rfl];show(IL ("-"++toString (m+1))).cps.toList=(IL "-").cps.toList++(IL (toString (m+1))).cps.toList;rw[PyProof.Rows.signs_ofString,PyProof.Rows.signs_ofString,PyProof.Rows.signs_ofString,String.toList_append,HA]
theorem OE(hy:y.cps.toList=[c])(h:c∉x.cps.toList):Txt.startswith x y=false:=by
 unfold Txt.startswith;rw[Bool.and_eq_false_iff];refine .inr ?_;rw[StrLaws.subAt_eq,hy,bV,show y.length=1 by rw[show y.length=y.cps.toList.length by simp[JD],hy];rfl];refine TJ.mpr λ z=>h ?_
 have:=eq_of_beq z;exact yJ (this ▸ D8.mpr rfl)
theorem tE:Txt.startswith (y++x) y=true:=by
 unfold Txt.startswith;have ly:y.length=y.cps.toList.length:=by simp[JD]
 rw[KH,decide_eq_true_eq,StrLaws.subAt_eq,bV,SU,ly,y9];refine⟨by rw[EY];omega,by simp⟩
theorem PF(hy:y.cps.toList=[c]):Txt.slice (y++x) (some 1) none=x:=KG (by
 rw[TX (by decide),SU,hy];rfl)
inductive Part
 |name (x:Str)
 |ends (a b:Str)
 |moment (t:Int)
 |turns (k:Int)
 |win (x:T3)
def Part.txt:Part->Str
 |name x=>x
 |ends a b=>a++">"++b
 |moment t=>AN t
 |turns k=>AN k
 |win x=>CZ x
def Part.kind:Part->Str
 |name _ => "name"
 |ends _ _ => "road"
 |moment _ => "moment"
 |turns _ => "turns"
 |win _ => "window"
def Part.named:Part->Bool
 |name _=>true
 |ends _ _=>true
 |_=>false
def Part.ok(d:Int):Part->Prop
 |name x=>Low x
 |ends a b=>Low a/\Low b
 |moment t=>-1000000000000000000000000000000<t/\t<1000000000000000000000000000000
 |turns k=>0<=k/\k<=3
 |win x=>0<=x.1/\x.1<=x.2.1/\x.2.1<d/\d<=1000000000000000/\1<=x.2.2/\x.2.2<=1000000000000000
def Part.ns:Part->List Str
 |name x=>[x]
 |ends a b=>[a,b]
 |_=>[]
def PV(H:Hp)(v:V):Part->Prop
 | .moment t=>v=.int t
 | .turns k=>v=.int k
 | .win x=>∃r,v=.ref r/\H r=some (.tup (AQ x))
 |_=>False
theorem PV.same{p:Part}(h:PV H v p)(s:Same H H'):PV H' v p:=by
 cases p with
 |name _=>exact h
 |ends _ _=>exact h
 |moment _=>exact h
 |turns _=>exact h
 |win x =>
  obtain⟨r,e,er⟩:=h;exact⟨r,e,s _ _ er⟩
theorem PV.some{H:Hp}{v:V}{p:Part}(h:PV H v p):v ≠ .non:=by
 cases p with
 |name _=>exact h.elim
 |ends _ _=>exact h.elim
 |moment _=>rw[h];simp
 |turns _=>rw[h];simp
 |win x =>
  obtain⟨r,e,_⟩:=h;rw[e];simp
theorem KS{n:Int}{m:Nat}(h0:0<=n)(hm:1<=m)(h:n<(10:Int) ^ m):(AN n).length<=m:=PyProof.Rows.toString_length_le h0 hm h
inductive spMomR(vs:List V)(H:Hp)(Q:VK)(z3q:XK):Prop
 |mk (t:Int):vs=[.str (AN t)]->(Part.moment t).ok 0->(∀H',Same H H'->Q (.int t) H')->spMomR vs H Q z3q
inductive spTurR(vs:List V)(H:Hp)(Q:VK)(z3q:XK):Prop
 |mk (k:Int):vs=[.str (AN k)]->(Part.turns k).ok 0->(∀H',Same H H'->Q (.int k) H')->spTurR vs H Q z3q
inductive spNamesR(vs:List V)(H:Hp)(Q:VK)(z3q:XK):Prop
 |mk (p:Part):vs=[.str p.kind,.str p.txt]->p.named=true->p.ok 0->(∀(r:Addr)(H':Hp),Same H H'->H' r=some (.tup (p.ns.map V.str))->Q (.ref r) H')->spNamesR vs H Q z3q
inductive spValR(vs:List V)(H:Hp)(Q:VK)(z3q:XK):Prop
 |mk (d:Int) (p:Part):vs=[.int d,.str p.kind,.str p.txt]->p.named=false->p.ok d->(∀(v:V)(H':Hp),Same H H'->PV H' v p->Q v H')->spValR vs H Q z3q
structure Gr(mg:Str->Option Value)(t1 t2 t3:Tok):Prop where
 mf:mg "MOST_FIGURES_rows"=some (.int 30 t1)
 mt:mg "MOST_TURNS"=some (.int 3 t2)
 mp:mg "MOST_PARTY"=some (.int 6 t3)
theorem IJ:(10:Int) ^ 30=1000000000000000000000000000000:=by decide +kernel
theorem WZ(gr:Gr mg t1 t2 t3)(F:Fun K "read_moment" "read_moment" cP f fd)(Ca0:Callee P w K mg base n "read_number" ["text","most_figures"] spNumG):FnOk P w K mg base B5 (n+1) f fd ["word"] spMomR:=by
 refine F.okQ F9 ?_ ?_;walk_at "o";obtain⟨t,rfl,⟨h1,h2⟩,q⟩:=h;refine⟨_,(A9 (AE (EF (CD (OU (qv 0) (A4 BP A5)))) (AA (AF (AB Ca0 hr U (A4 (qv 0) (A4 (HD U gr.mf) A5))))) AY) (A9 (AC (i:=1) F9.nd U (AH U) (AB Ca0 hr U (A4 (LH (qv 0) (IG A6) IC) (A4 (HD U gr.mf) A5)))) (AA (AF (FJ (QW.pt (CO (EN (qv 1)) (FC (AX CS (qv 1) A6 (AS _))))) DE (G0 (qv 1))))))),?_⟩;walk_at "d";have e45:(("-":Str)).cps.toList=[45]:=by decide +kernel
 by_cases c:t<0
 ·have l:=KS (n:=-t) (m:=30) ⋯ (by decide) (by rw[IJ];omega);have lw:("-"++AN (-t):Str).length<=sizeLine:=L.le (by rw[EY,show(("-":Str)).length=1 by decide];omega);rw[YV c];refine⟨_,U,U,_,_,U,U,?_⟩;rw[tE];refine⟨_,U,BB ?_⟩;refine⟨_,U,_,U,_,U,lw,?_⟩;rw[PF e45];refine⟨-t,30,U,⋯,l,by decide,λ H1 s1=>?_⟩;refine⟨_,U,_,U,BB ⟨_,U,U,_,U,CU (by simp;omega) ⟨_,U,_,U,?_⟩⟩⟩;have q1:=q H1 s1;rw[<- Int.neg_neg t] at q1;exact q1
 ·have c':0<=t:=⋯;have l:=KS (n:=t) (m:=30) c' (by decide) (by rw[IJ];omega);refine⟨_,U,U,_,_,U,U,?_⟩;rw[OE e45 (IB c' ⋯)];refine⟨_,U,DC ?_⟩;exact⟨_,U,t,30,U,c',l,by decide,q⟩
theorem WX(gr:Gr mg t1 t2 t3)(F:Fun K "read_turns" "read_turns" W9 f fd)(Ca0:Callee P w K mg base n "read_number" ["text","most_figures"] spNumG):FnOk P w K mg base B5 (n+1) f fd ["word"] spTurR:=by
 refine F.okQ FU ?_ ?_;walk_at "o";obtain⟨k,rfl,⟨h1,h2⟩,q⟩:=h;refine⟨_,(A9 (AC (i:=1) FU.nd U (AH U) (AB Ca0 hr U (A4 (qv 0) (A4 (HD U gr.mf) A5)))) (AA (AF (FJ (QW.pt (I0 (NG (qv 1)) (J6 (AX EA (qv 1) (HD U gr.mt) (AS _))))) (qv 1) DE)))),?_⟩;walk_at "d";have l:=KS (n:=k) (m:=30) h1 (by decide) (by rw[IJ];omega);refine⟨_,U,k,30,U,h1,l,by decide,λ H1 s1=>?_⟩;exact⟨_,U,_,U,DC ⟨_,U,_,_,U,U,_,U,D2 (CB h2) ⟨_,U,q H1 s1⟩⟩⟩
theorem Q5(F:Fun K "read_names" "read_names" WR f fd)(Cm0:Callee P w K mg base n "read_ends" ["text"] spEnds)(Cq0:Callee P w K mg base n "is_name" ["text"] spNameR):FnOk P w K mg base B5 (n+1) f fd ["kind","word"] spNamesR:=by
 refine F.okQ xO ?_ ?_;walk_at "o";obtain⟨p,rfl,hn,hok,q⟩:=h;refine⟨_,(A9 (AE (AX CS (qv 0) BP (AS _)) (AA (AF (AB Cm0 hr U (A4 (qv 1) A5)))) AY) (AA (AF (FJ (CD (AB Cq0 hr U (A4 (qv 1) A5))) (D4 (A4 (qv 1) A5)) DE)))),?_⟩;walk_at "d";cases p with
 |name x =>
  refine⟨_,U,U,_,U,CU (by show ¬decide (V.str "name"=V.str "road")=true;decide +kernel) ?_⟩;refine⟨_,U,x,U,hok,λ H1 s1=>⟨_,U,DC ⟨_,U,kG,λ rr hrr=>?_⟩⟩⟩;generalize hgH2:AD _ rr _=H2;revert H2;refine BE hrr λ H2 s2 e2=>?_
  exact q rr H2 (s1.trans s2) e2
 |ends a b =>
  refine⟨_,U,U,_,U,D2 (CB rfl) ⟨_,U,a,b,U,hok.1,hok.2,λ rr H1 s1 e1=>?_⟩⟩;exact q rr H1 s1 e1
 |moment _=>cases hn
 |turns _=>cases hn
 |win _=>cases hn
theorem ZY(F:Fun K "read_value" "read_value" XM f fd)(Cz0:Callee P w K mg base n "read_moment" ["word"] spMomR)(Cc1:Callee P w K mg base n "read_turns" ["word"] spTurR)(Ch0:Callee P w K mg base n "read_window" ["day","text"] spWinR):FnOk P w K mg base B5 (n+1) f fd ["day","kind","word"] spValR:=by
 refine F.okQ tP ?_ ?_;walk_at "o";obtain⟨d,p,rfl,hn,hok,q⟩:=h;refine⟨_,(A9 (AE (AX CS (qv 1) BP (AS _)) (AA (AF (AB Cz0 hr U (A4 (qv 2) A5)))) AY) (A9 (AE (AX CS (qv 1) BP (AS _)) (AA (AF (AB Cc1 hr U (A4 (qv 2) A5)))) AY) (AA (AF (AB Ch0 hr U (A4 (qv 0) (A4 (qv 2) A5))))))),?_⟩;walk_at "d";cases p with
 |name _=>cases hn
 |ends _ _=>cases hn
 |moment t=>exact⟨_,rfl,rfl,_,rfl,D2 (CB rfl) ⟨_,rfl,t,rfl,hok,λ H1 s1=>q _ H1 s1 rfl⟩⟩
 |turns k=>exact⟨_,rfl,rfl,_,rfl,CU (by show ¬decide (V.str "turns"=V.str "moment")=true;decide +kernel) ⟨_,rfl,rfl,_,rfl,D2 (CB rfl) ⟨_,rfl,k,rfl,hok,λ H1 s1=>q _ H1 s1 rfl⟩⟩⟩
 |win x =>
  obtain⟨x0,x1,x2,d2,x3,x4⟩:=hok;exact⟨_,U,U,_,U,CU (by show ¬decide (V.str "window"=V.str "moment")=true;decide +kernel) ⟨_,U,U,_,U,CU (by show ¬decide (V.str "window"=V.str "turns")=true;decide +kernel) ⟨_,U,_,U,d,x,U,x0,x1,x2,d2,x3,x4,λ r H1 s1 e1=>q _ H1 s1 ⟨r,U,e1⟩⟩⟩⟩
end
variable {ps:List Part}
theorem nL(hc:(c<48\/57<c)/\c≠45):c∉(AN t).cps.toList:=λ z=>by
 by_cases h:t<0
 ·rw[YV h,SU] at z;rcases EW.mp z with z|z
  ·rw[show(("-":Str)).cps.toList=[45] by decide +kernel] at z;exact hc.2 (D8.mp z)
  ·exact IB ⋯ hc.1 z
 ·exact IB ⋯ hc.1 z
theorem Part.free{p:Part}(h:p.ok d):32∉p.txt.cps.toList:=by
 cases p with
 |name x=>exact XT h ⋯
 |ends a b=>exact fW h.1 h.2 ⟨⋯,⋯⟩
 |moment t=>exact nL ⟨⋯,⋯⟩
 |turns k=>exact nL ⟨⋯,⋯⟩
 |win x=>exact jA h.1 (by have:=h.2.1;have:=h.1;omega) (by have:=h.2.2.2.2.1;omega) ⟨⋯,⋯,⋯⟩
theorem Part.len{p:Part}(h:p.ok d):p.txt.length<=60:=by
 cases p with
 |name x=>exact FB h.l8 (by decide)
 |ends a b =>
  have h1:=h.1.l8;have h2:=h.2.l8;show(a++">"++b).length<=60;rw[EY,EY,show((">":Str)).length=1 by decide];omega
 |moment t =>
  show(AN t).length<=60;obtain⟨h1,h2⟩:=h
  by_cases c:t<0
  ·have:=KS (n:=-t) (m:=30) ⋯ (by decide) (by rw[IJ];omega);rw[YV c,EY,show(("-":Str)).length=1 by decide];omega
  ·have:=KS (n:=t) (m:=30) ⋯ (by decide) (by rw[IJ];omega);omega
 |turns k =>
  obtain⟨h1,h2⟩:=h;have:=KS (n:=k) (m:=30) ⋯ (by decide) (by rw[IJ];omega);show(AN k).length<=60;omega
 |win x =>
  obtain⟨x0,x1,x2,d2,x3,x4⟩:=h;exact FB (ZM ⟨⟨x0,⋯⟩,⟨⋯,⋯⟩,⟨⋯,⋯⟩⟩) (by decide)
structure RowT(K:W.Frag)(kvS:List (Str×Tok×Value))(w:Str)(ta:Addr)(ks:List Str):Prop where
 get:HN kvS w=some (.ref ta)
 sh:∀H,SqT K H ta (ks.map V.str)
 nm:w≠"meet"
 fr:32∉w.cps.toList
 len:w.length<=10
def qE(ps:List Part):List Part:=ps.filter λ p=>!p.named
def VP(H:Hp)(vs:List V)(ps:List Part):Prop:=vs.length=(qE ps).length/\∀(i:Nat) v p,vs[i]?=some v->(qE ps)[i]?=some p->PV H v p
def HF(w:Str)(ps:List Part):Str:=HW " " (w::ps.map Part.txt)
theorem VP.same{H H':Hp}{vs:List V}{ps:List Part}(h:VP H vs ps)(s:Same H H'):VP H' vs ps:=⟨h.1,λ i v p a b=>(h.2 i v p a b).same s⟩
theorem VP.skip{p:Part}(h:VP H vs ps)(hp:p.named=true):VP H vs (ps++[p]):=by
 unfold VP qE at *;rw[Ap,show [p].filter (λ p=>!p.named)=[] by simp[hp],M5];exact h
theorem VP.snoc{p:Part}(h:VP H vs ps)(hp:p.named=false)(hv:PV H v p):VP H (vs++[v]) (ps++[p]):=by
 unfold VP qE at *;rw[Ap,show [p].filter (λ p=>!p.named)=[p] by simp[hp]];refine⟨by simp[h.1],λ i u q a b=>?_⟩;rcases P3 i vs.length with z|z
 ·rw[GF z] at a;rw[GF (by rw[<- h.1];exact z)] at b;exact h.2 i u q a b
 ·rw[GM z] at a;rw[GM (by rw[<- h.1];exact z),<- h.1] at b;have e:i-vs.length=0:=by
   have:=(CP.mp a).1;simp at this;omega
  rw[e] at a b;cases a;cases b;exact hv
theorem O2{w:Str}(hw:32∉w.cps.toList)(hp:∀p∈ps,p.ok d):Txt.split (HF w ps) " "=w::ps.map Part.txt:=by
 refine fR (c:=32) (cs:=[]) (by decide +kernel) (by simp) (by decide +kernel) (by simp) λ x hx=>?_
 rcases C6.mp hx with rfl|hx
 ·exact hw
 ·obtain⟨p,h,rfl⟩:=DT.mp hx;exact Part.free (hp p h)
theorem YE{w:Str}(hw:w.length<=10)(hp:∀p∈ps,p.ok d)(l8:ps.length<=8):(HF w ps).length<=1000:=by
 have h1:=StrLaws.join_length_le " " (w::ps.map Part.txt);have h2:=StrLaws.sumLen_le (B:=60) (w::ps.map Part.txt) λ y hy=>by
  rcases C6.mp hy with rfl|hy
  ·omega
  ·obtain⟨p,h,rfl⟩:=DT.mp hy;exact Part.len (hp p h)
 rw[KD,BY] at h1 h2;rw[show((" ":Str)).length=1 by decide] at h1;have:HF w ps=HW " " (w::ps.map Part.txt):=rfl;rw[this];omega
theorem iA(h:x.length<=1000000):(Builtin.Str.partsBetween x (Builtin.Str.occurrences x sep 0 x.length (x.length+1)) sep.length).length<=sizeLine:=by
 rw[length_partsBetween];have:=StrLaws.occ_length_le x sep 0 x.length (x.length+1);exact L.le ⋯
theorem WY(p:Part):R5 (.str p.kind) [.str "name",.str "road"]=p.named:=by
 cases p with
 |name _=>exact(by decide +kernel:R5 (.str "name") [.str "name",.str "road"]=true)
 |ends _ _=>exact(by decide +kernel:R5 (.str "road") [.str "name",.str "road"]=true)
 |moment _=>exact(by decide +kernel:R5 (.str "moment") [.str "name",.str "road"]=false)
 |turns _=>exact(by decide +kernel:R5 (.str "turns") [.str "name",.str "road"]=false)
 |win _=>exact(by decide +kernel:R5 (.str "window") [.str "name",.str "road"]=false)
theorem nS{p:Part}(h:ps[i]?=some p):(ps.take (i+1)).flatMap Part.ns=(ps.take i).flatMap Part.ns++p.ns:=by
 rw[RG,h];simp
theorem SB(ps:List Part):(ps.flatMap Part.ns).length<=2*ps.length:=by
 induction ps with
 |nil=>simp
 |cons p ps ih =>
  rw[VY,G2,KD];have:p.ns.length<=2:=by cases p<;>simp[Part.ns]
  omega
inductive spShape(K:W.Frag)(kvS:List (Str×Tok×Value))(vs:List V)(H:Hp)(Q:VK)(z3q:XK):Prop
 |mk (pw:Addr) (w:Str) (ws:List Str) (ta:Addr) (ks:List Str):vs=[.ref pw]->(H pw=some (.lst ((w::ws).map V.str)))->RowT K kvS w ta ks->Q (.ref ta) H->spShape K kvS vs H Q z3q
inductive spRowR(K:W.Frag)(kvS:List (Str×Tok×Value))(vs:List V)(H:Hp)(Q:VK)(z3q:XK):Prop
 |mk (d:Int) (w:Str) (ta:Addr) (ps:List Part):vs=[.int d,.str (HF w ps)]->RowT K kvS w ta (ps.map Part.kind)->((∀p∈ps,p.ok d))->ps.length<=8->(∀(r pn pv:Addr)(us:List V)(H':Hp),Same H H'->H' r=some (.tup [.str w,.ref pn,.ref pv])->H' pn=some (.lst ((ps.flatMap Part.ns).map V.str))->H' pv=some (.lst us)->VP H' us ps->Q (.ref r) H')->spRowR K kvS vs H Q z3q
section
variable {f:Addr}{t1 t2 t3 t4:Tok}{aS:Addr}
theorem V4(gr:Gr mg t1 t2 t3)(kS:KDict K w.params aS kvS)(mS:mg "SHAPES"=some (.ref aS))(F:Fun K "shape_of" "shape_of" XH f fd)(B:Bl mg):FnOk P w K mg base B5 (n+1) f fd ["words"] (spShape K kvS):=by
 refine F.okQ x9 ?_ ?_;walk_at "o";obtain⟨pw,w,ws,ta,ks,rfl,ep,rt,q⟩:=h;refine⟨_,(A9 (AE (QW.pt (I0 (AX CS (A8 AM (qv 0) A6 Y9) BP (AS _)) (J6 (QJ EA EA A6 (AL CN U B.len C5 (A4 (qv 0) A5)) (A7 B7 A6 (HD U gr.mp)))))) (AA (AF (A7 B7 (D4 (A4 BP A5)) (A7 OF (D4 (A4 BP A5)) (A7 D5 (AL CN U B.len C5 (A4 (qv 0) A5)) A6))))) AY) (AA (AF (U9 kS U mS (A8 AM (qv 0) A6 Y9) ⟨U,U,U,U⟩)))),?_⟩;walk_at "d";have a0:DK ((w::ws).map V.str) 0=some (.str w):=F6 (j:=0) rfl;refine⟨_,U,pw,_,_,_,U,U,SqL.of ep,a0,U,_,U,CU (λ z=>rt.nm ?_) ?_⟩
 ·have:=D6 z;injection this
 ·exact⟨_,U,pw,_,_,_,U,U,SqL.of ep,a0,w,.ref ta,U,by rw[rt.get];rfl,q⟩
theorem bP(F:Fun K "read_row" "read_row" ZT f fd)(B:Bl mg)(Cq1:Callee P w K mg base n "shape_of" ["words"] (spShape K kvS))(Cd1:Callee P w K mg base n "read_names" ["kind","word"] spNamesR)(Ce1:Callee P w K mg base n "read_value" ["day","kind","word"] spValR):FnOk P w K mg base B5 (n+1) f fd ["day","row"] (spRowR K kvS):=by
 refine F.okQ BM ?_ ?_;walk_at "o";obtain⟨d,w,ta,ps,rfl,rt,hok,l8,q⟩:=h;refine⟨_,(A9 (AE (EF (CD (AL K5 U B.isinstance K2 (A4 (qv 1) (A4 (JP (v:=.ty "str") U B.str_ GB U) A5))))) (AA (AF DE)) AY) (A9 (AC (i:=2) BM.nd U (AH U) (gK K U (qv 1) (A4 BP A5))) (A9 (AC (i:=3) BM.nd U (AH U) (AB Cq1 hr U (A4 (qv 2) A5))) (A9 (AE (FM (QW.pt (CO (EN (qv 3)) (FC (AX LL (AL CN U B.len C5 (A4 (qv 2) A5)) (A7 B7 A6 (AL CN U B.len C5 (A4 (qv 3) A5))) (AS _)))))) (AA (AF DE)) AY) (A9 (AC (i:=4) BM.nd U (AH U) (D0 A5)) (A9 (AC (i:=5) BM.nd U (AH U) (D0 A5)) (A9 (DJ PassesOwn.never U (ZD U B.zip (A4 (qv 3) (A4 (L6 (qv 2) (IG A6) IC) A5))) (G8 U (BI (AV (i:=6) BM.nd U (AH U)) (BI (AV (i:=7) BM.nd U (AH U)) FX))) (A9 (AC (i:=8) BM.nd U (AH U) (IZ YY (qv 6) (D4 (A4 BP (A4 BP A5))) U)) (A9 (AC (i:=9) BM.nd U (AH U) (KB (FJ (CD (qv 8)) (AB Cd1 hr U (A4 (qv 6) (A4 (qv 7) A5))) (AB Ce1 hr U (A4 (qv 0) (A4 (qv 6) (A4 (qv 7) A5))))))) (A9 (AE (EN (qv 9)) (AA (AF DE)) AY) (AA (AE (CD (qv 8)) (AA (CF (bE (qv 4) (A4 (qv 9) A5)))) (AA (CF (DG (qv 5) (A4 (qv 9) A5)))))))))) (AA (AF (D4 (A4 (A8 AM (qv 2) A6 Y9) (A4 (qv 4) (A4 (qv 5) A5))))))))))))),?_⟩;walk_at "d";refine⟨_,U,_,"str",_,_,U,.str _,U,_,U,BB ?_⟩;have es:=O2 rt.fr hok;have lx:=YE rt.len hok l8;refine⟨_,U,U,_,_,U,U,by decide,L.le ⋯,iA ⋯,by rw[es,KD,BY];exact L.le ⋯,λ pw hpw=>?_⟩;rw[es];generalize hgH1:AD _ pw _=H1;revert H1;refine BE hpw λ H1 s1 e1=>?_
 refine⟨_,U,pw,w,ps.map Part.txt,ta,_,U,e1,rt,?_⟩;have lk:(ps.map Part.kind).map V.str=ps.map λ p=>V.str p.kind:=by rw[iR];rfl
 refine⟨λ b H'=>b=false/\H'=H1,?_,?_⟩
 ·refine⟨_,U,_,U,BB ?_⟩;refine⟨_,U,pw,_,U,.inl (SqL.of e1),_,U,ta,_,U,.inr (rt.sh _),_,_,U,U,U,_,U,?_,U⟩;simp;omega
 intro b H1' z9;obtain⟨rfl,rfl⟩ := z9;refine BB ?_;refine⟨II,λ pn hpn=>?_⟩;have fpn:=s1.free hpn;have nwn:pw≠pn:=λ z=>by rw[<- z,e1] at hpn;cases hpn
 generalize hgH2:AD _ pn _=H2;revert H2;refine BE hpn λ H2 s2 e2=>?_
 refine⟨II,λ pv hpv=>?_⟩;have fpv:=(s1.trans s2).free hpv;have npv:pv≠pn:=λ z=>by rw[z,e2] at hpv;cases hpv
 have nwv:pw≠pv:=λ z=>by rw[<- z,s2 _ _ e1] at hpv;cases hpv
 generalize hgH3:AD _ pv _=H3;revert H3;refine BE hpv λ H3 s3 e3=>?_
 refine⟨_,U,_,U,_,U,pw,_,U,SqL.of (s3 _ _ (s2 _ _ e1)),λ pz hpz=>?_⟩;rw[jB];have nzn:pz≠pn:=λ z=>by rw[z,s3 _ _ e2] at hpz;cases hpz
 have nzv:pz≠pv:=λ z=>by rw[z,e3] at hpz;cases hpz
 generalize hgH4:AD _ pz _=H4;revert H4;refine BE hpz λ H4 s4 e4=>?_
 have S4:=s1.trans (s2.trans (s3.trans s4));refine⟨ta,pz,U,⟨_,rt.sh _⟩,⟨_,SqL.of e4⟩,?_⟩;have e4:H4 pz=some (.lst ((ps.map Part.txt).map V.str)):=e4;refine TQ (K:=K) (a:=ta) (b:=pz) (xs:=(ps.map Part.kind).map V.str) (ys:=(ps.map Part.txt).map V.str) (by simp)
  (λ i σ H'=>∃(us:List V)(v6 v7 v8 v9:Option V),σ=[some (.int d),some (.str (HF w ps)),some (.ref pw),some (.ref ta),some (.ref pn),some (.ref pv),v6,v7,v8,v9]/\Same H H'/\H' pz=some (.lst ((ps.map Part.txt).map V.str))/\H' pw=some (.lst ((w::ps.map Part.txt).map V.str))/\H' pn=some (.lst (((ps.take i).flatMap Part.ns).map V.str))/\H' pv=some (.lst us)/\VP H' us (ps.take i))
  ⟨[],_,_,_,_,rfl,S4,e4,s4 _ _ (s3 _ _ (s2 _ _ e1)),s4 _ _ (s3 _ _ e2),s4 _ _ e3,rfl,λ i v p a=>(by cases a)⟩ (λ i σ H' _ h=>?_) ?_ ?_
 ·obtain⟨_,_,_,_,_,_,_,h,_⟩:=h;exact⟨rt.sh _,SqL.of h⟩
 ·intro i x y pt σ H5 hx hy z9 hpt;obtain⟨us,v6,v7,v8,v9,rfl,s5,z5,w5,n5,u5,vp5⟩ := z9;rw[EH,EH] at hx hy;cases hp:ps[i]? with
  |none=>rw[hp] at hx;cases hx
  |some p =>
  rw[hp] at hx hy;cases hx;cases hy;have hi:=(CP.mp hp).1;have okp:=hok p (DL hp);have nl:=SB (ps.take i);rw[GV] at nl;have ul:=vp5.1;have vl:(qE (ps.take i)).length<=i:=FB (List.length_filter_le _ _) (by rw[GV];omega);generalize hgH6:AD _ pt _=H6;revert H6;refine BE hpt λ H6 s6 e6=>?_
  refine⟨pt,_,U,SqT.of e6,U,_,_,U,_,_,U,U,?_⟩;refine⟨_,U,iI,λ pq hpq=>?_⟩;generalize hgH7:AD _ pq _=H7;revert H7;refine BE hpq λ H7 s7 e7=>?_
  refine⟨pq,_,U,.inr (SqT.of e7),U,U,?_⟩;rw[WY];have s57:=s6.trans s7;refine⟨λ v H'=>Same H7 H'/\v ≠ .non/\(p.named=true->∃r,v=.ref r/\H' r=some (.tup (p.ns.map V.str)))/\(p.named=false->PV H' v p),?_,?_⟩
  ·refine⟨_,U,_,U,AZ (λ c=>?_) (λ c=>?_)⟩
   ·have c:p.named=true:=by simpa using c
    exact⟨_,rfl,_,rfl,p,rfl,c,(by cases p<;>first|exact okp|cases c),λ r H8 s8 e8=>⟨s8,by simp,λ _=>⟨r,rfl,e8⟩,λ z=>(by rw[c] at z;cases z)⟩⟩
   ·have c':p.named=false:=by simpa using c
    exact⟨_,rfl,_,rfl,_,rfl,d,p,rfl,c',okp,λ v H8 s8 hv=>⟨s8,hv.some,λ z=>(by rw[c'] at z;cases z),λ _=>hv⟩⟩
  intro v H8 z9;obtain⟨s8,vn,hn,hv⟩ := z9;have s58:=s57.trans s8;refine⟨_,U,_,U,CU (by simp[vn]) ?_⟩;have n8:=s58 _ _ n5;have u8:=s58 _ _ u5;have S8:=s5.trans s58;have et:ps.take (i+1)=ps.take i++[p]:=by rw[RG,hp];rfl
  refine⟨_,U,_,U,AZ (λ c=>?_) (λ c=>?_)⟩
  ·have c:p.named=true:=by simpa using c
   obtain⟨r,rfl,er⟩:=hn c;refine⟨_,U,.inl ⟨U,_,SqL.of n8⟩,_,U,pn,r,_,_,U,U,n8,SqT.of er,?_,?_⟩
   ·have:p.ns.length<=2:=by cases p<;>simp[Part.ns]
    exact L.le (by simp only[BY];omega)
   refine⟨us,_,_,_,_,U,C4 fpn S8,by rw[AJ nzn];exact s58 _ _ z5,by rw[AJ nwn];exact s58 _ _ w5,?_,by rw[AJ npv];exact u8,?_⟩
   ·rw[AI,nS hp,HA]
   ·rw[et];refine VP.skip ⟨vp5.1,λ k u x a b=>?_⟩ c;have h1:=(vp5.2 k u x a b).same s58;cases x with
    |win y =>
     obtain⟨r2,e,er2⟩:=h1;exact⟨r2,e,by rw[AJ (λ z=>by rw[z,n8] at er2;cases er2)];exact er2⟩
    |_=>exact h1
  ·have c':p.named=false:=by simpa using c
   refine⟨_,U,.inl ⟨U,_,SqL.of u8⟩,_,U,pv,us,v,U,U,u8,BW ⋯,?_⟩;refine⟨us++[v],_,_,_,_,U,C4 fpv S8,by rw[AJ nzv];exact s58 _ _ z5,by rw[AJ nwv];exact s58 _ _ w5,?_,AI,?_⟩
   ·rw[AJ npv.symm,nS hp,show p.ns=[] by(cases p<;>first|rfl|cases c'),M5];exact n8
   ·have off:∀{u:V}{x:Part},PV H8 u x->PV (AD H8 pv (.lst (us++[v]))) u x:=λ {u x} h1=>by
     cases x with
     |win y =>
      obtain⟨r2,e,er2⟩:=h1;exact⟨r2,e,by rw[AJ (λ z=>by rw[z,u8] at er2;cases er2)];exact er2⟩
     |_=>exact h1
    rw[et];exact VP.snoc ⟨vp5.1,λ k u x a b=>off ((vp5.2 k u x a b).same s58)⟩ c' (off (hv c'))
 ·intro σ H5 z9;obtain⟨us,v6,v7,v8,v9,rfl,s5,z5,w5,n5,u5,vp5⟩ := z9;rw[BY,BY,JH] at n5 vp5;have a0:DK ((w::ps.map Part.txt).map V.str) 0=some (.str w):=F6 (j:=0) rfl;refine⟨_,U,pw,_,_,_,U,U,SqL.of w5,a0,_,U,_,U,QY,λ rr hrr=>?_⟩;generalize hgH6:AD _ rr _=H6;revert H6;refine BE hrr λ H6 s6 e6=>?_
  exact q rr pn pv us H6 (s5.trans s6) e6 (s6 _ _ n5) (s6 _ _ u5) (vp5.same s6)
end
abbrev CJ:=Str×Str×List T3
def CC(ys:List Str)(z:Str):List Str:=if z∈ys then ys else ys++[z]
theorem nF{z:Str}{v:Int}{ys':List Str}(h:(z∈ys/\v=((ys.idxOf z:Nat):Int)/\ys'=ys)\/(z∉ys/\v=(ys.length:Int)/\ys'=ys++[z])):ys'=CC ys z/\v=(((CC ys z).idxOf z:Nat):Int):=by
 unfold CC;rcases h with⟨a,b,c⟩|⟨a,b,c⟩
 ·rw[if_pos a];exact⟨c,b⟩
 ·rw[if_neg a];refine⟨c,?_⟩;rw[b,xQ,if_neg a];simp
theorem jI(ys:List Str)(z:Str):(CC ys z).length<=ys.length+1:=by
 unfold CC;split
 ·omega
 ·simp
def IF(st:List Str×List (Int×Int×List T3))(q:CJ):List Str×List (Int×Int×List T3):=(CC (CC st.1 q.1) q.2.1,st.2++[((((CC st.1 q.1).idxOf q.1:Nat):Int),(((CC (CC st.1 q.1) q.2.1).idxOf q.2.1:Nat):Int),q.2.2)])
def rdAll(L:List CJ):List Str×List (Int×Int×List T3):=L.foldl IF ([],[])
theorem LU(L:List CJ)(q:CJ):rdAll (L++[q])=IF (rdAll L) q:=by
 unfold rdAll;rw[kH];rfl
theorem kB:∀(L:List CJ),(rdAll L).1.length<=2*L.length:=by
 have go:∀(L:List CJ) (st:List Str×List (Int×Int×List T3)),(L.foldl IF st).1.length<=st.1.length+2*L.length:=by
  intro L
  induction L with
  |nil=>intro st;simp
  |cons q L ih =>
   intro st;have h:=ih (IF st q);have h1:=jI st.1 q.1;have h2:=jI (CC st.1 q.1) q.2.1;have e:(IF st q).1=CC (CC st.1 q.1) q.2.1:=rfl;rw[kN,KD];rw[e] at h;omega
 intro L;have:=go L ([],[])
 simpa [rdAll] using this
def IM(q:CJ):Str:=HR q.1 q.2.1 q.2.2
def IW(d:Int)(L:List CJ):Str:=HW "; " (("day "++AN d)::L.map IM)
structure Told(d:Int)(L:List CJ):Prop where
 d1:1<=d
 d2:d<=1000000000000000
 l:L.length<=20
 rd:∀q∈L,Low q.1/\Low q.2.1/\G6 d q.2.2/\q.2.2.length<=20
theorem Told.one{L:List CJ}(h:Told d L){q:CJ}(hq:q∈L):(IM q).length<=5400:=by
 obtain⟨ls,le,e,l⟩:=h.rd q hq;have d2:=h.d2;refine mP (λ x hx=>?_) ⋯ (by have:=ls.l8;omega) (by have:=le.l8;omega);obtain⟨x0,x1,x2,x3,x4⟩:=e x hx;exact⟨⟨x0,⋯⟩,⟨⋯,⋯⟩,⟨⋯,⋯⟩⟩
theorem Told.split{d:Int}{L:List CJ}(h:Told d L):Txt.split (IW d L) "; "=("day "++AN d)::L.map IM:=by
 refine fR (c:=59) (cs:=[32]) (by decide +kernel) (by simp) (by decide +kernel) (by simp) λ p hp=>?_
 rcases C6.mp hp with rfl|hp
 ·intro z;rw[FE] at z;rcases z with z|z
  ·exact absurd z (by decide +kernel)
  ·exact IB (by have:=h.d1;omega) ⋯ z
 ·obtain⟨q,hq,rfl⟩:=DT.mp hp;obtain⟨a,b,c,_⟩:=h.rd q hq;exact NH a b c
theorem Told.len{d:Int}{L:List CJ}(h:Told d L):(IW d L).length<=200000:=by
 have sd:Sm d:=⟨by have:=h.d1;omega,by have:=h.d2;omega⟩
 have hd:(AN d).length<=16:=sd.len;have h1:=StrLaws.join_length_le "; " (("day "++AN d)::L.map IM);have h2:=StrLaws.sumLen_le (B:=5400) (("day "++AN d)::L.map IM) λ y hy=>by
  rcases C6.mp hy with rfl|hy
  ·rw[EY,show(("day ":Str)).length=4 by decide];omega
  ·obtain⟨q,hq,rfl⟩:=DT.mp hy;exact h.one hq
 rw[KD,BY] at h1 h2;rw[show(("; ":Str)).length=2 by decide] at h1;have lL:=h.l;have:IW d L=HW "; " (("day "++AN d)::L.map IM):=rfl;rw[this];omega
theorem NA.wr{x:Addr}{ys:List V}(h:NA H p N)(e:H x=some (.lst zs))(ne:p≠x)(nb:∀m∈N,m.2.2.1≠x):NA (AD H x (.lst ys)) p N:=⟨G1 h.la e ne,λ m hm=>⟨G1 (h.bd m hm).1 e (nb m hm),(h.bd m hm).2⟩,h.nd⟩
inductive spReadL(vs:List V)(H:Hp)(Q:VK)(z3q:XK):Prop
 |mk (day:Int) (L:List CJ):vs=[.str (IW day L)]->Told day L->(∀(r pn pr:Addr)(M:List BN)(H':Hp),Same H H'->H' r=some (.tup [.int day,.ref pn,.ref pr])->H' pn=some (.lst ((rdAll L).1.map V.str))->H pn=none->NA H' pr M->H pr=none->NFr H M->pn≠pr->(∀m∈M,m.2.2.1≠pn)->M.map F8=(rdAll L).2->Q (.ref r) H')->spReadL vs H Q z3q
section
variable {f:Addr}
theorem UW(F:Fun K "read_net" "read_net" aX f fd)(B:Bl mg)(Cr1:Callee P w K mg base n "read_day" ["text"] spDayR)(Cm0:Callee P w K mg base n "read_ends" ["text"] spEnds)(Cf1:Callee P w K mg base n "read_board" ["day","words"] (spBoardR K))(Cy0:Callee P w K mg base n "number_of" ["names","name"] (spNumOf K)):FnOk P w K mg base B5 (n+1) f fd ["text"] spReadL:=by
 refine F.okQ BF ?_ ?_;walk_at "o";obtain⟨day,Lr,rfl,ok,q⟩:=h;refine⟨_,(A9 (AE (EF (CD (AL K5 U B.isinstance K2 (A4 (qv 0) (A4 (JP (v:=.ty "str") U B.str_ GB U) A5))))) (AA K9) AY) (A9 (AC (i:=1) BF.nd U (AH U) (gK K U (qv 0) (A4 BP A5))) (A9 (AC (i:=2) BF.nd U (AH U) (AB Cr1 hr U (A4 (A8 AM (qv 1) A6 Y9) A5))) (A9 (AE (EN (qv 2)) (AA K9) AY) (A9 (AC (i:=3) BF.nd U (AH U) (D0 A5)) (A9 (AC (i:=4) BF.nd U (AH U) (D0 A5)) (A9 (DJ PassesOwn.never U (DN (L6 (qv 1) (IG A6) IC)) (AV (i:=5) BF.nd U (AH U)) (A9 (AC (i:=6) BF.nd U (AH U) (gK K U (qv 5) (A4 BP A5))) (A9 (AC (i:=7) BF.nd U (AH U) (AB Cm0 hr U (A4 (A8 AM (qv 6) A6 Y9) A5))) (A9 (AC (i:=8) BF.nd U (AH U) (AB Cf1 hr U (A4 (qv 2) (A4 (L6 (qv 6) (IG A6) IC) A5)))) (A9 (AE (QW.pt (CO (EN (qv 7)) (FC (EN (qv 8))))) (AA K9) AY) (A9 (AC (i:=9) BF.nd U (AH U) (AB Cy0 hr U (A4 (qv 3) (A4 (A8 AU (qv 7) A6 Y9) A5)))) (AA (CF (DG (qv 4) (A4 (D4 (A4 (qv 9) (A4 (AB Cy0 hr U (A4 (qv 3) (A4 (A8 AU (qv 7) A6 Y9) A5))) (A4 (qv 8) A5)))) A5)))))))))) (AA (AF (D4 (A4 (qv 2) (A4 (qv 3) (A4 (qv 4) A5))))))))))))),?_⟩;walk_at "d";have sd:Sm day:=⟨by have:=ok.d1;omega,by have:=ok.d2;omega⟩
 have hd:(AN day).length<=16:=sd.len;have e4:("day ":Str).length=4:=by decide
 have lL:=ok.l;have hlen:=ok.len;refine⟨_,U,_,"str",_,_,U,.str _,U,_,U,BB ?_⟩;have es:=ok.split;refine⟨_,U,U,_,_,U,U,by decide,L.le ⋯,iA ⋯,L.le (by rw[es,KD,BY];omega),λ ps hps=>?_⟩;rw[es];generalize hgH1:AD _ ps _=H1;revert H1;refine BE hps λ H1 s1 e1=>?_
 have e1:H1 ps=some (.lst ((("day "++AN day)::Lr.map IM).map V.str)):=e1;refine⟨_,U,ps,_,_,_,U,U,SqL.of e1,F6 (j:=0) rfl,day,U,ok.d1,ok.d2,λ H2 s2=>?_⟩;refine⟨_,U,_,U,BB ?_⟩;refine⟨II,λ pn hpn=>?_⟩;have fpn:H pn=none:=s1.free (s2.free hpn);generalize hgH3:AD _ pn _=H3;revert H3;refine BE hpn λ H3 s3 e3=>?_
 refine⟨II,λ pr hpr=>?_⟩;have fpr:H pr=none:=s1.free (s2.free (s3.free hpr));have npr:pn≠pr:=λ z=>by rw[<- z,e3] at hpr;cases hpr
 generalize hgH4:AD _ pr _=H4;revert H4;refine BE hpr λ H4 s4 e4'=>?_
 have s04:=s1.trans (s2.trans (s3.trans s4));have s14:=s2.trans (s3.trans s4);refine⟨_,U,_,U,ps,_,U,SqL.of (s14 _ _ e1),λ p5 hp5=>?_⟩;have ec:GT ((("day "++AN day)::Lr.map IM).map V.str) (some 1) none=(Lr.map IM).map V.str:=jB _;rw[ec];have n5n:p5≠pn:=λ z=>by rw[z,s4 _ _ e3] at hp5;cases hp5
 have n5r:p5≠pr:=λ z=>by rw[z,e4'] at hp5;cases hp5
 generalize hgH5:AD _ p5 _=H5;revert H5;refine BE hp5 λ H5 s5 e5=>?_
 refine⟨p5,U,⟨_,SqL.of e5⟩,GI (K:=K) (a:=p5) (xs:=(Lr.map IM).map V.str) (λ i σ H'=>∃(M:List BN)(v5 v6 v7 v8 v9:Option V),σ=[some (.str (IW day Lr)),some (.ref ps),some (.int day),some (.ref pn),some (.ref pr),v5,v6,v7,v8,v9]/\Same H H'/\H' p5=some (.lst ((Lr.map IM).map V.str))/\H' pn=some (.lst ((rdAll (Lr.take i)).1.map V.str))/\NA H' pr M/\NFr H M/\(∀m∈M,m.2.2.1≠pn)/\M.length=i/\M.map F8=(rdAll (Lr.take i)).2)
  ⟨[],_,_,_,_,_,rfl,s04.trans s5,e5,s5 _ _ (s4 _ _ e3),NA.nil (s5 _ _ e4'),(by intro m hm;cases hm),(by simp),rfl,rfl⟩ (λ i σ H' _ h=>?_) ?_ ?_⟩
 ·obtain⟨_,_,_,_,_,_,_,_,h,_⟩:=h;exact SqL.of h
 ·intro i y σ H6 hi z9;obtain⟨M,v5,v6,v7,v8,v9,rfl,s6,e6,n6,hM,fM,bM,lM,eM⟩ := z9;rw[EH,EH] at hi;cases hx:Lr[i]? with
  |none=>rw[hx] at hi;cases hi
  |some m =>
  rw[hx] at hi;cases hi;have li:=(CP.mp hx).1;have mm:=DL hx;obtain⟨ls,le,wR,lR⟩:=ok.rd m mm;have rl:=ok.one mm;have er:Txt.split (IM m) " "=(m.1++">"++m.2.1)::m.2.2.map CZ:=zC ls le wR;have nl:=kB (Lr.take i);rw[GV] at nl;have n2:=jI (rdAll (Lr.take i)).1 m.1;have et:Lr.take (i+1)=Lr.take i++[m]:=by rw[RG,hx];rfl
  refine⟨_,U,U,_,_,U,U,by decide,L.le ⋯,iA ⋯,L.le (by rw[er,KD,BY];omega),λ pw hpw=>?_⟩;rw[er];generalize hgH7:AD _ pw _=H7;revert H7;refine BE hpw λ H7 s7 e7=>?_
  have e7:H7 pw=some (.lst (((m.1++">"++m.2.1)::m.2.2.map CZ).map V.str)):=e7;refine⟨_,U,pw,_,_,_,U,U,SqL.of e7,F6 (j:=0) rfl,_,_,U,ls,le,λ r8 H8 s8 e8=>?_⟩;refine⟨_,U,_,U,_,U,pw,_,U,SqL.of (s8 _ _ e7),λ p9 hp9=>?_⟩;have ec9:GT (((m.1++">"++m.2.1)::m.2.2.map CZ).map V.str) (some 1) none=(m.2.2.map CZ).map V.str:=jB _;rw[ec9];generalize hgH9:AD _ p9 _=H9;revert H9;refine BE hp9 λ H9 s9 e9=>?_
  refine⟨day,p9,m.2.2,U,e9,wR,ok.d2,⋯,λ pb H10 s10 fb la=>?_⟩;have s69:=s7.trans (s8.trans s9);have s610:=s69.trans s10;have n10:=s610 _ _ n6;have nbn:pb≠pn:=λ z=>by
   rw[z,s69 _ _ n6] at fb;cases fb
  have fpb:H pb=none:=s6.free (s69.free fb);have fbM:=(hM.same s69).fresh fb;have hM10:=hM.same s610;have e8':=s10 _ _ (s9 _ _ e8);have e510:=s610 _ _ e6;have s010:=s6.trans s610;have nr8:r8≠pn:=λ z=>by rw[z,n10] at e8';cases e8'
  refine⟨_,U,_,U,BB ⟨_,U,_,U,BB ?_⟩⟩;refine⟨_,U,_,U,r8,_,_,_,U,U,SqT.of e8',U,pn,_,(rdAll (Lr.take i)).1,U,n10,⋯,λ v ys' alt=>?_⟩;obtain⟨rfl,rfl⟩:=nF alt;clear alt;generalize hN1:CC (rdAll (Lr.take i)).1 m.1=N1 at *;have n11:AD H10 pn (.lst (N1.map V.str)) pn=some (.lst (N1.map V.str)):=AI;have e511:AD H10 pn (.lst (N1.map V.str)) p5=some (.lst ((Lr.map IM).map V.str)):=by rw[AJ n5n];exact e510
  have e811:AD H10 pn (.lst (N1.map V.str)) r8=some (.tup [.str m.1,.str m.2.1]):=by rw[AJ nr8];exact e8'
  have la11:LA AQ (AD H10 pn (.lst (N1.map V.str))) pb m.2.2:=G1 la n10 nbn;have hM11:NA (AD H10 pn (.lst (N1.map V.str))) pr M:=hM10.wr n10 npr.symm bM;have s011:Same H (AD H10 pn (.lst (N1.map V.str))):=C4 fpn s010;generalize AD H10 pn (.lst (N1.map V.str))=H11 at *;obtain⟨vs,hv1,hv2,_⟩:=hM11.la.lst;refine⟨_,U,.inl ⟨U,_,SqL.of hv1⟩,_,U,_,U,_,U,r8,_,_,_,U,U,SqT.of e811,U,pn,_,N1,U,n11,⋯,λ v ys' alt=>?_⟩;obtain⟨rfl,rfl⟩:=nF alt;clear alt;generalize hN2:CC N1 m.2.1=N2 at *;have n12:AD H11 pn (.lst (N2.map V.str)) pn=some (.lst (N2.map V.str)):=AI;have e512:AD H11 pn (.lst (N2.map V.str)) p5=some (.lst ((Lr.map IM).map V.str)):=by rw[AJ n5n];exact e511
  have la12:LA AQ (AD H11 pn (.lst (N2.map V.str))) pb m.2.2:=G1 la11 n11 nbn;have hM12:NA (AD H11 pn (.lst (N2.map V.str))) pr M:=hM11.wr n11 npr.symm bM;have s012:Same H (AD H11 pn (.lst (N2.map V.str))):=C4 fpn s011;have hv12:AD H11 pn (.lst (N2.map V.str)) pr=some (.lst vs):=by rw[AJ npr.symm];exact hv1
  generalize AD H11 pn (.lst (N2.map V.str))=H12 at *;refine⟨_,U,QY,λ rr hrr=>?_⟩;generalize hgH13:AD _ rr _=H13;revert H13;refine BE hrr λ H13 s13 e13=>?_
  rw[BY] at hv2;refine⟨pr,_,_,U,U,s13 _ _ hv12,BW ⋯,?_⟩;refine⟨M++[(((N1.idxOf m.1:Nat):Int),((N2.idxOf m.2.1:Nat):Int),pb,m.2.2)],_,_,_,_,_,U,C4 fpr (s012.trans s13),?_,?_,(hM12.same s13).add fbM (s13 _ _ hv12) (la12.same s13) e13,?_,?_,by simp[lM],?_⟩
  ·rw[AJ n5r];exact s13 _ _ e512
  ·rw[AJ npr,et,LU];unfold IF;rw[hN1,hN2];exact s13 _ _ n12
  ·exact fM.snoc fpb
  ·intro m' hm';rcases EW.mp hm' with z|z
   ·exact bM m' z
   ·rw[D8] at z;subst z;exact nbn
  ·rw[HA,eM,et,LU];unfold IF;rw[hN1,hN2];rfl
 ·intro σ H6 z9;obtain⟨M,v5,v6,v7,v8,v9,rfl,s6,e6,n6,hM,fM,bM,lM,eM⟩ := z9;rw[BY,BY,JH] at eM n6;refine⟨_,U,_,U,_,U,QY,λ rr hrr=>?_⟩;generalize hgH7:AD _ rr _=H7;revert H7;refine BE hrr λ H7 s7 e7=>?_
  exact q rr pn pr M H7 (s6.trans s7) e7 (s7 _ _ n6) fpn (hM.same s7) fpr fM npr bM eM
end
def TBI(T:Hp->Prop):Prop:=∀(H:Hp)(x C dx:Addr) (fs fs':List (Str×V)),T H->H x=some (.ins C dx fs)->T (AD H x (.ins C dx fs'))
theorem ZL(P:Addr)(pos:Pos)(q:Str):TBI λ H=>TabOk H P pos q:=λ H x C dx fs fs' t e=>by
 obtain⟨ps,h1,h2,h3⟩:=t;refine⟨ps,by rw[AJ (λ z=>by rw[z,e] at h1;cases h1)];exact h1,h2,?_⟩;rcases h3 with h3|⟨c,h3,h4⟩
 ·exact .inl h3
 ·exact .inr ⟨c,h3,by rw[AJ (λ z=>by rw[z,e] at h4;cases h4)];exact h4⟩
theorem TBI.and{T':Hp->Prop}(h:TBI T)(h':TBI T'):TBI λ H=>T H/\T' H:=λ H x C dx fs fs' t e=>⟨h H x C dx fs fs' t.1 e,h' H x C dx fs fs' t.2 e⟩
theorem ML{x:Addr}{a b:HO}:AD (AD H x a) x b=AD H x b:=funext λ c=>by
 by_cases e:c=x
 ·rw[e,AI,AI]
 ·rw[AJ e,AJ e,AJ e]
theorem LA.offI{α:Type}{enc:α->List V}{x dx:Addr}{fs:List (Str×V)}{o:HO}{xs:List α}(h:LA enc H p xs)(e:H x=some (.ins C dx fs)):LA enc (AD H x o) p xs:=by
 obtain⟨rs,h1,h2,h3⟩:=h.ex;refine⟨rs,by rw[AJ (λ z=>by rw[z,e] at h1;cases h1)];exact h1,h2,λ i r y e1 e2=>?_⟩;have:=h3 i r y e1 e2;rw[AJ (λ z=>by rw[z,e] at this;cases this)];exact this
theorem NA.offI{H:Hp}{p x C dx:Addr}{fs:List (Str×V)}{o:HO}{N:List BN}(h:NA H p N)(e:H x=some (.ins C dx fs)):NA (AD H x o) p N:=⟨h.la.offI e,λ m hm=>⟨(h.bd m hm).1.offI e,(h.bd m hm).2⟩,h.nd⟩
abbrev Ad(d:Int)(pn pr:Addr):List (Str×V):=[("day",.int d),("names",.ref pn),("roads",.ref pr)]
structure DeskAt(C:Addr)(H:Hp)(x:Addr)(d:Int)(ns:List Str)(M:List BN):Prop where
 ex:∃dx pn pr,H x=some (.ins C dx (Ad d pn pr))/\H pn=some (.lst (ns.map V.str))/\NA H pr M
theorem DeskAt.same{C:Addr}{H H':Hp}{x:Addr}{d:Int}{ns:List Str}{M:List BN}(h:DeskAt C H x d ns M)(s:Same H H'):DeskAt C H' x d ns M:=by
 obtain⟨dx,pn,pr,h1,h2,h3⟩:=h.ex;exact⟨dx,pn,pr,s _ _ h1,s _ _ h2,h3.same s⟩
theorem DeskAt.u{C:Addr}{H H':Hp}{x:Addr}{d:Int}{ns:List Str}{M:List BN}(h:DeskAt C H x d ns M)(s:SameU H H'):DeskAt C H' x d ns M:=by
 obtain⟨dx,pn,pr,h1,h2,h3⟩:=h.ex;exact⟨dx,pn,pr,s.1 _ _ h1 (λ _ z=>nomatch z),s.lst h2,h3.u s⟩
structure DkT(K:W.Frag)(C:Addr):Prop where
 cl:Cls K C
 nd:NoAttr K C "day"
 nn:NoAttr K C "names"
 nr:NoAttr K C "roads"
inductive spDInit(T:Hp->Prop)(C:Addr)(vs:List V)(H:Hp)(Q:VK)(z3q:XK):Prop
 |mk (x dx:Addr) (d:Int) (L:List CJ) (H0:Hp):vs=[.ref x,.str (IW d L)]->H x=some (.ins C dx [])->H0 x=none->Same H0 H->T H->Told d L->(∀(H':Hp)(M:List BN),Same H0 H'->T H'->DeskAt C H' x d (rdAll L).1 M->M.map F8=(rdAll L).2->NFr H0 M->Q .non H')->spDInit T C vs H Q z3q
section
variable {f:Addr}
theorem UB(G:DkT K C)(hTB:TB T)(hTI:TBI T)(F:FunD K "__init__" "Desk.__init__" KW f fd)(Cs1:Callee P w K mg base n "read_net" ["text"] spReadL):FnOk P w K mg base B5 (n+1) f fd ["self","text"] (spDInit T C):=by
 refine F.okQ EB ?_ ?_;walk_at "o";obtain⟨x,dx,d,L,H0,rfl,hx,fx,s0,hT,tl,q⟩:=h;refine⟨_,(A9 (AC (i:=2) EB.nd U (AH U) (AB Cs1 hr U (A4 (qv 1) A5))) (A9 (KM (qv 0) (A8 AU (qv 2) A6 Y9)) (A9 (KM (qv 0) (A8 AU (qv 2) A6 Y9)) (AA (KM (qv 0) (A8 AU (qv 2) A6 Y9)))))),?_⟩;walk_at "d";refine⟨_,U,d,L,U,tl,λ r pn pr M H1 s1 e1 n1 fn hM fr fM np bM eM=>?_⟩;have x1:=s1 _ _ hx;have t1:=hTB.same _ _ hT s1;have nrx:∀{b:Addr}{o:HO},H1 b=some o->(∀C dx fs,o ≠ .ins C dx fs)->b≠x:=λ hb ho z=>by
  rw[z,x1] at hb;exact ho _ _ _ (by injection hb with hb;exact hb.symm)
 refine⟨_,U,r,_,_,_,U,U,SqT.of e1,U,_,U,x,C,dx,_,U,x1,G.cl,G.nd,(by show 0<1000;decide),?_⟩;have r2:AD H1 x (.ins C dx (DU "day" (.int d) [])) r=some (.tup [.int d,.ref pn,.ref pr]):=by rw[AJ (nrx e1 (by simp))];exact e1
 refine⟨_,U,r,_,_,_,U,U,SqT.of r2,U,_,U,x,C,dx,_,U,AI,G.cl,G.nn,(by show 1<1000;decide),?_⟩;rw[ML];have r3:AD H1 x (.ins C dx (DU "names" (.ref pn) (DU "day" (.int d) []))) r=some (.tup [.int d,.ref pn,.ref pr]):=by rw[AJ (nrx e1 (by simp))];exact e1
 refine⟨_,U,r,_,_,_,U,U,SqT.of r3,U,_,U,x,C,dx,_,U,AI,G.cl,G.nr,(by show 2<1000;decide),?_⟩;rw[ML];have ef:DU "roads" (.ref pr) (DU "names" (.ref pn) (DU "day" (.int d) []))=Ad d pn pr:=rfl;rw[ef];refine q _ M ?_ (hTI _ x C dx _ _ t1 x1) ⟨dx,pn,pr,AI,by rw[AJ (nrx n1 (by simp))];exact n1,hM.offI x1⟩ eM λ m hm=>s0.free (fM m hm)
 exact C4 fx (s0.trans s1)
end
structure RowE where
 w:Str
 ta:Addr
 ks:List Str
 f:Addr
 sp:Sp
structure RowsOk(K:W.Frag)(kvS kvA:List (Str×Tok×Value))(R:List RowE):Prop where
 row:∀e∈R,RowT K kvS e.w e.ta e.ks
 ans:∀e∈R,HN kvA e.w=some (.ref e.f)
def pX(R:List RowE):List (Addr×Sp):=R.map λ e=>(e.f,e.sp)
def mY(ns:List Str)(z:Str):V:=.int ((ns.idxOf z:Nat):Int)
inductive spSay(C:Addr)(R:List RowE)(vs:List V)(H:Hp)(Q:VK)(z3q:XK):Prop
 |mk (x:Addr) (d:Int) (ns:List Str) (M:List BN) (e:RowE) (ps:List Part):vs=[.ref x,.str (HF e.w ps)]->e∈R->e.ks=ps.map Part.kind->((∀p∈ps,p.ok d))->ps.length<=8->DeskAt C H x d ns M->((∀z∈ps.flatMap Part.ns,z∈ns))->ns.length<=100->(∀(pl pv:Addr)(us:List V)(H':Hp),Same H H'->H' pl=some (.lst ((ps.flatMap Part.ns).map (mY ns)))->H' pv=some (.lst us)->VP H' us ps->e.sp [.ref x,.ref pl,.ref pv] H' Q E0)->spSay C R vs H Q z3q
section
variable {f:Addr}{aA:Addr}{kvA:List (Str×Tok×Value)}{R:List RowE}
theorem g9(G:DkT K C)(ro:RowsOk K kvS kvA R)(kA:KDict K w.params aA kvA)(mA:mg "ANSWERS"=some (.ref aA))(F:Fun K "say" "Desk.say" L5 f fd)(B:Bl mg)(Ct1:Callee P w K mg base n "read_row" ["day","row"] (spRowR K kvS))(GA:∀q∈pX R,iP P w K mg base B5 n ["desk","places","values"] q.1 q.2):FnOk P w K mg base B5 (n+1) f fd ["self","row"] (spSay C R):=by
 refine F.okQ F4 ?_ ?_;walk_at "o";obtain⟨x,d,ns,M,e,ps,rfl,he,ek,hok,l8,dk,hin,ln,q⟩:=h;refine⟨_,(A9 (AC (i:=2) F4.nd U (AH U) (AB Ct1 hr U (A4 (G3 (qv 0)) (A4 (qv 1) A5)))) (A9 (AE (EN (qv 2)) (AA K9) AY) (A9 (AE (EF (CD (AL (LF U) U B.all LG (A4 (GK ["name","self"] [none,some 0] (BlkOk.of U U (SubL.to (IA U EX)) U) U (DN (A8 AU (qv 2) A6 Y9)) (λ _ _ _ _=>(AV (i:=0) (show(["name","self"]:List Str).Nodup by decide) U (AH U))) (λ _ _ _ _=>(IZ (VI K U) (qv 0) (MP K U (qv 1)) U))) A5)))) (AA K9) AY) (A9 (AC (i:=3) F4.nd U (AH U) (ZP kA U mA (A8 AU (qv 2) A6 Y9) Y9)) (AA (AF (fL 3 GA hr JY (A4 (qv 0) (A4 (GK ["name","self"] [none,some 0] (BlkOk.of U U (SubL.to (IA U EX)) U) U (DN (A8 AU (qv 2) A6 Y9)) (λ _ _ _ _=>(AV (i:=0) (show(["name","self"]:List Str).Nodup by decide) U (AH U))) (λ _ _ _ _=>(oK K U (MP K U (qv 1)) (A4 (qv 0) A5)))) (A4 (A8 AU (qv 2) A6 Y9) A5)))))))))),?_⟩;walk_at "d";obtain⟨dx,pn,pr,hx,hn,hM⟩:=dk.ex;have rt:=ro.row e he;rw[ek] at rt;refine⟨_,U,x,C,dx,_,_,U,hx,G.cl,G.nd,U,_,U,d,e.w,e.ta,ps,U,rt,hok,l8,λ r qn qv us H1 s1 e1 n1 u1 vp=>?_⟩;refine⟨_,U,_,U,BB ?_⟩;generalize hz:ps.flatMap Part.ns=zs at *;have lz:zs.length<=16:=by
  rw[<- hz];exact FB (SB ps) ⋯
 refine⟨_,U,r,_,_,_,U,U,SqT.of e1,U,qn,U,⟨_,SqL.of n1⟩,?_⟩;refine HX (K:=K) (a:=qn) (xs:=zs.map V.str) (λ D i H'=>Same H1 H'/\H' D=some (.lst ((GL i true).map V.bl))) (λ D hD=>⟨BD hD _,AI⟩) (λ D i H' _ _ h=>SqL.of (h.1 _ _ n1)) ?_ ?_
 ·intro D i y H' hD hi z9;obtain⟨sD,eD⟩ := z9;rw[EH] at hi;cases hzi:zs[i]? with
  |none=>rw[hzi] at hi;cases hi
  |some z =>
  rw[hzi] at hi;cases hi;have li:=(CP.mp hzi).1;have sH:=s1.trans sD;refine⟨λ k v e=>?_,?_⟩
  ·match k,e with
   |0,e=>cases e
   |1,e=>exact e
   |k+2,e=>cases e
  refine⟨_,U,_,U,x,C,dx,_,_,U,sH _ _ hx,G.cl,G.nn,U,pn,_,U,.inl (SqL.of (sH _ _ hn)),U,RY _,?_⟩;refine⟨_,eD,BW (by simp;omega),C4 hD sD,?_⟩;rw[AI,cS,CB (hin z (DL hzi)),kJ,HA];rfl
 intro D H2 hD z9;obtain⟨s2,e2⟩ := z9;refine⟨D,_,U,SqL.of e2,?_⟩;rw[iO];refine⟨_,U,BB ?_⟩;have s02:=s1.trans s2;refine⟨_,U,r,_,_,_,U,U,SqT.of (s2 _ _ e1),U,e.w,_,.ref e.f,U,ro.ans e he,U,?_⟩;refine⟨e.f,e.sp,DT.mpr ⟨e,he,U⟩,U,_,U,_,U,r,_,_,_,U,U,SqT.of (s2 _ _ e1),U,qn,U,⟨_,SqL.of (s2 _ _ n1)⟩,?_⟩;refine HX (K:=K) (a:=qn) (xs:=zs.map V.str) (λ D i H'=>Same H2 H'/\H' D=some (.lst ((zs.take i).map (mY ns)))) (λ D hD=>⟨BD hD _,AI⟩) (λ D i H' _ _ h=>SqL.of (h.1 _ _ (s2 _ _ n1))) ?_ ?_
 ·intro D i y H' hD hi z9;obtain⟨sD,eD⟩ := z9;rw[EH] at hi;cases hzi:zs[i]? with
  |none=>rw[hzi] at hi;cases hi
  |some z =>
  rw[hzi] at hi;cases hi;have li:=(CP.mp hzi).1;have sH:=s02.trans sD;refine⟨λ k v e=>?_,?_⟩
  ·match k,e with
   |0,e=>cases e
   |1,e=>exact e
   |k+2,e=>cases e
  refine⟨_,U,x,C,dx,_,_,U,sH _ _ hx,G.cl,G.nn,U,.inl ⟨U,_,SqL.of (sH _ _ hn)⟩,_,U,pn,z,ns,U,U,SqL.of (sH _ _ hn),hin z (DL hzi),L.le ⋯,?_⟩;refine⟨_,eD,BW (by simp;omega),C4 hD sD,?_⟩;rw[AI,RG,hzi,HA];rfl
 intro D3 H3 hD3 z9;obtain⟨s3,e3⟩ := z9;rw[BY,JH] at e3;refine⟨_,U,r,_,_,_,U,U,SqT.of (s3 _ _ (s2 _ _ e1)),U,?_⟩;have s23:=s2.trans s3;exact q D3 qv us H3 (s1.trans s23) e3 (s23 _ _ u1) (vp.same s23)
end
theorem cU(fo:Fords d N F){p y:Int}:Jo d F k p t q y↔Jo d N k p t q y:=⟨λ j=>j.to λ f hf=>by
  obtain⟨x,hx,e1,e2,e3⟩:=fo.of hf;exact⟨x,hx,e1,e2,λ t=>(e3 t).symm⟩,λ j=>j.to λ x hx=>by
  obtain⟨f',hf',a,b,c⟩:=fo.to hx;exact⟨f',hf',a,b,c⟩⟩
theorem oH{y:Int}(hd:0<d)(hW:G6 d R)(h:Ma.bt d R t=some y):t<=y/\y<=t+d+1000000000000000:=by
 obtain⟨⟨w,hw,e⟩,_⟩:=Ma.bt_min h;obtain⟨w0,w1,w2,w3,w4⟩:=hW w hw;have m0:=UH t (by omega:d≠0);have m1:=UV t hd;rw[Ma.nextO_eq d _ _ t w1] at e;split at e
 ·omega
 ·split at e<;>omega
theorem M9{d:Int}{M:List BN}(hd:0<d)(d2:d<=1000000000000000)(hW:∀m∈M,G6 d m.2.2.2):∀{k:Nat}{p t q y:Int},Jo d M k p t q y->t<=y/\y<=t+k*2000000000000000
 |0,p,t,q,y,⟨_,e⟩=>⋯
 |k+1,p,t,q,y,j=>by
  rcases j with j|⟨m,hm,_,z,hz,j⟩
  ·have:=M9 hd d2 hW j;omega
  ·have h1:=oH hd (hW m hm) hz;have h2:=M9 hd d2 hW j;omega
structure BtIn(T:Hp->Prop)(C:Addr)(H:Hp)(x pl:Addr)(d:Int)(ns:List Str)(M:List BN)(i j:Nat):Prop where
 dk:DeskAt C H x d ns M
 t:T H
 d1:1<=d
 d2:d<=1000000000000000
 rng:∀m∈M,(0<=m.1/\m.1<ns.length)/\(0<=m.2.1/\m.2.1<ns.length)/\G6 d m.2.2.2/\m.2.2.2.length<=16
 n4:ns.length<=4
 l:M.length<=16
 pl:H pl=some (.lst [.int i,.int j])
 i:i<ns.length
 j:j<ns.length
theorem BtIn.ok{x pl:Addr}{ns:List Str}(h:BtIn T C H x pl d ns M i j):NetOk d ns.length M:=⟨λ m hm=>by
 obtain⟨a,b,c,e⟩:=h.rng m hm;exact⟨a,b,⋯,λ w hw=>⟨(c w hw).1,(c w hw).2.1,(c w hw).2.2.1,(c w hw).2.2.2.1⟩⟩⟩
structure SoonC(d:Int)(n:Nat)(M:List BN)(i j:Nat)(R:List T3):Prop where
 ck:Ma.CK d R
 len:R.length<=1000000
 mn:∀t,Mn (λ y=>∃k,Jo d M k i t j y) (Ma.bt d R t)
 m1:∃k,k<=n-1/\∀t,Mn (Jo d M k i t j) (Ma.bt d R t)
 bd:∀t y,Ma.bt d R t=some y->t<=y/\y<=t+10000000000000000
inductive spBetw(T:Hp->Prop)(C:Addr)(vs:List V)(H:Hp)(Q:VK)(z3q:XK):Prop
 |mk (x pl:Addr) (d:Int) (ns:List Str) (M:List BN) (i j:Nat):vs=[.ref x,.ref pl]->BtIn T C H x pl d ns M i j->(∀(rc:Addr)(R:List T3)(H':Hp),SameU H H'->T H'->LA AQ H' rc R->SoonC d ns.length M i j R->Q (.ref rc) H')->spBetw T C vs H Q z3q
def PY:Option Int->Str
 |none => "never"
 |some t=>AN t
inductive spShown(vs:List V)(H:Hp)(Q:VK)(z3q:XK):Prop
 |mk (o:Option Int):vs=[B9 o]->((∀t,o=some t->t.natAbs<10000000000000000000000000000000000000000))->Q (.str (PY o)) H->spShown vs H Q z3q
section
variable {f:Addr}
theorem TR(h:t.natAbs<10000000000000000000000000000000000000000):t.natAbs.log2<1920:=by
 rcases M3 t.natAbs with z|z
 ·rw[z];decide
 ·rw[xP ⋯];exact HP h (FB (by decide +kernel:10000000000000000000000000000000000000000<=2 ^ 140) (Bh (by decide) (by decide)))
theorem OA(F:Fun K "shown" "shown" a8 f fd)(B:Bl mg):FnOk P w K mg base B5 (n+1) f fd ["moment"] spShown:=by
 refine F.okQ TZ ?_ ?_;walk_at "o";obtain⟨o,rfl,hb,q⟩:=h;refine⟨_,(AA (AF (FJ (EN (qv 0)) BP (DA GW U B.str_ GB (A4 (qv 0) A5))))),?_⟩;walk_at "d";cases o with
 |none=>exact⟨_,rfl,_,rfl,D2 (by rfl) q⟩
 |some t=>exact⟨_,rfl,_,rfl,CU (by simp[B9]) ⟨_,rfl,_,rfl,TR (hb t rfl),q⟩⟩
theorem bR(G:DkT K C)(hTB:TB T)(F:Fun K "clock_between" "clock_between" Z2 f fd)(B:Bl mg)(Cf2:Callee P w K mg base n "table" ["day","size","roads","goal"] (spTable T)):FnOk P w K mg base B5 (n+1) f fd ["desk","places"] (spBetw T C):=by
 refine F.okQ uI ?_ ?_;walk_at "o";obtain⟨x,pl,d,ns,M,i,j,rfl,b,q⟩:=h;refine⟨_,(AA (AF (A8 AM (AB Cf2 hr U (A4 (G3 (qv 0)) (A4 (AL CN U B.len C5 (A4 (G3 (qv 0)) A5)) (A4 (G3 (qv 0)) (A4 (A8 AM (qv 1) A6 Y9) A5))))) (A8 AM (qv 1) A6 Y9) Y9))),?_⟩;walk_at "d";obtain⟨dx,pn,pr,hx,hn,hM⟩:=b.dk.ex;have nok:=b.ok;have hd:0<d:=by have:=b.d1;omega
 have lM:=b.l;have n4:=b.n4;have hi:=b.i;have hj:=b.j;have few:∀y∈M,4*y.2.2.2.length+2<=66:=λ y hy=>by
  have:=(b.rng y hy).2.2.2;omega
 have a0:DK [V.int (i:Int),V.int (j:Int)] 0=some (.int i):=rfl;have a1:DK [V.int (i:Int),V.int (j:Int)] 1=some (.int j):=rfl;refine⟨_,U,x,C,dx,_,_,U,hx,G.cl,G.nd,U,_,U,x,C,dx,_,_,U,hx,G.cl,G.nn,U,pn,_,U,.inl (SqL.of hn),_,U,x,C,dx,_,_,U,hx,G.cl,G.nr,U,_,U,pl,_,_,_,U,U,SqL.of b.pl,a1,?_⟩;refine⟨d,ns.length,pr,M,j,66,by simp,hM,b.t,hd,nok,⋯,⋯,⋯,few,dQ ⋯ n4,⋯,⋯,λ l Fs Ts Ct H1 u1 t1 fo lT ok hC hB _ _=>?_⟩;have fok:=fo.ok nok few;obtain⟨lC,tok⟩:=ok.each _ Ct hC;obtain⟨rs,rc,r1,r2,r3,r4,r5⟩:=hB.at (i:=(i:Int)) ⋯ ⋯;refine⟨_,U,pl,_,_,_,U,U,SqL.of (u1.lst b.pl),a0,l,_,_,_,U,U,SqL.of r1,r2,?_⟩;have mur:=tok _ (IU (show(0:Int)<=i by omega) ⋯);have mnk:=λ t=>(ok.mn hd fok hC (i:Int) ⋯ ⋯ t).congr λ y=>cU fo
 refine q rc (cl Ct i) H1 u1 t1 r5 ⟨mur.1,?_,λ t=>(ok.all hd fok hC (i:Int) ⋯ ⋯ t).congr λ y=>⟨λ⟨k,h⟩=>⟨k,(cU fo).mp h⟩,λ⟨k,h⟩=>⟨k,(cU fo).mpr h⟩⟩,⟨_,⋯,mnk⟩,λ t y e=>?_⟩
 ·have h1:=mur.len;have h2:=pO (f:=Fs.length) (n:=4) (k:=ns.length-1) (by rw[fo.1];omega) ⋯ ⋯;omega
 ·have h1:=M9 hd b.d2 (λ m hm=>(b.rng m hm).2.2.1) ((mnk t).1 y e).1;omega
inductive spSoon(T:Hp->Prop)(C:Addr)(vs:List V)(H:Hp)(Q:VK)(z3q:XK):Prop
 |mk (x pl pv:Addr) (d:Int) (ns:List Str) (M:List BN) (i j:Nat) (t:Int):vs=[.ref x,.ref pl,.ref pv]->BtIn T C H x pl d ns M i j->H pv=some (.lst [.int t])->(Part.moment t).ok 0->(∀(o:Option Int)(H':Hp),SameU H H'->T H'->Mn (λ y=>∃k,Jo d M k i t j y) o->(∃k,k<=ns.length-1/\Mn (Jo d M k i t j) o)->(∀y,o=some y->y.natAbs<10000000000000000000000000000000000000000)->Q (.str (PY o)) H')->spSoon T C vs H Q z3q
theorem bY(G:DkT K C)(F:Fun K "soonest_row" "soonest_row" TH f fd)(Cb1:Callee P w K mg base n "shown" ["moment"] spShown)(Cu0:Callee P w K mg base n "come" ["day","clock","t"] (spComeT T))(Cd0:Callee P w K mg base n "clock_between" ["desk","places"] (spBetw T C)):FnOk P w K mg base B5 (n+1) f fd ["desk","places","values"] (spSoon T C):=by
 refine F.okQ vZ ?_ ?_;walk_at "o";obtain⟨x,pl,pv,d,ns,M,i,j,t,rfl,b,hv,ht,q⟩:=h;refine⟨_,(AA (AF (AB Cb1 hr U (A4 (AB Cu0 hr U (A4 (G3 (qv 0)) (A4 (AB Cd0 hr U (A4 (qv 0) (A4 (qv 1) A5))) (A4 (A8 AM (qv 2) A6 Y9) A5)))) A5)))),?_⟩;walk_at "d";obtain⟨dx,pn,pr,hx,hn,hM⟩:=b.dk.ex;refine⟨_,U,x,C,dx,_,_,U,hx,G.cl,G.nd,U,_,U,_,U,x,pl,d,ns,M,i,j,U,b,λ rc R H1 u1 t1 la sc=>?_⟩;have bd:∀y,Ma.bt d R t=some y->y.natAbs<10000000000000000000000000000000000000000:=λ y e=>by
  have:=sc.bd t y e;have h1:=ht.1;have h2:=ht.2;omega
 refine⟨_,U,pv,_,_,_,U,U,SqL.of (u1.lst hv),(rfl:DK [V.int t] 0=_),d,rc,t,R,U,la,t1,sc.ck,λ H2 u2 t2=>?_⟩;exact⟨_,U,bd,q _ H2 (u1.trans u2) t2 (sc.mn t) ⟨_,sc.m1.choose_spec.1,sc.m1.choose_spec.2 t⟩ bd⟩
end
def dU(P:Params)(kvs:List (Str×Tok×Value))(ep:Nat):Obj:=⟨.type "dict",none,.dict (kvs.map λ q=>(⟨PyData.keyHash P q.1,.str q.1 q.2.1,q.2.2⟩:DictEntry)).toArray ep,#[]⟩
def An(k:Str):Value->Bool
 | .str x _=>decide (k=x)
 |_=>false
def MN:List Str->List Value->Bool
 | [],[]=>true
 |k::ks,u::us=>An k u&&MN ks us
 |_,_=>false
theorem o8:∀(ks:List Str)(us:List Value),MN ks us=true->Vals (ks.map V.str) us
 | [],[],_=>.nil
 | [],_::_,h=>by cases h
 |_::_,[],h=>by cases h
 |k::ks,u::us,h=>by
  unfold MN at h;rw[KH] at h;refine .cons ?_ (o8 ks us h.2);have h1:=h.1;unfold An at h1;split at h1
  ·rw[D6 h1];exact⟨_,U⟩
  ·cases h1
def mI:Data->Option (Array Value×Nat)
 | .seq a n=>some (a,n)
 |_=>none
def LI(K:W.Frag)(ta:Addr)(ks:List Str):Bool:=match K.lookup ta with
 |some o=>decide (o.cls=.type "tuple")&&(match mI o.data with
  |some (its,_)=>MN ks its.toList&&decide (its.size<=8)
  |none=>false)
 |none=>false
theorem YQ{ta:Addr}{ks:List Str}(h:LI K ta ks=true)(H:Hp):SqT K H ta (ks.map V.str):=by
 unfold LI at h;split at h
 ·rename_i o e
  rw[KH] at h;obtain⟨h1,h2⟩:=h;split at h2
  ·rename_i its n e2
   rw[KH] at h2;refine .inr ⟨o,its,n,e,D6 h1,?_,FB (D6 h2.2) (by decide),o8 _ _ h2.1⟩;unfold mI at e2;split at e2
   ·cases e2
    assumption
   ·cases e2
  ·cases h2
 ·cases h
def IR(w:Str):Bool:=decide (w≠"meet")&&decide (32∉w.cps.toList)&&decide (w.length<=10)
theorem ZV{w:Str}{ta:Addr}{ks:List Str}(h1:HN kvS w=some (.ref ta))(h2:LI K ta ks=true)(h3:IR w=true):RowT K kvS w ta ks:=by
 unfold IR at h3;simp only[KH,decide_eq_true_eq] at h3;exact⟨h1,YQ h2,h3.1.1,h3.1.2,h3.2⟩
theorem mZ{P:Params}{aS aA:Addr}{kvA:List (Str×Tok×Value)}{R:List RowE}(_:KDict K P aS kvS)(_:KDict K P aA kvA)(h:RowsOk K kvS kvA R):RowsOk K kvS kvA R:=h
def CA:Str := "abcdefghijklmnopqrstuvwxyz"
theorem WV{j:Int}(h0:0<=j)(h1:j<26):DK CA.cps.toList j=some (97+j.toNat):=by
 obtain⟨k,rfl⟩:=pY h0;have all:∀k:Fin 26,CA.cps.toList[k.val]?=some (97+k.val):=by decide +kernel
 exact F6 (all ⟨k,⋯⟩)
def lowS(x:Str):Prop:=∀c∈x.cps.toList,97<=c/\c<=122
theorem lowS.app(h:lowS x)(h':lowS y):lowS (x++y):=λ c hc=>by
 rcases FE.mp hc with hc|hc
 ·exact h c hc
 ·exact h' c hc
theorem lowS.one{j:Int}(h:0<=j/\j<26):lowS ⟨#[97+j.toNat]⟩:=λ d hd=>by
 have hd:d∈[97+j.toNat]:=hd;rw[D8] at hd;omega
section
variable {f:Addr}
theorem i4(sep:Str):∀(C3:List Str)(x:Str),HW sep (x::C3)=C3.foldl (λ acc p=>acc++sep++p) x:=by
 intro C3
 induction C3 with
 |nil=>intro x;rfl
 |cons y r ih =>
  intro x;rw[kN,<- ih (x++sep++y),StrLaws.join_shift];rfl
def OZ(names:List Str)(m:BN):CJ:=(E5 names m.1,E5 names m.2.1,m.2.2.2)
def eF(acc:Str)(w:T3):Str:=acc++" "++CZ w
def HL(names:List Str)(acc:Str)(m:BN):Str:=m.2.2.2.foldl eF (acc++"; "++E5 names m.1++">"++E5 names m.2.1)
theorem oP{α:Type}(g:α->Str)(sep:Str):∀(l:List α)(x y:Str),l.foldl (λ acc p=>acc++sep++g p) (x++y)=x++l.foldl (λ acc p=>acc++sep++g p) y
 | [],x,y=>rfl
 |p::l,x,y=>by
  rw[kN,kN,<- oP g sep l x (y++sep++g p)];simp only[rF]
theorem pT(names:List Str)(acc:Str)(m:BN):HL names acc m=acc++"; "++IM (OZ names m):=by
 unfold HL IM OZ;rw[ZJ,i4,wV];have e:eF=λ acc w=>acc++" "++CZ w:=rfl
 rw[e,<- oP CZ " "];simp only[rF]
theorem Z4(day:Int)(names:List Str)(N:List BN):N.foldl (HL names) ("day "++AN day)=IW day (N.map (OZ names)):=by
 have e:HL names=λ acc m=>acc++"; "++IM (OZ names m):=by
  funext acc m
  exact pT names acc m
 unfold IW;rw[i4,wV,wV,e]
inductive spWinTx(vs:List V)(H:Hp)(Q:VK)(z3q:XK):Prop
 |mk (r:Addr) (x:T3):vs=[.ref r]->H r=some (.tup (AQ x))->x.1<=x.2.1->Sm x.1->Sm x.2.1->Sm x.2.2->Q (.str (CZ x)) H->spWinTx vs H Q z3q
theorem YS{x:Int}{ns:List Int}:R5 (.int x) (ns.map V.int)=decide (x∈ns):=by
 unfold R5;rw[SV,lK,decide_eq_true_iff]
 constructor
 ·intro z9;obtain⟨y,hy,e⟩ := z9;obtain⟨z,hz,rfl⟩:=DT.mp hy;have:z=x:=by simpa [R7] using e
  exact this ▸ hz
 ·intro h;exact⟨.int x,DT.mpr ⟨x,h,U⟩,by simp[R7]⟩
theorem ND(ns:List Int):(ns.map V.int).all FN=true:=by
 rw[JL];intro y hy;obtain⟨z,_,rfl⟩:=DT.mp hy;rfl
def DQ(N:List BN)(x:Int):Prop:=∃m∈N,x=m.1\/x=m.2.1
theorem mX:(10:Int) ^ 40=10000000000000000000000000000000000000000:=by decide
theorem oT(h:0<=t)(h1:t.natAbs<10000000000000000000000000000000000000000):(AN t).length<=40:=KS (n:=t) (m:=40) h (by decide) (by rw[mX];omega)
end
section
variable {F':List BN}
theorem Jo.snoc:∀{k:Nat}{p t q y z:Int}{m:BN},Jo d F k p t q y->m∈F->m.1=q->Ma.bt d m.2.2.2 y=some z->Jo d F (k+1) p t m.2.1 z
 |0,p,t,q,y,z,m,⟨e1,e2⟩,hm,e,hz=>.inr ⟨m,hm,e.trans e1.symm,z,by rw[e2];exact hz,rfl,rfl⟩
 |k+1,p,t,q,y,z,m,h,hm,e,hz=>by
  rcases h with h|⟨x,hx,ex,u,hu,h⟩
  ·exact(h.snoc hm e hz).up
  ·exact .inr ⟨x,hx,ex,u,hu,h.snoc hm e hz⟩
theorem Jo.last:∀{k:Nat}{p t q y:Int},Jo d F (k+1) p t q y->Jo d F k p t q y\/∃m∈F,m.2.1=q/\∃z,Jo d F k p t m.1 z/\Ma.bt d m.2.2.2 z=some y
 |0,p,t,q,y,h=>by
  rcases h with h|⟨m,hm,e,z,hz,e1,e2⟩
  ·exact .inl h
  ·exact .inr ⟨m,hm,e1,t,⟨e.symm,rfl⟩,by rw[<- e2];exact hz⟩
 |k+1,p,t,q,y,h=>by
  rcases h with h|⟨m,hm,e,z,hz,h⟩
  ·exact .inl h
  ·rcases h.last with h|⟨x,hx,ex,u,hu,hy⟩
   ·exact .inl (.inr ⟨m,hm,e,z,hz,h⟩)
   ·exact .inr ⟨x,hx,ex,u,.inr ⟨m,hm,e,z,hz,hu⟩,hy⟩
theorem Jo.last_iff{p y:Int}:Jo d F (k+1) p t q y↔(Jo d F k p t q y\/∃m∈F,m.2.1=q/\∃z,Jo d F k p t m.1 z/\Ma.bt d m.2.2.2 z=some y):=⟨Jo.last,λ h=>h.elim Jo.up λ⟨_,hm,e,_,hz,hy⟩=>e ▸ hz.snoc hm rfl hy⟩
end
theorem LJ(hd:0<d){C:List T3}(W:Ma.Wins d C){t':Int}(h:Ma.bt d C t=some z)(l:t'<=t):∃z',Ma.bt d C t'=some z'/\z'<=z:=by
 have n0:C≠[]:=λ e=>by rw[e] at h;cases h
 have T:=Ma.tells_bf (d:=d) n0;rw[T t] at h;cases h;exact⟨_,T t',(Ma.board_rise hd W T).mono _ _ l⟩
theorem YJ(hd:0<d)(W:Ma.Wins d R)(h:Mn S a):Mn (λ y=>∃z,S z/\Ma.bt d R z=some y) (a.bind (Ma.bt d R)):=by
 cases a with
 |none=>exact Mn.none λ y ⟨z,hz,_⟩=>h.2 rfl z hz
 |some z =>
  obtain⟨s1,s2⟩:=h.1 z rfl;show Mn _ (Ma.bt d R z);cases ey:Ma.bt d R z with
  |none =>
   refine Mn.none λ y z9=>?_
   obtain⟨z',hz',hy⟩ := z9;obtain⟨y',hy',_⟩:=LJ hd W hy (s2 z' hz');rw[ey] at hy';cases hy'
  |some y =>
   refine Mn.one ⟨z,s1,ey⟩ λ y' z9=>?_
   obtain⟨z',hz',hy⟩ := z9;obtain⟨y'',hy'',l⟩:=LJ hd W hy (s2 z' hz');rw[ey] at hy'';cases hy'';exact l
def FS(d:Int)(Ns:List BN)(k:Nat)(p t:Int)(i:Nat)(q y:Int):Prop:=Jo d Ns k p t q y\/∃m∈Ns.take i,m.2.1=q/\∃z,Jo d Ns k p t m.1 z/\Ma.bt d m.2.2.2 z=some y
theorem vX(hd:0<d){Ns:List BN}{p:Int}{g:BN}{cur:Option Int}(em:Ns[i]?=some g)(W:Ma.Wins d g.2.2.2)(ha:Mn (Jo d Ns k p t g.1) a)(h:Mn (FS d Ns k p t i q) cur):Mn (FS d Ns k p t (i+1) q) (if g.2.1=q then Ma.omin cur (a.bind (Ma.bt d g.2.2.2)) else cur):=by
 have to:∀y,FS d Ns k p t i q y->FS d Ns k p t (i+1) q y:=λ y s=>s.elim .inl λ⟨m,hm,s⟩=>.inr ⟨m,by rw[HC em];exact K3 _ hm,s⟩
 by_cases e:g.2.1=q
 ·rw[if_pos e];refine(h.omin (YJ hd W ha)).congr λ y=>⟨λ s=>?_,λ s=>?_⟩
  ·rcases s with s|s
   ·exact to y s
   ·exact .inr ⟨g,by rw[HC em];simp,e,s⟩
  ·rcases s with s|⟨m,hm,e1,s⟩
   ·exact .inl (.inl s)
   ·rw[HC em] at hm;rcases EW.mp hm with hm|hm
    ·exact .inl (.inr ⟨m,hm,e1,s⟩)
    ·rw[D8] at hm;subst hm;exact .inr s
 ·rw[if_neg e];refine h.congr λ y=>⟨to y,λ s=>?_⟩
  rcases s with s|⟨m,hm,e1,s⟩
  ·exact .inl s
  ·rw[HC em] at hm;rcases EW.mp hm with hm|hm
   ·exact .inr ⟨m,hm,e1,s⟩
   ·rw[D8] at hm;subst hm;exact absurd e1 e
theorem G9{z:Str}:x∈CC ys z↔x∈ys\/x=z:=by
 unfold CC;split
 ·exact⟨.inl,λ h=>h.elim id λ e=>by rw[e];assumption⟩
 ·simp
theorem pD{z:Str}(h:ys.Nodup):(CC ys z).Nodup:=by
 unfold CC;split
 ·exact h
 ·rename_i c
  refine jG.mpr ⟨h,by simp,λ a ha b hb e=>c ?_⟩;rw[D8] at hb;rw[<- hb,<- e];exact ha
theorem VG{z:Str}(h:x∈ys):(CC ys z).idxOf x=ys.idxOf x:=by
 unfold CC;split
 ·rfl
 ·rw[xQ,if_pos h]
structure RdNb(L:List CJ)(st:List Str×List (Int×Int×List T3)):Prop where
 nd:st.1.Nodup
 mem:∀x,x∈st.1↔∃q∈L,x=q.1\/x=q.2.1
 eq:st.2=L.map λ q=>(((st.1.idxOf q.1:Nat):Int),((st.1.idxOf q.2.1:Nat):Int),q.2.2)
theorem RdNb.step{L:List CJ}{st:List Str×List (Int×Int×List T3)}{q:CJ}(h:RdNb L st):RdNb (L++[q]) (IF st q):=by
 have m1:∀x∈st.1,x∈CC st.1 q.1:=λ x hx=>G9.mpr (.inl hx)
 have m2:q.1∈CC st.1 q.1:=G9.mpr (.inr rfl);refine⟨pD (pD h.nd),λ x=>?_,?_⟩
 ·show x∈CC (CC st.1 q.1) q.2.1↔_;rw[G9,G9,h.mem]
  constructor
  ·rintro((⟨r,hr,e⟩|e)|e)
   ·exact⟨r,K3 _ hr,e⟩
   ·exact⟨q,by simp,.inl e⟩
   ·exact⟨q,by simp,.inr e⟩
  ·intro z9;obtain⟨r,hr,e⟩ := z9;rcases EW.mp hr with hr|hr
   ·exact .inl (.inl ⟨r,hr,e⟩)
   ·rw[D8] at hr;subst hr;exact e.elim (λ e=>.inl (.inr e)) .inr
 ·show st.2++_=_;rw[HA,h.eq];congr 1
  ·refine Bj λ r hr=>?_
   have a1:r.1∈st.1:=(h.mem _).mpr ⟨r,hr,.inl rfl⟩;have a2:r.2.1∈st.1:=(h.mem _).mpr ⟨r,hr,.inr rfl⟩;show _=((((CC (CC st.1 q.1) q.2.1).idxOf r.1:Nat):Int),(((CC (CC st.1 q.1) q.2.1).idxOf r.2.1:Nat):Int),r.2.2)
   rw[VG (m1 _ a1),VG (m1 _ a2),VG a1,VG a2]
  ·show [_]=[((((CC (CC st.1 q.1) q.2.1).idxOf q.1:Nat):Int),(((CC (CC st.1 q.1) q.2.1).idxOf q.2.1:Nat):Int),q.2.2)]
   rw[VG m2]
theorem p7(L:List CJ):RdNb L (rdAll L):=by
 have go:∀(L L0:List CJ) (st:List Str×List (Int×Int×List T3)),RdNb L0 st->RdNb (L0++L) (L.foldl IF st):=by
  intro L
  induction L with
  |nil=>intro L0 st h;simpa using h
  |cons q L ih =>
   intro L0 st h;have:=ih (L0++[q]) (IF st q) h.step;rw[qV,List.singleton_append] at this;exact this
 exact go L [] ([],[]) ⟨by simp,by simp,rfl⟩
theorem MY{ns:List Str}(hx:x∈ns)(h:ns.idxOf x=ns.idxOf y):x=y:=by
 have lx:=uY hx;have e1:ns[ns.idxOf x]=x:=uP lx;have e2:ns[ns.idxOf y]'⋯=y:=uP ⋯;rw[<- e1,<- e2];congr 1
theorem JT{i:Int}(h0:0<=i)(h1:i<names.length):E5 names i∈names:=by
 unfold E5;rw[IP,BK ⋯];exact KR _
theorem iU(nd:names.Nodup){i j:Int}(i0:0<=i)(i1:i<names.length)(j0:0<=j)(j1:j<names.length)(h:E5 names i=E5 names j):i=j:=by
 unfold E5 at h;rw[IP,BK ⋯,IP,BK ⋯] at h;have h:names[i.toNat]'⋯=names[j.toNat]'⋯:=h;have e:i.toNat=j.toNat:=(Az ⋯ nd).mp (by rw[BK ⋯,BK ⋯,h]);omega
structure Ren(names ns:List Str)(N M:List BN):Prop where
 nd:names.Nodup
 rng:∀m∈N,(0<=m.1/\m.1<(names.length:Int))/\(0<=m.2.1/\m.2.1<(names.length:Int))
 n2:ns.Nodup
 mem:∀x,x∈ns↔∃m∈N,x=E5 names m.1\/x=E5 names m.2.1
 eq:M.map F8=N.map λ m=>(((ns.idxOf (E5 names m.1):Nat):Int),((ns.idxOf (E5 names m.2.1):Nat):Int),m.2.2.2)
theorem gJ(nd:names.Nodup)(rng:∀m∈N,(0<=m.1/\m.1<(names.length:Int))/\(0<=m.2.1/\m.2.1<(names.length:Int)))(e:M.map F8=(rdAll (N.map (OZ names))).2):Ren names (rdAll (N.map (OZ names))).1 N M:=by
 have ok:=p7 (N.map (OZ names));refine⟨nd,rng,ok.nd,λ x=>?_,?_⟩
 ·rw[ok.mem]
  constructor
  ·intro z9;obtain⟨q,hq,e⟩ := z9;obtain⟨m,hm,rfl⟩:=DT.mp hq;exact⟨m,hm,e⟩
  ·intro z9;obtain⟨m,hm,e⟩ := z9;exact⟨_,DT.mpr ⟨m,hm,U⟩,e⟩
 ·rw[e,ok.eq,iR];rfl
section
variable {ns:List Str}
def Ren.f(_:Ren names ns N M)(x:Int):Nat:=ns.idxOf (E5 names x)
theorem Ren.on(h:Ren names ns N M){x:Int}(o:DQ N x):E5 names x∈ns/\0<=x/\x<(names.length:Int):=by
 obtain⟨m,hm,e⟩:=o;have r:=h.rng m hm;rcases e with rfl|rfl
 ·exact⟨(h.mem _).mpr ⟨m,hm,.inl rfl⟩,r.1⟩
 ·exact⟨(h.mem _).mpr ⟨m,hm,.inr rfl⟩,r.2⟩
theorem Ren.lt(h:Ren names ns N M){x:Int}(o:DQ N x):h.f x<ns.length:=uY (h.on o).1
theorem Ren.inj(h:Ren names ns N M){x y:Int}(ox:DQ N x)(oy:DQ N y)(e:h.f x=h.f y):x=y:=by
 have a:=h.on ox;have b:=h.on oy;exact iU h.nd a.2.1 a.2.2 b.2.1 b.2.2 (MY a.1 e)
theorem Ren.len(h:Ren names ns N M):ns.length<=names.length:=by
 have sub:∀x∈ns,x∈names:=λ x hx=>by
  obtain⟨m,hm,e⟩:=(h.mem x).mp hx;have r:=h.rng m hm;rcases e with rfl|rfl
  ·exact JT r.1.1 r.1.2
  ·exact JT r.2.1 r.2.2
 have:=ZK names.length (L:=ns.map λ z=>((names.idxOf z:Nat):Int)) (by
  refine sW.mpr (h.n2.imp_of_mem λ {a b} ha _ ne e=>ne (MY (sub a ha) ?_));omega) (λ x hx=>by
  obtain⟨z,hz,rfl⟩:=DT.mp hx;have:=uY (sub z hz);omega)
 rw[BY] at this;exact this
theorem Ren.to(h:Ren names ns N M)(hm:m∈N):∃m'∈M,m'.1=(h.f m.1:Int)/\m'.2.1=(h.f m.2.1:Int)/\m'.2.2.2=m.2.2.2:=by
 have:(((ns.idxOf (E5 names m.1):Nat):Int),((ns.idxOf (E5 names m.2.1):Nat):Int),m.2.2.2)∈M.map F8:=by
  rw[h.eq];exact DT.mpr ⟨m,hm,rfl⟩
 obtain⟨m',hm',e⟩:=DT.mp this;simp only[F8,Prod.mk.injEq] at e;exact⟨m',hm',e⟩
theorem Ren.of(h:Ren names ns N M){m':BN}(hm:m'∈M):∃m∈N,m'.1=(h.f m.1:Int)/\m'.2.1=(h.f m.2.1:Int)/\m'.2.2.2=m.2.2.2:=by
 have:F8 m'∈M.map F8:=DT.mpr ⟨m',hm,rfl⟩;rw[h.eq] at this;obtain⟨m,hm',e⟩:=DT.mp this;simp only[F8,Prod.mk.injEq] at e;exact⟨m,hm',e.1.symm,e.2.1.symm,e.2.2.symm⟩
theorem Ren.lenM(h:Ren names ns N M):M.length=N.length:=by
 have:=congrArg rH h.eq;rw[BY,BY] at this;exact this
theorem Ren.jo(h:Ren names ns N M){d:Int}:∀{k:Nat}{p t q y:Int},Jo d N k p t q y->Jo d M k (h.f p) t (h.f q) y
 |0,p,t,q,y,⟨e,e'⟩=>⟨by rw[e],e'⟩
 |k+1,p,t,q,y,j=>by
  rcases j with j|⟨m,hm,e,z,hz,j⟩
  ·exact .inl (h.jo j)
  ·obtain⟨m',hm',e1,e2,e3⟩:=h.to hm;exact .inr ⟨m',hm',by rw[e1,e],z,by rw[e3];exact hz,by rw[e2];exact h.jo j⟩
theorem Ren.oj(h:Ren names ns N M){d:Int}:∀{k:Nat}{p t q y:Int},DQ N p->DQ N q->Jo d M k (h.f p) t (h.f q) y->Jo d N k p t q y
 |0,p,t,q,y,op,oq,⟨e,e'⟩=>⟨h.inj op oq ⋯,e'⟩
 |k+1,p,t,q,y,op,oq,j=>by
  rcases j with j|⟨m',hm',e,z,hz,j⟩
  ·exact .inl (h.oj op oq j)
  ·obtain⟨m,hm,e1,e2,e3⟩:=h.of hm';have ep:m.1=p:=h.inj ⟨m,hm,.inl rfl⟩ op ⋯;rw[e2] at j;exact .inr ⟨m,hm,ep,z,by rw[<- e3];exact hz,h.oj ⟨m,hm,.inr rfl⟩ oq j⟩
theorem Ren.mn(h:Ren names ns N M){p:Int}(op:DQ N p)(oq:DQ N q)(hm:Mn (Jo d M k (h.f p) t (h.f q)) o):Mn (Jo d N k p t q) o:=hm.congr λ _=>⟨h.oj op oq,h.jo⟩
end
inductive spLeaveT(T:Hp->Prop)(vs:List V)(H:Hp)(Q:VK)(z3q:XK):Prop
 |mk (day:Int) (p:Addr) (s:Int) (R:List T3):vs=[.int day,.ref p,.int s]->LA AQ H p R->T H->Ma.CK day R->((R=[]->Q .non H))->(∀(x:Int)(H':Hp),R≠[]->SameU H H'->T H'->(∀z y,Ma.bt day R z=some y->(y<=s↔z<=x))->Q (.int x) H')->spLeaveT T vs H Q z3q
theorem Z8(C:Callee P w K mg base n "leave" ["day","clock","s"] (spLeave P0 pos))(h1:∀H,T H->TabOk H P0 pos (AW "leave"))
  (h2:∀H H',T H->SameT P0 H H'->TabOk H' P0 pos (AW "leave")->T H'):Callee P w K mg base n "leave" ["day","clock","s"] (spLeaveT T):=Callee.imp C λ vs H Q E h=>by
 obtain⟨day,p,t,R,rfl,hR,hT,ck,q0,q⟩:=h;refine⟨day,p,t,R,U,hR.rows,h1 H hT,ck.clk,λ e=>q0 (M6.mp e),λ n0 x H' hL sm tb=>?_⟩;refine q x H' (λ e=>n0 (by rw[e];rfl)) (SameU.tab sm (h1 H hT) tb) (h2 H H' hT sm tb) λ z y hy=>?_
 obtain⟨x0,y0,hf,hb⟩:=Ma.clk_first ck.clk n0 z;rw[hb] at hy;cases hy;exact Ma.leaveT ck.clk hL hf
theorem LS{C:List T3}(n0:C≠[])(t:Int):∃z,Ma.bt d C t=some z:=⟨_,Ma.tells_bf n0 t⟩
def cut7(x:Str):Str:=Txt.slice x none (some 7)
theorem aE(x:Str):(cut7 x).cps.toList=x.cps.toList.take 7:=SL (by decide)
theorem VQ(x:Str):x.length=x.cps.toList.length:=by simp[JD]
theorem iT(x:Str):(cut7 x).length=min 7 x.length:=by
 rw[VQ,aE,GV,VQ]
theorem cK(h:x.length<=7):cut7 x=x:=KG (by
 rw[aE,W8 (by rw[<- VQ];exact h)])
theorem lowS.cut7(h:lowS x):lowS (cut7 x):=λ c hc=>h c (by
 rw[aE] at hc;exact yJ hc)
theorem TU{α:Type}{a b c:α}{l:List α}(ha:a∈l)(hb:b∈l)(hc:c∈l)(ab:a≠b)(ac:a≠c)(bc:b≠c):3<=l.length:=by
 match l,ha,hb,hc with
 | [x],ha,hb,hc =>
  rw[D8] at ha hb;exact absurd (ha.trans hb.symm) ab
 | [x,y],ha,hb,hc =>
  simp only[C6,GY,or_false] at ha hb hc;rcases ha with ha|ha<;>rcases hb with hb|hb<;>rcases hc with hc|hc
  all_goals first|exact absurd (ha.trans hb.symm) ab|exact absurd (ha.trans hc.symm) ac|exact absurd (hb.trans hc.symm) bc
 |x::y::z::l,_,_,_=>simp
theorem MU{K:W.Frag}{H:Hp}:∀xs:List Str,RdAll K H (xs.map V.str) (xs.map PyData.str)
 | []=>.nil
 |x::xs=>.cons (.str _) (MU xs)
theorem lowS.ok(h:lowS x):PyData.strOk x=true:=by
 unfold PyData.strOk;rw[Array.all_eq_true'];intro c hc;have:=h c (sN.mpr hc);exact CB ⋯
theorem vK{xs:List Str}(h:∀x∈xs,PyData.strOk x=true):SeqAt.shaped (.list (xs.map PyData.str))=true:=by
 have h1:PyData.canLayAll0 (xs.map PyData.str)=true:=by
  induction xs with
  |nil=>simp[PyData.canLayAll0]
  |cons x xs ih =>
   have hx:=h x (EZ ..);have hr:=ih λ y hy=>h y (ER _ hy)
   simp[PyData.canLayAll0,PyData.canLay0,hx,hr]
 have h2:PyData.depthAll (xs.map PyData.str)=0:=by
  clear h h1
  induction xs with
  |nil=>simp[PyData.depthAll]
  |cons x xs ih=>simp[PyData.depthAll,PyData.depth,ih]
 show(PyData.canLay0 (.list (xs.map PyData.str))&&decide (PyData.depth (.list (xs.map PyData.str))<=64))=true;simp only[PyData.canLay0,PyData.depth,h1,h2]
 decide
def Tried(ah:List Str)(x:Str):Nat->Prop
 |0=>x.length<=7
 |1=>∃y∈ah,y.length<=7/\x=y++(⟨#[97]⟩:Str)
 |2=>∃y∈ah,y.length<=7/\y++(⟨#[97]⟩:Str)∈ah/\x=cut7 (y++(⟨#[97]⟩:Str))++(⟨#[98]⟩:Str)
 |_=>False
theorem aB(c:Nat):(⟨#[c]⟩:Str).length=1:=rfl
theorem Tried.next{ah:List Str}(l2:ah.length<=2)(h:Tried ah x i)(hx:x∈ah)(hc:CA.cps[i]?=some c):Tried ah (cut7 x++(⟨#[c]⟩:Str)) (i+1):=by
 match i,h with
 |0,h =>
  have h:x.length<=7:=h;have:CA.cps[0]?=some 97:=by decide +kernel
  rw[this] at hc;cases hc;exact⟨x,hx,h,by rw[cK h]⟩
 |1,⟨y,hy,ly,e⟩ =>
  have:CA.cps[1]?=some 98:=by decide +kernel
  rw[this] at hc;cases hc;exact⟨y,hy,ly,e ▸ hx,by rw[e]⟩
 |2,⟨y,hy,ly,h1,e⟩ =>
  have n1:y≠y++(⟨#[97]⟩:Str):=λ z=>by
   have:=congrArg JD z;rw[EY,aB] at this;omega
  have n2:y≠x:=λ z=>by
   have:=congrArg JD z;rw[e,EY,iT,EY,aB,aB] at this;omega
  have n3:y++(⟨#[97]⟩:Str)≠x:=λ z=>by
   rw[e] at z;have:=congrArg (λ s:Str=>s.cps.toList) z;simp only[SU,aE] at this;rcases(by omega:y.length<=6\/y.length=7) with k|k
   ·have this:y.cps.toList++[97]=(y.cps.toList++[97]).take 7++[98]:=this;have:=congrArg rH this;rw[VQ] at k;simp only[G2,GV,KD,List.length_nil] at this;omega
   ·have this:y.cps.toList++[97]=(y.cps.toList++[97]).take 7++[98]:=this;rw[VQ] at k;rw[List.take_append_of_le_length ⋯,W8 ⋯] at this;have:=Au this;cases this
  have:=TU hy h1 hx n1 n2 n3;omega
inductive spWord8(vs:List V)(H:Hp)(Q:VK)(z3q:XK):Prop
 |mk (cell:Int) (pa:Addr) (ah:List Str):vs=[.int cell,.ref pa]->H pa=some (.lst (ah.map V.str))->ah.length<=2->((∀x∈ah,Low x))->(∀(x:Str)(H':Hp),Same H H'->Low x->x∉ah->Q (.str x) H')->spWord8 vs H Q z3q
section
variable {f:Addr}
theorem SA(F:Fun K "_law_word" "_law_word" bS f fd)(B:Bl mg):FnOk P w K mg base B5 (n+1) f fd ["cell","ahead"] spWord8:=by
 refine F.okQ B8 ?_ ?_;walk_at "o";obtain⟨cell,pa,ah,rfl,ea,l2,lo,q⟩:=h;refine⟨_,(A9 (AC (i:=2) B8.nd U (AH U) BP) (A9 (AC (i:=3) B8.nd U (AH U) BP) (A9 (AC (i:=4) B8.nd U (AH U) (A7 E8 (qv 0) A6)) (A9 (DJ PassesOwn.never U (HZ U B.range (A4 (A7 B7 A6 (A7 BR (qv 0) A6)) A5)) (AV (i:=5) B8.nd U (AH U)) (A9 (AC (i:=3) B8.nd U (AH U) (A7 DZ (qv 3) (A8 N7 (qv 2) (A7 BR (qv 4) A6) Y9))) (AA (AC (i:=4) B8.nd U (AH U) (A7 E8 (qv 4) A6))))) (IE (AE (FM (QW.pt (I0 (AX (ZE hr.units) (qv 1) (D0 A5) (AS _)) (J6 (AX CS (A7 BR (A7 E8 (qv 0) A6) A6) A6 (AS _)))))) (AA (AC (i:=3) B8.nd U (AH U) (LH (A8 AM (qv 1) (G0 A6) Y9) IC (IG A6)))) AY) (A9 (DJ PassesOwn.never U (LC (qv 2)) (AV (i:=6) B8.nd U (AH U)) (A9 (AE (AX iK (qv 3) (qv 1) U) (AA (AF (qv 3))) AY) (AA (AC (i:=3) B8.nd U (AH U) (A7 DZ (LH (qv 3) IC (IG A6)) (qv 6)))))) (AA (AF (qv 3))))))))),?_⟩;walk_at "d";have z7:=EG cell (show(0:Int)<7 by decide);have ll:CA.length=26:=by decide +kernel
 refine⟨_,U,_,_,U,U,⟨by decide,by decide⟩,?_⟩;refine⟨_,U,_,_,U,U,(by show(0:Int)<7;decide),_,_,U,U,1+cell%7,U,⋯,⋯,NN (lo:=0) (n:=(1+cell%7).toNat)
  (λ i σ H'=>H'=H/\∃(x:Str)(re:Int)(v5:Option V),σ=[some (.int cell),some (.ref pa),some (.str CA),some (.str x),some (.int re),v5,none]/\x.length=i/\lowS x)
  ⟨rfl,J5,_,_,rfl,rfl,λ c hc=>by cases hc⟩ ?_ ?_⟩
 ·intro i σ H' hi z9;obtain⟨rfl,x,re,v5,rfl,xl,xo⟩ := z9;rw[show(0:Int)+((i:Nat):Int)=(i:Int) by omega];have e26:=EG re (show(0:Int)<26 by decide);have hc:=WV e26.1 e26.2;refine⟨_,U,_,U,_,U,_,_,U,U,(by show(0:Int)<26;decide),_,_,_,U,U,L.le (by rw[ll];omega),hc,_,_,U,U,L.le (by show x.length+1<=_;omega),?_⟩;refine⟨_,U,_,_,U,U,⟨by decide,by decide⟩,?_⟩;refine⟨U,_,_,_,U,?_,xo.app (lowS.one e26)⟩;rw[EY,xl];rfl
 intro σ H' z9;obtain⟨rfl,x,re,v5,rfl,xl,xo⟩ := z9;refine⟨λ σ' H2=>Same H' H2/\∃y:Str,σ'=[some (.int cell),some (.ref pa),some (.str CA),some (.str y),some (.int re),v5,none]/\1<=y.length/\y.length<=7/\lowS y,?_,?_⟩
 ·refine⟨λ b H2=>Same H' H2/\(b=true->ah≠[]),?_,?_⟩
  ·refine⟨_,U,II,λ pe hpe=>?_⟩;generalize hgH2:AD _ pe _=H2;revert H2;refine BE hpe λ H2 s2 e2=>?_
   refine⟨_,_,.lst (SqL.of (s2 _ _ ea)) (MU ah),.lst (SqL.of e2) .nil,vK λ x hx=>lowS.ok (lo x hx).all,nA,_,rfl,AZ (λ c=>?_) (λ c=>⟨s2,λ z=>(nomatch z)⟩)⟩;refine⟨_,U,_,_,U,U,⟨by decide,by decide⟩,_,_,U,U,(by show(0:Int)<5;decide),U,_,U,s2,λ _ z=>?_⟩;rw[z] at c;simp[PyData.eqv,PyData.eqvAll] at c
  intro b H2 z9;obtain⟨s2,hb⟩ := z9;refine AZ (λ c=>?_) (λ c=>⟨s2,x,rfl,⋯,⋯,xo⟩);have n0:=hb c;have la:0<ah.length:=by cases ah with|nil=>exact absurd rfl n0|cons _ _=>simp
  have a1:DK (ah.map V.str) (-1)=some (.str ah[ah.length-1]):=by
   have:=LB (xs:=ah.map V.str) (k:=1) (BU _) (by rw[BY];omega);refine this.trans ?_;rw[EH,BY,BK ⋯];rfl
  have lw:=lo _ (KR (show ah.length-1<ah.length by omega));have l1:=lw.l1;have l8:=lw.l8;have lc:=iT ah[ah.length-1];exact⟨_,U,_,U,pa,_,_,_,U,U,SqL.of (s2 _ _ ea),a1,_,U,_,U,L.le ⋯,s2,_,U,by show 1<=(cut7 _).length;omega,by show(cut7 _).length<=7;omega,lowS.cut7 lw.all⟩
 intro σ' H2 z9;obtain⟨s2,y,rfl,y1,y7,yo⟩ := z9;refine⟨_,U,_,U,jW (by decide +kernel:∀c∈CA.cps.toList,c<128),aQ (λ i σ H4=>H4=H2/\∃(z:Str)(v:Option V),σ=[some (.int cell),some (.ref pa),some (.str CA),some (.str z),some (.int re),v5,v]/\Low z/\Tried ah z i) ⟨U,y,_,U,⟨yo,y1,⋯⟩,y7⟩ ?_ ?_⟩
 ·intro i c σ H4 hc z9;obtain⟨rfl,z,v,rfl,lz,tz⟩ := z9;refine⟨_,U,_,U,pa,_,U,.inl (SqL.of (s2 _ _ ea)),U,RY _,_,U,?_⟩;rw[cS]
  by_cases m:z∈ah
  ·rw[CB m];have lc:=iT z;have l1:=lz.l1;have l8:=lz.l8;have ci:=sN.mpr (Array.mem_of_getElem? hc);have cl:97<=c/\c<=122:=(by decide +kernel:∀c∈CA.cps.toList,97<=c/\c<=122) c ci;have ln:(cut7 z++(⟨#[c]⟩:Str)).length=(cut7 z).length+1:=by rw[EY,aB]
   refine CU (by decide) ⟨_,rfl,_,rfl,_,rfl,L.le ⋯,_,rfl,_,_,rfl,rfl,L.le (by show(cut7 z).length+1<=_;omega),rfl,cut7 z++(⟨#[c]⟩:Str),_,rfl,⟨(lowS.cut7 lz.all).app λ d hd=>?_,⋯,⋯⟩,tz.next l2 m hc⟩;have hd:d∈[c]:=hd;rw[D8] at hd;omega
  ·rw[decide_eq_false m];exact D2 (by decide) ⟨_,rfl,q z _ s2 lz m⟩
 ·intro σ H4 z9;obtain⟨rfl,z,v,rfl,lz,tz⟩ := z9;exact tz.elim
inductive spWords8(K:W.Frag)(vs:List V)(H:Hp)(Q:VK)(z3q:XK):Prop
 |mk (a:Addr) (ns:List Int) (n:Nat):vs=[.ref a,.int n]->SqL K H a (ns.map V.int)->n<=3->(∀(l:Addr)(xs:List Str)(H':Hp),Same H H'->H' l=some (.lst (xs.map V.str))->H l=none->xs.length=n->(∀x∈xs,Low x)->xs.Nodup->Q (.ref l) H')->spWords8 K vs H Q z3q
theorem PP(F:Fun K "_law_words" "_law_words" YN f fd)(B:Bl mg)(Cb0:Callee P w K mg base n "_law_cell_at" ["script","k"] (spCell K))(Cj3:Callee P w K mg base n "_law_word" ["cell","ahead"] spWord8):FnOk P w K mg base B5 (n+1) f fd ["script","size"] (spWords8 K):=by
 refine F.okQ E9 ?_ ?_;walk_at "o";obtain⟨a,ns,sz,rfl,hS,n3,q⟩:=h;refine⟨_,(A9 (AC (i:=2) E9.nd U (AH U) (D0 A5)) (A9 (DJ PassesOwn.never U (HZ U B.range (A4 (qv 1) A5)) (AV (i:=3) E9.nd U (AH U)) (AA (CF (DG (qv 2) (A4 (AB Cj3 hr U (A4 (AB Cb0 hr U (A4 (qv 0) (A4 (A7 B7 A6 (qv 3)) A5))) (A4 (qv 2) A5))) A5))))) (AA (AF (qv 2))))),?_⟩;walk_at "d";refine⟨II,λ p hp=>?_⟩;have fp:=hp;generalize hgH1:AD _ p _=H1;revert H1;refine BE hp λ H1 s1 e1=>?_
 refine⟨_,U,(sz:Int),U,⋯,⋯,NN (lo:=0) (n:=((sz:Nat):Int).toNat)
  (λ i σ H'=>∃(xs:List Str)(v3:Option V),σ=[some (.ref a),some (.int sz),some (.ref p),v3]/\Same H H'/\H' p=some (.lst (xs.map V.str))/\xs.length=i/\(∀x∈xs,Low x)/\xs.Nodup)
  ⟨[],_,rfl,s1,e1,rfl,by simp,by simp⟩ ?_ ?_⟩
 ·intro i σ H' hi z9;obtain⟨xs,v3,rfl,s2,e2,l2,lo,nd⟩ := z9;rw[show(0:Int)+((i:Nat):Int)=(i:Int) by omega];refine⟨_,U,.inl ⟨U,_,SqL.of e2⟩,_,U,_,U,_,_,U,U,a,ns,3+(i:Int),U,s2.seq hS,⋯,λ c=>⟨_,U,c,p,xs,U,e2,⋯,lo,λ x H3 s3 lx nx=>?_⟩⟩;refine⟨p,_,_,U,U,s3 _ _ e2,BW (by rw[BY];omega),xs++[x],_,U,C4 fp (s2.trans s3),by rw[AI,HA];rfl,by simp[l2],λ y hy=>?_,jG.mpr ⟨nd,by simp,λ u hu v hv e=>?_⟩⟩
  ·rcases EW.mp hy with hy|hy
   ·exact lo y hy
   ·rw[D8.mp hy];exact lx
  ·rw[D8] at hv;exact nx (hv ▸ e ▸ hu)
 ·intro σ H' z9;obtain⟨xs,v3,rfl,s2,e2,l2,lo,nd⟩ := z9;exact⟨_,U,q p xs H' s2 e2 fp ⋯ lo nd⟩
theorem QP(F:Fun K "_law_shown" "_law_shown" cR f fd)(B:Bl mg):FnOk P w K mg base B5 (n+1) f fd ["window"] spWinTx:=by
 refine F.okQ wG ?_ ?_;walk_at "o";obtain⟨r,⟨a,b,c⟩,rfl,hx,ab,s1,s2,s3,q⟩:=h;refine⟨_,(A9 (AE (AX CS (A8 AU (qv 0) A6 Y9) (A8 AU (qv 0) A6 Y9) (AS _)) (AA (AF (A7 DZ (A7 DZ (DA GW U B.str_ GB (A4 (A8 AU (qv 0) A6 Y9) A5)) BP) (DA GW U B.str_ GB (A4 (A8 AU (qv 0) A6 Y9) A5))))) AY) (AA (AF (A7 DZ (A7 DZ (A7 DZ (A7 DZ (DA GW U B.str_ GB (A4 (A8 AU (qv 0) A6 Y9) A5)) BP) (DA GW U B.str_ GB (A4 (A8 AU (qv 0) A6 Y9) A5))) BP) (DA GW U B.str_ GB (A4 (A8 AU (qv 0) A6 Y9) A5)))))),?_⟩;walk_at "d";dsimp only at *;have h1:=s1.len;have h2:=s2.len;have h3:=s3.len;have e1:("+":Str).length=1:=by decide
 have e2:("-":Str).length=1:=by decide
 have ab:a<=b:=ab;refine⟨_,U,r,_,_,_,U,U,SqT.of hx,U,_,U,r,_,_,_,U,U,SqT.of hx,U,U,_,U,AZ (λ k=>?_) (λ k=>?_)⟩
 ·have e:a=b:=by
   have:=D6 k;injection this
  have ew:CZ (a,b,c)=AN a++"+"++AN c:=by
   unfold CZ;rw[if_neg (by show ¬a<b;omega),kI]
  rw[ew] at q;exact⟨_,U,r,_,_,_,U,U,SqT.of hx,U,_,U,s1.log,_,_,U,U,L.le (by simp only[e1];omega),_,U,r,_,_,_,U,U,SqT.of hx,U,_,U,s3.log,_,_,U,U,L.le (by simp only[EY,e1];omega),q⟩
 ·have e:a<b:=by
   rcases Int.lt_or_eq_of_le ab with h|h
   ·exact h
   ·exact absurd (CB (by rw[h])) k
  have ew:CZ (a,b,c)=AN a++"-"++AN b++"+"++AN c:=by
   unfold CZ;rw[if_pos (by exact e),kI]
  rw[ew] at q;exact⟨_,U,r,_,_,_,U,U,SqT.of hx,U,_,U,s1.log,_,_,U,U,L.le (by simp only[e2];omega),_,U,r,_,_,_,U,U,SqT.of hx,U,_,U,s2.log,_,_,U,U,L.le (by simp only[EY,e2];omega),_,_,U,U,L.le (by simp only[EY,e1,e2];omega),_,U,r,_,_,_,U,U,SqT.of hx,U,_,U,s3.log,_,_,U,U,L.le (by simp only[EY,e1,e2];omega),q⟩
inductive spText8(vs:List V)(H:Hp)(Q:VK)(z3q:XK):Prop
 |mk (day:Int) (pn pr:Addr) (names:List Str) (N:List BN):vs=[.int day,.ref pn,.ref pr]->Sm day->H pn=some (.lst (names.map V.str))->NA H pr N->NetTx names N->((∀m∈N,∀x∈m.2.2.2,x.1<=x.2.1))->(∀H',Same H H'->Q (.str (IW day (N.map (OZ names)))) H')->spText8 vs H Q z3q
theorem RW(F:Fun K "_law_text" "_law_text" X7 f fd)(B:Bl mg)(Cx2:Callee P w K mg base n "_law_shown" ["window"] spWinTx):FnOk P w K mg base B5 (n+1) f fd ["day","words","roads"] spText8:=by
 refine F.okQ BL ?_ ?_;walk_at "o";obtain⟨day,pn,pr,names,N,rfl,hd,hn,hN,hok,hab,q⟩:=h;refine⟨_,(A9 (AC (i:=3) BL.nd U (AH U) (A7 DZ BP (DA GW U B.str_ GB (A4 (qv 0) A5)))) (A9 (DJ PassesOwn.never U (DN (qv 2)) (G8 U (BI (AV (i:=4) BL.nd U (AH U)) (BI (AV (i:=5) BL.nd U (AH U)) (BI (AV (i:=6) BL.nd U (AH U)) FX)))) (A9 (AC (i:=7) BL.nd U (AH U) (D0 (A4 (A7 DZ (A7 DZ (A8 AM (qv 1) (qv 4) Y9) BP) (A8 AM (qv 1) (qv 5) Y9)) A5))) (A9 (DJ PassesOwn.never U (DN (qv 6)) (AV (i:=8) BL.nd U (AH U)) (AA (CF (DG (qv 7) (A4 (AB Cx2 hr U (A4 (qv 8) A5)) A5))))) (AA (AC (i:=3) BL.nd U (AH U) (A7 DZ (A7 DZ (qv 3) BP) (MT BP (A4 (qv 7) A5)))))))) (AA (AF (qv 3))))),?_⟩;walk_at "d";have h1:(AN day).length<=16:=hd.len;have h1':=hd.len;have e1:("day ":Str).length=4:=by decide
 have e2:("; ":Str).length=2:=by decide
 have e3:(">":Str).length=1:=by decide
 have e4:(" ":Str).length=1:=by decide
 have nf:=hok.few;refine⟨_,U,_,U,hd.log,_,_,U,U,L.le (by rw[e1];omega),?_⟩;obtain⟨ws,hw1,hw2,hw3⟩:=hN.la.lst;rw[BY] at hw2;refine⟨_,U,pr,U,⟨_,SqL.of hw1⟩,GI (K:=K) (a:=pr) (xs:=ws)
  (λ i σ H'=>Same H H'/\(∃v4 v5 v6 v7 v8:Option V,σ=[some (.int day),some (.ref pn),some (.ref pr),some (.str ((N.take i).foldl (HL names) ("day "++AN day))),v4,v5,v6,v7,v8])/\((N.take i).foldl (HL names) ("day "++AN day)).length<=20+5500*i)
  ⟨Same.refl _,⟨_,_,_,_,_,rfl⟩,by simp only[List.take_zero,zG,EY,e1];omega⟩ (λ i σ H' _ h=>SqL.of (h.1 _ _ hw1)) ?_ ?_⟩
 ·intro i y σ H' hi z9;obtain⟨s1,⟨v4,v5,v6,v7,v8,rfl⟩,hlen⟩ := z9;obtain⟨r,x,rfl,ex,er⟩:=hw3 i y hi;have hi2:i<N.length:=by
   have:=(CP.mp hi).1;omega
  have em:=BK hi2;rw[EH,em] at ex;cases ex;have et:N.take (i+1)=N.take i++[N[i]]:=by rw[RG,em];rfl
  obtain⟨m1,m2,m3,m4,m5,m6⟩:=hok.rd _ (KR hi2);have hb:=(hN.bd _ (KR hi2)).1;have hab':=hab _ (KR hi2);rw[et,kH,kN,zG];generalize hm:N[i]=m at *;generalize (N.take i).foldl (HL names) ("day "++AN day)=acc at *;have l1:=VO hok.nm m.1;have l2:=VO hok.nm m.2.1;have er:H r=some (.tup [.int m.1,.int m.2.1,.ref m.2.2.1]):=er;refine⟨r,_,U,SqT.of (s1 _ _ er),U,_,_,U,_,_,U,_,_,U,U,?_⟩;have hn1:=s1 _ _ hn;refine⟨_,U,_,U,pn,_,_,_,U,U,SqL.of hn1,LO m1 m2,_,_,U,U,L.le (by rw[e3];omega),_,U,_,U,pn,_,_,_,U,U,SqL.of hn1,LO m3 m4,_,_,U,U,L.le (by simp only[EY,e3];omega),kG,λ pp hpp=>?_⟩;have fpp:=hpp;generalize hgH2:AD _ pp _=H2;revert H2;refine BE hpp λ H2 s2 e5=>?_
  obtain⟨bs,hb1,hb2,hb3⟩:=(hb.same s1).lst;refine⟨_,U,m.2.2.1,U,⟨_,SqL.of (s2 _ _ hb1)⟩,GI (K:=K) (a:=m.2.2.1) (xs:=bs)
   (λ j σ H''=>Same H' H''/\(∃v8:Option V,σ=[some (.int day),some (.ref pn),some (.ref pr),some (.str acc),some (.int m.1),some (.int m.2.1),some (.ref m.2.2.1),some (.ref pp),v8])/\H'' pp=some (.lst (((E5 names m.1++">"++E5 names m.2.1)::(m.2.2.2.take j).map CZ).map V.str)))
   ⟨s2,⟨_,rfl⟩,e5⟩ (λ i σ H'' _ h=>SqL.of (h.1 _ _ hb1)) ?_ ?_⟩
  ·intro j z σ H3 hj z9;obtain⟨s3,⟨v8,rfl⟩,e6⟩ := z9;obtain⟨r2,x,rfl,ex,er2⟩:=hb3 j z hj;have jl:=(CP.mp ex).1;have sm:=m5 _ (DL ex);refine⟨_,U,.inl ⟨U,_,SqL.of e6⟩,_,U,r2,x,U,s3 _ _ er2,hab' x (DL ex),sm.1,sm.2.1,sm.2.2,pp,_,_,U,U,e6,BW (by simp;omega),C4 fpp s3,⟨_,U⟩,?_⟩;rw[AI,V3 CZ ex];simp
  ·intro σ H3 z9;obtain⟨s3,⟨v8,rfl⟩,e6⟩ := z9;rw[hb2,JH] at e6;have bl:∀y∈(E5 names m.1++">"++E5 names m.2.1)::m.2.2.2.map CZ,y.length<=300:=λ y hy=>by
    rcases C6.mp hy with rfl|hy
    ·simp only[EY,e3];omega
    ·obtain⟨x,hx,rfl⟩:=DT.mp hy;have:=ZM (m5 x hx);omega
   have rl:IM (OZ names m)=Txt.join " " ((E5 names m.1++">"++E5 names m.2.1)::m.2.2.2.map CZ):=by
    unfold IM OZ Txt.join;rw[ZJ,StrLaws.glued_eq_join]
   have rlen:(IM (OZ names m)).length<=5400:=mP m5 m6 l1 l2;refine⟨_,U,_,_,U,U,L.le (by rw[e2];omega),U,_,U,_,pp,_,U,U,SqL.of e6,oB bl (by rw[KD,BY,e4];omega),?_⟩;rw[<- rl,pT];refine⟨_,_,U,U,L.le (by simp only[EY,e2];omega),s1.trans s3,⟨_,_,_,_,_,U⟩,?_⟩;simp only[EY,e2];omega
 ·intro σ H' z9;obtain⟨s1,⟨v4,v5,v6,v7,v8,rfl⟩,hlen⟩ := z9;rw[hw2,JH,Z4];exact⟨_,U,q _ s1⟩
def ED(xs:List Int)(x:Int):List Int:=if x∈xs then xs else xs++[x]
def CM(N:List BN):List Int:=N.foldl (λ xs m=>ED (ED xs m.1) m.2.1) []
theorem lF{xs:List Int}{x y:Int}:y∈ED xs x↔y∈xs\/y=x:=by
 unfold ED;split
 ·exact⟨.inl,λ h=>h.elim id λ e=>by rw[e];assumption⟩
 ·simp
theorem WD(xs:List Int)(x:Int):(ED xs x).length<=xs.length+1:=by
 unfold ED;split
 ·omega
 ·simp
theorem jU(N:List BN)(m:BN):CM (N++[m])=ED (ED (CM N) m.1) m.2.1:=by
 unfold CM;rw[kH];rfl
theorem TV(h:N[i]?=some m):CM (N.take (i+1))=ED (ED (CM (N.take i)) m.1) m.2.1:=by
 rw[RG,h];exact jU _ m
theorem MO(p:List BN->Prop)(h0:p [])(hs:∀N m,p N->p (N++[m]))(N:List BN):p N:=by
 have:∀k,k<=N.length->p (N.take k):=λ k=>by
  induction k with
  |zero=>intro _;simpa using h0
  |succ k ih =>
   intro hk;have e:=BK (l:=N) (i:=k) ⋯;rw[RG,e];exact hs _ _ (ih ⋯)
 simpa using this N.length (BU _)
theorem IX{x:Int}:x∈CM N↔DQ N x:=by
 refine MO (λ N=>x∈CM N↔DQ N x) ⟨λ h=>(by cases h),λ⟨m,hm,_⟩=>(by cases hm)⟩ (λ N m ih=>?_) N;rw[jU,lF,lF,ih]
 constructor
 ·rintro((⟨m',h,e⟩|e)|e)
  ·exact⟨m',K3 _ h,e⟩
  ·exact⟨m,by simp,.inl e⟩
  ·exact⟨m,by simp,.inr e⟩
 ·intro z9;obtain⟨m',h,e⟩ := z9;rcases EW.mp h with h|h
  ·exact .inl (.inl ⟨m',h,e⟩)
  ·rw[D8] at h;subst h;exact e.elim (λ e=>.inl (.inr e)) .inr
theorem MJ(N:List BN):(CM N).length<=2*N.length:=MO (λ N=>(CM N).length<=2*N.length) (by simp[CM]) (λ N m ih=>by
 rw[jU,G2,R6];have h1:=WD (CM N) m.1;have h2:=WD (ED (CM N) m.1) m.2.1;omega) N
theorem WM(h:CM N=[]):N=[]:=by
 cases N with
 |nil=>rfl
 |cons m N =>
  have:m.1∈CM (m::N):=IX.mpr ⟨m,by simp,.inl rfl⟩;rw[h] at this;cases this
inductive spOrder8(vs:List V)(H:Hp)(Q:VK)(z3q:XK):Prop
 |mk (pr:Addr) (N:List BN):vs=[.ref pr]->NA H pr N->N.length<=100->(∀(l:Addr)(H':Hp),Same H H'->H' l=some (.lst ((CM N).map V.int))->H l=none->Q (.ref l) H')->spOrder8 vs H Q z3q
inductive spMom8(vs:List V)(H:Hp)(Q:VK)(z3q:XK):Prop
 |mk (cell day:Int):vs=[.int cell,.int day]->1<=day->day<=1000000000000000->(∀t:Int,(Part.moment t).ok 0->Q (.int t) H)->spMom8 vs H Q z3q
theorem QD(F:Fun K "_law_order" "_law_order" c7 f fd):FnOk P w K mg base B5 (n+1) f fd ["roads"] spOrder8:=by
 refine F.okQ BZ ?_ ?_;walk_at "o";obtain⟨pr,N,rfl,hN,lN,q⟩:=h;refine⟨_,(A9 (AC (i:=1) BZ.nd U (AH U) (D0 A5)) (A9 (DJ PassesOwn.never U (DN (qv 0)) (G8 U (BI (AV (i:=2) BZ.nd U (AH U)) (BI (AV (i:=3) BZ.nd U (AH U)) (BI (AV (i:=4) BZ.nd U (AH U)) FX)))) (AA (DJ PassesOwn.never U (DN (D0 (A4 (qv 2) (A4 (qv 3) A5)))) (AV (i:=5) BZ.nd U (AH U)) (AA (AE (AX iK (qv 5) (qv 1) U) (AA (CF (DG (qv 1) (A4 (qv 5) A5)))) AY))))) (AA (AF (qv 1))))),?_⟩;walk_at "d";refine⟨II,λ po hpo=>?_⟩;have fpo:=hpo;generalize hgH1:AD _ po _=H1;revert H1;refine BE hpo λ H1 s1 e1=>?_
 obtain⟨ws,hw1,hw2,hw3⟩:=hN.la.lst;rw[BY] at hw2;refine⟨_,U,pr,U,⟨_,SqL.of (s1 _ _ hw1)⟩,GI (K:=K) (a:=pr) (xs:=ws)
  (λ i σ H'=>Same H H'/\(∃v2 v3 v4 v5:Option V,σ=[some (.ref pr),some (.ref po),v2,v3,v4,v5])/\H' po=some (.lst ((CM (N.take i)).map V.int)))
  ⟨s1,⟨_,_,_,_,rfl⟩,e1⟩ (λ i σ H' _ h=>SqL.of (h.1 _ _ hw1)) ?_ ?_⟩
 ·intro i y σ H' hi z9;obtain⟨s2,⟨v2,v3,v4,v5,rfl⟩,e2⟩ := z9;obtain⟨r,x,rfl,ex,er⟩:=hw3 i y hi;have hi2:i<N.length:=by
   have:=(CP.mp hi).1;omega
  have em:=BK hi2;rw[EH,em] at ex;cases ex;rw[TV em];generalize hm:N[i]=m at *;have lo:=MJ (N.take i);rw[GV] at lo;generalize CM (N.take i)=os at *;refine⟨r,_,U,SqT.of (s2 _ _ er),U,_,_,U,_,_,U,_,_,U,U,?_⟩;refine⟨_,U,_,U,iI,λ p3 hp3=>?_⟩;have n3:po≠p3:=λ z=>by rw[<- z,e2] at hp3;cases hp3
  generalize hgH3:AD _ p3 _=H3;revert H3;refine BE hp3 λ H3 s3 e3=>?_
  have f3:H p3=none:=s2.free hp3;refine⟨p3,U,⟨_,SqL.of e3⟩,GI (K:=K) (a:=p3) (xs:=[.int m.1,.int m.2.1])
   (λ j σ H4=>Same H H4/\(∃v5:Option V,σ=[some (.ref pr),some (.ref po),some (.int m.1),some (.int m.2.1),some (.ref m.2.2.1),v5])/\H4 p3=some (.lst [.int m.1,.int m.2.1])/\H4 po=some (.lst ((([m.1,m.2.1].take j).foldl ED os).map V.int)))
   ⟨s2.trans s3,⟨_,rfl⟩,e3,s3 _ _ e2⟩ (λ j σ H4 _ h=>SqL.of h.2.2.1) ?_ ?_⟩
  ·intro j z σ H4 hj z9;obtain⟨s4,⟨v5,rfl⟩,e4,o4⟩ := z9;have jl:j<2:=(CP.mp hj).1;obtain⟨u,rfl,eu⟩:∃u:Int,z=.int u/\[m.1,m.2.1].take (j+1)=[m.1,m.2.1].take j++[u]:=by
    rcases(by omega:j=0\/j=1) with rfl|rfl
    ·cases hj;exact⟨_,U,U⟩
    ·cases hj;exact⟨_,U,U⟩
   rw[eu,kH];have l4:(([m.1,m.2.1].take j).foldl ED os).length<=os.length+2:=by
    have h1:=WD os m.1;have h2:=WD (ED os m.1) m.2.1;rcases(by omega:j=0\/j=1) with rfl|rfl
    ·show os.length<=_;omega
    ·show(ED os m.1).length<=_;omega
   generalize ([m.1,m.2.1].take j).foldl ED os=o2 at *;refine⟨_,U,_,U,po,_,U,.inl (SqL.of o4),U,ND _,_,U,?_⟩;rw[YS];have ea:[u].foldl ED o2=ED o2 u:=rfl;rw[ea]
   by_cases k:u∈o2
   ·rw[CB k];refine CU (by decide) ⟨s4,⟨_,rfl⟩,e4,?_⟩;rw[show ED o2 u=o2 from if_pos k];exact o4
   ·rw[decide_eq_false k];refine D2 (by decide) ⟨_,rfl,.inl ⟨rfl,_,SqL.of o4⟩,_,rfl,po,_,_,rfl,rfl,o4,BW (by rw[BY];omega),C4 fpo s4,⟨_,rfl⟩,by rw[AJ n3.symm];exact e4,?_⟩;rw[AI,show ED o2 u=o2++[u] from if_neg k,HA];rfl
  ·intro σ H4 z9;obtain⟨s4,⟨v5,rfl⟩,e4,o4⟩ := z9;exact⟨s4,⟨_,_,_,_,U⟩,o4⟩
 ·intro σ H' z9;obtain⟨s2,⟨v2,v3,v4,v5,rfl⟩,e2⟩ := z9;rw[hw2,JH] at e2;exact⟨_,U,q po H' s2 e2 fpo⟩
theorem XY(F:Fun K "_law_moment" "_law_moment" WI f fd):FnOk P w K mg base B5 (n+1) f fd ["cell","day"] spMom8:=by
 refine F.okQ sL ?_ ?_;walk_at "o";obtain⟨c,day,rfl,d1,d2,q⟩:=h;refine⟨_,(A9 (AE (AX CS (A7 BR (qv 0) A6) A6 (AS _)) (AA (AF (A7 B7 (A7 D5 (A7 BR (A7 E8 (qv 0) A6) (A7 D5 (A7 OF A6 (A7 L9 A6 A6)) A6)) (A7 L9 A6 A6)) A6))) AY) (AA (AF (A7 D5 (A7 BR (A7 E8 (qv 0) A6) (A7 OF A6 (qv 1))) (qv 1))))),?_⟩;walk_at "d";have p30:(10:Int) ^ (30:Int).toNat=1000000000000000000000000000000:=by decide
 have b1:=EG (c/2) (show(0:Int)<2*10 ^ (30:Int).toNat-1 by decide);have b2:=EG (c/2) (show(0:Int)<3*day by omega);refine⟨_,U,_,_,U,U,(by show(0:Int)<2;decide),U,_,U,AZ (λ _=>?_) (λ _=>?_)⟩
 ·rw[p30] at b1;refine⟨_,U,_,_,U,U,⟨by decide,by decide⟩,_,_,U,U,⟨by decide,by decide,by decide⟩,_,_,U,U,.inl ⟨by decide,by decide⟩,_,_,U,U,_,_,U,U,(by show(0:Int)<2*10 ^ (30:Int).toNat-1;decide),_,_,U,U,⟨by decide,by decide,by decide⟩,_,_,U,U,_,_,U,U,?_⟩;dsimp only;rw[p30];exact q _ ⟨⋯,⋯⟩
 ·exact⟨_,U,_,_,U,U,⟨by decide,by decide⟩,_,U,_,_,U,U,.inl ⟨by decide,by decide⟩,_,_,U,U,(by show 0<3*day;omega),_,U,_,_,U,U,q _ ⟨⋯,⋯⟩⟩
end
structure FL(H:Hp)(p:Addr)(Os:List (List (Option Int))):Prop where
 ex:∃qs:List Addr,H p=some (.lst (qs.map V.ref))/\qs.length=Os.length/\p∉qs/\∀(i:Nat) q o,qs[i]?=some q->Os[i]?=some o->OL H q o
theorem FL.same(h:FL H p Os)(s:SameU H H'):FL H' p Os:=by
 obtain⟨qs,e1,e2,e3,e4⟩:=h.ex;exact⟨qs,s.lst e1,e2,e3,λ i q o a b=>s.lst (e4 i q o a b)⟩
theorem FL.at{i:Int}(h:FL H p Os)(h0:0<=i)(h1:i<(Os.length:Int)):∃(xs:List V)(q:Addr) (o:List (Option Int)),H p=some (.lst xs)/\DK xs i=some (.ref q)/\Os[i.toNat]?=some o/\OL H q o:=by
 obtain⟨qs,e1,e2,e3,e4⟩:=h.ex;have hq:qs[i.toNat]?=some (qs[i.toNat]'⋯):=BK ⋯;have ho:Os[i.toNat]?=some (Os[i.toNat]'⋯):=BK ⋯;refine⟨_,_,_,e1,?_,ho,e4 _ _ _ hq ho⟩;have:=F6 (xs:=qs.map V.ref) (j:=i.toNat) (v:=.ref (qs[i.toNat]'⋯)) (by rw[EH,hq];rfl);rw[show((i.toNat:Nat):Int)=i by omega] at this;exact this
inductive spRounds8(vs:List V)(H:Hp)(Q:VK)(z3q:XK):Prop
 |mk (d:Int) (n:Nat) (pr:Addr) (N:List BN) (p t:Int):vs=[.int d,.int n,.ref pr,.int p,.int t]->NA H pr N->NetOk d n N->0<d->1<=n->n<=4->0<=p->(p<(n:Int))->(∀(l:Addr) (Os:List (List (Option Int))) (H':Hp),Same H H'->FL H' l Os->Os.length=n->(∀(j:Nat) o,Os[j]?=some o->o.length=n/\∀q:Int,0<=q->q<(n:Int)->Mn (Jo d N j p t q) (o.getD q.toNat none))->Q (.ref l) H')->spRounds8 vs H Q z3q
theorem PB(n:Nat):GL n V.non=(GL n (none:Option Int)).map B9:=by
 rw[List.map_replicate];rfl
section
variable {f:Addr}
theorem yZ(F:Fun K "_law_rounds" "_law_rounds" XB f fd)(B:Bl mg)(Cn2:Callee P w K mg base n "_law_coming" ["day","board","t"] spComing):FnOk P w K mg base B5 (n+1) f fd ["day","size","roads","start","t"] spRounds8:=by
 refine F.okQ B0 ?_ ?_;walk_at "o";obtain⟨d,N,pr,Ns,p,t,rfl,hN,nok,hd,N1,N4,p0,p1,q⟩:=h;refine⟨_,(A9 (Y7 (i:=5) ["k"] [none] B0.nd U (AH U) (BlkOk.of U U (SubL.to EX) U) U (HZ U B.range (A4 (qv 1) A5)) (λ _ _ _ _=>(AV (i:=0) (show(["k"]:List Str).Nodup by decide) U (AH U))) (λ _ _ _ _=>DE)) (A9 (QR (qv 4) (OH (qv 5) (qv 3) PD)) (A9 (AC (i:=6) B0.nd U (AH U) (D0 (A4 (qv 5) A5))) (A9 (DJ PassesOwn.never U (HZ U B.range (A4 (A7 D5 (qv 1) A6) A5)) (AV (i:=7) B0.nd U (AH U)) (A9 (AC (i:=8) B0.nd U (AH U) (DA bL U B.list_ NU (A4 (qv 5) A5))) (A9 (DJ PassesOwn.never U (DN (qv 2)) (G8 U (BI (AV (i:=9) B0.nd U (AH U)) (BI (AV (i:=10) B0.nd U (AH U)) (BI (AV (i:=11) B0.nd U (AH U)) FX)))) (AA (AE (NG (A8 AM (qv 5) (qv 9) Y9)) (A9 (AC (i:=12) B0.nd U (AH U) (AB Cn2 hr U (A4 (qv 0) (A4 (qv 11) (A4 (A8 AM (qv 5) (qv 9) Y9) A5))))) (AA (AE (FM (QW.pt (I0 (NG (qv 12)) (J6 (QW.pt (CO (EN (A8 AM (qv 8) (qv 10) Y9)) (FC (AX F7 (qv 12) (A8 AM (qv 8) (qv 10) Y9) (AS _))))))))) (AA (QR (qv 12) (OH (qv 8) (qv 10) PD))) AY))) AY))) (A9 (AC (i:=5) B0.nd U (AH U) (qv 8)) (AA (CF (DG (qv 6) (A4 (qv 5) A5)))))))) (AA (AF (qv 6))))))),?_⟩;walk_at "d";refine⟨_,U,(N:Int),U,⋯,⋯,?_⟩;refine bT (lo:=0) (n:=((N:Nat):Int).toNat) (λ D i H'=>Same H H'/\H' D=some (.lst (GL i V.non))) (λ D hD=>⟨BD hD _,AI⟩) ?_ ?_
 ·intro D i H' hD hi z9;obtain⟨sD,eD⟩ := z9;refine⟨λ k v e=>?_,?_⟩
  ·match k,e with
   |0,e=>cases e
   |k+1,e=>cases e
  refine⟨_,eD,BW (by simp;omega),C4 hD sD,?_⟩;rw[AI,kJ]
 intro ps H2 fps z9;obtain⟨s2,e2⟩ := z9;have nt:((N:Nat):Int).toNat=N:=⋯;rw[nt,PB] at e2;have ix:J7 ((GL N (none:Option Int)).map B9).length p=some p.toNat:=UZ p0 (by simp;omega);refine⟨_,U,_,U,_,U,ps,_,p,p.toNat,U,U,e2,ix,?_⟩;have s3:Same H (AD H2 ps (.lst (((GL N (none:Option Int)).map B9).set p.toNat (.int t)))):=C4 fps s2;have e3:OL (AD H2 ps (.lst (((GL N (none:Option Int)).map B9).set p.toNat (.int t)))) ps ((GL N none).set p.toNat (some t)):=by
  show AD H2 ps _ ps=_;rw[AI,<- JC];rfl
 generalize AD H2 ps (.lst (((GL N (none:Option Int)).map B9).set p.toNat (.int t)))=H3 at *;have mn0:∀q:Int,0<=q->q<(N:Int)->Mn (Jo d Ns 0 p t q) (((GL N none).set p.toNat (some t)).getD q.toNat none):=λ q q0 q1=>by
  rw[KP (by simp;omega)]
  by_cases e:p.toNat=q.toNat
  ·rw[if_pos e];exact Mn.one ⟨⋯,rfl⟩ λ z s=>Ar s.2
  ·rw[if_neg e,IP,sG];split
   ·exact Mn.none λ z s=>e (by rw[s.1])
   ·exact Mn.none λ z s=>e (by rw[s.1])
 have l0:((GL N (none:Option Int)).set p.toNat (some t)).length=N:=by simp
 generalize (GL N (none:Option Int)).set p.toNat (some t)=os0 at *;refine⟨_,U,kG,λ pf hpf=>?_⟩;have npf:pf≠ps:=λ z=>by rw[z,e3] at hpf;cases hpf
 have fpf:=s3.free hpf;generalize hgH5:AD _ pf _=H5;revert H5;refine BE hpf λ H5 s5 e5=>?_
 have e5:H5 pf=some (.lst ([ps].map V.ref)):=e5;have e3:OL H5 ps os0:=s5 _ _ e3;have S5:=s3.trans s5;obtain⟨ws,hw1,hw2,hw3⟩:=hN.la.lst;rw[BY] at hw2;refine⟨_,U,_,_,U,U,(N:Int)-1,U,⋯,⋯,NN (lo:=0) (n:=((N:Int)-1).toNat)
  (λ k σ H'=>∃(pb:Addr) (os:List (Option Int)) (Os:List (List (Option Int))) (qs:List Addr) (v7 v8 v9 v10 v11 v12:Option V),σ=[some (.int d),some (.int N),some (.ref pr),some (.int p),some (.int t),some (.ref pb),some (.ref pf),v7,v8,v9,v10,v11,v12]/\Same H H'/\OL H' pb os/\os.length=N/\(∀q:Int,0<=q->q<(N:Int)->Mn (Jo d Ns k p t q) (os.getD q.toNat none)) /\
   H' pf=some (.lst (qs.map V.ref))/\qs.length=Os.length/\pf∉qs/\(∀(i:Nat) q o,qs[i]?=some q->Os[i]?=some o->OL H' q o)/\Os.length=k+1/\∀(j:Nat) o,Os[j]?=some o->o.length=N/\∀q:Int,0<=q->q<(N:Int)->Mn (Jo d Ns j p t q) (o.getD q.toNat none))
  ⟨ps,os0,[os0],[ps],_,_,_,_,_,_,rfl,S5,e3,l0,mn0,e5,rfl,by simpa using npf,(λ i q o a b=>by
   match i,a,b with
   |0,a,b =>
    cases a;cases b;exact e3
   |i+1,a,b=>simp at a),rfl,λ j o h=>by
   match j,h with
   |0,h =>
    cases h;exact⟨l0,mn0⟩
   |j+1,h=>simp at h⟩ ?_ ?_⟩
 ·intro k σ H6 hk z9;obtain⟨pb,os,Os,qs,v7,v8,v9,v10,v11,v12,rfl,s6,e6,l6,m6,f6,fl6,n1,fq6,lO6,fO6⟩ := z9;refine⟨_,U,pb,_,U,.inl (SqL.of e6),λ pa hpa=>?_⟩;have npa:pa≠pb:=λ z=>by rw[z,e6] at hpa;cases hpa
  have npfa:pf≠pa:=λ z=>by rw[<- z,f6] at hpa;cases hpa
  have s7:=BD hpa (.lst (os.map B9));have e7:OL (AD H6 pa (.lst (os.map B9))) pa os:=AI;generalize AD H6 pa (.lst (os.map B9))=H7 at *;have hw6:=s6 _ _ hw1;refine⟨_,U,pr,U,⟨_,SqL.of (s7 _ _ hw6)⟩,GI (K:=K) (a:=pr) (xs:=ws)
   (λ i σ H'=>∃(os':List (Option Int)) (v9 v10 v11 v12:Option V),σ=[some (.int d),some (.int N),some (.ref pr),some (.int p),some (.int t),some (.ref pb),some (.ref pf),some (.int (0+(k:Nat))),some (.ref pa),v9,v10,v11,v12]/\Same H6 H'/\OL H' pa os'/\os'.length=N/\∀q:Int,0<=q->q<(N:Int)->Mn (FS d Ns k p t i q) (os'.getD q.toNat none))
   ⟨os,_,_,_,_,rfl,s7,e7,l6,λ q q0 q1=>(m6 q q0 q1).congr λ y=>⟨.inl,λ s=>s.elim id λ⟨m,hm,_⟩=>by cases hm⟩⟩ (λ i σ H' _ z9=>by obtain⟨_,_,_,_,_,_,s,_⟩ := z9;exact SqL.of (s _ _ hw6)) ?_ ?_⟩
  ·intro i y σ H8 hi z9;obtain⟨os',v9',v10',v11',v12',rfl,s8,e8,l8,m8⟩ := z9;obtain⟨r,x,rfl,ex,er⟩:=hw3 i y hi;have hi2:i<Ns.length:=by
    have:=(CP.mp hi).1;omega
   have em:=BK hi2;rw[EH,em] at ex;cases ex;have hm:=KR hi2;generalize Ns[i]=g at *;obtain⟨⟨a0,a1⟩,⟨b0,b1⟩,lb,wb⟩:=nok.all g hm;have keep:=s6.trans s8;have hb:LA AQ H8 g.2.2.1 g.2.2.2:=(hN.bd g hm).1.same keep;refine⟨r,_,U,SqT.of (keep _ _ er),U,_,_,U,_,_,U,_,_,U,U,?_⟩;have ea:OL H8 pb os:=s8 _ _ e6;have at1:=GO (os:=os) a0 ⋯;have st:=λ q q0 q1=>vX hd (i:=i) (q:=q) em (nok.wins hm) (m6 g.1 a0 a1) (m8 q q0 q1)
   cases ho:os.getD g.1.toNat none with
   |none =>
    rw[ho] at at1 st;refine⟨_,U,_,U,pb,_,_,_,U,U,SqL.of ea,at1,_,U,CU (by simp[B9]) ?_⟩;refine⟨os',_,_,_,_,U,s8,e8,l8,λ q q0 q1=>?_⟩;have:=st q q0 q1;have e:(if g.2.1=q then Ma.omin (os'.getD q.toNat none) ((none:Option Int).bind (Ma.bt d g.2.2.2)) else os'.getD q.toNat none)=os'.getD q.toNat none:=by
     split
     ·cases os'.getD q.toNat none<;>rfl
     ·rfl
    rw[e] at this;exact this
   |some z =>
    rw[ho] at at1 st;refine⟨_,U,_,U,pb,_,_,_,U,U,SqL.of ea,at1,_,U,D2 (by simp[B9]) ?_⟩;refine⟨_,U,_,U,_,U,_,U,pb,_,_,_,U,U,SqL.of ea,at1,d,g.2.2.1,z,_,U,hb,⋯,hd,λ w hw=>⟨(wb w hw).1,(wb w hw).2.1,(wb w hw).2.2.1⟩,λ H9 s9=>?_⟩;have st:∀q,0<=q->q<(N:Int)->Mn (FS d Ns k p t (i+1) q) (if g.2.1=q then Ma.omin (os'.getD q.toNat none) (Ma.bt d g.2.2.2 z) else os'.getD q.toNat none):=st;generalize Ma.bt d g.2.2.2 z=oy at st ⊢;have at2:=GO (os:=os') b0 ⋯;have e9:OL H9 pa os':=s9 _ _ e8;have S9:=s8.trans s9;generalize hcur:os'.getD g.2.1.toNat none=cur at at2;refine⟨λ b H'=>H'=H9/\(b=true->B9 oy=B9 (Ma.omin cur oy))/\(b=false->Ma.omin cur oy=cur),?_,?_⟩
    ·cases oy with
     |none =>
      refine⟨_,rfl,_,rfl,CU (by simp[B9]) ⟨rfl,λ z=>(nomatch z),λ _=>?_⟩⟩;cases cur<;>rfl
     |some y =>
      refine⟨_,U,_,U,D2 (by simp[B9]) ?_⟩;cases cur with
      |none=>exact⟨_,rfl,_,rfl,pa,_,_,_,rfl,rfl,SqL.of e9,at2,_,rfl,D2 (by simp[B9]) ⟨rfl,λ _=>rfl,λ z=>(nomatch z)⟩⟩
      |some b =>
       refine⟨_,U,_,U,pa,_,_,_,U,U,SqL.of e9,at2,_,U,CU (by simp[B9]) ?_⟩;refine⟨_,U,_,U,_,U,pa,_,_,_,U,U,SqL.of e9,at2,_,_,U,U,_,U,U,λ z=>?_,λ z=>?_⟩
       ·have z':y<b:=D6 z;show V.int y=V.int (if y<b then y else b);rw[if_pos z']
       ·have z':¬y<b:=of_decide_eq_false z;show some (if y<b then y else b)=some b;rw[if_neg z']
    intro b H10 z9;obtain⟨rfl,hb1,hb2⟩ := z9;refine AZ (λ c=>?_) (λ c=>?_)
    ·have ix2:J7 (os'.map B9).length g.2.1=some g.2.1.toNat:=UZ b0 (by simp;omega);refine⟨_,U,_,U,_,U,pa,_,g.2.1,g.2.1.toNat,U,U,e9,ix2,os'.set g.2.1.toNat (Ma.omin cur oy),_,_,_,_,U,C4 hpa S9,?_,by simp[l8],λ q q0 q1=>?_⟩
     ·show AD H10 pa _ pa=_;rw[AI,<- JC,hb1 c]
     ·have:=st q q0 q1;rw[KP ⋯]
      by_cases e:g.2.1=q
      ·subst e;rw[if_pos rfl,hcur] at this;rw[if_pos rfl];exact this
      ·rw[if_neg e] at this;rw[if_neg ⋯];exact this
    ·refine⟨os',_,_,_,_,U,S9,e9,l8,λ q q0 q1=>?_⟩;have:=st q q0 q1
     by_cases e:g.2.1=q
     ·subst e;rw[if_pos rfl,hcur,hb2 (by simpa using c)] at this;rw[hcur];exact this
     ·rw[if_neg e] at this;exact this
  ·intro σ H8 z9;obtain⟨os',v9',v10',v11',v12',rfl,s8,e8,l8,m8⟩ := z9;rw[hw2] at m8;have m9:∀q:Int,0<=q->q<(N:Int)->Mn (Jo d Ns (k+1) p t q) (os'.getD q.toNat none):=λ q q0 q1=>(m8 q q0 q1).congr λ y=>by
    unfold FS;rw[JH];exact Jo.last_iff.symm
   have f8:=s8 _ _ f6;refine⟨_,U,_,U,.inl ⟨U,_,SqL.of f8⟩,_,U,pf,_,.ref pa,U,U,f8,BW (by simp;omega),pa,os',Os++[os'],qs++[pa],_,_,_,_,_,_,U,C4 fpf (s6.trans s8),?_,l8,m9,by rw[AI];simp,by simp[fl6],?_,λ i q o a b=>?_,by simp[lO6],λ j o h=>?_⟩
   ·show AD H8 pf _ pa=_;rw[AJ npfa.symm];exact e8
   ·intro z;rcases EW.mp z with z|z
    ·exact n1 z
    ·exact npfa (D8.mp z)
   ·show AD H8 pf _ q=_;rcases P3 i qs.length with c|c
    ·rw[GF c] at a;rw[GF ⋯] at b;have mq:=DL a;rw[AJ (λ z=>n1 (by rw[<- z];exact mq))];exact s8 _ _ (fq6 i q o a b)
    ·have:=(CP.mp a).1;simp at this;have ei:i=qs.length:=⋯;subst ei;rw[GM (BU _),gC] at a;rw[GM ⋯,show qs.length-Os.length=0 by omega] at b;cases a;cases b;rw[AJ npfa.symm];exact e8
   ·rcases P3 j Os.length with c|c
    ·rw[GF c] at h;exact fO6 j o h
    ·have:=(CP.mp h).1;simp at this;have ej:j=k+1:=⋯;subst ej;rw[GM ⋯,show k+1-Os.length=0 by omega] at h;cases h;exact⟨l8,m9⟩
 ·intro σ H6 z9;obtain⟨pb,os,Os,qs,v7,v8,v9,v10,v11,v12,rfl,s6,e6,l6,m6,f6,fl6,n1,fq6,lO6,fO6⟩ := z9;exact⟨_,U,q pf Os H6 s6 ⟨qs,f6,fl6,n1,fq6⟩ ⋯ fO6⟩
end
theorem Jo.earlyW{d:Int}(hd:0<d){F:List BN}(W:∀m∈F,Ma.Wins d m.2.2.2):∀{k:Nat}{p t t' q y:Int},Jo d F k p t q y->t'<=t->∃y',y'<=y/\Jo d F k p t' q y'
 |0,p,t,t',q,y,⟨a,b⟩,l=>⟨t',⋯,a,rfl⟩
 |k+1,p,t,t',q,y,j,l=>by
  rcases j with j|⟨m,hm,e,z,hz,j⟩
  ·obtain⟨y',ly,j'⟩:=j.earlyW hd W l;exact⟨y',ly,.inl j'⟩
  ·obtain⟨z',hz',lz⟩:=LJ hd (W m hm) hz l;obtain⟨y',ly,j'⟩:=j.earlyW hd W lz;exact⟨y',ly,.inr ⟨m,hm,e,z',hz',j'⟩⟩
def LateJ(d:Int)(F:List BN)(p q s:Int)(o:Option Int):Prop:=(∀x,o=some x->(∃k y,Jo d F k p x q y/\y<=s)/\∀x' k y,Jo d F k p x' q y->y<=s->x'<=x)/\(o=none->∀k x y,¬Jo d F k p x q y)
theorem LateJ.ren{ns:List Str}(h:Ren names ns N M){p:Int}(op:DQ N p)(oq:DQ N q)(a:LateJ d M (h.f p) (h.f q) s o):LateJ d N p q s o:=⟨λ x e=>by
  obtain⟨⟨k,y,j,l⟩,m⟩:=a.1 x e;exact⟨⟨k,y,h.oj op oq j,l⟩,λ x' k y j l=>m x' k y (h.jo j) l⟩,λ e k x y j=>a.2 e k x y (h.jo j)⟩
theorem SE{a:Int}(hd:0<d)(a0:0<=a)(ab:a<=b)(bd:b<d):Ma.lastO d a b t=if a<=t%d/\t%d<=b then t else t-(t-b)%d:=by
 have m0:=UH t (by omega:d≠0);have m1:=UV t hd;have md:=wK t d;have key:(t-b)%d=(t%d-b)%d:=by
  have:t-b=(t%d-b)+d*(t/d):=⋯;rw[this,sE]
 rw[Ma.lastO_eq d a b t ab,key]
 by_cases c1:t%d<a
 ·rw[if_pos c1,if_neg ⋯];have:(t%d-b)%d=t%d-b+d:=by
   rw[<- t9,rS ⋯ ⋯]
  rw[this];omega
 ·rw[if_neg c1]
  by_cases c2:b<t%d
  ·have:(t%d-b)%d=t%d-b:=rS ⋯ ⋯;rw[if_pos c2,if_neg ⋯,this];omega
  ·rw[if_neg c2,if_pos ⋯]
def cW(d s:Int)(w:T3):Int:=Ma.lastO d w.1 w.2.1 (s-w.2.2)
inductive spLeav8(vs:List V)(H:Hp)(Q:VK)(z3q:XK):Prop
 |mk (d:Int) (pb:Addr) (s:Int) (R:List T3):vs=[.int d,.ref pb,.int s]->LA AQ H pb R->R.length<=1000->0<d->((∀w∈R,0<=w.1/\w.1<=w.2.1/\w.2.1<d))->(∀(o:Option Int)(H':Hp),Same H H'->(o=none->R=[])->(∀y,o=some y->Ma.IsLv d R s y)->Q (B9 o) H')->spLeav8 vs H Q z3q
section
variable {f:Addr}
theorem S6(F:Fun K "_law_leaving" "_law_leaving" WU f fd)(B:Bl mg):FnOk P w K mg base B5 (n+1) f fd ["day","board","s"] spLeav8:=by
 refine F.okQ BJ ?_ ?_;walk_at "o";obtain⟨d,pb,t,R,rfl,hb,lR,hd,hw,q⟩:=h;refine⟨_,(A9 (AC (i:=3) BJ.nd U (AH U) (D0 A5)) (A9 (DJ PassesOwn.never U (DN (qv 1)) (G8 U (BI (AV (i:=4) BJ.nd U (AH U)) (BI (AV (i:=5) BJ.nd U (AH U)) (BI (AV (i:=6) BJ.nd U (AH U)) FX)))) (A9 (AC (i:=7) BJ.nd U (AH U) (A7 D5 (qv 2) (qv 6))) (AA (AE (QJ EA EA (qv 4) (A7 BR (qv 7) (qv 0)) (qv 5)) (AA (CF (DG (qv 3) (A4 (qv 7) A5)))) (AA (CF (DG (qv 3) (A4 (A7 D5 (qv 7) (A7 BR (A7 D5 (qv 7) (qv 5)) (qv 0))) A5)))))))) (AA (AF (cV U U B.max (A4 (qv 3) A5) DE))))),?_⟩;walk_at "d";refine⟨II,λ pf hpf=>?_⟩;have s0:=BD hpf (.lst []);obtain⟨bs,b1,b2,b3⟩:=hb.lst;refine⟨_,U,pb,U,⟨_,SqL.of (s0 _ _ b1)⟩,GI (K:=K) (a:=pb) (xs:=bs)
  (λ i σ H'=>∃v4 v5 v6 v7:Option V,σ=[some (.int d),some (.ref pb),some (.int t),some (.ref pf),v4,v5,v6,v7]/\Same H H'/\H' pf=some (.lst (((R.take i).map (cW d t)).map V.int)))
  ⟨_,_,_,_,rfl,s0,AI⟩ (λ i σ H' _ z9=>by obtain⟨_,_,_,_,_,s,_⟩ := z9;exact SqL.of (s _ _ b1)) ?_ ?_⟩
 ·intro i y σ H1 hi z9;obtain⟨v4,v5,v6,v7,rfl,s1,e1⟩ := z9;obtain⟨r,x,rfl,ex,er⟩:=b3 i y hi;have hi2:=(CP.mp ex).1;obtain⟨x0,x1,x2⟩:=hw x (DL ex);have nx:=SE (t:=t-x.2.2) hd x0 x1 x2;refine⟨r,_,U,SqT.of (s1 _ _ er),U,_,_,U,_,_,U,_,_,U,U,?_⟩;refine⟨_,U,_,U,_,_,U,U,?_⟩;have line:(((R.take i).map (cW d t)).map V.int).length<sizeLine:=by
   simp only[BY,GV];exact BW ⋯
  have inv:∀v:Int,v=cW d t x->∃v4 v5 v6 v7:Option V,([some (.int d),some (.ref pb),some (.int t),some (.ref pf),some (.int x.1),some (.int x.2.1),some (.int x.2.2),some (.int (t-x.2.2))]:L2.St)=[some (.int d),some (.ref pb),some (.int t),some (.ref pf),v4,v5,v6,v7]/\Same H (AD H1 pf (.lst (((R.take i).map (cW d t)).map V.int++[.int v])))/\AD H1 pf (.lst (((R.take i).map (cW d t)).map V.int++[.int v])) pf=some (.lst (((R.take (i+1)).map (cW d t)).map V.int)):=λ v ev=>by
   refine⟨_,_,_,_,U,C4 hpf s1,?_⟩;rw[AI,HC ex,HA,HA,ev];rfl
  have late:¬(x.1<=(t-x.2.2)%d/\(t-x.2.2)%d<=x.2.1)->_:=λ c=>inv (t-x.2.2-(t-x.2.2-x.2.1)%d) (by unfold cW;rw[nx,if_neg c])
  refine⟨_,U,_,U,_,U,_,_,U,U,hd,_,_,U,U,_,U,AZ (λ c1=>?_) (λ c1=>?_)⟩
  ·have c1':x.1<=(t-x.2.2)%d:=D6 c1;refine⟨_,U,_,_,U,U,_,U,AZ (λ c2=>?_) (λ c2=>?_)⟩
   ·have c2':(t-x.2.2)%d<=x.2.1:=D6 c2;exact⟨_,U,.inl ⟨U,_,SqL.of e1⟩,_,U,pf,_,_,U,U,e1,line,inv _ (by unfold cW;rw[nx,if_pos ⟨c1',c2'⟩])⟩
   ·exact⟨_,U,.inl ⟨U,_,SqL.of e1⟩,_,U,_,U,_,U,_,_,U,U,_,U,_,_,U,U,hd,_,_,U,U,pf,_,_,U,U,e1,line,late λ z=>c2 (CB z.2)⟩
  ·refine⟨_,U,BB ?_⟩;exact⟨_,U,.inl ⟨U,_,SqL.of e1⟩,_,U,_,U,_,U,_,_,U,U,_,U,_,_,U,U,hd,_,_,U,U,pf,_,_,U,U,e1,line,late λ z=>c1 (CB z.1)⟩
 intro σ H1 z9;obtain⟨v4,v5,v6,v7,rfl,s1,e1⟩ := z9;rw[b2,JH] at e1;refine⟨_,U,pf,U,_,SqL.of e1,λ e=>?_,λ ne m hm le=>?_⟩
 ·have:R=[]:=by simpa using e
  exact q none H1 s1 (λ _=>this) λ y e=>(nomatch e)
 ·obtain⟨w,hw',rfl⟩:=DT.mp hm;refine q (some _) H1 s1 (λ e=>(nomatch e)) λ y e=>?_
  cases e;exact⟨⟨w,hw',U⟩,λ u hu=>le _ (DT.mpr ⟨u,hu,U⟩)⟩
structure Lat(d:Int)(N:List BN)(n k:Nat)(g s:Int)(os:List (Option Int)):Prop where
 len:os.length=n
 snd:∀q:Int,0<=q->q<(n:Int)->∀x,os.getD q.toNat none=some x->∃j y,Jo d N j q x g y/\y<=s
 cmp:∀q:Int,0<=q->q<(n:Int)->∀x y,Jo d N k q x g y->y<=s->∃z,x<=z/\os.getD q.toNat none=some z
structure LatI(d:Int)(N:List BN)(n k i:Nat)(g s:Int)(os:List (Option Int)):Prop where
 base:Lat d N n k g s os
 look:∀m∈N.take i,∀x z y,Ma.bt d m.2.2.2 x=some z->Jo d N k m.2.1 z g y->y<=s->∃u,x<=u/\os.getD m.1.toNat none=some u
theorem LatI.same{m0:BN}(h:LatI d N n k i g s os)(em:N[i]?=some m0)(hx:∀x z y,Ma.bt d m0.2.2.2 x=some z->Jo d N k m0.2.1 z g y->y<=s->∃u,x<=u/\os.getD m0.1.toNat none=some u):LatI d N n k (i+1) g s os:=⟨h.base,λ m hm=>by
 rw[HC em] at hm;rcases EW.mp hm with hm|hm
 ·exact h.look m hm
 ·rw[D8] at hm;subst hm;exact hx⟩
theorem LatI.put{x:Int}(h:LatI d N n k i g s os)(q0:0<=q)(q1:q<(n:Int))(hj:∃j y,Jo d N j q x g y/\y<=s)(hs:∀z,os.getD q.toNat none=some z->z<x):LatI d N n k i g s (os.set q.toNat (some x)):=by
 have lo:q.toNat<os.length:=by rw[h.base.len];omega
 have up:∀(r:Nat)(v:Int),(∃z,v<=z/\os.getD r none=some z)->∃z,v<=z/\(os.set q.toNat (some x)).getD r none=some z:=λ r v ⟨z,lz,hz⟩=>by
  rw[KP lo]
  by_cases e:q.toNat=r
  ·rw[if_pos e];rw[<- e] at hz;exact⟨x,by have:=hs z hz;omega,U⟩
  ·rw[if_neg e];exact⟨z,lz,hz⟩
 refine⟨⟨by rw[Ac];exact h.base.len,λ r r0 r1 v hv=>?_,λ r r0 r1 v y jv ly=>up _ _ (h.base.cmp r r0 r1 v y jv ly)⟩,λ m hm v z y bz jz ly=>up _ _ (h.look m hm v z y bz jz ly)⟩;rw[KP lo] at hv
 by_cases e:q.toNat=r.toNat
 ·rw[if_pos e] at hv;cases hv;have:q=r:=⋯;rw[<- this];exact hj
 ·rw[if_neg e] at hv;exact h.base.snd r r0 r1 v hv
inductive spLatest8(vs:List V)(H:Hp)(Q:VK)(z3q:XK):Prop
 |mk (d:Int) (n:Nat) (pr:Addr) (N:List BN) (p g s:Int):vs=[.int d,.int n,.ref pr,.int p,.int g,.int s]->NA H pr N->NetOk d n N->0<d->1<=n->n<=4->0<=p->(p<(n:Int))->0<=g->(g<(n:Int))->(∀(os:List (Option Int)) (H':Hp),Same H H'->Lat d N n (n-1) g s os->Q (B9 (os.getD p.toNat none)) H')->spLatest8 vs H Q z3q
theorem vO(F:Fun K "_law_latest" "_law_latest" W5 f fd)(B:Bl mg)(Ci2:Callee P w K mg base n "_law_leaving" ["day","board","s"] spLeav8):FnOk P w K mg base B5 (n+1) f fd ["day","size","roads","start","goal","s"] spLatest8:=by
 refine F.okQ BH ?_ ?_;walk_at "o";obtain⟨d,N,pr,Ns,p,g,t,rfl,hN,nok,hd,N1,N4,p0,p1,g0,g1,q⟩:=h;refine⟨_,(A9 (Y7 (i:=6) ["k"] [none] BH.nd U (AH U) (BlkOk.of U U (SubL.to EX) U) U (HZ U B.range (A4 (qv 1) A5)) (λ _ _ _ _=>(AV (i:=0) (show(["k"]:List Str).Nodup by decide) U (AH U))) (λ _ _ _ _=>DE)) (A9 (QR (qv 5) (OH (qv 6) (qv 4) PD)) (A9 (DJ PassesOwn.never U (HZ U B.range (A4 (A7 D5 (qv 1) A6) A5)) (AV (i:=7) BH.nd U (AH U)) (AA (DJ PassesOwn.never U (DN (qv 2)) (G8 U (BI (AV (i:=8) BH.nd U (AH U)) (BI (AV (i:=9) BH.nd U (AH U)) (BI (AV (i:=10) BH.nd U (AH U)) FX)))) (AA (AE (NG (A8 AM (qv 6) (qv 9) Y9)) (A9 (AC (i:=11) BH.nd U (AH U) (AB Ci2 hr U (A4 (qv 0) (A4 (qv 10) (A4 (A8 AM (qv 6) (qv 9) Y9) A5))))) (AA (AE (FM (QW.pt (I0 (NG (qv 11)) (J6 (QW.pt (CO (EN (A8 AM (qv 6) (qv 8) Y9)) (FC (AX JF (qv 11) (A8 AM (qv 6) (qv 8) Y9) (AS _))))))))) (AA (QR (qv 11) (OH (qv 6) (qv 8) PD))) AY))) AY))))) (AA (AF (A8 AM (qv 6) (qv 3) Y9)))))),?_⟩;walk_at "d";have W:∀m∈Ns,Ma.Wins d m.2.2.2:=λ m hm=>nok.wins hm
 refine⟨_,U,(N:Int),U,⋯,⋯,?_⟩;refine bT (lo:=0) (n:=((N:Nat):Int).toNat) (λ D i H'=>Same H H'/\OL H' D (GL i none)) (λ D hD=>⟨BD hD _,AI⟩) ?_ ?_
 ·intro D i H' hD hi z9;obtain⟨sD,hO⟩ := z9;refine⟨λ k v e=>?_,?_⟩
  ·match k,e with
   |0,e=>cases e
   |k+1,e=>cases e
  refine⟨_,hO,BW (by simp;omega),C4 hD sD,?_⟩;show AD H' D _ D=_;rw[AI,kJ,HA];rfl
 intro ps H1 fps z9;obtain⟨s1,e1⟩ := z9;rw[show((N:Nat):Int).toNat=N by omega] at e1;have ix:J7 ((GL N (none:Option Int)).map B9).length g=some g.toNat:=UZ g0 (by simp;omega);refine⟨_,U,_,U,_,U,ps,_,g,g.toNat,U,U,e1,ix,?_⟩;have s2:Same H (AD H1 ps (.lst (((GL N (none:Option Int)).map B9).set g.toNat (.int t)))):=C4 fps s1;have e2:OL (AD H1 ps (.lst (((GL N (none:Option Int)).map B9).set g.toNat (.int t)))) ps ((GL N none).set g.toNat (some t)):=by
  show AD H1 ps _ ps=_;rw[AI,<- JC];rfl
 generalize AD H1 ps (.lst (((GL N (none:Option Int)).map B9).set g.toNat (.int t)))=H2 at *;have a0:Lat d Ns N 0 g t ((GL N none).set g.toNat (some t)):=by
  refine⟨by simp,λ r r0 r1 v hv=>?_,λ r r0 r1 x y ⟨e,e'⟩ ly=>?_⟩
  ·rw[KP (by simp;omega)] at hv
   by_cases e:g.toNat=r.toNat
   ·rw[if_pos e] at hv;cases hv;exact⟨0,t,⟨⋯,U⟩,DY _⟩
   ·rw[if_neg e,IP,sG] at hv;split at hv<;>cases hv
  ·rw[KP (by simp;omega),if_pos (by rw[e])];exact⟨t,⋯,U⟩
 generalize (GL N (none:Option Int)).set g.toNat (some t)=os0 at *;obtain⟨ws,hw1,hw2,hw3⟩:=hN.la.lst;rw[BY] at hw2;refine⟨_,U,_,_,U,U,(N:Int)-1,U,⋯,⋯,NN (lo:=0) (n:=((N:Int)-1).toNat)
  (λ k σ H'=>∃(os:List (Option Int)) (v7 v8 v9 v10 v11:Option V),σ=[some (.int d),some (.int N),some (.ref pr),some (.int p),some (.int g),some (.int t),some (.ref ps),v7,v8,v9,v10,v11]/\Same H H'/\OL H' ps os/\Lat d Ns N k g t os)
  ⟨os0,_,_,_,_,_,rfl,s2,e2,a0⟩ ?_ ?_⟩
 ·intro k σ H3 hk z9;obtain⟨os,v7,v8,v9,v10,v11,rfl,s3,e3,a3⟩ := z9;refine⟨_,U,pr,U,⟨_,SqL.of (s3 _ _ hw1)⟩,GI (K:=K) (a:=pr) (xs:=ws)
   (λ i σ H'=>∃(os:List (Option Int)) (v8 v9 v10 v11:Option V),σ=[some (.int d),some (.int N),some (.ref pr),some (.int p),some (.int g),some (.int t),some (.ref ps),some (.int (0+(k:Nat))),v8,v9,v10,v11]/\Same H H'/\OL H' ps os/\LatI d Ns N k i g t os)
   ⟨os,_,_,_,_,rfl,s3,e3,a3,λ m hm=>by simp at hm⟩ (λ i σ H' _ z9=>by obtain⟨_,_,_,_,_,_,s,_⟩ := z9;exact SqL.of (s _ _ hw1)) ?_ ?_⟩
  ·intro i y σ H4 hi z9;obtain⟨os,v8,v9,v10,v11,rfl,s4,e4,a4⟩ := z9;obtain⟨r,x,rfl,ex,er⟩:=hw3 i y hi;have hi2:i<Ns.length:=by
    have:=(CP.mp hi).1;omega
   have em:=BK hi2;rw[EH,em] at ex;cases ex;have hm:=KR hi2;generalize Ns[i]=m at *;obtain⟨⟨a0',a1'⟩,⟨b0,b1⟩,lg,wg⟩:=nok.all m hm;have hb:LA AQ H4 m.2.2.1 m.2.2.2:=(hN.bd m hm).1.same s4;refine⟨r,_,U,SqT.of (s4 _ _ er),U,_,_,U,_,_,U,_,_,U,U,?_⟩;have lo:=a4.base.len;have at1:=GO (os:=os) b0 ⋯;have at2:=GO (os:=os) a0' ⋯;cases ho:os.getD m.2.1.toNat none with
   |none =>
    rw[ho] at at1;refine⟨_,U,_,U,ps,_,_,_,U,U,SqL.of e4,at1,_,U,CU (by simp[B9]) ?_⟩;refine⟨os,_,_,_,_,U,s4,e4,a4.same em λ x z y bz jz ly=>?_⟩;obtain⟨u,_,hu⟩:=a4.base.cmp m.2.1 b0 b1 z y jz ly;rw[ho] at hu;cases hu
   |some u =>
    rw[ho] at at1;obtain⟨ju,yu,hju,lyu⟩:=a4.base.snd m.2.1 b0 b1 u ho;refine⟨_,U,_,U,ps,_,_,_,U,U,SqL.of e4,at1,_,U,D2 (by simp[B9]) ?_⟩;refine⟨_,U,_,U,_,U,_,U,ps,_,_,_,U,U,SqL.of e4,at1,d,m.2.2.1,u,m.2.2.2,U,hb,⋯,hd,λ v hv=>⟨(wg v hv).1,(wg v hv).2.1,(wg v hv).2.2.1⟩,λ o H5 s5 on os'=>?_⟩;have s05:=s4.trans s5;have e5:=s5 _ _ e4;cases o with
    |none =>
     have R0:=on rfl;refine⟨λ b H'=>b=false/\H'=H5,⟨_,U,_,U,CU (by simp[B9]) ⟨U,U⟩⟩,?_⟩;intro b H6 z9;obtain⟨rfl,rfl⟩ := z9;refine BB ⟨os,_,_,_,_,rfl,s05,e5,a4.same em λ x z y bz jz ly=>?_⟩;rw[R0] at bz;cases bz
    |some x =>
     have lv:=os' x rfl;have n0:m.2.2.2≠[]:=λ z=>by
      obtain⟨⟨w',hw',_⟩,_⟩:=lv;rw[z] at hw';cases hw'
     have Te:=Ma.tells_bf (d:=d) n0;have gal:=lv.gal hd (W m hm) Te;have jx:∃j y,Jo d Ns j m.1 x g y/\y<=t:=by
      obtain⟨y',ly',j'⟩:=hju.earlyW hd W ((gal x).mpr (DY _));exact⟨ju+1,y',.inr ⟨m,hm,U,_,Te x,j'⟩,⋯⟩
     have fin:∀os':List (Option Int),LatI d Ns N k i g t os'->(∃u',x<=u'/\os'.getD m.1.toNat none=some u')->LatI d Ns N k (i+1) g t os':=λ os' h ⟨u',lu',hu'⟩=>h.same em λ x' z y bz jz ly=>by
      obtain⟨u2,lu2,hu2⟩:=a4.base.cmp m.2.1 b0 b1 z y jz ly;rw[ho] at hu2;cases hu2;rw[Te x'] at bz;cases bz;have:=(gal x').mp lu2;exact⟨u',⋯,hu'⟩
     refine⟨λ b H'=>H'=H5/\(b=true->∀z,os.getD m.1.toNat none=some z->z<x)/\(b=false->∃u',x<=u'/\os.getD m.1.toNat none=some u'),?_,?_⟩
     ·refine⟨_,U,_,U,D2 (by simp[B9]) ?_⟩;cases ht:os.getD m.1.toNat none with
      |none =>
       rw[ht] at at2;exact⟨_,rfl,_,rfl,ps,_,_,_,rfl,rfl,SqL.of e5,at2,_,rfl,D2 (by simp[B9]) ⟨rfl,(λ _ z hz=>(by cases hz)),(λ z=>(by cases z))⟩⟩
      |some z =>
       rw[ht] at at2;refine⟨_,U,_,U,ps,_,_,_,U,U,SqL.of e5,at2,_,U,CU (by simp[B9]) ?_⟩;refine⟨_,U,_,U,_,U,ps,_,_,_,U,U,SqL.of e5,at2,_,_,U,U,_,U,U,λ c z' hz'=>?_,λ c=>⟨z,?_,U⟩⟩
       ·cases hz';exact D6 c
       ·have:=of_decide_eq_false c;exact Int.not_lt.mp this
     intro b H6 z9;obtain⟨rfl,hb1,hb2⟩ := z9;refine AZ (λ c=>?_) (λ c=>?_)
     ·have ix2:J7 (os.map B9).length m.1=some m.1.toNat:=UZ a0' (by simp;omega);have put:=a4.put a0' a1' jx (hb1 c);refine⟨_,U,_,U,_,U,ps,_,m.1,m.1.toNat,U,U,e5,ix2,os.set m.1.toNat (some x),_,_,_,_,U,C4 fps s05,?_,fin _ put ⟨x,DY _,?_⟩⟩
      ·show AD _ ps _ ps=_;rw[AI,<- JC]
      ·rw[KP ⋯,if_pos rfl]
     ·exact⟨os,_,_,_,_,U,s05,e5,fin os a4 (hb2 (TJ.mpr c))⟩
  ·intro σ H4 z9;obtain⟨os,v8,v9,v10,v11,rfl,s4,e4,a4⟩ := z9;refine⟨os,_,_,_,_,_,U,s4,e4,a4.base.len,a4.base.snd,λ r r0 r1 x y jv ly=>?_⟩;rcases jv with jv|⟨m,hm,e,z,bz,jz⟩
   ·exact a4.base.cmp r r0 r1 x y jv ly
   ·have:=a4.look m (by rw[hw2,JH];exact hm) x z y bz jz ly;rw[e] at this;exact this
 intro σ H3 z9;obtain⟨os,v7,v8,v9,v10,v11,rfl,s3,e3,a3⟩ := z9;rw[show((N:Int)-1).toNat=N-1 by omega] at a3;exact⟨_,U,_,U,ps,_,_,_,U,U,SqL.of e3,GO p0 (by rw[a3.len];omega),q os H3 s3 a3⟩
abbrev Bv:=List (List (Option Int))
inductive spRides8(vs:List V)(H:Hp)(Q:VK)(z3q:XK):Prop
 |mk (pl:Addr) (Os:Bv) (goal:Int):vs=[.ref pl,.int goal]->FL H pl Os->1<=Os.length->Os.length<=1000->0<=goal->((∀o∈Os,goal<(o.length:Int)))->(∀k:Nat,k<Os.length->(Os.getD k []).getD goal.toNat none=(Os.getD (Os.length-1) []).getD goal.toNat none->(∀j,j<k->(Os.getD j []).getD goal.toNat none≠(Os.getD (Os.length-1) []).getD goal.toNat none)->Q (.int (k:Int)) H)->spRides8 vs H Q z3q
theorem RX{b:Option Int}(h:B9 a=B9 b):a=b:=by
 cases a with
 |none =>
  cases b with
  |none=>rfl
  |some y=>cases h
 |some x =>
  cases b with
  |none=>cases h
  |some y=>cases h;rfl
theorem NS(F:Fun K "_law_rides" "_law_rides" XN f fd)(B:Bl mg):FnOk P w K mg base B5 (n+1) f fd ["told","goal"] spRides8:=by
 refine F.okQ FR ?_ ?_;walk_at "o";obtain⟨pl,Os,goal,rfl,hL,l1,lO,g0,g1,q⟩:=h;refine⟨_,(A9 (DJ PassesOwn.never U (HZ U B.range (A4 (AL CN U B.len C5 (A4 (qv 0) A5)) A5)) (AV (i:=2) FR.nd U (AH U)) (AA (AE (AX CS (A8 AM (A8 AM (qv 0) (qv 2) Y9) (qv 1) Y9) (A8 AM (A8 AM (qv 0) (G0 A6) Y9) (qv 1) Y9) (AS _)) (AA (AF (qv 2))) AY))) (AA (AF DE))),?_⟩;walk_at "d";obtain⟨qs,e1,e2,e3,e4⟩:=id hL.ex;have hql:(qs.map V.ref).length=Os.length:=by simp[e2]
 obtain⟨xs,q9,o9,x1,x2,x3,x4⟩:=hL.at (i:=((Os.length-1:Nat):Int)) ⋯ ⋯;rw[e1] at x1;cases x1;have x3':Os[Os.length-1]?=some o9:=by rw[show Os.length-1=(((Os.length-1:Nat)):Int).toNat by omega];exact x3
 have eo9:Os.getD (Os.length-1) []=o9:=by rw[IP,x3'];rfl
 have at9:DK (qs.map V.ref) (-1)=some (.ref q9):=by
  have h1:=LB (xs:=qs.map V.ref) (k:=1) (BU _) ⋯;refine h1.trans ?_;rw[hql,EH];have h2:qs[Os.length-1]?=some (qs[Os.length-1]'⋯):=BK ⋯;rw[h2];have h3:=F6 (xs:=qs.map V.ref) (j:=Os.length-1) (v:=.ref (qs[Os.length-1]'⋯)) (by rw[EH,h2];rfl);rw[x2] at h3;exact h3.symm
 have a9:=GO (os:=o9) g0 (g1 o9 (DL x3'));refine⟨_,U,pl,_,U,.inl (SqL.of e1),_,U,⋯,⋯,NN (lo:=0) (n:=((((qs.map V.ref).length:Nat):Int)).toNat)
  (λ i σ H'=>H'=H/\∃v2:Option V,σ=[some (.ref pl),some (.int goal),v2]/\∀j,j<i->(Os.getD j []).getD goal.toNat none≠(Os.getD (Os.length-1) []).getD goal.toNat none) ⟨rfl,_,rfl,λ j hj=>absurd hj (rP _)⟩ ?_ ?_⟩
 ·intro i σ H1 hi z9;obtain⟨rfl,v2,rfl,hf⟩ := z9;rw[show(0:Int)+((i:Nat):Int)=(i:Int) by omega];obtain⟨xs,q',o,x1,x2',y3,y4⟩:=hL.at (i:=(i:Int)) ⋯ ⋯;rw[e1] at x1;cases x1;have y3':Os[i]?=some o:=by rw[show i=((i:Nat):Int).toNat by omega];exact y3
  have eo:Os.getD i []=o:=by rw[IP,y3'];rfl
  have a2:=GO (os:=o) g0 (g1 o (DL y3'));refine⟨_,U,_,U,pl,_,_,_,U,U,SqL.of e1,x2',_,U,q',_,_,_,U,U,SqL.of y4,a2,?_⟩;refine⟨_,U,_,U,pl,_,_,_,U,U,SqL.of e1,at9,_,U,q9,_,_,_,U,U,SqL.of x4,a9,?_⟩;have tst:∀a b:Option Int,fB (B9 a) (B9 b)=true:=λ a b=>by cases a<;>cases b<;>rfl
  refine⟨tst _ _,_,U,AZ (λ c=>?_) (λ c=>?_)⟩
  ·have c':o.getD goal.toNat none=o9.getD goal.toNat none:=RX (D6 c);exact⟨_,U,q i ⋯ (by rw[eo,eo9,c']) hf⟩
  ·refine⟨U,_,U,λ j hj=>?_⟩;rcases P3 j i with z|z
   ·exact hf j z
   ·have:j=i:=⋯;subst this;rw[eo,eo9];exact λ e=>c (CB (by rw[e]))
 ·intro σ H1 z9;obtain⟨rfl,v2,rfl,hf⟩ := z9;exact absurd rfl (hf (Os.length-1) ⋯)
end
def FewJ(d:Int)(M:List BN)(n:Nat)(i j:Int):Prop:=∃k1,k1<=n/\∀x k y,Jo d M k i x j y->∃y',y'<=y/\Jo d M k1 i x j y'
inductive spLate(T:Hp->Prop)(C:Addr)(vs:List V)(H:Hp)(Q:VK)(z3q:XK):Prop
 |mk (x pl pv:Addr) (d:Int) (ns:List Str) (M:List BN) (i j:Nat) (t:Int):vs=[.ref x,.ref pl,.ref pv]->BtIn T C H x pl d ns M i j->H pv=some (.lst [.int t])->(Part.moment t).ok 0->(∀(o:Option Int)(H':Hp),SameU H H'->T H'->LateJ d M i j t o->(∀y,o=some y->y.natAbs<10000000000000000000000000000000000000000)->FewJ d M (ns.length-1) i j->Q (.str (PY o)) H')->spLate T C vs H Q z3q
theorem SoonC.late(h:SoonC d n M i j R){x:Int}(n0:R≠[])(g:∀z y,Ma.bt d R z=some y->(y<=t↔z<=x)):LateJ d M i j t (some x)/\x<=t/\t-10000000000000000<=x:=by
 obtain⟨y,hy⟩:=LS (d:=d) n0 x;have ly:=(g x y hy).mpr (DY _);have b:=h.bd x y hy;refine⟨⟨λ x' e=>?_,λ e=>(nomatch e)⟩,⋯,?_⟩
 ·cases e;obtain⟨k,j'⟩:=((h.mn x).1 y hy).1;refine⟨⟨k,y,j',ly⟩,λ z k y j l=>?_⟩;have m:=h.mn z;cases e:Ma.bt d R z with
  |none =>
   rw[e] at m;exact absurd ⟨k,j⟩ (m.2 rfl y)
  |some y1 =>
   rw[e] at m;have l1:=(m.1 y1 rfl).2 y ⟨k,j⟩;exact(g z y1 e).mp ⋯
 ·obtain⟨y',hy'⟩:=LS (d:=d) n0 (t-10000000000000000);have b':=h.bd _ y' hy';exact(g _ y' hy').mp ⋯
theorem SoonC.none(h:SoonC d n M i j R)(e:R=[]):∀k x y,¬Jo d M k i x j y:=λ k x y j=>by
 have:=h.mn x;rw[e] at this;exact this.2 rfl y ⟨k,j⟩
theorem SoonC.few(h:SoonC d n M i j R):FewJ d M (n-1) i j:=by
 obtain⟨k1,l1,m1⟩:=h.m1;refine⟨k1,l1,λ x k y j'=>?_⟩;have mn:=h.mn x;have m1:=m1 x;cases e:Ma.bt d R x with
 |none =>
  rw[e] at mn;exact absurd ⟨k,j'⟩ (mn.2 rfl y)
 |some z =>
  rw[e] at mn m1;exact⟨z,(mn.1 z rfl).2 y ⟨k,j'⟩,(m1.1 z rfl).1⟩
section
variable {f:Addr}
theorem Z7(G:DkT K C)(F:Fun K "latest_row" "latest_row" SD f fd)(Cb1:Callee P w K mg base n "shown" ["moment"] spShown)(Cg2:Callee P w K mg base n "leave" ["day","clock","s"] (spLeaveT T))(Cd0:Callee P w K mg base n "clock_between" ["desk","places"] (spBetw T C)):FnOk P w K mg base B5 (n+1) f fd ["desk","places","values"] (spLate T C):=by
 refine F.okQ w8 ?_ ?_;walk_at "o";obtain⟨x,pl,pv,d,ns,M,i,j,t,rfl,b,hv,ht,q⟩:=h;refine⟨_,(AA (AF (AB Cb1 hr U (A4 (AB Cg2 hr U (A4 (G3 (qv 0)) (A4 (AB Cd0 hr U (A4 (qv 0) (A4 (qv 1) A5))) (A4 (A8 AM (qv 2) A6 Y9) A5)))) A5)))),?_⟩;walk_at "d";obtain⟨dx,pn,pr,hx,hn,hM⟩:=b.dk.ex;refine⟨_,U,x,C,dx,_,_,U,hx,G.cl,G.nd,U,_,U,_,U,x,pl,d,ns,M,i,j,U,b,λ rc R H1 u1 t1 la sc=>?_⟩;refine⟨_,U,pv,_,_,_,U,U,SqL.of (u1.lst hv),(rfl:DK [V.int t] 0=_),d,rc,t,R,U,la,t1,sc.ck,λ e=>?_,λ x0 H2 n0 u2 t2 g=>?_⟩
 ·have nb:∀y,(none:Option Int)=some y->y.natAbs<10000000000000000000000000000000000000000:=λ y e=>(nomatch e)
  exact⟨none,rfl,nb,q none H1 u1 t1 ⟨λ x e=>(nomatch e),λ _=>sc.none e⟩ nb sc.few⟩
 ·obtain⟨l,l1,l2⟩:=sc.late n0 g;have bd:∀y,some x0=some y->y.natAbs<10000000000000000000000000000000000000000:=λ y e=>by
   cases e;have h1:=ht.1;have h2:=ht.2;omega
  exact⟨some x0,U,bd,q _ H2 (u1.trans u2) t2 l bd sc.few⟩
end
def dS(o:Option Int)(s:Int):Bool:=match o with
 |none=>false
 |some y=>decide (y<=s)
def qT:Option Nat->V
 |none=>.non
 |some j=>.int j
def nR(b:Nat->Bool)(n:Nat)(r:Option Nat):Prop:=(r=none/\∀j,j<n->b j=false)\/∃j,r=some j/\j<n/\b j=true/\∀i,i<j->b i=false
inductive spComesBy(T:Hp->Prop)(vs:List V)(H:Hp)(Q:VK)(z3q:XK):Prop
 |mk (d:Int) (p:Addr) (t s:Int) (R:List T3):vs=[.int d,.ref p,.int t,.int s]->LA AQ H p R->T H->Ma.CK d R->(∀H',SameU H H'->T H'->Q (.bl (dS (Ma.bt d R t) s)) H')->spComesBy T vs H Q z3q
inductive spLeast(T:Hp->Prop)(vs:List V)(H:Hp)(Q:VK)(z3q:XK):Prop
 |mk (d:Int) (H0:Hp) (pl:Addr) (Ts:List Tb) (p t s:Int):vs=[.int d,.ref pl,.int p,.int t,.int s]->TL H0 H pl Ts->T H->0<=p->((∀A∈Ts,p<(A.length:Int)/\∀C∈A,Ma.CK d C))->(∀(r:Option Nat)(H':Hp),SameU H H'->T H'->nR (λ j=>dS (Ma.bt d (cl (Ts.getD j []) p) t) s) Ts.length r->Q (qT r) H')->spLeast T vs H Q z3q
inductive spFewR(T:Hp->Prop)(vs:List V)(H:Hp)(Q:VK)(z3q:XK):Prop
 |mk (d:Int) (n:Nat) (pr:Addr) (N:List BN) (goal p t s:Int) (m:Nat):vs=[.int d,.int n,.ref pr,.int goal,.int p,.int t,.int s]->NA H pr N->T H->0<d->NetOk d n N->1<=n->n<=1000->N.length<=1000->((∀x∈N,4*x.2.2.2.length+2<=m))->pC N.length m n->0<=goal->(goal<(n:Int))->0<=p->(p<(n:Int))->(∀(F:List BN)(Ts:List Tb)(r:Option Nat)(H':Hp),SameU H H'->T H'->Fords d N F->Ts.length=n->TsOk d n goal F m stepT Ts->nR (λ j=>dS (Ma.bt d (cl (Ts.getD j []) p) t) s) n r->Q (qT r) H')->spFewR T vs H Q z3q
section
variable {f:Addr}
theorem sQ(F:Fun K "comes_by" "comes_by" cA f fd)(Cu0:Callee P w K mg base n "come" ["day","clock","t"] (spComeT T)):FnOk P w K mg base B5 (n+1) f fd ["day","clock","t","s"] (spComesBy T):=by
 refine F.okQ GQ ?_ ?_;walk_at "o";obtain⟨d,p,t,s',R,rfl,hR,hT,ck,q⟩:=h;refine⟨_,(A9 (AC (i:=4) GQ.nd U (AH U) (AB Cu0 hr U (A4 (qv 0) (A4 (qv 1) (A4 (qv 2) A5))))) (AA (AF (KY (YW (qv 4)) (LM (IZ EA (qv 4) (qv 3) (AS _))))))),?_⟩;walk_at "d";refine⟨_,U,_,U,_,U,d,p,t,R,U,hR,hT,ck,λ H1 u1 t1=>?_⟩;have q:=q H1 u1 t1;cases e:Ma.bt d R t with
 |none =>
  rw[e] at q;exact⟨_,U,_,U,CU (by simp[B9]) q⟩
 |some y =>
  rw[e] at q;exact⟨_,U,_,U,D2 (by simp[B9]) ⟨_,U,_,U,_,_,U,U,q⟩⟩
theorem UD(hTB:TB T)(F:Fun K "least_round" "least_round" X6 f fd)(B:Bl mg)(Cu1:Callee P w K mg base n "comes_by" ["day","clock","t","s"] (spComesBy T)):FnOk P w K mg base B5 (n+1) f fd ["day","tables","place","t","s"] (spLeast T):=by
 refine F.okQ DR ?_ ?_;walk_at "o";obtain⟨d,H0,pl,Ts,p,t,s',rfl,Lq,hT,p0,hA,q⟩:=h;refine⟨_,(A9 (DJ PassesOwn.never U (ME U B.enumerate (A4 (qv 1) A5)) (G8 U (BI (AV (i:=5) DR.nd U (AH U)) (BI (AV (i:=6) DR.nd U (AH U)) FX))) (AA (AE (CD (AB Cu1 hr U (A4 (qv 0) (A4 (A8 AM (qv 6) (qv 2) Y9) (A4 (qv 3) (A4 (qv 4) A5)))))) (AA (AF (qv 5))) AY))) (AA (AF DE))),?_⟩;walk_at "d";obtain⟨xs,x1,xl⟩:=Lq.lst;refine⟨_,U,pl,U,⟨_,SqL.of x1⟩,nD (K:=K) (a:=pl) (xs:=xs)
  (λ i σ H'=>∃v5 v6:Option V,σ=[some (.int d),some (.ref pl),some (.int p),some (.int t),some (.int s'),v5,v6]/\SameU H H'/\T H'/\∀j,j<i->dS (Ma.bt d (cl (Ts.getD j []) p) t) s'=false)
  ⟨_,_,rfl,SameU.refl _,hT,λ j hj=>absurd hj (rP _)⟩ (λ i σ H' _ z9=>by obtain⟨_,_,_,u,_⟩ := z9;exact SqL.of (u.lst x1)) ?_ ?_⟩
 ·intro i y pp σ H1 hi z9 hpp;obtain⟨v5,v6,rfl,u1,t1,hf⟩ := z9;have hi2:=(CP.mp hi).1;have hU:Ts[i]?=some (Ts[i]'⋯):=BK ⋯;have hUm:=DL hU;have eg:Ts.getD i []=Ts[i]'⋯:=by rw[IP,hU];rfl
  generalize Ts[i]'⋯=U0 at hU hUm eg;obtain⟨qa,qa1,qa2,_⟩:=Lq.at x1 hU;rw[hi] at qa1;cases qa1;have s2:=BD hpp (.tup [.int i,.ref qa]);have e2:AD H1 pp (.tup [.int i,.ref qa]) pp=some (.tup [.int i,.ref qa]):=AI;generalize AD H1 pp (.tup [.int i,.ref qa])=H2 at *;have u2:=u1.trans (SameU.of s2);refine⟨pp,_,U,SqT.of e2,U,_,_,U,_,_,U,U,?_⟩;obtain⟨rs,rc,r1,r2,r3,r4,r5⟩:=(qa2.u u2).at p0 (hA U0 hUm).1;refine⟨_,U,_,U,_,U,qa,_,_,_,U,U,SqL.of r1,r2,_,U,_,U,d,rc,t,s',_,U,r5,hTB.same _ _ t1 s2,(hA U0 hUm).2 _ (IU p0 (hA U0 hUm).1),λ H3 u3 t3=>?_⟩;refine⟨_,U,AZ (λ c=>?_) (λ c=>?_)⟩
  ·refine⟨_,U,q (some i) H3 (u2.trans u3) t3 (.inr ⟨i,U,⋯,?_,hf⟩)⟩;show dS (Ma.bt d (cl (Ts.getD i []) p) t) s'=true;rw[eg];exact c
  ·refine⟨_,_,U,u2.trans u3,t3,λ j hj=>?_⟩;rcases(by omega:j<i\/j=i) with z|z
   ·exact hf j z
   ·subst z;rw[eg]
    simpa using c
 ·intro σ H1 z9;obtain⟨v5,v6,rfl,u1,t1,hf⟩ := z9;exact q none H1 u1 t1 (.inl ⟨rfl,λ j hj=>hf j ⋯⟩)
theorem ZA(hTB:TB T)(F:Fun K "fewest_rides" "fewest_rides" cF f fd)(Cv0:Callee P w K mg base n "rounds" ["day","size","roads","goal"] (spRounds T))(Ck0:Callee P w K mg base n "need_place" ["size","thing"] spNeedPlace)(Ca1:Callee P w K mg base n "least_round" ["day","tables","place","t","s"] (spLeast T)):FnOk P w K mg base B5 (n+1) f fd ["day","size","roads","goal","place","t","s"] (spFewR T):=by
 refine F.okQ EO ?_ ?_;walk_at "o";obtain⟨d,N,pr,Ns,goal,p,t,s',m,rfl,hN,hT,hd,nok,N1,N2,nl,lm,few,g0,g1,p0,p1,q⟩:=h;refine⟨_,(A9 (AC (i:=7) EO.nd U (AH U) (AB Cv0 hr U (A4 (qv 0) (A4 (qv 1) (A4 (qv 2) (A4 (qv 3) A5)))))) (A9 (CF (AB Ck0 hr U (A4 (qv 1) (A4 (qv 4) A5)))) (AA (AF (AB Ca1 hr U (A4 (qv 0) (A4 (qv 7) (A4 (qv 4) (A4 (qv 5) (A4 (qv 6) A5)))))))))),?_⟩;walk_at "d";refine⟨_,U,_,U,_,U,_,U,d,N,pr,Ns,goal,m,U,hN,hT,hd,nok,N1,N2,nl,lm,few,g0,g1,λ l F Ts H2 u2 t2 fo Lq l2 ok2=>?_⟩;refine⟨_,U,_,U,N,p,U,p0,p1,?_⟩;refine⟨_,U,_,U,_,U,_,U,_,U,d,_,l,Ts,p,t,s',U,Lq,t2,p0,λ A hA=>?_,λ r H3 u3 t3 hf=>?_⟩
 ·obtain⟨i,hi⟩:=KF hA;obtain⟨lA,tA⟩:=ok2.each i A hi;exact⟨by rw[lA];exact p1,λ C hC=>(tA C hC).1⟩
 ·rw[l2] at hf;exact q F Ts r H3 (u2.trans u3) t3 fo l2 ok2 hf
end
def eK(d:Int)(n:Nat)(M:List BN)(i j t:Int)(r:Option Nat):Prop:=(r=none->∀k y,¬Jo d M k i t j y)/\∀k,r=some k->k<n/\∃s,(∀k' y,Jo d M k' i t j y->s<=y)/\Jo d M k i t j s/\∀j',j'<k->∀y,Jo d M j' i t j y->s<y
def mB:Option Nat->Str
 |none => "never"
 |some k=>AN (k:Int)
inductive spRidesR(T:Hp->Prop)(C:Addr)(vs:List V)(H:Hp)(Q:VK)(z3q:XK):Prop
 |mk (x pl pv:Addr) (d:Int) (ns:List Str) (M:List BN) (i j:Nat) (t:Int):vs=[.ref x,.ref pl,.ref pv]->BtIn T C H x pl d ns M i j->H pv=some (.lst [.int t])->(Part.moment t).ok 0->(∀(r:Option Nat)(H':Hp),SameU H H'->T H'->eK d ns.length M i j t r->Q (.str (mB r)) H')->spRidesR T C vs H Q z3q
section
variable {f:Addr}
theorem yL(G:DkT K C)(F:Fun K "rides_row" "rides_row" U7 f fd)(B:Bl mg)(Cu0:Callee P w K mg base n "come" ["day","clock","t"] (spComeT T))(Cd0:Callee P w K mg base n "clock_between" ["desk","places"] (spBetw T C))(Cw0:Callee P w K mg base n "fewest_rides" ["day","size","roads","goal","place","t","s"] (spFewR T)):FnOk P w K mg base B5 (n+1) f fd ["desk","places","values"] (spRidesR T C):=by
 refine F.okQ EM ?_ ?_;walk_at "o";obtain⟨x,pl,pv,d,ns,M,i,j,t,rfl,b,hv,ht,q⟩:=h;refine⟨_,(A9 (AC (i:=3) EM.nd U (AH U) (A8 AM (qv 2) A6 Y9)) (A9 (AC (i:=4) EM.nd U (AH U) (AB Cu0 hr U (A4 (G3 (qv 0)) (A4 (AB Cd0 hr U (A4 (qv 0) (A4 (qv 1) A5))) (A4 (qv 3) A5))))) (A9 (AE (EN (qv 4)) (AA (AF BP)) AY) (AA (AF (DA GW U B.str_ GB (A4 (AB Cw0 hr U (A4 (G3 (qv 0)) (A4 (AL CN U B.len C5 (A4 (G3 (qv 0)) A5)) (A4 (G3 (qv 0)) (A4 (A8 AM (qv 1) A6 Y9) (A4 (A8 AM (qv 1) A6 Y9) (A4 (qv 3) (A4 (qv 4) A5)))))))) A5))))))),?_⟩;walk_at "d";obtain⟨dx,pn,pr,hx,hn,hM⟩:=b.dk.ex;have nok:=b.ok;have hd:0<d:=by have:=b.d1;omega
 have lM:=b.l;have n4:=b.n4;have hi:=b.i;have hj:=b.j;have few:∀y∈M,4*y.2.2.2.length+2<=66:=λ y hy=>by
  have:=(b.rng y hy).2.2.2;omega
 refine⟨_,U,pv,_,_,_,U,U,SqL.of hv,(rfl:DK [V.int t] 0=_),?_⟩;refine⟨_,U,x,C,dx,_,_,U,hx,G.cl,G.nd,U,_,U,_,U,x,pl,d,ns,M,i,j,U,b,λ rc R H1 u1 t1 la sc=>?_⟩;refine⟨_,U,d,rc,t,R,U,la,t1,sc.ck,λ H2 u2 t2=>?_⟩;have u12:=u1.trans u2;have b2:=b.dk.u u12;obtain⟨dx',pn',pr',hx',hn',hM'⟩:=b2.ex;have mn:=sc.mn t;have m1:=sc.m1;cases hs:Ma.bt d R t with
 |none =>
  rw[hs] at mn;refine⟨_,rfl,_,rfl,D2 (by rfl) (q none H2 u12 t2 ⟨λ _ k y j'=>mn.2 rfl y ⟨k,j'⟩,λ k e=>(nomatch e)⟩)⟩
 |some s' =>
  rw[hs] at mn;have pl2:=u12.lst b.pl;have a0:DK [V.int (i:Int),V.int (j:Int)] 0=some (.int i):=rfl;have a1:DK [V.int (i:Int),V.int (j:Int)] 1=some (.int j):=rfl;refine⟨_,U,_,U,CU (by simp[B9]) ?_⟩;refine⟨_,U,x,C,dx',_,_,U,hx',G.cl,G.nd,U,_,U,x,C,dx',_,_,U,hx',G.cl,G.nn,U,pn',_,U,.inl (SqL.of hn'),_,U,x,C,dx',_,_,U,hx',G.cl,G.nr,U,_,U,pl,_,_,_,U,U,SqL.of pl2,a1,_,U,pl,_,_,_,U,U,SqL.of pl2,a0,_,U,_,U,?_⟩;refine⟨d,ns.length,pr',M,j,i,t,s',66,by simp[B9],hM',t2,hd,nok,⋯,⋯,⋯,few,dQ ⋯ n4,⋯,⋯,⋯,⋯,λ Fs Ts r H3 u3 t3 fo lT ok fst=>?_⟩;have fok:=fo.ok nok few;have each:∀k,k<ns.length->Mn (Jo d M k i t j) (Ma.bt d (cl (Ts.getD k []) i) t):=λ k hk=>by
   have hC:Ts[k]?=some (Ts.getD k []):=by
    rw[IP,BK ⋯];rfl
   exact(ok.mn hd fok hC (i:Int) ⋯ ⋯ t).congr λ y=>cU fo
  have least:∀k' y,Jo d M k' i t j y->s'<=y:=λ k' y j'=>(mn.1 s' rfl).2 y ⟨k',j'⟩
  have by_iff:∀k,k<ns.length->(dS (Ma.bt d (cl (Ts.getD k []) i) t) s'=true↔Jo d M k i t j s'):=λ k hk=>by
   have e:=each k hk;cases ho:Ma.bt d (cl (Ts.getD k []) i) t with
   |none =>
    rw[ho] at e;exact⟨λ z=>(nomatch z),λ z=>absurd z (e.2 rfl s')⟩
   |some y =>
    rw[ho] at e;obtain⟨j1,j2⟩:=e.1 y rfl;refine⟨λ z=>?_,λ z=>CB (j2 _ z)⟩;have z:y<=s':=D6 z;have:=least k y j1;rw[show s'=y by omega];exact j1
  rcases fst with⟨rfl,no⟩|⟨k,rfl,hk,yes,no⟩
  ·exfalso
   obtain⟨k1,l1,e1⟩:=m1;have e1:=e1 t;rw[hs] at e1;have:=(by_iff k1 ⋯).mpr (e1.1 s' rfl).1;have n1:dS (Ma.bt d (cl (Ts.getD k1 []) i) t) s'=false:=no k1 ⋯;rw[n1] at this;cases this
  ·refine⟨(k:Int),rfl,TR ⋯,q (some k) H3 (u12.trans u3) t3 ⟨λ e=>(nomatch e),λ k' e=>?_⟩⟩;cases e;refine⟨hk,s',least,(by_iff k hk).mp yes,λ j' lj y jy=>?_⟩;have l1:=least j' y jy;rcases(by omega:s'<y\/y=s') with z|z
   ·exact z
   ·rw[z] at jy;have n1:dS (Ma.bt d (cl (Ts.getD j' []) i) t) s'=false:=no j' lj;rw[(by_iff j' ⋯).mpr jy] at n1;cases n1
end
structure NetW(d:Int)(n:Nat)(N:List BN):Prop where
 rng:∀m∈N,(0<=m.1/\m.1<(n:Int))/\(0<=m.2.1/\m.2.1<(n:Int))/\G6 d m.2.2.2/\m.2.2.2.length<=16
 len:N.length<=16
section
variable {ns:List Str}{p:Int}
theorem NetW.tx(h:NetW d n N)(d2:d<=1000000000000000)(hn:names.length=n)(low:∀x∈names,Low x):NetTx names N:=⟨by have:=h.len;omega,λ x hx=>by have:=(low x hx).l8;omega,λ m hm=>by
 obtain⟨⟨a,b⟩,⟨c,e⟩,w,l⟩:=h.rng m hm;refine⟨a,⋯,c,⋯,λ x hx=>?_,⋯⟩;obtain⟨x0,x1,x2,x3,x4⟩:=w x hx;exact⟨⟨x0,⋯⟩,⟨⋯,⋯⟩,⟨⋯,⋯⟩⟩⟩
theorem NetW.told(h:NetW d n N)(d1:1<=d)(d2:d<=1000000000000000)(hn:names.length=n)(low:∀x∈names,Low x):Told d (N.map (OZ names)):=⟨d1,d2,by rw[BY];have:=h.len;omega,λ q hq=>by
 obtain⟨m,hm,rfl⟩:=DT.mp hq;obtain⟨⟨a,b⟩,⟨c,e⟩,w,l⟩:=h.rng m hm;exact⟨low _ (JT a ⋯),low _ (JT c ⋯),w,by show m.2.2.2.length<=20;omega⟩⟩
theorem NetW.ends(h:NetW d n N)(hn:names.length=n):∀m∈N,(0<=m.1/\m.1<(names.length:Int))/\(0<=m.2.1/\m.2.1<(names.length:Int)):=λ m hm=>by
 have:=h.rng m hm;rw[hn];exact⟨this.1,this.2.1⟩
theorem NetW.btin{x pl:Addr}(h:NetW d n N)(ren:Ren names ns N M)(d1:1<=d)(d2:d<=1000000000000000)(n4:names.length<=4)(dk:DeskAt C H x d ns M)(hT:T H)(op:DQ N p)(og:DQ N g)(e:H pl=some (.lst [.int (ren.f p),.int (ren.f g)])):BtIn T C H x pl d ns M (ren.f p) (ren.f g):=by
 have lM:=ren.lenM;have ll:=h.len;have ln:=ren.len;refine⟨dk,hT,d1,d2,λ m hm=>?_,⋯,⋯,e,ren.lt op,ren.lt og⟩;obtain⟨m0,hm0,a1,a2,a3⟩:=ren.of hm;have l1:=ren.lt ⟨m0,hm0,.inl rfl⟩;have l2:=ren.lt ⟨m0,hm0,.inr rfl⟩;rw[a3];exact⟨⋯,⋯,(h.rng m0 hm0).2.2⟩
theorem lJ{w w':Str}(np ng:Str)(t:Int)(e:w'=w++" "):w'++(np++" "++ng)++" "++AN t=HF w [.name np,.name ng,.moment t]:=by
 unfold HF;rw[i4,e];show _=w++" "++np++" "++ng++" "++AN t;simp only[rF]
theorem bQ{x:Addr}{R:List RowE}{e:RowE}{E:XK}{w:Str}{row:Str}(he:e∈R)(hw:e.w=w)(hk:e.ks=[("name":Str),("name":Str),("moment":Str)])(dk:DeskAt C H x d ns M)(ren:Ren names ns N M)(n4:names.length<=4)(low:∀x∈names,Low x)(op:DQ N p)(og:DQ N g)(tok:(Part.moment t).ok 0)(er:row=HF w [.name (E5 names p),.name (E5 names g),.moment t])
  (k:∀(pl pv:Addr)(H':Hp),Same H H'->H' pl=some (.lst [.int (ren.f p),.int (ren.f g)])->H' pv=some (.lst [.int t])->e.sp [.ref x,.ref pl,.ref pv] H' Q E0):spSay C R [.ref x,.str row] H Q E:=by
 obtain⟨inP,p0,p1⟩:=ren.on op;obtain⟨inG,g0,g1⟩:=ren.on og;have ln:=ren.len;refine⟨x,d,ns,M,e,[.name (E5 names p),.name (E5 names g),.moment t],by rw[hw,er],he,by rw[hk];rfl,λ q hq=>?_,(by show 3<=8;decide),dk,λ z hz=>?_,⋯,λ pl pv us H6 s6 ePl ePv vp=>?_⟩
 ·simp only[C6,GY,or_false] at hq;rcases hq with rfl|rfl|rfl
  ·exact low _ (JT p0 p1)
  ·exact low _ (JT g0 g1)
  ·exact tok
 ·have hz:z∈[E5 names p,E5 names g]:=hz;simp only[C6,GY,or_false] at hz;rcases hz with rfl|rfl
  ·exact inP
  ·exact inG
 have eU:us=[.int t]:=by
  obtain⟨l,h⟩:=vp;have l:us.length=1:=l
  match us,l with
  | [v],_ =>
   have:=h 0 v (.moment t) rfl rfl;rw[show v=.int t from this]
 subst eU;exact k pl pv H6 s6 ePl ePv
end
theorem NetW.ok(h:NetW d n N):NetOk d n N:=⟨λ m hm=>by
 obtain⟨a,b,c,e⟩:=h.rng m hm;exact⟨a,b,⋯,λ w hw=>⟨(c w hw).1,(c w hw).2.1,(c w hw).2.2.1,(c w hw).2.2.2.1⟩⟩⟩
def VB:Sp:=λ _ _ _ _=>False
theorem Z5{f:Addr}{ps:List Str}:FnOk P w K mg base B5 k f fd ps VB:=⟨λ _ _ _ _ h=>h.elim,λ _ _ _ _ _ _ _ _ _ _ _ _ _ h=>h.elim⟩
inductive spShowNil(vs:List V)(H:Hp)(Q:VK)(z3q:XK):Prop
 |mk (day:Int) (pn pr:Addr):vs=[.int day,.ref pn,.ref pr]->Sm day->H pr=some (.lst [])->(∀H',Same H H'->Q (.str ("day "++AN day)) H')->spShowNil vs H Q z3q
inductive spNetNil(C:Addr)(vs:List V)(H:Hp)(Q:VK)(z3q:XK):Prop
 |mk (x pl pv:Addr) (d:Int) (ns:List Str):vs=[.ref x,.ref pl,.ref pv]->DeskAt C H x d ns []->Sm d->(∀H',Same H H'->Q (.str ("day "++AN d)) H')->spNetNil C vs H Q z3q
section
variable {f:Addr}
theorem vP(F:Fun K "show_net" "show_net" c5 f fd)(Ck1:Callee P w K mg base n "show_road" ["start","end","board"] VB):FnOk P w K mg base B5 (n+1) f fd ["day","names","roads"] spShowNil:=by
 refine F.okQ sR ?_ ?_;walk_at "o";obtain⟨day,pn,pr,rfl,hd,hN,q⟩:=h;refine⟨_,(AA (AF (MT BP (A4 (A7 LW (D0 (A4 (aL (fN (fY (qv 0) k6))) A5)) (GK ["start","end","board","names"] [none,none,none,some 1] (BlkOk.of U U (SubL.to (IA U EX)) U) U (DN (qv 2)) (λ _ _ _ _=>(N6 (n:=3) K U U (BI (AV (i:=0) (show(["start","end","board","names"]:List Str).Nodup by decide) U (AH U)) (BI (AV (i:=1) (show(["start","end","board","names"]:List Str).Nodup by decide) U (AH U)) (BI (AV (i:=2) (show(["start","end","board","names"]:List Str).Nodup by decide) U (AH U)) FX))))) (λ _ _ _ _=>(AB Ck1 hr U (A4 (A8 (kR K U) (qv 3) (qv 0) Y9) (A4 (A8 (kR K U) (qv 3) (qv 1) Y9) (A4 (qv 2) A5))))))) A5)))),?_⟩;walk_at "d";have h1:=hd.len;have e1:("day ":Str).length=4:=by decide
 refine⟨U,L.le (by simp only[EY,O7,e1];omega),_,U,.inl ⟨_,U,hd.log,L.le (by simp only[EY,O7,e1];omega),L.le (by simp only[EY,O7,e1];omega),?_⟩⟩;refine⟨kG,λ p1 hp1=>?_⟩;generalize hgH1:AD _ p1 _=H1;revert H1;refine BE hp1 λ H1 s1 e2=>?_
 have hN1:=s1 _ _ hN;refine⟨_,U,pr,U,⟨_,SqL.of hN1⟩,?_⟩;refine HX (K:=K) (a:=pr) (xs:=[]) (λ D i H'=>Same H1 H'/\H' D=some (.lst [])) (λ D hD=>⟨BD hD _,AI⟩) (λ D i H' _ _ h=>SqL.of (h.1 _ _ hN1)) (λ D i y H' _ hi _=>by cases hi) ?_;intro D H' hD z9;obtain⟨sD,eD⟩ := z9;refine⟨p1,D,_,_,U,U,sD _ _ e2,eD,L.le (by simp),λ p3 hp3=>?_⟩;generalize hgH3:AD _ p3 _=H3;revert H3;refine BE hp3 λ H3 s3 e3=>?_
 have e5:("; ":Str).length=2:=by decide
 have ej:Txt.join "; " [J5++"day "++(IL (toString day))]="day "++AN day:=by
  unfold Txt.join;rw[StrLaws.glued_eq_join,kI];rfl
 refine⟨_,p3,[J5++"day "++(IL (toString day))],U,U,SqL.of e3,oB (B:=5400) (λ y hy=>?_) (by rw[e5];show 1*5400+1*2<=16777216;decide),by rw[ej];exact q H3 ((s1.trans sD).trans s3)⟩;rw[D8.mp hy];simp only[EY,O7,e1];omega
theorem QK(G:DkT K C)(F:Fun K "net_row" "net_row" U3 f fd)(Cv1:Callee P w K mg base n "show_net" ["day","names","roads"] spShowNil):FnOk P w K mg base B5 (n+1) f fd ["desk","places","values"] (spNetNil C):=by
 refine F.okQ yT ?_ ?_;walk_at "o";obtain⟨x,pl,pv,d,ns,rfl,dk,sd,q⟩:=h;refine⟨_,(AA (AF (AB Cv1 hr U (A4 (G3 (qv 0)) (A4 (G3 (qv 0)) (A4 (G3 (qv 0)) A5)))))),?_⟩;walk_at "d";obtain⟨dx,pn,pr,hx,hn,hM⟩:=dk.ex;obtain⟨vs,h1,h2,_⟩:=hM.la.lst;have h0:vs=[]:=M6.mp h2;subst h0;exact⟨_,U,x,C,dx,_,_,U,hx,G.cl,G.nd,U,_,U,x,C,dx,_,_,U,hx,G.cl,G.nn,U,_,U,x,C,dx,_,_,U,hx,G.cl,G.nr,U,d,pn,pr,U,sd,h1,q⟩
end
theorem FL.last(h:FL H p Os)(l1:1<=Os.length):∃(xs:List V)(q:Addr) (o:List (Option Int)),H p=some (.lst xs)/\DK xs (-1)=some (.ref q)/\Os[Os.length-1]?=some o/\OL H q o:=by
 obtain⟨qs,e1,e2,e3,e4⟩:=h.ex;have hq:qs[Os.length-1]?=some (qs[Os.length-1]'⋯):=BK ⋯;have ho:Os[Os.length-1]?=some (Os[Os.length-1]'⋯):=BK ⋯;refine⟨_,_,_,e1,?_,ho,e4 _ _ _ hq ho⟩;have h1:=LB (xs:=qs.map V.ref) (k:=1) (BU _) (by rw[BY];omega);refine h1.trans ?_;rw[BY,EH];have:qs[qs.length-1]?=qs[Os.length-1]?:=by rw[e2]
 rw[this,hq];rfl
theorem qU{w w':Str}(np ng:Str)(t:Int)(e:w'=w++" "):w'++(np++" "++ng++" "++AN t)=HF w [.name np,.name ng,.moment t]:=by
 rw[<- lJ np ng t e];simp only[rF]
theorem Jo.le8{k':Nat}{p y:Int}(h:Jo d N k p t q y)(l:k<=k'):Jo d N k' p t q y:=by
 induction l with
 |refl=>exact h
 |step _ ih=>exact .inl ih
theorem eX{p:Int}(h:LateJ d N p g s o)(f:FewJ d N (n-1) p g)(a:Lat d N n (n-1) g s os)(p0:0<=p)(p1:p<(n:Int)):os.getD p.toNat none=o:=by
 cases o with
 |none =>
  cases e:os.getD p.toNat none with
  |none=>rfl
  |some x =>
   obtain⟨j,y,hj,_⟩:=a.snd p p0 p1 x e;exact absurd hj (h.2 rfl j x y)
 |some x =>
  obtain⟨⟨k,y,hj,ly⟩,mx⟩:=h.1 x rfl;obtain⟨k1,l1,fw⟩:=f;obtain⟨y',ly',hj'⟩:=fw x k y hj;obtain⟨z,lz,ez⟩:=a.cmp p p0 p1 x y' (hj'.le8 l1) ⋯;obtain⟨j2,y2,h2,l2⟩:=a.snd p p0 p1 z ez;have:=mx z j2 y2 h2 l2;rw[ez];congr 1;omega
theorem FewJ.ren{ns:List Str}(h:Ren names ns N M){p:Int}(op:DQ N p)(oq:DQ N q){n':Nat}(hn:n<=n')(a:FewJ d M n (h.f p) (h.f q)):FewJ d N n' p q:=by
 obtain⟨k1,l1,fw⟩:=a;refine⟨k1,⋯,λ x k y j=>?_⟩;obtain⟨y',ly,j'⟩:=fw x k y (h.jo j);exact⟨y',ly,h.oj op oq j'⟩
theorem XF{k1:Nat}{p:Int}{o9:Option Int}(mn:Mn (λ y=>∃k,Jo d N k p t g y) o)(m1:Mn (Jo d N k1 p t g) o)(l:k1<=n)(m9:Mn (Jo d N n p t g) o9):o=o9:=m1.eq m9 (λ y s=>⟨y,DY _,s.le8 l⟩) λ y s=>by
 cases ho:o with
 |none =>
  rw[ho] at mn;exact absurd ⟨_,s⟩ (mn.2 rfl y)
 |some z =>
  rw[ho] at mn m1;exact⟨z,(mn.1 z rfl).2 y ⟨_,s⟩,(m1.1 z rfl).1⟩
theorem jT{ns:List Str}(h:Ren names ns N M){p:Int}(op:DQ N p)(og:DQ N g){r:Option Nat}(a:eK d ns.length M (h.f p) (h.f g) t r)(ln:ns.length<=Os.length)(g0:0<=g)(mO:∀(j:Nat),j<Os.length->Mn (Jo d N j p t g) ((Os.getD j []).getD g.toNat none))(es:(Os.getD (Os.length-1) []).getD g.toNat none=some s)(least:∀k y,Jo d N k p t g y->s<=y)
  (hk:k<Os.length) (ek:(Os.getD k []).getD g.toNat none=(Os.getD (Os.length-1) []).getD g.toNat none) (nk:∀j,j<k->(Os.getD j []).getD g.toNat none≠(Os.getD (Os.length-1) []).getD g.toNat none):r=some k:=by
 have mk:=mO k hk;rw[ek,es] at mk;have jk:=(mk.1 s rfl).1;cases r with
 |none=>exact absurd (h.jo jk) (a.1 rfl k s)
 |some k' =>
  obtain⟨l',s',ls,js,lt⟩:=a.2 k' rfl;have e1:s'<=s:=ls k s (h.jo jk);have e2:s<=s':=least k' s' (h.oj op og js);have e:s'=s:=⋯;subst e;rcases zQ k k' with c|c|c
  ·have:=lt k c s' (h.jo jk);omega
  ·rw[c]
  ·exfalso
   refine nk k' c ?_;have m':=mO k' ⋯;rw[es];cases e:(Os.getD k' []).getD g.toNat none with
   |none =>
    rw[e] at m';exact absurd (h.oj op og js) (m'.2 rfl s')
   |some y =>
    rw[e] at m';obtain⟨j1,j2⟩:=m'.1 y rfl;have h1:=j2 s' (h.oj op og js);have h2:=least k' y j1;congr 1;omega
theorem mF{K:W.Frag}{H:Hp}:∀ks:List Int,RdAll K H (ks.map V.int) (ks.map PyData.int)
 | []=>.nil
 |k::ks=>.cons (.int k) (mF ks)
theorem vR(ks:List Int):SeqAt.shaped (.list (ks.map PyData.int))=true:=nI (n:=2) (λ x=>by simp[PyData.canLay0]) (λ x=>by simp[PyData.depth]) (by decide) ks
theorem XR{x dx:Addr}(fx:H x=none)(fdx:H dx=none):Same H (AD (AD H dx (.own x)) x (.ins C dx [])):=λ b o e=>by
 rw[AJ (DW e fx),AJ (DW e fdx)];exact e
section
variable {f:Addr}{R:List RowE}{eS eL eW eN:RowE}
theorem VS(F:Fun K "_law_told" "_law_told" bX f fd)(B:Bl mg):FnOk P w K mg base B5 (n+1) f fd ["moment"] spShown:=by
 refine F.okQ uV ?_ ?_;walk_at "o";obtain⟨o,rfl,hb,q⟩:=h;refine⟨_,(A9 (AE (EN (qv 0)) (AA (AF BP)) AY) (AA (AF (DA GW U B.str_ GB (A4 (qv 0) A5))))),?_⟩;walk_at "d";cases o with
 |none=>exact⟨_,rfl,_,rfl,D2 (by rfl) q⟩
 |some t=>exact⟨_,rfl,_,rfl,CU (by simp[B9]) ⟨_,rfl,_,rfl,TR (hb t rfl),q⟩⟩
theorem iQ{tabs:List (Addr×Addr)}(hTB:TB T)(h0:∀H:Hp,(∀t∈tabs,H t.2=some (.tbl #[]))->T H)(hS:eS∈R/\eS.w="soonest" /\ eS.ks=[("name":Str),("name":Str),("moment":Str)]/\eS.sp=spSoon T C)(hL:eL∈R/\eL.w="latest" /\ eL.ks=[("name":Str),("name":Str),("moment":Str)]/\eL.sp=spLate T C)(hW:eW∈R/\eW.w="rides" /\ eW.ks=[("name":Str),("name":Str),("moment":Str)]/\eW.sp=spRidesR T C)(hNr:eN∈R/\eN.w="net" /\ eN.ks=[]/\eN.sp=spNetNil C)(F:Fun K "law" "law" K7 f fd)(B:Bl mg)(Cb0:Callee P w K mg base (n+1) "_law_cell_at" ["script","k"] (spCell K))(Cm3:Callee P w K mg base (n+1) "_law_day" ["cell"] spDay)(Cy2:Callee P w K mg base (n+1) "_law_roads" ["script","day","size","goal","most"] (spRoads70 K))(Cz2:Callee P w K mg base (n+1) "_law_words" ["script","size"] (spWords8 K))(Ck3:Callee P w K mg base (n+1) "_law_text" ["day","words","roads"] spText8)(Ca3:Callee P w K mg base (n+1) "_law_order" ["roads"] spOrder8)
  (Co2:Callee P w K mg base (n+1) "_law_moment" ["cell","day"] spMom8) (Cp2:Callee P w K mg base (n+1) "_law_rounds" ["day","size","roads","start","t"] spRounds8) (Cq2:Callee P w K mg base (n+1) "_law_latest" ["day","size","roads","start","goal","s"] spLatest8) (Cb3:Callee P w K mg base (n+1) "_law_rides" ["told","goal"] spRides8) (Ce2:Callee P w K mg base (n+1) "_law_told" ["moment"] spShown) (K_Desk:KCal P w K mg base n "Desk" C ["self","text"] (spDInit T C)) (Cw1:MCal P w K mg base (n+1) C "say" ["self","row"] (spSay C R)):FnOk P w K mg base B5 (n+2) f fd ["script"] (spLaw K tabs):=by
 refine F.okQ CG ?_ ?_;walk_at "o";obtain⟨a,ns,rfl,hSc,h63,hT,q⟩:=h;have t0:=h0 H hT;refine⟨_,(A9 (AC (i:=1) CG.nd U (AH U) (AB Cm3 hr U (A4 (AB Cb0 hr U (A4 (qv 0) (A4 A6 A5))) A5))) (A9 (AC (i:=2) CG.nd U (AH U) (A7 B7 A6 (A7 BR (AB Cb0 hr U (A4 (qv 0) (A4 A6 A5))) A6))) (A9 (AC (i:=3) CG.nd U (AH U) (AB Cy2 hr U (A4 (qv 0) (A4 (qv 1) (A4 (qv 2) (A4 (A7 BR (AB Cb0 hr U (A4 (qv 0) (A4 A6 A5))) (qv 2)) (A4 A6 A5))))))) (A9 (AC (i:=4) CG.nd U (AH U) (AB Cz2 hr U (A4 (qv 0) (A4 (qv 2) A5)))) (A9 (AC (i:=5) CG.nd U (AH U) (W4 K_Desk hr U (A4 (AB Ck3 hr U (A4 (qv 1) (A4 (qv 4) (A4 (qv 3) A5)))) A5))) (A9 (AC (i:=6) CG.nd U (AH U) (AB Ca3 hr U (A4 (qv 3) A5))) (A9 (AE (AX (LX hr.units) (qv 6) (D0 A5) (AS _)) (AA (AF (IZ CS (VT Cw1 hr (qv 5) (A4 BP A5)) (A7 DZ BP (DA GW U B.str_ GB (A4 (qv 1) A5))) (AS _)))) AY) (A9 (AC (i:=7) CG.nd U (AH U) (A8 AM (qv 6) (A7 BR (AB Cb0 hr U (A4 (qv 0) (A4 A6 A5))) (AL CN U B.len C5 (A4 (qv 6) A5))) Y9)) (A9 (AC (i:=8) CG.nd U (AH U) (A8 AM (qv 6) (G0 A6) Y9)) (IE (AE (AX CS (A7 BR (A7 E8 (AB Cb0 hr U (A4 (qv 0) (A4 A6 A5))) A6) A6) A6 (AS _)) (AA (AC (i:=8) CG.nd U (AH U) (A8 AM (qv 6) (A7 BR (A7 E8 (AB Cb0 hr U (A4 (qv 0) (A4 A6 A5))) A6) (AL CN U B.len C5 (A4 (qv 6) A5))) Y9))) AY) (A9 (AC (i:=9) CG.nd U (AH U) (AB Co2 hr U (A4 (AB Cb0 hr U (A4 (qv 0) (A4 A6 A5))) (A4 (qv 1) A5)))) (A9 (AC (i:=10) CG.nd U (AH U) (AB Cp2 hr U (A4 (qv 1) (A4 (qv 2) (A4 (qv 3) (A4 (qv 7) (A4 (qv 9) A5))))))) (A9 (AC (i:=11) CG.nd U (AH U) (A7 DZ (A7 DZ (A7 DZ (A7 DZ (A8 AM (qv 4) (qv 7) Y9) BP) (A8 AM (qv 4) (qv 8) Y9)) BP) (DA GW U B.str_ GB (A4 (qv 9) A5)))) (A9 (AC (i:=12) CG.nd U (AH U) (AB Ce2 hr U (A4 (A8 AM (A8 AM (qv 10) (G0 A6) Y9) (qv 8) Y9) A5))) (A9 (AE (AX LL (VT Cw1 hr (qv 5) (A4 (A7 DZ BP (qv 11)) A5)) (qv 12) (AS _)) (AA (AF DS)) AY) (A9 (AE (AX LL (VT Cw1 hr (qv 5) (A4 (A7 DZ BP (qv 11)) A5)) (AB Ce2 hr U (A4 (AB Cq2 hr U (A4 (qv 1) (A4 (qv 2) (A4 (qv 3) (A4 (qv 7) (A4 (qv 8) (A4 (qv 9) A5))))))) A5)) (AS _)) (AA (AF DS)) AY) (A9 (AC (i:=13) CG.nd U (AH U) BP) (IE (AE (NG (A8 AM (A8 AM (qv 10) (G0 A6) Y9) (qv 8) Y9)) (AA (AC (i:=13) CG.nd U (AH U) (DA GW U B.str_ GB (A4 (AB Cb3 hr U (A4 (qv 10) (A4 (qv 8) A5))) A5)))) AY) (A9 (AE (AX LL (VT Cw1 hr (qv 5) (A4 (A7 DZ BP (qv 11)) A5)) (qv 13) (AS _)) (AA (AF DS)) AY) (AA (AF (IZ CS (VT Cw1 hr (qv 5) (A4 (A7 DZ BP (qv 11)) A5)) (qv 12) (AS _))))))))))))))))))))))),?_⟩;walk_at "d";refine⟨_,U,a,ns,0,U,hSc,by decide,λ c0=>⟨c0,U,λ d H1 d1 d2 s1=>?_⟩⟩;have hd:0<d:=⋯;refine⟨_,U,a,ns,1,U,s1.seq hSc,by decide,λ c1=>⟨_,_,U,U,(by show(0:Int)<3;decide),_,_,U,U,?_⟩⟩;have z3:=EG c1 (show(0:Int)<3 by decide);dsimp only;obtain⟨N,eN'⟩:∃N:Nat,1+c1%3=(N:Int):=⟨(1+c1%3).toNat,⋯⟩
 rw[eN'];have N1:1<=N:=⋯;have N3:N<=3:=⋯;refine⟨_,U,_,U,_,U,_,U,a,ns,2,U,s1.seq hSc,by decide,λ c2=>⟨_,U,_,_,U,U,(by show(0:Int)<(N:Int);omega),?_⟩⟩;refine⟨a,ns,d,(N:Int),_,4,U,s1.seq hSc,h63,d1,d2,⋯,⋯,by decide,λ pr Ns H2 s2 hN hIn lN lB=>?_⟩;have nw:NetW d N Ns:=⟨λ m hm=>by
  obtain⟨a,b,c,e⟩:=hIn m hm;exact⟨a,b,e,c⟩,⋯⟩
 have nok:=nw.ok;have s02:=s1.trans s2;have sd:Sm d:=⟨⋯,⋯⟩
 have h1':=sd.len;have e4d:("day ":Str).length=4:=by decide
 refine⟨_,U,_,U,a,ns,N,U,s02.seq hSc,N3,λ pn names H3 s3 en fpn ln low nd=>?_⟩;have hN3:=hN.same s3;have s03:=s02.trans s3;have n4':names.length<=4:=⋯;refine⟨_,U,_,U,_,U,d,pn,pr,names,Ns,U,sd,en,hN3,nw.tx d2 ln low,λ m hm x hx=>((nw.rng m hm).2.2.1 x hx).2.1,λ H4 s4 x dx fx fdx nex=>?_⟩;have sX:=XR (C:=C) fx fdx;have s04:=s03.trans s4;refine⟨x,dx,d,_,H4,U,AI,fx,sX,hTB.same _ _ t0 (s04.trans sX),nw.told d1 d2 ln low,λ H5 M s5 t5 dk eM fM=>⟨U,?_⟩⟩;have s45:=s4.trans s5;have hN5:=hN3.same s45;have en5:=s45 _ _ en;have s05:=s03.trans s45;have ren:=gJ nd (nw.ends ln) eM;refine⟨_,U,pr,Ns,U,hN5,⋯,λ po H6 s6 eo fo=>?_⟩;have s06:=s05.trans s6;have hN6:=hN5.same s6;have dk6:=dk.same s6;have t6:=hTB.same _ _ t5 s6;refine⟨_,U,II,λ pe hpe=>?_⟩;generalize hgH7:AD _ pe _=H7;revert H7;refine BE hpe λ H7 s7 e7=>?_
 have eo7:=s7 _ _ eo;refine⟨_,_,.lst (SqL.of eo7) (mF _),.lst (SqL.of e7) .nil,vR _,nA,_,U,AZ (λ c=>?_) (λ c=>?_)⟩
 ·have oN:CM Ns=[]:=by
   cases e:CM Ns with
   |nil=>rfl
   |cons z zs =>
    rw[e] at c;simp[PyData.eqv,PyData.eqvAll] at c
  have n0:=WM oN;subst n0;obtain⟨dx',pn',pr',hx,hn',hM⟩:=(dk6.same s7).ex;have M0:M=[]:=by
   have e:M.map F8=[]:=eM;exact List.map_eq_nil_iff.mp e
  subst M0;refine⟨_,U,x,dx',_,U,hx,U,x,d,_,[],eN,[],by rw[hNr.2.1];rfl,hNr.1,by rw[hNr.2.2.1];rfl,by simp,by simp,dk6.same s7,by simp,by show 0<=100;omega,λ pl pv us H8 s8 _ _ _=>?_⟩;rw[hNr.2.2.2];refine⟨x,pl,pv,d,_,U,(dk6.same s7).same s8,sd,λ H9 s9=>?_⟩;refine⟨_,U,_,U,sd.log,_,_,U,U,L.le (by rw[e4d];omega),U,?_⟩;rw[CB (rfl:V.str ("day "++AN d)=V.str ("day "++AN d))];exact q _
 have oN:CM Ns≠[]:=λ z=>by
  rw[z] at c;exact c rfl
 have lo:=MJ Ns;have lo0:0<(CM Ns).length:=by
  cases e:CM Ns with
  |nil=>exact absurd e oN
  |cons _ _=>simp
 generalize (rdAll (Ns.map (OZ names))).1=nsD at ren dk dk6;have at_o:∀i:Int,0<=i->i<((CM Ns).length:Int)->∃v:Int,DK ((CM Ns).map V.int) i=some (.int v)/\DQ Ns v:=λ i i0 i1=>by
  obtain⟨k,rfl⟩:=pY i0;have e:=BK (l:=CM Ns) (i:=k) ⋯;exact⟨_,F6 (by rw[EH,e];rfl),IX.mp (DL e)⟩
 have s07:=s06.trans s7;have S7:=s07.seq hSc;have dk7:=dk6.same s7;have t7:=hTB.same _ _ t6 s7;have hN7:=hN6.same s7;have en7:=s7 _ _ (s6 _ _ en5);have lp:(0:Int)<(((CM Ns).map V.int).length:Int):=by rw[BY];omega
 refine⟨_,U,_,U,a,ns,27,U,S7,by decide,λ c27=>⟨_,U,po,_,U,.inl (SqL.of eo7),_,_,U,U,lp,?_⟩⟩;have b27:=EG c27 lp;obtain⟨p,ap,op⟩:=at_o (c27%(((CM Ns).map V.int).length:Int)) b27.1 (by rw[BY] at b27 ⊢;exact b27.2);refine⟨po,_,_,_,U,U,SqL.of eo7,ap,?_⟩;obtain⟨gl,ag,ogl⟩:∃v:Int,DK ((CM Ns).map V.int) (-1)=some (.int v)/\DQ Ns v:=by
  have h1:=LB (xs:=(CM Ns).map V.int) (k:=1) (BU _) (by rw[BY];omega);have e:=BK (l:=CM Ns) (i:=(CM Ns).length-1) ⋯;refine⟨_,h1.trans (by rw[BY,EH,e];rfl),IX.mp (DL e)⟩
 refine⟨_,U,_,U,po,_,_,_,U,U,SqL.of eo7,ag,?_⟩;generalize hσ:List.set _ 7 (some (V.int p))=σ0;have e0:σ0=[some (.ref a),some (.int d),some (.int N),some (.ref pr),some (.ref pn),some (.ref x),some (.ref po),some (.int p),none,none,none,none,none,none]:=by
  rw[<- hσ];rfl
 clear hσ;subst e0;refine⟨λ σ' H'=>H'=H7/\∃g:Int,σ'=[some (.ref a),some (.int d),some (.int N),some (.ref pr),some (.ref pn),some (.ref x),some (.ref po),some (.int p),some (.int g),none,none,none,none,none]/\DQ Ns g,?_,?_⟩
 ·refine⟨_,U,a,ns,27,U,S7,by decide,λ c=>⟨_,_,U,U,⟨by decide,by decide⟩,_,_,U,U,(by show(0:Int)<2;decide),U,_,U,AZ (λ k=>?_) (λ k=>⟨U,gl,U,ogl⟩)⟩⟩;refine⟨_,U,_,U,a,ns,27,U,S7,by decide,λ c=>⟨_,_,U,U,⟨by decide,by decide⟩,_,U,po,_,U,.inl (SqL.of eo7),_,_,U,U,lp,?_⟩⟩;have b6:=EG (c/6) lp;obtain⟨g,ag,og⟩:=at_o (c/6%(((CM Ns).map V.int).length:Int)) b6.1 (by rw[BY] at b6 ⊢;exact b6.2);exact⟨po,_,_,_,U,U,SqL.of eo7,ag,U,g,U,og⟩
 intro σ' H7' z9;obtain⟨rfl,g,rfl,og⟩ := z9;obtain⟨inP,p0,p1⟩:=ren.on op;obtain⟨inG,g0,g1⟩:=ren.on og;have p1':p<(N:Int):=⋯;have g1':g<(N:Int):=⋯;have lowP:=low _ (JT p0 p1);have lowG:=low _ (JT g0 g1);have lP:=lowP.l8;have lG:=lowG.l8;refine⟨_,U,a,ns,26,U,S7,by decide,λ c26=>⟨_,U,c26,d,U,d1,d2,λ t tok=>?_⟩⟩;refine⟨_,U,_,U,_,U,_,U,_,U,d,N,pr,Ns,p,t,U,hN7,nok,hd,N1,⋯,p0,p1',λ pt Os H8 s8 fl lO mO=>?_⟩;have tabs:t.natAbs<10000000000000000000000000000000000000000:=by
  have h1:=tok.1;have h2:=tok.2;omega
 have lt:(AN t).length<=41:=by
  by_cases c:t<0
  ·have:=oT (t:=-t) ⋯ ⋯;rw[YV c,EY,show(("-":Str)).length=1 by decide];omega
  ·have:=oT (t:=t) ⋯ tabs;omega
 have en8:=s8 _ _ en7;have e1:(" ":Str).length=1:=by decide
 refine⟨_,U,_,U,pn,_,_,_,U,U,SqL.of en8,LO p0 p1,_,_,U,U,L.le (by rw[e1];omega),_,U,_,U,pn,_,_,_,U,U,SqL.of en8,LO g0 g1,_,_,U,U,L.le (by simp only[EY,e1];omega),_,_,U,U,L.le (by simp only[EY,e1];omega),_,U,_,U,TR tabs,_,_,U,U,L.le (by have:(IL (toString t)).length<=41:=lt;simp only[EY,e1];omega),?_⟩;have eE:E5 names p++" "++E5 names g++" "++IL (toString t)=E5 names p++" "++E5 names g++" "++AN t:=rfl;rw[eE];have lE:(E5 names p++" "++E5 names g++" "++AN t).length<=100:=by simp only[EY,e1];omega
 have er3:∀{w w':Str},w'=w++" " -> w'++(E5 names p++" "++E5 names g++" "++AN t)=HF w [.name (E5 names p),.name (E5 names g),.moment t]:=λ e=>qU _ _ _ e
 generalize E5 names p++" "++E5 names g++" "++AN t=en' at *;obtain⟨xs9,q9,o9,x1,x2,x3,x4⟩:=fl.last ⋯;have m9:=mO (Os.length-1) o9 x3;have mn9:=m9.2 g g0 g1';have a9:=GO (os:=o9) (i:=g) g0 (by rw[m9.1];exact g1');have eo9:Os.getD (Os.length-1) []=o9:=by rw[IP,x3];rfl
 have win:∀m∈Ns,G6 d m.2.2.2:=λ m hm=>(nw.rng m hm).2.2.1
 have bd9:∀y,o9.getD g.toNat none=some y->y.natAbs<10000000000000000000000000000000000000000:=λ y e=>by
  have h1:=M9 hd d2 win (mn9.1 y e).1;have h2:=tok.1;have h3:=tok.2;have h4:(((Os.length-1:Nat)):Int)<=3:=⋯;omega
 refine⟨_,U,_,U,pt,_,_,_,U,U,SqL.of x1,x2,_,U,q9,_,_,_,U,U,SqL.of x4,a9,_,U,bd9,?_⟩;rw[lO] at mn9;generalize ho9:o9.getD g.toNat none=O9 at *;have dk8:=dk7.same s8;have t8:=hTB.same _ _ t7 s8;obtain⟨dxA,pnA,prA,hxA,_⟩:=dk8.ex;have eS8:("soonest ":Str).length=8:=by decide
 have eL7:("latest ":Str).length=7:=by decide
 have eR6:("rides ":Str).length=6:=by decide
 have ln':=ren.len;generalize hσ:List.set _ 11 (some (V.str en'))=σ0;have e0:σ0=[some (.ref a),some (.int d),some (.int N),some (.ref pr),some (.ref pn),some (.ref x),some (.ref po),some (.int p),some (.int g),some (.int t),some (.ref pt),some (.str en'),none,none]:=by
  rw[<- hσ];rfl
 clear hσ;subst e0;refine⟨_,U,x,dxA,_,U,hxA,U,_,U,_,_,U,U,L.le (by rw[eS8];omega),?_⟩;refine bQ (E:=E0) hS.1 hS.2.1 hS.2.2.1 dk8 ren n4' low op og tok (er3 (by decide +kernel)) λ pl pv H10 s10 ePl ePv=>?_
 rw[hS.2.2.2];refine⟨x,pl,pv,d,nsD,M,ren.f p,ren.f g,t,U,nw.btin ren d1 d2 n4' (dk8.same s10) (hTB.same _ _ t8 s10) op og ePl,ePv,tok,λ o H11 u11 t11 mn hm1 bd=>?_⟩;obtain⟨k1,l1,m1⟩:=hm1;have mnN:Mn (λ y=>∃k,Jo d Ns k p t g y) o:=mn.congr λ y=>⟨λ⟨k,j⟩=>⟨k,ren.oj op og j⟩,λ⟨k,j⟩=>⟨k,ren.jo j⟩⟩
 have E1:o=O9:=XF mnN (ren.mn op og m1) ⋯ mn9;subst E1;refine⟨_,U,U,_,U,CU (by simp) ?_⟩;have U11:SameU H8 H11:=(SameU.of s10).trans u11;have dkB:=dk8.u U11;have hN11:=(hN7.same s8).u U11;obtain⟨dxB,pnB,prB,hxB,_⟩:=dkB.ex;refine⟨_,U,x,dxB,_,U,hxB,U,_,U,_,_,U,U,L.le (by rw[eL7];omega),?_⟩;refine bQ (E:=E0) hL.1 hL.2.1 hL.2.2.1 dkB ren n4' low op og tok (er3 (by decide +kernel)) λ pl pv H12 s12 ePl ePv=>?_
 rw[hL.2.2.2];refine⟨x,pl,pv,d,nsD,M,ren.f p,ren.f g,t,U,nw.btin ren d1 d2 n4' (dkB.same s12) (hTB.same _ _ t11 s12) op og ePl,ePv,tok,λ o2 H13 u13 t13 lj bd2 few=>?_⟩;have U13:SameU H11 H13:=(SameU.of s12).trans u13;refine⟨_,U,_,U,_,U,_,U,_,U,_,U,d,N,pr,Ns,p,g,t,U,hN11.u U13,nok,hd,N1,⋯,p0,p1',g0,g1',λ os H14 s14 lat=>?_⟩;have E2:=eX (lj.ren ren op og) (few.ren ren op og ⋯) lat p0 p1';rw[E2];refine⟨o2,U,bd2,U,_,U,CU (by simp) ?_⟩;have U14:SameU H11 H14:=U13.trans (SameU.of s14);have U8:SameU H8 H14:=U11.trans U14;have dkC:=dkB.u U14;have t14:=hTB.same _ _ t13 s14;have fl14:=fl.same U8;have x1':=U8.lst x1;have x4':OL H14 q9 o9:=U8.lst x4;refine⟨λ σ' H'=>H'=H14/\∃r:Option Nat,σ'=[some (.ref a),some (.int d),some (.int N),some (.ref pr),some (.ref pn),some (.ref x),some (.ref po),some (.int p),some (.int g),some (.int t),some (.ref pt),some (.str en'),some (.str (PY o)),some (.str (mB r))]/\((r=none/\o=none)\/∃k s9,r=some k/\o=some s9/\k<Os.length/\(Os.getD k []).getD g.toNat none=(Os.getD (Os.length-1) []).getD g.toNat none/\∀j,j<k->(Os.getD j []).getD g.toNat none≠(Os.getD (Os.length-1) []).getD g.toNat none),?_,?_⟩
 ·refine⟨_,U,_,U,pt,_,_,_,U,U,SqL.of x1',x2,_,U,q9,_,_,_,U,U,SqL.of x4',a9,?_⟩;cases o with
  |none=>exact⟨_,rfl,CU (by simp[B9]) ⟨rfl,none,rfl,.inl ⟨rfl,rfl⟩⟩⟩
  |some s9 =>
   refine⟨_,U,D2 (by simp[B9]) ?_⟩;refine⟨_,U,_,U,pt,Os,g,U,fl14,⋯,⋯,g0,λ o' ho'=>?_,λ k hk ek nk=>?_⟩
   ·obtain⟨j,hj⟩:=KF ho';rw[(mO j o' hj).1];exact g1'
   ·exact⟨(k:Int),U,TR ⋯,U,some k,U,.inr ⟨k,s9,U,U,hk,ek,nk⟩⟩
 intro σ' H15 z9;obtain⟨rfl,r,rfl,alt⟩ := z9;obtain⟨dxC,pnC,prC,hxC,_⟩:=dkC.ex;refine⟨_,U,x,dxC,_,U,hxC,U,_,U,_,_,U,U,L.le (by rw[eR6];omega),?_⟩;refine bQ (E:=E0) hW.1 hW.2.1 hW.2.2.1 dkC ren n4' low op og tok (er3 (by decide +kernel)) λ pl pv H16 s16 ePl ePv=>?_
 rw[hW.2.2.2];refine⟨x,pl,pv,d,nsD,M,ren.f p,ren.f g,t,U,nw.btin ren d1 d2 n4' (dkC.same s16) (hTB.same _ _ t14 s16) op og ePl,ePv,tok,λ r' H17 u17 t17 rj=>?_⟩;have E3:r'=r:=by
  rcases alt with⟨rfl,rfl⟩|⟨k,s9,rfl,rfl,hk,ek,nk⟩
  ·cases r' with
   |none=>rfl
   |some k =>
    obtain⟨_,s',_,js,_⟩:=rj.2 k rfl;exact absurd ⟨k,js⟩ (mn.2 rfl s')
  ·refine jT ren op og rj ⋯ g0 (λ j hj=>?_) (s:=s9) (by rw[eo9];exact ho9) (λ k y j=>(mnN.1 s9 rfl).2 y ⟨k,j⟩) hk ek nk;have e:=BK hj;have:=(mO j _ e).2 g g0 g1';have eg:Os.getD j []=Os[j]:=by rw[IP,e];rfl
   rw[eg];exact this
 subst E3;refine⟨_,U,U,_,U,CU (by simp) ?_⟩;have U17:SameU H15 H17:=(SameU.of s16).trans u17;have dkD:=dkC.u U17;obtain⟨dxD,pnD,prD,hxD,_⟩:=dkD.ex;refine⟨_,U,x,dxD,_,U,hxD,U,_,U,_,_,U,U,L.le (by rw[eS8];omega),?_⟩;refine bQ (E:=E0) hS.1 hS.2.1 hS.2.2.1 dkD ren n4' low op og tok (er3 (by decide +kernel)) λ pl pv H18 s18 ePl ePv=>?_
 rw[hS.2.2.2];refine⟨x,pl,pv,d,nsD,M,ren.f p,ren.f g,t,U,nw.btin ren d1 d2 n4' (dkD.same s18) (hTB.same _ _ t17 s18) op og ePl,ePv,tok,λ o3 H19 u19 t19 mn3 _ bd3=>?_⟩;have E4:o3=o:=mn3.uniq mn;subst E4;refine⟨_,U,U,?_⟩;rw[CB (rfl:V.str (PY o3)=V.str (PY o3))];exact q _
end
def Rw(K:W.Frag)(x:Str)(st:Stmt):Prop:=∃(f:Addr)(oc:Value)(od:Option Addr)(kV dc pm:Value)(an:Option Addr)(cd ct:Value) (sl:Array (Option Value)),W.nsIn K mainGlobals x=some (some (.ref f))/\K.lookup f=some ⟨oc,od,.func (W.fnOf x x (D7 st) (C7 st) (AG st) .none kV dc pm an cd ct),sl⟩/\W.codeIn K cd x=true/\W.keepIn K (.ref f)=true
theorem Rw.mk{K:W.Frag}{x:Str}{st:Stmt}{f:Addr}{oc:Value}{od:Option Addr}{kV dc pm:Value}{an:Option Addr}{cd ct:Value}{sl:Array (Option Value)}(a:W.nsIn K mainGlobals x=some (some (.ref f)))(l:K.lookup f=some ⟨oc,od,.func (W.fnOf x x (D7 st) (C7 st) (AG st) .none kV dc pm an cd ct),sl⟩)(c:W.codeIn K cd x=true)(k:W.keepIn K (.ref f)=true):Rw K x st:=⟨f,oc,od,kV,dc,pm,an,cd,ct,sl,a,l,c,k⟩
structure Has(K:W.Frag)(mg:Str->Option Value)(x:Str)(st:Stmt)(ps:List Str):Prop where
 ex:∃(f:Addr)(fd:FuncData),Fun K x x st f fd/\Binds K fd ps []/\mg x=some (.ref f)
section
variable {P:Program}{w:World}{base h:Heap}{K:W.Frag}{mg:Str->Option Value}{n:Nat}{x:Str}{st:Stmt}{ps:List Str}{sp:Sp}
theorem Rw.has(r:Rw K x st)(X:K.In h/\h.Ns mainGlobals mg)(hb:∀(kV dc pm:Value)(an:Option Addr)(cd ct:Value)(us:List Value),us.length=ps.length->bindArgs (W.fnOf x x (D7 st) (C7 st) (AG st) .none kV dc pm an cd ct) ⟨us,[]⟩=pure (ps.zip us)):Has K mg x st ps:=by
 obtain⟨f,oc,od,kV,dc,pm,an,cd,ct,sl,a,l,c,k⟩:=r;have F:=FH (st:=st) l c k;exact⟨⟨f,_,F,F.binds hb,W.mg_of X.1 X.2 a⟩⟩
theorem Has.cal(H:Has K mg x st ps)(ok:∀{f:Addr}{fd:FuncData},Fun K x x st f fd->FnOk P w K mg base B5 n f fd ps sp):Callee P w K mg base n x ps sp:=by
 obtain⟨f,fd,F,b,m⟩:=H.ex;exact Callee.mk' (ok F) b F.kp m
theorem Rw.h1(r:Rw K x st)(p0:Str)(X:K.In h/\h.Ns mainGlobals mg)(hb:∀(kV dc pm:Value)(an:Option Addr)(cd ct a0:Value),bindArgs (W.fnOf x x (D7 st) (C7 st) (AG st) .none kV dc pm an cd ct) ⟨[a0],[]⟩=pure [(p0,a0)]:=by intros;rfl):Has K mg x st [p0]:=r.has X λ _ _ _ _ _ _ us hl=>by
 obtain⟨_,rfl⟩:=jV hl;exact hb _ _ _ _ _ _ _
theorem Rw.h2(r:Rw K x st)(p0 p1:Str)(X:K.In h/\h.Ns mainGlobals mg)(hb:∀(kV dc pm:Value)(an:Option Addr)(cd ct a0 a1:Value),bindArgs (W.fnOf x x (D7 st) (C7 st) (AG st) .none kV dc pm an cd ct) ⟨[a0,a1],[]⟩=pure [(p0,a0),(p1,a1)]:=by intros;rfl):Has K mg x st [p0,p1]:=r.has X λ _ _ _ _ _ _ us hl=>by
 obtain⟨_,_,rfl⟩:=LN hl;exact hb _ _ _ _ _ _ _ _
theorem Rw.h3(r:Rw K x st)(p0 p1 p2:Str)(X:K.In h/\h.Ns mainGlobals mg)(hb:∀(kV dc pm:Value)(an:Option Addr)(cd ct a0 a1 a2:Value),bindArgs (W.fnOf x x (D7 st) (C7 st) (AG st) .none kV dc pm an cd ct) ⟨[a0,a1,a2],[]⟩=pure [(p0,a0),(p1,a1),(p2,a2)]:=by intros;rfl):Has K mg x st [p0,p1,p2]:=r.has X λ _ _ _ _ _ _ us hl=>by
 obtain⟨_,_,_,rfl⟩:=K8 hl;exact hb _ _ _ _ _ _ _ _ _
theorem Rw.h4(r:Rw K x st)(p0 p1 p2 p3:Str)(X:K.In h/\h.Ns mainGlobals mg)(hb:∀(kV dc pm:Value)(an:Option Addr)(cd ct a0 a1 a2 a3:Value),bindArgs (W.fnOf x x (D7 st) (C7 st) (AG st) .none kV dc pm an cd ct) ⟨[a0,a1,a2,a3],[]⟩=pure [(p0,a0),(p1,a1),(p2,a2),(p3,a3)]:=by intros;rfl):Has K mg x st [p0,p1,p2,p3]:=r.has X λ _ _ _ _ _ _ us hl=>by
 obtain⟨_,_,_,_,rfl⟩:=YK hl;exact hb _ _ _ _ _ _ _ _ _ _
theorem Rw.h5(r:Rw K x st)(p0 p1 p2 p3 p4:Str)(X:K.In h/\h.Ns mainGlobals mg)(hb:∀(kV dc pm:Value)(an:Option Addr)(cd ct a0 a1 a2 a3 a4:Value),bindArgs (W.fnOf x x (D7 st) (C7 st) (AG st) .none kV dc pm an cd ct) ⟨[a0,a1,a2,a3,a4],[]⟩=pure [(p0,a0),(p1,a1),(p2,a2),(p3,a3),(p4,a4)]:=by intros;rfl):Has K mg x st [p0,p1,p2,p3,p4]:=r.has X λ _ _ _ _ _ _ us hl=>by
 obtain⟨_,_,_,_,_,rfl⟩:=i9 hl;exact hb _ _ _ _ _ _ _ _ _ _ _
theorem Rw.h6(r:Rw K x st)(p0 p1 p2 p3 p4 p5:Str)(X:K.In h/\h.Ns mainGlobals mg)(hb:∀(kV dc pm:Value)(an:Option Addr)(cd ct a0 a1 a2 a3 a4 a5:Value),bindArgs (W.fnOf x x (D7 st) (C7 st) (AG st) .none kV dc pm an cd ct) ⟨[a0,a1,a2,a3,a4,a5],[]⟩=pure [(p0,a0),(p1,a1),(p2,a2),(p3,a3),(p4,a4),(p5,a5)]:=by intros;rfl):Has K mg x st [p0,p1,p2,p3,p4,p5]:=r.has X λ _ _ _ _ _ _ us hl=>by
 obtain⟨_,_,_,_,_,_,rfl⟩:=kT hl;exact hb _ _ _ _ _ _ _ _ _ _ _ _
theorem Rw.h7(r:Rw K x st)(p0 p1 p2 p3 p4 p5 p6:Str)(X:K.In h/\h.Ns mainGlobals mg)(hb:∀(kV dc pm:Value)(an:Option Addr)(cd ct a0 a1 a2 a3 a4 a5 a6:Value),bindArgs (W.fnOf x x (D7 st) (C7 st) (AG st) .none kV dc pm an cd ct) ⟨[a0,a1,a2,a3,a4,a5,a6],[]⟩=pure [(p0,a0),(p1,a1),(p2,a2),(p3,a3),(p4,a4),(p5,a5),(p6,a6)]:=by intros;rfl):Has K mg x st [p0,p1,p2,p3,p4,p5,p6]:=r.has X λ _ _ _ _ _ _ us hl=>by
 obtain⟨_,_,_,_,_,_,_,rfl⟩:=xB hl;exact hb _ _ _ _ _ _ _ _ _ _ _ _ _
end
abbrev NI(K:W.Frag)(x:Str)(f:Addr):Prop:=W.nsIn K mainGlobals x=some (some (.ref f))
abbrev LK(K:W.Frag)(f:Addr)(x:Str)(st:Stmt)(oc:Value)(od:Option Addr)(kV dc pm:Value)(an:Option Addr)(cd ct:Value)(sl:Array (Option Value)):Prop:=K.lookup f=some ⟨oc,od,.func (W.fnOf x x (D7 st) (C7 st) (AG st) .none kV dc pm an cd ct),sl⟩
abbrev CI(K:W.Frag)(cd:Value)(x:Str):Prop:=W.codeIn K cd x=true
abbrev KI(K:W.Frag)(f:Addr):Prop:=W.keepIn K (.ref f)=true
theorem all_mk{l:W.OpenLaw}{q:Program}{loose:List Str}{mean:ExcName->Option Value}{w:World}{K:W.Frag}{h:Heap}{mg mb:Str->Option Value}{fa:Addr}(X:K.In h)(G:PyProof.Rows.Top q (W.looseW q loose) mean mg mb h)(hfa:mg "law"=some (.ref fa))
  {f10 f11 f13 f23 f25 f30 f32 f38 f59 f60 f61 f62 f80 f81 f82 cDesk tc0 tp0 tc1 tp1 tc2 tp2 tc3 tp3:Addr} {dr0 dr1 dr2 dr3:DefRec} {od10 an10 od11 an11 od13 an13 od23 an23 od25 an25 od30 an30 od32 an32 od38 an38 od59 an59 od60 an60 od61 an61 od62 an62 od80 an80 od81 an81 od82 an82:Option Addr} {sl10 sl11 sl13 sl23 sl25 sl30 sl32 sl38 sl59 sl60 sl61 sl62 sl80 sl81 sl82:Array (Option Value)} {oc10 kV10 dc10 pm10 cd10 ct10 oc11 kV11 dc11 pm11 ct11 oc13 kV13 dc13 pm13 ct13 oc23 kV23 dc23 pm23 ct23 oc25 kV25 dc25 pm25 cd25 ct25 oc30 kV30 dc30 pm30 cd30 ct30 oc32 kV32 dc32 pm32 ct32 oc38 kV38 dc38 pm38 cd38 ct38 oc59 kV59 dc59 pm59 cd59 ct59 oc60 kV60 dc60 pm60 cd60 ct60 oc61 kV61 dc61 pm61 cd61 ct61 oc62 kV62 dc62 pm62 cd62 ct62 oc80 kV80 dc80 pm80 cd80 ct80 oc81 kV81 dc81 pm81 cd81 ct81 oc82 kV82 dc82 pm82 cd82 ct82:Value} {tk1 tk2 tk3 tk4 tk5 tk6 tk7 ks0 ks1 ks2 ks3 ks4 ks5 ks6 ks7 ks8 ka0 ka1 ka2 ka3 ka4 ka5 ka6 ka7 ka8 ka9:Tok} {aSh aAn ta0 ta1 ta2 ta3 ta4 ta5 ta6 ta7 ta8:Addr} {epS epA:Nat} {aw2 aw4 aw5 aw6 aw7 aw8:Addr}
  (r0_:Rw K "is_whole" cQ)
  (r1_:Rw K "is_window" bD)
  (r2_:Rw K "is_board" XZ)
  (r3_:Rw K "next_open" WL)
  (r4_:Rw K "last_open" cN)
  (r5_:Rw K "is_number" XO)
  (r6_:Rw K "is_road" Z6)
  (r7_:Rw K "is_net" Z9)
  (r8_:Rw K "need_net" YA)
  (r9_:Rw K "need_place" X8)
  (a10:NI K "first_where" f10) (l10:LK K f10 "first_where" GU oc10 od10 kV10 dc10 pm10 an10 cd10 ct10 sl10) (c10:CI K cd10 "first_where") (k10:KI K f10)
  (a11:NI K "set_off" f11) (l11:LK K f11 "set_off" HG oc11 od11 kV11 dc11 pm11 an11 (.ref tc0) ct11 sl11) (c11:CI K (.ref tc0) "set_off") (k11:KI K f11)
  (r12_:Rw K "come" Y5)
  (a13:NI K "leave" f13) (l13:LK K f13 "leave" HQ oc13 od13 kV13 dc13 pm13 an13 (.ref tc1) ct13 sl13) (c13:CI K (.ref tc1) "leave") (k13:KI K f13)
  (r14_:Rw K "standing" XC)
  (r15_:Rw K "stretches" bZ)
  (r16_:Rw K "first_told" b9)
  (r17_:Rw K "overlay" XA)
  (r18_:Rw K "put_window" aN)
  (r19_:Rw K "clock_from" YZ)
  (r20_:Rw K "picked" aF)
  (r21_:Rw K "joined" WW)
  (r22_:Rw K "sooner" ZN)
  (a23:NI K "ridden" f23) (l23:LK K f23 "ridden" HM oc23 od23 kV23 dc23 pm23 an23 (.ref tc2) ct23 sl23) (c23:CI K (.ref tc2) "ridden") (k23:KI K f23)
  (r24_:Rw K "behind" bJ)
  (a25:NI K "clock_within" f25) (l25:LK K f25 "clock_within" TY oc25 od25 kV25 dc25 pm25 an25 cd25 ct25 sl25) (c25:CI K cd25 "clock_within") (k25:KI K f25)
  (r26_:Rw K "clock_of" YO)
  (r27_:Rw K "fords_of" ZR)
  (r28_:Rw K "staying" c9)
  (r29_:Rw K "copied_table" X1)
  (a30:NI K "grown" f30) (l30:LK K f30 "grown" KN oc30 od30 kV30 dc30 pm30 an30 cd30 ct30 sl30) (c30:CI K cd30 "grown") (k30:KI K f30)
  (r31_:Rw K "ride_first" bC)
  (a32:NI K "rounds_to" f32) (l32:LK K f32 "rounds_to" HS oc32 od32 kV32 dc32 pm32 an32 (.ref tc3) ct32 sl32) (c32:CI K (.ref tc3) "rounds_to") (k32:KI K f32)
  (r33_:Rw K "rounds" ZS)
  (r34_:Rw K "table" W7)
  (r35_:Rw K "comes_by" cA)
  (r36_:Rw K "least_round" X6)
  (r37_:Rw K "fewest_rides" cF)
  (a38:NI K "read_number" f38) (l38:LK K f38 "read_number" SO oc38 od38 kV38 dc38 pm38 an38 cd38 ct38 sl38) (c38:CI K cd38 "read_number") (k38:KI K f38)
  (r39_:Rw K "is_name" YH)
  (r40_:Rw K "read_ends" bA)
  (r41_:Rw K "read_span" W2)
  (r42_:Rw K "read_window" YR)
  (r43_:Rw K "read_day" X9)
  (r44_:Rw K "read_board" XD)
  (r45_:Rw K "number_of" ZX)
  (r46_:Rw K "read_net" aX)
  (r47_:Rw K "show_window" oG)
  (r48_:Rw K "show_board" pJ)
  (r49_:Rw K "show_road" nX)
  (r50_:Rw K "show_net" c5)
  (r51_:Rw K "shape_of" XH)
  (r52_:Rw K "read_moment" cP)
  (r53_:Rw K "read_turns" W9)
  (r54_:Rw K "read_names" WR)
  (r55_:Rw K "read_value" XM)
  (r56_:Rw K "read_row" ZT)
  (r57_:Rw K "shown" a8)
  (r58_:Rw K "clock_between" Z2)
  (a59:NI K "soonest_row" f59) (l59:LK K f59 "soonest_row" TH oc59 od59 kV59 dc59 pm59 an59 cd59 ct59 sl59) (c59:CI K cd59 "soonest_row") (k59:KI K f59)
  (a60:NI K "latest_row" f60) (l60:LK K f60 "latest_row" SD oc60 od60 kV60 dc60 pm60 an60 cd60 ct60 sl60) (c60:CI K cd60 "latest_row") (k60:KI K f60)
  (a61:NI K "rides_row" f61) (l61:LK K f61 "rides_row" U7 oc61 od61 kV61 dc61 pm61 an61 cd61 ct61 sl61) (c61:CI K cd61 "rides_row") (k61:KI K f61)
  (a62:NI K "net_row" f62) (l62:LK K f62 "net_row" U3 oc62 od62 kV62 dc62 pm62 an62 cd62 ct62 sl62) (c62:CI K cd62 "net_row") (k62:KI K f62)
  (r63_:Rw K "_law_cell_at" YG)
  (r64_:Rw K "_law_day" cT)
  (r65_:Rw K "_law_stay" bU)
  (r66_:Rw K "_law_ride" c6)
  (r67_:Rw K "_law_roads" YM)
  (r68_:Rw K "_law_word" bS)
  (r69_:Rw K "_law_words" YN)
  (r70_:Rw K "_law_shown" cR)
  (r71_:Rw K "_law_text" X7)
  (r72_:Rw K "_law_order" c7)
  (r73_:Rw K "_law_moment" WI)
  (r74_:Rw K "_law_coming" aM)
  (r75_:Rw K "_law_leaving" WU)
  (r76_:Rw K "_law_rounds" XB)
  (r77_:Rw K "_law_latest" W5)
  (r78_:Rw K "_law_rides" XN)
  (r79_:Rw K "_law_told" bX)
  (a80:NI K "law" f80) (l80:LK K f80 "law" K7 oc80 od80 kV80 dc80 pm80 an80 cd80 ct80 sl80) (c80:CI K cd80 "law") (k80:KI K f80)
  (a81:W.findIn K (.ref cDesk) "__init__"=some (some (.ref f81))) (i81:W.isFn K (.ref f81)=true) (l81:K.lookup f81=some ⟨oc81,od81,.func (W.fnOf "__init__" "Desk.__init__" (D7 KW) (C7 KW) (AG KW) .none kV81 dc81 pm81 an81 cd81 ct81),sl81⟩) (c81:W.codeIn K cd81 "Desk.__init__"=true) (k81:W.keepIn K (.ref f81)=true)
  (a82:W.findIn K (.ref cDesk) "say"=some (some (.ref f82))) (i82:W.isFn K (.ref f82)=true) (l82:K.lookup f82=some ⟨oc82,od82,.func (W.fnOf "say" "Desk.say" (D7 L5) (C7 L5) (AG L5) .none kV82 dc82 pm82 an82 cd82 ct82),sl82⟩) (c82:W.codeIn K cd82 "Desk.say"=true) (k82:W.keepIn K (.ref f82)=true)
  (z0:W.nsIn K mainGlobals "len"=some none) (z1:W.nsIn K mainGlobals "max"=some none) (z2:W.nsIn K mainGlobals "min"=some none) (z3:W.nsIn K mainGlobals "all"=some none) (z4:W.nsIn K mainGlobals "any"=some none) (z5:W.nsIn K mainGlobals "zip"=some none) (z6:W.nsIn K mainGlobals "range"=some none) (z7:W.nsIn K mainGlobals "enumerate"=some none) (z8:W.nsIn K mainGlobals "isinstance"=some none) (z9:W.nsIn K mainGlobals "bool"=some none) (z10:W.nsIn K mainGlobals "int"=some none) (z11:W.nsIn K mainGlobals "tuple"=some none) (z12:W.nsIn K mainGlobals "list"=some none) (z13:W.nsIn K mainGlobals "str"=some none) (aCDesk:W.nsIn K mainGlobals "Desk"=some (some (.ref cDesk))) (pgDesk:W.plainGet K cDesk J5=true) (hdDesk:W.hasDictIn K cDesk=true) (poDesk:W.plainOver K cDesk=true) (saDesk:W.findIn K (.ref cDesk) "__setattr__"=some (some (.builtin "object.__setattr__"))) (mkDesk:W.makesIn K cDesk=true) (kcDesk:W.keepIn K (.ref cDesk)=true) (nfDesk_day:W.findIn K (.ref cDesk) "day"=some none) (nfDesk_names:W.findIn K (.ref cDesk) "names"=some none) (nfDesk_roads:W.findIn K (.ref cDesk) "roads"=some none) (xg1:W.nsIn K mainGlobals "FIGURES"=some (some (.str "0123456789" tk1))) (xg2:W.nsIn K mainGlobals "LETTERS"=some (some (.str "abcdefghijklmnopqrstuvwxyz" tk2))) (xg3:W.nsIn K mainGlobals "MOST_FIGURES_texts"=some (some (.int 16 tk3))) (xg4:W.nsIn K mainGlobals "MOST"=some (some (.int 1000000000000000 tk4))) (xg5:W.nsIn K mainGlobals "MOST_FIGURES_rows"=some (some (.int 30 tk5))) (xg6:W.nsIn K mainGlobals "MOST_TURNS"=some (some (.int 3 tk6))) (xg7:W.nsIn K mainGlobals "MOST_PARTY"=some (some (.int 6 tk7))) (xa_S:W.nsIn K mainGlobals "SHAPES"=some (some (.ref aSh))) (xa_A:W.nsIn K mainGlobals "ANSWERS"=some (some (.ref aAn))) (xk_S:K.lookup aSh=some (dU w.params [("soonest",ks0,.ref ta0),("latest",ks1,.ref ta1),("kept",ks2,.ref ta2),("rides",ks3,.ref ta3),("board",ks4,.ref ta4),("longest",ks5,.ref ta5),("open",ks6,.ref ta6),("shut",ks7,.ref ta7),("net",ks8,.ref ta8)] epS)) (xn_S:(aSh==sysModules)=false) (xn_A:(aAn==sysModules)=false) (xk_A:K.lookup aAn=some (dU w.params [("soonest",ka0,.ref f59),("latest",ka1,.ref f60),("kept",ka2,.ref aw2),("rides",ka3,.ref f61),("board",ka4,.ref aw4),("longest",ka5,.ref aw5),("meet",ka6,.ref aw6),("open",ka7,.ref aw7),("shut",ka8,.ref aw8),("net",ka9,.ref f62)] epA)) (xy_0:LI K ta0 ["name","name","moment"]=true) (xy_1:LI K ta1 ["name","name","moment"]=true) (xy_3:LI K ta3 ["name","name","moment"]=true) (xy_8:LI K ta8 []=true)
  (r0:(PyProof.Rows.recsOf q).find? (λ e=>e.name==IL "set_off")=some dr0) (t0:W.tabIn K "set_off"=some (tc0,tp0)) (n0:K.lookup tp0=none) (r1:(PyProof.Rows.recsOf q).find? (λ e=>e.name==IL "leave")=some dr1) (t1:W.tabIn K "leave"=some (tc1,tp1)) (n1:K.lookup tp1=none) (r2:(PyProof.Rows.recsOf q).find? (λ e=>e.name==IL "ridden")=some dr2) (t2:W.tabIn K "ridden"=some (tc2,tp2)) (n2:K.lookup tp2=none) (r3:(PyProof.Rows.recsOf q).find? (λ e=>e.name==IL "rounds_to")=some dr3) (t3:W.tabIn K "rounds_to"=some (tc3,tp3)) (n3:K.lookup tp3=none) (ne01:tp0≠tp1) (ne02:tp0≠tp2) (ne03:tp0≠tp3) (ne12:tp1≠tp2) (ne13:tp1≠tp3) (ne23:tp2≠tp3) :
  ∃(fd:FuncData) (tabs:List (Addr×Addr)),(∀(s:Shared)(v:Value),BindsTo s fd ⟨[v],[]⟩ [("script",v)])/\(∀t∈tabs,W.CodeHd h t.1 t.2/\h.get? t.2=some (W.tabObj #[])/\K.lookup t.2=none)/\∀base:Heap,K.In base->base.Ns mainGlobals mg->ES mg base->(∀t∈tabs,W.CodeHd base t.1 t.2)->FnOk l.prog w K mg base B5 27 fa fd ["script"] (spLaw K tabs):=by
 have e:=hfa.symm.trans (W.mg_of X G.g a80);cases e;have XG:=And.intro X G.g;have ClDesk:Cls K cDesk:=⟨pgDesk,hdDesk,poDesk,saDesk⟩
 have mCDesk:=W.mg_of X G.g aCDesk;have H0:=r0_.h1 "thing" XG;have H1:=r1_.h2 "day" "thing" XG;have H2:=r2_.h2 "day" "thing" XG;have H3:=r3_.h3 "day" "window" "t" XG;have H4:=r4_.h3 "day" "window" "t" XG;have H5:=r5_.h2 "count" "thing" XG;have H6:=r6_.h3 "day" "size" "thing" XG;have H7:=r7_.h3 "day" "size" "roads" XG;have H8:=r8_.h3 "day" "size" "roads" XG;have H9:=r9_.h2 "size" "thing" XG;have F10:=FH (st:=GU) l10 c10 k10;have b10:=F10.binds (ps:=["clock","holds"]) λ _ _ _ _ _ _ us hl=>by
  obtain⟨_,_,rfl⟩:=LN hl;rfl
 have m10:=W.mg_of X G.g a10;have F11:=FH (st:=HG) l11 c11 k11;have b11:=F11.binds (ps:=["day","clock","t"]) λ _ _ _ _ _ _ us hl=>by
  obtain⟨_,_,_,rfl⟩:=K8 hl;rfl
 have m11:=W.mg_of X G.g a11;have H12:=r12_.h3 "day" "clock" "t" XG;have F13:=FH (st:=HQ) l13 c13 k13;have b13:=F13.binds (ps:=["day","clock","s"]) λ _ _ _ _ _ _ us hl=>by
  obtain⟨_,_,_,rfl⟩:=K8 hl;rfl
 have m13:=W.mg_of X G.g a13;have H14:=r14_.h1 "day" XG;have H15:=r15_.h2 "day" "clock" XG;have H16:=r16_.h1 "row" XG;have H17:=r17_.h3 "day" "one" "other" XG;have H18:=r18_.h4 "clock" "a" "b" "c" XG;have H19:=r19_.h2 "day" "rows" XG;have H20:=r20_.h5 "p" "q" "waiting" "riding" "late" XG;have H21:=r21_.h4 "day" "one" "other" "late" XG;have H22:=r22_.h3 "day" "one" "other" XG;have F23:=FH (st:=HM) l23 c23 k23;have b23:=F23.binds (ps:=["day","p","q","ride","others"]) λ _ _ _ _ _ _ us hl=>by
  obtain⟨_,_,_,_,_,rfl⟩:=i9 hl;rfl
 have m23:=W.mg_of X G.g a23;have H24:=r24_.h3 "day" "one" "other" XG;have F25:=FH (st:=TY) l25 c25 k25;have b25:=F25.binds (ps:=["day","board"]) λ _ _ _ _ _ _ us hl=>by
  obtain⟨_,_,rfl⟩:=LN hl;rfl
 have m25:=W.mg_of X G.g a25;have H26:=r26_.h2 "day" "board" XG;have H27:=r27_.h2 "day" "roads" XG;have H28:=r28_.h3 "day" "size" "place" XG;have H29:=r29_.h1 "told" XG;have F30:=FH (st:=KN) l30 c30 k30;have b30:=F30.binds (ps:=["day","size","place","step"]) λ _ _ _ _ _ _ us hl=>by
  obtain⟨_,_,_,_,rfl⟩:=YK hl;rfl
 have m30:=W.mg_of X G.g a30;have H31:=r31_.h3 "day" "fords" "told" XG;have F32:=FH (st:=HS) l32 c32 k32;have b32:=F32.binds (ps:=["day","size","roads","goal"]) λ _ _ _ _ _ _ us hl=>by
  obtain⟨_,_,_,_,rfl⟩:=YK hl;rfl
 have m32:=W.mg_of X G.g a32;have H33:=r33_.h4 "day" "size" "roads" "goal" XG;have H34:=r34_.h4 "day" "size" "roads" "goal" XG;have H35:=r35_.h4 "day" "clock" "t" "s" XG;have H36:=r36_.h5 "day" "tables" "place" "t" "s" XG;have H37:=r37_.h7 "day" "size" "roads" "goal" "place" "t" "s" XG;have F38:=FH (st:=SO) l38 c38 k38;have b38:=F38.binds (ps:=["text","most_figures"]) λ _ _ _ _ _ _ us hl=>by
  obtain⟨_,_,rfl⟩:=LN hl;rfl
 have m38:=W.mg_of X G.g a38;have H39:=r39_.h1 "text" XG;have H40:=r40_.h1 "text" XG;have H41:=r41_.h1 "text" XG;have H42:=r42_.h2 "day" "text" XG;have H43:=r43_.h1 "text" XG;have H44:=r44_.h2 "day" "words" XG;have H45:=r45_.h2 "names" "name" XG;have H46:=r46_.h1 "text" XG;have H47:=r47_.h3 "a" "b" "c" XG;have H48:=r48_.h1 "board" XG;have H49:=r49_.h3 "start" "end" "board" XG;have H50:=r50_.h3 "day" "names" "roads" XG;have H51:=r51_.h1 "words" XG;have H52:=r52_.h1 "word" XG;have H53:=r53_.h1 "word" XG;have H54:=r54_.h2 "kind" "word" XG;have H55:=r55_.h3 "day" "kind" "word" XG;have H56:=r56_.h2 "day" "row" XG;have H57:=r57_.h1 "moment" XG;have H58:=r58_.h2 "desk" "places" XG;have F59:=FH (st:=TH) l59 c59 k59;have b59:=F59.binds (ps:=["desk","places","values"]) λ _ _ _ _ _ _ us hl=>by
  obtain⟨_,_,_,rfl⟩:=K8 hl;rfl
 have m59:=W.mg_of X G.g a59;have F60:=FH (st:=SD) l60 c60 k60;have b60:=F60.binds (ps:=["desk","places","values"]) λ _ _ _ _ _ _ us hl=>by
  obtain⟨_,_,_,rfl⟩:=K8 hl;rfl
 have m60:=W.mg_of X G.g a60;have F61:=FH (st:=U7) l61 c61 k61;have b61:=F61.binds (ps:=["desk","places","values"]) λ _ _ _ _ _ _ us hl=>by
  obtain⟨_,_,_,rfl⟩:=K8 hl;rfl
 have m61:=W.mg_of X G.g a61;have F62:=FH (st:=U3) l62 c62 k62;have b62:=F62.binds (ps:=["desk","places","values"]) λ _ _ _ _ _ _ us hl=>by
  obtain⟨_,_,_,rfl⟩:=K8 hl;rfl
 have m62:=W.mg_of X G.g a62;have H63:=r63_.h2 "script" "k" XG;have H64:=r64_.h1 "cell" XG;have H65:=r65_.h2 "cell" "room" XG;have H66:=r66_.h2 "cell" "day" XG;have H67:=r67_.h5 "script" "day" "size" "goal" "most" XG;have H68:=r68_.h2 "cell" "ahead" XG;have H69:=r69_.h2 "script" "size" XG;have H70:=r70_.h1 "window" XG;have H71:=r71_.h3 "day" "words" "roads" XG;have H72:=r72_.h1 "roads" XG;have H73:=r73_.h2 "cell" "day" XG;have H74:=r74_.h3 "day" "board" "t" XG;have H75:=r75_.h3 "day" "board" "s" XG;have H76:=r76_.h5 "day" "size" "roads" "start" "t" XG;have H77:=r77_.h6 "day" "size" "roads" "start" "goal" "s" XG;have H78:=r78_.h2 "told" "goal" XG;have H79:=r79_.h1 "moment" XG;have F80:=FH (st:=K7) l80 c80 k80;have b80:=F80.binds (ps:=["script"]) λ _ _ _ _ _ _ us hl=>by
  obtain⟨_,rfl⟩:=jV hl;rfl
 have m80:=W.mg_of X G.g a80;have F81:=FH (st:=KW) l81 c81 k81;have b81:=F81.binds (ps:=["self","text"]) λ _ _ _ _ _ _ us hl=>by
  obtain⟨_,_,rfl⟩:=LN hl;rfl
 have me81:Meth K cDesk "__init__" f81:=⟨a81,i81,k81⟩
 have F82:=FH (st:=L5) l82 c82 k82;have b82:=F82.binds (ps:=["self","row"]) λ _ _ _ _ _ _ us hl=>by
  obtain⟨_,_,rfl⟩:=LN hl;rfl
 have me82:Meth K cDesk "say" f82:=⟨a82,i82,k82⟩
 obtain⟨hd0,ho0⟩:=W.tab_of G X r0 t0;obtain⟨hd1,ho1⟩:=W.tab_of G X r1 t1;obtain⟨hd2,ho2⟩:=W.tab_of G X r2 t2;obtain⟨hd3,ho3⟩:=W.tab_of G X r3 t3;have B:Bl mg:=⟨W.mg_none_of X G.g z0,W.mg_none_of X G.g z1,W.mg_none_of X G.g z2,W.mg_none_of X G.g z3,W.mg_none_of X G.g z4,W.mg_none_of X G.g z5,W.mg_none_of X G.g z6,W.mg_none_of X G.g z7,W.mg_none_of X G.g z8,W.mg_none_of X G.g z9,W.mg_none_of X G.g z10,W.mg_none_of X G.g z11,W.mg_none_of X G.g z12,W.mg_none_of X G.g z13⟩
 refine⟨W.fnOf "law" "law" (D7 K7) (C7 K7) (AG K7) .none kV80 dc80 pm80 an80 cd80 ct80,[(tc0,tp0),(tc1,tp1),(tc2,tp2),(tc3,tp3)],λ s v=>.of_eq rfl,λ t ht=>?_,λ base _ _ hB hT=>?_⟩
 ·simp only[C6,GY,or_false] at ht;rcases ht with rfl|rfl|rfl|rfl
  ·exact⟨hd0,ho0,n0⟩
  ·exact⟨hd1,ho1,n1⟩
  ·exact⟨hd2,ho2,n2⟩
  ·exact⟨hd3,ho3,n3⟩
 have T0:=hT (tc0,tp0) (by simp);have T1:=hT (tc1,tp1) (by simp);have T2:=hT (tc2,tp2) (by simp);have T3:=hT (tc3,tp3) (by simp);have cal:=@Has.cal l.prog w base;have Cf0:=cal H0 λ F=>xW (n:=0) F B
 have Cl0:=cal H1 λ F=>tI (n:=1) F B Cf0
 have Cr0:=cal H2 λ F=>wM (n:=2) F B Cl0
 have Cg1:=cal H3 λ F=>X2 (n:=1) F B
 have Cy1:=Callee.mk' (P:=l.prog) (w:=w) (base:=base) (vT l11 c11 B T0 hB F10 b10 m10 Cg1) b11 k11 m11;have Cu0:=cal H12 λ F=>ZG (n:=3) F Cy1
 have Cg0:=cal H15 λ F=>uG (n:=3) F B
 have Cs0:=cal H16 λ F=>xE (n:=3) F
 have Cx1:=cal H17 λ F=>tN (n:=4) F B Cg0
 have Ct0:=cal H18 λ F=>fV (n:=3) F B
 have Cj0:=cal H19 λ F=>tW (n:=4) F B Cs0 Ct0
 have Cl1:=cal H20 λ F=>O0 (n:=4) F B
 have Ca2:=cal H21 λ F=>NP (n:=5) F B Cx1 Cl1 Cj0
 have Cn0:=cal H22 λ F=>QM (n:=6) F B Ca2
 have Ce0:=Callee.mk' (P:=l.prog) (w:=w) (base:=base) (nV F25 B b25 k25 m25 Cn0 10) b25 k25 m25;have Cm1:=cal H26 λ F=>tV (n:=18) F (Cr0.up (by decide)) Ce0
 have Ch1:=cal H4 λ F=>X4 (n:=1) F B
 have Cg2:=Callee.mk' (P:=l.prog) (w:=w) (base:=base) (T9 l13 c13 B T1 hB F10 b10 m10 Ch1) b13 k13 m13;have Ci0:=cal H5 λ F=>vM (n:=1) F Cf0
 have Cz1:=cal H6 λ F=>tU (n:=3) F B (Ci0.up (by decide)) Cr0
 have Cc2:=cal H7 λ F=>PL (n:=4) F B (Cf0.up (by decide)) Cz1
 have Cb2:=Callee.mk' (P:=l.prog) (w:=w) (base:=base) (PN l23 c23 B T2 hB F10 b10 m10) b23 k23 m23;have TBx:TB λ H=>TabOk H tp0 ⟨77,32,77,64⟩ (AW "set_off")/\TabOk H tp1 ⟨91,32,91,75⟩ (AW "leave")/\TabOk H tp2 ⟨173,28,173,54⟩ (AW "ridden")/\TabOk H tp3 ⟨234,34,234,75⟩ (AW "rounds_to"):=(IS _ _ _).and ((IS _ _ _).and ((IS _ _ _).and (IS _ _ _)))
 have CT:=iL (T:=λ H=>TabOk H tp0 ⟨77,32,77,64⟩ (AW "set_off")/\TabOk H tp1 ⟨91,32,91,75⟩ (AW "leave")/\TabOk H tp2 ⟨173,28,173,54⟩ (AW "ridden")/\TabOk H tp3 ⟨234,34,234,75⟩ (AW "rounds_to")) Cu0 (λ _ t=>t.1) (λ _ _ t s t'=>⟨t',GX t.2.1 t.1 s ne01.symm,GX t.2.2.1 t.1 s ne02.symm,GX t.2.2.2 t.1 s ne03.symm⟩);have CL:=Z8 (T:=λ H=>TabOk H tp0 ⟨77,32,77,64⟩ (AW "set_off")/\TabOk H tp1 ⟨91,32,91,75⟩ (AW "leave")/\TabOk H tp2 ⟨173,28,173,54⟩ (AW "ridden")/\TabOk H tp3 ⟨234,34,234,75⟩ (AW "rounds_to")) Cg2 (λ _ t=>t.2.1) (λ _ _ t s t'=>⟨GX t.1 t.2.1 s ne01,t',GX t.2.2.1 t.2.1 s ne12.symm,GX t.2.2.2 t.2.1 s ne13.symm⟩);have CR:=VD (T:=λ H=>TabOk H tp0 ⟨77,32,77,64⟩ (AW "set_off")/\TabOk H tp1 ⟨91,32,91,75⟩ (AW "leave")/\TabOk H tp2 ⟨173,28,173,54⟩ (AW "ridden")/\TabOk H tp3 ⟨234,34,234,75⟩ (AW "rounds_to")) Cb2 (λ _ t=>t.2.2.1) (λ _ _ t s t'=>⟨GX t.1 t.2.2.1 s ne02,GX t.2.1 t.2.2.1 s ne12,t',GX t.2.2.2 t.2.2.1 s ne23.symm⟩);have Cd2:=cal H24 λ F=>PM (n:=5) TBx F B (Cg0.up (by decide)) (CT.up (by decide)) (CR.up (by decide)) Cj0
 have Cp1:=cal H8 λ F=>tQ (n:=5) F Cc2
 have Ck0:=cal H9 λ F=>yR (n:=2) F Ci0
 have Cn1:=cal H14 λ F=>RH (n:=0) F
 have Co1:=cal H27 λ F=>vE (n:=19) F Cm1
 have Co0:=cal H28 λ F=>tG (n:=1) F B Cn1
 have Cc0:=cal H29 λ F=>ON (n:=0) F B
 have Cp0:=cal H31 λ F=>tS (n:=7) TBx F (Cc0.up (by decide)) Cn0 (Cd2.up (by decide))
 have Ci1:=Callee.mk' (P:=l.prog) (w:=w) (base:=base) (vA (n:=18) l32 c32 B T3 hB F30 b30 m30 TBx (λ _ t=>t.2.2.2) (λ _ _ t s t'=>⟨GX t.1 t.2.2.2 s ne03,GX t.2.1 t.2.2.2 s ne13,GX t.2.2.1 t.2.2.2 s ne23,t'⟩) Co1 (Co0.up (by decide)) (Cc0.up (by decide)) (Cp0.up (by decide))) b32 k32 m32;have Cv0:=cal H33 λ F=>NX (n:=21) F TBx (Cp1.up (by decide)) (Ck0.up (by decide)) Ci1
 have Cf2:=cal H34 λ F=>TK (n:=22) F Cv0
 have gt:Gt mg tk1 tk2 tk3 tk4:=⟨W.mg_of X G.g xg1,W.mg_of X G.g xg2,W.mg_of X G.g xg3,W.mg_of X G.g xg4⟩
 have gr:Gr mg tk5 tk6 tk7:=⟨W.mg_of X G.g xg5,W.mg_of X G.g xg6,W.mg_of X G.g xg7⟩
 have Ca0:=Callee.mk' (P:=l.prog) (w:=w) (base:=base) (LV (n:=0) gt F38 B) b38 k38 m38;have Cr2:=Callee.mk' (P:=l.prog) (w:=w) (base:=base) ((LV (n:=0) gt F38 B).imp RV) b38 k38 m38;have Cq0:=cal H39 λ F=>RN (n:=0) gt F B
 have Cm0:=cal H40 λ F=>WN (n:=1) F Cq0
 have Cj1:=cal H41 λ F=>WG (n:=1) gt F Cr2
 have Ch0:=cal H42 λ F=>aO (n:=2) gt F Cj1 (Cr2.up (by decide)) Cl0
 have Cr1:=cal H43 λ F=>XJ (n:=1) gt F Cr2
 have Cf1:=cal H44 λ F=>QB (n:=3) F B Ch0
 have Cy0:=cal H45 λ F=>UM (n:=0) F
 have Cs1:=cal H46 λ F=>UW (n:=4) F B (Cr1.up (by decide)) (Cm0.up (by decide)) Cf1 (Cy0.up (by decide))
 have Ck1:=cal H49 λ F=>Z5 (k:=3)
 have Cv1:=cal H50 λ F=>vP (n:=3) F Ck1
 have Cz0:=cal H52 λ F=>WZ (n:=1) gr F Ca0
 have Cc1:=cal H53 λ F=>WX (n:=1) gr F Ca0
 have Cd1:=cal H54 λ F=>Q5 (n:=2) F Cm0 (Cq0.up (by decide))
 have Ce1:=cal H55 λ F=>ZY (n:=3) F (Cz0.up (by decide)) (Cc1.up (by decide)) Ch0
 have kS:KDict K w.params aSh _:=⟨⟨_,xk_S⟩,(by simp only[PZ,pZ];decide +kernel),xn_S⟩
 have kA:KDict K w.params aAn _:=⟨⟨_,xk_A⟩,(by simp only[PZ,pZ];decide +kernel),xn_A⟩
 have mS:=W.mg_of X G.g xa_S;have mA:=W.mg_of X G.g xa_A;have Cq1:=cal H51 λ F=>V4 (n:=0) gr kS mS F B
 have Ct1:=cal H56 λ F=>bP (n:=4) F B (Cq1.up (by decide)) (Cd1.up (by decide)) Ce1
 have DX:DkT K cDesk:=⟨ClDesk,nfDesk_day,nfDesk_names,nfDesk_roads⟩
 have TIx:TBI (λ H=>TabOk H tp0 ⟨77,32,77,64⟩ (AW "set_off")/\TabOk H tp1 ⟨91,32,91,75⟩ (AW "leave")/\TabOk H tp2 ⟨173,28,173,54⟩ (AW "ridden")/\TabOk H tp3 ⟨234,34,234,75⟩ (AW "rounds_to")):=(ZL _ _ _).and ((ZL _ _ _).and ((ZL _ _ _).and (ZL _ _ _)));have K_Desk:KCal l.prog w K mg base 25 "Desk" cDesk ["self","text"] (spDInit (λ H=>TabOk H tp0 ⟨77,32,77,64⟩ (AW "set_off")/\TabOk H tp1 ⟨91,32,91,75⟩ (AW "leave")/\TabOk H tp2 ⟨173,28,173,54⟩ (AW "ridden")/\TabOk H tp3 ⟨234,34,234,75⟩ (AW "rounds_to")) cDesk):=⟨⟨_,_,⟨mkDesk,a81,i81,kcDesk⟩,(UB (n:=5) DX TBx TIx ⟨⟨_,_,_,_,_,_,_,_,_,_,rfl,l81,c81⟩⟩ Cs1).mono (by decide),b81⟩,mCDesk⟩
 have Cb1:=cal H57 λ F=>OA (n:=0) F B
 have Cd0:=cal H58 λ F=>bR (n:=23) DX TBx F B Cf2
 have Cu1:=cal H35 λ F=>sQ (n:=4) F CT
 have Ca1:=cal H36 λ F=>UD (n:=5) TBx F B Cu1
 have Cw0:=cal H37 λ F=>ZA (n:=22) TBx F Cv0 (Ck0.up (by decide)) (Ca1.up (by decide))
 have A0:iP l.prog w K mg base B5 25 ["desk","places","values"] f59 (spSoon (λ H=>TabOk H tp0 ⟨77,32,77,64⟩ (AW "set_off")/\TabOk H tp1 ⟨91,32,91,75⟩ (AW "leave")/\TabOk H tp2 ⟨173,28,173,54⟩ (AW "ridden")/\TabOk H tp3 ⟨234,34,234,75⟩ (AW "rounds_to")) cDesk):=⟨_,bY (n:=24) DX F59 (Cb1.up (by decide)) (CT.up (by decide)) Cd0,b59,_,_,_,l59⟩
 have A1:iP l.prog w K mg base B5 25 ["desk","places","values"] f60 (spLate (λ H=>TabOk H tp0 ⟨77,32,77,64⟩ (AW "set_off")/\TabOk H tp1 ⟨91,32,91,75⟩ (AW "leave")/\TabOk H tp2 ⟨173,28,173,54⟩ (AW "ridden")/\TabOk H tp3 ⟨234,34,234,75⟩ (AW "rounds_to")) cDesk):=⟨_,Z7 (n:=24) DX F60 (Cb1.up (by decide)) (CL.up (by decide)) Cd0,b60,_,_,_,l60⟩
 have A2:iP l.prog w K mg base B5 25 ["desk","places","values"] f61 (spRidesR (λ H=>TabOk H tp0 ⟨77,32,77,64⟩ (AW "set_off")/\TabOk H tp1 ⟨91,32,91,75⟩ (AW "leave")/\TabOk H tp2 ⟨173,28,173,54⟩ (AW "ridden")/\TabOk H tp3 ⟨234,34,234,75⟩ (AW "rounds_to")) cDesk):=⟨_,yL (n:=24) DX F61 B (CT.up (by decide)) Cd0 (Cw0.up (by decide)),b61,_,_,_,l61⟩
 have A3:iP l.prog w K mg base B5 25 ["desk","places","values"] f62 (spNetNil cDesk):=⟨_,(QK (n:=4) DX F62 Cv1).mono (by decide),b62,_,_,_,l62⟩
 have RO:=mZ kS kA (R:=[⟨"soonest",ta0,["name","name","moment"],f59,spSoon (λ H=>TabOk H tp0 ⟨77,32,77,64⟩ (AW "set_off")/\TabOk H tp1 ⟨91,32,91,75⟩ (AW "leave")/\TabOk H tp2 ⟨173,28,173,54⟩ (AW "ridden")/\TabOk H tp3 ⟨234,34,234,75⟩ (AW "rounds_to")) cDesk⟩,⟨"latest",ta1,["name","name","moment"],f60,spLate (λ H=>TabOk H tp0 ⟨77,32,77,64⟩ (AW "set_off")/\TabOk H tp1 ⟨91,32,91,75⟩ (AW "leave")/\TabOk H tp2 ⟨173,28,173,54⟩ (AW "ridden")/\TabOk H tp3 ⟨234,34,234,75⟩ (AW "rounds_to")) cDesk⟩,⟨"rides",ta3,["name","name","moment"],f61,spRidesR (λ H=>TabOk H tp0 ⟨77,32,77,64⟩ (AW "set_off")/\TabOk H tp1 ⟨91,32,91,75⟩ (AW "leave")/\TabOk H tp2 ⟨173,28,173,54⟩ (AW "ridden")/\TabOk H tp3 ⟨234,34,234,75⟩ (AW "rounds_to")) cDesk⟩,⟨"net",ta8,[],f62,spNetNil cDesk⟩]) ⟨λ e he=>by
  simp only[C6,GY,or_false] at he;rcases he with rfl|rfl|rfl|rfl
  ·exact ZV (by rfl) xy_0 (show IR "soonest"=true by decide +kernel)
  ·exact ZV (by rfl) xy_1 (show IR "latest"=true by decide +kernel)
  ·exact ZV (by rfl) xy_3 (show IR "rides"=true by decide +kernel)
  ·exact ZV (by rfl) xy_8 (show IR "net"=true by decide +kernel),λ e he=>by
  simp only[C6,GY,or_false] at he;rcases he with rfl|rfl|rfl|rfl<;>rfl⟩
 have Cw1:MCal l.prog w K mg base 26 cDesk "say" ["self","row"] (spSay cDesk _):=⟨⟨_,_,g9 (n:=25) DX RO kA mA F82 B (Ct1.up (by decide)) (λ q hq=>by
  simp only[pX,PZ,pZ,C6,GY,or_false] at hq;rcases hq with rfl|rfl|rfl|rfl
  ·exact A0
  ·exact A1
  ·exact A2
  ·exact A3),b82,me82⟩,ClDesk⟩
 have Cx0:=cal H63 λ F=>cI (n:=0) F B
 have Cl3:=cal H64 λ F=>X5 (n:=0) F
 have Cc3:=cal H65 λ F=>WC (n:=0) F B
 have Cd3:=cal H66 λ F=>PR (n:=0) F B
 have Cs2:=cal H67 λ F=>uA (n:=1) F B Cx0 Cc3 Cd3
 have Ce3:=cal H68 λ F=>SA (n:=0) F B
 have Ct2:=cal H69 λ F=>PP (n:=1) F B Cx0 Ce3
 have Cu2:=cal H70 λ F=>QP (n:=0) F B
 have Cf3:=cal H71 λ F=>RW (n:=1) F B Cu2
 have Cv2:=cal H72 λ F=>QD (n:=0) F
 have Cj2:=cal H73 λ F=>XY (n:=0) F
 have Ck2:=cal H74 λ F=>PH (n:=0) F B
 have Ch2:=cal H75 λ F=>S6 (n:=0) F B
 have Cl2:=cal H76 λ F=>yZ (n:=1) F B Ck2
 have Cm2:=cal H77 λ F=>vO (n:=1) F B Ch2
 have Cw2:=cal H78 λ F=>NS (n:=0) F B
 have Cg3:=cal H79 λ F=>VS (n:=0) F B
 exact iQ (n:=25) TBx (λ H h=>⟨WK (h (tc0,tp0) (by simp)),WK (h (tc1,tp1) (by simp)),WK (h (tc2,tp2) (by simp)),WK (h (tc3,tp3) (by simp))⟩) ⟨EZ,rfl,rfl,rfl⟩ ⟨ER _ EZ,rfl,rfl,rfl⟩ ⟨ER _ (ER _ EZ),rfl,rfl,rfl⟩ ⟨ER _ (ER _ (ER _ EZ)),rfl,rfl,rfl⟩ F80 B (Cx0.up (by decide)) (Cl3.up (by decide)) (Cs2.up (by decide)) (Ct2.up (by decide)) (Cf3.up (by decide)) (Cv2.up (by decide)) (Cj2.up (by decide)) (Cl2.up (by decide)) (Cm2.up (by decide)) (Cw2.up (by decide)) (Cg3.up (by decide)) K_Desk Cw1
theorem walk{l:W.OpenLaw}{q:Program}{loose:List Str}{XP:(Str->Option Value)->Heap->Prop}{YP:World->Heap->Prop}{d:DefRec}{K:Params->W.Frag}(hn:l.most=some 63)(hdf:d.params.defaults=[])
  (hY:∀(w:World)(h:Heap),YP w h->(K w.params).In h)
  (F:∀(w:World)(mg mb:Str->Option Value)(mean:ExcName->Option Value)(fa:Addr)(h:Heap),(K w.params).In h->PyProof.Rows.Top q (W.looseW q loose) mean mg mb h->mg d.name=some (.ref fa) ->
   ∃(fd:FuncData) (tabs:List (Addr×Addr)),(∀(s:Shared)(u:Value),BindsTo s fd ⟨[u],[]⟩ [("script",u)])/\(∀t∈tabs,W.CodeHd h t.1 t.2/\h.get? t.2=some (W.tabObj #[])/\(K w.params).lookup t.2=none) /\
    ∀base:Heap,(K w.params).In base->base.Ns mainGlobals mg->ES mg base->(∀t∈tabs,W.CodeHd base t.1 t.2)->FnOk l.prog w (K w.params) mg base B5 27 fa fd ["script"] (spLaw (K w.params) tabs)) :
  W.WalkO q loose XP YP l.row.toRowW d [] (λ f vs=>PySem.call f vs) :=
 L2.walk_ofT (n:=63) (k:=27) (x := "script") (sp:=spLaw) hn (by decide) hdf ⟨rfl,by decide,by decide⟩ hY F (λ K tabs H a ns hl hT hS=>⟨a,ns,rfl,hS,hl,hT,λ _=>rfl⟩)
end My
open PySem PySem.W PyProof.Rows
set_option maxRecDepth 100000 in
set_option maxHeartbeats 0 in
theorem PySem.Challenge.cw_fordbook_k83_the_desk_tells_the_soonest_holds : PySem.Challenge.rw_fordbook_k83_the_desk_tells_the_soonest.Holds := by
 w_on
 refine W.holds_law My.k_ws λ said=>?_
 refine W.holds_open (q:=My.view) (loose:=My.lO) (Xt:=My.xT) (XP:=W.XL My.view []) (YP:=W.Hook.says (W.kmHook My.KK My.kAs My.k_as [375,403,208,290,354,194])) My.k_left (W.Hook.of My.hK) (W.Hook.keeps My.hK)
  (λ s e=>W.xl_of s (zX.mp e).1) W.XL.keeps (by rfl) (by rfl) (by rfl) (λ s e=>W.recFacts_of (zX.mp e).2) (by rfl) (by assumption) (by decide +kernel) ⟨rfl,rfl,rfl,rfl,rfl,by decide +kernel⟩ ?hw ?hc
 case hw=>w_witness2
 k_fill
 refine My.walk (l:=PySem.Challenge.rw_fordbook_k83_the_desk_tells_the_soonest) rfl rfl (λ w h Y=>W.km_in_of Y) ?F
 case F =>
  intro w mg mb mean fa h KX G hmg;refine' My.all_mk KX G hmg ?r0_ ?r1_ ?r2_ ?r3_ ?r4_ ?r5_ ?r6_ ?r7_ ?r8_ ?r9_ ?a10 ?l10 ?c10 ?k10 ?a11 ?l11 ?c11 ?k11 ?r12_ ?a13 ?l13 ?c13 ?k13 ?r14_ ?r15_ ?r16_ ?r17_ ?r18_ ?r19_ ?r20_ ?r21_ ?r22_ ?a23 ?l23 ?c23 ?k23 ?r24_ ?a25 ?l25 ?c25 ?k25 ?r26_ ?r27_ ?r28_ ?r29_ ?a30 ?l30 ?c30 ?k30 ?r31_ ?a32 ?l32 ?c32 ?k32 ?r33_ ?r34_ ?r35_ ?r36_ ?r37_ ?a38 ?l38 ?c38 ?k38 ?r39_ ?r40_ ?r41_ ?r42_ ?r43_ ?r44_ ?r45_ ?r46_ ?r47_ ?r48_ ?r49_ ?r50_ ?r51_ ?r52_ ?r53_ ?r54_ ?r55_ ?r56_ ?r57_ ?r58_ ?a59 ?l59 ?c59 ?k59 ?a60 ?l60 ?c60 ?k60 ?a61 ?l61 ?c61 ?k61 ?a62 ?l62 ?c62 ?k62 ?r63_ ?r64_ ?r65_ ?r66_ ?r67_ ?r68_ ?r69_ ?r70_ ?r71_ ?r72_ ?r73_ ?r74_ ?r75_ ?r76_ ?r77_ ?r78_ ?r79_ ?a80 ?l80 ?c80 ?k80 ?a81 ?i81 ?l81 ?c81 ?k81 ?a82 ?i82 ?l82 ?c82 ?k82 ?z0 ?z1 ?z2 ?z3 ?z4 ?z5 ?z6 ?z7 ?z8 ?z9 ?z10 ?z11 ?z12 ?z13 ?aCDesk ?pgDesk ?hdDesk ?poDesk ?saDesk ?mkDesk ?kcDesk ?nfDesk_day ?nfDesk_names ?nfDesk_roads ?xg1 ?xg2 ?xg3 ?xg4 ?xg5 ?xg6 ?xg7 ?xa_S ?xa_A ?xk_S ?xn_S ?xn_A ?xk_A ?xy_0 ?xy_1 ?xy_3 ?xy_8 ?r0 ?t0 ?n0 ?r1 ?t1 ?n1 ?r2 ?t2 ?n2 ?r3 ?t3 ?n3 ?ne01 ?ne02 ?ne03 ?ne12 ?ne13 ?ne23
  (case aCDesk=>k_is)
  (case r0_|r1_|r2_|r3_|r4_|r5_|r6_|r7_|r8_|r9_=>(refine' My.Rw.mk ?a ?b ?c ?d;(case a=>k_is);(case b=>k_is);(case c=>k_is);(case d=>k_is)))
  (case a10|l10|c10|k10|a11|l11|c11|k11=>(try unfold My.NI);(try unfold My.LK);(try unfold My.CI);(try unfold My.KI);k_is)
  (case r12_=>(refine' My.Rw.mk ?a ?b ?c ?d;(case a=>k_is);(case b=>k_is);(case c=>k_is);(case d=>k_is)))
  (case a13|l13|c13|k13=>(try unfold My.NI);(try unfold My.LK);(try unfold My.CI);(try unfold My.KI);k_is)
  (case r14_|r15_|r16_|r17_|r18_|r19_|r20_|r21_|r22_=>(refine' My.Rw.mk ?a ?b ?c ?d;(case a=>k_is);(case b=>k_is);(case c=>k_is);(case d=>k_is)))
  (case a23|l23|c23|k23=>(try unfold My.NI);(try unfold My.LK);(try unfold My.CI);(try unfold My.KI);k_is)
  (case r24_=>(refine' My.Rw.mk ?a ?b ?c ?d;(case a=>k_is);(case b=>k_is);(case c=>k_is);(case d=>k_is)))
  (case a25|l25|c25|k25=>(try unfold My.NI);(try unfold My.LK);(try unfold My.CI);(try unfold My.KI);k_is)
  (case r26_|r27_|r28_|r29_=>(refine' My.Rw.mk ?a ?b ?c ?d;(case a=>k_is);(case b=>k_is);(case c=>k_is);(case d=>k_is)))
  (case a30|l30|c30|k30=>(try unfold My.NI);(try unfold My.LK);(try unfold My.CI);(try unfold My.KI);k_is)
  (case r31_=>(refine' My.Rw.mk ?a ?b ?c ?d;(case a=>k_is);(case b=>k_is);(case c=>k_is);(case d=>k_is)))
  (case a32|l32|c32|k32=>(try unfold My.NI);(try unfold My.LK);(try unfold My.CI);(try unfold My.KI);k_is)
  (case r33_|r34_|r35_|r36_|r37_=>(refine' My.Rw.mk ?a ?b ?c ?d;(case a=>k_is);(case b=>k_is);(case c=>k_is);(case d=>k_is)))
  (case a38|l38|c38|k38=>(try unfold My.NI);(try unfold My.LK);(try unfold My.CI);(try unfold My.KI);k_is)
  (case r39_|r40_|r41_|r42_|r43_|r44_|r45_|r46_|r47_|r48_|r49_|r50_|r51_|r52_|r53_|r54_|r55_|r56_|r57_|r58_=>(refine' My.Rw.mk ?a ?b ?c ?d;(case a=>k_is);(case b=>k_is);(case c=>k_is);(case d=>k_is)))
  (case a59|l59|c59|k59|a60|l60|c60|k60|a61|l61|c61|k61|a62|l62|c62|k62=>(try unfold My.NI);(try unfold My.LK);(try unfold My.CI);(try unfold My.KI);k_is)
  (case r63_|r64_|r65_|r66_|r67_|r68_|r69_|r70_|r71_|r72_|r73_|r74_|r75_|r76_|r77_|r78_|r79_=>(refine' My.Rw.mk ?a ?b ?c ?d;(case a=>k_is);(case b=>k_is);(case c=>k_is);(case d=>k_is)))
  (case a80|l80|c80|k80|a81=>(try unfold My.NI);(try unfold My.LK);(try unfold My.CI);(try unfold My.KI);k_is)
  (case i81=>k_is)
  (case l81|c81|k81|a82=>(try unfold My.NI);(try unfold My.LK);(try unfold My.CI);(try unfold My.KI);k_is)
  (case i82=>k_is)
  (case l82|c82|k82=>(try unfold My.NI);(try unfold My.LK);(try unfold My.CI);(try unfold My.KI);k_is)
  (case z0|z1|z2|z3|z4|z5|z6|z7|z8|z9|z10|z11|z12|z13|pgDesk|hdDesk|poDesk|saDesk|mkDesk|kcDesk|nfDesk_day|nfDesk_names|nfDesk_roads|xg1|xg2|xg3|xg4|xg5|xg6|xg7|xa_S|xa_A|xk_S=>k_is)
  (case xn_S|xn_A=>first|rfl|decide +kernel)
  (case xk_A=>k_is)
  (case xy_0|xy_1|xy_3|xy_8=>kernel_rfl)
  (case r0=>first|rfl|decide +kernel)
  (case t0=>first|k_is|rfl)
  (case n0|r1=>first|rfl|decide +kernel)
  (case t1=>first|k_is|rfl)
  (case n1|r2=>first|rfl|decide +kernel)
  (case t2=>first|k_is|rfl)
  (case n2|r3=>first|rfl|decide +kernel)
  (case t3=>first|k_is|rfl)
  (case n3|ne01|ne02|ne03|ne12|ne13|ne23=>first|rfl|decide +kernel)
