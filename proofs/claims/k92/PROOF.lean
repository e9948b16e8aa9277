import PyProof.Rows.All
import Wide.All
import OpenK.AllK
import Wide.FinOn
import PyProof.EqAt
import PyProof.EqKinds
import PyProof.TupleCall
import PySem.Challenge.RW_fordbook_k92_whole_time_turned_about
set_option Elab.async false
set_option linter.all false
set_option maxRecDepth 100000
open Array renaming getElem?_toList→zcc,getElem?_eq_getElem→zds,mem_toList_iff→zel,mem_of_getElem?→zfv,length_toList→zgc,toList→zhn,mk→zhq
open Bool renaming false_ne_true→zaz,and_eq_true→zbu,eq_false_iff→zby,eq_iff_iff→zbz,false_eq_true→zde,true_and→zee,false_and→zeh,and_eq_true_iff→zfw,or_eq_true→zgu,and_false→zha,not_true→zhf
open PySem.Heap renaming get?_push_of_some→zae,get?_push_size→zar,lt_size→zas,size_push→zdi,get?_update_other→zfi,get?_update_self→zfm
open Int renaming le_refl→zau,emod_lt_of_pos→zbk,emod_nonneg→zbr,mul_le_mul_of_nonneg_left→zbs,mul_one→zco,toNat_natCast→zcs,eq_ofNat_of_zero_le→zcu,emod_add_mul_ediv→zdb,lt_or_le→zdf,mul_sub→zdt,le_of_lt→zec,mul_add→zeo,neg_neg→zep,mul_ediv_add_emod→zfj,le_total→zgh,zero_add→zgi,ediv_nonneg→zgp,add_comm→zhg,mul_neg→zhk,negSucc→zhm
open List renaming getElem?_eq_getElem→zaa,getElem?_eq_some_iff→zab,length_map→zad,mem_singleton→zag,mem_cons→zah,mem_cons_of_mem→zai,mem_of_getElem?→zaj,getElem?_append_right→zak,getElem?_append_left→zal,length_append→zam,mem_cons_self→zan,getElem?_map→zap,mem_append_right→zaq,mem_map→zat,mem_append→zav,not_mem_nil→zaw,size_toArray→zax,map_append→zba,length_take→zbc,length_eq_zero_iff→zbe,mem_append_left→zbf,length_cons→zbg,all_eq_true→zbh,getElem_mem→zbi,take_length→zbj,getElem?_of_mem→zbl,length_singleton→zbm,getD_eq_getElem?_getD→zbn,nodup_cons→zbp,append_nil→zbv,take_add_one→zbw,flatMap_cons→zbx,nodup_append→zcb,mem_or_eq_of_mem_set→zce,map_cons→zcg,length_drop→zcj,lookup_cons→zck,take_of_length_le→zcm,drop_eq_nil_of_le→zcn,getElem?_set→zcp,foldl_cons→zcq,getElem?_drop→zct,mem_of_mem_take→zcv,drop_zero→zcw,range→zcz,length_pos_iff→zda,idxOf_lt_length_of_mem→zdc,pairwise_cons→zdd,mem_iff_getElem?→zdg,mem_range→zdh,replicate→zdj,mem_iff_getElem→zdk,foldl_append→zdl,pairwise_iff_getElem→zdm,pairwise_append→zdn,nil_append→zdo,mem_of_mem_drop→zdp,append_assoc→zdq,getElem?_take_of_lt→zdr,flatMap_append→zdu,any_eq_true→zdv,flatMap_nil→zdw,pairwise_singleton→zdx,of_mem_zip→zdy,map_map→zdz,length_replicate→zeb,take_append_drop→zef,replicate_succ'→zei,mem_flatMap→zej,filterMap_cons→zek,lookup→zem,map_nil→zen,getLast?_eq_some_iff→zes,getLast?_eq_none_iff→zet,getElem?_eq_none_iff→zeu,mem_filterMap→zew,append_of_mem→zex,getElem?_take→zey,getElem_idxOf→zez,eq_of_mem_replicate→zfa,length→zfb,pairwise_map→zfd,append_cancel_left→zfe,idxOf_append→zff,getElem?_set_self→zfg,drop_append→zfl,mem_filter→zfq,getElem?_set_ne→zfr,dropLast_concat→zfs,range_succ→zft,mem_map_of_mem→zfx,map_congr_left→zfy,take_left→zfz,foldl_map→zga,foldl_nil→zgb,map_inj_right→zgd,filter_append→zge,all_cons→zgf,reverse_cons→zgg,getElem?_inj→zgk,getElem_inj→zgl,zipIdx_cons→zgm,getElem_set→zgo,cons_append→zgq,all_map→zgs,length_set→zgt,zipIdx_nil→zgw,forIn_cons→zgx,find?_cons→zgy,forIn_nil→zhd,any_cons→zhe,map_drop→zhi,map_take→zhj,map_set→zhl,getD→zho
open Nat renaming le_refl→zao,lt_of_lt_of_le→zay,le_trans→zbb,ne_of_lt→zbd,eq_zero_or_pos→zbq,zero_le→zbt,lt_irrefl→zca,le_of_lt→zcf,lt_or_ge→zcl,toDigits→zcx,lt_succ_self→zea,sub_self→zed,ne_of_gt→zeq,le_of_eq→zer,mul_le_mul→zev,not_lt→zfc,min_eq_left→zfk,mul_le_mul_right→zfn,pow_le_pow_right→zfo,add_le_add_left→zfu,succ_mul→zgj,not_lt_zero→zgn,log2_lt→zgr,add_le_add→zgv,mod_lt→zhb,sub_zero→zhh
open Option renaming isSome_iff_exists→zfh,map_eq_some_iff→zfp,getD_none→zgz,getD_some→zhc,none→zhp
open Or renaming inl→zaf,inr→zcr
open PySem.Str renaming length_append→zac,ofString→zbo,empty→zcd,length→zch,join→zci,empty_append→zcy,append_assoc→zeg
theorem U.{u}{α:Sort u}{a:α}:a=a:=rfl
theorem Y9.{u,v,w}{α:Sort u}{β:Sort v}{γ:Sort w}{f:α->β->γ}:∀a b,f a b=f a b:=λ _ _=>rfl
theorem z09:0<=PySem.sizeLine:=by decide
theorem z19:1<=PySem.sizeLine:=by decide
theorem z29:2<=PySem.sizeLine:=by decide
theorem z39:3<=PySem.sizeLine:=by decide
theorem z49:4<=PySem.sizeLine:=by decide
theorem z69:6<=PySem.sizeLine:=by decide
theorem z89:8<=PySem.sizeLine:=by decide
theorem dT9{p:Prop}[Decidable p](h:p):decide p=true:=decide_eq_true h
theorem oT9{p:Prop}[Decidable p](h:decide p=true):p:=of_decide_eq_true h
local macro_rules|`(tactic|omega)=>`(tactic|first|lia|omega +splitNatSub)
local macro_rules|`(⋯)=>`(by omega)
local macro_rules|`(command|def $d:declId $s:optDeclSig $v:declVal)=>`(command|noncomputable def $d:declId $s:optDeclSig $v:declVal)
local macro_rules|`(command|abbrev $d:declId $s:optDeclSig $v:declVal)=>`(command|noncomputable abbrev $d:declId $s:optDeclSig $v:declVal)
local macro_rules|`(tactic|walk_at "d")=>`(tactic|try dsimp only [cx_k,cx_kn,as_nil,as_name,Nat.reduceAdd])
local macro_rules|`(tactic|obtain ⟨$p,$q,$r,*⟩:=$e)=>`(tactic|first|(refine Classical.byContradiction fun h=>?_;rcases $e:term with ⟨$p,$q,$r,*⟩<;>(refine h ?_;clear h))|rcases $e:term with ⟨$p,$q,$r,*⟩)
set_option hygiene false in
local macro_rules|`(tactic|walk_at "o")=>`(tactic|((focus(intro vs H Q E h;first|(rcases h with⟨rfl,_⟩;rfl)|(rcases h with⟨_,rfl,_⟩;rfl)|(rcases h with⟨_,_,rfl,_⟩;rfl)|(rcases h with⟨_,_,_,rfl,_⟩;rfl)|(rcases h with⟨_,_,_,_,rfl,_⟩;rfl)|(rcases h with⟨_,_,_,_,_,rfl,_⟩;rfl)|(rcases h with⟨_,_,_,_,_,_,rfl,_⟩;rfl)|(rcases h with⟨_,_,_,_,_,_,_,rfl,_⟩;rfl)|(rcases h with⟨_,_,_,_,_,_,_,_,rfl,_⟩;rfl)|(rcases h with⟨_,_,_,_,_,_,_,_,_,rfl,_⟩;rfl)));intro cdv A outer s H vs Q E hr h))
namespace L2
open PySem
def inClass(s:Stmt)(j:Nat):Stmt:=match s with
 | .ClassDef _ _ _ body _ _ _ _ _ _ _=>body.getD j (.Pass ⟨0,0,0,0⟩)
 |_=>.Pass ⟨0,0,0,0⟩
def qah9(s:Stmt):Arguments:=match s with
 | .FunctionDef _ a _ _ _ _ _ _ _ _=>a
 |_=>{ posonlyargs:=[],args:=[],vararg:=none,kwonlyargs:=[],kw_defaults:=[],kwarg:=none,defaults:=[] }
def qag9(s:Stmt):List Stmt:=match s with
 | .FunctionDef _ _ b _ _ _ _ _ _ _=>b
 |_=>[]
def qaa9(s:Stmt):Scope:=match s with
 | .FunctionDef _ _ _ _ _ _ sc _ _ _=>sc
 |_=>{ kind:=.function,names:=[],isGenerator:=false,isCoroutine:=false }
end L2
namespace My
open PySem L2
def top(i:Nat):Stmt:=PySem.Challenge.pw_fordbook_k92_whole_time_turned_about.main.body.getD i (.Pass ⟨0,0,0,0⟩)
abbrev qec9:Stmt:=top 11
abbrev qdm9:Stmt:=top 12
abbrev qeo9:Stmt:=top 13
abbrev qds9:Stmt:=top 14
abbrev qdl9:Stmt:=top 15
abbrev qdn9:Stmt:=top 17
abbrev qfa9:Stmt:=top 18
abbrev qgk9:Stmt:=top 19
abbrev qen9:Stmt:=top 20
abbrev qda9:Stmt:=top 21
abbrev qaw9:Stmt:=top 23
abbrev qbp9:Stmt:=top 24
abbrev qjj9:Stmt:=top 25
abbrev qdk9:Stmt:=top 26
abbrev qeh9:Stmt:=top 27
abbrev qdt9:Stmt:=top 29
abbrev qdb9:Stmt:=top 30
abbrev qdd9:Stmt:=top 31
abbrev qfe9:Stmt:=top 32
abbrev qdc9:Stmt:=top 33
abbrev qcz9:Stmt:=top 34
abbrev qgj9:Stmt:=top 36
abbrev qgh9:Stmt:=top 37
abbrev qge9:Stmt:=top 38
abbrev qco9:Stmt:=top 40
abbrev qgg9:Stmt:=top 41
abbrev qbn9:Stmt:=top 42
abbrev qej9:Stmt:=top 43
abbrev qeb9:Stmt:=top 45
abbrev qfi9:Stmt:=top 46
abbrev qby9:Stmt:=top 47
abbrev qfn9:Stmt:=top 48
abbrev qcy9:Stmt:=top 49
abbrev qbi9:Stmt:=top 51
abbrev qgd9:Stmt:=top 52
abbrev qhu9:Stmt:=top 53
abbrev qbu9:Stmt:=top 81
abbrev qfd9:Stmt:=top 82
abbrev qdu9:Stmt:=top 83
abbrev qdi9:Stmt:=top 84
abbrev qck9:Stmt:=top 85
abbrev qem9:Stmt:=top 86
abbrev qcw9:Stmt:=top 87
abbrev qdr9:Stmt:=top 88
abbrev qef9:Stmt:=top 89
abbrev qcm9:Stmt:=top 90
abbrev qde9:Stmt:=top 91
abbrev qdj9:Stmt:=top 92
abbrev qek9:Stmt:=top 93
abbrev qel9:Stmt:=top 99
abbrev qcn9:Stmt:=top 100
abbrev qct9:Stmt:=top 101
abbrev qcv9:Stmt:=top 102
abbrev qdf9:Stmt:=top 103
abbrev qed9:Stmt:=top 104
abbrev qfb9:Stmt:=top 106
abbrev qht9:Stmt:=top 108
abbrev qbq9:Stmt:=top 109
abbrev qbv9:Stmt:=top 110
abbrev qcd9:Stmt:=top 111
abbrev qbx9:Stmt:=top 115
abbrev qep9:Stmt:=top 120
abbrev qbz9:Stmt:=top 124
abbrev qee9:Stmt:=top 125
abbrev qei9:Stmt:=top 126
abbrev qeg9:Stmt:=top 127
abbrev qcx9:Stmt:=top 128
abbrev qbk9:Stmt:=top 129
abbrev qdp9:Stmt:=top 130
abbrev qdq9:Stmt:=top 131
abbrev qcl9:Stmt:=top 132
abbrev qcg9:Stmt:=top 133
abbrev qbs9:Stmt:=top 134
abbrev qcu9:Stmt:=top 135
abbrev qje9:Stmt:=top 136
abbrev qbg9:Stmt:=inClass (top 122) 0
abbrev qcj9:Stmt:=inClass (top 122) 1
abbrev qdo9:Stmt:=top 74
abbrev qfu9:Stmt:=top 54
abbrev qhn9:Stmt:=top 119
abbrev qgs9:Stmt:=top 113
abbrev qgn9:Stmt:=top 50
abbrev qhk9:Stmt:=top 118
abbrev qgp9:Stmt:=top 56
abbrev qga9:Stmt:=top 73
abbrev qho9:Stmt:=top 116
abbrev qiw9:Stmt:=top 75
abbrev qjq9:Stmt:=top 61
abbrev qey9:Stmt:=top 60
abbrev qfo9:Stmt:=top 68
abbrev qmn9:Stmt:=top 39
abbrev qhr9:Stmt:=top 112
abbrev qgq9:Stmt:=top 72
abbrev qdw9:Stmt:=top 59
abbrev qim9:Stmt:=top 57
abbrev qjz9:Stmt:=top 64
abbrev qfl9:Stmt:=top 63
abbrev qex9:Stmt:=top 70
abbrev qjs9:Stmt:=top 65
abbrev qhv9:Stmt:=top 67
abbrev qdx9:Stmt:=top 117
abbrev qgo9:Stmt:=top 114
abbrev qgr9:Stmt:=top 58
def fO9(a b:Str)(s:Stmt)(m:Str)(k c:Nat):Obj:=(Obj.mk (.type "function") none (.func (.mk a b (qah9 s) (.stmts (qag9 s)) (qaa9 s) 3 [] .none .none .none (.str m k) none (.ref c) .none 0)) #[])
def dE9(P:Params)(x:Str)(n:Nat)(v:Value):DictEntry:=DictEntry.mk (PyData.keyHash P x) (.str x n) v
def eC9(x:Str)(b a d e f g:Nat):Obj:=(Obj.mk (.type "type") none (@PySem.Data.cls (@PySem.ClassData.mk x [(.ref b)] [(.ref a),(.ref b),(.type "ValueError"),(.type "Exception"),(.type "BaseException"),(.type "object")] d x @Bool.true [] [] @Bool.false none @Bool.false)) #[(@Option.some @PySem.Value (.ref e)),none,(@Option.some @PySem.Value (.str x f)),(@Option.some @PySem.Value (.str x g)),(@Option.some @PySem.Value (.builtin "ValueError.__new__")),(@Option.some @PySem.Value (.bool @Bool.true))])
def cod(x:Str)(a:Tok)(y:Str)(b c:Tok)(d e f g i:Int)(j:Addr)(k:Int)(l:Addr)(m n o:Value)(p:Addr)(q r:Int)(s:Tok):Obj:=⟨.type "code",none,.fields #[.str x a,.str y b,.str "/claim/cut.py" c,.int d 0,.int e 0,.int f 0,.int g 0,.int i 0,.ref j,.bool true,.int k 0,.ref l,m,n,o,.ref p,.int q 0,.int r 0,.str "/claim/cut.py" s],#[]⟩
def cG9(x:Str)(a:Nat)(d e:Int)(A q:Nat):Obj:=cod x a x (a+1) (a+2) d e 0 0 3 (A-5) 181 (A-4) .none (.ref (A-3)) (.ref (A-2)) (A-1) q d (q+1)
def cH9(x:Str)(a:Nat)(d e:Int)(A q:Nat):Obj:=cod x a x (a+1) (a+2) d e 0 0 3 (A-3) 181 (A-2) .none .none .none (A-1) q d (q+1)
def w09(x:Str)(s:Stmt):=fO9 x x s "fordbook.windows" 335
def w19(x:Str)(s:Stmt):=fO9 x x s "fordbook.nets" 378
def w29(x:Str)(s:Stmt):=fO9 x x s "fordbook.clocks" 417
def w39(x:Str)(s:Stmt):=fO9 x x s "fordbook.stretches" 473
def w49(x:Str)(s:Stmt):=fO9 x x s "fordbook.reckon" 542
def w59(x:Str)(s:Stmt):=fO9 x x s "fordbook.tables" 633
def w69(x:Str)(s:Stmt):=fO9 x x s "fordbook.asks" 734
def w79(x:Str)(s:Stmt):=fO9 x x s "fordbook.fewest" 805
def w89(x:Str)(s:Stmt):=fO9 x x s "fordbook.walks" 833
def w99(x:Str)(s:Stmt):=fO9 x x s "fordbook.journeys" 859
def w109(x:Str)(s:Stmt):=fO9 x x s "fordbook.meetings" 875
def w119(x:Str)(s:Stmt):=fO9 x x s "fordbook.texts" 910
def w129(x:Str)(s:Stmt):=fO9 x x s "fordbook.rows" 1032
def w139(x:Str)(s:Stmt):=fO9 x x s "fordbook.waits" 1136
def w149(x:Str)(s:Stmt):=fO9 x x s "fordbook.desk" 1149
def w159(x:Str)(s:Stmt):=fO9 x x s "law_fordbook_k92_whole_time_turned_about" 1320
def o_22:Obj:=(Obj.mk (.type "tuple") none (.seq #[] 0) #[])
def o_28:Obj:=(Obj.mk (.type "tuple") none (.seq #[(.ref 24)] 0) #[])
def KK:Params->W.Frag:=λ P =>
 (nat_lit 2,(Obj.mk .none none (.dict #[] 0) #[]))::
 (nat_lit 3,(Obj.mk (.type "dict") none (.dict #[(dE9 P "__name__" 165 (.str "law_fordbook_k92_whole_time_turned_about" 1320)),(dE9 P "__doc__" 166 .none),(dE9 P "__package__" 167 .none),(dE9 P "__loader__" 168 (.builtin "__main__.__loader__#opaque")),(dE9 P "__spec__" 169 .none),(dE9 P "__annotations__" 170 (.ref 6)),(dE9 P "__builtins__" 171 (.ref 4)),(dE9 P "__file__" 173 (.str "/claim/cut.py" 172)),(dE9 P "__cached__" 174 .none),(dE9 P "FordError" 206 (.ref 24)),(dE9 P "NoBoard" 222 (.ref 37)),(dE9 P "NoNet" 238 (.ref 49)),(dE9 P "NoPlace" 254 (.ref 61)),(dE9 P "NoTurn" 270 (.ref 73)),(dE9 P "NoText" 286 (.ref 85)),(dE9 P "NoRow" 302 (.ref 97)),(dE9 P "NoName" 318 (.ref 109)),(dE9 P "NoWindow" 334 (.ref 121)),(dE9 P "is_whole" 343 (.ref 130)),(dE9 P "is_window" 349 (.ref 135)),(dE9 P "is_board" 355 (.ref 140)),(dE9 P "next_open" 366 (.ref 147)),(dE9 P "last_open" 377 (.ref 154)),(dE9 P "is_number" 387 (.ref 161)),(dE9 P "is_road" 393 (.ref 166)),(dE9 P "is_net" 399 (.ref 171)),(dE9 P "need_net" 408 (.ref 178)),(dE9 P "need_place" 416 (.ref 185)),(dE9 P "first_where" 429 (.ref 192)),(dE9 P "set_off" 442 (.ref 199)),(dE9 P "come" 452 (.ref 206)),(dE9 P "leave" 465 (.ref 213)),(dE9 P "standing" 472 (.ref 220)),(dE9 P "stretches" 487 (.ref 227)),(dE9 P "first_told" 494 (.ref 234)),(dE9 P "first_wait" 501 (.ref 241)),(dE9 P "overlay" 517 (.ref 248)),(dE9 P "put_window" 527 (.ref 255)),(dE9 P "clock_from" 541 (.ref 262)),(dE9 P "picked" 549 (.ref 267)),(dE9 P "joined" 566 (.ref 274)),(dE9 P "sooner" 575 (.ref 281)),(dE9 P "later" 584 (.ref 288)),(dE9 P "ridden" 600 (.ref 295)),(dE9 P "behind" 615 (.ref 302)),(dE9 P "clock_within" 624 (.ref 309)),(dE9 P "clock_of" 632 (.ref 316)),(dE9 P "fords_of" 640 (.ref 321)),(dE9 P "staying" 646 (.ref 326)),(dE9 P "copied_table" 652 (.ref 331)),(dE9 P "grown" 663 (.ref 338)),(dE9 P "ride_first" 676 (.ref 345)),(dE9 P "ride_last" 689 (.ref 352)),(dE9 P "rounds_to" 701 (.ref 359)),(dE9 P "rounds" 711 (.ref 366)),(dE9 P "table" 721 (.ref 373)),(dE9 P "table_from" 733 (.ref 380)),(dE9 P "need_turn" 742 (.ref 387)),(dE9 P "guarded" 758 (.ref 394)),(dE9 P "ask_first" 773 (.ref 401)),(dE9 P "guarded_rounds" 786 (.ref 408)),(dE9 P "level_rounds" 798 (.ref 415)),(dE9 P "levels" 804 (.ref 420)),(dE9 P "first_harms" 812 (.ref 425)),(dE9 P "groups" 826 (.ref 432)),(dE9 P "fewest" 832 (.ref 437)),(dE9 P "comes_by" 845 (.ref 444)),(dE9 P "least_round" 858 (.ref 451)),(dE9 P "fewest_rides" 874 (.ref 458)),(dE9 P "is_member" 884 (.ref 465)),(dE9 P "need_party" 890 (.ref 470)),(dE9 P "tables_by_start" 903 (.ref 477)),(dE9 P "meet_at" 909 (.ref 482)),(dE9 P "FIGURES" 913 (.str "0123456789" 912)),(dE9 P "LETTERS" 915 (.str "abcdefghijklmnopqrstuvwxyz" 914)),(dE9 P "MOST_FIGURES_texts" 917 (.int 16 916)),(dE9 P "MOST" 919 (.int 1000000000000000 918)),(dE9 P "read_number" 925 (.ref 487)),(dE9 P "is_name" 931 (.ref 492)),(dE9 P "read_ends" 939 (.ref 499)),(dE9 P "read_span" 949 (.ref 506)),(dE9 P "read_window" 961 (.ref 513)),(dE9 P "read_day" 970 (.ref 520)),(dE9 P "read_board" 976 (.ref 525)),(dE9 P "number_of" 984 (.ref 532)),(dE9 P "read_net" 1000 (.ref 539)),(dE9 P "show_window" 1009 (.ref 546)),(dE9 P "show_board" 1015 (.ref 551)),(dE9 P "show_road" 1025 (.ref 558)),(dE9 P "show_net" 1031 (.ref 563)),(dE9 P "MOST_FIGURES_rows" 1035 (.int 30 1034)),(dE9 P "MOST_TURNS" 1037 (.int 3 1036)),(dE9 P "MOST_PARTY" 1039 (.int 6 1038)),(dE9 P "SHAPES" 1079 (.ref 564)),(dE9 P "shape_of" 1086 (.ref 580)),(dE9 P "read_moment" 1094 (.ref 587)),(dE9 P "read_turns" 1102 (.ref 594)),(dE9 P "read_names" 1110 (.ref 601)),(dE9 P "read_value" 1119 (.ref 608)),(dE9 P "read_row" 1135 (.ref 615)),(dE9 P "longest" 1148 (.ref 622)),(dE9 P "shown" 1157 (.ref 629)),(dE9 P "clock_between" 1165 (.ref 636)),(dE9 P "soonest_row" 1174 (.ref 643)),(dE9 P "latest_row" 1183 (.ref 650)),(dE9 P "kept_row" 1193 (.ref 657)),(dE9 P "rides_row" 1204 (.ref 664)),(dE9 P "board_row" 1213 (.ref 671)),(dE9 P "longest_row" 1223 (.ref 678)),(dE9 P "meet_row" 1229 (.ref 683)),(dE9 P "boards_between" 1235 (.ref 688)),(dE9 P "open_row" 1245 (.ref 695)),(dE9 P "shut_row" 1251 (.ref 700)),(dE9 P "net_row" 1260 (.ref 707)),(dE9 P "ANSWERS" 1281 (.ref 708)),(dE9 P "Desk" 1319 (.ref 730)),(dE9 P "_law_cell_at" 1329 (.ref 741)),(dE9 P "_law_day" 1336 (.ref 748)),(dE9 P "_law_way" 1349 (.ref 755)),(dE9 P "_law_net" 1369 (.ref 762)),(dE9 P "_law_names" 1375 (.ref 767)),(dE9 P "_law_window_text" 1385 (.ref 774)),(dE9 P "_law_text" 1399 (.ref 781)),(dE9 P "_law_ends" 1415 (.ref 788)),(dE9 P "_law_number" 1424 (.ref 795)),(dE9 P "_law_turned" 1442 (.ref 802)),(dE9 P "_law_mirrored" 1452 (.ref 809)),(dE9 P "_law_waits" 1462 (.ref 816)),(dE9 P "law" 1480 (.ref 823))] 129) #[]))::
 (nat_lit 15,(Obj.mk (.type "tuple") none (.seq #[(.type "ValueError")] 0) #[]))::
 (nat_lit 22,o_22)::
 (nat_lit 23,(Obj.mk (.type "dict") none (.dict #[(dE9 P "__module__" 196 (.str "fordbook.errors" 187)),(dE9 P "__firstlineno__" 200 (.int 2 199)),(dE9 P "__static_attributes__" 201 (.ref 22)),(dE9 P "__weakref__" 203 (.ref 25)),(dE9 P "__doc__" 204 .none)] 3) #[]))::
 (nat_lit 24,(Obj.mk (.type "type") none (@PySem.Data.cls (@PySem.ClassData.mk (.ofString "FordError") [(.type "ValueError")] [(.ref 24),(.type "ValueError"),(.type "Exception"),(.type "BaseException"),(.type "object")] 23 (.ofString "FordError") @Bool.true [] [(.ref 37),(.ref 49),(.ref 61),(.ref 73),(.ref 85),(.ref 97),(.ref 109),(.ref 121)] @Bool.false none @Bool.false)) #[(@Option.some @PySem.Value (.ref 15)),none,(@Option.some @PySem.Value (.str "FordError" 189)),(@Option.some @PySem.Value (.str "FordError" 197)),(@Option.some @PySem.Value (.builtin "ValueError.__new__")),(@Option.some @PySem.Value (.bool @Bool.true))]))::
 (nat_lit 25,(Obj.mk (.type "getset_descriptor") none (.fields #[(.str "__weakref__" 202),(.ref 24),(.builtin "ExceptionGroup.__weakref__"),.none]) #[]))::
 (nat_lit 28,o_28)::
 (nat_lit 35,o_22)::
 (nat_lit 36,(Obj.mk (.type "dict") none (.dict #[(dE9 P "__module__" 214 (.str "fordbook.errors" 187)),(dE9 P "__firstlineno__" 218 (.int 4 217)),(dE9 P "__static_attributes__" 219 (.ref 35)),(dE9 P "__doc__" 220 .none)] 2) #[]))::
 (nat_lit 37,eC9 "NoBoard" 24 37 36 28 207 215)::
 (nat_lit 40,o_28)::
 (nat_lit 47,o_22)::
 (nat_lit 48,(Obj.mk (.type "dict") none (.dict #[(dE9 P "__module__" 230 (.str "fordbook.errors" 187)),(dE9 P "__firstlineno__" 234 (.int 6 233)),(dE9 P "__static_attributes__" 235 (.ref 47)),(dE9 P "__doc__" 236 .none)] 2) #[]))::
 (nat_lit 49,eC9 "NoNet" 24 49 48 40 223 231)::
 (nat_lit 52,o_28)::
 (nat_lit 59,o_22)::
 (nat_lit 60,(Obj.mk (.type "dict") none (.dict #[(dE9 P "__module__" 246 (.str "fordbook.errors" 187)),(dE9 P "__firstlineno__" 250 (.int 8 249)),(dE9 P "__static_attributes__" 251 (.ref 59)),(dE9 P "__doc__" 252 .none)] 2) #[]))::
 (nat_lit 61,eC9 "NoPlace" 24 61 60 52 239 247)::
 (nat_lit 64,o_28)::
 (nat_lit 71,o_22)::
 (nat_lit 72,(Obj.mk (.type "dict") none (.dict #[(dE9 P "__module__" 262 (.str "fordbook.errors" 187)),(dE9 P "__firstlineno__" 266 (.int 10 265)),(dE9 P "__static_attributes__" 267 (.ref 71)),(dE9 P "__doc__" 268 .none)] 2) #[]))::
 (nat_lit 73,eC9 "NoTurn" 24 73 72 64 255 263)::
 (nat_lit 76,o_28)::
 (nat_lit 83,o_22)::
 (nat_lit 84,(Obj.mk (.type "dict") none (.dict #[(dE9 P "__module__" 278 (.str "fordbook.errors" 187)),(dE9 P "__firstlineno__" 282 (.int 12 281)),(dE9 P "__static_attributes__" 283 (.ref 83)),(dE9 P "__doc__" 284 .none)] 2) #[]))::
 (nat_lit 85,eC9 "NoText" 24 85 84 76 271 279)::
 (nat_lit 88,o_28)::
 (nat_lit 95,o_22)::
 (nat_lit 96,(Obj.mk (.type "dict") none (.dict #[(dE9 P "__module__" 294 (.str "fordbook.errors" 187)),(dE9 P "__firstlineno__" 298 (.int 14 297)),(dE9 P "__static_attributes__" 299 (.ref 95)),(dE9 P "__doc__" 300 .none)] 2) #[]))::
 (nat_lit 97,eC9 "NoRow" 24 97 96 88 287 295)::
 (nat_lit 100,o_28)::
 (nat_lit 107,o_22)::
 (nat_lit 108,(Obj.mk (.type "dict") none (.dict #[(dE9 P "__module__" 310 (.str "fordbook.errors" 187)),(dE9 P "__firstlineno__" 314 (.int 16 313)),(dE9 P "__static_attributes__" 315 (.ref 107)),(dE9 P "__doc__" 316 .none)] 2) #[]))::
 (nat_lit 109,eC9 "NoName" 24 109 108 100 303 311)::
 (nat_lit 112,o_28)::
 (nat_lit 119,o_22)::
 (nat_lit 120,(Obj.mk (.type "dict") none (.dict #[(dE9 P "__module__" 326 (.str "fordbook.errors" 187)),(dE9 P "__firstlineno__" 330 (.int 18 329)),(dE9 P "__static_attributes__" 331 (.ref 119)),(dE9 P "__doc__" 332 .none)] 2) #[]))::
 (nat_lit 121,eC9 "NoWindow" 24 121 120 112 319 327)::
 (nat_lit 129,cG9 "is_whole" 337 21 1 129 341)::
 (nat_lit 130,w09 "is_whole" qec9 129)::
 (nat_lit 134,cH9 "is_window" 344 23 2 134 347)::
 (nat_lit 135,w09 "is_window" qdm9 134)::
 (nat_lit 139,cH9 "is_board" 350 29 2 139 353)::
 (nat_lit 140,w09 "is_board" qeo9 139)::
 (nat_lit 146,cG9 "next_open" 356 31 3 146 364)::
 (nat_lit 147,w09 "next_open" qds9 146)::
 (nat_lit 153,cG9 "last_open" 367 37 3 153 375)::
 (nat_lit 154,w09 "last_open" qdl9 153)::
 (nat_lit 160,cG9 "is_number" 380 44 2 160 385)::
 (nat_lit 161,w19 "is_number" qdn9 160)::
 (nat_lit 165,cH9 "is_road" 388 46 3 165 391)::
 (nat_lit 166,w19 "is_road" qfa9 165)::
 (nat_lit 170,cH9 "is_net" 394 52 3 170 397)::
 (nat_lit 171,w19 "is_net" qgk9 170)::
 (nat_lit 177,cG9 "need_net" 400 56 3 177 406)::
 (nat_lit 178,w19 "need_net" qen9 177)::
 (nat_lit 184,cG9 "need_place" 409 59 2 184 414)::
 (nat_lit 185,w19 "need_place" qda9 184)::
 (nat_lit 191,cG9 "first_where" 419 63 2 191 427)::
 (nat_lit 192,w29 "first_where" qaw9 191)::
 (nat_lit 198,cG9 "set_off" 430 73 3 198 440)::
 (nat_lit 199,w29 "set_off" qbp9 198)::
 (nat_lit 205,cG9 "come" 443 81 3 205 450)::
 (nat_lit 206,w29 "come" qjj9 205)::
 (nat_lit 212,cG9 "leave" 453 86 3 212 463)::
 (nat_lit 213,w29 "leave" qdk9 212)::
 (nat_lit 219,cG9 "standing" 466 94 1 219 470)::
 (nat_lit 220,w29 "standing" qeh9 219)::
 (nat_lit 226,cG9 "stretches" 475 97 2 226 485)::
 (nat_lit 227,w39 "stretches" qdt9 226)::
 (nat_lit 233,cG9 "first_told" 488 108 1 233 492)::
 (nat_lit 234,w39 "first_told" qdb9 233)::
 (nat_lit 240,cG9 "first_wait" 495 110 1 240 499)::
 (nat_lit 241,w39 "first_wait" qdd9 240)::
 (nat_lit 247,cG9 "overlay" 502 112 3 247 515)::
 (nat_lit 248,w39 "overlay" qfe9 247)::
 (nat_lit 254,cG9 "put_window" 518 128 4 254 525)::
 (nat_lit 255,w39 "put_window" qdc9 254)::
 (nat_lit 261,cG9 "clock_from" 528 135 2 261 539)::
 (nat_lit 262,w39 "clock_from" qcz9 261)::
 (nat_lit 266,cH9 "picked" 544 147 5 266 547)::
 (nat_lit 267,w49 "picked" qgj9 266)::
 (nat_lit 273,cG9 "joined" 550 152 4 273 564)::
 (nat_lit 274,w49 "joined" qgh9 273)::
 (nat_lit 280,cG9 "sooner" 567 162 3 280 573)::
 (nat_lit 281,w49 "sooner" qge9 280)::
 (nat_lit 287,cG9 "later" 576 166 3 287 582)::
 (nat_lit 288,w49 "later" qmn9 287)::
 (nat_lit 294,cG9 "ridden" 585 170 5 294 598)::
 (nat_lit 295,w49 "ridden" qco9 294)::
 (nat_lit 301,cG9 "behind" 601 187 3 301 613)::
 (nat_lit 302,w49 "behind" qgg9 301)::
 (nat_lit 308,cG9 "clock_within" 616 198 2 308 622)::
 (nat_lit 309,w49 "clock_within" qbn9 308)::
 (nat_lit 315,cG9 "clock_of" 625 203 2 315 630)::
 (nat_lit 316,w49 "clock_of" qej9 315)::
 (nat_lit 320,cH9 "fords_of" 635 208 2 320 638)::
 (nat_lit 321,w59 "fords_of" qeb9 320)::
 (nat_lit 325,cH9 "staying" 641 210 3 325 644)::
 (nat_lit 326,w59 "staying" qfi9 325)::
 (nat_lit 330,cH9 "copied_table" 647 212 1 330 650)::
 (nat_lit 331,w59 "copied_table" qby9 330)::
 (nat_lit 337,cG9 "grown" 653 214 4 337 661)::
 (nat_lit 338,w59 "grown" qfn9 337)::
 (nat_lit 344,cG9 "ride_first" 664 222 3 344 674)::
 (nat_lit 345,w59 "ride_first" qcy9 344)::
 (nat_lit 351,cG9 "ride_last" 677 227 3 351 687)::
 (nat_lit 352,w59 "ride_last" qgn9 351)::
 (nat_lit 358,cG9 "rounds_to" 690 232 4 358 699)::
 (nat_lit 359,w59 "rounds_to" qbi9 358)::
 (nat_lit 365,cG9 "rounds" 702 235 4 365 709)::
 (nat_lit 366,w59 "rounds" qgd9 365)::
 (nat_lit 372,cG9 "table" 712 239 4 372 719)::
 (nat_lit 373,w59 "table" qhu9 372)::
 (nat_lit 379,cG9 "table_from" 722 241 4 379 731)::
 (nat_lit 380,w59 "table_from" qfu9 379)::
 (nat_lit 386,cG9 "need_turn" 736 247 1 386 740)::
 (nat_lit 387,w69 "need_turn" qgp9 386)::
 (nat_lit 393,cG9 "guarded" 743 250 3 393 756)::
 (nat_lit 394,w69 "guarded" qim9 393)::
 (nat_lit 400,cG9 "ask_first" 759 256 3 400 771)::
 (nat_lit 401,w69 "ask_first" qgr9 400)::
 (nat_lit 407,cG9 "guarded_rounds" 774 262 5 407 784)::
 (nat_lit 408,w69 "guarded_rounds" qdw9 407)::
 (nat_lit 414,cG9 "level_rounds" 787 265 5 414 796)::
 (nat_lit 415,w69 "level_rounds" qey9 414)::
 (nat_lit 419,cH9 "levels" 799 273 5 419 802)::
 (nat_lit 420,w69 "levels" qjq9 419)::
 (nat_lit 424,cH9 "first_harms" 807 276 2 424 810)::
 (nat_lit 425,w79 "first_harms" qfl9 424)::
 (nat_lit 431,cG9 "groups" 813 285 2 431 824)::
 (nat_lit 432,w79 "groups" qjz9 431)::
 (nat_lit 436,cH9 "fewest" 827 299 2 436 830)::
 (nat_lit 437,w79 "fewest" qjs9 436)::
 (nat_lit 443,cG9 "comes_by" 835 302 4 443 843)::
 (nat_lit 444,w89 "comes_by" qhv9 443)::
 (nat_lit 450,cG9 "least_round" 846 305 5 450 856)::
 (nat_lit 451,w89 "least_round" qfo9 450)::
 (nat_lit 457,cG9 "fewest_rides" 861 311 7 457 872)::
 (nat_lit 458,w99 "fewest_rides" qex9 457)::
 (nat_lit 464,cG9 "is_member" 877 316 2 464 882)::
 (nat_lit 465,w109 "is_member" qgq9 464)::
 (nat_lit 469,cH9 "need_party" 885 320 2 469 888)::
 (nat_lit 470,w109 "need_party" qga9 469)::
 (nat_lit 476,cG9 "tables_by_start" 891 325 4 476 901)::
 (nat_lit 477,w109 "tables_by_start" qdo9 476)::
 (nat_lit 481,cH9 "meet_at" 904 333 5 481 907)::
 (nat_lit 482,w109 "meet_at" qiw9 481)::
 (nat_lit 486,cH9 "read_number" 920 348 2 486 923)::
 (nat_lit 487,w119 "read_number" qbu9 486)::
 (nat_lit 491,cH9 "is_name" 926 354 1 491 929)::
 (nat_lit 492,w119 "is_name" qfd9 491)::
 (nat_lit 498,cG9 "read_ends" 932 356 1 498 937)::
 (nat_lit 499,w119 "read_ends" qdu9 498)::
 (nat_lit 505,cG9 "read_span" 940 361 1 505 947)::
 (nat_lit 506,w119 "read_span" qdi9 505)::
 (nat_lit 512,cG9 "read_window" 950 370 2 512 959)::
 (nat_lit 513,w119 "read_window" qck9 512)::
 (nat_lit 519,cG9 "read_day" 962 378 1 519 968)::
 (nat_lit 520,w119 "read_day" qem9 519)::
 (nat_lit 524,cH9 "read_board" 971 384 2 524 974)::
 (nat_lit 525,w119 "read_board" qcw9 524)::
 (nat_lit 531,cG9 "number_of" 977 387 2 531 982)::
 (nat_lit 532,w119 "number_of" qdr9 531)::
 (nat_lit 538,cG9 "read_net" 985 391 1 538 998)::
 (nat_lit 539,w119 "read_net" qef9 538)::
 (nat_lit 545,cG9 "show_window" 1001 409 3 545 1007)::
 (nat_lit 546,w119 "show_window" qcm9 545)::
 (nat_lit 550,cH9 "show_board" 1010 411 1 550 1013)::
 (nat_lit 551,w119 "show_board" qde9 550)::
 (nat_lit 557,cG9 "show_road" 1016 413 3 557 1023)::
 (nat_lit 558,w119 "show_road" qdj9 557)::
 (nat_lit 562,cH9 "show_net" 1026 416 3 562 1029)::
 (nat_lit 563,w119 "show_net" qek9 562)::
 (nat_lit 564,(Obj.mk (.type "dict") none (.dict #[(dE9 P "soonest" 1040 (.ref 565)),(dE9 P "latest" 1044 (.ref 566)),(dE9 P "kept" 1048 (.ref 567)),(dE9 P "rides" 1053 (.ref 568)),(dE9 P "board" 1057 (.ref 569)),(dE9 P "longest" 1060 (.ref 570)),(dE9 P "open" 1063 (.ref 571)),(dE9 P "shut" 1066 (.ref 572)),(dE9 P "net" 1069 (.ref 573))] 9) #[]))::
 (nat_lit 565,(Obj.mk (.type "tuple") none (.seq #[(.str "name" 1041),(.str "name" 1042),(.str "moment" 1043)] 0) #[]))::
 (nat_lit 566,(Obj.mk (.type "tuple") none (.seq #[(.str "name" 1045),(.str "name" 1046),(.str "moment" 1047)] 0) #[]))::
 (nat_lit 567,(Obj.mk (.type "tuple") none (.seq #[(.str "name" 1049),(.str "name" 1050),(.str "moment" 1051),(.str "turns" 1052)] 0) #[]))::
 (nat_lit 568,(Obj.mk (.type "tuple") none (.seq #[(.str "name" 1054),(.str "name" 1055),(.str "moment" 1056)] 0) #[]))::
 (nat_lit 569,(Obj.mk (.type "tuple") none (.seq #[(.str "name" 1058),(.str "name" 1059)] 0) #[]))::
 (nat_lit 570,(Obj.mk (.type "tuple") none (.seq #[(.str "name" 1061),(.str "name" 1062)] 0) #[]))::
 (nat_lit 571,(Obj.mk (.type "tuple") none (.seq #[(.str "road" 1064),(.str "window" 1065)] 0) #[]))::
 (nat_lit 572,(Obj.mk (.type "tuple") none (.seq #[(.str "road" 1067),(.str "window" 1068)] 0) #[]))::
 (nat_lit 573,o_22)::
 (nat_lit 579,cG9 "shape_of" 1080 423 1 579 1084)::
 (nat_lit 580,w129 "shape_of" qel9 579)::
 (nat_lit 586,cG9 "read_moment" 1087 427 1 586 1092)::
 (nat_lit 587,w129 "read_moment" qcn9 586)::
 (nat_lit 593,cG9 "read_turns" 1095 432 1 593 1100)::
 (nat_lit 594,w129 "read_turns" qct9 593)::
 (nat_lit 600,cG9 "read_names" 1103 435 2 600 1108)::
 (nat_lit 601,w129 "read_names" qcv9 600)::
 (nat_lit 607,cG9 "read_value" 1111 439 3 607 1117)::
 (nat_lit 608,w129 "read_value" qdf9 607)::
 (nat_lit 614,cG9 "read_row" 1120 445 2 614 1133)::
 (nat_lit 615,w129 "read_row" qed9 614)::
 (nat_lit 621,cG9 "longest" 1138 465 2 621 1146)::
 (nat_lit 622,w139 "longest" qfb9 621)::
 (nat_lit 628,cG9 "shown" 1151 473 1 628 1155)::
 (nat_lit 629,w149 "shown" qht9 628)::
 (nat_lit 635,cG9 "clock_between" 1158 475 2 635 1163)::
 (nat_lit 636,w149 "clock_between" qbq9 635)::
 (nat_lit 642,cG9 "soonest_row" 1166 477 3 642 1172)::
 (nat_lit 643,w149 "soonest_row" qbv9 642)::
 (nat_lit 649,cG9 "latest_row" 1175 479 3 649 1181)::
 (nat_lit 650,w149 "latest_row" qcd9 649)::
 (nat_lit 656,cG9 "kept_row" 1184 481 3 656 1191)::
 (nat_lit 657,w149 "kept_row" qhr9 656)::
 (nat_lit 663,cG9 "rides_row" 1194 484 3 663 1202)::
 (nat_lit 664,w149 "rides_row" qgs9 663)::
 (nat_lit 670,cG9 "board_row" 1205 490 3 670 1211)::
 (nat_lit 671,w149 "board_row" qgo9 670)::
 (nat_lit 677,cG9 "longest_row" 1214 492 3 677 1221)::
 (nat_lit 678,w149 "longest_row" qbx9 677)::
 (nat_lit 682,cH9 "meet_row" 1224 495 3 682 1227)::
 (nat_lit 683,w149 "meet_row" qho9 682)::
 (nat_lit 687,cH9 "boards_between" 1230 499 2 687 1233)::
 (nat_lit 688,w149 "boards_between" qdx9 687)::
 (nat_lit 694,cG9 "open_row" 1236 501 3 694 1243)::
 (nat_lit 695,w149 "open_row" qhk9 694)::
 (nat_lit 699,cH9 "shut_row" 1246 508 3 699 1249)::
 (nat_lit 700,w149 "shut_row" qhn9 699)::
 (nat_lit 706,cG9 "net_row" 1252 514 3 706 1258)::
 (nat_lit 707,w149 "net_row" qep9 706)::
 (nat_lit 708,(Obj.mk (.type "dict") none (.dict #[(dE9 P "soonest" 1261 (.ref 643)),(dE9 P "latest" 1262 (.ref 650)),(dE9 P "kept" 1263 (.ref 657)),(dE9 P "rides" 1264 (.ref 664)),(dE9 P "board" 1265 (.ref 671)),(dE9 P "longest" 1266 (.ref 678)),(dE9 P "meet" 1267 (.ref 683)),(dE9 P "open" 1268 (.ref 695)),(dE9 P "shut" 1269 (.ref 700)),(dE9 P "net" 1270 (.ref 707))] 10) #[]))::
 (nat_lit 721,cod "__init__" 1294 "Desk.__init__" 1295 1296 519 2 0 0 3 716 181 717 .none (.ref 718) (.ref 719) 720 1300 519 1301)::
 (nat_lit 722,fO9 "__init__" "Desk.__init__" qbg9 "fordbook.desk" 1149 721)::
 (nat_lit 726,cod "say" 1303 "Desk.say" 1304 1305 525 2 0 0 3 723 181 724 .none .none .none 725 1306 525 1307)::
 (nat_lit 727,fO9 "say" "Desk.say" qcj9 "fordbook.desk" 1149 726)::
 (nat_lit 728,(Obj.mk (.type "tuple") none (.seq #[(.str "day" 1309),(.str "names" 1310),(.str "roads" 1311)] 0) #[]))::
 (nat_lit 729,(Obj.mk (.type "dict") none (.dict #[(dE9 P "__module__" 1289 (.str "fordbook.desk" 1149)),(dE9 P "__firstlineno__" 1293 (.int 517 1292)),(dE9 P "__init__" 1302 (.ref 722)),(dE9 P "say" 1308 (.ref 727)),(dE9 P "__static_attributes__" 1312 (.ref 728)),(dE9 P "__dict__" 1314 (.ref 731)),(dE9 P "__weakref__" 1316 (.ref 732)),(dE9 P "__doc__" 1317 .none)] 4) #[]))::
 (nat_lit 730,(Obj.mk (.type "type") none (@PySem.Data.cls (@PySem.ClassData.mk (.ofString "Desk") [(.type "object")] [(.ref 730),(.type "object")] 729 (.ofString "Desk") @Bool.true [] [] @Bool.false none @Bool.false)) #[none,none,(@Option.some @PySem.Value (.str "Desk" 1282)),(@Option.some @PySem.Value (.str "Desk" 1290)),(@Option.some @PySem.Value (.builtin "object.__new__")),(@Option.some @PySem.Value (.bool @Bool.true))]))::
 (nat_lit 731,(Obj.mk (.type "getset_descriptor") none (.fields #[(.str "__dict__" 1313),(.ref 730),(.builtin "function.__dict__"),(.builtin "function.__dict__#set")]) #[]))::
 (nat_lit 732,(Obj.mk (.type "getset_descriptor") none (.fields #[(.str "__weakref__" 1315),(.ref 730),(.builtin "ExceptionGroup.__weakref__"),.none]) #[]))::
 (nat_lit 740,cG9 "_law_cell_at" 1322 534 2 740 1327)::
 (nat_lit 741,w159 "_law_cell_at" qbz9 740)::
 (nat_lit 747,cG9 "_law_day" 1330 538 1 747 1334)::
 (nat_lit 748,w159 "_law_day" qee9 747)::
 (nat_lit 754,cG9 "_law_way" 1337 544 2 754 1347)::
 (nat_lit 755,w159 "_law_way" qei9 754)::
 (nat_lit 761,cG9 "_law_net" 1350 556 2 761 1367)::
 (nat_lit 762,w159 "_law_net" qeg9 761)::
 (nat_lit 766,cH9 "_law_names" 1370 582 2 766 1373)::
 (nat_lit 767,w159 "_law_names" qcx9 766)::
 (nat_lit 773,cG9 "_law_window_text" 1376 592 1 773 1383)::
 (nat_lit 774,w159 "_law_window_text" qbk9 773)::
 (nat_lit 780,cG9 "_law_text" 1386 597 3 780 1397)::
 (nat_lit 781,w159 "_law_text" qdp9 780)::
 (nat_lit 787,cG9 "_law_ends" 1400 604 3 787 1413)::
 (nat_lit 788,w159 "_law_ends" qdq9 787)::
 (nat_lit 794,cG9 "_law_number" 1416 620 1 794 1422)::
 (nat_lit 795,w159 "_law_number" qcl9 794)::
 (nat_lit 801,cG9 "_law_turned" 1425 632 2 801 1440)::
 (nat_lit 802,w159 "_law_turned" qcg9 801)::
 (nat_lit 808,cG9 "_law_mirrored" 1443 646 2 808 1450)::
 (nat_lit 809,w159 "_law_mirrored" qbs9 808)::
 (nat_lit 815,cG9 "_law_waits" 1453 652 2 815 1460)::
 (nat_lit 816,w159 "_law_waits" qcu9 815)::
 (nat_lit 822,cG9 "law" 1463 660 1 822 1478)::
 (nat_lit 823,w159 "law" qje9 822)::
 []
def kAs:List Addr:=[2,3,15,22,23,24,25,28,35,36,37,40,47,48,49,52,59,60,61,64,71,72,73,76,83,84,85,88,95,96,97,100,107,108,109,112,119,120,121,129,130,134,135,139,140,146,147,153,154,160,161,165,166,170,171,177,178,184,185,191,192,198,199,205,206,212,213,219,220,226,227,233,234,240,241,247,248,254,255,261,262,266,267,273,274,280,281,287,288,294,295,301,302,308,309,315,316,320,321,325,326,330,331,337,338,344,345,351,352,358,359,365,366,372,373,379,380,386,387,393,394,400,401,407,408,414,415,419,420,424,425,431,432,436,437,443,444,450,451,457,458,464,465,469,470,476,477,481,482,486,487,491,492,498,499,505,506,512,513,519,520,524,525,531,532,538,539,545,546,550,551,557,558,562,563,564,565,566,567,568,569,570,571,572,573,579,580,586,587,593,594,600,601,607,608,614,615,621,622,628,629,635,636,642,643,649,650,656,657,663,664,670,671,677,678,682,683,687,688,694,695,699,700,706,707,708,721,722,726,727,728,729,730,731,732,740,741,747,748,754,755,761,762,766,767,773,774,780,781,787,788,794,795,801,802,808,809,815,816,822,823]
def view:Program:={ PySem.Challenge.pw_fordbook_k92_whole_time_turned_about with main:={ PySem.Challenge.pw_fordbook_k92_whole_time_turned_about.main with body:=[top 1,top 2,top 3,top 4,top 5,top 6,top 7,top 8,top 9,top 11,top 12,top 13,top 14,top 15,top 17,top 18,top 19,top 20,top 21,top 23,top 24,top 25,top 26,top 27,top 29,top 30,top 31,top 32,top 33,top 34,top 36,top 37,top 38,top 39,top 40,top 41,top 42,top 43,top 45,top 46,top 47,top 48,top 49,top 50,top 51,top 52,top 53,top 54,top 56,top 57,top 58,top 59,top 60,top 61,top 63,top 64,top 65,top 67,top 68,top 70,top 72,top 73,top 74,top 75,top 77,top 78,top 79,top 80,top 81,top 82,top 83,top 84,top 85,top 86,top 87,top 88,top 89,top 90,top 91,top 92,top 93,top 95,top 96,top 97,top 98,top 99,top 100,top 101,top 102,top 103,top 104,top 106,top 108,top 109,top 110,top 111,top 112,top 113,top 114,top 115,top 116,top 117,top 118,top 119,top 120,top 121,top 122,top 124,top 125,top 126,top 127,top 128,top 129,top 130,top 131,top 132,top 133,top 134,top 135,top 136] } }
theorem k_ws1:PySem.Challenge.rw_fordbook_k92_whole_time_turned_about.row.wellSaid=true:=by kernel_rfl
theorem k_ws:PySem.Challenge.rw_fordbook_k92_whole_time_turned_about.wellSaid=true:=by
 unfold W.OpenLaw.wellSaid
 repeat' with_reducible refine W.look_both ?_ ?_
 exact k_ws1
 all_goals kernel_rfl
theorem k_as(P:Params):kAs=(KK P).map (·.1):=by kernel_rfl
namespace Tt
open PySem PySem.W PySem.Calls PyProof.Rows
def qkn9(tb:String->Option Builtin)(p:Program)(w:World)(n₀:Nat)(ann:Option Value):Nat->SharedT->Thread->Option SharedT
 |0,_,_=>none
 |n+1,s,t=>match through t with
  |true=>some s
  |false=>match stepOk n₀ ann t with
   |false=>none
   |true=>match stepT (denote tb) p w s t with
    |some (s',t')=>qkn9 tb p w n₀ ann n s' t'
    |none=>none
theorem qng9{tb:String->Option Builtin}{p:Program}{w:World}{n₀:Nat}{ann:Option Value}:∀{n:Nat}{s s':SharedT}{t:Thread},qkn9 tb p w n₀ ann n s t=some s'->topRun tb p w n₀ ann n s.abs t=some s'.abs
 |0,_,_,_,h=>by cases h
 |n+1,s,s',t,h=>by
  unfold qkn9 at h
  unfold topRun
  cases he:through t with
  |true=>rw[he] at h;cases h;rfl
  |false =>
   rw[he] at h
   cases hk:stepOk n₀ ann t with
   |false=>rw[hk] at h;cases h
   |true =>
    rw[hk] at h
    cases hs:stepT (denote tb) p w s t with
    |none=>rw[hs] at h;cases h
    |some r=>obtain⟨s₂,t₂⟩:=r;rw[hs] at h;rw[stepT_spec hs];exact qng9 h
def grow:List Obj->Nat->BT->BT
 | [],_,t=>t
 |o::l,n,t=>grow l (n+1) (t.ins n o)
def s0T(P:Params)(os:OsState):SharedT:=⟨grow (boot_heap P).objs.toList 0 .nil,11,{},zhq [],boot_drawn,boot_toks,os⟩
theorem s0_abs(P:Params)(os:OsState):(s0T P os).abs=⟨boot_heap P,zhq [],boot_drawn,boot_toks,os⟩:=by kernel_rfl
def chk(p:Program)(h₀:Heap)(s:Shared):Bool:=staticsOk (importedModules p.main.body) h₀ s.heap&&namesBound p s.heap&&gensDone s&&laidKept h₀ s.heap
theorem qsp9(P:Params):((boot_heap P).isNs mainGlobals,(boot_heap P).objs.size,(boot_heap P).nsMap mainGlobals "__annotations__")=(true,11,some (.ref 6)):=by kernel_rfl
def qRun(p:Program)(w:World)(n₀:Nat)(ann:Option Value):Nat->SharedT->Thread->Option SharedT
 |0,_,_=>none
 |n+1,s,t=>match through t with
  |true=>some s
  |false=>match Fast.tw6613529449190102663 n₀ ann t with
   |false=>none
   |true=>match Fast.tw10156331382660048174 (Fast.tw11892475500146522536 Fast.tw14364793385576792824) p w s t with
    |some (s',t')=>qRun p w n₀ ann n s' t'
    |none=>none
theorem qRun_eq{p:Program}{w:World}{n₀:Nat}{ann:Option Value}:∀(n:Nat)(s:SharedT)(t:Thread),qkn9 treeTable p w n₀ ann n s t=qRun p w n₀ ann n s t
 |0,_,_=>rfl
 |n+1,s,t=>by
  unfold qkn9 qRun
  rw[<- Fast.te6613529449190102663,<- Fast.te10156331382660048174,<- Fast.te11892475500146522536,<- Fast.te14364793385576792824]
  simp only[qRun_eq n]
def endsT(p:Program)(N:Nat)(w:World)(os:OsState):Option SharedT:=qRun p w 11 (some (.ref 6)) N (s0T w.params os) (topStub p)
def mrg(g:Nat->Obj):Nat->Nat->W.Frag->List Nat->List Obj
 |0,_,_,_=>[]
 |n+1,a,l,m=>match (match l with|(b,_)::_=>Nat.beq a b | []=>false) with
  |true=>(match l with|(_,o)::_=>o | []=>default)::mrg g n (a+1) l.tail m
  |false=>match (match m with|b::_=>Nat.beq a b | []=>false) with
   |true=>tabObj #[]::mrg g n (a+1) l m.tail
   |false=>g a::mrg g n (a+1) l m
def ifO{α β:Type}(o:Option α)(f:α->β)(b:β):β:=match o with
 |some a=>f a
 |none=>b
theorem left_of{p:Program}{N:Nat}{β:Type}{S:World->OsState->Shared}{obs:Shared->β}{good:World->β}(hb:opening p=plainProg p.main.scope.names)(hN:Nat.ble 600 N=true)(hf:∀s,fenceModules? p s=some s)
  (hA:∀w os,(endsT p N w os).map SharedT.abs=some (S w os)) (h1:∀w os,chk p (boot_heap w.params) (S w os)=true)
  (h2:∀w os,obs (S w os)=good w):∀w,(openEnds treeTable p w N).map obs=some (good w):=by
 intro w
 obtain⟨⟨hp,gs,dr,tk,os⟩,e,e2⟩:=zfp.mp (boot_open (N:=N) hb hN hf w)
 simp only[Prod.mk.injEq] at e2
 obtain⟨rfl,rfl,rfl,rfl⟩:=e2
 obtain⟨f1,f2,f3⟩:_/\_/\_:=by simpa only[Prod.mk.injEq] using qsp9 w.params
 obtain⟨s,hs,eS⟩:=zfp.mp (hA w os)
 have h1':=h1 w os
 rw[<- eS] at h1'
 have r:=qng9 ((qRun_eq _ _ _).trans hs)
 rw[s0_abs] at r
 unfold openEnds
 rw[e]
 show(topFrom treeTable p w N _).map obs=_
 have t:topFrom treeTable p w N ⟨boot_heap w.params,zhq [],boot_drawn,boot_toks,os⟩=some s.abs:=by
  unfold topFrom
  dsimp only
  rw[f1,f2,f3,r]
  show(match chk p (boot_heap w.params) s.abs with|true=>_|false=>_)=_
  rw[h1']
 rw[t,eS]
 exact congrArg some (h2 w os)
end Tt
section
open PySem PySem.W PySem.Spec PyProof.Rows
def pG:Program:=PySem.Challenge.rw_fordbook_k92_whole_time_turned_about.row.prog
def eT(w:World)(os:OsState):=Tt.endsT pG 11892 w os
def lO:List Str:=["SHAPES","ANSWERS"]
def xT:Shared->Bool:=(λ s=>W.xlAt My.view [] s&&W.recOk (W.RowW.records (W.OpenRow.toRowW PySem.Challenge.rw_fordbook_k92_whole_time_turned_about.row)) s)
abbrev hK:=W.kmHook My.KK My.kAs My.k_as [375,403,208,290,354,194]
theorem k_b:opening pG=plainProg pG.main.scope.names:=by kernel_rfl
theorem k_f(s:Shared):fenceModules? pG s=some s:=by kernel_rfl
def gO(w:World)(os:OsState)(a:Nat):Obj:=match Nat.blt a 7 with
 |true=>(boot_heap w.params).objs.toList.getD a default
 |false=>Tt.ifO (eT w os) (λ s=>(s.tree.get a).getD default) default
def sS(w:World)(os:OsState):Shared:=⟨⟨(Tt.mrg (gO w os) 824 0 (KK w.params) [19,32,44,56,68,80,92,104,116,125,132,137,142,149,156,163,168,173,180,187,194,201,208,215,222,229,236,243,250,257,264,269,276,283,290,297,304,311,318,323,328,333,340,347,354,361,368,375,382,389,396,403,410,417,422,427,434,439,446,453,460,467,472,479,484,489,494,501,508,515,522,527,534,541,548,553,560,575,582,589,596,603,610,617,624,631,638,645,652,659,666,673,680,685,690,697,702,717,724,736,743,750,757,764,769,776,783,790,797,804,811,818]).toArray,Tt.ifO (eT w os) (·.life) {}⟩,#[],Tt.ifO (eT w os) (·.drawn) boot_drawn,Tt.ifO (eT w os) (·.toks) 0,Tt.ifO (eT w os) (·.os) os⟩
def wF(v:World):World:=v.withFollow "special-get-raises" false
def wT(v:World):World:=v.withFollow "special-get-raises" true
theorem k_AF(v:World)(os:OsState):(eT (wF v) os).map SharedT.abs=some (sS (wF v) os):=by kernel_rfl
theorem k_AT(v:World)(os:OsState):(eT (wT v) os).map SharedT.abs=some (sS (wT v) os):=by kernel_rfl
theorem k_A(w:World):∀os:OsState,(eT w os).map SharedT.abs=some (sS w os):=byRow2 "special-get-raises" (P:=λ w:World=>∀os:OsState,(eT w os).map SharedT.abs=some (sS w os)) k_AF k_AT w
theorem k_c(w:World)(os:OsState):Tt.chk pG (boot_heap w.params) (sS w os)=true:=by kernel_rfl
theorem k_s0(w:World)(os:OsState):seen ((recsOf view).map (·.name)) (ownsOf view) [] { sS w os with gens:=#[] }=expectedOf view:=by kernel_rfl
theorem k_s1(w:World)(os:OsState):tabsOk view (sS w os)=true:=by kernel_rfl
theorem k_s2(w:World)(os:OsState):pinSeenD view (drecsOf view) (sS w os)=pinGoodD (drecsOf view):=by kernel_rfl
theorem k_s3(w:World)(os:OsState):plainSeenE view (looseW view lO) (sS w os)=plainGoodE view (looseW view lO):=by kernel_rfl
theorem k_s4(w:World)(os:OsState):wideSeen view (sS w os)=wideGood view:=by kernel_rfl
theorem prE{α β:Type}{a b:α}{c d:β}(h1:a=b)(h2:c=d):(a,c)=(b,d):=by rw[h1,h2]
theorem k_l1(w:World)(os:OsState):openSeen view lO (importedModules pG.main.body) xT true (sS w os)=openGood view lO:=by
 unfold openSeen openGood
 refine prE (k_s0 w os) (prE ?_ (prE ?_ (prE (k_s1 w os) (prE (k_s2 w os) (prE (k_s3 w os) (prE ?_ (prE (k_s4 w os) ?_)))))))
 all_goals kernel_rfl
theorem k_l2(w:World)(os:OsState):W.Hook.obs hK (sS w os)=W.Hook.val hK w:=by kernel_rfl
theorem k_left:W.LeftO PySem.Challenge.rw_fordbook_k92_whole_time_turned_about.row.prog My.view lO xT (W.Hook.obs hK) (W.Hook.val hK) 11892:=Tt.left_of k_b rfl k_f k_A k_c λ w os=>Prod.ext (k_l1 w os) (k_l2 w os)
end
end My
namespace L2
open PySem PySem.Spec PyProof.Rows
variable {C a b dx:Addr}{A:Around}{op:CmpOp}{c e tg:Expr}{fd:FuncData}{base h h':Heap}{pins:List (Addr×Obj)}{kw:List (Str×Value)}{fp:List Addr}{es:List Expr}{body:List Stmt}{ps:List Str}{us:List Value}{M:Model}{i k n t':Nat}{o:Obj}{p pos pos':Pos}{P:Program}{pl:Sem Bool}{s:Shared}{m x:Str}{mA mg:Str->Option Value}{E Q:Value->Shared->Prop}{K:W.Frag}{w:World}
abbrev Key:=Sum Int Str
def keyIs:Key->Value->Bool
 | .inl k,v=>Value.isInt k v
 | .inr x,v=>Value.isStrOf x v
def keyH(w:World):Key->Int
 | .inl k=>hashInt k
 | .inr x=>hashStr w x
theorem qci9:∀{k:Key}{v:Value},keyIs k v=true->(∃i t,k=Sum.inl i/\v=Value.int i t)\/(∃x t,k=Sum.inr x/\v=Value.str x t)
 | .inl i,v,h=>by
  obtain⟨t,e⟩:=Value.isInt_shape (k:=i) (v:=v) h
  exact .inl ⟨i,t,rfl,e⟩
 | .inr x,v,h=>by
  obtain⟨t,e⟩:=Value.isStrOf_shape (x:=x) (v:=v) h
  exact .inr ⟨x,t,rfl,e⟩
theorem keyIs_int(i:Int)(t:Tok):keyIs (.inl i) (.int i t)=true:=by simp[keyIs,Value.isInt]
theorem keyIs_str(x:Str)(t:Tok):keyIs (.inr x) (.str x t)=true:=by simp[keyIs,Value.isStrOf]
theorem key_ll(a b:Int):decide ((Sum.inl a:Key)=Sum.inl b)=(a==b):=by
 by_cases e:a=b
 ·subst e;simp
 ·have h:¬(Sum.inl a:Key)=Sum.inl b:=λ q=>e (Sum.inl.inj q)
  rw[decide_eq_false h]
  exact(beq_eq_false_iff_ne.mpr e).symm
theorem key_rr(a b:Str):decide ((Sum.inr a:Key)=Sum.inr b)=decide (a=b):=by
 by_cases e:a=b
 ·subst e;simp
 ·have h:¬(Sum.inr a:Key)=Sum.inr b:=λ q=>e (Sum.inr.inj q)
  rw[decide_eq_false h,decide_eq_false e]
theorem key_lr(a:Int)(b:Str):decide ((Sum.inl a:Key)=Sum.inr b)=false:=decide_eq_false (λ q=>nomatch q)
theorem key_rl(a:Str)(b:Int):decide ((Sum.inr a:Key)=Sum.inl b)=false:=decide_eq_false (λ q=>nomatch q)
def qiq9(prog:Program)(w:World):PySem.KeyKind prog w Key where
 is:=keyIs
 hash:=keyH w
 inj:=λ v a b ha hb=>by
  rcases qci9 ha with⟨i,t,rfl,rfl⟩|⟨x,t,rfl,rfl⟩
  ·rcases qci9 hb with⟨j,u,rfl,e⟩|⟨y,u,rfl,e⟩
   ·injection e with e1 _;rw[e1]
   ·exact nomatch e
  ·rcases qci9 hb with⟨j,u,rfl,e⟩|⟨y,u,rfl,e⟩
   ·exact nomatch e
   ·injection e with e1 _;rw[e1]
 byValue:=λ k v h=>by
  rcases qci9 h with⟨i,t,rfl,rfl⟩|⟨x,t,rfl,rfl⟩<;>rfl
 pyHash:=λ hv h=>by
  rcases qci9 hv with⟨i,t,rfl,rfl⟩|⟨x,t,rfl,rfl⟩
  ·exact wpAny_pyHash_int h
  ·exact wpAny_pyHash_str h
 eqBool:=λ hu hv h=>by
  rcases qci9 hu with⟨i,t,rfl,rfl⟩|⟨x,t,rfl,rfl⟩
  ·rcases qci9 hv with⟨j,u,rfl,rfl⟩|⟨y,u,rfl,rfl⟩
   ·rw[key_ll] at h;exact wpAny_eqBool_int h
   ·rw[key_lr] at h;exact SeqAt.EqAt.int_str i t y u _ _ _ _ h
  ·rcases qci9 hv with⟨j,u,rfl,rfl⟩|⟨y,u,rfl,rfl⟩
   ·rw[key_rl] at h;exact SeqAt.EqAt.str_int x t j u _ _ _ _ h
   ·rw[key_rr] at h;exact wpAny_eqBool_str h
 «strs»:=λ k x t v h=>by
  rcases qci9 h with⟨i,u,rfl,e⟩|⟨y,u,rfl,e⟩
  ·exact nomatch e
  ·injection e with e1 _
   subst e1
   cases v<;>rfl
theorem qoh9(prog:Program)(w:World)(i:Int)(t:Tok):(qiq9 prog w).is (.inl i) (.int i t)=true:=keyIs_int i t
theorem qhm9(prog:Program)(w:World)(x:Str)(t:Tok):(qiq9 prog w).is (.inr x) (.str x t)=true:=keyIs_str x t
inductive V where
 |non|bl (b:Bool)|int (i:Int)|str (x:Str)|byt (b:Array UInt8)|flt (b:UInt64)|ref (a:Addr)|ty (n:String)
 deriving DecidableEq
variable {vs:List V}{v:V}
def RelV:V->Value->Prop
 | .non,u=>u=Value.none
 | .bl b,u=>u=Value.bool b
 | .int i,u=>∃t,u=Value.int i t
 | .str x,u=>∃t,u=Value.str x t
 | .byt b,u=>∃t,u=Value.bytes b t
 | .flt b,u=>∃t,u=Value.float b t
 | .ref a,u=>u=Value.ref a
 | .ty n,u=>u=Value.type n
abbrev Vals:List V->List Value->Prop:=Paired RelV
theorem Vals.length{xs:List V}{us:List Value}(r:Vals xs us):xs.length=us.length:=Paired.length r
theorem Vals.get:∀{xs:List V}{us:List Value}{i:Nat}{x:V},Vals xs us->xs[i]?=some x->∃u,us[i]?=some u/\RelV x u
 |_,_,_,_,.nil,e=>by simp at e
 |_,_,0,_,.cons r _,e=>by simp at e;subst e;exact⟨_,rfl,r⟩
 |_,_,i+1,x,.cons _ t,e=>by
  obtain⟨u,h1,h2⟩:=Vals.get (i:=i) (x:=x) t (by simpa using e)
  exact⟨u,by simpa using h1,h2⟩
theorem Vals.set{x:V}{u:Value}(r:RelV x u):∀{xs:List V}{us:List Value}(i:Nat),Vals xs us->Vals (xs.set i x) (us.set i u)
 |_,_,_,.nil=>.nil
 |_,_,0,.cons _ t=>.cons r t
 |_,_,i+1,.cons q t=>.cons q (Vals.set r i t)
theorem Vals.append:∀{xs ys:List V}{us ws:List Value},Vals xs us->Vals ys ws->Vals (xs++ys) (us++ws)
 |_,_,_,_,.nil,s=>s
 |_,_,_,_,.cons r t,s=>.cons r (Vals.append t s)
theorem Vals.take:∀{xs:List V}{us:List Value}(n:Nat),Vals xs us->Vals (xs.take n) (us.take n)
 |_,_,0,_=>.nil
 |_,_,_+1,.nil=>.nil
 |_,_,n+1,.cons r t=>.cons r (Vals.take n t)
theorem Vals.drop:∀{xs:List V}{us:List Value}(n:Nat),Vals xs us->Vals (xs.drop n) (us.drop n)
 |_,_,0,r=>r
 |_,_,_+1,.nil=>.nil
 |_,_,n+1,.cons _ t=>Vals.drop n t
def RelO:Option V->Option Value->Prop
 |some v,some u=>RelV v u
 |none,none=>True
 |_,_=>False
def KV{κ:Type}:List (κ×V)->List (κ×Value)->Prop:=Paired λ(p:κ×V) (q:κ×Value)=>p.1=q.1/\RelV p.2 q.2
def kV:Key->V
 | .inl i=>.int i
 | .inr x=>.str x
inductive HO where
  |lst (xs:List V)
  |tup (xs:List V)
  |dK (kvs:List (Key×V))|dT (kvs:List (List Key×V))
  |set (S:Int->Bool) (n:Nat)
  |ins (C dx:Addr) (fs:List (Str×V))
  |own (x:Addr)
  |xd (fs:List (Str×V))
  |met (f x:Addr)
  |rng (lo hi:Int)
  |frz (o:Obj) (u:HO)
  |tbl (ps:Array Value)
  |ext (φ:Heap->Prop)
abbrev Hp:=Addr->Option HO
variable {H H':Hp}
def upd(H:Hp)(a:Addr)(o:HO):Hp:=λ b=>if b=a then some o else H b
theorem qaf9{o:HO}:upd H a o a=some o:=by unfold upd;rw[if_pos rfl]
theorem qap9{o:HO}(h:b≠a):upd H a o b=H b:=by unfold upd;rw[if_neg h]
theorem qaz9{o:HO}(h:H a=some o)(h':H b=none):a≠b:=by
 intro e;subst e;rw[h] at h';cases h'
section
variable (P:Program)(w:World)
def ObjOk(H:Hp)(h:Heap)(a:Addr):HO->Prop
 | .lst xs=>xs.length<=sizeLine/\∃(its:List Value)(n:Nat),Vals xs its/\h.get? a=some { cls:=.type "list",data:=.seq its.toArray n }
 | .tup xs=>xs.length<=sizeLine/\∃its:List Value,Vals xs its/\IsTup h a its.toArray
 | .dK kvs=>kvs.length<=sizeLine/\(a==sysModules)=false/\∃vs,KV kvs vs/\h.DictOf (qiq9 P w) a vs
 | .dT kvs=>kvs.length<=sizeLine/\(a==sysModules)=false/\∃xs:List (List Key×Addr×Value),
   Paired (λ(p:List Key×V) (q:List Key×Addr×Value)=>p.1=q.1/\H q.2.1=some (.tup (p.1.map kV))/\RelV p.2 q.2.2) kvs xs /\
   ∃o es ep,h.get? a=some o/\o.ExactDict/\o.data=.dict es ep/\es.toList=xs.map (entryOfKey (tupleKind (qiq9 P w)))/\(xs.map (·.1)).Nodup
 | .set S n=>h.SetOf (intKind P w) a S n
 | .ins C dx fs=>H dx=some (.own a)/\fs.length<=1000/\dx≠a/\h.get? a=some (W.instObj C dx) /\
   ∃mA,h.Ns1 dx mA/\(∀f,RelO (fs.lookup f) (mA f))/\PySem.Within mA (fs.map (·.1))
 | .own _=>∃o,h.get? a=some o
 | .xd fs=>∃mA,h.Ns1 a mA/\∀f,RelO (fs.lookup f) (mA f)
 | .rng lo hi=>∃t u v,h.get? a=some { cls:=.type "range",data:=.fields #[.int lo t,.int hi u,.int 1 v] }
 | .frz o u=>h.get? a=some o/\ObjOk H h a u
 | .tbl ps=>h.get? a=some { cls:=.none,data:=.fields ps }
 | .met f x=>h.get? a=some (W.methodObj (.ref f) (.ref x))
 | .ext φ=>φ h/\(∃o,h.get? a=some o)/\∀h1 h2:Heap,φ h1->(∀o,h1.get? a=some o->h2.get? a=some o)->φ h2
def HOk(H:Hp)(h:Heap):Prop:=∀a o,H a=some o->ObjOk P w H h a o
end
section
variable {o:HO}
theorem ObjOk.lt(x:ObjOk P w H h a o):a<h.objs.size:=by
 cases o with
 |lst xs=>obtain⟨_,_,_,_,e⟩:=x;exact zas e
 |tup xs=>obtain⟨_,_,_,p⟩:=x;exact p.lt
 |dK kvs=>obtain⟨_,_,_,_,o,_,_,e,_⟩:=x;exact zas e
 |dT kvs=>obtain⟨_,_,_,_,o,_,_,e,_⟩:=x;exact zas e
 |set S n=>obtain⟨o,_,_,_,e,_⟩:=x;exact zas e
 |ins C dx fs=>obtain⟨_,_,_,e,_⟩:=x;exact zas e
 |own y=>obtain⟨_,e⟩:=x;exact zas e
 |xd fs=>obtain⟨_,⟨_,_,_,e,_⟩,_⟩:=x;exact zas e
 |rng lo hi=>obtain⟨_,_,_,e⟩:=x;exact zas e
 |frz ob u=>obtain⟨e,_⟩:=x;exact zas e
 |tbl ps=>exact zas (show h.get? a=some _ from x)
 |met f y=>exact zas (show h.get? a=some _ from x)
 |ext φ=>obtain⟨_,⟨_,e⟩,_⟩:=x;exact zas e
theorem Paired.mapP{α β:Type}{F G:α->β->Prop}:∀{l₁:List α}{l₂:List β},Paired F l₁ l₂->(∀a b,F a b->G a b)->Paired G l₁ l₂
 |_,_,.nil,_=>.nil
 |_,_,.cons r t,f=>.cons (f _ _ r) (Paired.mapP t f)
theorem ObjOk.stay(x:ObjOk P w H h a o)(k:∀b u,(b=a\/H b=some (.own a))->h.get? b=some u->h'.get? b=some u)
  (ho:∀b,H b=some (.own a)->H' b=some (.own a)) (ht:∀b xs,H b=some (.tup xs)->H' b=some (.tup xs)):ObjOk P w H' h' a o:=by
 induction o with
 |lst xs=>obtain⟨z,its,n,r,e⟩:=x;exact⟨z,its,n,r,k _ _ (.inl rfl) e⟩
 |tup xs=>obtain⟨z,its,r,ob,e,c⟩:=x;exact⟨z,its,r,ob,k _ _ (.inl rfl) e,c⟩
 |dK kvs=>obtain⟨z,y,vs,r,ob,es,ep,e,c⟩:=x;exact⟨z,y,vs,r,ob,es,ep,k _ _ (.inl rfl) e,c⟩
 |dT kvs =>
  obtain⟨z,y,xs,r,ob,es,ep,e,c⟩:=x
  exact⟨z,y,xs,Paired.mapP r λ p q z=>⟨z.1,ht _ _ z.2.1,z.2.2⟩,ob,es,ep,k _ _ (.inl rfl) e,c⟩
 |set S n=>obtain⟨ob,es,ep,t,e,c⟩:=x;exact⟨ob,es,ep,t,k _ _ (.inl rfl) e,c⟩
 |ins C dx fs =>
  obtain⟨d,z,ne,e,mA,⟨od,es,ep,e2,c⟩,r⟩:=x
  exact⟨ho _ d,z,ne,k _ _ (.inl rfl) e,mA,⟨od,es,ep,k _ _ (.inr d) e2,c⟩,r⟩
 |own y=>obtain⟨ob,e⟩:=x;exact⟨ob,k _ _ (.inl rfl) e⟩
 |xd fs=>obtain⟨mA,⟨od,es,ep,e,c⟩,r⟩:=x;exact⟨mA,⟨od,es,ep,k _ _ (.inl rfl) e,c⟩,r⟩
 |rng lo hi=>obtain⟨t,u,v,e⟩:=x;exact⟨t,u,v,k _ _ (.inl rfl) e⟩
 |frz ob u ih=>obtain⟨e,q⟩:=x;exact⟨k _ _ (.inl rfl) e,ih q⟩
 |tbl ps =>
  have e:h.get? a=some { cls:=.none,data:=.fields ps }:=x
  show h'.get? a=some { cls:=.none,data:=.fields ps }
  exact k a _ (.inl rfl) e
 |met f y =>
  have e:h.get? a=some (W.methodObj (.ref f) (.ref y)):=x
  show h'.get? a=some (W.methodObj (.ref f) (.ref y))
  exact k a _ (.inl rfl) e
 |ext φ=>obtain⟨p,⟨o,e⟩,st⟩:=x;exact⟨st _ _ p λ o q=>k _ _ (.inl rfl) q,⟨o,k _ _ (.inl rfl) e⟩,st⟩
theorem HOk.lt(x:HOk P w H h)(e:H a=some o):a<h.objs.size:=(x a o e).lt
theorem HOk.fresh(x:HOk P w H h)(e:h.objs.size<=a):H a=none:=by
 cases q:H a with
 |none=>rfl
 |some u=>exact absurd (zay (x.lt q) e) (zca _)
theorem HOk.kept(x:HOk P w H h)(k:∀b u,h.get? b=some u->h'.get? b=some u):HOk P w H h':=λ a o e =>
 (x a o e).stay (λ b u _ q=>k b u q) (λ _ q=>q) λ _ _ q=>q
theorem HOk.laid(x:HOk P w H h)(k:∀b u,h.get? b=some u->h'.get? b=some u)(hp:h.objs.size<=a)(new:ObjOk P w (upd H a o) h' a o):HOk P w (upd H a o) h':=λ b u e=>by
 have hn:=x.fresh hp
 by_cases hb:b=a
 ·subst hb;rw[qaf9] at e;cases e;exact new
 ·rw[qap9 hb] at e
  exact(x b u e).stay (λ c v _ q=>k c v q) (λ c q=>by rw[qap9 (qaz9 q hn)];exact q) λ c xs q=>by rw[qap9 (qaz9 q hn)];exact q
end
def Rd(H:Hp)(a:Addr)(u:HO):Prop:=H a=some u\/∃o,H a=some (.frz o u)
theorem Rd.ok{u:HO}(r:Rd H a u)(x:HOk P w H h):ObjOk P w H h a u:=by
 rcases r with r|⟨o,r⟩
 ·exact x a u r
 ·obtain⟨_,q⟩:=x a _ r
  exact q
def Mut:Option HO->Prop
 |some (.lst _)=>True
 |some (.dK _)=>True
 |some (.dT _)=>True
 |some (.set _ _)=>True
 |some (.ins _ _ _)=>True
 |some (.ext _)=>True
 |_=>False
section
variable {x e:Addr}{o':HO}
theorem HOk.write(ok:HOk P w H h)(mu:Mut (H x))(he:e=x\/H e=some (.own x))(k:∀b u,b≠e->h.get? b=some u->h'.get? b=some u)(heo:∃u,h'.get? e=some u)
  (new:ObjOk P w (upd H x o') h' x o'):HOk P w (upd H x o') h':=λ b u q=>by
 have nown:∀c y,H c=some (.own y)->c≠x:=λ c y r z=>by subst z;rw[r] at mu;exact mu
 have ntup:∀c xs,H c=some (.tup xs)->c≠x:=λ c xs r z=>by subst z;rw[r] at mu;exact mu
 by_cases hb:b=x
 ·subst hb;rw[qaf9] at q;cases q;exact new
 ·rw[qap9 hb] at q
  by_cases hbe:b=e
  ·have q':H b=some (.own x):=by
    rcases he with z|z
    ·exact absurd (hbe.trans z) hb
    ·rw[hbe];exact z
   rw[q] at q';cases q'
   obtain⟨v,hv⟩:=heo
   exact⟨v,by rw[hbe];exact hv⟩
  ·refine(ok b u q).stay (λ c v hc r=>k c v ?_ r) (λ c r=>by rw[qap9 (nown c b r)];exact r) λ c xs r=>by rw[qap9 (ntup c xs r)];exact r
   rcases hc with rfl|hc
   ·exact hbe
   ·rintro rfl
    rcases he with z|z
    ·exact nown c b hc z
    ·rw[hc] at z;cases z;exact hb rfl
end
structure Un(fs ex:List Addr)(H H':Hp)(h h':Heap):Prop where
 keep:∀b o,h.get? b=some o->H b=none->b∉fs->b∉ex->h'.get? b=some o
 slot:∀b o,h.get? b=some o->H b=none->b∈fs->b∉ex->∃sl,h'.get? b=some { o with slots:=sl }
 free:∀b o,h.get? b=some o->H b=none->b∉ex->H' b=none
 there:∀b o,h.get? b=some o->b∉ex->∃o',h'.get? b=some o'
 tups:∀b xs,H b=some (.tup xs)->H' b=some (.tup xs)
 frzs:∀b o u,H b=some (.frz o u)->H' b=some (.frz o u)
 tbls:∀b ps,H b=some (.tbl ps)->∃more,H' b=some (.tbl (ps++more))
section
variable {fs fs' ex ex':List Addr}{H1 H2:Hp}{h1 h2:Heap}{x e:Addr}{o:HO}
theorem Un.any(u:Un fs ex H H1 h h1){ob:Obj}(q:h.get? b=some ob)(n:H b=none)(hx:b∉ex):∃sl,h1.get? b=some { ob with slots:=sl }:=by
 by_cases hb:b∈fs
 ·exact u.slot b ob q n hb hx
 ·exact⟨ob.slots,u.keep b ob q n hb hx⟩
theorem Un.kept(k:∀b u,h.get? b=some u->h'.get? b=some u):Un fs ex H H h h' :=
 ⟨λ b ob q _ _ _=>k b ob q,λ b ob q _ _ _=>⟨ob.slots,k b ob q⟩,λ _ _ _ n _=>n,λ b ob q _=>⟨ob,k b ob q⟩,λ _ _ q=>q,λ _ _ _ q=>q,λ _ ps q=>⟨#[],by rw[q];simp⟩⟩
theorem Un.refl:Un fs ex H H h h:=Un.kept λ _ _ q=>q
theorem Un.laid(k:∀b u,h.get? b=some u->h'.get? b=some u)(hp:h.objs.size<=a)(hn:H a=none):Un fs ex H (upd H a o) h h' where
 keep:=λ b u q _ _ _=>k b u q
 slot:=λ b u q _ _ _=>⟨u.slots,k b u q⟩
 free:=λ b u q n _=>by rw[qap9 (zbd (zay (zas q) hp))];exact n
 there:=λ b u q _=>⟨u,k b u q⟩
 tups:=λ b xs q=>by rw[qap9 (qaz9 q hn)];exact q
 frzs:=λ b u xs q=>by rw[qap9 (qaz9 q hn)];exact q
 tbls:=λ b ps q=>⟨#[],by rw[qap9 (qaz9 q hn),q];simp⟩
theorem Un.write(mu:Mut (H x))(he:e=x\/H e=some (.own x))(k:∀b u,b≠e->h.get? b=some u->h'.get? b=some u)(heo:∃u,h'.get? e=some u):Un fs ex H (upd H x o) h h':=by
 have hx:∀b,H b=none->b≠x:=λ b n z=>by subst z;rw[n] at mu;exact mu
 have hb:∀b,H b=none->b≠e:=λ b n z=>by
  subst z
  rcases he with r|r
  ·exact hx b n r
  ·rw[n] at r;cases r
 have hm:∀b u,H b=some u->¬Mut (some u)->b≠x:=λ b u q nm z=>by subst z;rw[q] at mu;exact nm mu
 refine⟨λ b u q n _ _=>k b u (hb b n) q,λ b u q n _ _=>⟨u.slots,k b u (hb b n) q⟩,λ b u q n _=>by rw[qap9 (hx b n)];exact n,λ b u q _=>?_,
  λ b xs q=>by rw[qap9 (hm b _ q λ z=>z)];exact q,λ b u xs q=>by rw[qap9 (hm b _ q λ z=>z)];exact q,λ b ps q=>⟨#[],by rw[qap9 (hm b _ q λ z=>z),q];simp⟩⟩
 by_cases hbe:b=e
 ·subst hbe;exact heo
 ·exact⟨u,k b u hbe q⟩
end
def trk(h:Heap)(H:Hp):List Addr:=(zcz h.objs.size).filter λ a=>(H a).isSome
def hidT(h:Heap)(H:Hp):Heap:=W.hideAll h (trk h H)
theorem hidT_size(h:Heap)(H:Hp):(hidT h H).objs.size=h.objs.size:=W.hideAll_size _ _
theorem hidT_get(e:h.get? b=some o)(n:H b=none):(hidT h H).get? b=some o :=
 W.hideAll_get _ e λ hm=>by
  have q:(H b).isSome=true:=(zfq.mp hm).2
  rw[n] at q;simp at q
theorem of_hidT(e:(hidT h H).get? b=some o):h.get? b=some o/\H b=none:=by
 have e':h.get? b=some o:=W.of_hideAll (trk h H) e
 refine⟨e',?_⟩
 cases q:H b with
 |none=>rfl
 |some x =>
  have hm:b∈trk h H:=zfq.mpr ⟨zdh.mpr (zas e'),by simp[q]⟩
  have z:(hidT h H).get? b=none:=W.hideAll_none (trk h H) hm
  rw[z] at e;cases e
def allNews(g h:Heap)(L:Addr):List (Addr×Obj):=(zcz h.objs.size).filterMap λ a=>if a=L\/(g.get? a).isSome=true then none else(h.get? a).map λ o=>(a,o)
def rest(g h:Heap)(L d:Addr):List (Addr×Obj):=(allNews g h L).filter λ p=>decide (p.1≠d)
structure Mod(K:W.Frag)(mg:Str->Option Value)(base:Heap):Prop where
 kin:K.In base
 glob:base.Ns mainGlobals mg
 blt:∃mb,base.Ns builtinsNs mb/\∀x:Str,x≠"__name__" -> mb x=bootBuiltins x
 nolimit:base.NoLimit
structure Cx where
 prog:Program
 w:World
 K:W.Frag
 mg:Str->Option Value
 base:Heap
 A:Around
 N:List Str
 s₀:Shared
 H₀:Hp
 env:Env
 outer:List Env
 stack:List Env
 ex:List Addr
 fn:Str->Bool
 calm:Bool
 pn:List (Addr×Obj)
 xe:Value->Shared->Prop
variable {X:Cx}
def frs(l:List Env):List Addr:=l.filterMap (·.frame)
abbrev Cx.fs(X:Cx):List Addr:=frs X.outer
def Vis(sc:Scope)(x:Str):Prop:=sc.names.lookup x=some .local\/sc.names.lookup x=some .cell\/sc.names.lookup x=some .free
def Loc(sc:Scope)(x:Str):Prop:=sc.names.lookup x=some .local\/sc.names.lookup x=some .cell
def Look(env:Env)(h:Heap)(m:Str->Option Value)(x:Str)(u:Value):Prop :=
 (env.kindOf x=some .local/\m x=some u)\/((env.kindOf x=some .cell\/env.kindOf x=some .free)/\∃c,env.cells.lookup x=some c/\h.IsCell c (some u))
structure Cx.Ok(X:Cx):Prop where
 mod:Mod X.K X.mg X.base
 kind:X.env.scope.kind=.function
 glob:X.env.globals=mainGlobals
 blt:X.env.builtins=builtinsNs
 above:X.s₀.heap.objs.size<=X.env.locals
 inj:∀x y c,X.env.cells.lookup x=some c->X.env.cells.lookup y=some c->x=y
 has:∀x,(X.env.kindOf x=some .cell\/X.env.kindOf x=some .free)->∃c,X.env.cells.lookup x=some c
 cab:∀x c,X.fn x=true->X.env.cells.lookup x=some c->X.s₀.heap.objs.size<=c
 hd:X.calm=true->X.A.handled=none
 frames:X.A.frames=some X.stack
 stk:X.stack=X.outer\/(X.stack=X.env::X.outer/\X.env.frame=some X.env.locals)
 exf:∀b∈X.ex,b≠X.env.locals/\∀x c,X.env.cells.lookup x=some c->c≠b
 bs:∀b o,X.base.get? b=some o->X.s₀.heap.get? b=some o/\X.H₀ b=none
 bsz:X.base.objs.size<=X.s₀.heap.objs.size
 noex:∀b o,X.base.get? b=some o->b∉X.ex
 exfs:∀b∈X.ex,b∉X.fs
 funs:X.s₀.heap.FunFrames X.base X.outer
 frf:∀b∈X.fs,X.H₀ b=none
structure Inv(X:Cx)(pins:List (Addr×Obj))(σ:List (Option V))(H:Hp)(s:Shared):Prop where
 ok:X.Ok
 os:s.os=X.s₀.os
 bare:AllBare s.gens
 base:Un X.fs X.ex X.H₀ H X.s₀.heap s.heap
 loc:∃m,s.heap.Ns X.env.locals m/\∀(i:Nat)(x:Str)(v:V),X.N[i]?=some x->σ[i]?=some (some v)->Vis X.env.scope x->∃u,RelV v u/\Look X.env s.heap m x u
 cell:∀x c,X.env.cells.lookup x=some c->∃v,s.heap.IsCell c v
 free:H X.env.locals=none
 freeC:∀x c,X.env.cells.lookup x=some c->H c=none
 pin:∀p∈X.pn++pins,s.heap.get? p.1=some p.2/\H p.1=none/\p.1≠X.env.locals/\p.1∉X.fs/\∀v,p.2.data ≠ .cell v
 hok:HOk X.prog X.w H s.heap
 len:σ.length=X.N.length
section
variable {σ:List (Option V)}
theorem Cx.Ok.nofr(ok:X.Ok)(e:X.base.get? b=some o):b∉X.fs:=λ hb=>by
 have:=(ok.funs.mem hb).1
 rw[e] at this;cases this
theorem Inv.bs(I:Inv X pins σ H s):∀b o,X.base.get? b=some o->s.heap.get? b=some o/\H b=none:=λ b o e =>
 ⟨I.base.keep b o (I.ok.bs b o e).1 (I.ok.bs b o e).2 (I.ok.nofr e) (I.ok.noex b o e),I.base.free b o (I.ok.bs b o e).1 (I.ok.bs b o e).2 (I.ok.noex b o e)⟩
theorem Inv.bk(I:Inv X pins σ H s):∀b o,X.base.get? b=some o->s.heap.get? b=some o:=λ b o e=>(I.bs b o e).1
theorem Inv.mod(I:Inv X pins σ H s):Mod X.K X.mg X.base:=I.ok.mod
theorem Inv.kIn(I:Inv X pins σ H s):X.K.In s.heap:=I.ok.mod.kin.keeps I.bk
theorem Inv.lt(I:Inv X pins σ H s):X.env.locals<s.heap.objs.size:=let ⟨_,hn,_⟩:=I.loc;hn.lt
theorem Inv.sz(I:Inv X pins σ H s):X.s₀.heap.objs.size<=s.heap.objs.size:=zbb I.ok.above (zcf I.lt)
theorem Inv.nofs(I:Inv X pins σ H s)(h:s.heap.objs.size<=a):a∉X.fs:=λ hb=>by
 obtain⟨_,o,ho,_⟩:=I.ok.funs.mem hb
 exact absurd (zay (zas ho) (zbb I.sz h)) (zca _)
theorem Inv.cne(I:Inv X pins σ H s):∀x c,X.env.cells.lookup x=some c->c≠X.env.locals:=λ x c e z=>by
 obtain⟨v,o,ho,hd⟩:=I.cell x c e
 obtain⟨m,⟨o',es,ep,ho',hd',_⟩,_⟩:=I.loc
 rw[z,ho'] at ho;cases ho;rw[hd'] at hd;cases hd
theorem Inv.funs(I:Inv X pins σ H s):s.heap.FunFrames X.base X.outer:=by
 have all:∀(l:List Env),(∀b∈frs l,b∈X.fs)->X.s₀.heap.FunFrames X.base l->s.heap.FunFrames X.base l:=by
  intro l
  induction l with
  |nil=>intro _ _;trivial
  |cons env r ih =>
   intro hs hl
   obtain⟨hk,⟨L,o,hf,hn,ho,hd⟩,hr⟩:=hl
   have hL:L∈X.fs:=hs L (by unfold frs;rw[zek,hf];exact zan)
   obtain⟨sl,e⟩:=I.base.slot L o ho (I.ok.frf L hL) hL λ z=>I.ok.exfs L z hL
   exact⟨hk,⟨L,_,hf,hn,e,hd⟩,ih (λ b hb=>hs b (by unfold frs;rw[zek,hf];exact zai _ hb)) hr⟩
 exact all X.outer (λ _ hb=>hb) I.ok.funs
theorem Inv.stack(I:Inv X pins σ H s):s.heap.FunFrames X.base X.stack:=by
 rcases I.ok.stk with e|⟨e,hf⟩
 ·rw[e];exact I.funs
 ·rw[e]
  obtain⟨m,hn,_⟩:=I.loc
  refine .cons (by rw[I.ok.kind];decide) hf hn ?_ I.funs
  exact Heap.get?_none_of_le (zbb I.ok.bsz I.ok.above)
theorem Inv.stkSub(I:Inv X pins σ H s):∀b∈frs X.stack,b∈X.env.locals::X.fs:=λ b hb=>by
 rcases I.ok.stk with e|⟨e,hf⟩
 ·rw[e] at hb;exact zai _ hb
 ·rw[e] at hb
  unfold frs at hb
  rw[zek,hf] at hb
  exact hb
theorem Inv.stkFree(I:Inv X pins σ H s):∀b∈frs X.stack,H b=none:=λ b hb=>by
 rcases zah.mp (I.stkSub b hb) with e|hb
 ·rw[e];exact I.free
 ·obtain⟨_,o,ho,_⟩:=I.ok.funs.mem hb
  exact I.base.free b o ho (I.ok.frf b hb) λ z=>I.ok.exfs b z hb
theorem Inv.step{g':Array GenState}{t':Nat}{d':Drawn}{ch:List Addr}(I:Inv X pins σ H s)
  (hch:∀b∈ch,(b∈X.ex\/X.s₀.heap.objs.size<=b)/\b≠X.env.locals/\(∀x c,X.env.cells.lookup x=some c->c≠b)/\∀p∈X.pn++pins,p.1≠b)
  (keep:∀b o,b≠X.env.locals->b∉X.fs->b∉ch->s.heap.get? b=some o->H b=none->h'.get? b=some o)
  (slot:∀b o,b≠X.env.locals->b∈X.fs->b∉ch->s.heap.get? b=some o->H b=none->∃sl,h'.get? b=some { o with slots:=sl }) (free:∀b o,b∉ch->s.heap.get? b=some o->H b=none->H' b=none)
  (there:∀b o,b∉ch->s.heap.get? b=some o->∃o',h'.get? b=some o')
  (tups:∀b xs,H b=some (.tup xs)->H' b=some (.tup xs)) (frzs:∀b o u,H b=some (.frz o u)->H' b=some (.frz o u)) (tbls:∀b ps,H b=some (.tbl ps)->∃more,H' b=some (.tbl (ps++more)))
  (ns:∀m,s.heap.Ns X.env.locals m->h'.Ns X.env.locals m) (hok:HOk X.prog X.w H' h') (hg:AllBare g') :
  Inv X pins σ H' { s with heap:=h',gens:=g',drawn:=d',toks:=t' }:=by
 have neL:∀b o,X.s₀.heap.get? b=some o->b≠X.env.locals:=λ b o e=>zbd (zay (zas e) I.ok.above)
 have neC:∀b o,X.s₀.heap.get? b=some o->b∉X.ex->b∉ch:=λ b o e hx hb=>by
  rcases(hch b hb).1 with z|z
  ·exact hx z
  ·exact absurd (zay (zas e) z) (zca _)
 have cellK:∀x c,X.env.cells.lookup x=some c->∀v,s.heap.IsCell c v->h'.IsCell c v:=λ x c e v ⟨o,ho,hd⟩=>by
  have nch:c∉ch:=λ z=>(hch c z).2.2.1 x c e rfl
  by_cases hc:c∈X.fs
  ·obtain⟨sl,q⟩:=slot c o (I.cne x c e) hc nch ho (I.freeC x c e)
   exact⟨_,q,hd⟩
  ·exact⟨o,keep c o (I.cne x c e) hc nch ho (I.freeC x c e),hd⟩
 refine⟨I.ok,I.os,hg,⟨λ b o e n hb hx=>?_,λ b o e n hb hx=>?_,λ b o e n hx=>?_,λ b o e hx=>?_,λ b xs e=>tups b xs (I.base.tups b xs e),λ b o xs e=>frzs b o xs (I.base.frzs b o xs e),λ b ps e=>?_⟩,?_,λ x c e=>?_,?_,λ x c e=>?_,λ p hp=>?_,hok,I.len⟩
 ·exact keep b o (neL b o e) hb (neC b o e hx) (I.base.keep b o e n hb hx) (I.base.free b o e n hx)
 ·obtain⟨sl,e1⟩:=I.base.slot b o e n hb hx
  obtain⟨sl',e2⟩:=slot b _ (neL b o e) hb (neC b o e hx) e1 (I.base.free b o e n hx)
  exact⟨sl',e2⟩
 ·obtain⟨o',e1⟩:=I.base.there b o e hx
  exact free b o' (neC b o e hx) e1 (I.base.free b o e n hx)
 ·obtain⟨o',e1⟩:=I.base.there b o e hx
  exact there b o' (neC b o e hx) e1
 ·obtain⟨m1,e1⟩:=I.base.tbls b ps e
  obtain⟨m2,e2⟩:=tbls b _ e1
  exact⟨m1++m2,by rw[e2,Array.append_assoc]⟩
 ·obtain⟨m,hn,hl⟩:=I.loc
  refine⟨m,ns m hn,λ i x v e1 e2 e3=>?_⟩
  obtain⟨u,r,l⟩:=hl i x v e1 e2 e3
  refine⟨u,r,?_⟩
  rcases l with l|⟨k,c,e,z⟩
  ·exact .inl l
  ·exact .inr ⟨k,c,e,cellK x c e _ z⟩
 ·obtain⟨v,z⟩:=I.cell x c e
  exact⟨v,cellK x c e v z⟩
 ·obtain⟨m,⟨o,_,_,ho,_⟩,_⟩:=I.loc
  exact free _ o (λ z=>(hch _ z).2.1 rfl) ho I.free
 ·obtain⟨v,o,ho,hd⟩:=I.cell x c e
  exact free c o (λ z=>(hch c z).2.2.1 x c e rfl) ho (I.freeC x c e)
 ·obtain⟨e,n,ne,nf,d⟩:=I.pin p hp
  have nch:p.1∉ch:=λ z=>(hch p.1 z).2.2.2 p hp rfl
  exact⟨keep p.1 p.2 ne nf nch e n,free p.1 p.2 nch e n,ne,nf,d⟩
theorem Inv.un(I:Inv X pins σ H s)(u:Un X.fs [] H H' s.heap h')(hok:HOk X.prog X.w H' h'):Inv X pins σ H' { s with heap:=h',toks:=t' }:=by
 obtain⟨m,⟨o,es,ep,ho,r⟩,_⟩:=id I.loc
 obtain⟨sl,hL⟩:=u.any ho I.free (by simp)
 exact I.step (g':=s.gens) (d':=s.drawn) (ch:=[]) (λ _ z=>nomatch z) (λ b o _ hb _ e n=>u.keep b o e n hb (by simp)) (λ b o _ hb _ e n=>u.slot b o e n hb (by simp)) (λ b o _ e n=>u.free b o e n (by simp)) (λ b o _ e=>u.there b o e (by simp)) u.tups u.frzs u.tbls (λ m' hm=>by
  obtain⟨o',es',ep',ho',r'⟩:=hm
  rw[ho] at ho';cases ho'
  exact⟨_,es',ep',hL,r'⟩) hok I.bare
theorem Inv.call{g':Array GenState}{d':Drawn}{ch:List Addr}(I:Inv X pins σ H s)(u:Un (frs X.stack) ch H H' s.heap h')(hok:HOk X.prog X.w H' h')(hg:AllBare g')
  (hch:∀b∈ch,(b∈X.ex\/X.s₀.heap.objs.size<=b)/\b≠X.env.locals/\(∀x c,X.env.cells.lookup x=some c->c≠b)/\∀p∈X.pn++pins,p.1≠b) :
  Inv X pins σ H' { s with heap:=h',gens:=g',drawn:=d',toks:=t' }:=by
 obtain⟨m,⟨o,es,ep,ho,r⟩,_⟩:=id I.loc
 obtain⟨sl,hL⟩:=u.any ho I.free λ z=>(hch _ z).2.1 rfl
 exact I.step (ch:=ch) hch (λ b o hL hb hc e n=>u.keep b o e n (λ z=>(zah.mp (I.stkSub b z)).elim hL hb) hc) (λ b o _ _ hc e n=>u.any e n hc) (λ b o hc e n=>u.free b o e n hc) (λ b o hc e=>u.there b o e hc) u.tups u.frzs u.tbls (λ m' hm=>by
  obtain⟨o',es',ep',ho',r'⟩:=hm
  rw[ho] at ho';cases ho'
  exact⟨_,es',ep',hL,r'⟩) hok hg
theorem Inv.turned{it:Addr}(I:Inv X pins σ H s)(k:∀b o,b≠it->s.heap.get? b=some o->h'.get? b=some o)(hn:H it=none)(hL:it≠X.env.locals)
  (h1:it∈X.ex\/X.s₀.heap.objs.size<=it) (h2:∀x c,X.env.cells.lookup x=some c->c≠it) (h3:∀p∈X.pn++pins,p.1≠it):Inv X pins σ H { s with heap:=h',toks:=t' }:=by
 have nit:∀b u,H b=some u->b≠it:=λ b u e z=>by rw[z,hn] at e;cases e
 refine I.step (g':=s.gens) (d':=s.drawn) (ch:=[it]) (λ b hb=>?_) (λ b o _ _ hc e _=>k b o (λ z=>hc (by simp[z])) e) (λ b o _ _ hc e _=>⟨o.slots,k b o (λ z=>hc (by simp[z])) e⟩) (λ _ _ _ _ n=>n)
  (λ b o hc e=>⟨o,k b o (λ z=>hc (by simp[z])) e⟩) (λ _ _ e=>e) (λ _ _ _ e=>e) (λ b ps e=>⟨#[],by rw[e];simp⟩) (λ m hm=>?_) (λ b u e=>?_) I.bare
 ·have e:b=it:=by simpa using hb
  subst e
  exact⟨h1,hL,h2,h3⟩
 ·obtain⟨o,es,ep,ho,r⟩:=hm
  exact⟨o,es,ep,k _ o (Ne.symm hL) ho,r⟩
 ·refine(I.hok b u e).stay (λ c v hc q=>k c v ?_ q) (λ _ q=>q) λ _ _ q=>q
  rcases hc with z|z
  ·rw[z];exact nit b u e
  ·exact nit c _ z
theorem Inv.tok(I:Inv X pins σ H s)(t:Nat):Inv X pins σ H { s with toks:=t }:=I.un (h':=s.heap) (t':=t) Un.refl I.hok
theorem Inv.kept{t':Nat}(I:Inv X pins σ H s)(k:∀b u,s.heap.get? b=some u->h'.get? b=some u):Inv X pins σ H { s with heap:=h',toks:=t' }:=I.un (Un.kept k) (I.hok.kept k)
theorem Inv.laid{a:Addr}{o:HO}{t':Nat}(I:Inv X pins σ H s)(k:∀b u,s.heap.get? b=some u->h'.get? b=some u)(hp:s.heap.objs.size<=a)(new:ObjOk X.prog X.w (upd H a o) h' a o) :
  Inv X pins σ (upd H a o) { s with heap:=h',toks:=t' }:=I.un (Un.laid k hp (I.hok.fresh hp)) (I.hok.laid k hp new)
theorem Inv.write{x e:Addr}{o:HO}{t':Nat}(I:Inv X pins σ H s)(mu:Mut (H x))(he:e=x\/H e=some (.own x))(k:∀b u,b≠e->s.heap.get? b=some u->h'.get? b=some u)(heo:∃u,h'.get? e=some u)
  (new:ObjOk X.prog X.w (upd H x o) h' x o):Inv X pins σ (upd H x o) { s with heap:=h',toks:=t' }:=I.un (Un.write mu he k heo) (I.hok.write mu he k heo new)
theorem Inv.weak{σ':List (Option V)}(I:Inv X pins σ H s)(hl:σ'.length=σ.length)(w:∀(i:Nat) v,σ'[i]?=some (some v)->σ[i]?=some (some v)):Inv X pins σ' H s :=
 ⟨I.ok,I.os,I.bare,I.base,let ⟨m,hn,hl'⟩:=I.loc;⟨m,hn,λ i x v e1 e2 e3=>hl' i x v e1 (w i v e2) e3⟩,I.cell,I.free,I.freeC,I.pin,I.hok,hl.trans I.len⟩
theorem Inv.pins_of{pins':List (Addr×Obj)}(I:Inv X pins σ H s)(h:∀p∈pins',s.heap.get? p.1=some p.2/\H p.1=none/\p.1≠X.env.locals/\p.1∉X.fs/\∀v,p.2.data ≠ .cell v):Inv X pins' σ H s :=
 ⟨I.ok,I.os,I.bare,I.base,I.loc,I.cell,I.free,I.freeC,λ p hp=>(zav.mp hp).elim (λ z=>I.pin p (zbf _ z)) (h p),I.hok,I.len⟩
theorem qph9{N:List Str}(hN:N.Nodup){j:Nat}(a:N[i]?=some x)(b:N[j]?=some x):i=j:=by
 obtain⟨h1,e1⟩:=zab.mp a
 obtain⟨h2,e2⟩:=zab.mp b
 exact(zgl hN).mp (e1.trans e2.symm)
theorem store_ok2{M:Model}{A:Around}{E:Value->Shared->Prop}{u:Value}{Q:Unit->Shared->Prop}(I:Inv X pins σ H s)(hN:X.N.Nodup)(hi:X.N[i]?=some x)(hx:Loc X.env.scope x)(r:RelV v u)
  (h:∀s',Inv X pins (σ.set i (some v)) H s'->(∃a,Heap.SameBut a s.heap s'.heap/\(a=X.env.locals\/X.env.cells.lookup x=some a))->Q () s') (hf:X.fn x=true\/X.env.scope.names.lookup x=some .local:=by first|exact .inl rfl|exact .inr rfl|assumption):wpAny M A (storeName X.env x u) Q E s:=by
 obtain⟨m,hn,hl⟩:=id I.loc
 have hcls:(X.env.scope.kind == .class||(X.env.scope.kind == .module&&X.env.locals != X.env.globals))=false:=by rw[I.ok.kind];rfl
 have hiσ:i<σ.length:=by rw[I.len];exact(zab.mp hi).1
 have cne:=I.cne
 have tracked:∀{a:Addr}{h':Heap},(∃o,s.heap.get? a=some o/\H a=none)->Heap.SameBut a s.heap h'->HOk X.prog X.w H h':=λ {a h'} ha hs b ob e=>by
  obtain⟨_,_,hfree⟩:=ha
  refine(I.hok b ob e).stay (λ c w' hc q=>(hs.2 c ?_).trans q) (λ _ q=>q) λ _ _ q=>q
  rintro rfl
  rcases hc with rfl|hc
  ·rw[hfree] at e;cases e
  ·rw[hfree] at hc;cases hc
 rcases hx with hk|hk
 ·refine wpAny_storeName_local hk hn (λ h' hn' hs=>?_) hcls
  obtain⟨oL,_,_,hoL,_⟩:=id hn
  refine h _ ⟨I.ok,I.os,I.bare,⟨λ b o e n hb hx=>?_,λ b o e n hb hx=>?_,I.base.free,λ b o e hx=>?_,I.base.tups,I.base.frzs,I.base.tbls⟩,⟨_,hn',λ j y v' e1 e2 e3=>?_⟩,λ y c e=>?_,I.free,I.freeC,λ p hp=>?_,tracked ⟨oL,hoL,I.free⟩ hs,by simpa using I.len⟩ ⟨_,hs,.inl rfl⟩
  ·exact(hs.2 b (zbd (zay (zas e) I.ok.above))).trans (I.base.keep b o e n hb hx)
  ·obtain⟨sl,e1⟩:=I.base.slot b o e n hb hx
   exact⟨sl,(hs.2 b (zbd (zay (zas e) I.ok.above))).trans e1⟩
  ·obtain⟨o',e1⟩:=I.base.there b o e hx
   exact⟨o',(hs.2 b (zbd (zay (zas e) I.ok.above))).trans e1⟩
  ·by_cases hj:j=i
   ·subst hj
    rw[hi] at e1;cases e1
    rw[zfg hiσ] at e2
    cases e2
    exact⟨u,r,.inl ⟨hk,by simp⟩⟩
   ·rw[zfr (Ne.symm hj)] at e2
    obtain⟨u',r',q⟩:=hl j y v' e1 e2 e3
    refine⟨u',r',?_⟩
    rcases q with⟨k,e⟩|⟨k,c,e,z⟩
    ·refine .inl ⟨k,?_⟩
     have:y≠x:=λ e=>hj (qph9 hN e1 (e ▸ hi))
     simp[this,e]
    ·exact .inr ⟨k,c,e,z.sameBut hs (cne y c e)⟩
  ·obtain⟨w',z⟩:=I.cell y c e
   exact⟨w',z.sameBut hs (cne y c e)⟩
  ·obtain⟨e,n,ne,nf,d⟩:=I.pin p hp
   exact⟨(hs.2 p.1 ne).trans e,n,ne,nf,d⟩
 ·have hfn:X.fn x=true:=by
   rcases hf with z|z
   ·exact z
   ·rw[z] at hk;cases hk
  obtain⟨c,hc⟩:=I.ok.has x (.inl hk)
  obtain⟨w',z⟩:=I.cell x c hc
  refine wpAny_storeName_cell I.ok.kind hk hc z (λ h' hc' hs=>?_)
  obtain⟨oc,hoc,hocd⟩:=id z
  refine h { s with heap:=h' } ⟨I.ok,I.os,I.bare,⟨λ b o e n hb hx=>?_,λ b o e n hb hx=>?_,I.base.free,λ b o e hx=>?_,I.base.tups,I.base.frzs,I.base.tbls⟩,⟨m,hn.sameBut hs (Ne.symm (cne x c hc)),λ j y v' e1 e2 e3=>?_⟩,λ y c' e=>?_,I.free,I.freeC,λ p hp=>?_,tracked ⟨oc,hoc,I.freeC x c hc⟩ hs,by simpa using I.len⟩ ⟨c,hs,.inr hc⟩
  ·exact(hs.2 b (zbd (zay (zas e) (I.ok.cab x c hfn hc)))).trans (I.base.keep b o e n hb hx)
  ·obtain⟨sl,e1⟩:=I.base.slot b o e n hb hx
   exact⟨sl,(hs.2 b (zbd (zay (zas e) (I.ok.cab x c hfn hc)))).trans e1⟩
  ·obtain⟨o',e1⟩:=I.base.there b o e hx
   exact⟨o',(hs.2 b (zbd (zay (zas e) (I.ok.cab x c hfn hc)))).trans e1⟩
  ·by_cases hj:j=i
   ·subst hj
    rw[hi] at e1;cases e1
    rw[zfg hiσ] at e2
    cases e2
    exact⟨u,r,.inr ⟨.inl hk,c,hc,hc'⟩⟩
   ·rw[zfr (Ne.symm hj)] at e2
    obtain⟨u',r',q⟩:=hl j y v' e1 e2 e3
    refine⟨u',r',?_⟩
    rcases q with q|⟨k,c',e,z'⟩
    ·exact .inl q
    ·refine .inr ⟨k,c',e,z'.sameBut hs ?_⟩
     rintro rfl
     exact hj (qph9 hN e1 (I.ok.inj _ _ _ e hc ▸ hi))
  ·by_cases hcc:c'=c
   ·subst hcc;exact⟨_,hc'⟩
   ·obtain⟨w2,z2⟩:=I.cell y c' e
    exact⟨w2,z2.sameBut hs hcc⟩
  ·obtain⟨e,n,ne,nf,d⟩:=I.pin p hp
   refine⟨(hs.2 p.1 ?_).trans e,n,ne,nf,d⟩
   intro q
   rw[q,hoc] at e
   have q':oc=p.2:=Option.some.inj e
   exact d w' (by rw[<- q'];exact hocd)
theorem qmt9{M:Model}{A:Around}{E:Value->Shared->Prop}{u:Value}{Q:Unit->Shared->Prop}(I:Inv X pins σ H s)(hN:X.N.Nodup)(hi:X.N[i]?=some x)(hx:Loc X.env.scope x)(r:RelV v u)
  (h:∀s',Inv X pins (σ.set i (some v)) H s'->Q () s') (hf:X.fn x=true\/X.env.scope.names.lookup x=some .local:=by first|exact .inl rfl|exact .inr rfl|assumption):wpAny M A (storeName X.env x u) Q E s :=
 store_ok2 I hN hi hx r (λ s' I' _=>h s' I') hf
end
abbrev XK:=Value->Option Addr->Hp->Prop
abbrev St:=List (Option V)
variable {σ:St}
abbrev VK:=V->Hp->Prop
abbrev TE:=St->Hp->VK->Prop
variable {t ta te:TE}
abbrev TT:=St->Hp->(Bool->Hp->Prop)->Prop
abbrev TA:=St->Hp->(List V->Hp->Prop)->Prop
structure Ends where
 nx:St->Hp->Prop
 rt:VK
 bk:St->Hp->Prop:=λ _ _=>False
 ct:St->Hp->Prop:=λ _ _=>False
variable {D:Ends}
abbrev TS:=Ends->St->Hp->Prop
variable {tb:TS}
def EP(X:Cx)(pins:List (Addr×Obj))(σ:St)(Q:VK)(u:Value)(s':Shared):Prop:=∃v H',Inv X pins σ H' s'/\RelV v u/\Q v H'
def TP(X:Cx)(pins:List (Addr×Obj))(σ:St)(Q:Bool->Hp->Prop)(b:Bool)(s':Shared):Prop:=∃H',Inv X pins σ H' s'/\Q b H'
def AP(X:Cx)(pins:List (Addr×Obj))(σ:St)(Q:List V->Hp->Prop)(us:List Value)(s':Shared):Prop:=∃vs H',Inv X pins σ H' s'/\Vals vs us/\Q vs H'
def SP(X:Cx)(pins:List (Addr×Obj))(D:Ends)(f:Flow)(s':Shared):Prop :=
 match f with
 | .next=>∃σ' H',Inv X pins σ' H' s'/\D.nx σ' H'
 | .brk=>∃σ' H',Inv X pins σ' H' s'/\D.bk σ' H'
 | .cont=>∃σ' H',Inv X pins σ' H' s'/\D.ct σ' H'
 | .ret u=>∃v σ' H',Inv X pins σ' H' s'/\RelV v u/\D.rt v H'
def PE(X:Cx)(e:Expr)(t:TE):Prop :=
 ∀(pins:List (Addr×Obj)) (s:Shared) (σ:St) (H:Hp) (Q:VK),Inv X pins σ H s->t σ H Q->wpAny (model X.prog X.w) X.A (eval e X.env) (EP X pins σ Q) X.xe s
def PT(X:Cx)(e:Expr)(t:TT):Prop :=
 ∀(pins:List (Addr×Obj)) (s:Shared) (σ:St) (H:Hp) (Q:Bool->Hp->Prop),Inv X pins σ H s->t σ H Q->wpAny (model X.prog X.w) X.A (isTrue e X.env (eval e X.env)) (TP X pins σ Q) X.xe s
def PW(X:Cx)(e:Expr)(t:TT):Prop :=
 ∀(whole:Sem Value) (pins:List (Addr×Obj)) (s:Shared) (σ:St) (H:Hp) (Q:Bool->Hp->Prop),Inv X pins σ H s->t σ H Q->wpAny (model X.prog X.w) X.A (isTrue e X.env whole) (TP X pins σ Q) X.xe s
theorem PW.pt{t:TT}(h:PW X e t):PT X e t:=h _
def PA(X:Cx)(es:List Expr)(t:TA):Prop :=
 ∀(pos:Pos) (pins:List (Addr×Obj)) (s:Shared) (σ:St) (H:Hp) (Q:List V->Hp->Prop),Inv X pins σ H s->t σ H Q->wpAny (model X.prog X.w) X.A (spliced (backTo pos (starEach es X.env))) (AP X pins σ Q) X.xe s
def PS(X:Cx)(st:Stmt)(t:TS):Prop :=
 ∀(pins:List (Addr×Obj)) (s:Shared) (σ:St) (H:Hp) (D:Ends),Inv X pins σ H s->t D σ H->wpAny (model X.prog X.w) X.A (exec st X.env) (SP X pins D) X.xe s
def PSs(X:Cx)(st:List Stmt)(t:TS):Prop :=
 ∀(pins:List (Addr×Obj)) (s:Shared) (σ:St) (H:Hp) (D:Ends),Inv X pins σ H s->t D σ H->wpAny (model X.prog X.w) X.A (execs st X.env) (SP X pins D) X.xe s
theorem thn{α:Type}{t:Sem α}{Q Q':α->Shared->Prop}(h:wpAny M A t Q E s)(hQ:∀a s,Q a s->Q' a s):wpAny M A t Q' E s:=wpAny_mono h hQ λ _ _ x=>x
section
inductive tVar(i:Nat)(σ:St)(H:Hp)(Q:VK):Prop
 |mk (v:_):σ[i]?=some (some v)->Q v H->tVar i σ H Q
def tC(v:V):TE:=λ _ H Q=>Q v H
theorem pe_var{pos:Pos}(hN:X.N[i]?=some x)(hv:Vis X.env.scope x)(hd:(x==("__debug__":Str))=false:=by decide)(hcd:(x==("__classdict__":Str))=false:=by decide):PE X (.Name x pos) (tVar i):=by
 intro pins s σ H Q I h
 obtain⟨v,e,h⟩:=h
 obtain⟨m,hn,hl⟩:=I.loc
 obtain⟨u,r,l⟩:=hl i x v hN e hv
 have fin:EP X pins σ Q u s:=⟨v,H,I,r,h⟩
 rcases l with⟨hk,hm⟩|⟨hk,c,hc,hcell⟩
 ·exact wpAny_Name (wpAny_loadName_local I.ok.kind hk hn hm fin) hd
 ·rcases hk with hk|hk
  ·exact wpAny_Name (wpAny_loadName_cell I.ok.kind hk hc hcell fin) hd
  ·exact wpAny_Name (wpAny_loadName_free I.ok.kind hk hc hcell fin hcd) hd
theorem qpu9{i j pos}:PE X (.Constant (.int i) j pos) (tC (.int i)):=λ _ _ _ H _ I h=>wpAny_Constant_int ⟨.int i,H,I.tok _,⟨_,rfl⟩,h⟩
theorem pe_bl{b j pos}:PE X (.Constant (.bool b) j pos) (tC (.bl b)):=λ _ _ _ H _ I h=>Constant_bool ⟨.bl b,H,I,rfl,h⟩
theorem pe_non{j pos}:PE X (.Constant .none j pos) (tC .non):=λ _ _ _ H _ I h=>Constant_none ⟨.non,H,I,rfl,h⟩
theorem pe_str{x j pos}:PE X (.Constant (.str x) j pos) (tC (.str x)):=λ _ _ _ H _ I h=>Calls.Constant_str ⟨.str x,H,I.tok _,⟨_,rfl⟩,h⟩
def Gl(X:Cx)(x:Str):Prop:=X.env.kindOf x=some .globalImplicit
theorem qkr9{E:Value->Shared->Prop}{u:Value}{pos:Pos}(I:Inv X pins σ H s)(hg:Gl X x)(hm:X.mg x=some u)(h:Q u s)
  (hd:(x==("__debug__":Str))=false:=by decide):wpAny (model X.prog X.w) X.A (eval (.Name x pos) X.env) Q E s :=
 Calls.Name_function_global I.ok.kind hg (Calls.loadGlobal_global (by rw[I.ok.glob];exact I.mod.glob.keeps I.bk) hm h) hd
theorem qoi9{E:Value->Shared->Prop}{u:Value}{pos:Pos}(I:Inv X pins σ H s)(hg:Gl X x)(hm:X.mg x=none)(hv:bootBuiltins x=some u)(h:Q u s)
  (hn:x≠"__name__" := by decide) (hd:(x==("__debug__":Str))=false:=by decide):wpAny (model X.prog X.w) X.A (eval (.Name x pos) X.env) Q E s:=by
 obtain⟨mb,h1,h2⟩:=I.mod.blt
 exact Calls.Name_function_global I.ok.kind hg (Calls.loadGlobal_builtin (by rw[I.ok.glob];exact I.mod.glob.keeps I.bk) hm (by rw[I.ok.blt];exact h1.keeps I.bk) ((h2 x hn).trans hv) h) hd
theorem qny9{u:Value}{pos:Pos}(hg:Gl X x)(hm:X.mg x=some u)(r:RelV v u)(hd:(x==("__debug__":Str))=false:=by decide):PE X (.Name x pos) (tC v) :=
 λ _ _ _ H _ I h=>qkr9 I hg hm ⟨v,H,I,r,h⟩ hd
theorem pe_bltn{u:Value}{pos:Pos}(hg:Gl X x)(hm:X.mg x=none)(hv:bootBuiltins x=some u)(r:RelV v u)(hn:x≠"__name__" := by decide)(hd:(x==("__debug__":Str))=false:=by decide):PE X (.Name x pos) (tC v) :=
 λ _ _ _ H _ I h=>qoi9 I hg hm hv ⟨v,H,I,r,h⟩ hn hd
variable {a b:Expr}{tb:TE}
def PC(X:Cx)(op:CmpOp)(a b:Expr)(t:TE):Prop :=
 ∀(pins:List (Addr×Obj)) (s:Shared) (σ:St) (H:Hp) (Q:VK),Inv X pins σ H s->t σ H Q ->
  wpAny (model X.prog X.w) X.A (eval a X.env) (λ v s₁=>wpAny (model X.prog X.w) X.A (eval b X.env) (λ u s₂=>wpAny (model X.prog X.w) X.A (compareOp op v u) (EP X pins σ Q) X.xe s₂) X.xe s₁) X.xe s
theorem qrc9(b:Expr)(h:op ≠ .In)(h2:op ≠ .NotIn):behindInMarks op b=false:=by
 have e1:(op==CmpOp.In)=false:=by cases op<;>first|rfl|exact absurd rfl h
 have e2:(op==CmpOp.NotIn)=false:=by cases op<;>first|rfl|exact absurd rfl h2
 cases b<;>simp[behindInMarks,e1,e2]
def tIsN(ta:TE):TE:=λ σ H Q=>ta σ H λ x H1=>Q (.bl (decide (x=.non))) H1
def tNotN(ta:TE):TE:=λ σ H Q=>ta σ H λ x H1=>Q (.bl (!decide (x=.non))) H1
theorem RelV.none_iff{x:V}{v:Value}(r:RelV x v):(v==Value.none)=decide (x=.non):=by
 cases x with
 |non=>cases r;rfl
 |bl _=>cases r;rfl
 |int _=>obtain⟨t,rfl⟩:=r;rfl
 |str _=>obtain⟨t,rfl⟩:=r;rfl
 |byt _=>obtain⟨t,rfl⟩:=r;rfl
 |flt _=>obtain⟨t,rfl⟩:=r;rfl
 |ref _=>cases r;rfl
 |ty _=>cases r;rfl
theorem pc_isN{j pos'}(ha:PE X a ta):PC X .Is a (.Constant .none j pos') (tIsN ta):=by
 intro pins s σ H Q I h
 refine thn (ha pins s σ H _ I h) λ v s1 z9=>?_
 obtain⟨x,H1,I1,r1,q1⟩ := z9
 exact Constant_none (is_none_gen ⟨.bl _,H1,I1,by rw[r1.none_iff];rfl,q1⟩)
theorem pc_notN{j pos'}(ha:PE X a ta):PC X .IsNot a (.Constant .none j pos') (tNotN ta):=by
 intro pins s σ H Q I h
 refine thn (ha pins s σ H _ I h) λ v s1 z9=>?_
 obtain⟨x,H1,I1,r1,q1⟩ := z9
 exact Constant_none (isnot_none_gen ⟨.bl _,H1,I1,by rw[r1.none_iff];rfl,q1⟩)
def tB(t:TE):TT:=λ σ H Q=>t σ H λ x H1=>∃c,x=.bl c/\Q c H1
theorem pe_cmp(h:PC X op a b t)(h1:behindInMarks op b=false:=by first|exact qrc9 _ (by decide) (by decide)|rfl):PE X (.Compare a [op] [b] pos) t:=λ pins s σ H Q I hw=>wpAny_Compare1 (h pins s σ H Q I hw) h1
theorem pt_cmp(h:PC X op a b t)(h1:behindInMarks op b=false:=by first|exact qrc9 _ (by decide) (by decide)|rfl):PT X (.Compare a [op] [b] pos) (tB t):=by
 intro pins s σ H Q I hw
 refine wpAny_isTrue_Compare1 (thn (h pins s σ H _ I hw) λ v s1 h1=>thn h1 λ u s2 h2=>thn h2 λ c s3 z9=>?_) h1
 obtain⟨x,H1,I1,r1,q1⟩ := z9
 obtain⟨d,rfl,q⟩:=q1
 cases r1
 exact wpAny_truthy_bool ⟨H1,I1,q⟩
theorem pt_val(h:PE X e t)(he:∀whole,isTrue e X.env whole=(do let v <- whole;standAt e.pos;holding [v] (truthy v)):=by intro _;rfl):PT X e (tB t):=by
 intro pins s σ H Q I hw
 refine isTrue_plain (thn (h pins s σ H _ I hw) λ v s1 z9=>?_) (he _)
 obtain⟨x,H1,I1,r1,q1⟩ := z9
 obtain⟨d,rfl,q⟩:=q1
 cases r1
 exact wpAny_truthy_bool ⟨H1,I1,q⟩
variable {tA tB':TT}{rest:List Expr}
def tAnd(t u:TT):TT:=λ σ H Q=>t σ H λ c H1=>if c=true then u σ H1 Q else Q false H1
def tOr(t u:TT):TT:=λ σ H Q=>t σ H λ c H1=>if c=true then Q true H1 else u σ H1 Q
def tNot(t:TT):TT:=λ σ H Q=>t σ H λ c H1=>Q (!c) H1
theorem pw_and1(ha:PT X a tA):PW X (.BoolOp .And [a] pos) tA:=by
 intro wh pins s σ H Q I h
 refine isTrue_and (thn (ha pins s σ H Q I h) λ c s1 e=>?_)
 cases c with
 |true=>exact isTrue_and_nil e
 |false=>exact e
theorem pw_or1(ha:PT X a tA):PW X (.BoolOp .Or [a] pos) tA:=by
 intro wh pins s σ H Q I h
 refine isTrue_or (thn (ha pins s σ H Q I h) λ c s1 e=>?_)
 cases c with
 |false=>exact isTrue_or_nil e
 |true=>exact e
theorem pw_and(ha:PT X a tA)(hb:PW X (.BoolOp .And (b::rest) pos) tB'):PW X (.BoolOp .And (a::b::rest) pos) (tAnd tA tB'):=by
 intro wh pins s σ H Q I h
 refine isTrue_and (thn (ha pins s σ H _ I h) λ c s1 z9=>?_)
 obtain⟨H1,I1,q1⟩ := z9
 cases c with
 |true=>exact hb wh pins s1 σ H1 Q I1 q1
 |false=>exact⟨H1,I1,q1⟩
theorem pw_or(ha:PT X a tA)(hb:PW X (.BoolOp .Or (b::rest) pos) tB'):PW X (.BoolOp .Or (a::b::rest) pos) (tOr tA tB'):=by
 intro wh pins s σ H Q I h
 refine isTrue_or (thn (ha pins s σ H _ I h) λ c s1 z9=>?_)
 obtain⟨H1,I1,q1⟩ := z9
 cases c with
 |true=>exact⟨H1,I1,q1⟩
 |false=>exact hb wh pins s1 σ H1 Q I1 q1
theorem pt_not(ha:PT X a tA):PT X (.UnaryOp .Not a pos) (tNot tA):=by
 intro pins s σ H Q I h
 exact isTrue_not (ha pins s σ H (λ c H1=>Q (!c) H1) I h)
def tAndV(ta tb:TE):TE:=λ σ H Q=>ta σ H λ x H1=>∃c,x=.bl c/\if c=true then tb σ H1 Q else Q (.bl false) H1
def tNotV(ta:TE):TE:=λ σ H Q=>ta σ H λ x H1=>∃c,x=.bl c/\Q (.bl (!c)) H1
theorem pe_one{op}(h:PE X a t):PE X (.BoolOp op [a] pos) t:=λ pins s σ H Q I hw=>BoolOp_one (h pins s σ H Q I hw)
theorem pe_and(ha:PE X a ta)(hb:PE X (.BoolOp .And (b::rest) pos) tb):PE X (.BoolOp .And (a::b::rest) pos) (tAndV ta tb):=by
 intro pins s σ H Q I h
 refine BoolOp_and (thn (ha pins s σ H _ I h) λ v s1 z9=>?_)
 obtain⟨x,H1,I1,r1,q1⟩ := z9
 obtain⟨c,rfl,q1⟩:=q1
 cases r1
 refine wpAny_truthy_bool ?_
 cases c with
 |true=>exact hb pins s1 σ H1 Q I1 q1
 |false=>exact⟨.bl false,H1,I1,rfl,q1⟩
theorem pe_not(ha:PE X a ta):PE X (.UnaryOp .Not a pos) (tNotV ta):=by
 intro pins s σ H Q I h
 refine UnaryOp_ (thn (ha pins s σ H _ I h) λ v s1 z9=>?_)
 obtain⟨x,H1,I1,r1,q1⟩ := z9
 obtain⟨c,rfl,q1⟩:=q1
 cases r1
 exact not_of (wpAny_truthy_bool ⟨.bl (!c),H1,I1,rfl,q1⟩)
def tIf(t:TT)(ta tb:TE):TE:=λ σ H Q=>t σ H λ c H1=>if c=true then ta σ H1 Q else tb σ H1 Q
theorem pe_ifExp(hc:PT X c tA)(ha:PE X a ta)(hb:PE X b tb):PE X (.IfExp c a b pos) (tIf tA ta tb):=by
 intro pins s σ H Q I h
 refine wpAny_IfExp (thn (hc pins s σ H _ I h) λ d s1 z9=>?_)
 obtain⟨H1,I1,q1⟩ := z9
 cases d with
 |true=>exact ha pins s1 σ H1 Q I1 q1
 |false=>exact hb pins s1 σ H1 Q I1 q1
end
def SqL(K:W.Frag)(H:Hp)(a:Addr)(xs:List V):Prop :=
 Rd H a (.lst xs) \/
  ∃(o:Obj)(its:Array Value)(n:Nat),K.lookup a=some o/\o.cls=.type "list" /\ o.dict=none/\o.data=.seq its n/\its.size<=sizeLine/\Vals xs its.toList
def SqT(K:W.Frag)(H:Hp)(a:Addr)(xs:List V):Prop :=
 Rd H a (.tup xs) \/
  ∃(o:Obj)(its:Array Value)(n:Nat),K.lookup a=some o/\o.cls=.type "tuple" /\ o.data=.seq its n/\its.size<=sizeLine/\Vals xs its.toList
def absV:Value->Option V
 | .none=>some .non
 | .bool b=>some (.bl b)
 | .int i _=>some (.int i)
 | .str x _=>some (.str x)
 | .bytes b _=>some (.byt b)
 | .float b _=>some (.flt b)
 | .ref a=>some (.ref a)
 | .type n=>some (.ty n)
 |_=>none
theorem RelV.abs{x:V}{u:Value}(r:RelV x u):absV u=some x:=by
 cases x with
 |non=>cases r;rfl
 |bl _=>cases r;rfl
 |int _=>obtain⟨t,rfl⟩:=r;rfl
 |str _=>obtain⟨t,rfl⟩:=r;rfl
 |byt _=>obtain⟨t,rfl⟩:=r;rfl
 |flt _=>obtain⟨t,rfl⟩:=r;rfl
 |ref _=>cases r;rfl
 |ty _=>cases r;rfl
theorem RelV.inj{x y:V}{u:Value}(r:RelV x u)(q:RelV y u):x=y:=Option.some.inj (r.abs.symm.trans q.abs)
theorem Vals.inj:∀{xs ys:List V}{us:List Value},Vals xs us->Vals ys us->xs=ys
 |_,_,_,.nil,.nil=>rfl
 |_,_,_,.cons r t,.cons r' t'=>by rw[r.inj r',Vals.inj t t']
section
variable {xs ys:List V}
theorem SqL.of(h:H a=some (.lst xs)):SqL K H a xs:=.inl (.inl h)
theorem SqT.of(h:H a=some (.tup xs)):SqT K H a xs:=.inl (.inl h)
theorem Inv.list(I:Inv X pins σ H s)(h:SqL X.K H a xs):∃its:List Value,Vals xs its/\PlainL s.heap a its.toArray/\xs.length<=sizeLine:=by
 rcases h with h|⟨o,its,n,hk,hc,hd,hs,hz,r⟩
 ·obtain⟨z,its,n,r,e⟩:=h.ok I.hok
  exact⟨its,r,⟨_,n,e,U,U,U⟩,z⟩
 ·refine⟨its.toList,r,⟨o,n,I.kIn a o hk,hc,hd,by simpa using hs⟩,?_⟩
  have e:=r.length
  simp only[zgc] at e
  omega
theorem Inv.tuple(I:Inv X pins σ H s)(h:SqT X.K H a xs):∃its:List Value,Vals xs its/\IsTup s.heap a its.toArray/\xs.length<=sizeLine:=by
 rcases h with h|⟨o,its,n,hk,hc,hs,hz,r⟩
 ·obtain⟨z,its,r,p⟩:=h.ok I.hok
  exact⟨its,r,p,z⟩
 ·refine⟨its.toList,r,⟨o,I.kIn a o hk,hc,n,by simpa using hs⟩,?_⟩
  have e:=r.length
  simp only[zgc] at e
  omega
theorem Inv.list_inj(I:Inv X pins σ H s)(h:SqL X.K H a xs)(h':SqL X.K H a ys):xs=ys:=by
 obtain⟨its,r,⟨o,n,e,_,_,d⟩,_⟩:=I.list h
 obtain⟨its',r',⟨o',n',e',_,_,d'⟩,_⟩:=I.list h'
 rw[e] at e';cases e'
 rw[d] at d'
 injection d' with d1 _
 have:its=its':=by simpa using congrArg zhn d1
 subst this
 exact r.inj r'
theorem Inv.tuple_inj(I:Inv X pins σ H s)(h:SqT X.K H a xs)(h':SqT X.K H a ys):xs=ys:=by
 obtain⟨its,r,⟨o,e,_,n,d⟩,_⟩:=I.tuple h
 obtain⟨its',r',⟨o',e',_,n',d'⟩,_⟩:=I.tuple h'
 rw[e] at e';cases e'
 rw[d] at d'
 injection d' with d1 _
 have:its=its':=by simpa using congrArg zhn d1
 subst this
 exact r.inj r'
end
abbrev Cx.wish(X:Cx)(E:Value->Shared->Prop):Cx:={ X with xe:=E }
abbrev Cx.nox(X:Cx):Cx:=X.wish λ _ _=>False
theorem Cx.Ok.wish{X:Cx}(ok:X.Ok)(E:Value->Shared->Prop):(X.wish E).Ok :=
 ⟨ok.mod,ok.kind,ok.glob,ok.blt,ok.above,ok.inj,ok.has,ok.cab,ok.hd,ok.frames,ok.stk,ok.exf,ok.bs,ok.bsz,ok.noex,ok.exfs,ok.funs,ok.frf⟩
theorem Cx.Ok.unwish(ok:(X.wish E).Ok):X.Ok :=
 ⟨ok.mod,ok.kind,ok.glob,ok.blt,ok.above,ok.inj,ok.has,ok.cab,ok.hd,ok.frames,ok.stk,ok.exf,ok.bs,ok.bsz,ok.noex,ok.exfs,ok.funs,ok.frf⟩
theorem Inv.wish(I:Inv X pins σ H s)(E:Value->Shared->Prop):Inv (X.wish E) pins σ H s:=⟨I.ok.wish E,I.os,I.bare,I.base,I.loc,I.cell,I.free,I.freeC,I.pin,I.hok,I.len⟩
theorem Inv.unwish(I:Inv (X.wish E) pins σ H s):Inv X pins σ H s:=⟨I.ok.unwish,I.os,I.bare,I.base,I.loc,I.cell,I.free,I.freeC,I.pin,I.hok,I.len⟩
theorem SP.unwish{D:Ends}{f:Flow}{s':Shared}(h:SP (X.wish E) pins D f s'):SP X pins D f s':=by
 cases f with
 |next=>obtain⟨σ',H',I,q⟩:=h;exact⟨σ',H',I.unwish,q⟩
 |brk=>obtain⟨σ',H',I,q⟩:=h;exact⟨σ',H',I.unwish,q⟩
 |cont=>obtain⟨σ',H',I,q⟩:=h;exact⟨σ',H',I.unwish,q⟩
 |ret u=>obtain⟨v,σ',H',I,r,q⟩:=h;exact⟨v,σ',H',I.unwish,r,q⟩
theorem PSs.nox{st:List Stmt}{t:TS}(h:PSs X.nox st t):PSs X st t:=λ pins s σ H D I hw =>
 wpAny_mono (h pins s σ H D (I.wish _) hw) (λ _ _ q=>q.unwish) λ _ _ z=>False.elim z
section
variable {st:Stmt}{rest:List Stmt}{t u:TS}
def tNext:TS:=λ D σ H=>D.nx σ H
def tSeq(t u:TS):TS:=λ D σ H=>t { D with nx:=u D } σ H
theorem pss_nil:PSs X [] tNext:=λ _ _ σ H _ I h=>wpAny_execs_nil ⟨σ,H,I,h⟩
theorem pss_cons(h1:PS X st t)(h2:PSs X rest u):PSs X (st::rest) (tSeq t u):=by
 intro pins s σ H D I h
 refine wpAny_execs_cons (thn (h1 pins s σ H { D with nx:=u D } I h) λ f s1 q=>?_)
 cases f with
 |next =>
  obtain⟨σ',H',I',q⟩:=q
  exact h2 pins s1 σ' H' D I' q
 |ret v=>exact q
 |brk=>exact q
 |cont=>exact q
theorem pss_one(h1:PS X st t):PSs X [st] t:=by
 intro pins s σ H D I h
 refine wpAny_execs_cons (thn (h1 pins s σ H D I h) λ f s1 q=>?_)
 cases f with
 |next=>exact wpAny_execs_nil q
 |ret v=>exact q
 |brk=>exact q
 |cont=>exact q
theorem Inv.quiet(I:Inv X pins σ H s):interactive X.env=false:=by simp[interactive,I.ok.kind]
def tDrop(te:TE):TS:=λ D σ H=>te σ H λ _ H1=>D.nx σ H1
theorem ps_expr(he:PE X e te)(hs:swapsWith e none pos.line X.env=pure false:=by rfl):PS X (.Expr e pos) (tDrop te):=by
 intro pins s σ H D I h
 exact wpAny_Expr_any (thn (he pins s σ H _ I h) λ v s1 ⟨x,H1,I1,r1,q1⟩=>⟨σ,H1,I1,q1⟩) I.quiet hs
def tRet(te:TE):TS:=λ D σ H=>te σ H D.rt
theorem ps_ret(he:PE X e te):PS X (.Return (some e) pos) (tRet te):=by
 intro pins s σ H D I h
 exact wpAny_Return_some (thn (he pins s σ H _ I h) λ v s1 ⟨x,H1,I1,r1,q1⟩=>⟨x,σ,H1,I1,r1,q1⟩)
def tRetN:TS:=λ D _ H=>D.rt .non H
theorem ps_retN:PS X (.Return none pos) tRetN:=λ _ _ σ H _ I h=>wpAny_Return_none ⟨.non,σ,H,I,rfl,h⟩
def tIfS(c:TT)(t u:TS):TS:=λ D σ H=>c σ H λ b H1=>if b=true then t D σ H1 else u D σ H1
theorem ps_if{a b:List Stmt}{tc:TT}(hc:PT X c tc)(ha:PSs X a t)(hb:PSs X b u):PS X (.If c a b pos) (tIfS tc t u):=by
 intro pins s σ H D I h
 refine wpAny_If (thn (hc pins s σ H _ I h) λ d s1 z9=>?_)
 obtain⟨H1,I1,q1⟩ := z9
 cases d with
 |true=>exact ha pins s1 σ H1 D I1 q1
 |false=>exact hb pins s1 σ H1 D I1 q1
def tNever:TS:=λ _ _ _=>False
theorem ps_never:PS X st tNever:=λ _ _ _ _ _ _ h=>h.elim
end
abbrev TG:=V->St->Hp->(St->Hp->Prop)->Prop
variable {g:TG}
abbrev TGs:=List V->St->Hp->(St->Hp->Prop)->Prop
def PG(X:Cx)(target:Expr)(t:TG):Prop :=
 ∀(pins:List (Addr×Obj)) (s:Shared) (σ:St) (H:Hp) (v:V) (u:Value) (Q:St->Hp->Prop),Inv X pins σ H s->RelV v u->t v σ H Q ->
  wpAny (model X.prog X.w) X.A (assign target X.env u) (λ _ s'=>∃σ' H',Inv X pins σ' H' s'/\Q σ' H') X.xe s
def PGs(X:Cx)(ts:List Expr)(t:TGs):Prop :=
 ∀(pins:List (Addr×Obj)) (s:Shared) (σ:St) (H:Hp) (vs:List V) (us:List Value) (Q:St->Hp->Prop),Inv X pins σ H s->Vals vs us->t vs σ H Q ->
  wpAny (model X.prog X.w) X.A (assignInOrder ((assignEach ts X.env).map (·.2)) us) (λ _ s'=>∃σ' H',Inv X pins σ' H' s'/\Q σ' H') X.xe s
abbrev TSet:=V->V->V->Hp->(Hp->Prop)->Prop
def PSet(X:Cx)(t:TSet):Prop :=
 ∀(pins:List (Addr×Obj)) (s:Shared) (σ:St) (H:Hp) (o i v:V) (ov iv u:Value) (Q:Hp->Prop),Inv X pins σ H s->RelV o ov->RelV i iv->RelV v u->t o i v H Q ->
  wpAny (model X.prog X.w) X.A (setItem ov iv u) (λ _ s'=>∃H',Inv X pins σ H' s'/\Q H') X.xe s
abbrev TIp:=V->V->Hp->VK->Prop
def PIp(X:Cx)(op:Operator)(t:TIp):Prop :=
 ∀(pins:List (Addr×Obj)) (s:Shared) (σ:St) (H:Hp) (x y:V) (v u:Value) (Q:VK),Inv X pins σ H s->RelV x v->RelV y u->t x y H Q ->
  wpAny (model X.prog X.w) X.A (inplaceOp op v u) (EP X pins σ Q) X.xe s
def gName(i:Nat):TG:=λ v σ H Q=>Q (σ.set i (some v)) H
theorem pg_name(hN:X.N.Nodup)(hi:X.N[i]?=some x)(hx:Loc X.env.scope x)(hf:X.fn x=true\/X.env.scope.names.lookup x=some .local:=by first|exact .inl rfl|exact .inr rfl|assumption):PG X (.Name x pos) (gName i):=by
 intro pins s σ H v u Q I r h
 exact wpAny_assign_Name (qmt9 I hN hi hx r (λ s' I'=>⟨_,H,I',h⟩) hf)
inductive gNil(vs:List V)(σ:St)(H:Hp)(Q:St->Hp->Prop):Prop
 |mk  : vs=[]->Q σ H->gNil vs σ H Q
inductive gCons(t:TG)(u:TGs)(vs:List V)(σ:St)(H:Hp)(Q:St->Hp->Prop):Prop
 |mk (v:_) (r:_):(vs=v::r)->(t v σ H λ σ' H'=>u r σ' H' Q)->gCons t u vs σ H Q
theorem pgs_nil:PGs X [] gNil:=by
 intro pins s σ H vs us Q I r h
 obtain⟨e,h⟩:=h
 subst e
 cases r
 exact assignInOrder_nil ⟨σ,H,I,h⟩
theorem pgs_cons{t:TG}{u:TGs}(h1:PG X e t)(h2:PGs X es u)
  (hs:(assignEach (e::es) X.env).map (·.2)=assign e X.env::(assignEach es X.env).map (·.2):=by rfl):PGs X (e::es) (gCons t u):=by
 intro pins s σ H vs us Q I r h
 obtain⟨v,vr,e1,h⟩:=h
 subst e1
 cases r with
 |cons r rr =>
  rw[hs]
  refine assignInOrder_cons (thn (h1 pins s σ H _ _ _ I r h) λ _ s1 z9=>?_)
  obtain⟨σ1,H1,I1,q1⟩ := z9
  exact h2 pins s1 σ1 H1 _ _ Q I1 rr q1
inductive gTup(K:W.Frag)(n:Nat)(t:TGs)(v:V)(σ:St)(H:Hp)(Q:St->Hp->Prop):Prop
 |mk (a:_) (xs:_):v=.ref a->SqT K H a xs->xs.length=n->t xs σ H Q->gTup K n t v σ H Q
theorem pg_tup{k:Nat}{t:TGs}(hc:X.calm=true)(h:PGs X es t)
  (hn:(assignEach es X.env).length=n:=by rfl) (hst:(assignEach es X.env).findIdx? (·.1)=none:=by rfl):PG X (.Tuple es k pos) (gTup X.K n t):=by
 intro pins s σ H v u Q I r hw
 obtain⟨a,xs,e1,hq,hl,hw⟩:=hw
 subst e1
 cases r
 obtain⟨its,rv,ht,hz⟩:=I.tuple hq
 refine assign_Tuple_tuple (I.ok.hd hc) ht (by simp[hn,<- hl,rv.length]) hst λ h' hx=>?_
 have I1:Inv X pins σ H { s with heap:=h' }:=I.kept (t':=s.toks) λ b o e=>hx b o (zbd (zas e)) e
 exact h pins _ σ H xs _ Q I1 (by simpa using rv) hw
def gSub(to ti:TE)(t:TSet):TG:=λ v σ H Q=>to σ H λ o H1=>ti σ H1 λ i H2=>t o i v H2 λ H3=>Q σ H3
theorem pg_sub{o i:Expr}{to ti:TE}{t:TSet}(ho:PE X o to)(hi:PE X i ti)(hs:PSet X t)
  (ha:∀v,assign (.Subscript o i pos) X.env v=(do
   let ov <- holding [v] (eval o X.env)
   let iv <- holding [v,ov] (eval i X.env)
   standAt pos
   holding [v,ov,iv] (setItem ov iv v)
   release [v,ov,iv] []):=by intro _;rfl):PG X (.Subscript o i pos) (gSub to ti t):=by
 intro pins s σ H v u Q I r h
 rw[ha]
 refine wpAny_bind (wpAny_holding (thn (ho pins s σ H _ I h) λ ov s1 z9=>?_))
 obtain⟨x,H1,I1,r1,q1⟩ := z9
 refine wpAny_bind (wpAny_holding (thn (hi pins s1 σ H1 _ I1 q1) λ iv s2 z9=>?_))
 obtain⟨y,H2,I2,r2,q2⟩ := z9
 refine wpAny_bind (wpAny_standAt (wpAny_bind (wpAny_holding (thn (hs pins s2 σ H2 x y v ov iv u _ I2 r1 r2 r q2) λ _ s3 z9=>?_))))
 obtain⟨H3,I3,q3⟩ := z9
 exact wpAny_release ⟨σ,H3,I3,q3⟩
def tAsg(te:TE)(g:TG):TS:=λ D σ H=>te σ H λ x H1=>g x σ H1 D.nx
theorem ps_asg(he:PE X e te)(hg:PG X tg g)(hs:swapsWithSole [tg] e pos.line X.env=pure false:=by rfl)(hw:swappedStores [tg] e X.env=pure none:=by rfl)
  (h1:(assignEach [tg] X.env).map (·.2)=[assign tg X.env]:=by rfl):PS X (.Assign [tg] e pos) (tAsg te g):=by
 intro pins s σ H D I h
 refine wpAny_Assign_stores (thn (he pins s σ H _ I h) λ v s1 z9=>?_) hs hw
 obtain⟨x,H1,I1,r1,q1⟩ := z9
 rw[h1]
 exact thn (hg pins s1 σ H1 x v _ I1 r1 q1) λ _ s2 q=>q
theorem ps_set(hN:X.N.Nodup)(hi:X.N[i]?=some x)(hx:Loc X.env.scope x)(he:PE X e te)(hs:swapsWith e (some (.Name x pos')) pos.line X.env=pure false:=by rfl)(hf:X.fn x=true\/X.env.scope.names.lookup x=some .local:=by first|exact .inl rfl|exact .inr rfl|assumption) :
  PS X (.Assign [.Name x pos'] e pos) (tAsg te (gName i)):=by
 intro pins s σ H D I h
 refine wpAny_Assign_Name (thn (he pins s σ H _ I h) λ v s1 z9=>?_) hs
 obtain⟨y,H1,I1,r1,q1⟩ := z9
 exact qmt9 I1 hN hi hx r1 (λ s2 I2=>⟨_,H1,I2,q1⟩) hf
inductive tAug(i:Nat)(te:TE)(ti:TIp)(D:Ends)(σ:St)(H:Hp):Prop
 |mk (x:_):σ[i]?=some (some x)->(te σ H λ y H1=>ti x y H1 λ z H2=>D.nx (σ.set i (some z)) H2)->tAug i te ti D σ H
theorem ps_aug{op:Operator}{ti:TIp}{pos':Pos}(hN:X.N.Nodup)(hi:X.N[i]?=some x)(hx:Loc X.env.scope x)(he:PE X e te)(ho:PIp X op ti)(hf:X.fn x=true\/X.env.scope.names.lookup x=some .local:=by first|exact .inl rfl|exact .inr rfl|assumption) :
  PS X (.AugAssign (.Name x pos') op e pos) (tAug i te ti):=by
 intro pins s σ H D I h
 obtain⟨v,e1,h⟩:=h
 obtain⟨m,hn,hl⟩:=I.loc
 have vis:Vis X.env.scope x:=by rcases hx with k|k;exact .inl k;exact .inr (.inl k)
 obtain⟨u,r,l⟩:=hl i x v hi e1 vis
 refine wpAny_AugAssign_Name ?_
 have go:wpAny (model X.prog X.w) X.A (eval e X.env) (λ w s₂=>wpAny (model X.prog X.w) X.A (inplaceOp op u w) (λ r s₃=>wpAny (model X.prog X.w) X.A (storeName X.env x r) (λ _=>SP X pins D .next) X.xe s₃) X.xe s₂) X.xe s:=by
  refine thn (he pins s σ H _ I h) λ w s1 z9=>?_
  obtain⟨y,H1,I1,r1,q1⟩ := z9
  refine thn (ho pins s1 σ H1 v y u w _ I1 r r1 q1) λ z s2 z9=>?_
  obtain⟨zv,H2,I2,r2,q2⟩ := z9
  exact qmt9 I2 hN hi hx r2 (λ s3 I3=>⟨_,H2,I3,q2⟩) hf
 rcases l with⟨hk,hm⟩|⟨hk,c,hc,hcell⟩
 ·exact wpAny_loadName_local I.ok.kind hk hn hm go
 ·rcases hk with hk|hk
  ·exact wpAny_loadName_cell I.ok.kind hk hc hcell go
  ·rcases hx with k|k
   ·have:X.env.scope.names.lookup x=some .free:=hk
    rw[k] at this;cases this
   ·have:X.env.scope.names.lookup x=some .free:=hk
    rw[k] at this;cases this
def ipI(f:Int->Int->Int):TIp:=λ x y H Q=>∃i j,x=.int i/\y=.int j/\Q (.int (f i j)) H
theorem ip_add:PIp X .Add (ipI λ i j=>i+j):=by
 intro pins s σ H x y v u Q I r1 r2 h
 obtain⟨i,j,e1,e2,q⟩:=h
 subst e1;subst e2
 obtain⟨t,rfl⟩:=r1
 obtain⟨t',rfl⟩:=r2
 exact iadd_int ⟨.int _,H,I.tok _,⟨_,rfl⟩,q⟩
inductive tWhile(c:TT)(tb:TS)(D:Ends)(σ:St)(H:Hp):Prop
 |mk (W:Nat->St->Hp->Prop):((∃m,W m σ H))->(∀m σ H,W m σ H->c σ H λ b H1=>if b=true then ∃N:St->Hp->Prop,(∀σ' H',N σ' H'->∃m',m'<m/\W m' σ' H')/\tb { D with nx:=N,ct:=N,bk:=D.nx } σ H1 else D.nx σ H1)->tWhile c tb D σ H
theorem ps_while{tc:TT}(hp:PassesOwn (model X.prog X.w) X.A X.env X.xe)(hc:PT X c tc)(hb:PSs X body tb):PS X (.While c body [] pos) (tWhile tc tb):=by
 intro pins s σ H D I h
 obtain⟨W,⟨m0,w0⟩,turn⟩:=h
 refine wpAny_While (codeAny_whileLoop (λ n s'=>∃σ' H',Inv X pins σ' H' s'/\W n σ' H') ?_ m0 ⟨σ,H,I,w0⟩)
 intro n s1 z9;obtain⟨σ1,H1,I1,w1⟩ := z9
 refine wpAny_passesOwn hp (thn (hc pins s1 σ1 H1 _ I1 (turn n σ1 H1 w1)) λ b s2 z9=>?_)
 obtain⟨H2,I2,q2⟩ := z9
 cases b with
 |true =>
  obtain⟨N,hN,q2⟩:=q2
  rw[if_pos rfl]
  refine wpAny_passesOwn hp (thn (hb pins s2 σ1 H2 _ I2 q2) λ f s3 q3=>?_)
  cases f with
  |next =>
   obtain⟨σ3,H3,I3,n3⟩:=q3
   obtain⟨m',hm,w3⟩:=hN σ3 H3 n3
   exact⟨m',hm,σ3,H3,I3,w3⟩
  |cont =>
   obtain⟨σ3,H3,I3,n3⟩:=q3
   obtain⟨m',hm,w3⟩:=hN σ3 H3 n3
   exact⟨m',hm,σ3,H3,I3,w3⟩
  |brk=>exact q3
  |ret v=>exact q3
 |false =>
  rw[if_neg zaz]
  exact wpAny_execs_nil ⟨σ1,H2,I2,q2⟩
structure It where
 go:Nat->Hp->Prop
 yld:Nat->Hp->V->Hp->Prop
 stop:Nat->Hp->Prop
def FpOk(X:Cx)(pins:List (Addr×Obj))(H:Hp)(b:Addr):Prop :=
 H b=none/\b≠X.env.locals/\b∉X.fs/\(b∈X.ex\/X.s₀.heap.objs.size<=b)/\(∀x c,X.env.cells.lookup x=some c->c≠b)/\∀p∈X.pn++pins,p.1≠b
theorem Inv.fpOk(I:Inv X pins σ H s)(hb:s.heap.objs.size<=b)(hn:H' b=none):FpOk X pins H' b:=by
 refine⟨hn,zeq (zay I.lt hb),I.nofs hb,.inr (zbb I.sz hb),λ x c e z=>?_,λ p hp z=>?_⟩
 ·obtain⟨v,q⟩:=I.cell x c e
  exact absurd (zay q.lt (by rw[z];exact hb)) (zca _)
 ·exact absurd (zay (zas (I.pin p hp).1) (by rw[z];exact hb)) (zca _)
structure Turn(P:Program)(w:World)(K:W.Frag)(tg:Expr)(J:It)(fp:List Addr)(it:Addr)(tn:Nat->Heap->Prop):Prop where
 mem:it∈fp
 obj:∀i h,tn i h->∀b∈fp,∃o,h.get? b=some o/\∀v,o.data ≠ .cell v
 keep:∀i h h',tn i h->(∀b∈fp,∀o,h.get? b=some o->h'.get? b=some o)->tn i h'
 item:∀(X:Cx),X.prog=P->X.w=w->X.K=K->X.calm=true->∀(i:Nat) (pins:List (Addr×Obj)) (s:Shared) (σ:St) (H:Hp) (E:Value->Shared->Prop),Inv X pins σ H s->(∀b∈fp,FpOk X pins H b)->tn i s.heap->J.go i H ->
  wpAny (model P w) X.A (pyNext (.ref it)) (λ r s1=>∃u,r=some u /\
   wpAny (model P w) X.A (letOwnedTupleGo tg (.ref it) u) (λ _ s2=>∃x H',Inv X pins σ H' s2/\RelV x u/\J.yld i H x H'/\tn (i+1) s2.heap/\∀b∈fp,H' b=none) E s1) E s
 done:∀(X:Cx),X.prog=P->X.w=w->X.K=K->X.calm=true->∀(i:Nat) (pins:List (Addr×Obj)) (s:Shared) (σ:St) (H:Hp) (E:Value->Shared->Prop),Inv X pins σ H s->(∀b∈fp,FpOk X pins H b)->tn i s.heap->J.stop i H ->
  wpAny (model P w) X.A (pyNext (.ref it)) (λ r s1=>r=none/\Inv X pins σ H s1) E s
 self:∀(A:Around)(i:Nat)(s:Shared)(Q:Value->Shared->Prop)(E:Value->Shared->Prop),tn i s.heap->Q (.ref it) s->wpAny (model P w) A (pyIter (.ref it)) Q E s
abbrev TI:=St->Hp->(It->Hp->Prop)->Prop
def PIE(X:Cx)(pins:List (Addr×Obj))(σ:St)(tg:Expr)(R:It->Hp->Prop)(itv:Value)(s2:Shared):Prop :=
 ∃(it:Addr)(fp:List Addr)(tn:Nat->Heap->Prop)(J:It)(H':Hp),itv=.ref it/\Inv X pins σ H' s2/\Turn X.prog X.w X.K tg J fp it tn/\tn 0 s2.heap/\(∀b∈fp,FpOk X pins H' b)/\R J H'
def PI(X:Cx)(tg iter:Expr)(wi:TI):Prop :=
 ∀(pins:List (Addr×Obj)) (s:Shared) (σ:St) (H:Hp) (R:It->Hp->Prop),Inv X pins σ H s->wi σ H R ->
  wpAny (model X.prog X.w) X.A (eval iter X.env) (λ v s1=>wpAny (model X.prog X.w) X.A (pyIter v) (PIE X pins σ tg R) X.xe s1) X.xe s
theorem go_of{it:Addr}{u:Value}{n:String}{vs:Array Value}{Q:Unit->Shared->Prop}(ho:s.heap.get? it=some o)(hc:o.cls=.type n)(hd:o.data=.fields vs)
  (hn:["enumerate","zip","dict_itemiterator","dict_reverseitemiterator","odict_iterator","itertools.zip_longest","itertools.pairwise"].contains n=false) (hQ:Q () s):wpAny M A (letOwnedTupleGo tg (.ref it) u) Q E s:=by
 unfold letOwnedTupleGo
 cases tg<;>first
  |exact wpAny_pure hQ
  | (cases u<;>first
    |exact wpAny_pure hQ
    | (refine wpAny_bind (wpAny_load ho ?_)
       rw[hc,hd]
       show wpAny M A (if(["enumerate","zip","dict_itemiterator","dict_reverseitemiterator","odict_iterator","itertools.zip_longest","itertools.pairwise"].contains n&&vs[0]? == some (rawInt _))=true then _ else _) Q E s
       rw[if_neg (by intro h;rw[hn,zeh] at h;cases h)]
       exact wpAny_pure hQ))
def Itl(K:W.Frag)(a:Addr):It :=
 ⟨λ i H=>∃xs x,SqL K H a xs/\xs[i]?=some x,λ i H x H'=>H'=H/\∀xs,SqL K H a xs->xs[i]?=some x,λ i H=>∃xs,SqL K H a xs/\xs.length<=i⟩
def Itt(K:W.Frag)(a:Addr):It :=
 ⟨λ i H=>∃xs x,SqT K H a xs/\xs[i]?=some x,λ i H x H'=>H'=H/\∀xs,SqT K H a xs->xs[i]?=some x,λ i H=>∃xs,SqT K H a xs/\xs.length<=i⟩
def Itr(lo:Int)(n:Nat):It:=⟨λ i _=>i<n,λ i H x H'=>H'=H/\x=.int (lo+i),λ i _=>n<=i⟩
theorem turn_list(a it:Addr):Turn P w K tg (Itl K a) [it] it (λ i h=>h.IsListIter it a i) where
 mem:=by simp
 obj:=λ i h st b hb=>by
  have e:b=it:=by simpa using hb
  subst e
  obtain⟨o,e,c,d⟩:=st
  exact⟨o,e,λ v z=>by rw[d] at z;cases z⟩
 keep:=λ i h h' st k=>st.at λ o e=>k it (by simp) o e
 item:=by
  intro X hP hw hK hc i pins s σ H E I hf st hg
  subst hP hw hK
  obtain⟨xs,x,hq,hx⟩:=hg
  obtain⟨its,rv,p,hz⟩:=I.list hq
  obtain⟨u,hu,ru⟩:=rv.get hx
  obtain⟨f0,f1,f2,f3,f4,f5⟩:=hf it (by simp)
  refine wpAny_pyNext_list_item st p.isList (x:=u) (by simpa using hu) λ h' st' sb=>?_
  have I1:Inv X pins σ H { s with heap:=h' }:=I.turned (t':=s.toks) (λ b o hb e=>(sb.2 b hb).trans e) f0 f1 f3 f4 f5
  obtain⟨o,e,c,d⟩:=id st'
  exact⟨u,rfl,go_of (s:={ s with heap:=h' }) e c d (by decide) ⟨x,H,I1,ru,⟨rfl,λ ys hy=>by rw[I.list_inj hy hq];exact hx⟩,st',λ b hb=>(hf b hb).1⟩⟩
 done:=by
  intro X hP hw hK hc i pins s σ H E I hf st hg
  subst hP hw hK
  obtain⟨xs,hq,hx⟩:=hg
  obtain⟨its,rv,p,hz⟩:=I.list hq
  obtain⟨f0,f1,f2,f3,f4,f5⟩:=hf it (by simp)
  have hl:=rv.length
  exact wpAny_pyNext_list_end (I.ok.hd hc) st p.isList (by simp;omega) λ h' eb=>⟨rfl,I.turned (t':=s.toks) (λ b o hb e=>eb b o hb e) f0 f1 f3 f4 f5⟩
 self:=λ _ _ _ _ _ st h=>wpAny_pyIter_listiter st h
theorem qpg9(a it:Addr):Turn P w K tg (Itt K a) [it] it (λ i h=>h.IsTupleIter it a i) where
 mem:=by simp
 obj:=λ i h st b hb=>by
  have e:b=it:=by simpa using hb
  subst e
  obtain⟨o,e,c,d⟩:=st
  exact⟨o,e,λ v z=>by rw[d] at z;cases z⟩
 keep:=λ i h h' st k=>st.at λ o e=>k it (by simp) o e
 item:=by
  intro X hP hw hK hc i pins s σ H E I hf st hg
  subst hP hw hK
  obtain⟨xs,x,hq,hx⟩:=hg
  obtain⟨its,rv,p,hz⟩:=I.tuple hq
  obtain⟨u,hu,ru⟩:=rv.get hx
  obtain⟨f0,f1,f2,f3,f4,f5⟩:=hf it (by simp)
  refine wpAny_pyNext_tuple_item st (show s.heap.IsTuple a its.toArray from p) (x:=u) (by simpa using hu) λ h' st' sb=>?_
  have I1:Inv X pins σ H { s with heap:=h' }:=I.turned (t':=s.toks) (λ b o hb e=>(sb.2 b hb).trans e) f0 f1 f3 f4 f5
  obtain⟨o,e,c,d⟩:=id st'
  exact⟨u,rfl,go_of (s:={ s with heap:=h' }) e c d (by decide) ⟨x,H,I1,ru,⟨rfl,λ ys hy=>by rw[I.tuple_inj hy hq];exact hx⟩,st',λ b hb=>(hf b hb).1⟩⟩
 done:=by
  intro X hP hw hK hc i pins s σ H E I hf st hg
  subst hP hw hK
  obtain⟨xs,hq,hx⟩:=hg
  obtain⟨its,rv,p,hz⟩:=I.tuple hq
  obtain⟨f0,f1,f2,f3,f4,f5⟩:=hf it (by simp)
  have hl:=rv.length
  exact wpAny_pyNext_tuple_end (I.ok.hd hc) st (show s.heap.IsTuple a its.toArray from p) (by simp;omega) λ h' eb=>⟨rfl,I.turned (t':=s.toks) (λ b o hb e=>eb b o hb e) f0 f1 f3 f4 f5⟩
 self:=λ _ _ _ _ _ st h=>wpAny_pyIter_tupleiter st h
theorem qqn9(it:Addr)(lo:Int)(n:Nat):Turn P w K tg (Itr lo n) [it] it (λ i h=>IsRangeIter h it (lo+(i:Nat)*1) ((n:Int)-(i:Nat)) 1) where
 mem:=by simp
 obj:=λ i h st b hb=>by
  have e:b=it:=by simpa using hb
  subst e
  exact⟨_,st,λ v z=>by
   have z':Data.fields _=Data.cell v:=z
   cases z'⟩
 keep:=λ i h h' st k=>k it (by simp) _ st
 item:=by
  intro X hP hw hK hc i pins s σ H E I hf st hg
  subst hP hw hK
  obtain⟨f0,f1,f2,f3,f4,f5⟩:=hf it (by simp)
  have W:=Walks.range (prog:=X.prog) (w:=X.w) (I.ok.hd hc) it lo 1 n
  refine W.item i s _ _ hg st λ v h' tk hv st' kk=>?_
  obtain⟨t,rfl⟩:=hv
  have I1:Inv X pins σ H { s with heap:=h',toks:=tk }:=I.turned (λ b o hb e=>kk b o (by simpa using hb) e) f0 f1 f3 f4 f5
  refine⟨_,rfl,go_of (s:={ s with heap:=h',toks:=tk }) (n := "range_iterator") st' rfl rfl (by decide) ⟨.int (lo+i),H,I1,⟨t,?_⟩,⟨rfl,rfl⟩,st',λ b hb=>(hf b hb).1⟩⟩
  rw[zco]
 done:=by
  intro X hP hw hK hc i pins s σ H E I hf st hg
  subst hP hw hK
  obtain⟨f0,f1,f2,f3,f4,f5⟩:=hf it (by simp)
  exact wpAny_pyNext_range_end (I.ok.hd hc) st (by have:n<=i:=hg;omega) λ h' eb=>⟨rfl,I.turned (t':=s.toks) (λ b o hb e=>eb b o hb e) f0 f1 f3 f4 f5⟩
 self:=λ _ _ _ _ _ st h=>wpAny_pyIter_rangeiter st h
def iList(K:W.Frag)(tl:TE):TI:=λ σ H R=>tl σ H λ x H1=>∃a,x=.ref a/\(∃xs,SqL K H1 a xs)/\R (Itl K a) H1
def iTup(K:W.Frag)(tl:TE):TI:=λ σ H R=>tl σ H λ x H1=>∃a,x=.ref a/\(∃xs,SqT K H1 a xs)/\R (Itt K a) H1
theorem pi_list{l:Expr}{tl:TE}(hl:PE X l tl):PI X tg l (iList X.K tl):=by
 intro pins s σ H R I h
 refine thn (hl pins s σ H _ I h) λ v s1 z9=>?_
 obtain⟨x,H1,I1,r1,q1⟩ := z9
 obtain⟨a,e,⟨xs,hq⟩,q⟩:=q1
 subst e
 cases r1
 obtain⟨its,rv,p,hz⟩:=I1.list hq
 refine wpAny_pyIter_list p.isList ?_
 refine⟨s1.heap.objs.size,[s1.heap.objs.size],_,_,H1,U,I1.kept (t':=s1.toks) λ b o e=>zae _ e,turn_list a _,⟨_,zar _ rfl,U,U⟩,λ b hb=>?_,q⟩
 have e:b=s1.heap.objs.size:=by simpa using hb
 subst e
 exact I1.fpOk (zao _) (I1.hok.fresh (zao _))
theorem pi_tup{l:Expr}{tl:TE}(hl:PE X l tl):PI X tg l (iTup X.K tl):=by
 intro pins s σ H R I h
 refine thn (hl pins s σ H _ I h) λ v s1 z9=>?_
 obtain⟨x,H1,I1,r1,q1⟩ := z9
 obtain⟨a,e,⟨xs,hq⟩,q⟩:=q1
 subst e
 cases r1
 obtain⟨its,rv,p,hz⟩:=I1.tuple hq
 refine wpAny_pyIter_tuple (show s1.heap.IsTuple a its.toArray from p) ?_
 refine⟨s1.heap.objs.size,[s1.heap.objs.size],_,_,H1,U,I1.kept (t':=s1.toks) λ b o e=>zae _ e,qpg9 a _,⟨_,zar _ rfl,U,U⟩,λ b hb=>?_,q⟩
 have e:b=s1.heap.objs.size:=by simpa using hb
 subst e
 exact I1.fpOk (zao _) (I1.hok.fresh (zao _))
theorem range_it{R:It->Hp->Prop}{lo hi:Int}{t u v:Tok}{tk:Nat}(I:Inv X pins σ H s)(h1:-(2 ^ 62)<=lo)(h2:lo<2 ^ 62)(h3:-(2 ^ 62)<=hi)(h4:hi<2 ^ 62)
  (q:R (Itr lo (hi-lo).toNat) H):wpAny (model X.prog X.w) X.A (pyIter (.ref s.heap.objs.size)) (PIE X pins σ tg R) E { s with heap:=s.heap.push { cls:=.type "range",data:=.fields #[.int lo t,.int hi u,.int 1 v] },toks:=tk }:=by
 refine wpAny_pyIter_range (IsRange.new ..) (small_one h1 h2 h3 h4) ?_
 have I1:Inv X pins σ H { s with heap:=s.heap.push { cls:=.type "range",data:=.fields #[.int lo t,.int hi u,.int 1 v] },toks:=tk }:=I.kept λ b o e=>zae _ e
 refine⟨(s.heap.push { cls:=.type "range",data:=.fields #[.int lo t,.int hi u,.int 1 v] }).objs.size,[(s.heap.push { cls:=.type "range",data:=.fields #[.int lo t,.int hi u,.int 1 v] }).objs.size],_,_,H,U,
  I1.kept (t':=tk) λ b o e=>zae _ e,qqn9 _ lo (hi-lo).toNat,?_,λ b hb=>?_,q⟩
 ·have e1:lo+((0:Nat):Int)*1=lo:=by simp
  have e2:(((hi-lo).toNat:Nat):Int)-((0:Nat):Int)=Builtin.Range.rangeSize lo hi 1:=by rw[rangeSize_one];split<;>omega
  show IsRangeIter _ _ (lo+((0:Nat):Int)*1) ((((hi-lo).toNat:Nat):Int)-((0:Nat):Int)) 1
  rw[e1,e2]
  exact zar _ rfl
 ·have e:b=(s.heap.push { cls:=.type "range",data:=.fields #[.int lo t,.int hi u,.int 1 v] }).objs.size:=by simpa using hb
  subst e
  exact I1.fpOk (zao _) (I1.hok.fresh (zao _))
def iRng1(ta:TA):TI:=λ σ H R=>ta σ H λ vs H1=>∃j:Int,vs=[.int j]/\-(2 ^ 62)<=j/\j<2 ^ 62/\R (Itr 0 j.toNat) H1
theorem pi_range1{a:Expr}{ta:TA}{p pos:Pos}(hg:Gl X "range")(hm:X.mg "range"=none)(ha:PA X [a] ta)(hs:starEach [a] X.env=[(false,eval a X.env)]:=by rfl):PI X tg (.Call (.Name "range" p) [a] [] pos) (iRng1 ta):=by
 intro pins s σ H R I h
 refine Call_ (qoi9 I hg hm boot_range (PyProof.Rows.callWith_type1 (thn (ha pos pins s σ H _ I h) λ us s1 z9=>?_) hs rfl))
 obtain⟨vs,H1,I1,r1,q1⟩ := z9
 obtain⟨j,e,q1,q2,q⟩:=q1
 subst e
 cases r1 with
 |cons r rr =>
  cases rr
  obtain⟨t,rfl⟩:=r
  exact call_range_1 (range_it I1 ⋯ ⋯ q1 q2 (by simpa using q))
def tFor(wi:TI)(g:TG)(tb:TS):TS:=λ D σ H=>wi σ H λ J H1=>∃W:Nat->Nat->St->Hp->Prop,(∃m,W 0 m σ H1)/\∀i m σ H,W i m σ H ->
 (J.stop i H/\D.nx σ H)\/(J.go i H/\∃N:St->Hp->Prop,(∀σ' H',N σ' H'->∃m',m'<m/\W (i+1) m' σ' H')/\∀x H',J.yld i H x H'->g x σ H' λ σ2 H2=>tb { D with nx:=N,ct:=N,bk:=D.nx } σ2 H2)
def qqg9(fp:List Addr)(h:Heap):List (Addr×Obj):=fp.filterMap λ b=>(h.get? b).map λ o=>(b,o)
theorem qfv9(hb:b∈fp)(e:h.get? b=some o):(b,o)∈qqg9 fp h:=zew.mpr ⟨b,hb,by rw[e];rfl⟩
theorem of_pinsAt{p:Addr×Obj}(hp:p∈qqg9 fp h):p.1∈fp/\h.get? p.1=some p.2:=by
 obtain⟨b,hb,e⟩:=zew.mp hp
 cases q:h.get? b with
 |none=>rw[q] at e;cases e
 |some o =>
  rw[q] at e
  have e':(b,o)=p:=Option.some.inj e
  subst e'
  exact⟨hb,q⟩
theorem Inv.pinned(I:Inv X pins σ H s)(hf:∀b∈fp,FpOk X pins H b)(ho:∀b∈fp,∃o,s.heap.get? b=some o/\∀v,o.data ≠ .cell v):Inv X (pins++qqg9 fp s.heap) σ H s :=
 I.pins_of λ p hp=>(zav.mp hp).elim (λ z=>I.pin p (zaq _ z)) λ z=>by
  obtain⟨hb,e⟩:=of_pinsAt z
  obtain⟨f0,f1,f2,_⟩:=hf p.1 hb
  obtain⟨o,e',d⟩:=ho p.1 hb
  rw[e] at e';cases e'
  exact⟨e,f0,f1,f2,d⟩
theorem Inv.unpinned{pl:List (Addr×Obj)}(I:Inv X (pins++pl) σ H s):Inv X pins σ H s:=I.pins_of λ p hp=>I.pin p (zaq _ (zbf _ hp))
theorem ps_for{iter:Expr}{wi:TI}{pos:Pos}(hp:PassesOwn (model X.prog X.w) X.A X.env X.xe)(hc:X.calm=true)(hi:PI X tg iter wi)(hg:PG X tg g)(hb:PSs X body tb)
  (hs:∀x,foldedSetIterable iter X.env x=pure x:=by intro _;rfl):PS X (.For tg iter body [] pos) (tFor wi g tb):=by
 intro pins s σ H D I h
 refine wpAny_For (thn (hi pins s σ H _ I h) λ v s1 h1=>thn h1 λ itv s2 h2=>?_) hs
 obtain⟨it,fp,tn,J,H2,e,I2,T,st2,f2,W,⟨m0,w0⟩,turn⟩:=h2
 subst e
 have stat:∀{H':Hp},(∀b∈fp,H' b=none)->∀b∈fp,FpOk X pins H' b:=λ hn b hb=>⟨hn b hb,(f2 b hb).2⟩
 refine codeAny_forLoop_any (λ n s'=>∃i σ' H',Inv X pins σ' H' s'/\tn i s'.heap/\(∀b∈fp,H' b=none)/\W i n σ' H') ?_ m0 ⟨0,σ,H2,I2,st2,λ b hb=>(f2 b hb).1,w0⟩
 intro n s3 z9;obtain⟨i,σ3,H3,I3,st3,fr3,w3⟩ := z9
 rcases turn i n σ3 H3 w3 with⟨stop,qn⟩|⟨go,N,hN,step⟩
 ·refine wpAny_passesOwn hp (thn (T.done X rfl rfl rfl hc i pins s3 σ3 H3 X.xe I3 (stat fr3) st3 stop) λ r s4 z9=>?_)
  obtain⟨hr,I4⟩ := z9
  subst hr
  exact wpAny_execs_nil ⟨σ3,H3,I4,qn⟩
 ·refine wpAny_passesOwn hp (thn (T.item X rfl rfl rfl hc i pins s3 σ3 H3 X.xe I3 (stat fr3) st3 go) λ r s4 z9=>?_)
  obtain⟨u,hr,h4⟩ := z9
  subst hr
  refine wpAny_passesOwn hp (thn h4 λ _ s5 z9=>?_)
  obtain⟨x,H5,I5,r5,y5,st5,fr5⟩ := z9
  have I5':=I5.pinned (stat fr5) (T.obj _ _ st5)
  refine wpAny_passesOwn hp (thn (hg _ s5 σ3 H5 x u _ I5' r5 (step x H5 y5)) λ _ s6 z9=>?_)
  obtain⟨σ6,H6,I6,q6⟩ := z9
  refine wpAny_passesOwn hp (thn (hb _ s6 σ6 H6 _ I6 q6) λ f s7 q7=>?_)
  have again:∀{σ7:St}{H7:Hp},Inv X (pins++qqg9 fp s5.heap) σ7 H7 s7->N σ7 H7->∃m,m<n/\∃i σ' H',Inv X pins σ' H' s7/\tn i s7.heap/\(∀b∈fp,H' b=none)/\W i m σ' H':=λ {σ7 H7} I7 n7=>by
   obtain⟨m',hm,w7⟩:=hN σ7 H7 n7
   refine⟨m',hm,i+1,σ7,H7,I7.unpinned,T.keep _ _ _ st5 λ b hb o e=>(I7.pin (b,o) (zaq _ (zaq _ (qfv9 hb e)))).1,λ b hb=>?_,w7⟩
   obtain⟨o,e,d⟩:=T.obj _ _ st5 b hb
   exact(I7.pin (b,o) (zaq _ (zaq _ (qfv9 hb e)))).2.1
  cases f with
  |next=>obtain⟨σ7,H7,I7,n7⟩:=q7;exact again I7 n7
  |cont=>obtain⟨σ7,H7,I7,n7⟩:=q7;exact again I7 n7
  |brk=>obtain⟨σ7,H7,I7,q7⟩:=q7;exact⟨σ7,H7,I7.unpinned,q7⟩
  |ret v=>obtain⟨x7,σ7,H7,I7,r7,q7⟩:=q7;exact⟨x7,σ7,H7,I7.unpinned,r7,q7⟩
theorem qdy9{xs:List V}(Pv:Nat->St->Hp->Prop)(h0:Pv 0 σ H)(hl:∀i σ H,i<=xs.length->Pv i σ H->SqL K H a xs)
  (hs:∀i x σ H,xs[i]?=some x->Pv i σ H->g x σ H λ σ2 H2=>tb { D with nx:=Pv (i+1),ct:=Pv (i+1),bk:=D.nx } σ2 H2) (hd:∀σ H,Pv xs.length σ H->D.nx σ H) :
  ∃W:Nat->Nat->St->Hp->Prop,(∃m,W 0 m σ H)/\∀i m σ H,W i m σ H ->
   ((Itl K a).stop i H/\D.nx σ H)\/((Itl K a).go i H/\∃N:St->Hp->Prop,(∀σ' H',N σ' H'->∃m',m'<m/\W (i+1) m' σ' H')/\∀x H',(Itl K a).yld i H x H'->g x σ H' λ σ2 H2=>tb { D with nx:=N,ct:=N,bk:=D.nx } σ2 H2):=by
 refine⟨λ i m σ H=>m=xs.length-i/\i<=xs.length/\Pv i σ H,⟨xs.length,by simp,zbt _,h0⟩,?_⟩
 intro i m σ H z9;obtain⟨rfl,hi,p⟩ := z9
 have q:=hl i σ H hi p
 by_cases hlt:i<xs.length
 ·refine .inr ⟨⟨xs,xs[i],q,by simp[hlt]⟩,Pv (i+1),λ σ' H' p'=>⟨xs.length-(i+1),⋯,rfl,hlt,p'⟩,λ x H' y=>?_⟩
  obtain⟨e,y⟩:=y
  subst e
  exact hs i x σ _ (y xs q) p
 ·have e:i=xs.length:=⋯
  subst e
  exact .inl ⟨⟨xs,q,zao _⟩,hd σ H p⟩
theorem qgz9{lo:Int}(Pv:Nat->St->Hp->Prop)(h0:Pv 0 σ H)
  (hs:∀i σ H,i<n->Pv i σ H->g (.int (lo+i)) σ H λ σ2 H2=>tb { D with nx:=Pv (i+1),ct:=Pv (i+1),bk:=D.nx } σ2 H2) (hd:∀σ H,Pv n σ H->D.nx σ H) :
  ∃W:Nat->Nat->St->Hp->Prop,(∃m,W 0 m σ H)/\∀i m σ H,W i m σ H ->
   ((Itr lo n).stop i H/\D.nx σ H)\/((Itr lo n).go i H/\∃N:St->Hp->Prop,(∀σ' H',N σ' H'->∃m',m'<m/\W (i+1) m' σ' H')/\∀x H',(Itr lo n).yld i H x H'->g x σ H' λ σ2 H2=>tb { D with nx:=N,ct:=N,bk:=D.nx } σ2 H2):=by
 refine⟨λ i m σ H=>m=n-i/\i<=n/\Pv i σ H,⟨n,by simp,zbt _,h0⟩,?_⟩
 intro i m σ H z9;obtain⟨rfl,hi,p⟩ := z9
 by_cases hlt:i<n
 ·refine .inr ⟨hlt,Pv (i+1),λ σ' H' p'=>⟨n-(i+1),⋯,rfl,hlt,p'⟩,λ x H' y=>?_⟩
  obtain⟨e,y⟩:=y
  subst e y
  exact hs i σ _ hlt p
 ·have e:i=n:=⋯
  subst e
  exact .inl ⟨zao _,hd σ H p⟩
theorem qif9{c:TT}(Pv:St->Hp->Prop)(μ:St->Hp->Nat)(h0:Pv σ H)
  (hs:∀σ H,Pv σ H->c σ H λ b H1=>if b=true then tb { D with nx:=λ σ' H'=>Pv σ' H'/\μ σ' H'<μ σ H,ct:=λ σ' H'=>Pv σ' H'/\μ σ' H'<μ σ H,bk:=D.nx } σ H1 else D.nx σ H1)
  (mono:∀σ H Q Q',(∀b H1,Q b H1->Q' b H1)->c σ H Q->c σ H Q'):tWhile c tb D σ H:=by
 refine⟨λ m σ H=>m=μ σ H/\Pv σ H,⟨_,U,h0⟩,?_⟩
 intro m σ H z9;obtain⟨rfl,p⟩ := z9
 refine mono σ H _ _ (λ b H1 q=>?_) (hs σ H p)
 cases b with
 |true=>exact⟨_,λ σ' H' ⟨p',l⟩=>⟨_,l,rfl,p'⟩,q⟩
 |false=>exact q
abbrev R2:=V->V->Hp->VK->Prop
variable {r:R2}
def OpR(X:Cx)(f:Value->Value->Sem Value)(r:R2):Prop :=
 ∀(pins:List (Addr×Obj)) (s:Shared) (σ:St) (H:Hp) (x y:V) (v u:Value) (Q:VK),Inv X pins σ H s->RelV x v->RelV y u->r x y H Q ->
  wpAny (model X.prog X.w) X.A (f v u) (EP X pins σ Q) X.xe s
def UnR(X:Cx)(f:Value->Sem Value)(r:V->Hp->VK->Prop):Prop :=
 ∀(pins:List (Addr×Obj)) (s:Shared) (σ:St) (H:Hp) (x:V) (v:Value) (Q:VK),Inv X pins σ H s->RelV x v->r x H Q ->
  wpAny (model X.prog X.w) X.A (f v) (EP X pins σ Q) X.xe s
def CallR(X:Cx)(f:Value)(r:List V->Hp->VK->Prop):Prop :=
 ∀(pins:List (Addr×Obj)) (s:Shared) (σ:St) (H:Hp) (xs:List V) (us:List Value) (Q:VK),Inv X pins σ H s->Vals xs us->r xs H Q ->
  wpAny (model X.prog X.w) X.A (call f us) (EP X pins σ Q) X.xe s
def tOp(r:R2)(ta tb:TE):TE:=λ σ H Q=>ta σ H λ x H1=>tb σ H1 λ y H2=>r x y H2 Q
def tUn(r:V->Hp->VK->Prop)(ta:TE):TE:=λ σ H Q=>ta σ H λ x H1=>r x H1 Q
inductive rI(C:Int->Int->Prop)(g:Int->Int->V)(x:V)(y:V)(H:Hp)(Q:VK):Prop
 |mk (i:_) (j:_):x=.int i->y=.int j->C i j->Q (g i j) H->rI C g x y H Q
inductive rI0(g:Int->Int->V)(x:V)(y:V)(H:Hp)(Q:VK):Prop
 |mk (i:_) (j:_):x=.int i->y=.int j->Q (g i j) H->rI0 g x y H Q
inductive rU(g:Int->V)(x:V)(H:Hp)(Q:VK):Prop
 |mk (i:_):x=.int i->Q (g i) H->rU g x H Q
section
variable {a b:Expr}{tb tc:TE}
theorem binT(ha:PE X a ta)(hb:PE X b tb){R:V->V->Hp->Prop}(I:Inv X pins σ H s)
  (h:ta σ H λ x H1=>tb σ H1 λ y H2=>R x y H2) {Q:Value->Shared->Prop} {f:Value->Value->Sem Value}
  (hf:∀v u s2 x y H2,Inv X pins σ H2 s2->RelV x v->RelV y u->R x y H2->wpAny (model X.prog X.w) X.A (f v u) Q X.xe s2) :
  wpAny (model X.prog X.w) X.A (eval a X.env) (λ v s₁=>wpAny (model X.prog X.w) X.A (eval b X.env) (λ u s₂=>wpAny (model X.prog X.w) X.A (f v u) Q X.xe s₂) X.xe s₁) X.xe s:=by
 refine thn (ha pins s σ H _ I h) λ v s1 z9=>?_
 obtain⟨x,H1,I1,r1,q1⟩ := z9
 refine thn (hb pins s1 σ H1 _ I1 q1) λ u s2 z9=>?_
 obtain⟨y,H2,I2,r2,q2⟩ := z9
 exact hf v u s2 x y H2 I2 r1 r2 q2
theorem pe_op{op:Operator}(ho:OpR X (binaryOp op) r)(ha:PE X a ta)(hb:PE X b tb):PE X (.BinOp a op b pos) (tOp r ta tb):=by
 intro pins s σ H Q I h
 exact wpAny_BinOp (binT ha hb I h λ v u s2 x y H2 I2 rx ry q=>ho pins s2 σ H2 x y v u Q I2 rx ry q)
theorem pe_un{op:UnaryOp}{r:V->Hp->VK->Prop}(ho:UnR X (unaryOp op) r)(ha:PE X a ta):PE X (.UnaryOp op a pos) (tUn r ta):=by
 intro pins s σ H Q I h
 exact UnaryOp_ (thn (ha pins s σ H _ I h) λ v s1 ⟨x,H1,I1,r1,q1⟩=>ho pins s1 σ H1 x v Q I1 r1 q1)
theorem opI{f:Value->Value->Sem Value}{C:Int->Int->Prop}{g:Int->Int->Int}
  (rule:∀(i j:Int)(t u:Tok)(s:Shared)(Q:Value->Shared->Prop)(E:Value->Shared->Prop),C i j->Q (.int (g i j) s.toks) { s with toks:=s.toks+1 }->wpAny (model X.prog X.w) X.A (f (.int i t) (.int j u)) Q E s) :
  OpR X f (rI C λ i j=>.int (g i j)):=by
 intro pins s σ H x y v u Q I rx ry h
 obtain⟨i,j,rfl,rfl,hc,q⟩:=h
 obtain⟨t,rfl⟩:=rx
 obtain⟨t',rfl⟩:=ry
 exact rule i j t t' s _ _ hc ⟨.int (g i j),H,I.tok _,⟨_,rfl⟩,q⟩
theorem opI0{f:Value->Value->Sem Value}{g:Int->Int->Int}
  (rule:∀(i j:Int)(t u:Tok)(s:Shared)(Q:Value->Shared->Prop)(E:Value->Shared->Prop),Q (.int (g i j) s.toks) { s with toks:=s.toks+1 }->wpAny (model X.prog X.w) X.A (f (.int i t) (.int j u)) Q E s) :
  OpR X f (rI0 λ i j=>.int (g i j)):=by
 intro pins s σ H x y v u Q I rx ry h
 obtain⟨i,j,rfl,rfl,q⟩:=h
 obtain⟨t,rfl⟩:=rx
 obtain⟨t',rfl⟩:=ry
 exact rule i j t t' s _ _ ⟨.int (g i j),H,I.tok _,⟨_,rfl⟩,q⟩
theorem opB0{f:Value->Value->Sem Value}{g:Int->Int->Bool}
  (rule:∀(i j:Int)(t u:Tok)(s:Shared)(Q:Value->Shared->Prop)(E:Value->Shared->Prop),Q (.bool (g i j)) s->wpAny (model X.prog X.w) X.A (f (.int i t) (.int j u)) Q E s) :
  OpR X f (rI0 λ i j=>.bl (g i j)):=by
 intro pins s σ H x y v u Q I rx ry h
 obtain⟨i,j,rfl,rfl,q⟩:=h
 obtain⟨t,rfl⟩:=rx
 obtain⟨t',rfl⟩:=ry
 exact rule i j t t' s _ _ ⟨.bl (g i j),H,I,rfl,q⟩
def CPow(i j:Int):Prop:=0<=j/\j<=1000000/\i.natAbs<2 ^ 64
def CMul(i j:Int):Prop:=(-(2 ^ 64)<i/\i<2 ^ 64)\/(-(2 ^ 64)<j/\j<2 ^ 64)
theorem CMul.ok{i j:Int}(h:CMul i j):IntMulOk i j:=by
 rcases h with⟨h1,h2⟩|⟨h1,h2⟩
 ·exact .of_left (intBits_le_64 h1 h2)
 ·exact .of_right (intBits_le_64 h1 h2)
theorem op_add:OpR X (binaryOp .Add) (rI0 λ i j=>.int (i+j)):=opI0 λ _ _ _ _ _ _ _ q=>add_int q
theorem op_sub:OpR X (binaryOp .Sub) (rI0 λ i j=>.int (i-j)):=opI0 λ _ _ _ _ _ _ _ q=>sub_int q
theorem op_mul:OpR X (binaryOp .Mult) (rI CMul λ i j=>.int (i*j)):=opI λ _ _ _ _ _ _ _ hc q=>mul_int q hc.ok
theorem op_mod:OpR X (binaryOp .Mod) (rI (λ _ j=>0<j) λ i j=>.int (i%j)):=opI λ i j _ _ _ _ _ hc q=>by
 have h1:(0:Int)<j:=hc
 exact mod_int' ⋯ (by rw[Int.fmod_eq_emod_of_nonneg i ⋯];exact q)
theorem op_pow:OpR X (binaryOp .Pow) (rI CPow λ i j=>.int (i ^ j.toNat)):=opI λ _ _ _ _ _ _ _ hc q=>pow_int_small hc.1 hc.2.1 hc.2.2 q
theorem unI{f:Value->Sem Value}{g:Int->Int}
  (rule:∀(i:Int)(t:Tok)(s:Shared)(Q:Value->Shared->Prop)(E:Value->Shared->Prop),Q (.int (g i) s.toks) { s with toks:=s.toks+1 }->wpAny (model X.prog X.w) X.A (f (.int i t)) Q E s) :
  UnR X f (rU λ i=>.int (g i)):=by
 intro pins s σ H x v Q I rx h
 obtain⟨i,rfl,q⟩:=h
 obtain⟨t,rfl⟩:=rx
 exact rule i t s _ _ ⟨.int (g i),H,I.tok _,⟨_,rfl⟩,q⟩
theorem un_neg:UnR X (unaryOp .USub) (rU λ i=>.int (-i)):=unI λ _ _ _ _ _ q=>neg_int q
def scal:V->V->Bool
 | .non,.non=>true | .non,.int _=>true | .int _,.non=>true | .non,.bl _=>true | .bl _,.non=>true | .non,.str _=>true | .str _,.non=>true
 | .int _,.int _=>true | .bl _,.bl _=>true | .str _,.str _=>true | .byt _,.byt _=>true
 | .int _,.str _=>true | .str _,.int _=>true | .bl _,.str _=>true | .str _,.bl _=>true
 |_,_=>false
inductive rEq(x:V)(y:V)(H:Hp)(Q:VK):Prop
 |mk  : scal x y=true->Q (.bl (decide (x=y))) H->rEq x y H Q
inductive rNe(x:V)(y:V)(H:Hp)(Q:VK):Prop
 |mk  : scal x y=true->Q (.bl (!decide (x=y))) H->rNe x y H Q
theorem dec_int{i j:Int}:decide (V.int i=V.int j)=(i==j):=by
 rw[zbz]
 simp
theorem dec_bl{i j:Bool}:decide (V.bl i=V.bl j)=(i==j):=by
 rw[zbz]
 simp
theorem dec_str{i j:Str}:decide (V.str i=V.str j)=(i==j):=by
 rw[zbz]
 simp
theorem dec_byt{i j:Array UInt8}:decide (V.byt i=V.byt j)=(i.toList==j.toList):=by
 rw[zbz]
 cases i
 cases j
 simp
theorem qdg9{Q:VK}{k k':Bool}(I:Inv X pins σ H s)(q:Q (.bl k) H)(e:k=k'):EP X pins σ Q (.bool k') s:=by
 subst e
 exact⟨.bl k,H,I,U,q⟩
theorem op_eq:OpR X (compareOp .Eq) rEq:=by
 intro pins s σ H x y v u Q I rx ry h
 obtain⟨hs,q⟩:=h
 cases x with
 |non =>
  cases rx
  cases y with
  |non=>cases ry;exact PySem.EqNone.eq_none_none (qdg9 I q (by simp))
  |bl j=>cases ry;exact PySem.EqNone.eq_none_bool (qdg9 I q (by simp))
  |int j=>obtain⟨t',rfl⟩:=ry;exact PySem.EqNone.eq_none_int (qdg9 I q (by simp))
  |str j=>obtain⟨t',rfl⟩:=ry;exact PySem.EqNone.eq_none_str (qdg9 I q (by simp))
  |_=>exact absurd (show false=true from hs) zaz
 |bl i =>
  cases rx
  cases y with
  |non=>cases ry;exact PySem.EqNone.eq_bool_none (qdg9 I q (by simp))
  |bl j=>cases ry;exact eq_bool (qdg9 I q dec_bl)
  |str j=>obtain⟨t',rfl⟩:=ry;exact PySem.EqMixed.eq_bool_str (qdg9 I q (by simp))
  |_=>exact absurd (show false=true from hs) zaz
 |int i =>
  obtain⟨t,rfl⟩:=rx
  cases y with
  |non=>cases ry;exact PySem.EqNone.eq_int_none (qdg9 I q (by simp))
  |int j=>obtain⟨t',rfl⟩:=ry;exact eq_int (qdg9 I q dec_int)
  |str j=>obtain⟨t',rfl⟩:=ry;exact PySem.EqMixed.eq_int_str (qdg9 I q (by simp))
  |_=>exact absurd (show false=true from hs) zaz
 |str i =>
  obtain⟨t,rfl⟩:=rx
  cases y with
  |non=>cases ry;exact PySem.EqNone.eq_str_none (qdg9 I q (by simp))
  |bl j=>cases ry;exact PySem.EqMixed.eq_str_bool (qdg9 I q (by simp))
  |int j=>obtain⟨t',rfl⟩:=ry;exact PySem.EqMixed.eq_str_int (qdg9 I q (by simp))
  |str j=>obtain⟨t',rfl⟩:=ry;exact eq_str (qdg9 I q dec_str)
  |_=>exact absurd (show false=true from hs) zaz
 |byt i =>
  obtain⟨t,rfl⟩:=rx
  cases y with
  |byt j=>obtain⟨t',rfl⟩:=ry;exact W.eq_bytes (qdg9 I q dec_byt)
  |_=>exact absurd (show false=true from hs) zaz
 |_=>cases y<;>exact absurd (show false=true from hs) zaz
theorem op_ne:OpR X (compareOp .NotEq) rNe:=by
 intro pins s σ H x y v u Q I rx ry h
 obtain⟨hs,q⟩:=h
 cases x with
 |non =>
  cases rx
  cases y with
  |non=>cases ry;exact PySem.EqNone.ne_none_none (qdg9 I q (by simp))
  |bl j=>cases ry;exact PySem.EqNone.ne_none_bool (qdg9 I q (by simp))
  |int j=>obtain⟨t',rfl⟩:=ry;exact PySem.EqNone.ne_none_int (qdg9 I q (by simp))
  |str j=>obtain⟨t',rfl⟩:=ry;exact PySem.EqNone.ne_none_str (qdg9 I q (by simp))
  |_=>exact absurd (show false=true from hs) zaz
 |bl i =>
  cases rx
  cases y with
  |non=>cases ry;exact PySem.EqNone.ne_bool_none (qdg9 I q (by simp))
  |bl j=>cases ry;exact ne_bool (qdg9 I q (congrArg not dec_bl))
  |str j=>obtain⟨t',rfl⟩:=ry;exact PySem.EqMixed.ne_bool_str (qdg9 I q (by simp))
  |_=>exact absurd (show false=true from hs) zaz
 |int i =>
  obtain⟨t,rfl⟩:=rx
  cases y with
  |non=>cases ry;exact PySem.EqNone.ne_int_none (qdg9 I q (by simp))
  |int j=>obtain⟨t',rfl⟩:=ry;exact ne_int (qdg9 I q (congrArg not dec_int))
  |str j=>obtain⟨t',rfl⟩:=ry;exact PySem.EqMixed.ne_int_str (qdg9 I q (by simp))
  |_=>exact absurd (show false=true from hs) zaz
 |str i =>
  obtain⟨t,rfl⟩:=rx
  cases y with
  |non=>cases ry;exact PySem.EqNone.ne_str_none (qdg9 I q (by simp))
  |bl j=>cases ry;exact PySem.EqMixed.ne_str_bool (qdg9 I q (by simp))
  |int j=>obtain⟨t',rfl⟩:=ry;exact PySem.EqMixed.ne_str_int (qdg9 I q (by simp))
  |str j=>obtain⟨t',rfl⟩:=ry;exact ne_str (qdg9 I q (congrArg not dec_str))
  |_=>exact absurd (show false=true from hs) zaz
 |byt i =>
  obtain⟨t,rfl⟩:=rx
  cases y with
  |byt j=>obtain⟨t',rfl⟩:=ry;exact W.ne_bytes (qdg9 I q (congrArg not dec_byt))
  |_=>exact absurd (show false=true from hs) zaz
 |_=>cases y<;>exact absurd (show false=true from hs) zaz
theorem op_lt:OpR X (compareOp .Lt) (rI0 λ i j=>.bl (decide (i<j))):=opB0 λ _ _ _ _ _ _ _ q=>lt_int q
theorem op_le:OpR X (compareOp .LtE) (rI0 λ i j=>.bl (decide (i<=j))):=opB0 λ _ _ _ _ _ _ _ q=>le_int q
theorem op_gt:OpR X (compareOp .Gt) (rI0 λ i j=>.bl (decide (j<i))):=opB0 λ _ _ _ _ _ _ _ q=>gt_int q
theorem op_ge:OpR X (compareOp .GtE) (rI0 λ i j=>.bl (decide (j<=i))):=opB0 λ _ _ _ _ _ _ _ q=>ge_int q
theorem qat9(b:Expr)(h:op ≠ .In:=by decide)(h2:op ≠ .NotIn:=by decide):behindInMarks op b=false:=by
 have e1:(op==CmpOp.In)=false:=by cases op<;>first|rfl|exact absurd rfl h
 have e2:(op==CmpOp.NotIn)=false:=by cases op<;>first|rfl|exact absurd rfl h2
 cases b<;>simp[behindInMarks,e1,e2]
theorem qne9(ho:OpR X (compareOp op) r)(ha:PE X a ta)(hb:PE X b tb)(hm:behindInMarks op b=false):PE X (.Compare a [op] [b] pos) (tOp r ta tb):=by
 intro pins s σ H Q I h
 exact wpAny_Compare1 (binT ha hb I h λ v u s2 x y H2 I2 rx ry q=>ho pins s2 σ H2 x y v u Q I2 rx ry q) hm
def tTest(t:TE):TT:=λ σ H Q=>t σ H λ x H'=>∃k,x=.bl k/\Q k H'
theorem pt_cmpR(ho:OpR X (compareOp op) r)(ha:PE X a ta)(hb:PE X b tb)(hm:behindInMarks op b=false):PT X (.Compare a [op] [b] pos) (tTest (tOp r ta tb)):=by
 intro pins s σ H Q I h
 refine wpAny_isTrue_Compare1 (thn (ha pins s σ H _ I h) λ v s1 ⟨x,H1,I1,r1,q1⟩=>thn (hb pins s1 σ H1 _ I1 q1) λ u s2 ⟨y,H2,I2,r2,q2⟩ =>
  thn (ho pins s2 σ H2 x y v u _ I2 r1 r2 q2) λ c s3 ⟨z,H3,I3,r3,k,e,q3⟩=>?_) hm
 subst e
 cases r3
 exact wpAny_truthy_bool ⟨H3,I3,q3⟩
def tChain(r r':R2)(ta tb tc:TE):TE:=λ σ H Q=>ta σ H λ x H1=>tb σ H1 λ y H2=>r x y H2 λ z H3=>∃k,z=.bl k /\
 (if k=true then tc σ H3 λ w' H4=>r' y w' H4 Q else Q (.bl false) H3)
theorem pe_chain{op':CmpOp}{r':R2}(ho:OpR X (compareOp op) r)(ho':OpR X (compareOp op') r')(ha:PE X a ta)(hb:PE X b tb)(hc:PE X c tc)
  (hm:lastMarks [op,op'] [b,c]=false:=by with_unfolding_all rfl):PE X (.Compare a [op,op'] [b,c] pos) (tChain r r' ta tb tc):=by
 intro pins s σ H Q I h
 refine Compare_chain (thn (ha pins s σ H _ I h) λ v s1 ⟨x,H1,I1,r1,q1⟩=>chain_link (thn (hb pins s1 σ H1 _ I1 q1) λ u s2 ⟨y,H2,I2,r2,q2⟩ =>
  thn (ho pins s2 σ H2 x y v u _ I2 r1 r2 q2) λ d s3 ⟨z,H3,I3,r3,k,e,q3⟩=>?_)) hm
 subst e
 cases r3
 refine wpAny_truthy_bool ?_
 cases k with
 |false=>exact ite_ff ⟨.bl false,H3,I3,rfl,q3⟩
 |true=>exact ite_tt (chain_last (thn (hc pins s3 σ H3 _ I3 q3) λ w' s4 ⟨z',H4,I4,r4,q4⟩=>ho' pins s4 σ H4 y z' u w' Q I4 r2 r4 q4))
theorem pt_chain{op':CmpOp}{r':R2}(ho:OpR X (compareOp op) r)(ho':OpR X (compareOp op') r')(ha:PE X a ta)(hb:PE X b tb)(hc:PE X c tc)
  (hm:lastMarks [op,op'] [b,c]=false:=by with_unfolding_all rfl):PT X (.Compare a [op,op'] [b,c] pos) (tTest (tChain r r' ta tb tc)):=by
 intro pins s σ H Q I h
 refine isTrue_chain (thn (ha pins s σ H _ I h) λ v s1 ⟨x,H1,I1,r1,q1⟩=>test_link (thn (hb pins s1 σ H1 _ I1 q1) λ u s2 ⟨y,H2,I2,r2,q2⟩ =>
  thn (ho pins s2 σ H2 x y v u _ I2 r1 r2 q2) λ d s3 ⟨z,H3,I3,r3,k,e,q3⟩=>?_)) hm
 subst e
 cases r3
 refine wpAny_truthy_bool ?_
 cases k with
 |false =>
  obtain⟨k',e',q'⟩:=q3
  cases e'
  exact ite_ff ⟨H3,I3,q'⟩
 |true =>
  refine ite_tt (test_last (thn (hc pins s3 σ H3 _ I3 q3) λ w' s4 ⟨z',H4,I4,r4,q4⟩=>thn (ho' pins s4 σ H4 y z' u w' _ I4 r2 r4 q4) λ d' s5 z9=>?_))
  obtain⟨z2,H5,I5,r5,k2,e2,q5⟩ := z9
  subst e2
  cases r5
  exact wpAny_truthy_bool ⟨H5,I5,q5⟩
theorem qma9:(sizeLine:Nat)<2 ^ 63:=by rw[sizeLine_eq];decide
theorem qsg9:OpR X (binaryOp .Add) (λ x y H Q=>∃i j,x=.str i/\y=.str j/\i.length+j.length<=sizeLine/\Q (.str (i++j)) H):=by
 intro pins s σ H x y v u Q I rx ry h
 obtain⟨i,j,rfl,rfl,hz,q⟩:=h
 obtain⟨t,rfl⟩:=rx
 obtain⟨t',rfl⟩:=ry
 exact add_str (λ t' tk=>⟨.str (i++j),H,I.tok _,⟨_,rfl⟩,q⟩) hz
theorem vals1{x:V}(r:Vals [x] us):∃u,us=[u]/\RelV x u:=by
 cases r with
 |cons r1 r2=>cases r2;exact⟨_,rfl,r1⟩
theorem vals2{x y:V}(r:Vals [x,y] us):∃u w',us=[u,w']/\RelV x u/\RelV y w':=by
 cases r with
 |cons r1 r2 =>
  cases r2 with
  |cons r3 r4=>cases r4;exact⟨_,_,rfl,r1,r3⟩
theorem call_max2(hc:X.calm=true):CallR X (.builtin "max") (λ xs H Q=>∃i j,xs=[.int i,.int j]/\Q (.int (if j>i then j else i)) H):=by
 intro pins s σ H xs us Q I r h
 obtain⟨i,j,rfl,q⟩:=h
 obtain⟨u,w',rfl,⟨t,rfl⟩,⟨t',rfl⟩⟩:=vals2 r
 refine max_two_ints (I.ok.hd hc) λ h' tk k=>⟨_,H,I.kept k,?_,q⟩
 by_cases hj:j>i
 ·rw[if_pos hj,if_pos hj];exact⟨_,rfl⟩
 ·rw[if_neg hj,if_neg hj];exact⟨_,rfl⟩
theorem call_min2(hc:X.calm=true):CallR X (.builtin "min") (λ xs H Q=>∃i j,xs=[.int i,.int j]/\Q (.int (if j<i then j else i)) H):=by
 intro pins s σ H xs us Q I r h
 obtain⟨i,j,rfl,q⟩:=h
 obtain⟨u,w',rfl,⟨t,rfl⟩,⟨t',rfl⟩⟩:=vals2 r
 refine min_two_ints (I.ok.hd hc) λ h' tk k=>⟨_,H,I.kept k,?_,q⟩
 by_cases hj:j<i
 ·rw[if_pos hj,if_pos hj];exact⟨_,rfl⟩
 ·rw[if_neg hj,if_neg hj];exact⟨_,rfl⟩
theorem qly9:CallR X (.type "str") (λ xs H Q=>∃i,xs=[.int i]/\i.natAbs.log2<1920/\Q (.str (toString i)) H):=by
 intro pins s σ H xs us Q I r h
 obtain⟨i,rfl,hz,q⟩:=h
 obtain⟨u,rfl,t,rfl⟩:=vals1 r
 exact PySem.P.str_of_int hz ⟨.str _,H,I.tok _,⟨_,rfl⟩,q⟩
end
structure ObjM(h:Heap)(x dx C:Addr)(mA:Str->Option Value):Prop where
 obj:h.get? x=some (W.instObj C dx)
 ns:h.Ns1 dx mA
 ne:dx≠x
theorem lookIn_ns(n:h.Ns1 dx mA):∃od,h.get? dx=some od/\∀name,W.lookIn name od=some (mA name):=by
 obtain⟨o,es,ep,ho,hd,hk,_,hm⟩:=n
 refine⟨o,ho,λ name=>?_⟩
 have e:=hm name
 unfold nsFind findBy at e
 rw[<- Array.find?_toList] at e
 unfold W.lookIn
 rw[hd]
 dsimp only
 split
 ·rename_i y q
  rw[q] at e
  exact congrArg some e
 ·rename_i q
  rw[q] at e
  have a:es.toList.any (·.refKey)=false:=by
   rw[List.any_eq_false]
   intro y hy
   obtain⟨z,t,hkey⟩:=hk y (zel.mp hy)
   simp[DictEntry.refKey,hkey]
  have a':¬es.toList.any (·.refKey)=true:=by rw[a];exact zaz
  rw[if_neg a']
  exact congrArg some e
theorem ObjM.look{x:Addr}(I:ObjM h x dx C mA):∃od,W.InstAt h x (W.instObj C dx) C (some od)/\∀name,W.lookIn name od=some (mA name) :=
 let ⟨od,ho,hl⟩:=lookIn_ns I.ns
 ⟨od,⟨I.obj,rfl,rfl,ho⟩,hl⟩
section
variable {prog:Program}{x f:Addr}{name:Str}{v:Value}
theorem get_map{expr:Bool}(X:K.In s.heap)(I:ObjM s.heap x dx C mA)(hg:W.plainGet K C name=true)(hh:W.hasDictIn K C=true)
  (ha:W.findIn K (.ref C) name=some none) (hv:mA name=some v) (hv':W.handedIn v=true) (h:Q v { s with toks:=s.toks+1 }) :
  wpAny (model prog w) A (getAttr (.ref x) name expr) Q E s:=by
 obtain⟨od,J,hl⟩:=I.look
 exact W.get_value X J (W.plainGet_of hg).1 (W.findObj_own hh ha rfl (by rw[hl,hv])) hv' h
theorem get_meth{Q:Value×List Value->Shared->Prop}(X:K.In s.heap)(I:ObjM s.heap x dx C mA)(hg:W.plainGet K C name=true)
  (hf:W.findIn K (.ref C) name=some (some (.ref f))) (ht:W.isFn K (.ref f)=true) (hv:mA name=none) (h:Q (.ref f,[.ref x]) s) :
  wpAny (model prog w) A (getMethod (.ref x) name pl) Q E s:=by
 obtain⟨od,J,hl⟩:=I.look
 exact W.method_fn X J (W.plainGet_of hg).1 (W.plainGet_of hg).2 hf (beq_iff_eq.mp ht) (by show(W.lookIn name od).map (·.isSome)=some false;rw[hl,hv];rfl) h
theorem qnw9{ns:List Str}{Q:Unit->Shared->Prop}(X:K.In s.heap)(I:ObjM s.heap x dx C mA)
  (hs:W.findIn K (.ref C) "__setattr__"=some (some (.builtin "object.__setattr__"))) (hp:W.plainOver K C=true) (ht:W.takerIn K C name=some none) (hh:W.hasDictIn K C=true)
  (hw:PySem.Within mA ns) (hsz:ns.length<=sizeLine)
  (h:∀h',ObjM h' x dx C (λ y=>if y=name then some v else mA y)->Heap.SameBut dx s.heap h'->Q () { s with heap:=h',toks:=s.toks+2 }) :
  wpAny (model prog w) A (setAttr (.ref x) name v) Q E s:=by
 obtain⟨od,J,hl⟩:=I.look
 refine W.set_plain X J hs (W.osa_open (s:={ s with toks:=s.toks+1 }) (r:=none) X J hp ht λ b=>?_)
 obtain⟨cd,hc,hd'⟩:=W.any_some hh
 have hx:s.heap.get? x=some ⟨.ref C,some dx,.plain,#[]⟩:=I.obj
 refine wpAny_bind (wpAny_pure (wpAny_bind (wpAny_bind (wpAny_loadPart hx (wpAny_bind (W.Looks.here (s:={ s with toks:=s.toks+1 }) (W.looks_clsIn X hc) ?_))))))
 rw[hd']
 refine wpAny_pure (a:=some dx) (wpAny_bind (wpAny_pure (wpAny_bind ?_)))
 refine wpAny_nsSet1 (s:={ s with toks:=s.toks+1 }) I.ns λ h' hn2 hs2=>?_
 obtain⟨oD,esD,epD,hoD,hdD,hcD⟩:=hn2.count (PySem.Within.cons name v hw)
 refine wpAny_bind (wpAny_lookBehind hoD (by rw[hdD];exact pastItsLine_dict (zbb hcD (by rw[zbg];omega))) ?_)
 exact wpAny_pure (h _ ⟨(hs2.2 _ (Ne.symm I.ne)).trans I.obj,hn2,I.ne⟩ hs2)
theorem make_map{R:Result->Shared->Prop}{vs:List Value}(X:K.In s.heap)(hm:W.makesIn K C=true)
  (hi:W.findIn K (.ref C) "__init__"=some (some (.ref f))) (hf:W.typeIn K (.ref f)=some (.type "function"))
  (h:codeAny (model prog w) (A.under (.builtin "type.__call__" ⟨.ref C::vs,kw⟩)) (.call (.ref f) ⟨.ref (s.heap.objs.size+1)::vs,kw⟩) (W.InitBack (s.heap.objs.size+1) R)
   { s with heap:=(s.heap.push W.emptyDict).push (W.instObj C s.heap.objs.size) }) :
  codeAny (model prog w) A (.call (.ref C) ⟨vs,kw⟩) R s:=by
 obtain⟨hh,g,d,t,os⟩:=s
 exact W.make_core (W.makes_of X hm) (W.looks_findIn X hi) (λ self=>W.bind_fn X self hf) (.inl rfl) h
end
def putF(f:Str)(v:V):List (Str×V)->List (Str×V)
 | []=>[(f,v)]
 | (g,x)::r=>if g=f then(g,v)::r else(g,x)::putF f v r
theorem qjh9(f g:Str)(v:V):∀fs:List (Str×V),(putF f v fs).lookup g=if g=f then some v else fs.lookup g
 | []=>by
  show zem g [(f,v)]=_
  by_cases h:g=f
  ·have hb:(g==f)=true:=beq_iff_eq.mpr h
   simp only[zem,hb,if_pos h]
  ·have hb:(g==f)=false:=beq_eq_false_iff_ne.mpr h
   simp only[zem,hb,if_neg h]
 | (k,x)::r=>by
  have ih:=qjh9 f g v r
  rw[show putF f v ((k,x)::r)=(if k=f then(k,v)::r else(k,x)::putF f v r) from rfl]
  by_cases hk:k=f
  ·rw[if_pos hk]
   by_cases h:g=k
   ·have hb:(g==k)=true:=beq_iff_eq.mpr h
    simp only[zem,hb,if_pos (h.trans hk)]
   ·have hb:(g==k)=false:=beq_eq_false_iff_ne.mpr h
    simp only[zem,hb,if_neg (λ e:g=f=>h (e.trans hk.symm))]
  ·rw[if_neg hk]
   by_cases h:g=k
   ·have hb:(g==k)=true:=beq_iff_eq.mpr h
    simp only[zem,hb,if_neg (λ e:g=f=>hk (h.symm.trans e))]
   ·have hb:(g==k)=false:=beq_eq_false_iff_ne.mpr h
    simp only[zem,hb]
    exact ih
theorem qkk9(f:Str)(v:V):∀fs:List (Str×V),f∈(putF f v fs).map (·.1)/\∀g,g∈fs.map (·.1)->g∈(putF f v fs).map (·.1)
 | []=>⟨by simp[putF],λ g h=>by simp at h⟩
 | (k,x)::r=>by
  obtain⟨i1,i2⟩:=qkk9 f v r
  rw[show putF f v ((k,x)::r)=(if k=f then(k,v)::r else(k,x)::putF f v r) from rfl]
  by_cases hk:k=f
  ·rw[if_pos hk]
   subst hk
   exact⟨by simp,λ g h=>by simpa using h⟩
  ·rw[if_neg hk]
   refine⟨?_,λ g h=>?_⟩
   ·rw[zcg]
    exact zai _ i1
   ·rw[zcg] at h ⊢
    rcases zah.mp h with e|e
    ·exact zah.mpr (.inl e)
    ·exact zai _ (i2 g e)
theorem qjk9(f:Str)(v:V):∀fs:List (Str×V),(putF f v fs).length<=fs.length+1
 | []=>by simp[putF]
 | (k,x)::r=>by
  have ih:=qjk9 f v r
  rw[show putF f v ((k,x)::r)=(if k=f then(k,v)::r else(k,x)::putF f v r) from rfl]
  by_cases hk:k=f
  ·rw[if_pos hk,zbg,zbg];omega
  ·rw[if_neg hk,zbg,zbg];omega
theorem RelO.some_of{o:Option Value}(r:RelO (some v) o):∃u,o=some u/\RelV v u:=by
 cases o with
 |none=>exact(show False from r).elim
 |some u=>exact⟨u,rfl,r⟩
theorem RelO.none_of{o:Option Value}(r:RelO none o):o=none:=by
 cases o with
 |none=>rfl
 |some u=>exact(show False from r).elim
theorem handed_of{u:Value}(r:RelV v u):W.handedIn u=true:=by
 cases v with
 |non=>cases (show u=Value.none from r);rfl
 |bl b=>cases (show u=Value.bool b from r);rfl
 |int i=>obtain⟨t,e⟩:=(show ∃t,u=Value.int i t from r);cases e;rfl
 |str x=>obtain⟨t,e⟩:=(show ∃t,u=Value.str x t from r);cases e;rfl
 |byt b=>obtain⟨t,e⟩:=(show ∃t,u=Value.bytes b t from r);cases e;rfl
 |flt b=>obtain⟨t,e⟩:=(show ∃t,u=Value.float b t from r);cases e;rfl
 |ref a=>cases (show u=Value.ref a from r);rfl
 |ty n=>cases (show u=Value.type n from r);rfl
section
variable {fs fs':List (Str×V)}
theorem qna9(hok:HOk P w H h)(e:H a=some (.ins C dx fs)):∃mA,ObjM h a dx C mA/\(∀f,RelO (fs.lookup f) (mA f))/\PySem.Within mA (fs.map (·.1))/\fs.length<=1000/\H dx=some (.own a):=by
 obtain⟨d,z,ne,ob,mA,n,r,q⟩:=(show ObjOk P w H h a (.ins C dx fs) from hok a _ e)
 exact⟨mA,⟨ob,n,ne⟩,r,q,z,d⟩
end
structure Cls(K:W.Frag)(C:Addr):Prop where
 pg:W.plainGet K C zcd=true
 hd:W.hasDictIn K C=true
 po:W.plainOver K C=true
 sa:W.findIn K (.ref C) "__setattr__"=some (some (.builtin "object.__setattr__"))
theorem Cls.get(c:Cls K C)(f:Str):W.plainGet K C f=true:=c.pg
def NoAttr(K:W.Frag)(C:Addr)(f:Str):Prop:=W.findIn K (.ref C) f=some none
theorem NoAttr.taker{f:Str}(n:NoAttr K C f):W.takerIn K C f=some none:=by
 unfold W.takerIn
 rw[show W.findIn K (.ref C) f=some none from n]
 rfl
structure Meth(K:W.Frag)(C:Addr)(m:Str)(f:Addr):Prop where
 at_:W.findIn K (.ref C) m=some (some (.ref f))
 fn:W.isFn K (.ref f)=true
 kp:W.keepIn K (.ref f)=true
section
variable {fs:List (Str×V)}{f:Str}
theorem qpl9{b:Bool}(I:Inv X pins σ H s)(e:H a=some (.ins C dx fs))(c:Cls X.K C)(n:NoAttr X.K C f)(l:fs.lookup f=some v)
  (h:∀u s',Inv X pins σ H s'->RelV v u->Q u s'):wpAny (model X.prog X.w) A (getAttr (.ref a) f b) Q E s:=by
 obtain⟨mA,O,r,_,_,_⟩:=qna9 I.hok e
 obtain⟨u,hu,ru⟩:=RelO.some_of (v:=v) (o:=mA f) (by rw[<- l];exact r f)
 exact get_map I.kIn O (c.get f) c.hd n hu (handed_of ru) (h u _ (I.tok _) ru)
theorem qre9{g:Addr}{Q:Value×List Value->Shared->Prop}(I:Inv X pins σ H s)(e:H a=some (.ins C dx fs))(c:Cls X.K C)(k:Meth X.K C m g)(l:fs.lookup m=none)
  (h:Q (.ref g,[.ref a]) s):wpAny (model X.prog X.w) A (getMethod (.ref a) m pl) Q E s:=by
 obtain⟨mA,O,r,_,_,_⟩:=qna9 I.hok e
 have hn:mA m=none:=RelO.none_of (by rw[<- l];exact r m)
 exact get_meth I.kIn O (c.get m) k.at_ k.fn hn h
theorem qrb9{y:V}{u:Value}{Q:Unit->Shared->Prop}(I:Inv X pins σ H s)(e:H a=some (.ins C dx fs))(c:Cls X.K C)(n:NoAttr X.K C f)(hl:fs.length<1000)(ry:RelV y u)
  (h:∀s',Inv X pins σ (upd H a (.ins C dx (putF f y fs))) s'->Q () s'):wpAny (model X.prog X.w) A (setAttr (.ref a) f u) Q E s:=by
 obtain⟨mA,O,r,wi,_,ho⟩:=qna9 I.hok e
 have hz:(fs.map (·.1)).length<=sizeLine:=by rw[zad,sizeLine_eq];omega
 refine qnw9 I.kIn O c.sa c.po n.taker c.hd wi hz λ h' O' sb=>h _ ?_
 have hd:∃o,h'.get? dx=some o:=let ⟨o,_,_,e',_⟩:=O'.ns;⟨o,e'⟩
 refine I.write (x:=a) (e:=dx) (by rw[e];exact True.intro) (.inr ho) (λ b q hb z=>(sb.2 b hb).trans z) hd ?_
 refine⟨by rw[qap9 O.ne];exact ho,?_,O.ne,O'.obj,_,O'.ns,λ g=>?_,λ g hg=>?_⟩
 ·have:=qjk9 f y fs;omega
 ·show RelO ((putF f y fs).lookup g) (if g=f then some u else mA g)
  rw[qjh9]
  by_cases q:g=f
  ·rw[if_pos q,if_pos q];exact ry
  ·rw[if_neg q,if_neg q];exact r g
 ·by_cases q:g=f
  ·rw[q];exact(qkk9 f y fs).1
  ·refine(qkk9 f y fs).2 g (wi g λ z=>hg ?_)
   show(if g=f then some u else mA g)=none
   rw[if_neg q];exact z
theorem Inv.made(I:Inv X pins σ H s):Inv X pins σ (upd (upd H s.heap.objs.size (.own (s.heap.objs.size+1))) (s.heap.objs.size+1) (.ins C s.heap.objs.size []))
  { s with heap:=(s.heap.push W.emptyDict).push (W.instObj C s.heap.objs.size) }:=by
 have e1:(s.heap.push W.emptyDict).get? s.heap.objs.size=some W.emptyDict:=zar s.heap rfl
 have e2:((s.heap.push W.emptyDict).push (W.instObj C s.heap.objs.size)).get? (s.heap.objs.size+1)=some (W.instObj C s.heap.objs.size):=by
  have:=zar (s.heap.push W.emptyDict) (o:=W.instObj C s.heap.objs.size) rfl
  rwa [zdi] at this
 have e3:(s.heap.push W.emptyDict).Ns s.heap.objs.size (λ _=>none):=⟨W.emptyDict,#[],_,e1,rfl,(λ e he=>absurd he (by simp)),λ _=>rfl⟩
 have I1:=I.laid (a:=s.heap.objs.size) (o:=.own (s.heap.objs.size+1)) (h':=s.heap.push W.emptyDict) (t':=s.toks) (λ b u q=>zae _ q) (zao _) ⟨_,e1⟩
 refine I1.laid (a:=s.heap.objs.size+1) (o:=.ins C s.heap.objs.size []) (t':=s.toks) (λ b u q=>zae _ q) (zer (zdi _ _)) ?_
 have ne:s.heap.objs.size≠s.heap.objs.size+1:=zbd (zea _)
 refine⟨by rw[qap9 ne,qaf9],zbt _,ne,e2,λ _=>none,(Heap.Ns1.of_empty e3).at λ o q=>zae _ q,λ _=>True.intro,λ y hy=>absurd rfl hy⟩
theorem attr_of{prog:Program}{env:Env}{f:Str}(hb:attributeBase e f env (eval e env)=eval e env)
  (h:wpAny (model prog w) A (eval e env) (λ o s₁=>wpAny (model prog w) A (getAttr o f true) Q E s₁) E s):wpAny (model prog w) A (eval (.Attribute e f pos) env) Q E s :=
 Attribute_any_ h (by rw[arm_eval_Attribute,hb])
end
def tFld(K:W.Frag)(ta:TE)(f:Str):TE:=λ σ H Q=>ta σ H λ x H1=>∃a C dx fs v,x=.ref a/\H1 a=some (.ins C dx fs)/\Cls K C/\NoAttr K C f/\fs.lookup f=some v/\Q v H1
def sFld(K:W.Frag)(ta tv:TE)(f:Str):TS:=λ D σ H=>tv σ H λ y H1=>ta σ H1 λ x H2=>∃a C dx fs,x=.ref a/\H2 a=some (.ins C dx fs)/\Cls K C/\NoAttr K C f/\fs.length<1000 /\
 D.nx σ (upd H2 a (.ins C dx (putF f y fs)))
section
variable {o value:Expr}{f:Str}{tpos:Pos}{tv:TE}
theorem pe_fld(he:PE X e ta)(hb:attributeBase e f X.env (eval e X.env)=eval e X.env):PE X (.Attribute e f pos) (tFld X.K ta f):=by
 intro pins s σ H Q I h
 refine attr_of hb (thn (he pins s σ H _ I h) λ u s1 z9=>?_)
 obtain⟨x,H1,I1,rx,a,C,dx,fs,v,ex,ea,c,n,l,q⟩ := z9
 subst ex
 obtain rfl:u=Value.ref a:=rx
 exact qpl9 I1 ea c n l λ u' s2 I2 ru=>⟨v,H1,I2,ru,q⟩
theorem ps_fld(ha:PE X o ta)(hv:PE X value tv)(hs:swapsWith value (some (.Attribute o f pos')) pos.line X.env=pure false):PS X (.Assign [.Attribute o f pos'] value pos) (sFld X.K ta tv f):=by
 intro pins s σ H D I h
 refine plainObj_wpAny_Assign_Attribute (thn (hv pins s σ H _ I h) λ u s1 ⟨y,H1,I1,ry,q⟩=>thn (ha pins s1 σ H1 _ I1 q) λ ov s2 z9=>?_) hs
 obtain⟨x,H2,I2,rx,a,C,dx,fs,ex,ea,c,n,l,q2⟩ := z9
 subst ex
 obtain rfl:ov=Value.ref a:=rx
 exact qrb9 I2 ea c n l ry λ s3 I3=>⟨σ,_,I3,q2⟩
end
section
variable {c:Value}{b:Bool}
inductive TyOf(K:W.Frag)(H:Hp):V->Value->Prop where
 |non:TyOf K H .non (.type "NoneType")
 |bl (x:Bool):TyOf K H (.bl x) (.type "bool")
 |int (i:Int):TyOf K H (.int i) (.type "int")
 |str (x:Str):TyOf K H (.str x) (.type "str")
 |flt (x:UInt64):TyOf K H (.flt x) (.type "float")
 |lst {a:Addr} {xs:List V} (e:H a=some (.lst xs)):TyOf K H (.ref a) (.type "list")
 |frz {a:Addr} {o:Obj} {xs:List V} (e:H a=some (.frz o (.lst xs))):TyOf K H (.ref a) (.type "list")
 |tup {a:Addr} {xs:List V} (e:H a=some (.tup xs)):TyOf K H (.ref a) (.type "tuple")
 |dK {a:Addr} {kvs:List (Key×V)} (e:H a=some (.dK kvs)):TyOf K H (.ref a) (.type "dict")
 |dT {a:Addr} {kvs:List (List Key×V)} (e:H a=some (.dT kvs)):TyOf K H (.ref a) (.type "dict")
 | ins {a C dx:Addr} {fs:List (Str×V)} (e:H a=some (.ins C dx fs)) (cl:Cls K C) (ha:W.findIn K (.ref C) "__class__"=some (some (.builtin "object.__class__")))
   (hn:W.specialIn K (.builtin "object.__class__") "__get__"=some (some (.builtin "getset_descriptor.__get__"))) (htk:W.takesIn K (.builtin "object.__class__")=some true)
   (hm:W.mroIn K C (.type "object")=some true):TyOf K H (.ref a) (.ref C)
theorem isinst_ok{x:V}{u t:Value}(I:Inv X pins σ H s)(rx:RelV x u)(ty:TyOf X.K H x t)(e:W.kitOne X.K t c=some b)(h:∀tk,Q (.bool b) { s with toks:=tk }) :
  wpAny (model X.prog X.w) A (call (.builtin "isinstance") [u,c]) Q E s:=by
 cases ty with
 |non=>cases (show u=Value.none from rx);exact W.kia_one W.kitx_none I.kIn True.intro e (λ z=>nomatch z) h
 |bl y=>cases (show u=Value.bool y from rx);exact W.kia_one W.kitx_bool I.kIn True.intro e (λ z=>nomatch z) h
 |int i=>obtain⟨t,q⟩:=(show ∃t,u=Value.int i t from rx);cases q;exact W.kia_one W.kitx_int I.kIn True.intro e (λ z=>nomatch z) h
 |str y=>obtain⟨t,q⟩:=(show ∃t,u=Value.str y t from rx);cases q;exact W.kia_one W.kitx_str I.kIn True.intro e (λ z=>nomatch z) h
 |flt y=>obtain⟨t,q⟩:=(show ∃t,u=Value.float y t from rx);cases q;exact W.kia_one W.kitx_float I.kIn True.intro e (λ z=>nomatch z) h
 | @lst a xs ea =>
  cases (show u=Value.ref a from rx)
  obtain⟨_,_,n,_,h1⟩:=(show ObjOk X.prog X.w H s.heap a (.lst xs) from I.hok a _ ea)
  exact W.kia_one W.kitx_list I.kIn ⟨_,h1,rfl⟩ e (λ z=>nomatch z) h
 | @frz a ob xs ea =>
  cases (show u=Value.ref a from rx)
  obtain⟨_,_,_,n,_,h1⟩:=(show ObjOk X.prog X.w H s.heap a (.frz ob (.lst xs)) from I.hok a _ ea)
  exact W.kia_one W.kitx_list I.kIn ⟨_,h1,rfl⟩ e (λ z=>nomatch z) h
 | @tup a xs ea =>
  cases (show u=Value.ref a from rx)
  obtain⟨_,_,_,p⟩:=(show ObjOk X.prog X.w H s.heap a (.tup xs) from I.hok a _ ea)
  obtain⟨o,h1,h2,_⟩:=p
  exact W.kia_one W.kitx_tuple I.kIn ⟨o,h1,h2⟩ e (λ z=>nomatch z) h
 | @dK a kvs ea =>
  cases (show u=Value.ref a from rx)
  obtain⟨_,_,vs,_,p⟩:=(show ObjOk X.prog X.w H s.heap a (.dK kvs) from I.hok a _ ea)
  obtain⟨o,es,ep,h1,h2,_⟩:=p
  exact W.kia_one W.kitx_dict I.kIn ⟨o,h1,h2.1⟩ e (λ z=>nomatch z) h
 | @dT a kvs ea =>
  cases (show u=Value.ref a from rx)
  obtain⟨_,_,xs,_,o,es,ep,h1,h2,_⟩:=(show ObjOk X.prog X.w H s.heap a (.dT kvs) from I.hok a _ ea)
  exact W.kia_one W.kitx_dict I.kIn ⟨o,h1,h2.1⟩ e (λ z=>nomatch z) h
 | @ins a C dx fs ea cl ha hn htk hm =>
  cases (show u=Value.ref a from rx)
  obtain⟨mA,O,_⟩:=qna9 I.hok ea
  obtain⟨od,J,_⟩:=O.look
  exact W.kia_one (W.kitx_own (cl.get _) cl.hd ha hn htk hm) I.kIn J e (λ z=>nomatch z) h
end
structure Room(k:Nat)(A:Around):Prop where
 hd:A.handled=none
 dp:A.depth+3*k+5<recursionLimit
 un:A.units+16*k+200<cLine
theorem Room.mono{j:Nat}(r:Room k A)(h:j<=k):Room j A:=⟨r.hd,by have:=r.dp;omega,by have:=r.un;omega⟩
theorem Room.deeper{k:Nat}{A:Around}(r:Room (k+1) A)(env:Env):Room k (A.deeper env) :=
 ⟨r.hd,by have:=r.dp;show A.depth+1+3*k+5<_;omega,by have:=r.un;show A.units+3+16*k+200<_;omega⟩
theorem qqw9:(A.under (.builtin "type.__call__" ⟨.ref C::us,kw⟩)).depth=A.depth+1:=by
 first|rfl|simp[Around.under,Code.weight,Code.isCreation,Code.isGuard,Code.isCaller,Code.frames,Code.isFrame,guardIds]
theorem qpo9:(A.under (.builtin "type.__call__" ⟨.ref C::us,kw⟩)).units=A.units+1:=by
 first|rfl|simp[Around.under,Code.cUnits,Code.frames,Code.isFrame]
theorem Room.make(r:Room (k+1) A)(C:Addr)(us:List Value)(kw:List (Str×Value)):Room k (A.under (.builtin "type.__call__" ⟨.ref C::us,kw⟩)) :=
 ⟨r.hd,by have:=r.dp;rw[qqw9];omega,by have:=r.un;rw[qpo9];omega⟩
theorem Room.depth{k:Nat}{A:Around}(r:Room k A):A.depth<recursionLimit:=by have:=r.dp;omega
theorem Room.units{k:Nat}{A:Around}(r:Room k A):A.units+64<cLine:=by have:=r.un;omega
def tNil:TA:=λ _ H Q=>Q [] H
def tCons(ta:TE)(tr:TA):TA:=λ σ H Q=>ta σ H λ x H1=>tr σ H1 λ xs H2=>Q (x::xs) H2
section
variable {t:TA}
theorem pa_nil:PA X [] tNil:=λ _ _ _ _ H Q I h=>Calls.spliced_nil ⟨[],H,I,.nil,h⟩
theorem pa_cons(ha:PE X e te)(hr:PA X es t)(hs:starEach (e::es) X.env=(false,eval e X.env)::starEach es X.env:=by rfl):PA X (e::es) (tCons te t):=by
 intro pos pins s σ H Q I h
 rw[hs]
 show wpAny _ _ (spliced ((false,eval e X.env)::backTo pos (starEach es X.env))) _ _ s
 refine Calls.spliced_cons (thn (ha pins s σ H _ I h) λ u s1 z9=>?_)
 obtain⟨x,H1,I1,r1,q1⟩ := z9
 exact thn (hr pos pins s1 σ H1 _ I1 q1) λ us s2 ⟨xs,H2,I2,r2,q2⟩=>⟨x::xs,H2,I2,.cons r1 r2,q2⟩
def tTup(t:TA):TE:=λ σ H Q=>t σ H λ xs H1=>xs.length<=sizeLine/\∀p,H1 p=none->Q (.ref p) (upd H1 p (.tup xs))
def tLst(t:TA):TE:=λ σ H Q=>t σ H λ xs H1=>xs.length<=sizeLine/\∀p,H1 p=none->Q (.ref p) (upd H1 p (.lst xs))
theorem pe_tup{x1}(h:PA X es t):PE X (.Tuple es x1 pos) (tTup t):=by
 intro pins s σ H Q I hq
 refine wpAny_Tuple_spliced (thn (h pos pins s σ H _ I hq) λ us s1 ⟨xs,H1,I1,r,z,q⟩=>⟨by rw[<- r.length];exact z,?_⟩)
 have hf:H1 s1.heap.objs.size=none:=I1.hok.fresh (zao _)
 refine⟨.ref s1.heap.objs.size,upd H1 s1.heap.objs.size (.tup xs),I1.laid (t':=s1.toks) (λ b u e=>zae _ e) (zao _) ?_,U,q _ hf⟩
 exact⟨z,us,r,⟨_,zar _ rfl,U,_,U⟩⟩
theorem pe_lst(h:PA X es t):PE X (.List es pos) (tLst t):=by
 intro pins s σ H Q I hq
 refine wpAny_List_spliced (thn (h pos pins s σ H _ I hq) λ us s1 ⟨xs,H1,I1,r,z,q⟩=>⟨by rw[<- r.length];exact z,?_⟩)
 have hf:H1 s1.heap.objs.size=none:=I1.hok.fresh (zao _)
 refine⟨.ref s1.heap.objs.size,upd H1 s1.heap.objs.size (.lst xs),I1.laid (t':=s1.toks) (λ b u e=>zae _ e) (zao _) ?_,U,q _ hf⟩
 exact⟨z,us,0,r,zar _ rfl⟩
end
abbrev Sp:=List V->Hp->VK->XK->Prop
variable {sp:Sp}
abbrev CXT:=List Env->Hp->Shared->XK->Value->Shared->Prop
structure Env0(P:Program)(w:World)(K:W.Frag)(mg:Str->Option Value)(base:Heap)(A:Around)(outer:List Env)(s:Shared)(H:Hp):Prop where
 frames:A.frames=some outer
 mod:Mod K mg base
 bs:∀b o,base.get? b=some o->s.heap.get? b=some o/\H b=none
 bsz:base.objs.size<=s.heap.objs.size
 funs:s.heap.FunFrames base outer
 frf:∀b∈frs outer,H b=none
 hok:HOk P w H s.heap
 bare:AllBare s.gens
variable {CX:CXT}
def CE(outer:List Env)(P:Program)(w:World)(H:Hp)(s:Shared)(Q:VK)(u:Value)(s':Shared):Prop :=
 ∃v H',s'.os=s.os/\AllBare s'.gens/\Un (frs outer) [] H H' s.heap s'.heap/\HOk P w H' s'.heap/\RelV v u/\Q v H'
def CR(CX:CXT)(outer:List Env)(P:Program)(w:World)(H:Hp)(s:Shared)(Q:VK)(E:XK)(r:Result)(s':Shared):Prop :=
 match r with
 | .ok (.ret u)=>CE outer P w H s Q u s'
 | .ok _=>False
 | .error e=>CX outer H s E e s'
structure FnOk(P:Program)(w:World)(K:W.Frag)(mg:Str->Option Value)(base:Heap)(CX:CXT)(k:Nat)(f:Addr)(fd:FuncData)(ps:List Str)(sp:Sp):Prop where
 len:∀vs H Q E,sp vs H Q E->vs.length=ps.length
 run:∀(A:Around)(outer:List Env)(s:Shared)(H:Hp)(args:Args)(us:List Value)(vs:List V)(Q:VK)(E:XK),Room k A->Env0 P w K mg base A outer s H->BindsTo s fd args (ps.zip us)->Vals vs us->sp vs H Q E ->
  codeAny (model P w) A (.call (.ref f) args) (CR CX outer P w H s Q E) s
theorem FnOk.mono{P:Program}{w:World}{K:W.Frag}{mg:Str->Option Value}{base:Heap}{CX:CXT}{j k:Nat}{f:Addr}{fd:FuncData}{ps:List Str}{sp:Sp}(F:FnOk P w K mg base CX j f fd ps sp)(h:j<=k) :
  FnOk P w K mg base CX k f fd ps sp:=⟨F.len,λ A outer s H args us vs Q E hr=>F.run A outer s H args us vs Q E (hr.mono h)⟩
theorem FnOk.imp{f:Addr}{sp':Sp}(F:FnOk P w K mg base CX k f fd ps sp)
  (h:∀vs H Q E,sp' vs H Q E->sp vs H Q E):FnOk P w K mg base CX k f fd ps sp' :=
 ⟨λ vs H Q E q=>F.len vs H Q E (h _ _ _ _ q),λ A outer s H args us vs Q E hr he hb hv hs=>F.run A outer s H args us vs Q E hr he hb hv (h _ _ _ _ hs)⟩
theorem Env0.make{outer:List Env}(e:Env0 P w K mg base A outer s H)(C:Addr)(us:List Value)(kw:List (Str×Value)) :
  Env0 P w K mg base (A.under (.builtin "type.__call__" ⟨.ref C::us,kw⟩)) outer s H:=⟨by first|exact e.frames|(simpa [Around.under,Code.envs,Code.isFrame,pushEnvs] using e.frames),e.mod,e.bs,e.bsz,e.funs,e.frf,e.hok,e.bare⟩
section
variable {s':Shared}
theorem Inv.env0(I:Inv X pins σ H s):Env0 X.prog X.w X.K X.mg X.base X.A X.stack s H :=
 ⟨I.ok.frames,I.ok.mod,I.bs,zbb I.ok.bsz I.sz,I.stack,I.stkFree,I.hok,I.bare⟩
theorem Inv.after{Q:VK}{u:Value}(I:Inv X pins σ H s)(h:CE X.stack X.prog X.w H s Q u s'):EP X pins σ Q u s':=by
 obtain⟨v,H',os,bare,un,hok,r,q⟩:=h
 obtain⟨hh,g,d,t,os'⟩:=s'
 obtain rfl:os'=s.os:=os
 exact⟨v,H',I.call (h':=hh) (g':=g) (d':=d) (t':=t) (ch:=[]) un hok bare (λ b z=>absurd z (by simp)),r,q⟩
end
def tCall(sp:Sp)(dvs:List V)(E:XK)(t:TA):TE:=λ σ H Q=>t σ H λ vs H1=>sp (vs++dvs) H1 Q E
def tMeth(C:Addr)(m:Str)(sp:Sp)(dvs:List V)(E:XK)(ta:TE)(t:TA):TE:=λ σ H Q=>ta σ H λ x H1=>∃a dx fs,x=.ref a/\H1 a=some (.ins C dx fs)/\fs.lookup m=none /\
 t σ H1 λ vs H2=>sp (x::(vs++dvs)) H2 Q E
def tMake(C:Addr)(sp:Sp)(dvs:List V)(E:XK)(t:TA):TE:=λ σ H Q=>t σ H λ vs H1=>∀x dx,H1 x=none->H1 dx=none->dx≠x ->
 sp (.ref x::(vs++dvs)) (upd (upd H1 dx (.own x)) x (.ins C dx [])) (λ v H2=>v=.non/\Q (.ref x) H2) E
def Binds(K:W.Frag)(fd:FuncData)(ps:List Str)(ds:List Value):Prop :=
 ∀(s:Shared)(us:List Value),K.In s.heap->(us++ds).length=ps.length->BindsTo s fd ⟨us,[]⟩ (ps.zip (us++ds))
theorem Binds.all(h:∀us:List Value,us.length=ps.length->bindArgs fd ⟨us,[]⟩=pure (ps.zip us)):Binds K fd ps []:=λ s us _ hl=>by
 rw[zbv] at hl ⊢
 exact .of_eq (h us hl)
def qkp9(CX:CXT)(X:Cx)(E:XK):Prop:=∀(pins:List (Addr×Obj)) (σ:St) (H:Hp) (s:Shared) (e:Value) (s':Shared),Inv X pins σ H s->CX X.stack H s E e s'->X.xe e s'
section
variable {f:Addr}{dvs:List V}{ds:List Value}{E:XK}{apos:Pos}{o:Expr}{t:TA}
theorem run_fn{Q:VK}(F:FnOk X.prog X.w X.K X.mg X.base CX k f fd ps sp)(hr:Room k X.A)(hb:Binds X.K fd ps ds)(hd:Vals dvs ds)(hx:qkp9 CX X E)
  (I:Inv X pins σ H s) (r:Vals vs us) (h:sp (vs++dvs) H Q E):wpAny (model X.prog X.w) X.A (call (.ref f) us) (EP X pins σ Q) X.xe s:=by
 have r2:Vals (vs++dvs) (us++ds):=r.append hd
 have hl:(us++ds).length=ps.length:=by rw[<- r2.length];exact F.len _ _ _ _ h
 refine wpAny_call (codeAny_mono (F.run X.A X.stack s H ⟨us,[]⟩ (us++ds) (vs++dvs) Q E hr I.env0 (hb s us I.kIn hl) r2 h) λ r s' hq=>?_)
 cases r with
 |error e=>exact hx pins σ H s e s' I hq
 |ok fl =>
  cases fl with
  |ret u=>exact I.after hq
  |next=>exact False.elim hq
  |brk=>exact False.elim hq
  |cont=>exact False.elim hq
theorem pe_call(F:FnOk X.prog X.w X.K X.mg X.base CX k f fd ps sp)(hr:Room k X.A)(hg:Gl X x)(hm:X.mg x=some (.ref f))(hk:W.keepIn X.K (.ref f)=true)(hb:Binds X.K fd ps ds)(hd:Vals dvs ds)(hx:qkp9 CX X E)
  (ha:PA X (e::es) t) (hdb:(x==("__debug__":Str))=false:=by decide) (he:starEach (e::es) X.env=(false,eval e X.env)::starEach es X.env:=by rfl) (hpl:(backTo pos (starEach es X.env)).any (·.1)=false:=by rfl) :
  PE X (.Call (.Name x p) (e::es) [] pos) (tCall sp dvs E t):=by
 intro pins s σ H Q I h
 refine wpAny_Call_Name_kw (qkr9 I hg hm ?_ hdb)
 refine W.callWith_K (h₀:=X.base) I.ok.mod.kin hk (thn (ha pos pins s σ H _ I h) λ us s1 ⟨vs,H1,I1,r,q⟩=>⟨I1.kIn,?_⟩) he hpl
 exact run_fn F hr hb hd hx I1 r q
theorem pe_meth{pl:Sem Bool}(he:PE X o ta)(c:Cls X.K C)(hm:Meth X.K C m f)(F:FnOk X.prog X.w X.K X.mg X.base CX k f fd ps sp)(hr:Room k X.A)(hb:Binds X.K fd ps ds)(hd:Vals dvs ds)(hx:qkp9 CX X E)(ha:PA X (e::es) t)
  (hst:starEach (e::es) X.env=(false,eval e X.env)::starEach es X.env:=by rfl) (hpl:(backTo pos (starEach es X.env)).any (·.1)=false:=by rfl)
  (ht:eval (.Call (.Attribute o m apos) (e::es) [] pos) X.env=(do
   let ov <- eval o X.env
   standAt apos.atName
   let (f,first) <- holding [ov] (getMethod ov m pl)
   callWith pos f first (backTo pos (starEach (e::es) X.env)) (backToKw pos (keywordEach [] X.env))):=by rfl) :
  PE X (.Call (.Attribute o m apos) (e::es) [] pos) (tMeth C m sp dvs E ta t):=by
 intro pins s σ H Q I h
 refine W.methodCall_KW (pl:=pl) (thn (he pins s σ H _ I h) λ u s1 z9=>?_) ht
 obtain⟨x,H1,I1,rx,a,dx,fs,ex,ea,l,q⟩ := z9
 subst ex
 obtain rfl:u=Value.ref a:=rx
 refine qre9 I1 ea c hm l ?_
 refine W.callWith_K (first:=[.ref a]) (h₀:=X.base) I.ok.mod.kin hm.kp (thn (ha pos pins s1 σ H1 _ I1 q) λ us s2 ⟨vs,H2,I2,r,q2⟩=>⟨I2.kIn,?_⟩) hst hpl
 exact run_fn (us:=.ref a::us) (vs:=.ref a::vs) F hr hb hd hx I2 (.cons rfl r) q2
structure Mk(K:W.Frag)(C f:Addr):Prop where
 makes:W.makesIn K C=true
 init:W.findIn K (.ref C) "__init__"=some (some (.ref f))
 fn:W.isFn K (.ref f)=true
 kp:W.keepIn K (.ref C)=true
theorem run_make{Q:VK}(M:Mk X.K C f)(F:FnOk X.prog X.w X.K X.mg X.base CX k f fd ps sp)(hr:Room (k+1) X.A)(hb:Binds X.K fd ps ds)(hd:Vals dvs ds)
  (hx:qkp9 CX X E) (I:Inv X pins σ H s) (r:Vals vs us)
  (h:∀x dx,H x=none->H dx=none->dx≠x->sp (.ref x::(vs++dvs)) (upd (upd H dx (.own x)) x (.ins C dx [])) (λ v H2=>v=.non/\Q (.ref x) H2) E) :
  wpAny (model X.prog X.w) X.A (call (.ref C) us) (EP X pins σ Q) X.xe s:=by
 have hq:=h (s.heap.objs.size+1) s.heap.objs.size (I.hok.fresh (Nat.le_succ _)) (I.hok.fresh (zao _)) (zbd (zea _))
 have I2:=Inv.made (C:=C) I
 have r2:Vals (V.ref (s.heap.objs.size+1)::(vs++dvs)) (Value.ref (s.heap.objs.size+1)::(us++ds)):=.cons rfl (r.append hd)
 have hl:(Value.ref (s.heap.objs.size+1)::us++ds).length=ps.length:=by
  have e:=r2.length
  rw[F.len _ _ _ _ hq] at e
  exact e.symm
 refine wpAny_call (make_map (f:=f) I.kIn M.makes M.init (beq_iff_eq.mp M.fn) (codeAny_mono (F.run _ X.stack _ _ ⟨Value.ref (s.heap.objs.size+1)::us,[]⟩ (Value.ref (s.heap.objs.size+1)::(us++ds)) _ _ E (hr.make C us [])
  (I2.env0.make C us []) (hb _ (Value.ref (s.heap.objs.size+1)::us) I2.kIn hl) r2 hq) λ r s' hq'=>?_))
 cases r with
 |error e=>exact hx pins σ _ _ e s' I2 hq'
 |ok fl =>
  cases fl with
  |ret u =>
   obtain⟨v,H',I3,rv,ev,q3⟩:=I2.after hq'
   subst ev
   exact⟨rv,⟨V.ref (s.heap.objs.size+1),H',I3,U,q3⟩⟩
  |next=>exact False.elim hq'
  |brk=>exact False.elim hq'
  |cont=>exact False.elim hq'
theorem pe_make(M:Mk X.K C f)(F:FnOk X.prog X.w X.K X.mg X.base CX k f fd ps sp)(hr:Room (k+1) X.A)(hg:Gl X x)(hm:X.mg x=some (.ref C))(hb:Binds X.K fd ps ds)(hd:Vals dvs ds)(hx:qkp9 CX X E)
  (ha:PA X (e::es) t) (hdb:(x==("__debug__":Str))=false:=by decide) (he:starEach (e::es) X.env=(false,eval e X.env)::starEach es X.env:=by rfl) (hpl:(backTo pos (starEach es X.env)).any (·.1)=false:=by rfl) :
  PE X (.Call (.Name x p) (e::es) [] pos) (tMake C sp dvs E t):=by
 intro pins s σ H Q I h
 refine wpAny_Call_Name_kw (qkr9 I hg hm ?_ hdb)
 refine W.callWith_K (h₀:=X.base) I.ok.mod.kin M.kp (thn (ha pos pins s σ H _ I h) λ us s1 ⟨vs,H1,I1,r,q⟩=>⟨I1.kIn,?_⟩) he hpl
 exact run_make M F hr hb hd hx I1 r q
end
section
variable {f:Addr}{ks:List Str}{E:XK}{apos kpos:Pos}{o:Expr}{kws:List Keyword}{t tk:TA}{nm:Option Str}
variable {g:List Value->List Value->List Value}{gV:List V->List V->List V}
end
structure FnScope(N P:List Str)(sc:Scope):Prop where
 kind:sc.kind=.function
 co:sc.isCoroutine=false
 gen:sc.isGenerator=false
 nd:N.Nodup
 pre:N.take P.length=P
 par:∀x∈P,sc.names.lookup x=some .local\/sc.names.lookup x=some .cell
 nofree:∀y∈sc.names,y.2 ≠ .free
theorem qnh9{kindOf:Str->Option NameKind}{x:Str}:∀{binds:List (Str×Value)} {m:Str->Option Value},(∀v,(x,v)∉binds)->bindL kindOf binds m x=m x
 | [],_,_=>rfl
 | (n,v)::r,m,h=>by
  unfold bindL
  rw[qnh9 λ w hw=>h w (zai _ hw)]
  split
  ·have:x≠n:=by rintro rfl;exact h v zan
   simp[this]
  ·rfl
theorem qnd9{kindOf:Str->Option NameKind}{x:Str}:∀{binds:List (Str×Value)} {m:Str->Option Value},(∀v,(x,v)∉binds)->bindC kindOf binds m x=m x
 | [],_,_=>rfl
 | (n,v)::r,m,h=>by
  unfold bindC
  rw[qnd9 λ w hw=>h w (zai _ hw)]
  split
  ·rfl
  ·have:x≠n:=by rintro rfl;exact h v zan
   simp[this]
theorem qnf9{kindOf:Str->Option NameKind}{x:Str}{v:Value}:∀{P:List Str}{vs:List Value}{i:Nat}{m:Str->Option Value},P.Nodup->P[i]?=some x->vs[i]?=some v->kindOf x=some .local ->
  bindL kindOf (P.zip vs) m x=some v
 | [],_,_,_,_,h,_,_=>by simp at h
 |_::_,[],_,_,_,_,h,_=>by simp at h
 |p::P,w::vs,0,m,nd,h1,h2,hk=>by
  simp at h1 h2;subst h1;subst h2
  show bindL kindOf ((p,w)::P.zip vs) m p=_
  unfold bindL
  rw[qnh9 λ v hv=>(zbp.mp nd).1 (zdy hv).1,if_pos hk]
  simp
 |p::P,w::vs,i+1,m,nd,h1,h2,hk=>by
  show bindL kindOf ((p,w)::P.zip vs) m x=_
  unfold bindL
  exact qnf9 (i:=i) (zbp.mp nd).2 (by simpa using h1) (by simpa using h2) hk
theorem qoe9{kindOf:Str->Option NameKind}{x:Str}{v:Value}:∀{P:List Str}{vs:List Value}{i:Nat}{m:Str->Option Value},P.Nodup->P[i]?=some x->vs[i]?=some v->kindOf x≠some .local ->
  bindC kindOf (P.zip vs) m x=some v
 | [],_,_,_,_,h,_,_=>by simp at h
 |_::_,[],_,_,_,_,h,_=>by simp at h
 |p::P,w::vs,0,m,nd,h1,h2,hk=>by
  simp at h1 h2;subst h1;subst h2
  show bindC kindOf ((p,w)::P.zip vs) m p=_
  unfold bindC
  rw[qnd9 λ v hv=>(zbp.mp nd).1 (zdy hv).1,if_neg hk]
  simp
 |p::P,w::vs,i+1,m,nd,h1,h2,hk=>by
  show bindC kindOf ((p,w)::P.zip vs) m x=_
  unfold bindC
  exact qoe9 (i:=i) (zbp.mp nd).2 (by simpa using h1) (by simpa using h2) hk
def start(N:List Str)(vs:List V):St:=vs.map some++zdj (N.length-vs.length) none
def cxOf(CX:CXT)(P:Program)(w:World)(K:W.Frag)(mg:Str->Option Value)(base:Heap)(N:List Str)(qual:Str)(scope:Scope)(f:Addr)(cd:Value)(A:Around)(outer:List Env)(s:Shared)(H:Hp)(E:XK):Cx where
 prog:=P
 w:=w
 K:=K
 mg:=mg
 base:=base
 A:=A.deeper (envOfC qual scope s.heap.objs.size f cd)
 N:=N
 s₀:=s
 H₀:=H
 env:=envOfC qual scope s.heap.objs.size f cd
 outer:=outer
 stack:=envOfC qual scope s.heap.objs.size f cd::outer
 ex:=[]
 calm:=true
 fn:=λ _=>true
 pn:=[]
 xe:=λ e s'=>wpAny (model P w) (A.deeper (envOfC qual scope s.heap.objs.size f cd)) (leaving (envOfC qual scope s.heap.objs.size f cd) e) (λ _ s''=>CX outer H s E e s'') (λ e' s''=>CX outer H s E e' s'') s'
theorem qpe9{sc:Scope}(h:sc.names.lookup x=some .cell):∃c,(cellsFrom n sc.names []).lookup x=some c:=by
 have q:=W.cellsFrom_some sc.names n [] (.inl h)
 exact zfh.mp q
theorem inv_start{N:List Str}{qual:Str}{scope:Scope}{f:Addr}{cd:Value}{outer:List Env}{s1:Shared}{E:XK}
  (S:FnScope N ps scope) (hd:A.handled=none) (e0:Env0 P w K mg base A outer s H) (hl:vs.length=ps.length) (r:Vals vs us)
  (x:InCallC s s.heap.objs.size (bindL (envOfC qual scope s.heap.objs.size f cd).kindOf (ps.zip us) λ _=>none) (cellsFrom (s.heap.objs.size+1) scope.names []) (bindC (envOfC qual scope s.heap.objs.size f cd).kindOf (ps.zip us) λ _=>none) s1) :
  Inv (cxOf CX P w K mg base N qual scope f cd A outer s H E) [] (start N vs) H s1:=by
 have hpl:ps.length<=N.length:=by have:=congrArg zfb S.pre;rw[zbc] at this;omega
 obtain⟨h1,tk,rfl,hk⟩:=x.done
 have noA:∀b:Addr,b∉(cxOf CX P w K mg base N qual scope f cd A outer s H E).ex:=λ b z=>absurd (show b∈([]:List Addr) from z) (by simp)
 refine⟨⟨e0.mod,S.kind,U,U,zao _,λ y z c h1 h2=>?_,λ y hy=>?_,λ y c _ h=>?_,λ _=>hd,Around.frames_deeper e0.frames,.inr ⟨U,U⟩,λ b z=>absurd z (noA b),e0.bs,e0.bsz,λ b _ _=>noA b,λ b z=>absurd z (noA b),e0.funs,e0.frf⟩,
  rfl,e0.bare,Un.kept hk,⟨_,x.toInCall.ns,λ i y v h1 h2 h3=>?_⟩,λ y c h=>⟨_,x.cell y c h⟩,e0.hok.fresh (zao _),λ y c h=>?_,λ p hp=>absurd (show p∈([]:List (Addr×Obj)) from hp) (by simp),e0.hok.kept hk,?_⟩
 ·exact name_of_addr x.apart (PySem.mem_of_lookup h1) (PySem.mem_of_lookup h2)
 ·have hy:scope.names.lookup y=some .cell\/scope.names.lookup y=some .free:=hy
  rcases hy with hy|hy
  ·exact qpe9 hy
  ·exact absurd rfl (S.nofree _ (PySem.mem_of_lookup hy))
 ·exact zcf (x.above y c (PySem.mem_of_lookup h))
 ·have hi:i<vs.length:=by
   unfold start at h2
   by_cases hi:i<vs.length
   ·exact hi
   ·rw[zak (by simpa using hi)] at h2
    rw[List.getElem?_replicate] at h2
    split at h2<;>cases h2
  have ha:vs[i]?=some v:=by
   unfold start at h2
   rw[zal (by simpa using hi),zap] at h2
   cases e:vs[i]? with
   |none=>rw[e] at h2;cases h2
   |some a=>rw[e] at h2;cases h2;rfl
  obtain⟨u,hu,rv⟩:=r.get ha
  have hp:ps[i]?=some y:=by
   rw[<- S.pre,zdr ⋯];exact h1
  have ndP:ps.Nodup:=by rw[<- S.pre];exact S.nd.sublist (List.take_sublist _ _)
  refine⟨u,rv,?_⟩
  rcases S.par y (zaj hp) with k|k
  ·exact .inl ⟨k,qnf9 ndP hp hu k⟩
  ·obtain⟨c,e⟩:=qpe9 (n:=s.heap.objs.size+1) k
   refine .inr ⟨.inl k,c,e,?_⟩
   have q:=x.cell y c e
   rw[qoe9 ndP hp hu (by show scope.names.lookup y≠_;rw[k];decide)] at q
   exact q
 ·exact e0.hok.fresh (zcf (x.above y c (PySem.mem_of_lookup h)))
 ·unfold start
  show _=N.length
  rw[zam,zad,zeb]
  omega
theorem fn_of{f:Addr}{name qual:Str}{params:Arguments}{scope:Scope}{dV kV doc pm cdv ct oc:Value}{an od:Option Addr}
  {osl:Array (Option Value)} {N ps:List Str} {sp:Sp} (lk:K.lookup f=some ⟨oc,od,.func (W.fnOf name qual params body scope dV kV doc pm an cdv ct),osl⟩) (hcd:W.codeIn K cdv qual=true) (S:FnScope N ps scope)
  (len:∀vs H Q E,sp vs H Q E->vs.length=ps.length)
  (hbody:∀(A:Around)(outer:List Env)(s:Shared)(H:Hp)(vs:List V)(Q:VK)(E:XK),Room k (A.deeper (envOfC qual scope s.heap.objs.size f cdv))->sp vs H Q E ->
   ∃t,PSs (cxOf CX P w K mg base N qual scope f cdv A outer s H E) body t/\t { nx:=λ _ H'=>Q .non H',rt:=Q } (start N vs) H) :
  FnOk P w K mg base CX (k+1) f (W.fnOf name qual params body scope dV kV doc pm an cdv ct) ps sp:=by
 refine⟨len,λ A outer s H args us vs Q E hr e0 hb r hsp=>?_⟩
 have hl:=len _ _ _ _ hsp
 have KX:K.In s.heap:=e0.mod.kin.keeps λ b o e=>(e0.bs b o e).1
 have lim:s.heap.NoLimit:=e0.mod.nolimit.keeps λ b o e=>(e0.bs b o e).1
 have hkind:∀y∈ps.zip us,scope.names.lookup y.1=some .local\/(scope.names.lookup y.1=some .cell/\((cellsFrom (s.heap.objs.size+1) scope.names []).lookup y.1).isSome=true):=λ⟨n,v⟩ hy=>by
  rcases S.par n (zdy hy).1 with q|q
  ·exact .inl q
  ·exact .inr ⟨q,W.cellsFrom_some _ _ _ (.inl q)⟩
 refine codeAny_call_function hr.depth (KX _ _ lk) rfl S.co S.gen rfl (W.codeRec_of KX hcd) (hb _ _ _ _ ?_)
 refine wpAny_newFunctionEnv_cells S.kind hkind λ env he s1 x=>?_
 subst he
 refine⟨lim.keeps x.toInCall.keep,codeAny_func ?_⟩
 obtain⟨t,ht,hq⟩:=hbody A outer s H vs Q E (hr.deeper _) hsp
 have I:Inv (cxOf CX P w K mg base N qual scope f cdv A outer s H E) [] (start N vs) H s1:=inv_start S hr.hd e0 hl r x
 refine wpAny_mono (ht [] s1 (start N vs) H _ I hq) (λ fl s' hs=>?_) λ e s' hs=>hs
 have fin:∀{σ':St}{H':Hp}{v:V}{u:Value},Inv (cxOf CX P w K mg base N qual scope f cdv A outer s H E) [] σ' H' s'->RelV v u->Q v H'->CE outer P w H s Q u s' :=
  λ {σ' H' v u} J rv q=>⟨v,H',J.os,J.bare,J.base,J.hok,rv,q⟩
 cases fl with
 |ret u =>
  obtain⟨v,σ',H',J,rv,q⟩:=hs
  exact fin J rv q
 |next =>
  obtain⟨σ',H',J,q⟩:=hs
  exact fin (v:=V.non) (u:=Value.none) J rfl q
 |brk =>
  obtain⟨_,_,_,q⟩:=hs
  exact False.elim q
 |cont =>
  obtain⟨_,_,_,q⟩:=hs
  exact False.elim q
section
variable {t:TA}{id T:String}{r:List V->Hp->VK->Prop}
def tCB(r:List V->Hp->VK->Prop)(t:TA):TE:=λ σ H Q=>t σ H λ vs H1=>r vs H1 Q
theorem pe_callB(hc:CallR X (.builtin id) r)(hg:Gl X x)(hm:X.mg x=none)(hv:bootBuiltins x=some (.builtin id))(ha:PA X (e::es) t)(hn:x≠"__name__" := by decide)(hdb:(x==("__debug__":Str))=false:=by decide)
  (he:starEach (e::es) X.env=(false,eval e X.env)::starEach es X.env:=by rfl) (hpl:(backTo pos (starEach es X.env)).any (·.1)=false:=by rfl):PE X (.Call (.Name x p) (e::es) [] pos) (tCB r t):=by
 intro pins s σ H Q I h
 refine wpAny_Call_Name_kw (qoi9 I hg hm hv ?_ hn hdb)
 exact PyProof.Rows.callWith_builtin1 (thn (ha pos pins s σ H _ I h) λ us s1 ⟨vs,H1,I1,r1,q1⟩=>hc pins s1 σ H1 vs us Q I1 r1 q1) he hpl
theorem pe_callTy(hc:CallR X (.type T) r)(hg:Gl X x)(hm:X.mg x=none)(hv:bootBuiltins x=some (.type T))(ha:PA X (e::es) t)(hn:x≠"__name__" := by decide)(hdb:(x==("__debug__":Str))=false:=by decide)
  (he:starEach (e::es) X.env=(false,eval e X.env)::starEach es X.env:=by rfl) (hpl:(backTo pos (starEach es X.env)).any (·.1)=false:=by rfl):PE X (.Call (.Name x p) (e::es) [] pos) (tCB r t):=by
 intro pins s σ H Q I h
 refine wpAny_Call_Name_kw (qoi9 I hg hm hv ?_ hn hdb)
 exact PyProof.Rows.callWith_type1 (thn (ha pos pins s σ H _ I h) λ us s1 ⟨vs,H1,I1,r1,q1⟩=>hc pins s1 σ H1 vs us Q I1 r1 q1) he hpl
end
end L2
namespace HT
open PySem PyProof.Rows
section
open PySem.SeqAt
open PySem.AutoSeq1 (wpAny_loadPart')
open PySem.MeetsSeq PySem.MeetsSeq2 PySem.MeetsSeq3
end
section
variable {prog:Program}{w:World}{A:Around}{E:Value->Shared->Prop}{s:Shared}
def sIx(n d:Nat):Option Int->Nat
 |none=>d
 |some v=>if v<0 then(v+(n:Int)).toNat else min v.toNat n
end
end HT
namespace L2
open PySem PySem.Spec PyProof.Rows
variable {X:Cx}{H:Hp}{pins:List (Addr×Obj)}{its:List Value}{n:Nat}{s:Shared}{σ:St}{x:V}
abbrev TO:=St->Hp->(Option Int->Hp->Prop)->Prop
def PO(X:Cx)(e:Option Expr)(t:TO):Prop :=
 ∀(pins:List (Addr×Obj)) (s:Shared) (σ:St) (H:Hp) (Q:Option Int->Hp->Prop),Inv X pins σ H s->t σ H Q ->
  wpAny (model X.prog X.w) X.A (evalPart e X.env) (λ u s'=>∃o H',Inv X pins σ H' s'/\IsPart u o/\Q o H') X.xe s
def tNoPart:TO:=λ _ H Q=>Q none H
def tPart(t:TE):TO:=λ σ H Q=>t σ H λ x H1=>∃i,x=.int i/\Q (some i) H1
section
variable {e:Expr}{te:TE}{lo hi:Option Expr}{tl th:TO}{pos p2:Pos}
theorem po_none:PO X none tNoPart:=by
 intro pins s σ H Q I h
 rw[evalPart_none]
 exact wpAny_pure ⟨none,H,I,.none,h⟩
theorem po_some(h:PE X e te):PO X (some e) (tPart te):=by
 intro pins s σ H Q I hw
 rw[evalPart_some]
 refine thn (h pins s σ H _ I hw) λ u s1 z9=>?_
 obtain⟨x,H1,I1,r1,q1⟩ := z9
 obtain⟨i,rfl,q⟩:=q1
 obtain⟨t,rfl⟩:=r1
 exact⟨some i,H1,I1,.int i t,q⟩
def SlR(X:Cx)(r:V->Option Int->Option Int->Hp->VK->Prop):Prop :=
 ∀(pins:List (Addr×Obj)) (s:Shared) (σ:St) (H:Hp) (x:V) (v vl vu:Value) (lo hi:Option Int) (sl:Addr) (Q:VK),Inv X pins σ H s->RelV x v->s.heap.IsSliceOf sl vl vu .none->IsPart vl lo->IsPart vu hi->r x lo hi H Q ->
  ∃T id,typeLookup (.type T) "__getitem__"=pure (some (.builtin id))/\s.TypeIs v T/\wpAny (model X.prog X.w) X.A (getItem v (.ref sl)) (EP X pins σ Q) X.xe s
def tSl(r:V->Option Int->Option Int->Hp->VK->Prop)(te:TE)(tl th:TO):TE:=λ σ H Q=>te σ H λ x H1=>tl σ H1 λ l H2=>th σ H2 λ u H3=>r x l u H3 Q
theorem qqs9{r:V->Option Int->Option Int->Hp->VK->Prop}(hr:SlR X r)(he:PE X e te)(hl:PO X lo tl)(hu:PO X hi th):PE X (.Subscript e (.Slice lo hi none p2) pos) (tSl r te tl th):=by
 intro pins s σ H Q I h
 refine Subscript_ (thn (he pins s σ H _ I h) λ v s1 z9=>?_)
 obtain⟨x,H1,I1,r1,q1⟩ := z9
 refine wpAny_Slice (thn (hl pins s1 σ H1 _ I1 q1) λ vl s2 ⟨l,H2,I2,pl,q2⟩=>thn (hu pins s2 σ H2 _ I2 q2) λ vu s3 z9=>?_)
 obtain⟨u,H3,I3,pu,q3⟩ := z9
 rw[evalPart_none]
 refine wpAny_pure ?_
 have I4:Inv X pins σ H3 { s3 with heap:=s3.heap.push { cls:=.type "slice",data:=.fields #[vl,vu,.none] } }:=I3.kept (t':=s3.toks) λ b ob q=>zae _ q
 obtain⟨T,id,hT,ht,hg⟩:=hr pins { s3 with heap:=s3.heap.push { cls:=.type "slice",data:=.fields #[vl,vu,.none] } } σ H3 x v vl vu l u s3.heap.objs.size Q I4 r1 (Heap.IsSliceOf.new ..) pl pu q3
 show wpAny (model X.prog X.w) X.A (subscriptTail e (.Slice lo hi none p2) v (.ref s3.heap.objs.size)) (EP X pins σ Q) X.xe { s3 with heap:=s3.heap.push { cls:=.type "slice",data:=.fields #[vl,vu,.none] } }
 exact tail_any (ops:=[.ref s3.heap.objs.size,v]) ht hT hg (by with_unfolding_all rfl)
def cutV(xs:List V)(lo hi:Option Int):List V:=(xs.drop (HT.sIx xs.length 0 lo)).take (HT.sIx xs.length xs.length hi-HT.sIx xs.length 0 lo)
theorem qok9(xs:List V)(lo hi:Option Int):(cutV xs lo hi).length<=xs.length:=by
 unfold cutV
 rw[zbc,zcj]
 omega
end
def ixN(n:Nat)(i:Int):Option Nat:=if 0<=i then(if i<n then some i.toNat else none) else if -(n:Int)<=i then some (i+n).toNat else none
def atI{α:Type}(xs:List α)(i:Int):Option α:=(ixN xs.length i).bind λ j=>xs[j]?
theorem ixN_seq{i:Int}{j:Nat}(h:ixN n i=some j):seqIndex? i n=some j/\j<n/\-(n:Int)<=i/\i<n:=by
 unfold ixN at h
 by_cases h0:0<=i
 ·rw[if_pos h0] at h
  by_cases h1:i<n
  ·rw[if_pos h1] at h
   have e:i.toNat=j:=Option.some.inj h
   exact⟨by rw[seqIndex_of h0 h1,e],⋯,⋯,h1⟩
  ·rw[if_neg h1] at h;cases h
 ·rw[if_neg h0] at h
  by_cases h1:-(n:Int)<=i
  ·rw[if_pos h1] at h
   have e:(i+n).toNat=j:=Option.some.inj h
   exact⟨by rw[seqIndex_neg ⋯ h1,e],⋯,h1,⋯⟩
  ·rw[if_neg h1] at h;cases h
theorem qqh9{α:Type}{xs:List α}{i:Int}{v:α}(h:atI xs i=some v):∃j,seqIndex? i xs.length=some j/\xs[j]?=some v/\j<xs.length/\-(xs.length:Int)<=i/\i<xs.length:=by
 unfold atI at h
 cases e:ixN xs.length i with
 |none=>rw[e] at h;cases h
 |some j =>
  rw[e] at h
  obtain⟨h1,h2,h3,h4⟩:=ixN_seq e
  exact⟨j,h1,h,h2,h3,h4⟩
theorem qea9{α:Type}{xs:List α}{j:Nat}{v:α}(h:xs[j]?=some v):atI xs (j:Int)=some v:=by
 have hj:j<xs.length:=(zab.mp h).1
 have e:ixN xs.length (j:Int)=some j:=by
  unfold ixN
  rw[if_pos ⋯,if_pos ⋯];simp
 unfold atI;rw[e];exact h
theorem qqf9{α:Type}(xs:List α)(v:α):atI (xs++[v]) (-1)=some v:=by
 have hl:(xs++[v]).length=xs.length+1:=by simp
 have e:ixN (xs++[v]).length (-1)=some xs.length:=by
  unfold ixN
  rw[hl,if_neg (by decide),if_pos ⋯]
  congr 1
  omega
 unfold atI
 rw[e]
 show(xs++[v])[xs.length]?=some v
 simp
def PlainIx(b:Expr):Prop:=∀o i,subscripted b false o i=operate [o,i] (getItem o i)
def IxR(X:Cx)(r:R2):Prop :=
 ∀(value slice:Expr) (pins:List (Addr×Obj)) (s:Shared) (σ:St) (H:Hp) (x y:V) (v u:Value) (Q:VK),Inv X pins σ H s->RelV x v->RelV y u->r x y H Q ->
  subscripted slice false v u=operate [v,u] (getItem v u)->wpAny (model X.prog X.w) X.A (subscriptTail value slice v u) (EP X pins σ Q) X.xe s
def MtR(X:Cx)(id:String)(r:V->List V->Hp->VK->Prop):Prop :=
 ∀(pins:List (Addr×Obj)) (s:Shared) (σ:St) (H:Hp) (x:V) (xs:List V) (v:Value) (us:List Value) (Q:VK),Inv X pins σ H s->RelV x v->Vals xs us->r x xs H Q ->
  wpAny (model X.prog X.w) X.A (call (.builtin id) (v::us)) (EP X pins σ Q) X.xe s
section
variable {X:Cx}{a b:Expr}{ta tb:TE}{pos:Pos}
theorem pe_ix{r:R2}(hr:IxR X r)(ha:PE X a ta)(hb:PE X b tb)(hs:PlainIx b):PE X (.Subscript a b pos) (tOp r ta tb):=by
 intro pins s σ H Q I h
 exact Subscript_ (binT ha hb I h λ v u s2 x y H2 I2 rx ry q=>hr a b pins s2 σ H2 x y v u Q I2 rx ry q (hs _ _))
inductive rIxL(K:W.Frag)(x:V)(y:V)(H:Hp)(Q:VK):Prop
 |mk (p:_) (xs:_) (i:_) (v:_):x=.ref p->y=.int i->SqL K H p xs->atI xs i=some v->Q v H->rIxL K x y H Q
inductive rIxT(K:W.Frag)(x:V)(y:V)(H:Hp)(Q:VK):Prop
 |mk (p:_) (xs:_) (i:_) (v:_):x=.ref p->y=.int i->SqT K H p xs->atI xs i=some v->Q v H->rIxT K x y H Q
inductive rIxS(x:V)(y:V)(H:Hp)(Q:VK):Prop
 |mk (z:_) (i:_) (c:_):x=.str z->y=.int i->z.length<=sizeLine->atI z.cps.toList i=some c->Q (.str ⟨#[c]⟩) H->rIxS x y H Q
theorem ix_list:IxR X (rIxL X.K):=by
 intro value slice pins s σ H x y v u Q I rx ry h hs
 obtain⟨p,xs,i,z,rfl,rfl,hq,he,q⟩:=h
 cases rx
 obtain⟨t,rfl⟩:=ry
 obtain⟨its,r,pl,hz⟩:=I.list hq
 obtain⟨j,h1,h2,h3,h4,h5⟩:=qqh9 he
 obtain⟨w,ew,rw'⟩:=r.get h2
 have hl:=r.length
 have hn:=qma9
 have fin:EP X pins σ Q w s:=⟨z,H,I,rw',q⟩
 by_cases h0:0<=i
 ·have hj:i.toNat=j:=by
   rw[seqIndex_of h0 h5] at h1
   exact Option.some.inj h1
  exact item_listR pl.isList h0 ⋯ (by rw[hj];simpa using ew) fin hs
 ·have hj:(i+(its.toArray.size:Int)).toNat=j:=by
   rw[seqIndex_neg ⋯ h4] at h1
   rw[zax,<- hl]
   exact Option.some.inj h1
  exact subscriptTail_builtinR (x:=w) pl.isList.typeIs slot_list_getitem.lookup
   (wpAny_getItem_list_neg (Q:=λ r s'=>r=w/\EP X pins σ Q r s') pl.isList ⋯ (by rw[zax]<;>omega) ⋯ (by rw[hj];simpa using ew) ⟨rfl,fin⟩) hs
theorem qrg9:IxR X (rIxT X.K):=by
 intro value slice pins s σ H x y v u Q I rx ry h hs
 obtain⟨p,xs,i,z,rfl,rfl,hq,he,q⟩:=h
 cases rx
 obtain⟨t,rfl⟩:=ry
 obtain⟨its,r,pl,hz⟩:=I.tuple hq
 obtain⟨j,h1,h2,h3,h4,h5⟩:=qqh9 he
 obtain⟨w,ew,rw'⟩:=r.get h2
 have hl:=r.length
 have hn:=qma9
 have fin:EP X pins σ Q w s:=⟨z,H,I,rw',q⟩
 exact subscriptTail_builtinR (x:=w) pl.typeIs slot_tuple_getitem.lookup
  (getItem_tuple (j:=j) (Q:=λ r s'=>r=w/\EP X pins σ Q r s') pl ⋯ ⋯ (by rw[zax,<- hl];exact h1) (by simpa using ew) ⟨rfl,fin⟩) hs
theorem ix_str:IxR X rIxS:=by
 intro value slice pins s σ H x y v u Q I rx ry h hs
 obtain⟨z,i,c,rfl,rfl,hz,he,q⟩:=h
 obtain⟨t,rfl⟩:=rx
 obtain⟨t',rfl⟩:=ry
 obtain⟨j,h1,h2,h3,h4,h5⟩:=qqh9 he
 have hl:z.cps.toList.length=z.length:=by simp[zch]
 rw[hl] at h1 h4 h5
 have hn:=qma9
 exact tail_any (typeIs_str s z t) slot_str_getitem.lookup (getItem_str (c:=c) (by
  have e1:decide (i < -(2 ^ 63:Int))=false:=decide_eq_false ⋯
  have e2:decide (i≥2 ^ 63)=false:=decide_eq_false ⋯
  rw[e1,e2,Bool.or_false]) (by rw[h1];simpa using h2) ⟨.str ⟨#[c]⟩,H,I.tok _,⟨_,rfl⟩,q⟩) hs
theorem qrw9(its:List Value)(n j:Nat)(u:Value):Obj.mapSeq (·.setIfInBounds j u) { cls:=.type "list",data:=.seq its.toArray n }={ cls:=.type "list",data:=.seq (its.set j u).toArray n }:=by
 simp[Obj.mapSeq]
theorem Inv.lst{pins:List (Addr×Obj)}{σ:St}{H:Hp}{s:Shared}{p:Addr}{xs:List V}(I:Inv X pins σ H s)(h:H p=some (.lst xs)) :
  ∃(its:List Value)(n:Nat),Vals xs its/\s.heap.get? p=some { cls:=.type "list",data:=.seq its.toArray n }/\xs.length<=sizeLine:=by
 obtain⟨z,its,n,r,e⟩:=I.hok p _ h
 exact⟨its,n,r,e,z⟩
theorem Inv.lstUpd{p:Addr}{xs ys:List V}{its':List Value}{n':Nat}{f:Obj->Obj}(I:Inv X pins σ H s)(h:H p=some (.lst xs))
  (ho:s.heap.get? p=some { cls:=.type "list",data:=.seq its.toArray n }) (hf:f { cls:=.type "list",data:=.seq its.toArray n }={ cls:=.type "list",data:=.seq its'.toArray n' }) (r:Vals ys its') (hz:ys.length<=sizeLine) (t:Nat) :
  Inv X pins σ (upd H p (.lst ys)) { s with heap:=s.heap.update p f,toks:=t }:=by
 have e:(s.heap.update p f).get? p=some { cls:=.type "list",data:=.seq its'.toArray n' }:=by
  rw[zfm f ho (by rw[hf]<;>rfl),hf]
 refine I.write (x:=p) (e:=p) (by rw[h];trivial) (.inl rfl) (λ b u hb q=>(zfi _ _ (Ne.symm hb)).trans q) ⟨_,e⟩ ?_
 exact⟨hz,its',n',r,e⟩
def rSetL:V->V->V->Hp->(Hp->Prop)->Prop:=λ o i v H Q=>∃p xs k j,o=.ref p/\i=.int k/\H p=some (.lst xs)/\ixN xs.length k=some j/\Q (upd H p (.lst (xs.set j v)))
theorem qqu9:PSet X rSetL:=by
 intro pins s σ H o i v ov iv u Q I ro ri rv h
 obtain⟨p,xs,k,j,rfl,rfl,hp,hj,q⟩:=h
 cases ro
 obtain⟨t,rfl⟩:=ri
 obtain⟨its,n,r,ho,hz⟩:=I.lst hp
 obtain⟨h1,h2,h3,h4⟩:=ixN_seq hj
 have hl:=r.length
 have hn:=qma9
 have I':Inv X pins σ (upd H p (.lst (xs.set j v))) { s with heap:=s.heap.update p (Obj.mapSeq (·.setIfInBounds j u)) } :=
  I.lstUpd hp ho (qrw9 its n j u) (r.set rv j) (by rw[zgt];exact hz) s.toks
 by_cases h0:0<=k
 ·have hk:k.toNat=j:=by
   rw[seqIndex_of h0 h4] at h1
   exact Option.some.inj h1
  exact W.ki_setAt ho h0 ⋯ (by rw[zax,<- hl];exact h4) (by rw[hk];exact⟨_,I',q⟩)
 ·have hk:(k+(its.toArray.size:Int)).toNat=j:=by
   rw[seqIndex_neg ⋯ h3] at h1
   rw[zax,<- hl]
   exact Option.some.inj h1
  exact W.ki_setBack ho ⋯ (by rw[zax,<- hl];exact h3) ⋯ (by rw[hk];exact⟨_,I',q⟩)
theorem qmo9(lo hi:Option Int)(n:Nat):(sliceBounds lo hi none n).1=((HT.sIx n 0 lo:Nat):Int)/\(sliceBounds lo hi none n).2.1=((HT.sIx n n hi:Nat):Int)/\(sliceBounds lo hi none n).2.2=1:=by
 refine⟨?_,?_,U⟩
 ·cases lo with
  |none=>simp[sliceBounds,HT.sIx]
  |some i =>
   simp only[sliceBounds,HT.sIx,zgz,show(1:Int)>0 by decide,if_true]
   by_cases h:i<0
   ·simp only[h,if_true]<;>omega
   ·simp only[h,if_false]<;>omega
 ·cases hi with
  |none=>simp[sliceBounds,HT.sIx]
  |some i =>
   simp only[sliceBounds,HT.sIx,zgz,show(1:Int)>0 by decide,if_true]
   by_cases h:i<0
   ·simp only[h,if_true]<;>omega
   ·simp only[h,if_false]<;>omega
theorem qkm9(its:List Value)(lo hi:Option Int):slicePick its.toArray lo hi none=((its.drop (HT.sIx its.length 0 lo)).take (HT.sIx its.length its.length hi-HT.sIx its.length 0 lo)).toArray:=by
 obtain⟨h1,h2,h3⟩:=qmo9 lo hi its.toArray.size
 unfold slicePick
 rw[h1,h2,h3]
 simp only[sliceRange_one,pick_run,zax]<;>rfl
inductive rSlL(K:W.Frag)(x:V)(lo:Option Int)(hi:Option Int)(H:Hp)(Q:VK):Prop
 |mk (a:_) (xs:_):x=.ref a->SqL K H a xs->(∀p,H p=none->Q (.ref p) (upd H p (.lst (cutV xs lo hi))))->rSlL K x lo hi H Q
theorem sl_list:SlR X (rSlL X.K):=by
 intro pins s σ H x v vl vu lo hi sl Q I rx hs pl pu h
 obtain⟨a,xs,rfl,hx,q⟩:=h
 cases rx
 obtain⟨its,r,ht,hz⟩:=I.list hx
 have hlen:=r.length
 refine⟨"list",_,slot_list_getitem.lookup,ht.isList.typeIs,?_⟩
 refine wpAny_getItem_list_slice ht.isList hs pl pu .none (by simp) ?_ (by rw[zax]<;>omega)
 rw[qkm9,<- hlen]
 refine⟨.ref s.heap.objs.size,_,I.laid (t':=s.toks) (o:=.lst (cutV xs lo hi)) (λ b ob q=>zae _ q) (zao _) ?_,U,q _ (I.hok.fresh (zao _))⟩
 exact⟨zbb (qok9 xs lo hi) hz,_,0,(r.drop (HT.sIx xs.length 0 lo)).take (HT.sIx xs.length xs.length hi-HT.sIx xs.length 0 lo),zar _ rfl⟩
def flatV:V->Bool
 | .non=>true
 | .bl _=>true
 | .int _=>true
 | .str _=>true
 |_=>false
def eqV:V->V->Bool
 | .non,.non=>true
 | .bl a,.bl b=>a==b
 | .bl a,.int b=>(if a then 1 else 0)==b
 | .int a,.bl b=>a==(if b then 1 else 0)
 | .int a,.int b=>a==b
 | .str a,.str b=>a==b
 |_,_=>false
theorem eqAt_V{A:Around}{y:V}{u v:Value}(ry:RelV y u)(rx:RelV x v)(fy:flatV y=true)(fx:flatV x=true):SeqAt.EqAt A s u v (eqV y x):=by
 cases y with
 |non =>
  cases ry
  cases x with
  |non=>cases rx;exact SeqAt.EqAt.same _
  |bl b=>cases rx;exact SeqAt.EqAt.none_bool b
  |int b=>obtain⟨t,rfl⟩:=rx;exact SeqAt.EqAt.none_int b t
  |str b=>obtain⟨t,rfl⟩:=rx;exact SeqAt.EqAt.none_str b t
  |_=>exact absurd (show false=true from fx) zaz
 |bl a =>
  cases ry
  cases x with
  |non=>cases rx;exact SeqAt.EqAt.bool_none a
  |bl b=>cases rx;exact SeqAt.EqAt.bool_bool a b
  |int b=>obtain⟨t,rfl⟩:=rx;exact SeqAt.EqAt.bool_int a b t
  |str b=>obtain⟨t,rfl⟩:=rx;exact SeqAt.EqAt.bool_str a b t
  |_=>exact absurd (show false=true from fx) zaz
 |int a =>
  obtain⟨t',rfl⟩:=ry
  cases x with
  |non=>cases rx;exact SeqAt.EqAt.int_none a t'
  |bl b=>cases rx;exact SeqAt.EqAt.int_bool a t' b
  |int b=>obtain⟨t,rfl⟩:=rx;exact SeqAt.EqAt.int_int a t' b t
  |str b=>obtain⟨t,rfl⟩:=rx;exact SeqAt.EqAt.int_str a t' b t
  |_=>exact absurd (show false=true from fx) zaz
 |str a =>
  obtain⟨t',rfl⟩:=ry
  cases x with
  |non=>cases rx;exact SeqAt.EqAt.str_none a t'
  |bl b=>cases rx;exact SeqAt.EqAt.str_bool a t' b
  |int b=>obtain⟨t,rfl⟩:=rx;exact SeqAt.EqAt.str_int a t' b t
  |str b=>obtain⟨t,rfl⟩:=rx;exact SeqAt.EqAt.str_str a t' b t
  |_=>exact absurd (show false=true from fx) zaz
 |_=>exact absurd (show false=true from fy) zaz
def eqU(x:V)(u:Value):Bool:=match u with
 | .none=>eqV .non x
 | .bool b=>eqV (.bl b) x
 | .int i _=>eqV (.int i) x
 | .str z _=>eqV (.str z) x
 |_=>false
theorem eqU_of{y:V}{u:Value}(r:RelV y u)(f:flatV y=true):eqU x u=eqV y x:=by
 cases y with
 |non=>cases r;rfl
 |bl b=>cases r;rfl
 |int i=>obtain⟨t,rfl⟩:=r;rfl
 |str z=>obtain⟨t,rfl⟩:=r;rfl
 |_=>exact absurd (show false=true from f) zaz
theorem qky9{x:V}:∀{xs:List V}{us:List Value},Vals xs us->xs.all flatV=true->us.any (eqU x)=xs.any λ y=>eqV y x
 |_,_,.nil,_=>rfl
 |y::xs,u::us,.cons r t,f=>by
  rw[zgf,zbu] at f
  rw[zhe,zhe,eqU_of r f.1,qky9 t f.2]
theorem qhs9{A:Around}{s:Shared}{x:V}{v:Value}(rx:RelV x v)(fx:flatV x=true):∀{xs:List V}{us:List Value},Vals xs us->xs.all flatV=true->∀u∈us,SeqAt.EqAt A s u v (eqU x u)
 |_,_,.nil,_=>λ u hu=>by cases hu
 |y::xs,u::us,.cons r t,f=>λ u' hu=>by
  rw[zgf,zbu] at f
  rcases zah.mp hu with rfl|hu
  ·rw[eqU_of r f.1];exact eqAt_V r rx f.1 fx
  ·exact qhs9 rx fx t f.2 u' hu
def inV(x:V)(xs:List V):Bool:=xs.any λ y=>eqV y x
inductive rIn(K:W.Frag)(neg:Bool)(x:V)(y:V)(H:Hp)(Q:VK):Prop
 |mk (p:_) (xs:_):y=.ref p->((SqL K H p xs\/SqT K H p xs))->flatV x=true->xs.all flatV=true->(Q (.bl (if neg then !inV x xs else inV x xs)) H)->rIn K neg x y H Q
theorem qnp9:OpR X (compareOp .In) (rIn X.K false):=by
 intro pins s σ H x y v u Q I rx ry h
 obtain⟨p,xs,rfl,hq,fx,fs,q⟩:=h
 cases ry
 rcases hq with hq|hq
 ·obtain⟨its,r,pl,hz⟩:=I.list hq
  refine SeqAt.in_listAt (eqU x) pl.isList (λ w hw=>qhs9 rx fx r fs w (by simpa using hw)) ⟨.bl _,H,I,rfl,?_⟩
  rw[show its.toArray.any (eqU x)=its.any (eqU x) by simp,qky9 r fs]
  exact q
 ·obtain⟨its,r,pl,hz⟩:=I.tuple hq
  refine SeqAt.in_tupleAt (eqU x) pl (λ w hw=>qhs9 rx fx r fs w (by simpa using hw)) ⟨.bl _,H,I,rfl,?_⟩
  rw[show its.toArray.any (eqU x)=its.any (eqU x) by simp,qky9 r fs]
  exact q
theorem qms9:OpR X (compareOp .NotIn) (rIn X.K true):=by
 intro pins s σ H x y v u Q I rx ry h
 obtain⟨p,xs,rfl,hq,fx,fs,q⟩:=h
 cases ry
 rcases hq with hq|hq
 ·obtain⟨its,r,pl,hz⟩:=I.list hq
  refine SeqAt.notIn_listAt (eqU x) pl.isList (λ w hw=>qhs9 rx fx r fs w (by simpa using hw)) ⟨.bl _,H,I,rfl,?_⟩
  rw[show its.toArray.any (eqU x)=its.any (eqU x) by simp,qky9 r fs]
  exact q
 ·obtain⟨its,r,pl,hz⟩:=I.tuple hq
  refine SeqAt.notIn_tupleAt (eqU x) pl (λ w hw=>qhs9 rx fx r fs w (by simpa using hw)) ⟨.bl _,H,I,rfl,?_⟩
  rw[show its.toArray.any (eqU x)=its.any (eqU x) by simp,qky9 r fs]
  exact q
theorem qmd9:CallR X (.builtin "len") (λ xs H Q=>∃p ys,xs=[.ref p]/\(SqL X.K H p ys\/SqT X.K H p ys)/\Q (.int ys.length) H):=by
 intro pins s σ H xs us Q I r h
 obtain⟨p,ys,rfl,hq,q⟩:=h
 obtain⟨u,rfl,rx⟩:=vals1 r
 cases rx
 have hn:=qma9
 rcases hq with hq|hq
 ·obtain⟨its,r',pl,hz⟩:=I.list hq
  have hlen:=r'.length
  exact Calls.call_len_list pl.isList (by simp only[zax]<;>omega) ⟨.int ys.length,H,I.tok _,⟨s.toks+1,by rw[zax,hlen]⟩,q⟩
 ·obtain⟨its,r',pl,hz⟩:=I.tuple hq
  have hlen:=r'.length
  exact len_tuple pl (by simp only[zax]<;>omega) ⟨.int ys.length,H,I.tok _,⟨s.toks+1,by rw[zax,hlen]⟩,q⟩
theorem qme9:CallR X (.type "list") (λ xs H Q=>∃p ys,xs=[.ref p]/\(SqL X.K H p ys\/SqT X.K H p ys)/\∀l,H l=none->Q (.ref l) (upd H l (.lst ys))):=by
 intro pins s σ H xs us Q I r h
 obtain⟨p,ys,rfl,hq,q⟩:=h
 obtain⟨u,rfl,rx⟩:=vals1 r
 cases rx
 have fin:∀(its:List Value),Vals ys its->ys.length<=sizeLine->∀(h':Heap)(c':Nat),(∀b o',s.heap.get? b=some o'->h'.get? b=some o') ->
   h'.get? s.heap.objs.size=some { cls:=.type "list",dict:=none,data:=.seq its.toArray c',slots:=#[] }->EP X pins σ Q (.ref s.heap.objs.size) { s with heap:=h' }:=λ its r' hz h' c' kp e =>
  ⟨.ref s.heap.objs.size,_,I.laid (t':=s.toks) kp (zao _) (show ObjOk X.prog X.w _ h' _ (.lst ys) from⟨hz,its,c',r',e⟩),rfl,q _ (I.hok.fresh (zao _))⟩
 rcases hq with hq|hq
 ·obtain⟨its,r',pl,hz⟩:=I.list hq
  have hlen:=r'.length
  obtain⟨o,ho,hc,n,hd⟩:=pl.isList
  exact call_list_seq p (.inl rfl) ho hc hd (λ h' c' kp e=>fin its r' hz h' c' kp e) (by simp only[zax]<;>omega)
 ·obtain⟨its,r',pl,hz⟩:=I.tuple hq
  have hlen:=r'.length
  obtain⟨o,ho,hc,n,hd⟩:=pl
  exact call_list_seq p (.inr rfl) ho hc hd (λ h' c' kp e=>fin its r' hz h' c' kp e) (by simp only[zax]<;>omega)
def tyV(K:W.Frag)(T:String)(x:V)(H:Hp):Prop:=match x with
 | .str _=>T="str"
 | .int _=>T="int"
 | .ref p=>(T="list" /\ ∃xs,SqL K H p xs)\/(T="tuple" /\ ∃o,K.lookup p=some o/\o.cls=.type "tuple" /\ o.dict=none) \/
   (T="dict" /\ ((∃kvs,H p=some (.dK kvs))\/∃kvs,H p=some (.dT kvs)))\/(T="set" /\ ∃S n,H p=some (.set S n))
 |_=>False
theorem tyV_is{T:String}{v:Value}(I:Inv X pins σ H s)(r:RelV x v)(ty:tyV X.K T x H) :
  s.TypeIs v T/\∀a,v=.ref a->∃ob,s.heap.get? a=some ob/\ob.dict=none:=by
 cases x with
 |str z =>
  obtain⟨t,rfl⟩:=r
  cases (show T="str" from ty)
  exact⟨typeIs_str s z t,λ _ e=>nomatch e⟩
 |int i =>
  obtain⟨t,rfl⟩:=r
  cases (show T="int" from ty)
  exact⟨typeIs_int s i t,λ _ e=>nomatch e⟩
 |ref p =>
  cases r
  rcases ty with⟨rfl,xs,hq⟩|⟨rfl,o,hk,hc,hd⟩|⟨rfl,hk⟩|⟨rfl,S,n,hk⟩
  ·obtain⟨its,_,pl,_⟩:=I.list hq
   refine⟨pl.isList.typeIs,λ a e=>?_⟩
   cases e
   obtain⟨o,n,e,c,hd,_⟩:=pl
   exact⟨o,e,hd⟩
  ·refine⟨⟨o,I.kIn p o hk,hc⟩,λ a e=>?_⟩
   cases e
   exact⟨o,I.kIn _ o hk,hd⟩
  ·have z:∃o,s.heap.get? p=some o/\o.ExactDict:=by
    rcases hk with⟨kvs,hk⟩|⟨kvs,hk⟩
    ·obtain⟨_,_,_,_,o,_,_,e,ex,_⟩:=I.hok p _ hk
     exact⟨o,e,ex⟩
    ·obtain⟨_,_,_,_,o,_,_,e,ex,_⟩:=I.hok p _ hk
     exact⟨o,e,ex⟩
   obtain⟨o,e,ex⟩:=z
   refine⟨⟨o,e,ex.1⟩,λ a e2=>?_⟩
   cases e2
   exact⟨o,e,ex.2.1⟩
  ·obtain⟨o,_,_,_,e,ex,_⟩:=I.hok p _ hk
   refine⟨⟨o,e,ex.1⟩,λ a e2=>?_⟩
   cases e2
   exact⟨o,e,ex.2.1⟩
 |_=>exact False.elim ty
def tBM(K:W.Frag)(T:String)(r:V->List V->Hp->VK->Prop)(to:TE)(t:TA):TE:=λ σ H Q=>to σ H λ x H1=>tyV K T x H1/\t σ H1 λ xs H2=>r x xs H2 Q
variable {o e:Expr}{es:List Expr}{to:TE}{t:TA}{name:Str}{apos cpos:Pos}{T id:String}{r:V->List V->Hp->VK->Prop}
theorem pe_bm(pa:PlainAttrs T)(slot:Slot T name id)(hty:typeOf (.builtin id)=pure (.type "method_descriptor"))(hm:MtR X id r)(ho:PE X o to)(ha:PA X (e::es) t)
  (hbase:attributeBase o name X.env (eval o X.env)=eval o X.env:=by rfl)
  (hfew:((backTo cpos (starEach (e::es) X.env)).all (λ x=>!x.1)&&(backToKw cpos (keywordEach [] X.env)).all (λ x=>x.1.isSome)
   && decide ((e::es).length+([]:List Keyword).length+(if([]:List Keyword).isEmpty then 0 else 1)<30))=true:=by rfl)
  (hline:(apos.endLine==cpos.line)=true:=by rfl) (hs:starEach (e::es) X.env=(false,eval e X.env)::starEach es X.env:=by rfl) (hplain:(backTo cpos (starEach es X.env)).any (·.1)=false:=by rfl) :
  PE X (.Call (.Attribute o name apos) (e::es) [] cpos) (tBM X.K T r to t):=by
 intro pins s σ H Q I h
 refine wpAny_Call_method_late hbase hfew hline rfl (thn (ho pins s σ H _ I h) λ v s1 z9=>?_)
 obtain⟨x,H1,I1,r1,ty,q1⟩ := z9
 obtain⟨h1,h2⟩:=tyV_is I1 r1 ty
 refine⟨T,id,pa,slot,hty,h1,h2,?_⟩
 have hA:=ha cpos pins s1 σ H1 _ I1 q1
 rw[hs] at hA ⊢
 refine Calls.callWith_builtin (by show(false||(backTo cpos (starEach es X.env)).any (·.1))=false;rw[hplain]<;>rfl) (Calls.evalArgs_plain ?_)
 exact thn hA λ us s2 ⟨vs,H2,I2,r2,q2⟩=>hm pins s2 σ H2 x vs v us Q I2 r1 r2 q2
end
def MtM(X:Cx)(id:String)(r:V->List V->Hp->VK->Prop):Prop :=
 ∀(pins:List (Addr×Obj)) (s:Shared) (σ:St) (H:Hp) (x:V) (xs:List V) (v:Value) (us:List Value) (Q:VK),Inv X pins σ H s->RelV x v->Vals xs us->r x xs H Q ->
  wpAny (model X.prog X.w) X.A (call (.builtin id) (v::us)) (EP X pins σ Q) X.xe s
theorem Vals.one:∀{x:V}{us:List Value},Vals [x] us->∃u,us=[u]/\RelV x u
 |_,_,.cons r .nil=>⟨_,rfl,r⟩
theorem Vals.two:∀{x y:V}{us:List Value},Vals [x,y] us->∃u v,us=[u,v]/\RelV x u/\RelV y v
 |_,_,_,.cons r (.cons q .nil)=>⟨_,_,rfl,r,q⟩
section
variable {l b:Addr}{xs ys zs:List V}
theorem Inv.lset{its':List Value}{f:Array Value->Array Value}{t':Nat}(I:Inv X pins σ H s)(hH:H l=some (.lst xs))
  (e:s.heap.get? l=some { cls:=.type "list",data:=.seq its.toArray n }) (hf:f its.toArray=its'.toArray) (hv:Vals ys its') (hz:ys.length<=sizeLine) :
  Inv X pins σ (upd H l (.lst ys)) { s with heap:=s.heap.update l (Obj.mapSeq f),toks:=t' }:=by
 have q:=PySem.IsL.update e f
 rw[hf] at q
 refine I.write (x:=l) (e:=l) (by rw[hH];exact trivial) (.inl rfl) (λ b' u hb hu=>(zfi s.heap (Obj.mapSeq f) (Ne.symm hb)).trans hu) ⟨_,q⟩ ?_
 exact⟨hz,its',_,hv,q⟩
theorem Inv.lnew{t':Nat}(I:Inv X pins σ H s)(hv:Vals ys its)(hz:ys.length<=sizeLine) :
  Inv X pins σ (upd H s.heap.objs.size (.lst ys)) { s with heap:=s.heap.push { cls:=.type "list",data:=.seq its.toArray },toks:=t' } :=
 I.laid (λ _ _ q=>zae _ q) (zao _) ⟨hz,its,0,hv,zar _ rfl⟩
theorem Inv.fresh(I:Inv X pins σ H s):H s.heap.objs.size=none:=I.hok.fresh (zao _)
theorem Inv.lstM(I:Inv X pins σ H s)(hH:H l=some (.lst xs)):xs.length<=sizeLine/\∃(its:List Value)(n:Nat),Vals xs its/\xs.length=its.length/\s.heap.get? l=some { cls:=.type "list",data:=.seq its.toArray n }:=by
 obtain⟨z,its,n,r,e⟩:=I.hok l _ hH
 exact⟨z,its,n,r,r.length,e⟩
theorem qpk9(h:n<=sizeLine):Builtin.List.listTooLong n=false:=by
 unfold Builtin.List.listTooLong
 exact decide_eq_false ⋯
end
def rAppend:V->List V->Hp->VK->Prop:=λ x vs H Q=>∃l xs y,x=.ref l/\vs=[y]/\H l=some (.lst xs)/\xs.length<sizeLine/\Q .non (upd H l (.lst (xs++[y])))
theorem qhy9:MtM X "list.append" rAppend:=by
 intro pins s σ H x vs v us Q I rx rv h
 obtain⟨l,xs,y,rfl,rfl,hH,hz,q⟩:=h
 cases rx
 obtain⟨u,rfl,ru⟩:=rv.one
 obtain⟨z,its,n,r,hl,e⟩:=I.lstM hH
 refine call_meets F.slot_list_append ⟨_,e,rfl⟩ F.entry_list_append (F.args_list_append_2 _ _) (PySem.list_append l its.toArray n u (by rw[zax];omega)) ⟨e,?_⟩
 refine⟨.non,_,I.lset (its':=its++[u]) hH e (by simp) (r.append (.cons ru .nil)) ?_,U,q⟩
 rw[zam,zbm]
 omega
def rExtend:V->List V->Hp->VK->Prop:=λ x vs H Q=>∃l b xs zs,x=.ref l/\vs=[.ref b]/\H l=some (.lst xs)/\H b=some (.lst zs)/\xs.length+zs.length<=sizeLine/\Q .non (upd H l (.lst (xs++zs)))
theorem mt_extend:MtM X "list.extend" rExtend:=by
 intro pins s σ H x vs v us Q I rx rv h
 obtain⟨l,b,xs,zs,rfl,rfl,hH,hB,hz,q⟩:=h
 cases rx
 obtain⟨u,rfl,ru⟩:=rv.one
 cases ru
 obtain⟨z,its,n,r,hl,e⟩:=I.lstM hH
 obtain⟨z2,its2,n2,r2,hl2,e2⟩:=I.lstM hB
 have hsz:its.toArray.size+its2.toArray.size<=sizeLine:=by rw[zax,zax];omega
 have hlong:¬(!its.toArray.isEmpty&&Builtin.List.listTooLong (its.toArray.size+its2.toArray.size))=true:=by
  rw[qpk9 hsz,zha]
  exact zaz
 refine call_meets F.slot_list_extend ⟨_,e,rfl⟩ F.entry_list_extend (F.args_list_extend_2 _ _)
  (AutoSeq1.list_extend_list_list_0 l its.toArray n b its2.toArray n2 hlong (by rw[zax];omega) ⋯) ⟨e,e2,?_⟩
 refine⟨.non,_,I.lset (its':=its++its2) hH e (by simp) (r.append r2) ?_,U,q⟩
 rw[zam]
 omega
inductive rCat(x:V)(y:V)(H:Hp)(Q:VK):Prop
 |mk (l:_) (b:_) (xs:_) (zs:_):x=.ref l->y=.ref b->H l=some (.lst xs)->H b=some (.lst zs)->xs.length+zs.length<=sizeLine->(∀p,H p=none->Q (.ref p) (upd H p (.lst (xs++zs))))->rCat x y H Q
theorem op_cat:OpR X (binaryOp .Add) rCat:=by
 intro pins s σ H x y v u Q I rx ry h
 obtain⟨l,b,xs,zs,rfl,rfl,hH,hB,hz,q⟩:=h
 cases rx
 cases ry
 obtain⟨z,its,n,r,hl,e⟩:=I.lstM hH
 obtain⟨z2,its2,n2,r2,hl2,e2⟩:=I.lstM hB
 refine PySem.P.add_list e e2 ?_ (by rw[zax,zax];omega)
 have ea:its.toArray++its2.toArray=(its++its2).toArray:=by simp
 rw[ea]
 exact⟨.ref _,_,I.lnew (t':=s.toks) (r.append r2) (by rw[zam];omega),U,q _ I.fresh⟩
section
variable {prog:Program}{w:World}{A:Around}{E:Value->Shared->Prop}
end
end L2
namespace Att
open PySem PySem.W PySem.Calls PyProof.Rows
theorem qjg9{P:Params}{h:Heap}:∀(ns:List Int)(vs:List Value),WellAll P h vs (ns.map WData.int)->IntsAre vs ns:=by
 intro ns
 induction ns with
 |nil =>
  intro vs w
  rw[zen] at w
  cases w
  exact .nil
 |cons n ns ih =>
  intro vs w
  rw[zcg] at w
  cases w with
  |cons a b =>
   cases a
   exact .cons _ _ (ih _ b)
theorem script_of{l:OpenLaw}{n:Nat}(hn:l.most=some n){P:Params}{h:Heap}{args:List WData}{vals:List Value}
  (hpre:l.row.toRowW.claim.pre args=true) (hwl:WellAll P h vals args) :
  ∃a vs ns,vals=[Value.ref a]/\args=[WData.list (ns.map WData.int)]/\h.get? a=some { cls:=.type "list",data:=.seq vs.toArray }/\IntsAre vs ns/\ns.length<=n:=by
 have hsh:WShape.hasAll [] args [.list .int]=true:=(pre_splitW hpre).1
 have hc:l.pre.holds [] { args:=args }=true:=(pre_splitW hpre).2
 obtain⟨d,r,rfl,h1,h2⟩:=hasAllW_cons hsh
 obtain rfl:=hasAllW_nil h2
 obtain⟨xs,rfl,h3⟩:=hasW_list h1
 obtain⟨ns,rfl⟩:=items_int h3
 have hlen:ns.length<=n:=by
  unfold OpenLaw.pre at hc
  have h4:(WTm.not (.lt (.lit (.int (n:Int))) (.len (.arg 0)))).holds [] { args:=[.list (ns.map .int)] }=true:=by
   have h4:=(holds_andW hc).1
   rw[hn] at h4
   exact h4
  have h5:=condW_of h4 (w_not (w_lt w_lit (w_len_list (w_arg rfl))))
  rw[zad] at h5
  refine Nat.le_of_not_lt λ q=>?_
  have q':(n:Int)<((ns.length:Nat):Int):=⋯
  first
   | (rw[dT9 q'] at h5;exact absurd h5 (by decide))
   | (simp at h5;omega)
 cases hwl with
 |cons w1 w2 =>
  cases w2
  cases w1 with
  |list ho hall=>exact⟨_,_,ns,rfl,rfl,ho,qjg9 ns _ hall,hlen⟩
theorem post_true(l:OpenLaw)(args:List WData):l.row.toRowW.claim.post args (.bool true) args=true :=
 postW_of (r:=l.row.toRowW) (X:=(true==true))
  (show WShape.has [] (.bool true) .bool=true by first|rfl|decide|simp[WShape.has,WShape.arms,WShape.armsAll])
  (show(WTm.eq .res (.lit (.bool true))).value [] { args:=args,res:=some (.bool true),after:=args }=some (.bool (true==true)) from w_eq_bool (w_res rfl) w_lit) rfl
theorem attach_call{l:OpenLaw}{n:Nat}{q:Program}{loose:List Str}{XP:(Str->Option Value)->Heap->Prop}{YP:World->Heap->Prop}{d:DefRec}
  (hn:l.most=some n) (hdf:d.params.defaults=[])
  (call:∀(w:World)(s₀ s₁:Shared)(mg mb:Str->Option Value)(fa:Addr)(o:Obj)(pm cd doc:Value)(a:Addr)(vs:List Value)(ns:List Int),
   Ground q loose [] XP w s₀ mg mb s₁.heap->YP w s₁.heap ->
   s₁.heap.get? fa=some o->o.data=.func (docDef d.name d.params d.body d.scope pm cd doc)->s₁.heap.CodeRec cd d.name->mg d.name=some (.ref fa) ->
   s₁.heap.get? a=some { cls:=.type "list",data:=.seq vs.toArray }->IntsAre vs ns->ns.length<=n->s₁.gens=#[] ->
   codeAny (model l.prog w) callerA (.call (.ref fa) ⟨[.ref a],[]⟩) (λ r s'=>r=.ok (.ret (.bool true))/\OldK s₁.heap s'.heap/\s'.os=s₁.os/\AllBare s'.gens) s₁) :
  WalkO q loose XP YP l.row.toRowW d [] (λ f vs=>PySem.call f vs):=by
 intro w s₀ s₁ mg mb G Y fa o pm cd doc dV kV ho hd hcd hD hmg hg args vals as hpre hlay hrd hwl hlo
 obtain rfl:dV=.none:=Dflts.none hD hdf
 obtain rfl:kV=.none:=Dflts.noKw hD
 obtain⟨a,vs,ns,rfl,rfl,hobj,hints,hlen⟩:=script_of hn hpre hwl
 refine enter_call (codeAny_mono (call w s₀ s₁ mg mb fa o pm cd doc a vs ns G Y ho (fd_plain hd) hcd hmg hobj hints hlen hg) λ r s' hq=>?_)
 obtain⟨rfl,h2,h3,h4⟩:=hq
 exact⟨.inl ⟨.bool true,.bool true,[],rfl,λ _=>rfl,.bool true,post_true l _,λ _=>⟨List.Pairwise.nil,λ _ hm=>(nomatch hm)⟩⟩,h2,h3,h4⟩
section
variable {prog:Program}{w:World}{A:Around}{E:Value->Shared->Prop}{s:Shared}{K:Frag}
end
end Att
namespace L2
open PySem PySem.Spec PyProof.Rows
variable {H:Hp}{A B:Prop}{st:Stmt}{qual x:Str}
theorem qnx9:∀{vs:List Value}{ns:List Int},IntsAre vs ns->Vals (ns.map V.int) vs
 |_,_,.nil=>.nil
 |_,_,.cons n t h=>.cons ⟨t,rfl⟩ (qnx9 h)
abbrev CX0:CXT:=λ _ _ _ _ _ _=>False
abbrev E0:XK:=λ _ _ _=>False
theorem pass0{X:Cx}:qkp9 CX0 X E0:=λ _ _ _ _ _ _ _ h=>h.elim
structure Fun(K:W.Frag)(x qual:Str)(st:Stmt)(f:Addr)(fd:FuncData):Prop where
 ex:∃(oc:Value)(od:Option Addr)(kV doc pm:Value)(an:Option Addr)(cdv ct:Value) (osl:Array (Option Value)),
  fd=W.fnOf x qual (qah9 st) (qag9 st) (qaa9 st) .none kV doc pm an cdv ct/\K.lookup f=some ⟨oc,od,.func fd,osl⟩/\W.codeIn K cdv qual=true
 kp:W.keepIn K (.ref f)=true
section
variable {P:Program}{w:World}{K:W.Frag}{mg:Str->Option Value}{base:Heap}
theorem Fun.ok{f:Addr}{fd:FuncData}{N ps:List Str}{k:Nat}{sp:Sp}(F:Fun K x qual st f fd)(S:FnScope N ps (qaa9 st))(len:∀vs H Q E,sp vs H Q E->vs.length=ps.length)
  (hbody:∀(cdv:Value)(A:Around)(outer:List Env)(s:Shared)(H:Hp)(vs:List V)(Q:VK)(E:XK),Room k (A.deeper (envOfC qual (qaa9 st) s.heap.objs.size f cdv))->sp vs H Q E ->
   ∃t,PSs (cxOf CX0 P w K mg base N qual (qaa9 st) f cdv A outer s H E).nox (qag9 st) t/\t { nx:=λ _ H'=>Q .non H',rt:=Q } (start N vs) H):FnOk P w K mg base CX0 (k+1) f fd ps sp:=by
 obtain⟨oc,od,kV,doc,pm,an,cdv,ct,osl,rfl,lk,hcd⟩:=F.ex
 refine fn_of lk hcd S len λ A outer s H vs Q E hr hsp=>?_
 obtain⟨t,h,q⟩:=hbody cdv A outer s H vs Q E hr hsp
 exact⟨t,h.nox,q⟩
theorem Fun.binds{f:Addr}{fd:FuncData}{ps:List Str}(F:Fun K x qual st f fd)
  (h:∀(kV doc pm:Value)(an:Option Addr)(cdv ct:Value)(us:List Value),us.length=ps.length->bindArgs (W.fnOf x qual (qah9 st) (qag9 st) (qaa9 st) .none kV doc pm an cdv ct) ⟨us,[]⟩=pure (ps.zip us)):Binds K fd ps []:=by
 obtain⟨oc,od,kV,doc,pm,an,cdv,ct,osl,rfl,lk,hcd⟩:=F.ex
 exact .all (h kV doc pm an cdv ct)
theorem qgl9{f:Addr}{oc:Value}{od an:Option Addr}{osl:Array (Option Value)}{kV doc pm cdv ct:Value}(l:K.lookup f=some ⟨oc,od,.func (W.fnOf x qual (qah9 st) (qag9 st) (qaa9 st) .none kV doc pm an cdv ct),osl⟩)
  (c:W.codeIn K cdv qual=true) (k:W.keepIn K (.ref f)=true):Fun K x qual st f (W.fnOf x qual (qah9 st) (qag9 st) (qaa9 st) .none kV doc pm an cdv ct):=⟨⟨oc,od,kV,doc,pm,an,cdv,ct,osl,rfl,l,c⟩,k⟩
end
theorem qie9{n:Nat}(h:n<=1000):n<sizeLine:=Nat.lt_of_le_of_lt h (by decide)
section
variable {X:Cx}
theorem pv(i:Nat){pos:Pos}(hN:X.N[i]?=some x:=by rfl)(hv:Vis X.env.scope x:=by first|exact zaf rfl|exact zcr (zaf rfl)|exact zcr (zcr rfl))(hd:(x==("__debug__":Str))=false:=by decide)
  (hcd:(x==("__classdict__":Str))=false:=by decide):PE X (.Name x pos) (tVar i):=pe_var hN hv hd hcd
end
theorem iteF(h:B):if false=true then A else B:=by
 rw[if_neg zaz]
 exact h
theorem iteT(h:A):if true=true then A else B:=by
 rw[if_pos rfl]
 exact h
theorem ite2{c:Prop} [Decidable c](h1:c->A)(h2:¬c->B):if c then A else B:=by
 by_cases h:c
 ·rw[if_pos h]
  exact h1 h
 ·rw[if_neg h]
  exact h2 h
def Same(H H':Hp):Prop:=∀b o,H b=some o->H' b=some o
theorem Same.refl(H:Hp):Same H H:=λ _ _ h=>h
theorem Same.trans{H1 H2:Hp}(a:Same H H1)(b:Same H1 H2):Same H H2:=λ c o h=>b c o (a c o h)
theorem Same.free{H':Hp}(e:Same H H'){l:Addr}(h:H' l=zhp):H l=zhp:=by
 cases q:H l with
 |none=>rfl
 |some o =>
  rw[e l o q] at h
  cases h
theorem Same.seq{K:W.Frag}{H':Hp}{a:Addr}{xs:List V}(e:Same H H')(h:SqL K H a xs):SqL K H' a xs:=by
 rcases h with(h|⟨o,h⟩)|h
 ·exact .inl (.inl (e _ _ h))
 ·exact .inl (.inr ⟨o,e _ _ h⟩)
 ·exact .inr h
end L2
set_option maxHeartbeats 4000000
namespace Ma
variable {d t x y y':Int}
theorem split(d x:Int)(hd:0<d):∃q,x=d*q+x%d/\0<=x%d/\x%d<d :=
 ⟨x/d,by have:=zfj x d;omega,zbr x ⋯,zbk x hd⟩
theorem qax9{k m:Int}(hd:0<d)(h:k<m):d*k+d<=d*m:=by
 have:=zbs (show k+1<=m by omega) (zec hd)
 rw[zeo,zco] at this
 exact this
def nextO(d a b t:Int):Int:=if b<t%d then t-t%d+d+a else t-t%d+(if a>t%d then a else t%d)
def lastO(d a b t:Int):Int:=if t%d<a then t-t%d-d+b else t-t%d+(if b<t%d then b else t%d)
def Op(d a b x:Int):Prop:=∃k,d*k+a<=x/\x<=d*k+b
section
variable {a b:Int}
theorem qbo9(hd:0<d)(h0:0<=a)(h1:a<=b)(h2:b<d) :
  ∃k,d*k+a<=nextO d a b t/\nextO d a b t<=d*k+b/\t<=nextO d a b t/\nextO d a b t<t+d /\
   ∀k' x,d*k'+a<=x->x<=d*k'+b->t<=x->nextO d a b t<=x:=by
 obtain⟨q,hq,r0,r1⟩:=split d t hd
 unfold nextO
 generalize t%d=r at *
 split
 ·refine⟨q+1,?_⟩
  have e:d*(q+1)=d*q+d:=by rw[zeo,zco]
  refine⟨⋯,⋯,⋯,⋯,λ k' x x1 x2 x3=>?_⟩
  rcases zdf q k' with hk|hk
  ·have:=qax9 hd hk
   omega
  ·have:=zbs hk (zec hd)
   omega
 ·refine⟨q,?_⟩
  refine⟨by split<;>omega,by split<;>omega,by split<;>omega,by split<;>omega,λ k' x x1 x2 x3=>?_⟩
  rcases(by omega:q<k'\/q=k'\/k'<q) with hk|hk|hk
  ·have:=qax9 hd hk
   split<;>omega
  ·subst hk
   split<;>omega
  ·have:=qax9 hd hk
   omega
theorem qgu9(hd:0<d)(h0:0<=a)(h1:a<=b)(h2:b<d) :
  ∃k,d*k+a<=lastO d a b t/\lastO d a b t<=d*k+b/\lastO d a b t<=t/\t<lastO d a b t+d /\
   ∀k' x,d*k'+a<=x->x<=d*k'+b->x<=t->x<=lastO d a b t:=by
 obtain⟨q,hq,r0,r1⟩:=split d t hd
 unfold lastO
 generalize t%d=r at *
 split
 ·refine⟨q-1,?_⟩
  have e:d*(q-1)=d*q-d:=by rw[zdt,zco]
  refine⟨⋯,⋯,⋯,⋯,λ k' x x1 x2 x3=>?_⟩
  rcases zdf k' q with hk|hk
  ·have:=qax9 hd hk
   omega
  ·have:=zbs hk (zec hd)
   omega
 ·refine⟨q,?_⟩
  refine⟨by split<;>omega,by split<;>omega,by split<;>omega,by split<;>omega,λ k' x x1 x2 x3=>?_⟩
  rcases(by omega:q<k'\/q=k'\/k'<q) with hk|hk|hk
  ·have:=qax9 hd hk
   omega
  ·subst hk
   split<;>omega
  ·have:=qax9 hd hk
   split<;>omega
end
structure Clk(d:Int)(n:Nat)(A B C:Nat->Int):Prop where
 d0:0<d
 a0:∀i,i<n->0<=A i
 ab:∀i,i<n->A i<=B i
 bd:∀i,i<n->B i<d
 c0:∀i,i<n->0<=C i
 lt:∀i j,i<j->j<n->B i<A j
 yl:∀i j,i<j->j<n->B i+C i<A j+C j
 wr:∀i j,i<n->j<n->B i+C i<d+(A j+C j)
def Dep(d:Int)(n:Nat)(A B C:Nat->Int)(x y:Int):Prop:=∃i k,i<n/\d*k+A i<=x/\x<=d*k+B i/\y=x+C i
section
variable {n:Nat}{A B C:Nat->Int}
theorem qmu9(K:Clk d n A B C){x':Int}(h:Dep d n A B C x y)(h':Dep d n A B C x' y')(l:x<x'):y<y':=by
 obtain⟨i,k,hi,x1,x2,rfl⟩:=h
 obtain⟨j,m,hj,z1,z2,rfl⟩:=h'
 have d0:=K.d0
 have wr:=K.wr i j hi hj
 have a1:=K.a0 i hi
 have a2:=K.a0 j hj
 have b1:=K.bd i hi
 have b2:=K.bd j hj
 rcases(by omega:k<m\/k=m\/m<k) with hk|hk|hk
 ·have:=qax9 d0 hk
  omega
 ·subst hk
  rcases(by omega:i<j\/i=j\/j<i) with e|e|e
  ·have:=K.yl i j e hj
   omega
  ·subst e
   omega
  ·have:=K.lt j i e hi
   omega
 ·have:=qax9 d0 hk
  omega
theorem qnr9(K:Clk d n A B C)(h:Dep d n A B C x y)(h':Dep d n A B C x y'):y=y':=by
 obtain⟨i,k,hi,x1,x2,rfl⟩:=h
 obtain⟨j,m,hj,z1,z2,rfl⟩:=h'
 have d0:=K.d0
 have a1:=K.a0 i hi
 have a2:=K.a0 j hj
 have b1:=K.bd i hi
 have b2:=K.bd j hj
 rcases(by omega:k<m\/k=m\/m<k) with hk|hk|hk
 ·have:=qax9 d0 hk
  omega
 ·subst hk
  rcases(by omega:i<j\/i=j\/j<i) with e|e|e
  ·have:=K.lt i j e hj
   omega
  ·rw[e]
  ·have:=K.lt j i e hi
   omega
 ·have:=qax9 d0 hk
  omega
structure First(d:Int)(n:Nat)(A B C:Nat->Int)(t x y:Int):Prop where
 dep:Dep d n A B C x y
 le:t<=x
 least:∀x' y',Dep d n A B C x' y'->t<=x'->x<=x'
structure Last(d:Int)(n:Nat)(A B C:Nat->Int)(s x:Int):Prop where
 dep:∃y,Dep d n A B C x y/\y<=s
 most:∀x' y',Dep d n A B C x' y'->y'<=s->x'<=x
theorem first_of(K:Clk d n A B C)(hn:0<n){m:Nat}(hm:m<=n)(h1:∀i,i<m->¬t%d<=B i)(h2:m<n->t%d<=B m){i:Nat}(hi:i=m%n) :
  First d n A B C t (nextO d (A i) (B i) t) (nextO d (A i) (B i) t+C i):=by
 have hin:i<n:=by rw[hi];exact zhb _ hn
 obtain⟨k,k1,k2,k3,k4,k5⟩:=qbo9 (t:=t) K.d0 (K.a0 i hin) (K.ab i hin) (K.bd i hin)
 refine⟨⟨i,k,hin,k1,k2,U⟩,k3,?_⟩
 intro x' y' z9 hx;obtain⟨j,k',hj,x1,x2,rfl⟩ := z9
 obtain⟨q,hq,r0,r1⟩:=split d t K.d0
 have d0:=K.d0
 have aj:=K.a0 j hj
 have bj:=K.bd j hj
 have abj:=K.ab j hj
 have ai:=K.a0 i hin
 have bi:=K.bd i hin
 have abi:=K.ab i hin
 by_cases hmn:m<n
 ·have ei:i=m:=by rw[hi,Nat.mod_eq_of_lt hmn]
  subst ei
  have hb:=h2 hmn
  have en:nextO d (A i) (B i) t=t-t%d+(if A i>t%d then A i else t%d):=by
   unfold nextO
   rw[if_neg ⋯]
  rw[en]
  rcases(by omega:j=i\/j<i\/i<j) with e|e|e
  ·subst e
   have:=k5 k' x' x1 x2 hx
   rw[en] at this
   exact this
  ·have hjb:=h1 j e
   rcases(by omega:k'<=q\/q<k') with hk|hk
   ·have:=zbs hk (zec d0)
    omega
   ·have:=qax9 d0 hk
    split<;>omega
  ·have:=K.lt i j e hj
   rcases(by omega:k'<q\/k'=q\/q<k') with hk|hk|hk
   ·have:=qax9 d0 hk
    omega
   ·subst hk
    split<;>omega
   ·have:=qax9 d0 hk
    split<;>omega
 ·have em:m=n:=⋯
  have ei:i=0:=by rw[hi,em,Nat.mod_self]
  subst ei
  have hb:=h1 0 ⋯
  have en:nextO d (A 0) (B 0) t=t-t%d+d+A 0:=by
   unfold nextO
   rw[if_pos ⋯]
  rw[en]
  have hjb:=h1 j ⋯
  have a0j:A 0<=A j:=by
   rcases zbq j with e|e
   ·rw[e]
    exact zau _
   ·have:=K.lt 0 j e hj
    omega
  rcases(by omega:k'<=q\/q<k') with hk|hk
  ·have:=zbs hk (zec d0)
   omega
  ·have:=qax9 d0 hk
   omega
theorem First.uniq(K:Clk d n A B C){x':Int}(h:First d n A B C t x y)(h':First d n A B C t x' y'):x=x'/\y=y':=by
 have a:=h.least _ _ h'.dep h'.le
 have b:=h'.least _ _ h.dep h.le
 have e:x=x':=⋯
 subst e
 exact⟨U,qnr9 K h.dep h'.dep⟩
theorem last_of(K:Clk d n A B C)(hn:0<n){s:Int}{m:Nat}(hm:m<=n)
  (h1:∀i,i<m->¬(A 0+C 0+(s-(A 0+C 0))%d<A i+C i)) (h2:m<n->A 0+C 0+(s-(A 0+C 0))%d<A m+C m) :
  0<m/\Last d n A B C s (lastO d (A (m-1)) (B (m-1)) (s-C (m-1))):=by
 obtain⟨q,hq,r0,r1⟩:=split d (s-(A 0+C 0)) K.d0
 have d0:=K.d0
 generalize hh:(s-(A 0+C 0))%d=r at *
 have m0:0<m:=by
  rcases zbq m with e|e
  ·subst e
   have:=h2 hn
   omega
  ·exact e
 refine⟨m0,?_⟩
 have hin:m-1<n:=⋯
 generalize ei:m-1=i at *
 obtain⟨k,k1,k2,k3,k4,k5⟩:=qgu9 (t:=s-C i) d0 (K.a0 i hin) (K.ab i hin) (K.bd i hin)
 have ge:A i+C i<=A 0+C 0+r:=Int.not_lt.mp (h1 i ⋯)
 have abi:=K.ab i hin
 have ai:=K.a0 i hin
 have lo:d*q+A i<=lastO d (A i) (B i) (s-C i):=k5 q (d*q+A i) (zau _) ⋯ ⋯
 refine⟨⟨_,⟨i,k,hin,k1,k2,U⟩,⋯⟩,?_⟩
 intro x' y' z9 hy;obtain⟨j,k',hj,x1,x2,rfl⟩ := z9
 have aj:=K.a0 j hj
 have bj:=K.bd j hj
 have abj:=K.ab j hj
 have lo0:A 0+C 0<=A j+C j:=by
  rcases zbq j with e|e
  ·rw[e]
   exact zau _
  ·have:=K.yl 0 j e hj
   have:=K.ab 0 hn
   omega
 rcases(by omega:k'<q\/k'=q\/q<k') with hk|hk|hk
 ·have:=qax9 d0 hk
  omega
 ·subst hk
  rcases(by omega:j=i\/j<i\/i<j) with e|e|e
  ·subst e
   exact k5 k' x' x1 x2 ⋯
  ·have:=K.lt j i e hin
   omega
  ·exfalso
   have hmn:m<n:=⋯
   have h3:=h2 hmn
   rcases(by omega:j=m\/m<j) with e'|e'
   ·rw[e'] at x1 x2 hy
    omega
   ·have:=K.yl m j e' hj
    have:=K.ab m hmn
    omega
 ·have:=qax9 d0 hk
  omega
end
end Ma
namespace Ma
abbrev T3:=Int×Int×Int
structure Rw(R:List T3)(at_ ride:Int):Prop where
 at0:0<=at_
 r0:0<=ride
 atb:at_<=3000000000000*(R.length:Int)
 rb:ride<=2000000000000*(R.length:Int)
 row:∀(i:Nat)(a b c:Int),R[i]?=some (a,b,c)->0<=a/\a<=b/\b<at_/\0<=c/\c<=2000000000000*(R.length:Int)
 adj:∀(i:Nat)(a b c a' b' c':Int),R[i]?=some (a,b,c)->R[i+1]?=some (a',b',c')->b<a'/\b+c<a'+c'
 last:∀(a b c:Int),R[R.length-1]?=some (a,b,c)->b=at_-1/\c=ride
 tch:∀(i:Nat)(a b c a' b' c':Int),R[i]?=some (a,b,c)->R[i+1]?=some (a',b',c')->b+1=a'->c≠c'
def rA(R:List T3)(i:Nat):Int:=(R.getD i (0,0,0)).1
def rB(R:List T3)(i:Nat):Int:=(R.getD i (0,0,0)).2.1
def rC(R:List T3)(i:Nat):Int:=(R.getD i (0,0,0)).2.2
theorem r_at{R:List T3}{i:Nat}(h:i<R.length):R[i]?=some (rA R i,rB R i,rC R i):=by
 unfold rA rB rC
 rw[zbn,zaa h]
 rfl
theorem r_of{R:List T3}{i:Nat}{a b c:Int}(h:R[i]?=some (a,b,c)):rA R i=a/\rB R i=b/\rC R i=c:=by
 unfold rA rB rC
 rw[zbn,h]
 exact⟨U,U,U⟩
section
variable {d:Int}{n:Nat}{A B C:Nat->Int}
theorem first_min(K:Clk d n A B C){t:Int}{j:Nat}(hj:j<n)(hm:∀i,i<n->nextO d (A j) (B j) t<=nextO d (A i) (B i) t):First d n A B C t (nextO d (A j) (B j) t) (nextO d (A j) (B j) t+C j):=by
 obtain⟨k,k1,k2,k3,k4,k5⟩:=qbo9 (t:=t) K.d0 (K.a0 j hj) (K.ab j hj) (K.bd j hj)
 refine⟨⟨j,k,hj,k1,k2,U⟩,k3,?_⟩
 intro x' y' z9 hx;obtain⟨i,k',hi,x1,x2,rfl⟩ := z9
 obtain⟨k',a1,a2,a3,a4,a5⟩:=qbo9 (t:=t) K.d0 (K.a0 i hi) (K.ab i hi) (K.bd i hi)
 have:=a5 _ x' x1 x2 hx
 have:=hm i hi
 omega
theorem leaveT(K:Clk d n A B C){s x t xt yt:Int}(h:Last d n A B C s x)(ft:First d n A B C t xt yt):yt<=s↔t<=x:=by
 obtain⟨y,h1,h2⟩:=h.dep
 constructor
 ·intro z
  have:=h.most _ _ ft.dep z
  have:=ft.le
  omega
 ·intro z
  have q:=ft.least _ _ h1 z
  rcases(by omega:xt<x\/xt=x) with e|e
  ·have:=qmu9 K ft.dep h1 e
   omega
  ·subst e
   have:=qnr9 K ft.dep h1
   omega
end
end Ma
namespace L2
open PySem PySem.Spec PyProof.Rows
variable {a b:Addr}{op op':CmpOp}{X:Cx}{c e iter tg:Expr}{fd:FuncData}{base h':Heap}{H:Hp}{pins:List (Addr×Obj)}{caps:List (Option Nat)}{es:List Expr}{N ps:List Str}{i j k n:Nat}{o:Obj}{p pos pos':Pos}{P:Program}{r r':R2}{scope:Scope}{s:Shared}{sp:Sp}{σ:St}{st:Stmt}{x:Str}{mg:Str->Option Value}{t:TA}{te:TE}{g:TG}{wi:TI}{tt:TT}{Q:VK}{K:W.Frag}{w:World}
theorem bt_max:bootBuiltins "max"=some (.builtin "max"):=by decide +kernel
theorem bt_min:bootBuiltins "min"=some (.builtin "min"):=by decide +kernel
theorem qce9:bootBuiltins "len"=some (.builtin "len"):=by decide +kernel
theorem qmr9:bootBuiltins "all"=some (.builtin "all"):=by decide +kernel
theorem qbc9:bootBuiltins "isinstance"=some (.builtin "isinstance"):=by decide +kernel
theorem bt_int:bootBuiltins "int"=some (.type "int"):=by decide +kernel
theorem bt_bool:bootBuiltins "bool"=some (.type "bool"):=by decide +kernel
theorem qqp9:bootBuiltins "tuple"=some (.type "tuple"):=by decide +kernel
theorem qkv9:bootBuiltins "list"=some (.type "list"):=by decide +kernel
def qbj9:Expr->Bool
 | .Starred ..=>false
 |_=>true
theorem se_of{env:Env}(h:qbj9 e=true):starEach (e::es) env=(false,eval e env)::starEach es env:=by
 cases e<;>first|rfl|cases h
theorem qmp9{pos:Pos}{env:Env}:∀{es:List Expr},es.all qbj9=true->(backTo pos (starEach es env)).any (·.1)=false
 | [],_=>rfl
 |e::es,h=>by
  rw[zgf,zbu] at h
  rw[se_of h.1]
  show(false||(backTo pos (starEach es env)).any (·.1))=false
  rw[qmp9 h.2]
  rfl
theorem pa_c(ha:PE X e te)(hr:PA X es t)(h:qbj9 e=true:=by rfl):PA X (e::es) (tCons te t):=pa_cons ha hr (se_of h)
section
variable {id T:String}{r:List V->Hp->VK->Prop}
theorem pe_cb(hc:CallR X (.builtin id) r)(hg:Gl X x)(hm:X.mg x=none)(hv:bootBuiltins x=some (.builtin id))(ha:PA X (e::es) t)(hn:x≠"__name__" := by decide)(hdb:(x==("__debug__":Str))=false:=by decide)
  (he:qbj9 e=true:=by rfl) (hpl:es.all qbj9=true:=by rfl):PE X (.Call (.Name x p) (e::es) [] pos) (tCB r t):=pe_callB hc hg hm hv ha hn hdb (se_of he) (qmp9 hpl)
theorem pe_ct(hc:CallR X (.type T) r)(hg:Gl X x)(hm:X.mg x=none)(hv:bootBuiltins x=some (.type T))(ha:PA X (e::es) t)(hn:x≠"__name__" := by decide)(hdb:(x==("__debug__":Str))=false:=by decide)
  (he:qbj9 e=true:=by rfl) (hpl:es.all qbj9=true:=by rfl):PE X (.Call (.Name x p) (e::es) [] pos) (tCB r t):=pe_callTy hc hg hm hv ha hn hdb (se_of he) (qmp9 hpl)
end
structure Callee(P:Program)(w:World)(K:W.Frag)(mg:Str->Option Value)(base:Heap)(k:Nat)(x:Str)(ps:List Str)(sp:Sp):Prop where
 ex:∃(f:Addr)(fd:FuncData),FnOk P w K mg base CX0 k f fd ps sp/\Binds K fd ps []/\W.keepIn K (.ref f)=true/\mg x=some (.ref f)
theorem Callee.up(C:Callee P w K mg base j x ps sp)(h:j<=k):Callee P w K mg base k x ps sp:=by
 obtain⟨f,fd,G,b,kp,m⟩:=C.ex
 exact⟨f,fd,G.mono h,b,kp,m⟩
theorem Callee.mk'{f:Addr}(G:FnOk P w K mg base CX0 k f fd ps sp)(b:Binds K fd ps [])(kp:W.keepIn K (.ref f)=true)(m:mg x=some (.ref f)):Callee P w K mg base k x ps sp:=⟨f,fd,G,b,kp,m⟩
theorem pe_fn(C:Callee X.prog X.w X.K X.mg X.base k x ps sp)(hr:Room k X.A)(hg:Gl X x)(ha:PA X (e::es) t)(hdb:(x==("__debug__":Str))=false:=by decide)
  (he:qbj9 e=true:=by rfl) (hpl:es.all qbj9=true:=by rfl) :
  PE X (.Call (.Name x p) (e::es) [] pos) (tCall sp [] E0 t):=by
 obtain⟨f,fd,G,b,kp,m⟩:=C.ex
 exact pe_call G hr hg m kp b .nil pass0 ha hdb (se_of he) (qmp9 hpl)
def CDivB(_ j:Int):Prop:=0<j/\j<1606938044258990275541962092341162602522202993782792835301376
theorem op_fdivB:OpR X (binaryOp .FloorDiv) (rI CDivB λ i j=>.int (i/j)):=opI λ i j _ _ _ _ _ hc q=>by
 have h1:(0:Int)<j:=hc.1
 have h2:=hc.2
 refine floordiv_int ⋯ (by rw[Int.fdiv_eq_ediv_of_nonneg i ⋯];exact q) (.inl (PyProof.noPylong_of_log2 ?_))
 have h0:j.natAbs≠0:=⋯
 have h3:j.natAbs<2 ^ 200:=by
  have e:(2:Nat) ^ 200=1606938044258990275541962092341162602522202993782792835301376:=by decide +kernel
  rw[e]
  omega
 have:=(zgr h0).mpr h3
 omega
theorem call_isi:CallR X (.builtin "isinstance") (λ xs H Q=>∃x T t b,xs=[x,.ty T]/\TyOf X.K H x t/\W.kitOne X.K t (.type T)=some b/\Q (.bl b) H):=by
 intro pins s σ H xs us Q I r h
 obtain⟨x,T,t,b,rfl,ty,hk,q⟩:=h
 obtain⟨u,v,rfl,r1,r2⟩:=Vals.two r
 cases (show v=Value.type T from r2)
 exact isinst_ok I r1 ty hk λ tk=>⟨.bl b,H,I.tok tk,rfl,q⟩
def blk(X:Cx)(N':List Str)(scope:Scope)(cl:List (Str×Addr))(C:Addr)(s0:Shared)(H0:Hp)(fp:List Addr):Cx :=
 { X with N:=N',s₀:=s0,H₀:=H0,env:=compEnvC scope cl C X.env,outer:=X.stack,ex:=fp,fn:=λ _=>false,pn:=[],xe:=λ _ _=>False }
def seen(caps:List (Option Nat))(σ:St):St:=caps.map λ o=>o.bind λ j=>(σ[j]?).join
structure BlkOk(X:Cx)(N':List Str)(scope:Scope)(cl:List (Str×Addr))(caps:List (Option Nat)):Prop where
 clos:closureFor scope X.env=pure cl
 nocell:∀y∈scope.names,y.2 ≠ .cell
 kind:scope.kind=.function
 names:∀y∈scope.names,y.2=.local->scope.names.lookup y.1=some .local
 sub:∀x c,cl.lookup x=some c->X.env.cells.lookup x=some c
 has:∀x,((relabel scope X.env).names.lookup x=some .cell\/(relabel scope X.env).names.lookup x=some .free)->∃c,cl.lookup x=some c
 len:caps.length=N'.length
 cap:∀(i j:Nat)(x:Str),caps[i]?=some (some j)->N'[i]?=some x->X.N[j]?=some x/\(X.env.kindOf x=some .cell\/X.env.kindOf x=some .free)/\((relabel scope X.env).names.lookup x=some .cell\/(relabel scope X.env).names.lookup x=some .free)
theorem qgw9{h:Heap}(x:Heap.SameBut a h h')(n:b≠a)(e:h.get? b=some o):h'.get? b=some o:=x.extBut b o n e
section
variable {N':List Str}{cl:List (Str×Addr)}{fp:List Addr}
theorem qsl9(B:BlkOk X N' scope cl caps)(I:Inv X pins σ H s)(hf:∀b∈fp,FpOk X pins H b){h1:Heap}{m:Str->Option Value}(hn:h1.Ns s.heap.objs.size m)(hk:∀b o,s.heap.get? b=some o->h1.get? b=some o){tk:Nat}
  (hfp:∀b∈fp,b<s.heap.objs.size):Inv (blk X N' scope cl s.heap.objs.size s H fp) [] (seen caps σ) H { s with heap:=h1,toks:=tk }:=by
 have bsz:X.base.objs.size<=s.heap.objs.size:=zbb I.ok.bsz I.sz
 refine⟨⟨I.ok.mod,B.kind,I.ok.glob,I.ok.blt,zao _,λ x y c e1 e2=>I.ok.inj x y c (B.sub x c e1) (B.sub y c e2),B.has,λ _ _ z=>(nomatch z),I.ok.hd,I.ok.frames,.inl rfl,λ b hb=>⟨zbd (hfp b hb),λ x c e=>(hf b hb).2.2.2.2.1 x c (B.sub x c e)⟩,
   I.bs,bsz,λ b o e hb=>?_,λ b hb z=>?_,I.stack,I.stkFree⟩,rfl,I.bare,Un.kept hk,⟨m,hn,λ i x v e1 e2 _=>?_⟩,λ x c e=>?_,I.hok.fresh (zao _),λ x c e=>I.freeC x c (B.sub x c e),λ p hp=>absurd (show p∈([]:List (Addr×Obj)) from hp) (by simp),I.hok.kept hk,?_⟩
 ·obtain⟨_,_,_,z,_⟩:=hf b hb
  rcases z with z|z
  ·exact I.ok.noex b o e z
  ·exact absurd (zay (zas e) (zbb I.ok.bsz z)) (zca _)
 ·obtain⟨_,z1,z2,_⟩:=hf b hb
  rcases zah.mp (I.stkSub b z) with e|e
  ·exact z1 e
  ·exact z2 e
 ·have e2':(seen caps σ)[i]?=some (some v):=e2
  unfold seen at e2'
  rw[zap] at e2'
  cases ec:caps[i]? with
  |none=>rw[ec] at e2';cases e2'
  |some oj =>
   rw[ec] at e2'
   have e3:(oj.bind λ j=>(σ[j]?).join)=some v:=Option.some.inj e2'
   cases oj with
   |none=>cases e3
   |some j =>
    obtain⟨c1,c2,c3⟩:=B.cap i j x ec e1
    have e4:σ[j]?=some (some v):=by
     have e5:(σ[j]?).join=some v:=e3
     cases ej:σ[j]? with
     |none=>rw[ej] at e5;cases e5
     |some ov =>
      rw[ej] at e5
      cases ov with
      |none=>cases e5
      |some v'=>exact congrArg some e5
    obtain⟨m0,hn0,hl⟩:=I.loc
    obtain⟨u,ru,lk⟩:=hl j x v c1 e4 (by
     rcases c2 with z|z
     ·exact .inr (.inl z)
     ·exact .inr (.inr z))
    refine⟨u,ru,.inr ⟨c3,?_⟩⟩
    obtain⟨c,ecl⟩:=B.has x c3
    refine⟨c,ecl,?_⟩
    rcases lk with⟨z,_⟩|⟨_,c',e',⟨oc,q1,q2⟩⟩
    ·rcases c2 with y|y
     ·rw[y] at z;cases z
     ·rw[y] at z;cases z
    ·have ee:c'=c:=Option.some.inj (e'.symm.trans (B.sub x c ecl))
     subst ee
     exact⟨oc,hk _ _ q1,q2⟩
 ·obtain⟨v,o,q1,q2⟩:=I.cell x c (B.sub x c e)
  exact⟨v,o,hk _ _ q1,q2⟩
 ·show(seen caps σ).length=N'.length
  unfold seen
  rw[zad]
  exact B.len
theorem qpt9(I:Inv X pins σ H s)(hf:∀b∈fp,FpOk X pins H b)(hfp:∀b∈fp,b<s.heap.objs.size){σ':St}{H':Hp}{s':Shared}(J:Inv (blk X N' scope cl s.heap.objs.size s H fp) [] σ' H' s')
  (sb:Heap.SameBut s.heap.objs.size s'.heap h'):Inv X pins σ H' { s' with heap:=h' }:=by
 have hC:∀b o,s.heap.get? b=some o->b≠s.heap.objs.size:=λ b o e=>zbd (zas e)
 have u:=J.base
 have u':Un (frs X.stack) fp H H' s.heap h':=by
  refine⟨λ b o e n hb hx=>qgw9 sb (hC b o e) (u.keep b o e n hb hx),λ b o e n hb hx=>?_,u.free,λ b o e hx=>?_,u.tups,u.frzs,u.tbls⟩
  ·obtain⟨sl,q⟩:=u.slot b o e n hb hx
   exact⟨sl,qgw9 sb (hC b o e) q⟩
  ·obtain⟨o',q⟩:=u.there b o e hx
   exact⟨o',qgw9 sb (hC b o e) q⟩
 have nC:H' s.heap.objs.size=none:=J.free
 have hok:HOk X.prog X.w H' h':=λ b o e=>by
  refine(J.hok b o e).stay (λ c v hc q=>qgw9 sb ?_ q) (λ _ q=>q) λ _ _ q=>q
  rcases hc with z|z
  ·intro z'
   rw[z] at z'
   rw[z',nC] at e
   cases e
  ·intro z'
   rw[z',nC] at z
   cases z
 obtain⟨hh,g,d,t,os'⟩:=s'
 obtain rfl:os'=s.os:=J.os
 show Inv X pins σ H' { s with heap:=h',gens:=g,drawn:=d,toks:=t }
 refine Inv.call (s:=s) (h':=h') (g':=g) (d':=d) (t':=t) (ch:=fp) I u' hok J.bare λ b hb=>?_
 obtain⟨_,z1,_,z3,z4,z5⟩:=hf b hb
 exact⟨z3,z1,z4,z5⟩
def cBody(caps:List (Option Nat))(g:TG)(tt:TT)(te:TE)(σ:St)(Q:VK)(J:It)(H1:Hp):Prop:=∀D,H1 D=none->∃W:Nat->Nat->Hp->Prop,(∃m,W 0 m (upd H1 D (.lst [])))/\∀i m H2,W i m H2 ->
 (J.stop i H2/\Q (.ref D) H2)\/(J.go i H2/\∃N:Hp->Prop,(∀H',N H'->∃m',m'<m/\W (i+1) m' H')/\∀x H3,J.yld i H2 x H3->g x (seen caps σ) H3 λ σ4 H4=>(∀(k:Nat) v,(seen caps σ)[k]?=some (some v)->σ4[k]?=some (some v))/\tt σ4 H4 λ b H5 =>
  if b=true then te σ4 H5 λ y H6=>∃ys,H6 D=some (.lst ys)/\ys.length<sizeLine/\N (upd H6 D (.lst (ys++[y]))) else N H5)
def tComp(wi:TI)(caps:List (Option Nat))(g:TG)(tt:TT)(te:TE):TE:=λ σ H Q=>wi σ H (cBody caps g tt te σ Q)
def tTrue:TT:=λ _ H Q=>Q true H
section
variable {elt:Expr}
theorem qhj9{J:It}{it:Addr}{tn:Nat->Heap->Prop}{H0:Hp}{C:Addr}(T:Turn X.prog X.w X.K tg J fp it tn){s7 s9:Shared}{W:Nat->Nat->Hp->Prop}{N:Hp->Prop}(hN:∀H',N H'->∃m',m'<n/\W (i+1) m' H')
  (st7:tn (i+1) s7.heap) {σ8:St} {H9:Hp} (I9:Inv (blk X N' scope cl C s H0 fp) ([]++qqg9 fp s7.heap) σ8 H9 s9) (kp:∀(k:Nat) v,(seen caps σ)[k]?=some (some v)->σ8[k]?=some (some v)) (hl:(seen caps σ).length=σ8.length) (n9:N H9) :
  ∃m,m<n/\∃j H',Inv (blk X N' scope cl C s H0 fp) [] (seen caps σ) H' s9/\tn j s9.heap/\(∀b∈fp,H' b=none)/\W j m H':=by
 obtain⟨m',hm,w7⟩:=hN H9 n9
 refine⟨m',hm,i+1,H9,(I9.unpinned).weak hl kp,T.keep _ _ _ st7 λ b hb o e=>(I9.pin (b,o) (zaq _ (zaq _ (qfv9 hb e)))).1,λ b hb=>?_,w7⟩
 obtain⟨o,e,d⟩:=T.obj _ _ st7 b hb
 exact(I9.pin (b,o) (zaq _ (zaq _ (qfv9 hb e)))).2.1
theorem pe_comp(B:BlkOk X N' scope cl caps)(hc:X.calm=true)(hi:PI X tg iter wi)(hg:∀C s0 H0 fp,PG (blk X N' scope cl C s0 H0 fp) tg g)(he:∀C s0 H0 fp,PE (blk X N' scope cl C s0 H0 fp) elt te)
  (hs:∀x,foldedSetIterable iter X.env x=pure x:=by intro _;rfl):PE X (.ListComp elt [⟨tg,iter,[],0⟩] scope pos) (tComp wi caps g tTrue te):=by
 intro pins s σ H Q I h
 rw[eval_ListComp]
 refine wpAny_comprehension_free (use:=none) rfl hs B.clos B.kind B.names ?_
 refine thn (hi pins s σ H _ I h) λ v s1 h1=>thn h1 λ itv s2 h2=>?_
 obtain⟨it,fp,tn,J,H2,rfl,I2,T,st2,f2,q2⟩:=h2
 have fpl:∀b∈fp,b<s2.heap.objs.size:=λ b hb=>by
  obtain⟨o,e,_⟩:=T.obj _ _ st2 b hb
  exact zas e
 obtain⟨W,⟨m0,w0⟩,turn⟩:=q2 s2.heap.objs.size (I2.hok.fresh (zao _))
 refine wpAny_newObj_type ?_
 have I3:Inv X pins σ (upd H2 s2.heap.objs.size (.lst [])) { s2 with heap:=s2.heap.push { cls:=.type "list",data:=.seq ([]:List Value).toArray } } :=
  I2.laid (t':=s2.toks) (λ b u e=>zae _ e) (zao _) ⟨zbt _,[],0,.nil,zar _ rfl⟩
 generalize hs3:({ s2 with heap:=s2.heap.push { cls:=.type "list",data:=.seq ([]:List Value).toArray } }:Shared)=s3 at I3
 have k23:∀b o,s2.heap.get? b=some o->s3.heap.get? b=some o:=λ b o e=>by rw[<- hs3];exact zae _ e
 have fpl3:∀b∈fp,b<s3.heap.objs.size:=λ b hb=>by
  obtain⟨o,e,_⟩:=T.obj _ _ st2 b hb
  exact zas (k23 b o e)
 have f3:∀b∈fp,FpOk X pins (upd H2 s2.heap.objs.size (.lst [])) b:=λ b hb=>⟨by rw[qap9 (zbd (fpl b hb))];exact(f2 b hb).1,(f2 b hb).2⟩
 refine wpAny_newFunctionEnv B.nocell (by intro y hy;simp at hy) (λ h1 hn1 sb1=>?_) B.kind
 have k31:∀b o,s3.heap.get? b=some o->h1.get? b=some o:=λ b o e=>sb1.extBut b o (zbd (zas e)) (zae _ e)
 have J0:=qsl9 (fp:=fp) (tk:=s3.toks+([]:List (Str×Value)).length) B I3 f3 hn1 k31 fpl3
 have st1:tn 0 h1:=T.keep _ _ _ st2 λ b _ o e=>k31 b o (k23 b o e)
 have loop:codeAny (model X.prog X.w) X.A (.compLoop (.ListComp elt [⟨tg,iter,[],0⟩] scope pos) 0 (.ref it) (.ref s2.heap.objs.size) (blk X N' scope cl s3.heap.objs.size s3 (upd H2 s2.heap.objs.size (.lst [])) fp).env)
   (compPost (model X.prog X.w) X.A X.xe none (EP X pins σ Q) (.ref s2.heap.objs.size) s3.heap.objs.size) { s3 with heap:=h1,toks:=s3.toks+([]:List (Str×Value)).length }:=by
  refine codeAny_loop rfl (λ n s'=>∃i H',Inv (blk X N' scope cl s3.heap.objs.size s3 (upd H2 s2.heap.objs.size (.lst [])) fp) [] (seen caps σ) H' s'/\tn i s'.heap/\(∀b∈fp,H' b=none)/\W i n H') (λ n s5 hI=>?_) m0
   ⟨0,_,J0,st1,λ b hb=>(f3 b hb).1,w0⟩
  obtain⟨i,H5,I5,st5,fr5,w5⟩:=hI
  show wpAny _ _ ((compTurn (.ListComp elt [⟨tg,iter,[],0⟩] scope pos) 0 (.ref it) (.ref s2.heap.objs.size) (blk X N' scope cl s3.heap.objs.size s3 (upd H2 s2.heap.objs.size (.lst [])) fp).env).onRaise (λ x=>do noteFrame x (blk X N' scope cl s3.heap.objs.size s3 (upd H2 s2.heap.objs.size (.lst [])) fp).env;theTreesLotGoes x)) _ _ s5
  refine wpAny_noted ?_
  rw[compTurn_list1]
  have ff:∀{H':Hp},(∀b∈fp,H' b=none)->∀b∈fp,FpOk (blk X N' scope cl s3.heap.objs.size s3 (upd H2 s2.heap.objs.size (.lst [])) fp) [] H' b:=λ {H'} hn b hb =>
   ⟨hn b hb,(J0.ok.exf b hb).1,J0.ok.exfs b hb,.inl hb,λ x c e=>(J0.ok.exf b hb).2 x c e,λ p hp=>absurd (show p∈([]:List (Addr×Obj)) from hp) (by simp)⟩
  rcases turn i n H5 w5 with⟨stop,qn⟩|⟨go,N,hN,step⟩
  ·refine wpAny_bind (wpAny_standAt (wpAny_bind (thn (T.done (blk X N' scope cl s3.heap.objs.size s3 (upd H2 s2.heap.objs.size (.lst [])) fp) rfl rfl rfl hc i [] s5 _ H5 _ I5 (ff fr5) st5 stop) λ r s6 z9=>?_)))
   obtain⟨hr,I6⟩ := z9
   subst hr
   refine wpAny_pure ?_
   obtain⟨m,hn,_⟩:=id I6.loc
   exact⟨m,hn,λ h' sb=>⟨.ref s2.heap.objs.size,H5,qpt9 I3 f3 fpl3 I6 sb,U,qn⟩⟩
  ·refine wpAny_bind (wpAny_standAt (wpAny_bind (thn (T.item (blk X N' scope cl s3.heap.objs.size s3 (upd H2 s2.heap.objs.size (.lst [])) fp) rfl rfl rfl hc i [] s5 _ H5 _ I5 (ff fr5) st5 go) λ r s6 z9=>?_)))
   obtain⟨u,hr,h6⟩ := z9
   subst hr
   refine wpAny_bind (thn h6 λ _ s7 z9=>?_)
   obtain⟨x,H7,I7,r7,y7,st7,fr7⟩ := z9
   have I7':=I7.pinned (ff fr7) (T.obj _ _ st7)
   refine wpAny_bind (wpAny_mono (hg _ _ _ _ _ s7 _ H7 x u _ I7' r7 (step x H7 y7)) (λ _ s8 z9=>?_) λ _ _ f=>f.elim)
   obtain⟨σ8,H8,I8,kp,q8⟩ := z9
   have q8':te σ8 H8 λ y H6=>∃ys,H6 s2.heap.objs.size=some (.lst ys)/\ys.length<sizeLine/\N (upd H6 s2.heap.objs.size (.lst (ys++[y]))):=by
    have z:=q8
    unfold tTrue at z
    dsimp only at z
    rw[if_pos rfl] at z
    exact z
   refine wpAny_bind (wpAny_bind (wpAny_mono (he _ _ _ _ _ s8 σ8 H8 _ I8 q8') (λ y s9 z9=>?_) λ _ _ f=>f.elim))
   obtain⟨y',H9,I9,r9,ys,hD,hl,n9⟩ := z9
   refine wpAny_bind (wpAny_mono (qhy9 (X:=blk X N' scope cl s3.heap.objs.size s3 (upd H2 s2.heap.objs.size (.lst [])) fp) _ s9 σ8 H9 (.ref s2.heap.objs.size) [y'] (.ref s2.heap.objs.size) [y] (λ _ H'=>N H') I9 rfl (.cons r9 .nil) ⟨_,ys,y',rfl,rfl,hD,hl,n9⟩) (λ _ s10 z9=>?_) λ _ _ f=>f.elim)
   obtain⟨_,H10,I10,_,n10⟩ := z9
   exact wpAny_pure (wpAny_pure ⟨rfl,qhj9 T hN st7 I10 kp (I5.len.trans I10.len.symm) n10⟩)
 exact codeAny_compStart_list loop (T.self X.A 0 _ _ _ st1 loop)
theorem pe_compIf(B:BlkOk X N' scope cl caps)(hc:X.calm=true)(hi:PI X tg iter wi)(hg:∀C s0 H0 fp,PG (blk X N' scope cl C s0 H0 fp) tg g)(ht:∀C s0 H0 fp,PT (blk X N' scope cl C s0 H0 fp) c tt)
  (he:∀C s0 H0 fp,PE (blk X N' scope cl C s0 H0 fp) elt te) (hs:∀x,foldedSetIterable iter X.env x=pure x:=by intro _;rfl):PE X (.ListComp elt [⟨tg,iter,[c],0⟩] scope pos) (tComp wi caps g tt te):=by
 intro pins s σ H Q I h
 rw[eval_ListComp]
 refine wpAny_comprehension_free (use:=none) rfl hs B.clos B.kind B.names ?_
 refine thn (hi pins s σ H _ I h) λ v s1 h1=>thn h1 λ itv s2 h2=>?_
 obtain⟨it,fp,tn,J,H2,rfl,I2,T,st2,f2,q2⟩:=h2
 have fpl:∀b∈fp,b<s2.heap.objs.size:=λ b hb=>by
  obtain⟨o,e,_⟩:=T.obj _ _ st2 b hb
  exact zas e
 obtain⟨W,⟨m0,w0⟩,turn⟩:=q2 s2.heap.objs.size (I2.hok.fresh (zao _))
 refine wpAny_newObj_type ?_
 have I3:Inv X pins σ (upd H2 s2.heap.objs.size (.lst [])) { s2 with heap:=s2.heap.push { cls:=.type "list",data:=.seq ([]:List Value).toArray } } :=
  I2.laid (t':=s2.toks) (λ b u e=>zae _ e) (zao _) ⟨zbt _,[],0,.nil,zar _ rfl⟩
 generalize hs3:({ s2 with heap:=s2.heap.push { cls:=.type "list",data:=.seq ([]:List Value).toArray } }:Shared)=s3 at I3
 have k23:∀b o,s2.heap.get? b=some o->s3.heap.get? b=some o:=λ b o e=>by rw[<- hs3];exact zae _ e
 have fpl3:∀b∈fp,b<s3.heap.objs.size:=λ b hb=>by
  obtain⟨o,e,_⟩:=T.obj _ _ st2 b hb
  exact zas (k23 b o e)
 have f3:∀b∈fp,FpOk X pins (upd H2 s2.heap.objs.size (.lst [])) b:=λ b hb=>⟨by rw[qap9 (zbd (fpl b hb))];exact(f2 b hb).1,(f2 b hb).2⟩
 refine wpAny_newFunctionEnv B.nocell (by intro y hy;simp at hy) (λ h1 hn1 sb1=>?_) B.kind
 have k31:∀b o,s3.heap.get? b=some o->h1.get? b=some o:=λ b o e=>sb1.extBut b o (zbd (zas e)) (zae _ e)
 have J0:=qsl9 (fp:=fp) (tk:=s3.toks+([]:List (Str×Value)).length) B I3 f3 hn1 k31 fpl3
 have st1:tn 0 h1:=T.keep _ _ _ st2 λ b _ o e=>k31 b o (k23 b o e)
 have loop:codeAny (model X.prog X.w) X.A (.compLoop (.ListComp elt [⟨tg,iter,[c],0⟩] scope pos) 0 (.ref it) (.ref s2.heap.objs.size) (blk X N' scope cl s3.heap.objs.size s3 (upd H2 s2.heap.objs.size (.lst [])) fp).env)
   (compPost (model X.prog X.w) X.A X.xe none (EP X pins σ Q) (.ref s2.heap.objs.size) s3.heap.objs.size) { s3 with heap:=h1,toks:=s3.toks+([]:List (Str×Value)).length }:=by
  refine codeAny_loop rfl (λ n s'=>∃i H',Inv (blk X N' scope cl s3.heap.objs.size s3 (upd H2 s2.heap.objs.size (.lst [])) fp) [] (seen caps σ) H' s'/\tn i s'.heap/\(∀b∈fp,H' b=none)/\W i n H') (λ n s5 hI=>?_) m0
   ⟨0,_,J0,st1,λ b hb=>(f3 b hb).1,w0⟩
  obtain⟨i,H5,I5,st5,fr5,w5⟩:=hI
  show wpAny _ _ ((compTurn (.ListComp elt [⟨tg,iter,[c],0⟩] scope pos) 0 (.ref it) (.ref s2.heap.objs.size) (blk X N' scope cl s3.heap.objs.size s3 (upd H2 s2.heap.objs.size (.lst [])) fp).env).onRaise (λ x=>do noteFrame x (blk X N' scope cl s3.heap.objs.size s3 (upd H2 s2.heap.objs.size (.lst [])) fp).env;theTreesLotGoes x)) _ _ s5
  refine wpAny_noted ?_
  rw[compTurn_list]
  have ff:∀{H':Hp},(∀b∈fp,H' b=none)->∀b∈fp,FpOk (blk X N' scope cl s3.heap.objs.size s3 (upd H2 s2.heap.objs.size (.lst [])) fp) [] H' b:=λ {H'} hn b hb =>
   ⟨hn b hb,(J0.ok.exf b hb).1,J0.ok.exfs b hb,.inl hb,λ x c e=>(J0.ok.exf b hb).2 x c e,λ p hp=>absurd (show p∈([]:List (Addr×Obj)) from hp) (by simp)⟩
  rcases turn i n H5 w5 with⟨stop,qn⟩|⟨go,N,hN,step⟩
  ·refine wpAny_bind (wpAny_standAt (wpAny_bind (thn (T.done (blk X N' scope cl s3.heap.objs.size s3 (upd H2 s2.heap.objs.size (.lst [])) fp) rfl rfl rfl hc i [] s5 _ H5 _ I5 (ff fr5) st5 stop) λ r s6 z9=>?_)))
   obtain⟨hr,I6⟩ := z9
   subst hr
   refine wpAny_pure ?_
   obtain⟨m,hn,_⟩:=id I6.loc
   exact⟨m,hn,λ h' sb=>⟨.ref s2.heap.objs.size,H5,qpt9 I3 f3 fpl3 I6 sb,U,qn⟩⟩
  ·refine wpAny_bind (wpAny_standAt (wpAny_bind (thn (T.item (blk X N' scope cl s3.heap.objs.size s3 (upd H2 s2.heap.objs.size (.lst [])) fp) rfl rfl rfl hc i [] s5 _ H5 _ I5 (ff fr5) st5 go) λ r s6 z9=>?_)))
   obtain⟨u,hr,h6⟩ := z9
   subst hr
   refine wpAny_bind (thn h6 λ _ s7 z9=>?_)
   obtain⟨x,H7,I7,r7,y7,st7,fr7⟩ := z9
   have I7':=I7.pinned (ff fr7) (T.obj _ _ st7)
   refine wpAny_bind (wpAny_mono (hg _ _ _ _ _ s7 _ H7 x u _ I7' r7 (step x H7 y7)) (λ _ s8 z9=>?_) λ _ _ f=>f.elim)
   obtain⟨σ8,H8,I8,kp,q8⟩ := z9
   refine wpAny_bind (wpAny_tests_one (wpAny_mono (ht _ _ _ _ _ s8 σ8 H8 _ I8 q8) (λ b s9 z9=>?_) λ _ _ f=>f.elim))
   obtain⟨H9,I9,q9⟩ := z9
   cases b with
   |false =>
    rw[if_neg zaz] at q9
    exact wpAny_pure ⟨rfl,qhj9 T hN st7 I9 kp (I5.len.trans I9.len.symm) q9⟩
   |true =>
    rw[if_pos rfl] at q9
    refine wpAny_bind (wpAny_bind (wpAny_mono (he _ _ _ _ _ s9 σ8 H9 _ I9 q9) (λ y s10 z9=>?_) λ _ _ f=>f.elim))
    obtain⟨y',H10,I10,r10,ys,hD,hl,n10⟩ := z9
    refine wpAny_bind (wpAny_mono (qhy9 (X:=blk X N' scope cl s3.heap.objs.size s3 (upd H2 s2.heap.objs.size (.lst [])) fp) _ s10 σ8 H10 (.ref s2.heap.objs.size) [y'] (.ref s2.heap.objs.size) [y] (λ _ H'=>N H') I10 rfl (.cons r10 .nil) ⟨_,ys,y',rfl,rfl,hD,hl,n10⟩) (λ _ s11 z9=>?_) λ _ _ f=>f.elim)
    obtain⟨_,H11,I11,_,n11⟩ := z9
    exact wpAny_pure (wpAny_pure ⟨rfl,qhj9 T hN st7 I11 kp (I5.len.trans I11.len.symm) n11⟩)
 exact codeAny_compStart_list loop (T.self X.A 0 _ _ _ st1 loop)
end
end
section
variable {a b d:Expr}{ta tb tc td:TE}
def tChain3(r r' r'':R2)(ta tb tc td:TE):TE:=λ σ H Q=>ta σ H λ x H1=>tb σ H1 λ y H2=>r x y H2 λ z H3=>∃k,z=.bl k /\
 (if k=true then tc σ H3 λ w' H4=>r' y w' H4 λ z' H5=>∃k',z'=.bl k'/\(if k'=true then td σ H5 λ w2 H6=>r'' w' w2 H6 Q else Q (.bl false) H5) else Q (.bl false) H3)
theorem pe_chain3{op'':CmpOp}{r'':R2}(ho:OpR X (compareOp op) r)(ho':OpR X (compareOp op') r')(ho'':OpR X (compareOp op'') r'')(ha:PE X a ta)(hb:PE X b tb)(hc:PE X c tc)(hd:PE X d td)
  (hm:lastMarks [op,op',op''] [b,c,d]=false:=by with_unfolding_all rfl):PE X (.Compare a [op,op',op''] [b,c,d] pos) (tChain3 r r' r'' ta tb tc td):=by
 intro pins s σ H Q I h
 refine Compare_chain (thn (ha pins s σ H _ I h) λ v s1 ⟨x,H1,I1,r1,q1⟩=>chain_link (thn (hb pins s1 σ H1 _ I1 q1) λ u s2 ⟨y,H2,I2,r2,q2⟩ =>
  thn (ho pins s2 σ H2 x y v u _ I2 r1 r2 q2) λ d s3 ⟨z,H3,I3,r3,k,e,q3⟩=>?_)) hm
 subst e
 cases r3
 refine wpAny_truthy_bool ?_
 cases k with
 |false=>exact ite_ff ⟨.bl false,H3,I3,rfl,q3⟩
 |true =>
  refine ite_tt (chain_link (thn (hc pins s3 σ H3 _ I3 q3) λ w' s4 ⟨z',H4,I4,r4,q4⟩=>thn (ho' pins s4 σ H4 y z' u w' _ I4 r2 r4 q4) λ d' s5 z9=>?_))
  obtain⟨z2,H5,I5,r5,k2,e2,q5⟩ := z9
  subst e2
  cases r5
  refine wpAny_truthy_bool ?_
  cases k2 with
  |false=>exact ite_ff ⟨.bl false,H5,I5,rfl,q5⟩
  |true=>exact ite_tt (chain_last (thn (hd pins s5 σ H5 _ I5 q5) λ w2 s6 ⟨z3,H6,I6,r6,q6⟩=>ho'' pins s6 σ H6 z' z3 w' w2 Q I6 r4 r6 q6))
theorem vals_bl{bs:List Bool}{its:List Value}(r:Vals (bs.map V.bl) its){v:Value}(h:its[i]?=some v):∃k,bs[i]?=some k/\v=.bool k:=by
 have hl:=r.length
 rw[zad] at hl
 have hi:i<bs.length:=by
  have:=(zab.mp h).1
  omega
 obtain⟨u,hu,ru⟩:=r.get (i:=i) (x:=.bl bs[i]) (by rw[zap,zaa hi];rfl)
 rw[h] at hu
 cases hu
 exact⟨bs[i],zaa hi,ru⟩
theorem all_range(bs:List Bool):((zcz bs.length).all λ i=>(bs[i]?).getD true)=bs.all id:=by
 rw[zbz,zbh,zbh]
 constructor
 ·intro h x hx
  obtain⟨i,hi,e⟩:=zdk.mp hx
  have:=h i (zdh.mpr hi)
  rw[zaa hi,e] at this
  exact this
 ·intro h i hi
  have hi':=zdh.mp hi
  rw[zaa hi']
  exact h _ (zbi hi')
theorem call_all(hc:X.calm=true):CallR X (.builtin "all") (λ xs H Q=>∃(p:Addr)(bs:List Bool),xs=[.ref p]/\SqL X.K H p (bs.map V.bl)/\Q (.bl (bs.all id)) H):=by
 intro pins s σ H xs us Q I r h
 obtain⟨p,bs,rfl,hS,q⟩:=h
 obtain⟨u,rfl,ru⟩:=vals1 r
 cases ru
 obtain⟨its,rv,pl,hz⟩:=I.list hS
 have hl:=pl.isList
 have hlt:p<s.heap.objs.size:=by obtain⟨_,e,_⟩:=hl;exact zas e
 refine call_all_walk (wpAny_pyIter_list hl ?_)
 refine⟨s.heap.objs.size,[s.heap.objs.size,p],[s.heap.objs.size],its.toArray.size,_,_,λ i=>(bs[i]?).getD true,U,Walks.list (A:=X.A.in1) (I.ok.hd hc) _ p (zbd hlt) its.toArray,
  ⟨⟨_,zar _ rfl,rfl,rfl⟩,hl.push _⟩,λ i v s' Q' E' hP hQ=>?_,λ h' tk hk=>?_⟩
 ·obtain⟨k,e,rfl⟩:=vals_bl rv (i:=i) (v:=v) (by simpa using hP)
  simp only[e,zhc] at hQ
  exact wpAny_truthy_bool hQ
 ·have e:((zcz its.toArray.size).all λ i=>(bs[i]?).getD true)=bs.all id:=by
   have hl2:=rv.length
   rw[zad] at hl2
   rw[zax,<- hl2]
   exact all_range bs
  rw[e]
  have keep:∀b x,s.heap.get? b=some x->h'.get? b=some x:=λ b x e=>hk b x (λ hm=>by rw[zag.mp hm] at e;exact zca _ (zas e)) (zae _ e)
  exact⟨.bl (bs.all id),H,I.kept (t':=tk) keep,U,q⟩
end
section
variable {rest:List Stmt}{t u:TS}
inductive tCut(t u:TS)(D:Ends)(σ:St)(H:Hp):Prop
 |mk (M:St->Hp->Prop):(t { D with nx:=M } σ H)->(∀σ' H',M σ' H'->u D σ' H')->tCut t u D σ H
theorem pss_cut(h1:PS X st t)(h2:PSs X rest u):PSs X (st::rest) (tCut t u):=by
 intro pins s σ H D I h
 obtain⟨M,h,hM⟩:=h
 refine wpAny_execs_cons (thn (h1 pins s σ H { D with nx:=M } I h) λ f s1 q=>?_)
 cases f with
 |next =>
  obtain⟨σ',H',I',q⟩:=q
  exact h2 pins s1 σ' H' D I' (hM σ' H' q)
 |ret v=>exact q
 |brk=>exact q
 |cont=>exact q
inductive tCutE(t:TE)(σ:St)(H:Hp)(Q:VK):Prop
 |mk (M:V->Hp->Prop):t σ H M->(∀v H',M v H'->Q v H')->tCutE t σ H Q
theorem pe_cut(h:PE X e te):PE X e (tCutE te):=by
 intro pins s σ H Q I q
 obtain⟨M,q,hM⟩:=q
 exact thn (h pins s σ H M I q) λ u s1 ⟨v,H1,I1,r1,q1⟩=>⟨v,H1,I1,r1,hM v H1 q1⟩
inductive tCutT(t:TT)(σ:St)(H:Hp)(Q:Bool->Hp->Prop):Prop
 |mk (M:Bool->Hp->Prop):t σ H M->(∀b H',M b H'->Q b H')->tCutT t σ H Q
theorem pt_cut(h:PT X e tt):PT X e (tCutT tt):=by
 intro pins s σ H Q I q
 obtain⟨M,q,hM⟩:=q
 exact thn (h pins s σ H M I q) λ b s1 ⟨H1,I1,q1⟩=>⟨H1,I1,hM b H1 q1⟩
end
def qrs9(X:Cx)(N':List Str)(scope:Scope)(cl:List (Str×Addr))(caps:List (Option Nat)):Bool :=
 (scope.names.all λ y=>y.2 != .cell)&&(scope.names.all λ y=>y.2 != .local||scope.names.lookup y.1==some .local) &&
 ((relabel scope X.env).names.all λ y=>!(y.2 == .cell||y.2 == .free)||(cl.lookup y.1).isSome)&&(caps.length==N'.length) &&
 ((zcz caps.length).all λ i=>match caps[i]?,N'[i]? with
  |some (some j),some x=>(X.N[j]? == some x)&&(X.env.kindOf x==some .cell||X.env.kindOf x==some .free)&&((relabel scope X.env).names.lookup x==some .cell||(relabel scope X.env).names.lookup x==some .free)
  |_,_=>true)
theorem BlkOk.of{N':List Str}{cl:List (Str×Addr)}(clos:closureFor scope X.env=pure cl)(kind:scope.kind=.function)(sub:∀x c,cl.lookup x=some c->X.env.cells.lookup x=some c)
  (h:qrs9 X N' scope cl caps=true):BlkOk X N' scope cl caps:=by
 unfold qrs9 at h
 simp only[zbu] at h
 obtain⟨⟨⟨⟨h1,h2⟩,h3⟩,h4⟩,h5⟩:=h
 have ok3:∀x k,(relabel scope X.env).names.lookup x=some k->(k=.cell\/k=.free)->∃c,cl.lookup x=some c:=λ x k e hk=>by
  have:=zbh.mp h3 _ (PySem.mem_of_lookup e)
  have hb:(k==NameKind.cell||k==NameKind.free)=true:=by
   rcases hk with rfl|rfl<;>rfl
  simp only[hb,zhf,Bool.false_or] at this
  exact zfh.mp this
 refine⟨clos,λ y hy=>?_,kind,λ y hy e=>?_,sub,λ x hx=>?_,by simpa using h4,λ i j x e1 e2=>?_⟩
 ·have:=zbh.mp h1 y hy
  simpa using this
 ·have:=zbh.mp h2 y hy
  rw[e] at this
  simpa using this
 ·rcases hx with hx|hx
  ·exact ok3 x _ hx (.inl rfl)
  ·exact ok3 x _ hx (.inr rfl)
 ·have hi:i<caps.length:=(zab.mp e1).1
  have:=zbh.mp h5 i (zdh.mpr hi)
  rw[e1,e2] at this
  simp only[zbu,zgu,beq_iff_eq] at this
  exact⟨this.1.1,this.1.2,this.2⟩
section
variable {xs:List V}
theorem comp_list(Pv:Addr->Nat->Hp->Prop)(h0:∀D,H D=none->Pv D 0 (upd H D (.lst [])))(hl:∀D i H',H D=none->i<=xs.length->Pv D i H'->SqL K H' a xs)
  (hs:∀D i x H',H D=none->xs[i]?=some x->Pv D i H'->g x (seen caps σ) H' λ σ4 H4=>(∀(k:Nat) v,(seen caps σ)[k]?=some (some v)->σ4[k]?=some (some v))/\tt σ4 H4 λ b H5 =>
   if b=true then te σ4 H5 λ y H6=>∃ys,H6 D=some (.lst ys)/\ys.length<sizeLine/\Pv D (i+1) (upd H6 D (.lst (ys++[y]))) else Pv D (i+1) H5)
  (hd:∀D H',H D=none->Pv D xs.length H'->Q (.ref D) H'):cBody caps g tt te σ Q (Itl K a) H:=by
 intro D hD
 refine⟨λ i m H'=>m=xs.length-i/\i<=xs.length/\Pv D i H',⟨xs.length,by simp,zbt _,h0 D hD⟩,?_⟩
 intro i m H2 z9;obtain⟨rfl,hi,p⟩ := z9
 have q:=hl D i H2 hD hi p
 by_cases hlt:i<xs.length
 ·refine .inr ⟨⟨xs,xs[i],q,by simp[hlt]⟩,Pv D (i+1),λ H' p'=>⟨xs.length-(i+1),⋯,rfl,hlt,p'⟩,λ x H3 y=>?_⟩
  obtain⟨e,y⟩:=y
  subst e
  exact hs D i x _ hD (y xs q) p
 ·have e:i=xs.length:=⋯
  subst e
  exact .inl ⟨⟨xs,q,zao _⟩,hd D H2 hD p⟩
theorem qcf9(Pv:Addr->Nat->Hp->Prop)(h0:∀D,H D=none->Pv D 0 (upd H D (.lst [])))(hl:∀D i H',H D=none->i<=xs.length->Pv D i H'->SqL K H' a xs)
  (hs:∀D i x H',H D=none->xs[i]?=some x->Pv D i H'->g x (seen caps σ) H' λ σ4 H4=>(∀(k:Nat) v,(seen caps σ)[k]?=some (some v)->σ4[k]?=some (some v)) /\
   te σ4 H4 λ y H6=>∃ys,H6 D=some (.lst ys)/\ys.length<sizeLine/\Pv D (i+1) (upd H6 D (.lst (ys++[y]))))
  (hd:∀D H',H D=none->Pv D xs.length H'->Q (.ref D) H'):cBody caps g tTrue te σ Q (Itl K a) H:=comp_list Pv h0 hl hs hd
theorem qso9(Pv:Addr->Nat->Hp->Prop)(h0:∀D,H D=none->Pv D 0 (upd H D (.lst [])))(hl:∀D i H',H D=none->i<=xs.length->Pv D i H'->SqT K H' a xs)
  (hs:∀D i x H',H D=none->xs[i]?=some x->Pv D i H'->g x (seen caps σ) H' λ σ4 H4=>(∀(k:Nat) v,(seen caps σ)[k]?=some (some v)->σ4[k]?=some (some v))/\tt σ4 H4 λ b H5 =>
   if b=true then te σ4 H5 λ y H6=>∃ys,H6 D=some (.lst ys)/\ys.length<sizeLine/\Pv D (i+1) (upd H6 D (.lst (ys++[y]))) else Pv D (i+1) H5)
  (hd:∀D H',H D=none->Pv D xs.length H'->Q (.ref D) H'):cBody caps g tt te σ Q (Itt K a) H:=by
 intro D hD
 refine⟨λ i m H'=>m=xs.length-i/\i<=xs.length/\Pv D i H',⟨xs.length,by simp,zbt _,h0 D hD⟩,?_⟩
 intro i m H2 z9;obtain⟨rfl,hi,p⟩ := z9
 have q:=hl D i H2 hD hi p
 by_cases hlt:i<xs.length
 ·refine .inr ⟨⟨xs,xs[i],q,by simp[hlt]⟩,Pv D (i+1),λ H' p'=>⟨xs.length-(i+1),⋯,rfl,hlt,p'⟩,λ x H3 y=>?_⟩
  obtain⟨e,y⟩:=y
  subst e
  exact hs D i x _ hD (y xs q) p
 ·have e:i=xs.length:=⋯
  subst e
  exact .inl ⟨⟨xs,q,zao _⟩,hd D H2 hD p⟩
theorem comp_tup0(Pv:Addr->Nat->Hp->Prop)(h0:∀D,H D=none->Pv D 0 (upd H D (.lst [])))(hl:∀D i H',H D=none->i<=xs.length->Pv D i H'->SqT K H' a xs)
  (hs:∀D i x H',H D=none->xs[i]?=some x->Pv D i H'->g x (seen caps σ) H' λ σ4 H4=>(∀(k:Nat) v,(seen caps σ)[k]?=some (some v)->σ4[k]?=some (some v)) /\
   te σ4 H4 λ y H6=>∃ys,H6 D=some (.lst ys)/\ys.length<sizeLine/\Pv D (i+1) (upd H6 D (.lst (ys++[y]))))
  (hd:∀D H',H D=none->Pv D xs.length H'->Q (.ref D) H'):cBody caps g tTrue te σ Q (Itt K a) H:=qso9 Pv h0 hl hs hd
end
mutual
inductive RdV(K:W.Frag)(H:Hp):V->PyData->Prop
 |non:RdV K H .non .none
 |bl (b:Bool):RdV K H (.bl b) (.bool b)
 |int (i:Int):RdV K H (.int i) (.int i)
 |str (x:Str):RdV K H (.str x) (.str x)
 |lst {a:Addr} {xs:List V} {ds:List PyData}:SqL K H a xs->RdAll K H xs ds->RdV K H (.ref a) (.list ds)
 |tup {a:Addr} {xs:List V} {ds:List PyData}:SqT K H a xs->RdAll K H xs ds->RdV K H (.ref a) (.tuple ds)
inductive RdAll(K:W.Frag)(H:Hp):List V->List PyData->Prop
 |nil:RdAll K H [] []
 |cons {x:V} {d:PyData} {xs:List V} {ds:List PyData}:RdV K H x d->RdAll K H xs ds->RdAll K H (x::xs) (d::ds)
end
mutual
theorem Inv.rd(I:Inv X pins σ H s):∀{x:V}{d:PyData},RdV X.K H x d->∀u,RelV x u->∃as,Reads s.heap u d as
 |_,_,.non,u,r=>by cases (show u=Value.none from r);exact⟨_,.none⟩
 |_,_,.bl b,u,r=>by cases (show u=Value.bool b from r);exact⟨_,.bool b⟩
 |_,_,.int i,u,r=>by obtain⟨t,q⟩:=(show ∃t,u=Value.int i t from r);cases q;exact⟨_,.int i t⟩
 |_,_,.str x,u,r=>by obtain⟨t,q⟩:=(show ∃t,u=Value.str x t from r);cases q;exact⟨_,.str x t⟩
 |_,_,.lst (a:=a) hS hA,u,r=>by
  cases (show u=Value.ref a from r)
  obtain⟨its,rv,p,hz⟩:=I.list hS
  obtain⟨as,q⟩:=Inv.rdAll I hA its rv
  obtain⟨o,e,hc,n,hd⟩:=p.isList
  exact⟨_,.list e hc hd (by simpa using q)⟩
 |_,_,.tup (a:=a) hS hA,u,r=>by
  cases (show u=Value.ref a from r)
  obtain⟨its,rv,p,hz⟩:=I.tuple hS
  obtain⟨as,q⟩:=Inv.rdAll I hA its rv
  obtain⟨o,e,hc,n,hd⟩:=p
  exact⟨_,.tuple e hc hd (by simpa using q)⟩
theorem Inv.rdAll(I:Inv X pins σ H s):∀{xs:List V}{ds:List PyData},RdAll X.K H xs ds->∀us,Vals xs us->∃as,ReadsAll s.heap us ds as
 |_,_,.nil,us,r=>by cases r;exact⟨_,.nil⟩
 |_,_,.cons h1 h2,us,r=>by
  cases r with
  |cons r1 r2 =>
   obtain⟨as,q1⟩:=Inv.rd I h1 _ r1
   obtain⟨bs,q2⟩:=Inv.rdAll I h2 _ r2
   exact⟨_,.cons q1 q2⟩
end
inductive rEqD(K:W.Frag)(x:V)(y:V)(H:Hp)(Q:VK):Prop
 |mk (d:_) (e:_):RdV K H x d->RdV K H y e->SeqAt.shaped d=true->SeqAt.shaped e=true->Q (.bl (PyData.eqv d e)) H->rEqD K x y H Q
theorem op_eqD(hu:X.A.units+64<cLine):OpR X (compareOp .Eq) (rEqD X.K):=by
 intro pins s σ H x y v u Q I rx ry h
 obtain⟨d,e,hd,he,sd,se,q⟩:=h
 obtain⟨as,ra⟩:=I.rd hd v rx
 obtain⟨bs,rb⟩:=I.rd he u ry
 exact eq_dataH ra rb sd se hu ⟨.bl _,H,I,rfl,q⟩
structure QE(X:Cx)(e:Expr)(t:TE):Prop where
 run:PE X e t
structure QT(X:Cx)(e:Expr)(t:TT):Prop where
 run:PT X e t
structure QW(X:Cx)(e:Expr)(t:TT):Prop where
 run:PW X e t
structure QA(X:Cx)(es:List Expr)(t:TA):Prop where
 run:PA X es t
structure QS(X:Cx)(st:Stmt)(t:TS):Prop where
 run:PS X st t
structure QSs(X:Cx)(st:List Stmt)(t:TS):Prop where
 run:PSs X st t
structure QG(X:Cx)(e:Expr)(t:TG):Prop where
 run:PG X e t
structure QGs(X:Cx)(es:List Expr)(t:TGs):Prop where
 run:PGs X es t
structure QI(X:Cx)(tg it:Expr)(w:TI):Prop where
 run:PI X tg it w
structure QO(X:Cx)(e:Option Expr)(t:TO):Prop where
 run:PO X e t
structure QOp(X:Cx)(f:Value->Value->Sem Value)(r:R2):Prop where
 run:OpR X f r
structure QCall(X:Cx)(f:Value)(r:List V->Hp->VK->Prop):Prop where
 run:CallR X f r
structure QIx(X:Cx)(r:R2):Prop where
 run:IxR X r
section
variable {rest:List Stmt}{t u:TS}{a b d:Expr}{ta tb tc td:TE}{tA tB':TT}
theorem qao9:QSs X [] tNext:=⟨pss_nil⟩
theorem qae9(h1:QS X st t):QSs X [st] t:=⟨pss_one h1.run⟩
theorem qab9(h1:QS X st t)(h2:QSs X rest u):QSs X (st::rest) (tSeq t u):=⟨pss_cons h1.run h2.run⟩
theorem qeq9(h1:QS X st t)(h2:QSs X rest u):QSs X (st::rest) (tCut t u):=⟨pss_cut h1.run h2.run⟩
theorem qai9(hN:X.N.Nodup)(hi:X.N[i]?=some x)(hx:Loc X.env.scope x)(he:QE X e te)(hs:swapsWith e (some (.Name x pos')) pos.line X.env=pure false:=by rfl)(hf:X.fn x=true\/X.env.scope.names.lookup x=some .local:=by first|exact .inl rfl|exact .inr rfl|assumption) :
  QS X (.Assign [.Name x pos'] e pos) (tAsg te (gName i)):=⟨ps_set hN hi hx he.run hs hf⟩
theorem qqd9(he:QE X e te)(hg:QG X tg g)(hs:swapsWithSole [tg] e pos.line X.env=pure false:=by rfl)(hw:swappedStores [tg] e X.env=pure none:=by rfl)
  (h1:(assignEach [tg] X.env).map (·.2)=[assign tg X.env]:=by rfl):QS X (.Assign [tg] e pos) (tAsg te g):=⟨ps_asg he.run hg.run hs hw h1⟩
theorem qs_if{a b:List Stmt}{tc:TT}(hc:QT X c tc)(ha:QSs X a t)(hb:QSs X b u):QS X (.If c a b pos) (tIfS tc t u):=⟨ps_if hc.run ha.run hb.run⟩
theorem qal9(he:QE X e te):QS X (.Return (some e) pos) (tRet te):=⟨ps_ret he.run⟩
theorem qs_retN:QS X (.Return none pos) tRetN:=⟨ps_retN⟩
theorem qbm9(he:QE X e te)(hs:swapsWith e none pos.line X.env=pure false:=by rfl):QS X (.Expr e pos) (tDrop te):=⟨ps_expr he.run hs⟩
theorem qii9{body:List Stmt}{tb:TS}(hp:PassesOwn (model X.prog X.w) X.A X.env X.xe)(hc:QT X c tt)(hb:QSs X body tb):QS X (.While c body [] pos) (tWhile tt tb):=⟨ps_while hp hc.run hb.run⟩
theorem qfk9{body:List Stmt}{tb:TS}(hp:PassesOwn (model X.prog X.w) X.A X.env X.xe)(hc:X.calm=true)(hi:QI X tg iter wi)(hg:QG X tg g)(hb:QSs X body tb)
  (hs:∀x,foldedSetIterable iter X.env x=pure x:=by intro _;rfl):QS X (.For tg iter body [] pos) (tFor wi g tb):=⟨ps_for hp hc hi.run hg.run hb.run hs⟩
theorem qam9(hN:X.N.Nodup)(hi:X.N[i]?=some x)(hx:Loc X.env.scope x)(hf:X.fn x=true\/X.env.scope.names.lookup x=some .local:=by first|exact .inl rfl|exact .inr rfl|assumption):QG X (.Name x pos) (gName i):=⟨pg_name hN hi hx hf⟩
theorem qdz9:QGs X [] gNil:=⟨pgs_nil⟩
theorem qaq9{t:TG}{u:TGs}(h1:QG X e t)(h2:QGs X es u)(hs:(assignEach (e::es) X.env).map (·.2)=assign e X.env::(assignEach es X.env).map (·.2):=by rfl):QGs X (e::es) (gCons t u):=⟨pgs_cons h1.run h2.run hs⟩
theorem qgx9{k:Nat}{t:TGs}(hc:X.calm=true)(h:QGs X es t)
  (hn:(assignEach es X.env).length=n:=by rfl) (hst:(assignEach es X.env).findIdx? (·.1)=none:=by rfl):QG X (.Tuple es k pos) (gTup X.K n t):=⟨pg_tup hc h.run hn hst⟩
theorem qg_sub{o i:Expr}{to ti:TE}{t:TSet}(ho:QE X o to)(hi:QE X i ti)(hs:PSet X t)
  (ha:∀v,assign (.Subscript o i pos) X.env v=(do
   let ov <- holding [v] (eval o X.env)
   let iv <- holding [v,ov] (eval i X.env)
   standAt pos
   holding [v,ov,iv] (setItem ov iv v)
   release [v,ov,iv] []):=by intro _;rfl):QG X (.Subscript o i pos) (gSub to ti t):=⟨pg_sub ho.run hi.run hs ha⟩
theorem qcp9{l:Expr}{tl:TE}(hl:QE X l tl):QI X tg l (iList X.K tl):=⟨pi_list hl.run⟩
theorem qi_tup{l:Expr}{tl:TE}(hl:QE X l tl):QI X tg l (iTup X.K tl):=⟨pi_tup hl.run⟩
theorem qfp9{tg:Expr}{ta:TA}(hg:Gl X "range")(hm:X.mg "range"=none)(ha:QA X [a] ta)(h:qbj9 a=true:=by rfl):QI X tg (.Call (.Name "range" p) [a] [] pos) (iRng1 ta):=⟨pi_range1 hg hm ha.run (se_of h)⟩
theorem qac9:QA X [] tNil:=⟨pa_nil⟩
theorem qa_c{t:TA}(ha:QE X e te)(hr:QA X es t)(h:qbj9 e=true:=by rfl):QA X (e::es) (tCons te t):=⟨pa_c ha.run hr.run h⟩
theorem qv(i:Nat)(hN:X.N[i]?=some x:=by rfl)(hv:Vis X.env.scope x:=by first|exact zaf rfl|exact zcr (zaf rfl)|exact zcr (zcr rfl))(hd:(x==("__debug__":Str))=false:=by decide)
  (hcd:(x==("__classdict__":Str))=false:=by decide):QE X (.Name x pos) (tVar i):=⟨pe_var hN hv hd hcd⟩
theorem qfh9{v:V}{u:Value}(hg:Gl X x)(hm:X.mg x=none)(hv:bootBuiltins x=some u)(r:RelV v u)(hn:x≠"__name__" := by decide)(hd:(x==("__debug__":Str))=false:=by decide):QE X (.Name x pos) (tC v):=⟨pe_bltn hg hm hv r hn hd⟩
theorem qad9{i:Int}:QE X (.Constant (.int i) j pos) (tC (.int i)):=⟨qpu9⟩
theorem qe_bl{b:Bool}:QE X (.Constant (.bool b) j pos) (tC (.bl b)):=⟨pe_bl⟩
theorem qes9:QE X (.Constant .none j pos) (tC .non):=⟨pe_non⟩
theorem qbe9:QE X (.Constant (.str x) j pos) (tC (.str x)):=⟨pe_str⟩
theorem qe_op{op:Operator}(ho:QOp X (binaryOp op) r)(ha:QE X a ta)(hb:QE X b tb):QE X (.BinOp a op b pos) (tOp r ta tb):=⟨pe_op ho.run ha.run hb.run⟩
theorem qhi9(ha:QE X a ta):QE X (.UnaryOp .USub a pos) (tUn (rU λ i=>.int (-i)) ta):=⟨pe_un un_neg ha.run⟩
theorem qe_not(ha:QE X a ta):QE X (.UnaryOp .Not a pos) (tNotV ta):=⟨pe_not ha.run⟩
theorem qe_isN(ha:QE X a ta):QE X (.Compare a [.Is] [.Constant .none j pos'] pos) (tIsN ta):=⟨pe_cmp (pc_isN ha.run)⟩
theorem qqv9(ha:QE X a ta):QE X (.Compare a [.IsNot] [.Constant .none j pos'] pos) (tNotN ta):=⟨pe_cmp (pc_notN ha.run)⟩
theorem qfq9(ha:QE X a ta):QT X (.Compare a [.Is] [.Constant .none j pos'] pos) (tB (tIsN ta)):=⟨pt_cmp (pc_isN ha.run)⟩
theorem qt_notN(ha:QE X a ta):QT X (.Compare a [.IsNot] [.Constant .none j pos'] pos) (tB (tNotN ta)):=⟨pt_cmp (pc_notN ha.run)⟩
theorem qfg9(ho:QOp X (compareOp op) r)(ha:QE X a ta)(hb:QE X b tb)(hm:behindInMarks op b=false):QE X (.Compare a [op] [b] pos) (tOp r ta tb):=⟨qne9 ho.run ha.run hb.run hm⟩
theorem qaj9(ho:QOp X (compareOp op) r)(ha:QE X a ta)(hb:QE X b tb)(hm:behindInMarks op b=false):QT X (.Compare a [op] [b] pos) (tTest (tOp r ta tb)):=⟨pt_cmpR ho.run ha.run hb.run hm⟩
theorem qpf9(ho:QOp X (compareOp op) r)(ho':QOp X (compareOp op') r')(ha:QE X a ta)(hb:QE X b tb)(hc:QE X c tc)(hm:lastMarks [op,op'] [b,c]=false:=by with_unfolding_all rfl) :
  QE X (.Compare a [op,op'] [b,c] pos) (tChain r r' ta tb tc):=⟨pe_chain ho.run ho'.run ha.run hb.run hc.run hm⟩
theorem qjy9(ho:QOp X (compareOp op) r)(ho':QOp X (compareOp op') r')(ha:QE X a ta)(hb:QE X b tb)(hc:QE X c tc)(hm:lastMarks [op,op'] [b,c]=false:=by with_unfolding_all rfl) :
  QT X (.Compare a [op,op'] [b,c] pos) (tTest (tChain r r' ta tb tc)):=⟨pt_chain ho.run ho'.run ha.run hb.run hc.run hm⟩
theorem qe_chain3{op'':CmpOp}{r'':R2}(ho:QOp X (compareOp op) r)(ho':QOp X (compareOp op') r')(ho'':QOp X (compareOp op'') r'')(ha:QE X a ta)(hb:QE X b tb)(hc:QE X c tc)(hd:QE X d td)(hm:lastMarks [op,op',op''] [b,c,d]=false:=by with_unfolding_all rfl) :
  QE X (.Compare a [op,op',op''] [b,c,d] pos) (tChain3 r r' r'' ta tb tc td):=⟨pe_chain3 ho.run ho'.run ho''.run ha.run hb.run hc.run hd.run hm⟩
theorem qke9{op:BoolOp}(h:QE X a ta):QE X (.BoolOp op [a] pos) ta:=⟨pe_one h.run⟩
theorem qhl9{rest:List Expr}(ha:QE X a ta)(hb:QE X (.BoolOp .And (b::rest) pos) tb):QE X (.BoolOp .And (a::b::rest) pos) (tAndV ta tb):=⟨pe_and ha.run hb.run⟩
theorem qgy9(ha:QT X a tA):QW X (.BoolOp .And [a] pos) tA:=⟨pw_and1 ha.run⟩
theorem qew9(ha:QT X a tA):QW X (.BoolOp .Or [a] pos) tA:=⟨pw_or1 ha.run⟩
theorem qjc9{rest:List Expr}(ha:QT X a tA)(hb:QW X (.BoolOp .And (b::rest) pos) tB'):QW X (.BoolOp .And (a::b::rest) pos) (tAnd tA tB'):=⟨pw_and ha.run hb.run⟩
theorem qw_or{rest:List Expr}(ha:QT X a tA)(hb:QW X (.BoolOp .Or (b::rest) pos) tB'):QW X (.BoolOp .Or (a::b::rest) pos) (tOr tA tB'):=⟨pw_or ha.run hb.run⟩
theorem QW.pt(h:QW X e tt):QT X e tt:=⟨h.run.pt⟩
theorem qdv9(ha:QT X a tA):QT X (.UnaryOp .Not a pos) (tNot tA):=⟨pt_not ha.run⟩
theorem qcb9(h:QE X e te)(he:∀whole,isTrue e X.env whole=(do let v <- whole;standAt e.pos;holding [v] (truthy v)):=by intro _;rfl):QT X e (tB te):=⟨pt_val h.run he⟩
theorem qfc9(h:QT X e tt):QT X e (tCutT tt):=⟨pt_cut h.run⟩
theorem qlm9(h:QE X e te):QE X e (tCutE te):=⟨pe_cut h.run⟩
theorem qbt9(hc:QT X c tA)(ha:QE X a ta)(hb:QE X b tb):QE X (.IfExp c a b pos) (tIf tA ta tb):=⟨pe_ifExp hc.run ha.run hb.run⟩
theorem qca9{t:TA}{x1:Nat}(h:QA X es t):QE X (.Tuple es x1 pos) (tTup t):=⟨pe_tup h.run⟩
theorem qdh9{t:TA}(h:QA X es t):QE X (.List es pos) (tLst t):=⟨pe_lst h.run⟩
theorem qe_ix(hr:QIx X r)(ha:QE X a ta)(hb:QE X b tb)(hs:PlainIx b):QE X (.Subscript a b pos) (tOp r ta tb):=⟨pe_ix hr.run ha.run hb.run hs⟩
theorem qfz9:QO X none tNoPart:=⟨po_none⟩
theorem qft9(h:QE X e te):QO X (some e) (tPart te):=⟨po_some h.run⟩
theorem qkh9{lo hi:Option Expr}{tl th:TO}{p2:Pos}(he:QE X e te)(hl:QO X lo tl)(hu:QO X hi th):QE X (.Subscript e (.Slice lo hi none p2) pos) (tSl (rSlL X.K) te tl th):=⟨qqs9 sl_list he.run hl.run hu.run⟩
theorem qe_cb{t:TA}{id:String}{r:List V->Hp->VK->Prop}(hc:QCall X (.builtin id) r)(hg:Gl X x)(hm:X.mg x=none)(hv:bootBuiltins x=some (.builtin id))(ha:QA X (e::es) t)(hn:x≠"__name__" := by decide)(hdb:(x==("__debug__":Str))=false:=by decide)
  (he:qbj9 e=true:=by rfl) (hpl:es.all qbj9=true:=by rfl):QE X (.Call (.Name x p) (e::es) [] pos) (tCB r t):=⟨pe_cb hc.run hg hm hv ha.run hn hdb he hpl⟩
theorem qe_ct{t:TA}{T:String}{r:List V->Hp->VK->Prop}(hc:QCall X (.type T) r)(hg:Gl X x)(hm:X.mg x=none)(hv:bootBuiltins x=some (.type T))(ha:QA X (e::es) t)(hn:x≠"__name__" := by decide)(hdb:(x==("__debug__":Str))=false:=by decide)
  (he:qbj9 e=true:=by rfl) (hpl:es.all qbj9=true:=by rfl):QE X (.Call (.Name x p) (e::es) [] pos) (tCB r t):=⟨pe_ct hc.run hg hm hv ha.run hn hdb he hpl⟩
theorem qe_fn{t:TA}(C:Callee X.prog X.w X.K X.mg X.base k x ps sp)(hr:Room k X.A)(hg:Gl X x)(ha:QA X (e::es) t)(hdb:(x==("__debug__":Str))=false:=by decide)
  (he:qbj9 e=true:=by rfl) (hpl:es.all qbj9=true:=by rfl):QE X (.Call (.Name x p) (e::es) [] pos) (tCall sp [] E0 t):=⟨pe_fn C hr hg ha.run hdb he hpl⟩
theorem qbh9{o:Expr}{to:TE}{t:TA}{apos:Pos}(ho:QE X o to)(ha:QA X [e] t)(h:qbj9 e=true:=by rfl)(hbase:attributeBase o "append" X.env (eval o X.env)=eval o X.env:=by rfl)(hline:(apos.endLine==pos.line)=true:=by rfl) :
  QE X (.Call (.Attribute o "append" apos) [e] [] pos) (tBM X.K "list" rAppend to t) :=
 ⟨pe_bm PySem.F.plainAttrs_list PySem.F.slot_list_append PySem.F.type_list_append qhy9 ho.run ha.run hbase (by rw[se_of h];rfl) hline (se_of h) rfl⟩
end
theorem qas9:QOp X (binaryOp .Add) (rI0 λ i j=>.int (i+j)):=⟨op_add⟩
theorem qcc9:QOp X (binaryOp .Sub) (rI0 λ i j=>.int (i-j)):=⟨op_sub⟩
theorem qfy9:QOp X (binaryOp .Mult) (rI CMul λ i j=>.int (i*j)):=⟨op_mul⟩
theorem qbd9:QOp X (binaryOp .FloorDiv) (rI CDivB λ i j=>.int (i/j)):=⟨op_fdivB⟩
theorem qay9:QOp X (binaryOp .Mod) (rI (λ _ j=>0<j) λ i j=>.int (i%j)):=⟨op_mod⟩
theorem qkt9:QOp X (binaryOp .Pow) (rI CPow λ i j=>.int (i ^ j.toNat)):=⟨op_pow⟩
theorem qbr9:QOp X (compareOp .Eq) rEq:=⟨op_eq⟩
theorem qoo9:QOp X (compareOp .NotEq) rNe:=⟨op_ne⟩
theorem qff9:QOp X (compareOp .Lt) (rI0 λ i j=>.bl (decide (i<j))):=⟨op_lt⟩
theorem qgm9:QOp X (compareOp .LtE) (rI0 λ i j=>.bl (decide (i<=j))):=⟨op_le⟩
theorem qhb9:QOp X (compareOp .Gt) (rI0 λ i j=>.bl (decide (j<i))):=⟨op_gt⟩
theorem qop_ge:QOp X (compareOp .GtE) (rI0 λ i j=>.bl (decide (j<=i))):=⟨op_ge⟩
theorem qop_eqD(hu:X.A.units+64<cLine):QOp X (compareOp .Eq) (rEqD X.K):=⟨op_eqD hu⟩
theorem qak9:QIx X (rIxL X.K):=⟨ix_list⟩
theorem qan9:QIx X (rIxT X.K):=⟨qrg9⟩
theorem qau9:QCall X (.builtin "len") (λ xs H Q=>∃p ys,xs=[.ref p]/\(SqL X.K H p ys\/SqT X.K H p ys)/\Q (.int ys.length) H):=⟨qmd9⟩
theorem qjv9(hc:X.calm=true):QCall X (.builtin "max") (λ xs H Q=>∃i j,xs=[.int i,.int j]/\Q (.int (if j>i then j else i)) H):=⟨call_max2 hc⟩
theorem qhd9(hc:X.calm=true):QCall X (.builtin "min") (λ xs H Q=>∃i j,xs=[.int i,.int j]/\Q (.int (if j<i then j else i)) H):=⟨call_min2 hc⟩
theorem qch9:QCall X (.builtin "isinstance") (λ xs H Q=>∃x T t b,xs=[x,.ty T]/\TyOf X.K H x t/\W.kitOne X.K t (.type T)=some b/\Q (.bl b) H):=⟨call_isi⟩
theorem qfm9(hc:X.calm=true):QCall X (.builtin "all") (λ xs H Q=>∃(p:Addr)(bs:List Bool),xs=[.ref p]/\SqL X.K H p (bs.map V.bl)/\Q (.bl (bs.all id)) H):=⟨call_all hc⟩
theorem qih9:QCall X (.type "list") (λ xs H Q=>∃p ys,xs=[.ref p]/\(SqL X.K H p ys\/SqT X.K H p ys)/\∀l,H l=none->Q (.ref l) (upd H l (.lst ys))):=⟨qme9⟩
theorem Fun.okQ{qual:Str}{f:Addr}(F:Fun K x qual st f fd)(S:FnScope N ps (qaa9 st))(len:∀vs H Q E,sp vs H Q E->vs.length=ps.length)
  (hbody:∀(cdv:Value)(A:Around)(outer:List Env)(s:Shared)(H:Hp)(vs:List V)(Q:VK)(E:XK),Room k (A.deeper (envOfC qual (qaa9 st) s.heap.objs.size f cdv))->sp vs H Q E ->
   ∃t,QSs (cxOf CX0 P w K mg base N qual (qaa9 st) f cdv A outer s H E).nox (qag9 st) t/\t { nx:=λ _ H'=>Q .non H',rt:=Q } (start N vs) H):FnOk P w K mg base CX0 (k+1) f fd ps sp:=by
 refine F.ok S len λ cdv A outer s H vs Q E hr h=>?_
 obtain⟨t,h1,h2⟩:=hbody cdv A outer s H vs Q E hr h
 exact⟨t,h1.run,h2⟩
structure SubL(cl cells:List (Str×Addr)):Prop where
 to:∀x c,cl.lookup x=some c->cells.lookup x=some c
theorem subN{cells:List (Str×Addr)}:SubL [] cells:=⟨λ _ _ e=>nomatch e⟩
theorem subC{c:Addr}{cl cells:List (Str×Addr)}(h:cells.lookup x=some c)(r:SubL cl cells):SubL ((x,c)::cl) cells:=⟨λ y d e=>by
 rw[zck] at e
 cases q:y==x with
 |true=>rw[q] at e;cases e;rw[eq_of_beq q];exact h
 |false=>rw[q] at e;exact r.to y d e⟩
section
variable {cl:List (Str×Addr)}{elt:Expr}
theorem qer9(N':List Str)(caps:List (Option Nat))(B:BlkOk X N' scope cl caps)(hc:X.calm=true)(hi:QI X tg iter wi)(hg:∀C s0 H0 fp,QG (blk X N' scope cl C s0 H0 fp) tg g)(he:∀C s0 H0 fp,QE (blk X N' scope cl C s0 H0 fp) elt te)
  (hs:∀x,foldedSetIterable iter X.env x=pure x:=by intro _;rfl):QE X (.ListComp elt [⟨tg,iter,[],0⟩] scope pos) (tComp wi caps g tTrue te):=⟨pe_comp B hc hi.run (λ C s0 H0 fp=>(hg C s0 H0 fp).run) (λ C s0 H0 fp=>(he C s0 H0 fp).run) hs⟩
theorem qe_compIf(N':List Str)(caps:List (Option Nat))(B:BlkOk X N' scope cl caps)(hc:X.calm=true)(hi:QI X tg iter wi)(hg:∀C s0 H0 fp,QG (blk X N' scope cl C s0 H0 fp) tg g)(ht:∀C s0 H0 fp,QT (blk X N' scope cl C s0 H0 fp) c tt)
  (he:∀C s0 H0 fp,QE (blk X N' scope cl C s0 H0 fp) elt te) (hs:∀x,foldedSetIterable iter X.env x=pure x:=by intro _;rfl):QE X (.ListComp elt [⟨tg,iter,[c],0⟩] scope pos) (tComp wi caps g tt te) :=
 ⟨pe_compIf B hc hi.run (λ C s0 H0 fp=>(hg C s0 H0 fp).run) (λ C s0 H0 fp=>(ht C s0 H0 fp).run) (λ C s0 H0 fp=>(he C s0 H0 fp).run) hs⟩
end
theorem qsb9(K:W.Frag)(hK:X.K=K){k:Nat}{t:TGs}(hc:X.calm=true)(h:QGs X es t)
  (hn:(assignEach es X.env).length=n:=by rfl) (hst:(assignEach es X.env).findIdx? (·.1)=none:=by rfl):QG X (.Tuple es k pos) (gTup K n t):=by
 subst hK
 exact qgx9 hc h hn hst
theorem qnv9(K:W.Frag)(hK:X.K=K):QIx X (rIxL K):=by subst hK;exact qak9
theorem qmv9(K:W.Frag)(hK:X.K=K):QIx X (rIxT K):=by subst hK;exact qan9
inductive tClo(i:Nat)(f:Addr)(sp:Sp)(t:TA)(σ:St)(H:Hp)(Q:VK):Prop
 |mk  : σ[i]?=some (some (.ref f))->(t σ H λ vs H1=>sp (vs++[]) H1 Q E0)->tClo i f sp t σ H Q
section
variable {f:Addr}
theorem pe_clo(i:Nat)(G:FnOk X.prog X.w X.K X.mg X.base CX0 k f fd ps sp)(hr:Room k X.A)(hb:Binds X.K fd ps [])(ho:W.FnAt f X.base)(ha:PA X (e::es) t)(hN:X.N[i]?=some x:=by rfl)
  (hv:Vis X.env.scope x:=by first|exact zaf rfl|exact zcr (zaf rfl)|exact zcr (zcr rfl)) (hd:(x==("__debug__":Str))=false:=by decide) (hcd:(x==("__classdict__":Str))=false:=by decide)
  (he:starEach (e::es) X.env=(false,eval e X.env)::starEach es X.env:=by rfl) (hpl:(backTo pos (starEach es X.env)).any (·.1)=false:=by rfl) :
  PE X (.Call (.Name x p) (e::es) [] pos) (tClo i f sp t):=by
 intro pins s σ H Q I h
 obtain⟨hσ,h⟩:=h
 have fa:∀{H':Hp}{s':Shared},Inv X pins σ H' s'->W.FnAt f s'.heap:=λ {H' s'} J=>by
  obtain⟨oc,od,fd',sl,e0⟩:=ho
  exact⟨oc,od,fd',sl,J.bk _ _ e0⟩
 refine wpAny_Call_Name_kw (thn (pe_var (pos:=p) hN hv hd hcd pins s σ H (λ v H'=>v=.ref f/\H'=H) I ⟨_,hσ,rfl,rfl⟩) λ u s1 z9=>?_)
 obtain⟨v,H',I1,r,e1,e2⟩ := z9
 subst e1 e2
 cases r
 refine W.callWith_F (fa I1) (thn (ha pos pins s1 σ H' _ I1 h) λ us s2 ⟨vs,H2,I2,r2,q⟩=>⟨fa I2,?_⟩) he hpl
 exact run_fn G hr hb .nil pass0 I2 r2 q
end
def CodeQ(c:Addr)(qual:Str):Heap->Prop:=λ h=>h.CodeRec (.ref c) qual
def cxLam(P:Program)(w:World)(K:W.Frag)(mg:Str->Option Value)(base:Heap)(N:List Str)(qual:Str)(scope:Scope)(f:Addr)(cd:Value)(clos:List (Str×Addr))(A:Around)(outer:List Env)(s:Shared)(H:Hp):Cx where
 prog:=P
 w:=w
 K:=K
 mg:=mg
 base:=base
 A:=A.deeper (W.envX qual scope s.heap.objs.size f cd clos)
 N:=N
 s₀:=s
 H₀:=H
 env:=W.envX qual scope s.heap.objs.size f cd clos
 outer:=outer
 stack:=W.envX qual scope s.heap.objs.size f cd clos::outer
 ex:=[]
 calm:=true
 fn:=λ _=>false
 pn:=[]
 xe:=λ _ _=>False
structure LamScope(N ps:List Str)(sc:Scope)(clos:List (Str×Addr)):Prop where
 kind:sc.kind=.function
 co:sc.isCoroutine=false
 gen:sc.isGenerator=false
 nd:ps.Nodup
 pre:N.take ps.length=ps
 par:∀x∈ps,sc.names.lookup x=some .local
 nocell:∀y∈sc.names,y.2 ≠ .cell
 has:∀x,sc.names.lookup x=some .free->∃c,clos.lookup x=some c
 inj:∀x y c,clos.lookup x=some c->clos.lookup y=some c->x=y
def qkj9(base:Heap)(sc:Scope)(clos:List (Str×Addr))(N ps:List Str)(cs:List V):Prop :=
 N.length=ps.length+cs.length/\(∀x c,clos.lookup x=some c->∃v,base.IsCell c v) /\
 ∀i x v,N[ps.length+i]?=some x->cs[i]?=some v->sc.names.lookup x=some .free/\∃c u,clos.lookup x=some c/\base.IsCell c (some u)/\RelV v u
theorem qjt9:∀{ps:List Str}{us:List Value}{i:Nat}{x:Str}{u:Value},ps.Nodup->ps[i]?=some x->us[i]?=some u->((ps.zip us).reverse.lookup x)=some u:=by
 intro ps
 induction ps with
 |nil=>intro us i x u _ h;cases i<;>cases h
 |cons p ps ih =>
  intro us i x u nd h1 h2
  cases us with
  |nil=>cases i<;>cases h2
  |cons w us =>
   rw[List.zip_cons_cons,zgg,List.lookup_append]
   cases i with
   |zero =>
    have e1:p=x:=Option.some.inj h1
    have e2:w=u:=Option.some.inj h2
    subst e1 e2
    have hn:(ps.zip us).reverse.lookup p=none:=by
     rw[List.lookup_eq_none_iff]
     intro q hq
     have hq':=List.mem_reverse.mp hq
     have:=(zdy (a:=q.1) (b:=q.2) hq').1
     exact bne_iff_ne.mpr λ e=>(zbp.mp nd).1 (by rw[e];exact this)
    rw[hn]
    simp
   |succ i =>
    have q:=ih (zbp.mp nd).2 (by simpa using h1) (by simpa using h2)
    rw[q]
    rfl
theorem lam_ok{f:Addr}{name qual:Str}{params:Arguments}{body:Expr}{sc:Scope}{clos:List (Str×Addr)}{pm ctv:Value}{c':Addr}{cs:List V}
  (ho:base.get? f=some (W.kla_obj name qual params body sc clos pm c' ctv)) (hcd:∀vs H Q E,sp vs H Q E->H c'=some (.ext (CodeQ c' qual))) (S:LamScope N ps sc clos) (C:qkj9 base sc clos N ps cs) (len:∀vs H Q E,sp vs H Q E->vs.length=ps.length)
  (hbody:∀(A:Around)(outer:List Env)(s:Shared)(H:Hp)(vs:List V)(Q:VK)(E:XK),Room k (A.deeper (W.envX qual sc s.heap.objs.size f (.ref c') clos))->sp vs H Q E ->
   ∃t,PE (cxLam P w K mg base N qual sc f (.ref c') clos A outer s H) body t/\t (vs.map some++cs.map some) H Q) :
  FnOk P w K mg base CX0 (k+1) f (W.kla_fn name qual params body sc clos pm (.ref c') ctv) ps sp:=by
 refine⟨len,λ A outer s H args us vs Q E hr e0 hb r hsp=>?_⟩
 have hl:=len _ _ _ _ hsp
 have bk:∀b o,base.get? b=some o->s.heap.get? b=some o:=λ b o e=>(e0.bs b o e).1
 have lim:s.heap.NoLimit:=e0.mod.nolimit.keeps bk
 refine W.kla_callFunE hr.depth (bk _ _ ho) rfl S.co S.gen rfl (e0.hok c' _ (hcd _ _ _ _ hsp)).1 (hb _ _ _ _ ?_)
 refine wpAny_newFunctionEnv S.nocell (λ y hy=>S.par y.1 (zdy (a:=y.1) (b:=y.2) hy).1) (λ h1 hn1 sb1=>?_) S.kind
 have k1:∀b o,s.heap.get? b=some o->h1.get? b=some o:=λ b o e=>sb1.extBut b o (zbd (zas e)) (zae _ e)
 refine⟨lim.keeps k1,W.kla_codeExpr ?_⟩
 obtain⟨t,ht,hq⟩:=hbody A outer s H vs Q E (hr.deeper _) hsp
 have ul:us.length=ps.length:=by rw[<- r.length];exact hl
 have I:Inv (cxLam P w K mg base N qual sc f (.ref c') clos A outer s H) [] (vs.map some++cs.map some) H { s with heap:=h1,toks:=s.toks+(ps.zip us).length }:=by
  have noA:∀b:Addr,b∉(cxLam P w K mg base N qual sc f (.ref c') clos A outer s H).ex:=λ b z=>absurd (show b∈([]:List Addr) from z) (by simp)
  have cl:∀x c,clos.lookup x=some c->∃v,base.IsCell c v:=C.2.1
  refine⟨⟨e0.mod,S.kind,rfl,rfl,zao _,S.inj,λ y hy=>?_,λ _ _ z=>(nomatch z),λ _=>hr.hd,Around.frames_deeper e0.frames,.inr ⟨rfl,rfl⟩,λ b z=>absurd z (noA b),e0.bs,e0.bsz,λ b _ _=>noA b,λ b z=>absurd z (noA b),e0.funs,e0.frf⟩,
   rfl,e0.bare,Un.kept k1,⟨_,hn1,λ i y v h1' h2 h3=>?_⟩,λ y c h=>?_,e0.hok.fresh (zao _),λ y c h=>?_,λ p hp=>absurd (show p∈([]:List (Addr×Obj)) from hp) (by simp),e0.hok.kept k1,?_⟩
  ·have hy:sc.names.lookup y=some .cell\/sc.names.lookup y=some .free:=hy
   rcases hy with hy|hy
   ·exact absurd rfl (S.nocell _ (PySem.mem_of_lookup hy))
   ·exact S.has y hy
  ·by_cases hi:i<vs.length
   ·rw[zal (by simpa using hi),zap] at h2
    have ha:vs[i]?=some v:=by
     cases e:vs[i]? with
     |none=>rw[e] at h2;cases h2
     |some a=>rw[e] at h2;cases h2;rfl
    obtain⟨u,hu,rv⟩:=r.get ha
    have hp:ps[i]?=some y:=by
     rw[<- S.pre,zdr ⋯]
     exact h1'
    exact⟨u,rv,.inl ⟨S.par y (zaj hp),qjt9 S.nd hp hu⟩⟩
   ·rw[zak (by simpa using hi),zap,zad] at h2
    have ha:cs[i-vs.length]?=some v:=by
     cases e:cs[i-vs.length]? with
     |none=>rw[e] at h2;cases h2
     |some a=>rw[e] at h2;cases h2;rfl
    have hN:N[ps.length+(i-vs.length)]?=some y:=by
     rw[<- hl,show vs.length+(i-vs.length)=i by omega]
     exact h1'
    obtain⟨fr,c,u,e1,e2,rv⟩:=C.2.2 _ y v hN ha
    exact⟨u,rv,.inr ⟨.inr fr,c,e1,(e2.keeps bk).keeps k1⟩⟩
  ·obtain⟨v,q⟩:=cl y c h
   exact⟨v,(q.keeps bk).keeps k1⟩
  ·obtain⟨v,o,q,_⟩:=cl y c h
   exact(e0.bs _ _ q).2
  ·show(vs.map some++cs.map some).length=N.length
   rw[zam,zad,zad,C.1,hl]
 refine wpAny_mono (ht [] _ _ H Q I hq) (λ u s' hs=>?_) λ _ _ z=>z.elim
 obtain⟨v,H',J,rv,q⟩:=hs
 exact⟨v,H',J.os,J.bare,J.base,J.hok,rv,q⟩
def TabOk(H:Hp)(P:Addr)(pos:Pos)(qual:Str):Prop :=
 ∃ps:Array Value,H P=some (.tbl ps)/\TriplesOk ps.toList/\(codeAmong pos ps.toList=none\/∃c,codeAmong pos ps.toList=some (.ref c)/\H c=some (.ext (CodeQ c qual)))
def SameT(P:Addr)(H H':Hp):Prop:=∀b o,H b=some o->b≠P->H' b=some o
def BMain(mg:Str->Option Value)(base:Heap):Prop:=∃bm ob,mg "__builtins__"=some (.ref bm)/\bm≠builtinsNs/\base.get? bm=some ob/\ob.cls=.type "module" /\ ob.dict=some builtinsNs/\ob.data=.plain
def fixed(X:Cx)(H:Hp)(h:Heap):Heap:=W.hideAll h (trk h H++frs X.stack)
theorem mem_trk{h:Heap}:b∈trk h H↔b<h.objs.size/\(H b).isSome=true:=by
 unfold trk
 rw[zfq,zdh]
theorem qgi9(e:s.heap.get? b=some o)(n:H b=none)(nf:b∉frs X.stack):(fixed X H s.heap).get? b=some o :=
 W.hideAll_get _ e λ z=>by
  rcases zav.mp z with z|z
  ·have:=(mem_trk.mp z).2
   rw[n] at this
   cases this
  ·exact nf z
theorem of_fixed(e:(fixed X H s.heap).get? b=some o):s.heap.get? b=some o/\H b=none:=by
 have e1:=W.of_hideAll _ e
 refine⟨e1,?_⟩
 cases q:H b with
 |none=>rfl
 |some u =>
  have:(fixed X H s.heap).get? b=none:=W.hideAll_none _ (zbf _ (mem_trk.mpr ⟨zas e1,by rw[q];rfl⟩))
  rw[this] at e
  cases e
theorem Inv.base_fixed(I:Inv X pins σ H s):∀b o,X.base.get? b=some o->(fixed X H s.heap).get? b=some o:=λ b o e=>by
 obtain⟨e1,n⟩:=I.bs b o e
 refine qgi9 e1 n λ z=>?_
 have:=(I.stack.mem z).1
 rw[this] at e
 cases e
theorem Inv.env_fixed(I:Inv X pins σ H s):Env0 X.prog X.w X.K X.mg (fixed X H s.heap) X.A X.stack s H:=by
 have k:=I.base_fixed
 obtain⟨mb,h1,h2⟩:=I.mod.blt
 refine⟨I.ok.frames,⟨I.mod.kin.keeps k,I.mod.glob.keeps k,⟨mb,h1.keeps k,h2⟩,I.mod.nolimit.keeps k⟩,λ b o e=>of_fixed e,zer (W.hideAll_size _ _),?_,I.stkFree,I.hok,I.bare⟩
 refine W.funFrames_hide I.stack λ env he a ha=>zaq _ ?_
 exact zew.mpr ⟨env,he,ha⟩
inductive tLam(i:Nat)(P:Addr)(pos:Pos)(qual:Str)(te:TE)(spG:V->Addr->Addr->Sp)(σ:St)(H:Hp)(Q:VK):Prop
 |mk (v:_):σ[i]?=some (some v)->(te σ H λ w H1=>TabOk H1 P pos qual/\∀fl c' H2,SameT P H1 H2->TabOk H2 P pos qual->H2 c'=some (.ext (CodeQ c' qual))->spG v fl c' [w,.ref fl] H2 Q E0)->tLam i P pos qual te spG σ H Q
section
variable {y:Str}{g c P cy:Addr}{gd:FuncData}{ps2:List Str}{spG:V->Addr->Addr->Sp}{e1 body:Expr}{params:Arguments}{sc:Scope}{lpos:Pos}{clos:List (Str×Addr)}
theorem qig9(i:Nat)(hr:Room k X.A)(hg:Gl X x)(hm:X.mg x=some (.ref g))(hk:W.keepIn X.K (.ref g)=true)(hbG:Binds X.K gd ps2 [])(hl2:ps2.length=2)(hcode:X.env.code=.ref c)(hC:W.CodeHd X.base c P)(hB:BMain X.mg X.base)
  (hcl:closureFor sc X.env=pure clos) (hN:X.N[i]?=some y) (hky:X.env.kindOf y=some .cell) (hvy:Vis X.env.scope y) (hcy:X.env.cells.lookup y=some cy) (hfy:X.fn y=true) (hcly:clos.lookup y=some cy) (honly:∀z d,clos.lookup z=some d->z=y/\d=cy) (hNp:N=ps++[y]) (hsy:sc.names.lookup y=some .free)
  (h1:PE X e1 te)
  (G:∀(base':Heap)(fl c':Addr)(v:V)(pm ctv:Value),base'.get? fl=some (W.kla_obj "<lambda>" (X.env.qual++"<lambda>") params body sc clos pm c' ctv)->qkj9 base' sc clos N ps [v]->FnOk X.prog X.w X.K X.mg base' CX0 k g gd ps2 (spG v fl c'))
  (hdb:(x==("__debug__":Str))=false:=by decide) (hdef:defaultsOf params X.env=([],[]):=by rfl)
  (he:starEach [e1,.Lambda params body sc lpos] X.env=(false,eval e1 X.env)::starEach [.Lambda params body sc lpos] X.env:=by rfl) (he2:starEach [.Lambda params body sc lpos] X.env=(false,eval (.Lambda params body sc lpos) X.env)::starEach [] X.env:=by rfl)
  (hpl:(backTo pos (starEach [.Lambda params body sc lpos] X.env)).any (·.1)=false:=by rfl) :
  PE X (.Call (.Name x p) [e1,.Lambda params body sc lpos] [] pos) (tLam i P lpos (X.env.qual++"<lambda>") te spG):=by
 intro pins s σ H Q I h
 obtain⟨v,hv,h⟩:=h
 refine wpAny_Call_Name_kw (qkr9 I hg hm ?_ hdb)
 refine W.callWith_K (h₀:=X.base) I.ok.mod.kin hk ?_ he hpl
 rw[he]
 show wpAny _ _ (spliced ((false,eval e1 X.env)::backTo pos (starEach [.Lambda params body sc lpos] X.env))) _ _ s
 refine Calls.spliced_cons (thn (h1 pins s σ H _ I h) λ u1 s1 z9=>?_)
 obtain⟨w1,H1,I1,r1,tab,q1⟩ := z9
 rw[he2]
 show wpAny _ _ (spliced ((false,eval (.Lambda params body sc lpos) X.env)::backTo pos (starEach [] X.env))) _ _ s1
 refine Calls.spliced_cons (W.kla_eval hdef ?_)
 have cellAt:∀{H2:Hp}{s2:Shared},Inv X pins σ H2 s2->∃u,RelV v u/\s2.heap.IsCell cy (some u):=λ {H2 s2} J=>by
  obtain⟨m,_,hl⟩:=J.loc
  obtain⟨u,ru,lk⟩:=hl i y v hN hv hvy
  rcases lk with⟨z,_⟩|⟨_,d,e',q⟩
  ·rw[hky] at z;cases z
  ·rw[hcy] at e'
   cases e'
   exact⟨u,ru,q⟩
 have fin:∀(fl c':Addr)(pm ctv:Value)(H2:Hp)(s2:Shared),Inv X pins σ H2 s2->SameT P H1 H2->TabOk H2 P lpos (X.env.qual++"<lambda>")->H2 c'=some (.ext (CodeQ c' (X.env.qual++"<lambda>"))) ->
   s2.heap.get? fl=some (W.kla_obj "<lambda>" (X.env.qual++"<lambda>") params body sc clos pm c' ctv)->H2 fl=none->fl∉frs X.stack ->
   wpAny (model X.prog X.w) X.A (spliced (backTo pos (starEach [] X.env))) (λ vs s3=>X.K.In s3.heap/\wpAny (model X.prog X.w) X.A (call (.ref g) ([]++(u1 :: .ref fl::vs))) (EP X pins σ Q) X.xe s3) X.xe s2:=by
  intro fl c' pm ctv H2 s2 I2 sm tb hc' hfl nfl nfs
  refine Calls.spliced_nil ⟨I2.kIn,?_⟩
  have hb1:=qgi9 (X:=X) hfl nfl nfs
  obtain⟨u,ru,oc,q1c,q2c⟩:=cellAt I2
  have nc:cy∉frs X.stack:=λ z=>by
   rcases zah.mp (I2.stkSub cy z) with e|e
   ·exact I2.cne y cy hcy e
   ·have lo:=I2.ok.cab y cy hfy hcy
    obtain⟨_,o,eo,_⟩:=I2.ok.funs.mem e
    exact absurd (zay (zas eo) lo) (zca _)
  have hb2:=qgi9 (X:=X) q1c (I2.freeC y cy hcy) nc
  have ca:qkj9 (fixed X H2 s2.heap) sc clos N ps [v]:=by
   refine⟨by rw[hNp,zam];rfl,λ z d e=>?_,λ j z v' e1 e2=>?_⟩
   ·obtain⟨rfl,rfl⟩:=honly z d e
    exact⟨some u,oc,hb2,q2c⟩
   ·cases j with
    |zero =>
     have e3:v=v':=Option.some.inj e2
     subst e3
     have e4:y=z:=by
      rw[hNp,Nat.add_zero,zak (zao _),zed] at e1
      exact Option.some.inj e1
     subst e4
     exact⟨hsy,cy,u,hcly,⟨oc,hb2,q2c⟩,ru⟩
    |succ j=>cases e2
  have F:=G _ fl c' v pm ctv hb1 ca
  have hsp:=q1 fl c' H2 sm tb hc'
  have bnd:BindsTo s2 gd ⟨[u1,.ref fl],[]⟩ (ps2.zip [u1,.ref fl]):=by
   have:=hbG s2 [u1,.ref fl] I2.kIn (by rw[hl2];rfl)
   simpa using this
  refine wpAny_call (codeAny_mono (F.run X.A X.stack s2 H2 ⟨[u1,.ref fl],[]⟩ [u1,.ref fl] [w1,.ref fl] Q E0 hr I2.env_fixed bnd (.cons r1 (.cons rfl .nil)) hsp) λ r s' hq=>?_)
  cases r with
  |error e=>exact False.elim hq
  |ok fl' =>
   cases fl' with
   |ret u=>exact I2.after hq
   |next=>exact False.elim hq
   |brk=>exact False.elim hq
   |cont=>exact False.elim hq
 obtain⟨bm,ob,b1,b2,b3,b4,b5,b6⟩:=hB
 obtain⟨ps0,hP,ht,hor⟩:=tab
 have hPo:s1.heap.get? P=some (W.tabObj ps0):=I1.hok P _ hP
 have notP:∀b o,X.base.get? b=some o->b≠P:=λ b o e z=>by
  have:=(I1.bs b o e).2
  rw[z,hP] at this
  cases this
 obtain⟨og,esg,epg,eg,dg,rg⟩:=I1.mod.glob
 have hbA:s1.heap.BuiltinsAt X.mg P:=⟨bm,ob,b1,b2,(λ z=>by rw[z,eg] at b3;cases b3;rw[b6] at dg;cases dg),notP _ _ b3,I1.bk _ _ b3,b4,b5,b6⟩
 have gl:s1.heap.Ns mainGlobals X.mg:=I1.mod.glob.keeps I1.bk
 rcases hor with hnf|⟨c',hf,hc'⟩
 ·refine W.kla_makeFunction (mg:=X.mg) hcl I1.ok.glob gl hcode (hC.keeps I1.bk) hPo ht hnf (notP _ _ eg) hbA λ c' ctv h' tk hx hge hlt hrec htb=>?_
  have ltP:P<s1.heap.objs.size:=zas hPo
  have neP:P≠c':=zbd (zay ltP hge)
  have nc':H1 c'=none:=I1.hok.fresh hge
  have old:∀b o,b≠P->s1.heap.get? b=some o->(h'.push (W.kla_obj "<lambda>" (X.env.qual++"<lambda>") params body sc clos ((X.mg "__name__").getD .none) c' ctv)).get? b=some o:=λ b o n e=>zae _ (hx b o n e)
  have kP:∀b o,H1 b=some o->(∀z,o ≠ .tbl z)->b≠P:=λ b o e n z=>by rw[z,hP] at e;exact n ps0 (Option.some.inj e).symm
  have up:∀b o,H1 b=some o->b≠P->upd (upd H1 c' (.ext (CodeQ c' (X.env.qual++"<lambda>")))) P (.tbl (ps0 ++ #[rawInt lpos.line,rawInt lpos.col,.ref c'])) b=some o:=λ b o e n=>by
   rw[qap9 n,qap9 (qaz9 e nc')]
   exact e
  have upN:∀b,H1 b=none->b≠c'->upd (upd H1 c' (.ext (CodeQ c' (X.env.qual++"<lambda>")))) P (.tbl (ps0 ++ #[rawInt lpos.line,rawInt lpos.col,.ref c'])) b=none:=λ b e n=>by
   rw[qap9 (λ z=>by rw[z,hP] at e;cases e),qap9 n]
   exact e
  have u:Un X.fs [] H1 (upd (upd H1 c' (.ext (CodeQ c' (X.env.qual++"<lambda>")))) P (.tbl (ps0 ++ #[rawInt lpos.line,rawInt lpos.col,.ref c']))) s1.heap (h'.push (W.kla_obj "<lambda>" (X.env.qual++"<lambda>") params body sc clos ((X.mg "__name__").getD .none) c' ctv)):=by
   have nP:∀b,H1 b=none->b≠P:=λ b n z=>by rw[z,hP] at n;cases n
   refine⟨λ b o e n _ _=>old b o (nP b n) e,λ b o e n _ _=>⟨o.slots,old b o (nP b n) e⟩,λ b o e n _=>upN b n (zbd (zay (zas e) hge)),λ b o e _=>?_,λ b xs e=>up b _ e (kP b _ e λ _ z=>nomatch z),λ b o w e=>up b _ e (kP b _ e λ _ z=>nomatch z),λ b pz e=>?_⟩
   ·by_cases hb:b=P
    ·rw[hb]
     exact⟨_,zae _ htb⟩
    ·exact⟨o,old b o hb e⟩
   ·by_cases hb:b=P
    ·rw[hb] at e ⊢
     rw[hP] at e
     cases e
     exact⟨_,qaf9⟩
    ·exact⟨#[],by rw[up b _ e hb];simp⟩
  have hok:HOk X.prog X.w (upd (upd H1 c' (.ext (CodeQ c' (X.env.qual++"<lambda>")))) P (.tbl (ps0 ++ #[rawInt lpos.line,rawInt lpos.col,.ref c']))) (h'.push (W.kla_obj "<lambda>" (X.env.qual++"<lambda>") params body sc clos ((X.mg "__name__").getD .none) c' ctv)):=by
   intro b o e
   by_cases hb:b=P
   ·rw[hb,qaf9] at e
    cases e
    rw[hb]
    exact zae _ htb
   ·rw[qap9 hb] at e
    by_cases hb2:b=c'
    ·rw[hb2,qaf9] at e
     cases e
     rw[hb2]
     obtain⟨c2,oc,vs,tq,ee,hoc,rest⟩:=hrec
     cases ee
     refine⟨⟨_,oc,vs,tq,U,zae _ hoc,rest⟩,⟨oc,zae _ hoc⟩,λ h1 h2 hq hk=>?_⟩
     obtain⟨c3,o3,v3,t3,e3,g3,r3⟩:=hq
     cases e3
     exact⟨_,o3,v3,t3,U,hk _ g3,r3⟩
    ·rw[qap9 hb2] at e
     refine(I1.hok b o e).stay (λ d z hd q=>old d z ?_ q) (λ d q=>up d _ q (kP d _ q λ _ z=>nomatch z)) λ d xs q=>up d _ q (kP d _ q λ _ z=>nomatch z)
     rcases hd with hd|hd
     ·rw[hd];exact hb
     ·exact kP d _ hd λ _ z=>nomatch z
  have I2:=I1.un (t':=tk) u hok
  refine fin h'.objs.size c' _ ctv _ _ I2 (λ b o e n=>up b o e n) ⟨_,qaf9,?_,.inr ⟨c',?_,?_⟩⟩ ?_ (zar _ rfl) ?_ ?_
  ·have:=TriplesOk_snoc lpos.line lpos.col (.ref c') ps0.toList ht
   simpa using this
  ·have:=codeAmong_snoc (pos:=lpos) (c:=.ref c') ps0.toList ht hnf
   simpa using this
  ·rw[qap9 neP.symm,qaf9]
  ·rw[qap9 neP.symm,qaf9]
  ·refine upN _ (I1.hok.fresh (zbb hge (zcf hlt))) (zeq hlt)
  ·exact λ z=>by
    rcases zah.mp (I1.stkSub _ z) with e|e
    ·exact absurd (I1.lt) (by rw[<- e];exact zfc.mpr (zbb hge (zcf hlt)))
    ·exact I1.nofs (zbb hge (zcf hlt)) e
 ·refine W.kla_makeFunctionHit (mg:=X.mg) hcl I1.ok.glob gl hcode (hC.keeps I1.bk) hPo ht hf hbA λ ctv h' tk hk hsz=>?_
  have I2:Inv X pins σ H1 { s1 with heap:=h'.push { cls:=.type "function",data:=.func (W.kla_fn "<lambda>" (X.env.qual++"<lambda>") params body sc clos ((X.mg "__name__").getD .none) (.ref c') ctv) },toks:=tk }:=I1.kept (t':=tk) λ b o e=>zae _ (hk b o e)
  refine fin h'.objs.size c' _ ctv H1 _ I2 (λ b o e _=>e) ⟨ps0,hP,ht,.inr ⟨c',hf,hc'⟩⟩ hc' (zar _ rfl) (I1.hok.fresh hsz) ?_
  exact λ z=>by
   rcases zah.mp (I1.stkSub _ z) with e|e
   ·exact absurd (I1.lt) (by rw[<- e];exact zfc.mpr hsz)
   ·exact I1.nofs hsz e
end
theorem law_callT{mb:Str->Option Value}{fa:Addr}{s₁:Shared}{vs:List Value}{ns:List Int}{tabs:List (Addr×Addr)}
  (KX:K.In s₁.heap) (hns:s₁.heap.Ns mainGlobals mg) (hb:s₁.heap.Ns builtinsNs mb) (hbb:∀x:Str,x≠"__name__" -> mb x=bootBuiltins x) (hlim:s₁.heap.NoLimit) (hg:s₁.gens=#[])
  (ha:s₁.heap.get? a=some { cls:=.type "list",data:=.seq vs.toArray }) (hi:IntsAre vs ns) (hl:ns.length<=sizeLine) (hr:Room k callerA) (hBM:BMain mg s₁.heap)
  (hT:∀q∈tabs,W.CodeHd s₁.heap q.1 q.2/\s₁.heap.get? q.2=some (W.tabObj #[])/\K.lookup q.2=none)
  (F:∀base:Heap,K.In base->base.Ns mainGlobals mg->BMain mg base->(∀q∈tabs,W.CodeHd base q.1 q.2)->FnOk P w K mg base CX0 k fa fd [x] sp) (hbind:∀(s:Shared)(u:Value),BindsTo s fd ⟨[u],[]⟩ [(x,u)])
  (hsp:∀H:Hp,(∀q∈tabs,H q.2=some (.tbl #[]))->SqL K H a (ns.map V.int)->sp [.ref a] H (λ v _=>v=.bl true) λ _ _ _=>False) :
  codeAny (model P w) callerA (.call (.ref fa) ⟨[.ref a],[]⟩) (λ r s'=>r=.ok (.ret (.bool true))/\OldK s₁.heap s'.heap/\s'.os=s₁.os/\AllBare s'.gens) s₁:=by
 have rv:=qnx9 hi
 have lenV:=hi.length
 have aT:∀q∈tabs,q.2≠a:=λ q hq z=>by
  have:=(hT q hq).2.1
  rw[z,ha] at this
  cases this
 have core:∀H:Hp,(∀b,H b=none\/(b=a/\K.lookup a=none/\H b=some (.frz { cls:=.type "list",data:=.seq vs.toArray } (.lst (ns.map V.int))))\/∃q∈tabs,b=q.2/\H b=some (.tbl #[]))->(∀q∈tabs,H q.2=some (.tbl #[]))->SqL K H a (ns.map V.int) ->
   codeAny (model P w) callerA (.call (.ref fa) ⟨[.ref a],[]⟩) (λ r s'=>r=.ok (.ret (.bool true))/\OldK s₁.heap s'.heap/\s'.os=s₁.os/\AllBare s'.gens) s₁:=by
  intro H hO hTb hS
  have hok:HOk P w H s₁.heap:=λ b u z=>by
   rcases hO b with e|⟨e,_,e2⟩|⟨q,hq,e,e2⟩
   ·rw[e] at z;cases z
   ·rw[e2] at z
    cases z
    subst e
    exact⟨ha,by rw[zad];exact hl,vs,_,rv,ha⟩
   ·rw[e2] at z
    cases z
    rw[e]
    exact(hT q hq).2.1
  have base_of:∀{b:Addr}{o:Obj},s₁.heap.get? b=some o->H b=none->(hidT s₁.heap H).get? b=some o:=λ e n=>hidT_get e n
  have unt:∀{b:Addr}{o:Obj},s₁.heap.get? b=some o->o.cls ≠ .type "list" -> o.cls ≠ .none->H b=none:=λ {b o} e n1 n2=>by
   rcases hO b with z|⟨z,_,_⟩|⟨q,hq,z,_⟩
   ·exact z
   ·rw[z,ha] at e;cases e;exact absurd rfl n1
   ·rw[z,(hT q hq).2.1] at e;cases e;exact absurd rfl n2
  have noA:∀{b:Addr}{o:Obj}{es:Array DictEntry}{ep:Nat},s₁.heap.get? b=some o->o.data=.dict es ep->H b=none:=λ {b o es ep} e d=>by
   rcases hO b with z|⟨z,_,_⟩|⟨q,hq,z,_⟩
   ·exact z
   ·rw[z,ha] at e;cases e;cases (show Data.seq vs.toArray _=Data.dict es ep from d)
   ·rw[z,(hT q hq).2.1] at e;cases e;cases (show Data.fields _=Data.dict es ep from d)
  have nsK:∀{b:Addr}{m:Str->Option Value},s₁.heap.Ns b m->(hidT s₁.heap H).Ns b m:=λ {b m} ⟨o,es,ep,e,d,r⟩=>⟨o,es,ep,base_of e (noA e d),d,r⟩
  have hKb:K.In (hidT s₁.heap H):=λ b o e=>base_of (KX b o e) (by
   rcases hO b with z|⟨z,zk,_⟩|⟨q,hq,z,_⟩
   ·exact z
   ·rw[z,zk] at e;cases e
   ·rw[z,(hT q hq).2.2] at e;cases e)
  have hM:Mod K mg (hidT s₁.heap H):=⟨hKb,nsK hns,⟨mb,nsK hb,hbb⟩,let ⟨mc,h1,h2⟩:=hlim;⟨mc,nsK h1,h2⟩⟩
  have hB2:BMain mg (hidT s₁.heap H):=by
   obtain⟨bm,ob,b1,b2,b3,b4,b5,b6⟩:=hBM
   exact⟨bm,ob,b1,b2,base_of b3 (unt b3 (by rw[b4];decide) (by rw[b4];intro z;cases z)),b4,b5,b6⟩
  have hC2:∀q∈tabs,W.CodeHd (hidT s₁.heap H) q.1 q.2:=λ q hq=>by
   obtain⟨o,vs',file,tf,flags,tg,inF,text,tt,e1,r1,r⟩:=(hT q hq).1
   exact⟨o,vs',file,tf,flags,tg,inF,text,tt,base_of e1 (unt e1 (by rw[r1];decide) (by rw[r1];intro z;cases z)),r1,r⟩
  have e0:Env0 P w K mg (hidT s₁.heap H) callerA [] s₁ H:=⟨rfl,hM,λ b o e=>of_hidT e,zer (hidT_size _ _),trivial,λ b hb=>absurd (show b∈([]:List Addr) from hb) (by simp),hok,.of_eq hg⟩
  refine codeAny_mono ((F _ hKb (nsK hns) hB2 hC2).run callerA [] s₁ H ⟨[.ref a],[]⟩ [.ref a] [.ref a] _ _ hr e0 (hbind s₁ (.ref a)) (.cons rfl .nil) (hsp H hTb hS)) λ r s' h=>?_
  cases r with
  |error e=>exact False.elim h
  |ok fl =>
   cases fl with
   |next=>exact False.elim h
   |brk=>exact False.elim h
   |cont=>exact False.elim h
   |ret u =>
    obtain⟨v,H',os,bare,un,hok',r',q⟩:=h
    have q':v=.bl true:=q
    subst q'
    obtain rfl:u=Value.bool true:=r'
    have at_:∀b o,s₁.heap.get? b=some o->s'.heap.get? b=some o\/∃q∈tabs,b=q.2/\∃more,s'.heap.get? b=some (W.tabObj (#[]++more)):=λ b o e=>by
     rcases hO b with z|⟨z,_,z2⟩|⟨q,hq,z,z2⟩
     ·exact .inl (un.keep b o e z (by intro z;exact absurd (show b∈([]:List Addr) from z) (by simp)) (by simp))
     ·have z3:=un.frzs b _ _ z2
      obtain⟨e2,_⟩:=hok' b _ z3
      rw[z,ha] at e
      cases e
      exact .inl e2
     ·obtain⟨more,z3⟩:=un.tbls b _ z2
      exact .inr ⟨q,hq,z,more,hok' b _ z3⟩
    refine⟨U,⟨λ b o e=>?_,λ b o e=>?_⟩,os,bare⟩
    ·rcases at_ b o e with z|⟨q,hq,z,more,z2⟩
     ·exact .inl z
     ·have e2:=(hT q hq).2.1
      rw[<- z,e] at e2
      cases e2
      refine .inr (.inl ⟨?_,rfl,#[],more,rfl,z2⟩)
      rw[z]
      exact((hT q hq).1.tab (hT q hq).2.1).isCodeTable
    ·rcases at_ b o e with z|⟨q,hq,z,more,z2⟩
     ·exact⟨_,z⟩
     ·exact⟨_,z2⟩
 cases hk:K.lookup a with
 |some o =>
  have e:=KX a o hk
  rw[ha] at e
  cases e
  refine core (λ b=>if b∈tabs.map (·.2) then some (.tbl #[]) else none) (λ b=>?_) (λ q hq=>if_pos (zfx hq)) (.inr ⟨_,vs.toArray,_,hk,rfl,rfl,rfl,by rw[zax,lenV];exact hl,by simpa using rv⟩)
  by_cases hb:b∈tabs.map (·.2)
  ·obtain⟨q,hq,e⟩:=zat.mp hb
   exact .inr (.inr ⟨q,hq,e.symm,if_pos hb⟩)
  ·exact .inl (if_neg hb)
 |none =>
  have na:a∉tabs.map (·.2):=λ z=>by
   obtain⟨q,hq,e⟩:=zat.mp z
   exact aT q hq e
  refine core (λ b=>if b∈tabs.map (·.2) then some (.tbl #[]) else if b=a then some (.frz { cls:=.type "list",data:=.seq vs.toArray } (.lst (ns.map V.int))) else none) (λ b=>?_) (λ q hq=>if_pos (zfx hq)) (.inl (.inr ⟨{ cls:=.type "list",data:=.seq vs.toArray },?_⟩))
  ·by_cases hb:b∈tabs.map (·.2)
   ·obtain⟨q,hq,e⟩:=zat.mp hb
    exact .inr (.inr ⟨q,hq,e.symm,if_pos hb⟩)
   ·by_cases hb2:b=a
    ·exact .inr (.inl ⟨hb2,hk,by rw[if_neg hb,if_pos hb2]⟩)
    ·exact .inl (by rw[if_neg hb,if_neg hb2])
  ·show(if a∈tabs.map (·.2) then _ else _)=_
   rw[if_neg na,if_pos rfl]
theorem walk_ofT{l:W.OpenLaw}{q:Program}{loose:List Str}{XP:(Str->Option Value)->Heap->Prop}{YP:World->Heap->Prop}{d:DefRec}{K:Params->W.Frag}{sp:W.Frag->List (Addr×Addr)->Sp}
  (hn:l.most=some n) (hn2:n<=sizeLine) (hdf:d.params.defaults=[]) (hr:Room k callerA)
  (hY:∀(w:World)(h:Heap),YP w h->(K w.params).In h)
  (F:∀(w:World)(mg mb:Str->Option Value)(mean:ExcName->Option Value)(fa:Addr)(h:Heap),(K w.params).In h->Top q (W.looseW q loose) mean mg mb h->mg d.name=some (.ref fa) ->
   ∃(fd:FuncData) (tabs:List (Addr×Addr)),(∀(s:Shared)(u:Value),BindsTo s fd ⟨[u],[]⟩ [(x,u)])/\(∀t∈tabs,W.CodeHd h t.1 t.2/\h.get? t.2=some (W.tabObj #[])/\(K w.params).lookup t.2=none) /\
    ∀base:Heap,(K w.params).In base->base.Ns mainGlobals mg->BMain mg base->(∀t∈tabs,W.CodeHd base t.1 t.2)->FnOk l.prog w (K w.params) mg base CX0 k fa fd [x] (sp (K w.params) tabs))
  (hsp:∀(K:W.Frag) (tabs:List (Addr×Addr)) (H:Hp) (a:Addr) (ns:List Int),ns.length<=n->(∀t∈tabs,H t.2=some (.tbl #[]))->SqL K H a (ns.map V.int)->sp K tabs [.ref a] H (λ v _=>v=.bl true) λ _ _ _=>False) :
  W.WalkO q loose XP YP l.row.toRowW d [] (λ f vs=>PySem.call f vs):=by
 refine Att.attach_call hn hdf λ w s₀ s₁ mg mb fa o pm cd doc a vs ns G Y ho hd hcd hmg hobj hints hlen hg=>?_
 have KX:=hY w _ Y
 obtain⟨fd,tabs,hb,hT,hF⟩:=F w mg mb _ fa _ KX G.T hmg
 obtain⟨bm,ob,b1,b2,b3,b4,b5,b6⟩:=G.T.bmain
 exact law_callT KX G.T.g G.T.b G.T.builtins G.T.nolimit hg hobj hints (zbb hlen hn2) hr ⟨bm,ob,b1,b2,b3,b4,b5,b6⟩ hT hF hb (λ H hTb hS=>hsp _ _ H a ns hlen hTb hS)
theorem Inv.turnedL{H':Hp}{ch:List Addr}(I:Inv X pins σ H s)(hf:∀b∈ch,FpOk X pins H b)(k:∀b o,b∉ch->s.heap.get? b=some o->h'.get? b=some o)
  (up:∀b o,H b=some o->H' b=some o) (no:∀b o,s.heap.get? b=some o->H b=none->H' b=none) (new:∀b o,H b=none->H' b=some o->ObjOk X.prog X.w H' h' b o):Inv X pins σ H' { s with heap:=h' }:=by
 have tr:∀b o,H b=some o->b∉ch:=λ b o e z=>by rw[(hf b z).1] at e;cases e
 refine I.call (s:=s) (h':=h') (g':=s.gens) (d':=s.drawn) (t':=s.toks) (ch:=ch) ⟨λ b o e _ _ hx=>k b o hx e,λ b o e _ _ hx=>⟨o.slots,k b o hx e⟩,λ b o e n _=>no b o e n,λ b o e hx=>⟨o,k b o hx e⟩,λ b xs e=>up b _ e,λ b o u e=>up b _ e,λ b ps e=>⟨#[],by rw[up b _ e];simp⟩⟩ (λ b o e=>?_) I.bare λ b hb=>?_
 ·cases q:H b with
  |none=>exact new b o q e
  |some o2 =>
   have e2:=up b o2 q
   rw[e] at e2
   cases e2
   refine(I.hok b o q).stay (λ c v hc q2=>k c v ?_ q2) (λ c q2=>up c _ q2) λ c xs q2=>up c _ q2
   rcases hc with hc|hc
   ·rw[hc];exact tr b o q
   ·exact tr c _ hc
 ·obtain⟨_,f1,_,f3,f4,f5⟩:=hf b hb
  exact⟨f3,f1,f4,f5⟩
theorem boot_zip:bootBuiltins "zip"=some (.type "zip"):=by decide +kernel
section
variable {xs ys:List V}
end
section
variable {o a:Expr}{to:TE}{apos:Pos}
end
end L2
namespace Ma
variable {P d lo t x y:Int}{R:List T3}{w:T3}
abbrev T4:=Int×Int×Bool×Int
def btS(d t:Int)(best:Option Int)(w:T3):Option Int :=
 match best with
 |none=>some (nextO d w.1 w.2.1 t+w.2.2)
 |some b=>if nextO d w.1 w.2.1 t+w.2.2<b then some (nextO d w.1 w.2.1 t+w.2.2) else some b
def bt(d:Int)(R:List T3)(t:Int):Option Int:=R.foldl (btS d t) none
theorem bt_nil(d t:Int):bt d [] t=none:=rfl
theorem bt_snoc(d:Int)(R:List T3)(w:T3)(t:Int):bt d (R++[w]) t=btS d t (bt d R t) w:=by
 unfold bt
 rw[zdl]
 rfl
structure IsMin(d t:Int)(R:List T3)(y:Int):Prop where
 at_:∃w∈R,y=nextO d w.1 w.2.1 t+w.2.2
 le:∀w∈R,y<=nextO d w.1 w.2.1 t+w.2.2
theorem IsMin.uniq{y':Int}(h:IsMin d t R y)(h':IsMin d t R y'):y=y':=by
 obtain⟨w,hw,e⟩:=h.at_
 obtain⟨w',hw',e'⟩:=h'.at_
 have:=h.le w' hw'
 have:=h'.le w hw
 omega
theorem fold_bt(d t:Int):∀(R:List T3)(best:Option Int),(best=none/\R=[]/\R.foldl (btS d t) best=none) \/
  ∃y,R.foldl (btS d t) best=some y/\(best=some y\/∃w∈R,y=nextO d w.1 w.2.1 t+w.2.2)/\(∀b,best=some b->y<=b)/\∀w∈R,y<=nextO d w.1 w.2.1 t+w.2.2
 | [],none=>.inl ⟨rfl,rfl,rfl⟩
 | [],some b=>.inr ⟨b,rfl,.inl rfl,λ b' e=>by cases e;exact zau _,λ w hw=>by cases hw⟩
 |w::R,best=>by
  rw[zcq]
  rcases fold_bt d t R (btS d t best w) with⟨e,_⟩|⟨y,e1,e2,e3,e4⟩
  ·cases best with
   |none=>cases e
   |some b =>
    simp only[btS] at e
    split at e<;>cases e
  ·refine .inr ⟨y,e1,?_,λ b hb=>?_,λ u hu=>?_⟩
   ·rcases e2 with e2|⟨u,hu,e2⟩
    ·cases best with
     |none =>
      cases e2
      exact .inr ⟨w,zan ..,rfl⟩
     |some b =>
      simp only[btS] at e2
      split at e2
      ·cases e2
       exact .inr ⟨w,zan ..,rfl⟩
      ·cases e2
       exact .inl rfl
    ·exact .inr ⟨u,zai _ hu,e2⟩
   ·subst hb
    by_cases c:nextO d w.1 w.2.1 t+w.2.2<b
    ·have:=e3 _ (by simp only[btS];rw[if_pos c])
     omega
    ·exact e3 _ (by simp only[btS];rw[if_neg c])
   ·rcases zah.mp hu with rfl|hu
    ·cases best with
     |none=>exact e3 _ rfl
     |some b =>
      by_cases c:nextO d u.1 u.2.1 t+u.2.2<b
      ·exact e3 _ (by simp only[btS];rw[if_pos c])
      ·have:=e3 b (by simp only[btS];rw[if_neg c])
       omega
    ·exact e4 u hu
theorem qkx9(d t:Int)(R:List T3):(R=[]/\bt d R t=none)\/∃y,bt d R t=some y/\IsMin d t R y:=by
 rcases fold_bt d t R none with⟨_,e,e2⟩|⟨y,e1,e2,_,e4⟩
 ·exact .inl ⟨e,e2⟩
 ·refine .inr ⟨y,e1,?_,e4⟩
  rcases e2 with e2|e2
  ·cases e2
  ·exact e2
theorem IsMin.bt(h:IsMin d t R y):bt d R t=some y:=by
 rcases qkx9 d t R with⟨rfl,_⟩|⟨y',e,h'⟩
 ·obtain⟨w,hw,_⟩:=h.at_
  cases hw
 ·rw[e,h.uniq h']
theorem bt_min(h:bt d R t=some y):IsMin d t R y:=by
 rcases qkx9 d t R with⟨rfl,e⟩|⟨y',e,h'⟩
 ·rw[e] at h;cases h
 ·rw[e] at h
  cases h
  exact h'
def Tells(d:Int)(R:List T3)(f:Int->Int):Prop:=∀t,bt d R t=some (f t)
def bf(d:Int)(R:List T3)(t:Int):Int:=(bt d R t).getD 0
theorem tells_bf(h:R≠[]):Tells d R (bf d R):=λ t=>by
 unfold bf
 rcases qkx9 d t R with⟨e,_⟩|⟨y,e,_⟩
 ·exact absurd e h
 ·rw[e];rfl
theorem Tells.ne{f:Int->Int}(h:Tells d R f):R≠[]:=λ e=>by
 have:=h 0
 rw[e,bt_nil] at this
 cases this
structure Rise(d:Int)(f:Int->Int):Prop where
 ge:∀t,t<=f t
 mono:∀t u,t<=u->f t<=f u
 per:∀t,f (t+d)=f t+d
theorem Rise.mul{f:Int->Int}(r:Rise d f)(t:Int):∀k:Int,f (t+d*k)=f t+d*k:=by
 have up:∀(t:Int)(n:Nat),f (t+d*(n:Int))=f t+d*(n:Int):=λ t n=>by
  induction n with
  |zero=>simp
  |succ n ih =>
   have e:d*((n+1:Nat):Int)=d*(n:Int)+d:=by
    rw[Int.natCast_add,zeo]
    simp
   rw[e,<- Int.add_assoc,r.per,ih]
   omega
 intro k
 rcases zgh 0 k with h|h
 ·have e:k=((k.toNat:Nat):Int):=⋯
  rw[e]
  exact up t _
 ·obtain⟨m,e⟩:∃m:Nat,k=-(m:Int):=⟨(-k).toNat,⋯⟩
  subst e
  have:=up (t+d * -(m:Int)) m
  rw[zhk] at this ⊢
  have e2:t+-(d*(m:Int))+d*(m:Int)=t:=⋯
  rw[e2] at this
  omega
def Wins(d:Int)(R:List T3):Prop:=∀w∈R,0<=w.1/\w.1<=w.2.1/\w.2.1<d/\0<=w.2.2
theorem next_mono{a b u:Int}(hd:0<d)(h0:0<=a)(h1:a<=b)(h2:b<d)(l:t<=u):nextO d a b t<=nextO d a b u:=by
 obtain⟨k,k1,k2,k3,k4,k5⟩:=qbo9 (t:=u) hd h0 h1 h2
 obtain⟨k',_,_,_,_,m5⟩:=qbo9 (t:=t) hd h0 h1 h2
 exact m5 k _ k1 k2 ⋯
theorem qsh9{a b:Int}:nextO d a b (t+d)=nextO d a b t+d:=by
 unfold nextO
 rw[Int.add_emod_right]
 split<;>omega
theorem board_rise{f:Int->Int}(hd:0<d)(W:Wins d R)(T:Tells d R f):Rise d f:=by
 have m:∀t,IsMin d t R (f t):=λ t=>bt_min (T t)
 refine⟨λ t=>?_,λ t u l=>?_,λ t=>?_⟩
 ·obtain⟨w,hw,e⟩:=(m t).at_
  obtain⟨w0,w1,w2,w3⟩:=W w hw
  obtain⟨_,_,_,k3,_⟩:=qbo9 (t:=t) hd w0 w1 w2
  omega
 ·obtain⟨w,hw,e⟩:=(m u).at_
  obtain⟨w0,w1,w2,w3⟩:=W w hw
  have:=(m t).le w hw
  have:=next_mono hd w0 w1 w2 l
  omega
 ·refine IsMin.uniq (m (t+d)) ⟨?_,λ w hw=>?_⟩
  ·obtain⟨w,hw,e⟩:=(m t).at_
   exact⟨w,hw,by rw[qsh9];omega⟩
  ·have:=(m t).le w hw
   rw[qsh9]
   omega
structure CK(d:Int)(R:List T3):Prop where
 d0:0<d
 win:Wins d R
 srt:R.Pairwise λ u v=>u.2.1<v.1/\u.2.1+u.2.2<v.1+v.2.2/\(u.2.1+1=v.1->u.2.2≠v.2.2)
 wr:∀u∈R,∀v∈R,u.2.1+u.2.2<d+(v.1+v.2.2)
theorem ck_nil(h:0<d):CK d []:=⟨h,(λ w hw=>by cases hw),List.Pairwise.nil,(λ w hw=>by cases hw)⟩
theorem qgt9{i:Nat}(h:i<R.length):(rA R i,rB R i,rC R i)∈R:=zaj (r_at h)
theorem qil9(h:w∈R):∃i,i<R.length/\rA R i=w.1/\rB R i=w.2.1/\rC R i=w.2.2:=by
 obtain⟨i,hi,e⟩:=zdk.mp h
 have e2:R[i]?=some (w.1,w.2.1,w.2.2):=by rw[zaa hi,e]
 exact⟨i,hi,r_of e2⟩
theorem qmg9{p:T3->T3->Prop}(h:R.Pairwise p){i j:Nat}(hij:i<j)(hj:j<R.length):p (rA R i,rB R i,rC R i) (rA R j,rB R j,rC R j):=by
 have e1:=r_at (R:=R) (i:=i) ⋯
 have e2:=r_at (R:=R) hj
 rw[zaa ⋯] at e1
 rw[zaa hj] at e2
 have:=zdm.mp h i j ⋯ hj hij
 rw[Option.some.inj e1,Option.some.inj e2] at this
 exact this
theorem CK.clk(h:CK d R):Clk d R.length (rA R) (rB R) (rC R) :=
 ⟨h.d0,λ i hi=>(h.win _ (qgt9 hi)).1,λ i hi=>(h.win _ (qgt9 hi)).2.1,λ i hi=>(h.win _ (qgt9 hi)).2.2.1,λ i hi=>(h.win _ (qgt9 hi)).2.2.2,
  λ i j hij hj=>(qmg9 h.srt hij hj).1,λ i j hij hj=>(qmg9 h.srt hij hj).2.1,λ i j hi hj=>h.wr _ (qgt9 hi) _ (qgt9 hj)⟩
theorem ex_min(g:Nat->Int):∀n:Nat,0<n->∃j,j<n/\∀i,i<n->g j<=g i
 |0,h=>absurd h (zca _)
 |1,_=>⟨0,⋯,λ i hi=>by have:i=0:=⋯;rw[this];exact zau _⟩
 |n+2,_=>by
  obtain⟨j,hj,h⟩:=ex_min g (n+1) ⋯
  rcases zgh (g j) (g (n+1)) with c|c
  ·refine⟨j,⋯,λ i hi=>?_⟩
   rcases(by omega:i<n+1\/i=n+1) with z|z
   ·exact h i z
   ·rw[z];exact c
  ·refine⟨n+1,⋯,λ i hi=>?_⟩
   rcases(by omega:i<n+1\/i=n+1) with z|z
   ·have:=h i z
    omega
   ·rw[z];exact zau _
theorem clk_first(K:Clk d R.length (rA R) (rB R) (rC R))(n0:R.length≠0)(t:Int):∃x y,First d R.length (rA R) (rB R) (rC R) t x y/\bt d R t=some y:=by
 obtain⟨j,hj,hm⟩:=ex_min (λ i=>nextO d (rA R i) (rB R i) t) R.length ⋯
 have F:=first_min K hj hm
 refine⟨_,_,F,IsMin.bt ⟨⟨_,qgt9 hj,U⟩,λ w hw=>?_⟩⟩
 obtain⟨i,hi,e1,e2,e3⟩:=qil9 hw
 obtain⟨k,k1,k2,k3,k4,k5⟩:=qbo9 (t:=t) K.d0 (K.a0 i hi) (K.ab i hi) (K.bd i hi)
 have D:Dep d R.length (rA R) (rB R) (rC R) (nextO d (rA R i) (rB R i) t) (nextO d (rA R i) (rB R i) t+rC R i):=⟨i,k,hi,k1,k2,rfl⟩
 have le:=F.least _ _ D k3
 rw[<- e1,<- e2,<- e3]
 rcases(by omega:nextO d (rA R j) (rB R j) t<nextO d (rA R i) (rB R i) t\/nextO d (rA R j) (rB R j) t=nextO d (rA R i) (rB R i) t) with z|z
 ·have:=qmu9 K F.dep D z
  omega
 ·rw[<- z] at D
  have:=qnr9 K F.dep D
  omega
theorem first_bt(K:Clk d R.length (rA R) (rB R) (rC R))(h:First d R.length (rA R) (rB R) (rC R) t x y):bt d R t=some y:=by
 have n0:R.length≠0:=by
  obtain⟨i,_,hi,_⟩:=h.dep
  omega
 obtain⟨x',y',h',e⟩:=clk_first K n0 t
 rw[e,(h.uniq K h').2]
structure Can(lo P:Int)(f:Int->Int)(R:List T3):Prop where
 srt:R.Pairwise λ u v=>u.2.1<v.1/\(u.2.1+1=v.1->u.2.2≠v.2.2)
 mem:∀w∈R,lo<=w.1/\w.1<=w.2.1/\w.2.1<P/\∀x,w.1<=x->x<=w.2.1->f x=x+w.2.2/\f x<f (x+1)
 cov:∀x,lo<=x->x<P->f x<f (x+1)->∃w∈R,w.1<=x/\x<=w.2.1
theorem Can.tail{f:Int->Int}(h:Can lo P f (w::R)):Can (w.2.1+1) P f R:=by
 have s:=zdd.mp h.srt
 have hw:=h.mem w (zan ..)
 refine⟨s.2,λ u hu=>?_,λ x x0 x1 x2=>?_⟩
 ·have a:=h.mem u (zai _ hu)
  have b:=(s.1 u hu).1
  exact⟨⋯,a.2⟩
 ·obtain⟨u,hu,u1,u2⟩:=h.cov x ⋯ x1 x2
  rcases zah.mp hu with rfl|hu
  ·omega
  ·exact⟨u,hu,u1,u2⟩
theorem Can.head_le{f:Int->Int}(h:Can lo P f (w::R))(x0:lo<=x)(x1:x<P)(x2:f x<f (x+1)):w.1<=x:=by
 have s:=zdd.mp h.srt
 obtain⟨u,hu,u1,u2⟩:=h.cov x x0 x1 x2
 rcases zah.mp hu with rfl|hu
 ·exact u1
 ·have:=(s.1 u hu).1
  have:=(h.mem w (zan ..)).2.1
  omega
theorem Can.end_le{f:Int->Int}{w':T3}{R':List T3}(h:Can lo P f (w::R))(h':Can lo P f (w'::R'))(ea:w.1=w'.1)(ec:w.2.2=w'.2.2):w'.2.1<=w.2.1:=by
 rcases zdf w.2.1 w'.2.1 with z|z
 ·exfalso
  have m:=h.mem w (zan ..)
  have m':=h'.mem w' (zan ..)
  have q:=m'.2.2.2 (w.2.1+1) ⋯ ⋯
  obtain⟨u,hu,u1,u2⟩:=h.cov (w.2.1+1) ⋯ ⋯ q.2
  rcases zah.mp hu with rfl|hu
  ·omega
  ·have s:=(zdd.mp h.srt).1 u hu
   have r:=((h.mem u (zai _ hu)).2.2.2 (w.2.1+1) u1 u2).1
   exact s.2 ⋯ ⋯
 ·exact z
theorem Can.uniq{P:Int}{f:Int->Int}:∀{R R':List T3}{lo:Int},Can lo P f R->Can lo P f R'->R=R'
 | [],[],_,_,_=>rfl
 | [],w::R,lo,h,h'=>by
  have m:=h'.mem w (zan ..)
  obtain⟨u,hu,_⟩:=h.cov w.1 m.1 ⋯ (m.2.2.2 w.1 (zau _) m.2.1).2
  cases hu
 |w::R,[],lo,h,h'=>by
  have m:=h.mem w (zan ..)
  obtain⟨u,hu,_⟩:=h'.cov w.1 m.1 ⋯ (m.2.2.2 w.1 (zau _) m.2.1).2
  cases hu
 |w::R,w'::R',lo,h,h'=>by
  have m:=h.mem w (zan ..)
  have m':=h'.mem w' (zan ..)
  have q:=m.2.2.2 w.1 (zau _) m.2.1
  have q':=m'.2.2.2 w'.1 (zau _) m'.2.1
  have l1:=h.head_le (x:=w'.1) m'.1 ⋯ q'.2
  have l2:=h'.head_le (x:=w.1) m.1 ⋯ q.2
  have ea:w.1=w'.1:=⋯
  have ec:w.2.2=w'.2.2:=by
   have:=q.1
   have:=q'.1
   rw[ea] at *
   omega
  have b1:=h.end_le h' ea ec
  have b2:=h'.end_le h ea.symm ec.symm
  have eb:w.2.1=w'.2.1:=⋯
  have ew:w=w':=by
   obtain⟨x,y,z⟩:=w
   obtain⟨x',y',z'⟩:=w'
   cases ea
   cases eb
   cases ec
   rfl
  subst ew
  rw[Can.uniq h.tail h'.tail]
theorem qpz9{f:Int->Int}(mono:∀t u,t<=u->f t<=f u){x:Int}:∀(n:Nat),(∀y,x<=y->y<x+n->¬f y<f (y+1))->f x=f (x+n)
 |0,_=>by simp
 |n+1,h=>by
  have e:=qpz9 mono (x:=x) n λ y y0 y1=>h y y0 ⋯
  have a:=h (x+n) ⋯ ⋯
  have b:=mono (x+n) (x+n+1) ⋯
  have e2:x+((n+1:Nat):Int)=x+n+1:=⋯
  rw[e2]
  omega
theorem qmc9{f:Int->Int}(mono:∀t u,t<=u->f t<=f u){z:Int}(hz:x<=z)(h:∀y,x<=y->y<z->¬f y<f (y+1)):f x=f z:=by
 have e:z=x+((z-x).toNat:Int):=⋯
 have:=qpz9 mono (x:=x) (z-x).toNat λ y y0 y1=>h y y0 ⋯
 rw[<- e] at this
 exact this
theorem qqi9{f:Int->Int}(hd:0<d)(r:Rise d f)(t:Int):∃x,t<=x/\x<t+d/\f x=f t/\f x<f (x+1):=by
 have go:∀n:Nat,f t<f (t+n)->∃x,t<=x/\x<t+n/\f x=f t/\f x<f (x+1):=by
  intro n
  induction n with
  |zero=>intro h;simp at h
  |succ n ih =>
   intro h
   by_cases c:f t<f (t+n)
   ·obtain⟨x,x1,x2,x3,x4⟩:=ih c
    exact⟨x,x1,⋯,x3,x4⟩
   ·have b:=r.mono t (t+n) ⋯
    have e:t+((n+1:Nat):Int)=t+n+1:=⋯
    rw[e] at h
    exact⟨t+n,⋯,⋯,⋯,⋯⟩
 have e:d=((d.toNat:Nat):Int):=⋯
 have:=go d.toNat (by rw[<- e,r.per];omega)
 rw[<- e] at this
 exact this
theorem Can.tells{f:Int->Int}(hd:0<d)(r:Rise d f)(h:Can 0 d f R):Tells d R f:=by
 intro t
 have lo:∀w∈R,f t<=nextO d w.1 w.2.1 t+w.2.2:=λ w hw=>by
  obtain⟨m0,m1,m2,m3⟩:=h.mem w hw
  obtain⟨k,k1,k2,k3,k4,k5⟩:=qbo9 (t:=t) hd m0 m1 m2
  generalize nextO d w.1 w.2.1 t=x at *
  have q:=(m3 (x-d*k) ⋯ ⋯).1
  have q2:=r.mul (x-d*k) k
  have e:x-d*k+d*k=x:=⋯
  rw[e] at q2
  have:=r.mono t x k3
  omega
 refine IsMin.bt ⟨?_,lo⟩
 obtain⟨x,x1,x2,x3,x4⟩:=qqi9 hd r t
 obtain⟨q,e,e0,e1⟩:=split d x hd
 have p0:=r.mul (x%d) q
 have p1:=r.mul (x%d+1) q
 have e2:x%d+d*q=x:=⋯
 have e3:x%d+1+d*q=x+1:=⋯
 rw[e2] at p0
 rw[e3] at p1
 obtain⟨w,hw,w1,w2⟩:=h.cov (x%d) e0 e1 ⋯
 obtain⟨m0,m1,m2,m3⟩:=h.mem w hw
 have c:=(m3 (x%d) w1 w2).1
 obtain⟨k,k1,k2,k3,k4,k5⟩:=qbo9 (t:=t) hd m0 m1 m2
 have u:=k5 q x ⋯ ⋯ x1
 have v:=lo w hw
 exact⟨w,hw,⋯⟩
theorem Can.ck{f:Int->Int}(hd:0<d)(r:Rise d f)(h:Can 0 d f R):CK d R:=by
 have at_:∀w∈R,f w.1=w.1+w.2.2/\f w.2.1=w.2.1+w.2.2/\f w.2.1<f (w.2.1+1):=λ w hw=>by
  obtain⟨m0,m1,m2,m3⟩:=h.mem w hw
  exact⟨(m3 _ (zau _) m1).1,m3 _ m1 (zau _)⟩
 refine⟨hd,λ w hw=>?_,?_,λ u hu v hv=>?_⟩
 ·obtain⟨m0,m1,m2,m3⟩:=h.mem w hw
  have:=at_ w hw
  have:=r.ge w.1
  exact⟨m0,m1,m2,⋯⟩
 ·refine List.Pairwise.imp_of_mem (λ {u v} hu hv p=>?_) h.srt
  refine⟨p.1,?_,p.2⟩
  have a:=at_ u hu
  have b:=at_ v hv
  have:=r.mono (u.2.1+1) v.1 ⋯
  omega
 ·have a:=at_ u hu
  have b:=at_ v hv
  obtain⟨m0,m1,m2,m3⟩:=h.mem u hu
  obtain⟨n0,_⟩:=h.mem v hv
  have:=r.mono (u.2.1+1) (v.1+d) ⋯
  have:=r.per v.1
  omega
theorem CK.can{f:Int->Int}(h:CK d R)(T:Tells d R f):Can 0 d f R:=by
 have K:=h.clk
 have n0:R.length≠0:=λ e=>T.ne (zbe.mp e)
 have F:∀t,∃x,First d R.length (rA R) (rB R) (rC R) t x (f t):=λ t=>by
  obtain⟨x,y,h1,h2⟩:=clk_first K n0 t
  rw[T t] at h2
  cases h2
  exact⟨x,h1⟩
 refine⟨h.srt.imp λ p=>⟨p.1,p.2.2⟩,λ w hw=>?_,λ x x0 x1 x2=>?_⟩
 ·obtain⟨w0,w1,w2,w3⟩:=h.win w hw
  refine⟨w0,w1,w2,λ x a b=>?_⟩
  obtain⟨i,hi,e1,e2,e3⟩:=qil9 hw
  have D:Dep d R.length (rA R) (rB R) (rC R) x (x+w.2.2):=⟨i,0,hi,⋯,⋯,⋯⟩
  obtain⟨x',F1⟩:=F x
  have l:=F1.least _ _ D (zau _)
  have l2:=F1.le
  have e:x'=x:=⋯
  subst e
  have ey:=qnr9 K F1.dep D
  obtain⟨x2,F2⟩:=F (x'+1)
  have:=qmu9 K F1.dep F2.dep (by have:=F2.le;omega)
  exact⟨ey,this⟩
 ·obtain⟨x',F1⟩:=F x
  rcases(by have:=F1.le;omega:x'=x\/x+1<=x') with e|e
  ·subst e
   obtain⟨i,k,hi,k1,k2,_⟩:=F1.dep
   have a0:=K.a0 i hi
   have bd:=K.bd i hi
   have d0:=K.d0
   have:k=0:=by
    rcases(by omega:k<0\/k=0\/0<k) with z|z|z
    ·have:=qax9 d0 z
     omega
    ·exact z
    ·have:=qax9 d0 z
     omega
   subst this
   exact⟨_,qgt9 hi,by simpa using k1,by simpa using k2⟩
  ·obtain⟨x2',F2⟩:=F (x+1)
   have F3:First d R.length (rA R) (rB R) (rC R) (x+1) x' (f x):=⟨F1.dep,e,λ u v h1 h2=>F1.least u v h1 ⋯⟩
   have:=(F2.uniq K F3).2
   omega
theorem CK.uniq{d:Int}{R R':List T3}(h:CK d R)(h':CK d R')(e:∀t,bt d R t=bt d R' t):R=R':=by
 by_cases n:R=[]
 ·subst n
  by_cases n':R'=[]
  ·exact n'.symm
  ·have:=e 0
   rw[bt_nil,tells_bf n' 0] at this
   cases this
 ·have T:=tells_bf (d:=d) n
  have T':Tells d R' (bf d R):=λ t=>by rw[<- e t];exact T t
  exact Can.uniq (h.can T) (h'.can T')
theorem CK.rise{f:Int->Int}(h:CK d R)(T:Tells d R f):Rise d f:=board_rise h.d0 h.win T
end Ma
namespace Ma
variable {R:List T3}
theorem qqr9{α:Type}{p:List α->Prop}(h0:p [])(hs:∀l x,p l->p (l++[x]))(l:List α):p l:=by
 rw[<- List.reverse_reverse l]
 induction l.reverse with
 |nil=>exact h0
 |cons x r ih =>
  rw[zgg]
  exact hs _ _ ih
def putW(R:List T3)(a b c:Int):List T3 :=
 if b<a then R else match R.getLast? with
  |some l=>if l.2.1+1=a/\l.2.2=c then R.dropLast++[(l.1,b,c)] else R++[(a,b,c)]
  |none=>R++[(a,b,c)]
theorem putW_len(R:List T3)(a b c:Int):(putW R a b c).length<=R.length+1:=by
 unfold putW
 split
 ·omega
 ·split
  ·split
   ·rw[zam,List.length_dropLast,zbm];omega
   ·simp
  ·simp
section
variable {lo P P':Int}{f:Int->Int}{a b c:Int}
theorem Can.app(h:Can lo P f R)(l0:lo<=P)(pa:P<=a)(ab:a<=b)(bp:b<P')(dep:∀x,P<=x->x<P'->(f x<f (x+1)↔a<=x/\x<=b))(ride:∀x,a<=x->x<=b->f x=x+c)
  (un:∀u∈R,u.2.1+1=a->u.2.2≠c):Can lo P' f (R++[(a,b,c)]):=by
 refine⟨zdn.mpr ⟨h.srt,zdx _ _,λ u hu v hv=>?_⟩,λ w hw=>?_,λ x x0 x1 x2=>?_⟩
 ·rw[zag] at hv
  subst hv
  have m:=h.mem u hu
  exact⟨by show u.2.1<a;omega,un u hu⟩
 ·rcases zav.mp hw with hw|hw
  ·obtain⟨m0,m1,m2,m3⟩:=h.mem w hw
   exact⟨m0,m1,⋯,m3⟩
  ·rw[zag] at hw
   subst hw
   exact⟨by show lo<=a;omega,ab,bp,λ x x1 x2=>by
    have x1':a<=x:=x1
    have x2':x<=b:=x2
    exact⟨ride x x1 x2,(dep x ⋯ ⋯).mpr ⟨x1,x2⟩⟩⟩
 ·rcases zdf x P with z|z
  ·obtain⟨w,hw,w1⟩:=h.cov x x0 z x2
   exact⟨w,zbf _ hw,w1⟩
  ·exact⟨(a,b,c),zaq _ (zag.mpr rfl),(dep x z x1).mp x2⟩
theorem Can.step(h:Can lo P f R)(l0:lo<=P)(pa:P<=a)(bp:b<P')(hp:P<=P')(dep:∀x,P<=x->x<P'->(f x<f (x+1)↔a<=x/\x<=b))(ride:∀x,a<=x->x<=b->f x=x+c):Can lo P' f (putW R a b c):=by
 unfold putW
 split
 ·rename_i ba
  refine⟨h.srt,λ w hw=>?_,λ x x0 x1 x2=>?_⟩
  ·obtain⟨m0,m1,m2,m3⟩:=h.mem w hw
   exact⟨m0,m1,⋯,m3⟩
  ·rcases zdf x P with z|z
   ·exact h.cov x x0 z x2
   ·have:=(dep x z x1).mp x2
    omega
 ·rename_i ab
  split
  ·rename_i l hl
   obtain⟨R0,rfl⟩:∃R0,R=R0++[l]:=by
    obtain⟨R0,e⟩:=zes.mp hl
    exact⟨R0,e⟩
   have s:=zdn.mp h.srt
   split
   ·rename_i tc
    rw[zfs]
    have ml:=h.mem l (zaq _ (zag.mpr rfl))
    refine⟨zdn.mpr ⟨s.1,zdx _ _,λ u hu v hv=>?_⟩,λ w hw=>?_,λ x x0 x1 x2=>?_⟩
    ·rw[zag] at hv
     subst hv
     have q:=s.2.2 u hu l (zag.mpr rfl)
     rw[<- tc.2]
     exact q
    ·rcases zav.mp hw with hw|hw
     ·obtain⟨m0,m1,m2,m3⟩:=h.mem w (zbf _ hw)
      exact⟨m0,m1,⋯,m3⟩
     ·rw[zag] at hw
      subst hw
      obtain⟨m0,m1,m2,m3⟩:=ml
      refine⟨m0,by show l.1<=b;omega,bp,λ x x1 x2=>?_⟩
      have x1':l.1<=x:=x1
      have x2':x<=b:=x2
      show f x=x+c/\f x<f (x+1)
      rcases zdf l.2.1 x with z|z
      ·exact⟨ride x ⋯ x2',(dep x ⋯ ⋯).mpr ⟨⋯,x2'⟩⟩
      ·rw[<- tc.2]
       exact m3 x x1' z
    ·rcases zdf x P with z|z
     ·obtain⟨w,hw,w1,w2⟩:=h.cov x x0 z x2
      rcases zav.mp hw with hw|hw
      ·exact⟨w,zbf _ hw,w1,w2⟩
      ·rw[zag] at hw
       subst hw
       exact⟨_,zaq _ (zag.mpr rfl),w1,by show x<=b;omega⟩
     ·have q:=(dep x z x1).mp x2
      exact⟨_,zaq _ (zag.mpr rfl),by show l.1<=x;have:=ml.2.1;omega,q.2⟩
   ·rename_i tc
    refine h.app l0 pa ⋯ bp dep ride λ u hu e=>?_
    rcases zav.mp hu with hu|hu
    ·have q:=s.2.2 u hu l (zag.mpr rfl)
     have ml:=h.mem l (zaq _ (zag.mpr rfl))
     omega
    ·rw[zag] at hu
     subst hu
     exact λ e2=>tc ⟨e,e2⟩
  ·rename_i hl
   have e:=zet.mp hl
   subst e
   exact h.app l0 pa ⋯ bp dep ride λ u hu=>by cases hu
end
def tell(r:T4)(x:Int):Int:=if r.2.2.1=true then r.2.2.2 else x+r.2.2.2
def ftold(r:T4):Int:=if r.2.2.1=true then r.2.2.2 else r.1+r.2.2.2
theorem ftold_eq(r:T4):ftold r=tell r r.1:=rfl
def cfStep(fo:Int)(r:T4)(R:List T3):List T3 :=
 if r.2.2.1=true then putW R r.2.1 (if r.2.2.2<fo then r.2.1 else r.2.1-1) (r.2.2.2-r.2.1)
 else putW R r.1 (if r.2.1+r.2.2.2<fo then r.2.1 else r.2.1-1) r.2.2.2
theorem cfStep_len(fo:Int)(r:T4)(R:List T3):(cfStep fo r R).length<=R.length+1:=by
 unfold cfStep
 split<;>exact putW_len ..
theorem Can.row{lo P:Int}{f:Int->Int}(h:Can lo P f R)(l0:lo<=P)(r:T4)(e:r.1=P)(le:r.1<=r.2.1)(tl:∀x,r.1<=x->x<=r.2.1->f x=tell r x) :
  Can lo (r.2.1+1) f (cfStep (f (r.2.1+1)) r R):=by
 obtain⟨p,q,s,v⟩:=r
 have e':p=P:=e
 subst e'
 have le':p<=q:=le
 have tl':∀x,p<=x->x<=q->f x=if s=true then v else x+v:=tl
 unfold cfStep
 show Can lo (q+1) f (if s=true then putW R q (if v<f (q+1) then q else q-1) (v-q) else putW R p (if q+v<f (q+1) then q else q-1) v)
 cases s with
 |true =>
  rw[if_pos rfl]
  have t0:∀x,p<=x->x<=q->f x=v:=λ x h1 h2=>by have:=tl' x h1 h2;rw[if_pos rfl] at this;exact this
  refine h.step l0 le' (by split<;>omega) ⋯ (λ x x0 x1=>?_) λ x x0 x1=>?_
  ·rcases(by omega:x<q\/x=q) with z|z
   ·have:=t0 x x0 ⋯
    have:=t0 (x+1) ⋯ ⋯
    constructor
    ·intro;omega
    ·rintro⟨h1,h2⟩;omega
   ·subst z
    rw[t0 x x0 (zau _)]
    constructor
    ·intro z
     rw[if_pos z]
     exact⟨zau _,zau _⟩
    ·intro z9;obtain⟨_,z⟩ := z9
     split at z
     ·assumption
     ·omega
  ·have x1':x<=q:=by split at x1<;>omega
   have:=t0 x ⋯ x1'
   omega
 |false =>
  rw[if_neg (by decide)]
  have t0:∀x,p<=x->x<=q->f x=x+v:=λ x h1 h2=>by have:=tl' x h1 h2;rw[if_neg (by decide)] at this;exact this
  refine h.step l0 (zau _) (by split<;>omega) ⋯ (λ x x0 x1=>?_) λ x x0 x1=>?_
  ·rcases(by omega:x<q\/x=q) with z|z
   ·have:=t0 x x0 ⋯
    have:=t0 (x+1) ⋯ ⋯
    constructor
    ·intro
     refine⟨x0,?_⟩
     split<;>omega
    ·intro;omega
   ·subst z
    rw[t0 x x0 (zau _)]
    constructor
    ·intro z
     rw[if_pos z]
     exact⟨x0,zau _⟩
    ·intro z9;obtain⟨_,z⟩ := z9
     split at z
     ·assumption
     ·omega
  ·exact t0 x x0 (by split at x1<;>omega)
def Cov(f:Int->Int):Int->List T4->Int->Prop
 |lo,[],hi=>lo=hi
 |lo,r::S,hi=>r.1=lo/\r.1<=r.2.1/\(∀x,r.1<=x->x<=r.2.1->f x=tell r x)/\Cov f (r.2.1+1) S hi
theorem Cov.le{f:Int->Int}:∀{S:List T4}{lo hi:Int},Cov f lo S hi->lo<=hi
 | [],lo,hi,h=>by have:lo=hi:=h;omega
 |r::S,lo,hi,⟨h1,h2,_,h4⟩=>by have:=Cov.le h4;omega
theorem Cov.append{f:Int->Int}:∀{S S':List T4}{lo mid hi:Int},Cov f lo S mid->Cov f mid S' hi->Cov f lo (S++S') hi
 | [],S',lo,mid,hi,h,h'=>by
  have:lo=mid:=h
  subst this
  exact h'
 |r::S,S',lo,mid,hi,⟨h1,h2,h3,h4⟩,h'=>⟨h1,h2,h3,Cov.append h4 h'⟩
theorem Cov.one{f:Int->Int}{r:T4}(h:r.1<=r.2.1)(t:∀x,r.1<=x->x<=r.2.1->f x=tell r x):Cov f r.1 [r] (r.2.1+1):=⟨rfl,h,t,rfl⟩
theorem Cov.get{f:Int->Int}:∀{S:List T4}{lo hi:Int}{k:Nat}{r:T4},Cov f lo S hi->S[k]?=some r->lo<=r.1/\r.1<=r.2.1/\r.2.1<hi/\(∀x,r.1<=x->x<=r.2.1->f x=tell r x) /\
  (k=0->r.1=lo)/\(∀r',S[k+1]?=some r'->r'.1=r.2.1+1)/\(k+1=S.length->r.2.1+1=hi)
 | [],_,_,_,_,_,e=>by simp at e
 |r0::S,lo,hi,0,r,⟨h1,h2,h3,h4⟩,e=>by
  have e':r0=r:=by simpa using e
  subst e'
  have l:=Cov.le h4
  refine⟨⋯,h2,⋯,h3,λ _=>h1,λ r' e'=>?_,λ e'=>?_⟩
  ·have e2:S[0]?=some r':=by simpa using e'
   exact(Cov.get h4 e2).2.2.2.2.1 rfl
  ·have:S=[]:=by
    simp at e'
    exact e'
   subst this
   exact h4
 |r0::S,lo,hi,k+1,r,⟨h1,h2,h3,h4⟩,e=>by
  have e2:S[k]?=some r:=by simpa using e
  obtain⟨g1,g2,g3,g4,g5,g6,g7⟩:=Cov.get h4 e2
  refine⟨⋯,g2,g3,g4,λ z=>⋯,λ r' e'=>g6 r' (by simpa using e'),λ e'=>g7 (by simp at e';omega)⟩
theorem Cov.find{f:Int->Int}:∀{S:List T4}{lo hi x:Int},Cov f lo S hi->lo<=x->x<hi->∃(k:Nat)(r:T4),S[k]?=some r/\r.1<=x/\x<=r.2.1
 | [],lo,hi,x,h,h1,h2=>by have:lo=hi:=h;omega
 |r::S,lo,hi,x,⟨h1,h2,h3,h4⟩,x0,x1=>by
  rcases zdf r.2.1 x with z|z
  ·obtain⟨k,r',e,e1⟩:=Cov.find h4 ⋯ x1
   exact⟨k+1,r',by simpa using e,e1⟩
  ·exact⟨0,r,U,⋯,z⟩
def cfo(d:Int)(S:List T4)(k:Nat):Int:=match S[k+1]? with
 |some r=>ftold r
 |none=>d+(match S[0]? with
  |some r=>ftold r
  |none=>0)
theorem cfo_eq{d:Int}{f:Int->Int}{S:List T4}{k:Nat}{r:T4}(h:Cov f 0 S d)(per:∀t,f (t+d)=f t+d)(e:S[k]?=some r):cfo d S k=f (r.2.1+1):=by
 obtain⟨g1,g2,g3,g4,g5,g6,g7⟩:=h.get e
 have hk:=(zab.mp e).1
 unfold cfo
 cases e1:S[k+1]? with
 |some r' =>
  have q:=g6 r' e1
  obtain⟨_,g2',_,g4',_⟩:=h.get e1
  show ftold r'=_
  rw[ftold_eq,<- g4' r'.1 (zau _) g2',q]
 |none =>
  have el:k+1=S.length:=by
   have:=zeu.mp e1
   omega
  have q:=g7 el
  have h0:0<S.length:=⋯
  obtain⟨_,g2',_,g4',g5',_⟩:=h.get (zaa h0)
  rw[zaa h0]
  show d+ftold S[0]=_
  rw[ftold_eq,<- g4' _ (zau _) g2',g5' rfl,q]
  have:=per 0
  rw[zgi] at this
  omega
def stStep(acc:List T4×Int)(w:T3):List T4×Int:=((if acc.2<w.1 then acc.1++[(acc.2,w.1-1,true,w.1+w.2.2)] else acc.1)++[(w.1,w.2.1,false,w.2.2)],w.2.1+1)
def stPre(R:List T3):List T4×Int:=R.foldl stStep ([],0)
theorem stPre_snoc(R:List T3)(w:T3):stPre (R++[w])=stStep (stPre R) w:=by
 unfold stPre
 rw[zdl]
 rfl
def strOf(d:Int)(R:List T3):List T4:=if 0<(stPre R).1.length/\(stPre R).2<d then(stPre R).1++[((stPre R).2,d-1,true,d+rA R 0+rC R 0)] else(stPre R).1
theorem stPre_len(R:List T3):(stPre R).1.length<=2*R.length/\(R≠[]->0<(stPre R).1.length):=by
 refine qqr9 (p:=λ R=>(stPre R).1.length<=2*R.length/\(R≠[]->0<(stPre R).1.length)) ⟨by simp[stPre],λ h=>absurd rfl h⟩ (λ R w ih=>?_) R
 rw[stPre_snoc]
 unfold stStep
 refine⟨?_,λ _=>by simp⟩
 simp only[zam,zbm]
 split
 ·simp only[zam,zbm];omega
 ·omega
theorem strOf_nil(d:Int):strOf d []=[]:=by simp[strOf,stPre]
theorem strOf_len(d:Int)(R:List T3):(strOf d R).length<=2*R.length+1:=by
 have:=(stPre_len R).1
 unfold strOf
 split
 ·simp only[zam,zbm];omega
 ·omega
section
variable {d:Int}{f:Int->Int}
theorem st_cov(h:CK d R)(T:Tells d R f):∀R1 R2,R=R1++R2->Cov f 0 (stPre R1).1 (stPre R1).2/\0<=(stPre R1).2/\(stPre R1).2<=d/\(∀u∈R1,u.2.1<(stPre R1).2)/\(∀v∈R2,(stPre R1).2<=v.1):=by
 have C:=h.can T
 have r:=h.rise T
 have d0:=h.d0
 refine qqr9 (p:=λ R1=>∀R2,R=R1++R2->Cov f 0 (stPre R1).1 (stPre R1).2/\0<=(stPre R1).2/\(stPre R1).2<=d/\(∀u∈R1,u.2.1<(stPre R1).2)/\(∀v∈R2,(stPre R1).2<=v.1)) (λ R2 e=>?_) λ R1 w ih R2 e=>?_
 ·refine⟨rfl,zau _,by show(0:Int)<=d;omega,(λ u hu=>by cases hu),λ v hv=>?_⟩
  exact(h.win v (by rw[e];exact hv)).1
 ·have e':R=R1++(w::R2):=by rw[e];simp
  obtain⟨c,p0,pd,pu,pv⟩:=ih (w::R2) e'
  have hw:w∈R:=by rw[e'];simp
  obtain⟨w0,w1,w2,w3⟩:=h.win w hw
  have pw:=pv w (zan ..)
  have srt:=h.srt
  rw[e'] at srt
  have s2:=zdd.mp (zdn.mp srt).2.1
  rw[stPre_snoc]
  unfold stStep
  generalize (stPre R1).1=S at *
  generalize (stPre R1).2=p at *
  have mw:=(C.mem w hw).2.2.2
  have fa:=(mw w.1 (zau _) w1).1
  refine⟨?_,by show 0<=w.2.1+1;omega,by show w.2.1+1<=d;omega,λ u hu=>?_,λ v hv=>?_⟩
  ·have last:Cov f w.1 [(w.1,w.2.1,false,w.2.2)] (w.2.1+1):=Cov.one (r:=(w.1,w.2.1,false,w.2.2)) w1 λ x x0 x1=>by
    rw[(mw x x0 x1).1]
    rfl
   show Cov f 0 ((if p<w.1 then S++[(p,w.1-1,true,w.1+w.2.2)] else S)++[(w.1,w.2.1,false,w.2.2)]) (w.2.1+1)
   split
   ·rename_i z
    refine Cov.append (Cov.append c (mid:=p) (hi:=w.1) ?_) last
    have e1:w.1-1+1=w.1:=⋯
    have:=Cov.one (f:=f) (r:=(p,w.1-1,true,w.1+w.2.2)) (by show p<=w.1-1;omega) λ x x0 x1=>?_
    ·rw[e1] at this
     exact this
    ·have x0':p<=x:=x0
     have x1':x<=w.1-1:=x1
     show f x=w.1+w.2.2
     rw[<- fa]
     refine qmc9 r.mono ⋯ λ y y0 y1 yd=>?_
     obtain⟨u,hu,u1,u2⟩:=C.cov y ⋯ ⋯ yd
     rw[e'] at hu
     rcases zav.mp hu with hu|hu
     ·have:=pu u hu
      omega
     ·rcases zah.mp hu with rfl|hu
      ·omega
      ·have:=(s2.1 u hu).1
       omega
   ·rename_i z
    have:p=w.1:=⋯
    subst this
    exact Cov.append c last
  ·show u.2.1<w.2.1+1
   rcases zav.mp hu with hu|hu
   ·have:=pu u hu
    omega
   ·rw[zag] at hu
    subst hu
    omega
  ·have:=(s2.1 v hv).1
   show w.2.1+1<=v.1
   omega
theorem str_cov(h:CK d R)(T:Tells d R f):Cov f 0 (strOf d R) d:=by
 obtain⟨c,p0,pd,pu,pv⟩:=st_cov h T R [] (by simp)
 have C:=h.can T
 have r:=h.rise T
 have ne:=(stPre_len R).2 T.ne
 unfold strOf
 generalize (stPre R).1=S at *
 generalize (stPre R).2=p at *
 split
 ·rename_i z
  refine Cov.append c ?_
  have e1:d-1+1=d:=⋯
  have:=Cov.one (f:=f) (r:=(p,d-1,true,d+rA R 0+rC R 0)) (by show p<=d-1;omega) λ x x0 x1=>?_
  ·rw[e1] at this
   exact this
  ·have x0':p<=x:=x0
   have x1':x<=d-1:=x1
   show f x=d+rA R 0+rC R 0
   have hn:0<R.length:=zda.mpr T.ne
   have m0:=C.mem _ (qgt9 hn)
   have f0:f (rA R 0)=rA R 0+rC R 0:=(m0.2.2.2 (rA R 0) (zau _) m0.2.1).1
   have a0:(0:Int)<=rA R 0:=m0.1
   have z0:f 0=f (rA R 0):=qmc9 r.mono a0 λ y y0 y1 yd=>by
    have q:=m0.2.2.1
    have q1:=m0.2.1
    obtain⟨u,hu,u1,u2⟩:=C.cov y y0 ⋯ yd
    obtain⟨i,hi,e1,e2,e3⟩:=qil9 hu
    rcases zbq i with e|e
    ·subst e;omega
    ·have:=(qmg9 h.srt e hi).1
     omega
   have z1:f x=f d:=qmc9 r.mono ⋯ λ y y0 y1 yd=>by
    obtain⟨u,hu,u1,u2⟩:=C.cov y ⋯ y1 yd
    have:=pu u hu
    omega
   have:=r.per 0
   rw[zgi] at this
   omega
 ·rename_i z
  have:p=d:=⋯
  subst this
  exact c
end
end Ma
namespace Ma
variable {d:Int}{g:Int->Int}
abbrev T6:=Int×Int×Bool×Int×Bool×Int
def tl(s:Bool)(v x:Int):Int:=if s=true then v else x+v
def Cov2(f g:Int->Int):Int->List T6->Int->Prop
 |lo,[],hi=>lo=hi
 |lo,r::S,hi=>r.1=lo/\r.1<=r.2.1/\(∀x,r.1<=x->x<=r.2.1->f x=tl r.2.2.1 r.2.2.2.1 x/\g x=tl r.2.2.2.2.1 r.2.2.2.2.2 x)/\Cov2 f g (r.2.1+1) S hi
theorem Cov2.le{f g:Int->Int}:∀{S:List T6}{lo hi:Int},Cov2 f g lo S hi->lo<=hi
 | [],lo,hi,h=>by have:lo=hi:=h;omega
 |r::S,lo,hi,⟨h1,h2,_,h4⟩=>by have:=Cov2.le h4;omega
theorem Cov2.snoc{f g:Int->Int}{r:T6}(h2:r.1<=r.2.1)(h3:∀x,r.1<=x->x<=r.2.1->f x=tl r.2.2.1 r.2.2.2.1 x/\g x=tl r.2.2.2.2.1 r.2.2.2.2.2 x):∀{S:List T6}{lo:Int},Cov2 f g lo S r.1->Cov2 f g lo (S++[r]) (r.2.1+1)
 | [],lo,h=>by
  have:lo=r.1:=h
  subst this
  exact⟨U,h2,h3,U⟩
 |r0::S,lo,⟨a1,a2,a3,a4⟩=>⟨a1,a2,a3,Cov2.snoc h2 h3 a4⟩
theorem Cov2.get{f g:Int->Int}:∀{S:List T6}{lo hi:Int}{k:Nat}{r:T6},Cov2 f g lo S hi->S[k]?=some r->lo<=r.1/\r.1<=r.2.1/\r.2.1<hi/\(∀x,r.1<=x->x<=r.2.1->f x=tl r.2.2.1 r.2.2.2.1 x/\g x=tl r.2.2.2.2.1 r.2.2.2.2.2 x) /\
  (k=0->r.1=lo)/\(∀r',S[k+1]?=some r'->r'.1=r.2.1+1)/\(k+1=S.length->r.2.1+1=hi)
 | [],_,_,_,_,_,e=>by simp at e
 |r0::S,lo,hi,0,r,⟨h1,h2,h3,h4⟩,e=>by
  have e':r0=r:=by simpa using e
  subst e'
  have l:=Cov2.le h4
  refine⟨⋯,h2,⋯,h3,λ _=>h1,λ r' e'=>?_,λ e'=>?_⟩
  ·have e2:S[0]?=some r':=by simpa using e'
   exact(Cov2.get h4 e2).2.2.2.2.1 rfl
  ·have:S=[]:=by
    simp at e'
    exact e'
   subst this
   exact h4
 |r0::S,lo,hi,k+1,r,⟨h1,h2,h3,h4⟩,e=>by
  have e2:S[k]?=some r:=by simpa using e
  obtain⟨g1,g2,g3,g4,g5,g6,g7⟩:=Cov2.get h4 e2
  refine⟨⋯,g2,g3,g4,λ z=>⋯,λ r' e'=>g6 r' (by simpa using e'),λ e'=>g7 (by simp at e';omega)⟩
def jn(late:Bool)(x y:Int):Int:=if late=true then(if y>x then y else x) else(if y<x then y else x)
theorem jn_comm(late:Bool)(x y:Int):jn late x y=jn late y x:=by
 unfold jn
 split
 ·split<;>split<;>omega
 ·split<;>split<;>omega
theorem jn_add(late:Bool)(x y d:Int):jn late (x+d) (y+d)=jn late x y+d:=by
 unfold jn
 split
 ·split<;>split<;>omega
 ·split<;>split<;>omega
theorem rise_jn{f:Int->Int}(late:Bool)(rf:Rise d f)(rg:Rise d g):Rise d λ x=>jn late (f x) (g x):=by
 refine⟨λ t=>?_,λ t u l=>?_,λ t=>?_⟩
 ·have:=rf.ge t
  have:=rg.ge t
  unfold jn
  split<;>split<;>omega
 ·have:=rf.mono t u l
  have:=rg.mono t u l
  unfold jn
  split
  ·split<;>split<;>omega
  ·split<;>split<;>omega
 ·show jn late (f (t+d)) (g (t+d))=_
  rw[rf.per,rg.per,jn_add]
def pickL(p q wt rd:Int)(late:Bool):List T4 :=
 (if p<=(if wt-rd<q then wt-rd else q) then [(p,(if wt-rd<q then wt-rd else q),late,if late=true then wt else rd)] else []) ++
 (if(if wt-rd+1>p then wt-rd+1 else p)<=q then [((if wt-rd+1>p then wt-rd+1 else p),q,!late,if late=true then rd else wt)] else [])
theorem qro9{p q wt rd:Int}{late:Bool}{h:Int->Int}(pq:p<=q)(hh:∀x,p<=x->x<=q->h x=jn late wt (x+rd)):Cov h p (pickL p q wt rd late) (q+1):=by
 have lo:∀x,p<=x->x<=q->x<=wt-rd->h x=tl late (if late=true then wt else rd) x:=λ x x0 x1 x2=>by
  rw[hh x x0 x1]
  unfold jn tl
  cases late
  ·simp only[zde,if_false];split<;>omega
  ·simp only[if_true];split<;>omega
 have hi:∀x,p<=x->x<=q->wt-rd<x->h x=tl (!late) (if late=true then rd else wt) x:=λ x x0 x1 x2=>by
  rw[hh x x0 x1]
  unfold jn tl
  cases late
  ·simp only[zde,if_false,Bool.not_false,if_true];split<;>omega
  ·simp only[if_true,zhf,zde,if_false];split<;>omega
 unfold pickL
 rcases(by omega:wt-rd<p\/(p<=wt-rd/\wt-rd<q)\/q<=wt-rd) with z|z|z
 ·rw[if_pos (show wt-rd<q by omega),if_neg (show ¬p<=wt-rd by omega),if_neg (show ¬wt-rd+1>p by omega),if_pos pq,zdo]
  exact Cov.one (r:=(p,q,!late,if late=true then rd else wt)) pq λ x x0 x1=>hi x x0 x1 (by have:p<=x:=x0;omega)
 ·rw[if_pos z.2,if_pos z.1]
  have hm:(if wt-rd+1>p then wt-rd+1 else p)=wt-rd+1:=if_pos ⋯
  rw[hm,if_pos (show wt-rd+1<=q by omega)]
  refine Cov.append (mid:=wt-rd+1) ?_ ?_
  ·exact Cov.one (r:=(p,wt-rd,late,if late=true then wt else rd)) z.1 λ x x0 x1=>lo x x0 (by have:x<=wt-rd:=x1;omega) x1
  ·exact Cov.one (r:=(wt-rd+1,q,!late,if late=true then rd else wt)) (by show wt-rd+1<=q;omega) λ x x0 x1=>hi x (by have:wt-rd+1<=x:=x0;omega) x1 (by have:wt-rd+1<=x:=x0;omega)
 ·rw[if_neg (show ¬wt-rd<q by omega),if_pos pq]
  have hm:¬(if wt-rd+1>p then wt-rd+1 else p)<=q:=by split<;>omega
  rw[if_neg hm,zbv]
  exact Cov.one (r:=(p,q,late,if late=true then wt else rd)) pq λ x x0 x1=>lo x x0 x1 (by have:x<=q:=x1;omega)
theorem pick_len(p q wt rd:Int)(late:Bool):(pickL p q wt rd late).length<=2:=by
 unfold pickL
 rw[zam]
 have one:∀(c:Prop) [Decidable c] (x:T4),(if c then [x] else []).length<=1:=λ c _ x=>by split<;>simp
 exact zgv (one _ _) (one _ _)
def joinRow(late:Bool)(r:T6):List T4 :=
 if r.2.2.1=r.2.2.2.2.1 then [(r.1,r.2.1,r.2.2.1,jn late r.2.2.2.1 r.2.2.2.2.2)]
 else if r.2.2.1=true then pickL r.1 r.2.1 r.2.2.2.1 r.2.2.2.2.2 late else pickL r.1 r.2.1 r.2.2.2.2.2 r.2.2.2.1 late
theorem joinRow_len(late:Bool)(r:T6):(joinRow late r).length<=2:=by
 unfold joinRow
 split
 ·simp
 ·split<;>exact pick_len ..
theorem joinRow_cov{late:Bool}{r:T6}{f:Int->Int}(pq:r.1<=r.2.1)(h:∀x,r.1<=x->x<=r.2.1->f x=tl r.2.2.1 r.2.2.2.1 x/\g x=tl r.2.2.2.2.1 r.2.2.2.2.2 x) :
  Cov (λ x=>jn late (f x) (g x)) r.1 (joinRow late r) (r.2.1+1):=by
 obtain⟨p,q,s,v,s',v'⟩:=r
 have h':∀x,p<=x->x<=q->f x=tl s v x/\g x=tl s' v' x:=h
 unfold joinRow
 show Cov _ p (if s=s' then [(p,q,s,jn late v v')] else if s=true then pickL p q v v' late else pickL p q v' v late) (q+1)
 by_cases e:s=s'
 ·rw[if_pos e]
  subst e
  refine Cov.one (r:=(p,q,s,jn late v v')) pq λ x x0 x1=>?_
  obtain⟨e1,e2⟩:=h' x x0 x1
  show jn late (f x) (g x)=tl s (jn late v v') x
  rw[e1,e2]
  unfold tl
  cases s
  ·simp only[zde,if_false]
   have:=jn_add late v v' x
   rw[zhg v x,zhg v' x] at this
   omega
  ·simp
 ·rw[if_neg e]
  cases s with
  |true =>
   have e':s'=false:=by cases s' with|true=>exact absurd rfl e|false=>rfl
   subst e'
   rw[if_pos rfl]
   refine qro9 pq λ x x0 x1=>?_
   obtain⟨e1,e2⟩:=h' x x0 x1
   show jn late (f x) (g x)=_
   rw[e1,e2]
   rfl
  |false =>
   have e':s'=true:=by cases s' with|false=>exact absurd rfl e|true=>rfl
   subst e'
   rw[if_neg (by decide)]
   refine qro9 pq λ x x0 x1=>?_
   obtain⟨e1,e2⟩:=h' x x0 x1
   show jn late (f x) (g x)=_
   rw[e1,e2,jn_comm]
   rfl
def omin:Option Int->Option Int->Option Int
 |none,b=>b
 |a,none=>a
 |some x,some y=>some (jn false x y)
theorem bt_append(d:Int)(R R':List T3)(t:Int):bt d (R++R') t=omin (bt d R t) (bt d R' t):=by
 rcases qkx9 d t R with⟨rfl,e⟩|⟨y,e,m⟩
 ·rw[e,zdo]
  cases bt d R' t<;>rfl
 ·rcases qkx9 d t R' with⟨rfl,e'⟩|⟨y',e',m'⟩
  ·rw[e',e,zbv,e]
   rfl
  ·rw[e,e']
   show _=some (jn false y y')
   refine IsMin.bt ⟨?_,λ w hw=>?_⟩
   ·unfold jn
    rw[if_neg (by decide)]
    split
    ·obtain⟨w,hw,q⟩:=m'.at_
     exact⟨w,zaq _ hw,q⟩
    ·obtain⟨w,hw,q⟩:=m.at_
     exact⟨w,zbf _ hw,q⟩
   ·unfold jn
    rw[if_neg (by decide)]
    rcases zav.mp hw with hw|hw
    ·have:=m.le w hw
     split<;>omega
    ·have:=m'.le w hw
     split<;>omega
theorem Tells.min{R R':List T3}{f:Int->Int}(h:Tells d R f)(h':Tells d R' g)(t:Int):omin (bt d R t) (bt d R' t)=some (jn false (f t) (g t)):=by rw[h t,h' t];rfl
theorem ck_one(hd:0<d){w:T3}(h:0<=w.1/\w.1<=w.2.1/\w.2.1<d/\0<=w.2.2):CK d [w]:=by
 refine⟨hd,λ u hu=>?_,zdx _ _,λ u hu v hv=>?_⟩
 ·rw[zag] at hu
  subst hu
  exact h
 ·rw[zag] at hu hv
  subst hu hv
  omega
end Ma
namespace Ma
theorem qlu9{α:Type} [DecidableEq α]:∀{l L:List α},l.Nodup->(∀x∈l,x∈L)->l.length<=L.length
 | [],_,_,_=>zbt _
 |x::l,L,h,s=>by
  obtain⟨L1,L2,rfl⟩:=zex (s x (zan ..))
  have h':=zbp.mp h
  have:=qlu9 (L:=L1++L2) h'.2 λ y hy=>by
   have q:=s y (zai _ hy)
   rcases zav.mp q with q|q
   ·exact zbf _ q
   ·rcases zah.mp q with rfl|q
    ·exact absurd hy h'.1
    ·exact zaq _ q
  simp only[zbg,zam] at *
  omega
theorem CK.starts{d:Int}{R:List T3}(h:CK d R):(R.map (·.1)).Nodup:=by
 refine zfd.mpr (h.srt.imp_of_mem λ {u v} hu hv p=>?_)
 have:=(h.win u hu).2.1
 omega
section
variable {d:Int}{R R':List T3}
theorem at_open{f:Int->Int}{t:Int}(hd:0<d)(W:Wins d R)(T:Tells d R f)(t0:0<=t)(t1:t<d)(lt:f t<f (t+1)):∃u∈R,u.1<=t/\t<=u.2.1/\f t=t+u.2.2:=by
 obtain⟨u,hu,e⟩:=(bt_min (T t)).at_
 obtain⟨w0,w1,w2,w3⟩:=W u hu
 obtain⟨k,k1,k2,k3,k4,k5⟩:=qbo9 (t:=t) hd w0 w1 w2
 obtain⟨k',m1,m2,m3,m4,m5⟩:=qbo9 (t:=t+1) hd w0 w1 w2
 have le:=(bt_min (T (t+1))).le u hu
 rcases(by omega:nextO d u.1 u.2.1 t=t\/t+1<=nextO d u.1 u.2.1 t) with z|z
 ·rw[z] at k1 k2 e
  have:k=0:=by
   rcases(by omega:k<0\/k=0\/0<k) with y|y|y
   ·have:=qax9 hd y
    omega
   ·exact y
   ·have:=qax9 hd y
    omega
  subst this
  exact⟨u,hu,⋯,⋯,e⟩
 ·have:=m5 k _ k1 k2 z
  omega
theorem start_at(h:CK d R')(W:Wins d R){f:Int->Int}(T:Tells d R f)(T':Tells d R' f):∀w∈R',w.1∈0::(R.map (·.1)++R.map (·.2.1+1)):=by
 intro w hw
 have C:=h.can T'
 obtain⟨m0,m1,m2,m3⟩:=C.mem w hw
 have d0:=h.d0
 by_cases z:w.1=0
 ·rw[z];exact zan ..
 refine zai _ ?_
 obtain⟨fa,fl⟩:=m3 w.1 (zau _) m1
 obtain⟨u,hu,u1,u2,u3⟩:=at_open d0 W T m0 ⋯ fl
 by_cases ea:w.1=u.1
 ·exact zbf _ (zat.mpr ⟨u,hu,ea.symm⟩)
 refine zaq _ ?_
 have r:=h.rise T'
 have open_le:∀v∈R,∀x,v.1<=x->x<=v.2.1->f x<=x+v.2.2:=λ v hv x x1 x2=>by
  obtain⟨w0,w1,w2,w3⟩:=W v hv
  obtain⟨k,k1,k2,k3,k4,k5⟩:=qbo9 (t:=x) d0 w0 w1 w2
  have:=k5 0 x ⋯ ⋯ (zau _)
  have:=(bt_min (T x)).le v hv
  omega
 have l1:=open_le u hu (w.1-1) ⋯ ⋯
 have e1:w.1-1+1=w.1:=⋯
 have lt:f (w.1-1)<f (w.1-1+1):=by rw[e1];omega
 have ne:f (w.1-1)≠w.1-1+u.2.2:=λ e=>by
  obtain⟨w',hw',y1,y2⟩:=C.cov (w.1-1) ⋯ ⋯ lt
  obtain⟨n0,n1,n2,n3⟩:=C.mem w' hw'
  have c':=(n3 _ y1 y2).1
  have apart:w'.2.1<w.1:=by
   rcases(by omega:w'.2.1<w.1\/w.1<=w'.2.1) with y|y
   ·exact y
   ·exfalso
    obtain⟨i,hi,a1,a2,a3⟩:=qil9 hw
    obtain⟨j,hj,b1,b2,b3⟩:=qil9 hw'
    rcases(by omega:i<j\/i=j\/j<i) with q|q|q
    ·have:rB R' i<rA R' j:=(qmg9 h.srt q hj).1
     omega
    ·subst q
     omega
    ·have:rB R' j<rA R' i:=(qmg9 h.srt q hi).1
     omega
  obtain⟨i,hi,a1,a2,a3⟩:=qil9 hw
  obtain⟨j,hj,b1,b2,b3⟩:=qil9 hw'
  rcases(by omega:i<j\/i=j\/j<i) with q|q|q
  ·have:rB R' i<rA R' j:=(qmg9 h.srt q hj).1
   omega
  ·subst q
   omega
  ·have:=(qmg9 h.srt q hi).2.2
   exact this (by show rB R' j+1=rA R' i;omega) (by show rC R' j=rC R' i;omega)
 obtain⟨v,hv,v1,v2,v3⟩:=at_open d0 W T ⋯ ⋯ lt
 rcases(by omega:v.2.1=w.1-1\/w.1<=v.2.1) with y|y
 ·exact zat.mpr ⟨v,hv,⋯⟩
 ·have:=open_le v hv w.1 ⋯ y
  omega
theorem ck_len(h:CK d R')(W:Wins d R)(e:∀t,bt d R' t=bt d R t):R'.length<=2*R.length+1:=by
 by_cases n:R'=[]
 ·rw[n];simp
 ·have T':=tells_bf (d:=d) n
  have T:Tells d R (bf d R'):=λ t=>by rw[<- e t];exact T' t
  have:=qlu9 h.starts (L:=0::(R.map (·.1)++R.map (·.2.1+1))) λ x hx=>by
   obtain⟨w,hw,rfl⟩:=zat.mp hx
   exact start_at h W T T' w hw
  simp only[zad,zbg,zam] at this
  omega
end
end Ma
namespace Ma
theorem Cov.lt{f:Int->Int}:∀{S:List T4}{lo hi:Int}{i j:Nat}{r r':T4},Cov f lo S hi->S[i]?=some r->S[j]?=some r'->i<j->r.2.1<r'.1
 | [],_,_,_,_,_,_,_,e,_,_=>by simp at e
 |r0::S,lo,hi,0,j+1,r,r',⟨_,h2,h3,h4⟩,e,e',_=>by
  have e1:r0=r:=by simpa using e
  subst e1
  have e2:S[j]?=some r':=by simpa using e'
  have:=(Cov.get h4 e2).1
  omega
 |r0::S,lo,hi,i+1,j+1,r,r',⟨_,h2,h3,h4⟩,e,e',l=>Cov.lt h4 (by simpa using e) (by simpa using e') ⋯
 |r0::S,lo,hi,i,0,r,r',_,_,_,l=>⋯
theorem Cov.congr{f g:Int->Int}:∀{S:List T4}{lo hi:Int},(∀x,lo<=x->x<hi->f x=g x)->Cov f lo S hi->Cov g lo S hi
 | [],_,_,_,h=>h
 |r::S,lo,hi,e,⟨h1,h2,h3,h4⟩=>⟨h1,h2,λ x a b=>by
  have:=Cov.le h4
  rw[<- e x ⋯ ⋯];exact h3 x a b,Cov.congr (λ x a b=>e x ⋯ b) h4⟩
theorem rise_comp{d:Int}{f g:Int->Int}(rf:Rise d f)(rg:Rise d g):Rise d λ x=>g (f x):=by
 refine⟨λ t=>?_,λ t u l=>rg.mono _ _ (rf.mono t u l),λ t=>?_⟩
 ·have:=rf.ge t
  have:=rg.ge (f t)
  show t<=g (f t)
  omega
 ·show g (f (t+d))=g (f t)+d
  rw[rf.per,rg.per]
def rideRow(p e m ride:Int)(r:T4):T4:=if r.2.2.1=true then(p,e,true,m+r.2.2.2) else(p,e,false,ride+r.2.2.2)
theorem ride_cov{d:Int}{g:Int->Int}(rg:Rise d g){r:T4}{p e m k ride:Int}(hm:m=d*k)(pe:p<=e)(h1:m+r.1<=p+ride)(h2:e+ride<=m+r.2.1)(t:∀x,r.1<=x->x<=r.2.1->g x=tell r x) :
  Cov (λ x=>g (x+ride)) p [rideRow p e m ride r] (e+1):=by
 have gx:∀x,p<=x->x<=e->g (x+ride)=m+tell r (x+ride-m):=λ x x0 x1=>by
  have q:=rg.mul (x+ride-m) k
  rw[<- hm] at q
  have e1:x+ride-m+m=x+ride:=⋯
  rw[e1] at q
  rw[q,t _ ⋯ ⋯]
  omega
 unfold rideRow
 unfold tell at gx
 by_cases s:r.2.2.1=true
 ·rw[if_pos s]
  refine Cov.one (r:=(p,e,true,m+r.2.2.2)) pe λ x x0 x1=>?_
  show g (x+ride)=m+r.2.2.2
  rw[gx x x0 x1,if_pos s]
 ·rw[if_neg s]
  refine Cov.one (r:=(p,e,false,ride+r.2.2.2)) pe λ x x0 x1=>?_
  show g (x+ride)=x+(ride+r.2.2.2)
  rw[gx x x0 x1,if_neg s]
  omega
def obind(a b:Int->Option Int)(t:Int):Option Int:=(a t).bind b
end Ma
namespace Ma
end Ma
namespace Ma
variable {d:Int}{g:Int->Int}{R:List T3}
def turnW(d:Int)(w:T3):List T3 :=
 if(-w.2.1-w.2.2)%d+w.2.1-w.1<d then [((-w.2.1-w.2.2)%d,(-w.2.1-w.2.2)%d+w.2.1-w.1,w.2.2)]
 else [((-w.2.1-w.2.2)%d,d-1,w.2.2),(0,(-w.2.1-w.2.2)%d+w.2.1-w.1-d,w.2.2)]
def turnB(d:Int)(R:List T3):List T3:=R.flatMap (turnW d)
theorem turnW_len(d:Int)(w:T3):(turnW d w).length<=2:=by
 unfold turnW
 split<;>simp
theorem turnB_len(d:Int)(R:List T3):(turnB d R).length<=2*R.length:=by
 induction R with
 |nil=>simp[turnB]
 |cons w R ih =>
  have:=turnW_len d w
  have e:turnB d (w::R)=turnW d w++turnB d R:=by simp[turnB]
  rw[e,zam,zbg]
  omega
theorem turnB_snoc(d:Int)(R:List T3)(w:T3):turnB d (R++[w])=turnB d R++turnW d w:=by simp[turnB]
theorem turnB_mem{W:T3}:W∈turnB d R↔∃w∈R,W∈turnW d w:=by simp[turnB]
section
variable {a b c:Int}
theorem turnW_win(hd:0<d)(h1:a<=b)(h2:b<d)(h0:0<=a)(h3:0<=c):∀W∈turnW d (a,b,c),0<=W.1/\W.1<=W.2.1/\W.2.1<d/\0<=W.2.2/\W.2.2=c:=by
 intro W hW
 have f0:=zbr (-b-c) (show d≠0 by omega)
 have f1:=zbk (-b-c) hd
 unfold turnW at hW
 dsimp only at hW
 generalize (-b-c)%d=f at *
 split at hW
 ·rw[zag] at hW
  subst hW
  exact⟨f0,by show f<=f+b-a;omega,by show f+b-a<d;omega,h3,U⟩
 ·simp only[zah,zaw,or_false] at hW
  rcases hW with rfl|rfl
  ·exact⟨f0,by show f<=d-1;omega,by show d-1<d;omega,h3,U⟩
  ·exact⟨zau _,by show(0:Int)<=f+b-a-d;omega,by show f+b-a-d<d;omega,h3,U⟩
theorem qrt9(hd:0<d)(h1:a<=b)(h2:b<d)(h0:0<=a)(z:Int):(∃W∈turnW d (a,b,c),Op d W.1 W.2.1 z)↔Op d a b (-(z+c)):=by
 obtain⟨q,e,f0,f1⟩:=split d (-b-c) hd
 unfold turnW
 dsimp only
 generalize (-b-c)%d=f at *
 have key:Op d a b (-(z+c))↔∃m,d*m+f<=z/\z<=d*m+f+b-a:=by
  constructor
  ·intro z9;obtain⟨k,k1,k2⟩ := z9
   refine⟨q-k,?_,?_⟩
   ·rw[zdt];omega
   ·rw[zdt];omega
  ·intro z9;obtain⟨m,m1,m2⟩ := z9
   refine⟨q-m,?_,?_⟩
   ·rw[zdt];omega
   ·rw[zdt];omega
 rw[key]
 split
 ·constructor
  ·intro z9;obtain⟨W,hW,m,m1,m2⟩ := z9
   rw[zag] at hW
   subst hW
   exact⟨m,m1,by have:z<=d*m+(f+b-a):=m2;omega⟩
  ·intro z9;obtain⟨m,m1,m2⟩ := z9
   exact⟨_,zag.mpr rfl,m,m1,by show z<=d*m+(f+b-a);omega⟩
 ·constructor
  ·intro z9;obtain⟨W,hW,m,m1,m2⟩ := z9
   simp only[zah,zaw,or_false] at hW
   rcases hW with rfl|rfl
   ·exact⟨m,m1,by have:z<=d*m+(d-1):=m2;omega⟩
   ·refine⟨m-1,?_,?_⟩
    ·have:d*m+0<=z:=m1
     rw[zdt,zco];omega
    ·have:z<=d*m+(f+b-a-d):=m2
     rw[zdt,zco];omega
  ·intro z9;obtain⟨m,m1,m2⟩ := z9
   rcases(by omega:z<=d*m+(d-1)\/d*m+d<=z) with y|y
   ·exact⟨(f,d-1,c),by simp,m,m1,y⟩
   ·refine⟨(0,f+b-a-d,c),by simp,m+1,?_,?_⟩
    ·show d*(m+1)+0<=z
     rw[zeo,zco];omega
    ·show z<=d*(m+1)+(f+b-a-d)
     rw[zeo,zco];omega
end
structure IsLv(d:Int)(R:List T3)(s y:Int):Prop where
 at_:∃w∈R,y=lastO d w.1 w.2.1 (s-w.2.2)
 le:∀w∈R,lastO d w.1 w.2.1 (s-w.2.2)<=y
theorem ex_max(g:T3->Int):∀{R:List T3},R≠[]->∃w∈R,∀u∈R,g u<=g w
 | [w],_=>⟨w,by simp,λ u hu=>by rw[zag] at hu;subst hu;exact zau _⟩
 |w::v::R,_=>by
  obtain⟨u,hu,h⟩:=ex_max g (R:=v::R) (by simp)
  rcases zgh (g w) (g u) with c|c
  ·exact⟨u,zai _ hu,λ x hx=>by
    rcases zah.mp hx with rfl|hx
    ·exact c
    ·exact h x hx⟩
  ·exact⟨w,zan ..,λ x hx=>by
    rcases zah.mp hx with rfl|hx
    ·exact zau _
    ·have:=h x hx
     omega⟩
theorem ex_lv(h:R≠[])(s:Int):∃y,IsLv d R s y:=by
 obtain⟨w,hw,hm⟩:=ex_max (λ w=>lastO d w.1 w.2.1 (s-w.2.2)) h
 exact⟨_,⟨w,hw,U⟩,hm⟩
section
variable {f:Int->Int}
theorem IsLv.gal(hd:0<d)(W:Wins d R)(T:Tells d R f){s y:Int}(h:IsLv d R s y)(x:Int):f x<=s↔x<=y:=by
 have m:=bt_min (T x)
 constructor
 ·intro l
  obtain⟨w,hw,e⟩:=m.at_
  obtain⟨w0,w1,w2,w3⟩:=W w hw
  obtain⟨k,k1,k2,k3,k4,k5⟩:=qbo9 (t:=x) hd w0 w1 w2
  obtain⟨k',m1,m2,m3,m4,m5⟩:=qgu9 (t:=s-w.2.2) hd w0 w1 w2
  have:=m5 k _ k1 k2 ⋯
  have:=h.le w hw
  omega
 ·intro l
  obtain⟨w,hw,e⟩:=h.at_
  obtain⟨w0,w1,w2,w3⟩:=W w hw
  obtain⟨k,k1,k2,k3,k4,k5⟩:=qbo9 (t:=x) hd w0 w1 w2
  obtain⟨k',m1,m2,m3,m4,m5⟩:=qgu9 (t:=s-w.2.2) hd w0 w1 w2
  have:=k5 k' _ m1 m2 ⋯
  have:=m.le w hw
  omega
theorem turnB_win(hd:0<d)(W:Wins d R):Wins d (turnB d R):=λ u hu=>by
 obtain⟨w,hw,hu⟩:=turnB_mem.mp hu
 obtain⟨w0,w1,w2,w3⟩:=W w hw
 obtain⟨a,b,c⟩:=w
 have:=turnW_win hd w1 w2 w0 w3 u hu
 exact⟨this.1,this.2.1,this.2.2.1,this.2.2.2.1⟩
theorem turn_bt(hd:0<d)(W:Wins d R){t y:Int}(h:IsLv d R (-t) y):bt d (turnB d R) t=some (-y):=by
 have le:∀u∈turnB d R,-y<=nextO d u.1 u.2.1 t+u.2.2:=λ u hu=>by
  obtain⟨w,hw,hu⟩:=turnB_mem.mp hu
  obtain⟨w0,w1,w2,w3⟩:=W w hw
  have l:=h.le w hw
  obtain⟨a,b,c⟩:=w
  have w0:0<=a:=w0
  have w1:a<=b:=w1
  have w2:b<d:=w2
  have w3:0<=c:=w3
  obtain⟨u0,u1,u2,u3,u4⟩:=turnW_win hd w1 w2 w0 w3 u hu
  obtain⟨k,k1,k2,k3,k4,k5⟩:=qbo9 (t:=t) hd u0 u1 u2
  obtain⟨k',m1,m2,m3,m4,m5⟩:=qgu9 (t:=-t-c) hd w0 w1 w2
  obtain⟨j,j1,j2⟩:=(qrt9 (c:=c) hd w1 w2 w0 _).mp ⟨u,hu,k,k1,k2⟩
  have:=m5 j _ j1 j2 ⋯
  have l':lastO d a b (-t-c)<=y:=l
  omega
 refine IsMin.bt ⟨?_,le⟩
 obtain⟨w,hw,e⟩:=h.at_
 obtain⟨w0,w1,w2,w3⟩:=W w hw
 obtain⟨a,b,c⟩:=w
 have w0:0<=a:=w0
 have w1:a<=b:=w1
 have w2:b<d:=w2
 have w3:0<=c:=w3
 have e':y=lastO d a b (-t-c):=e
 obtain⟨k',m1,m2,m3,m4,m5⟩:=qgu9 (t:=-t-c) hd w0 w1 w2
 rw[<- e'] at m1 m2 m3
 have ez:-((-(y+c))+c)=y:=⋯
 obtain⟨u,hu,j,j1,j2⟩:=(qrt9 (c:=c) hd w1 w2 w0 (-(y+c))).mpr ⟨k',by rw[ez];exact m1,by rw[ez];exact m2⟩
 obtain⟨u0,u1,u2,u3,u4⟩:=turnW_win hd w1 w2 w0 w3 u hu
 obtain⟨k,k1,k2,k3,k4,k5⟩:=qbo9 (t:=t) hd u0 u1 u2
 have n1:=k5 j _ j1 j2 ⋯
 have hu':u∈turnB d R:=turnB_mem.mpr ⟨(a,b,c),hw,hu⟩
 have:=le u hu'
 exact⟨u,hu',⋯⟩
def Gal(f g:Int->Int):Prop:=∀x s,f x<=s↔x<=g s
theorem gal_of(hd:0<d)(W:Wins d R)(T:Tells d R f):∃g,Gal f g/\∀s,IsLv d R s (g s):=by
 have h:=λ s=>ex_lv (d:=d) T.ne s
 exact⟨λ s=>(h s).choose,λ x s=>IsLv.gal hd W T (h s).choose_spec x,λ s=>(h s).choose_spec⟩
theorem qps9(hd:0<d)(W:Wins d R)(h:∀s,IsLv d R s (g s)):Tells d (turnB d R) λ t=>-(g (-t)):=λ t=>turn_bt hd W (h (-t))
theorem Gal.turn{f:Int->Int}(h:Gal f g):Gal (λ t=>-(g (-t))) λ s=>-(f (-s)):=λ x s=>by
 have:=h (-s) (-x)
 constructor
 ·intro l
  have:=this.mpr (by have l':-(g (-x))<=s:=l;omega)
  show x<=-(f (-s))
  omega
 ·intro l
  have:=this.mp (by have l':x<=-(f (-s)):=l;omega)
  show -(g (-x))<=s
  omega
theorem Gal.uniq{f g':Int->Int}(h:Gal f g)(h':Gal f g')(s:Int):g s=g' s:=by
 have a:=(h (g s) s).mpr (zau _)
 have b:=(h' (g s) s).mp a
 have a':=(h' (g' s) s).mpr (zau _)
 have b':=(h (g' s) s).mp a'
 omega
theorem turn_gal(hd:0<d)(W:Wins d R)(T:Tells d R f)(G:Gal f g):Tells d (turnB d R) λ t=>-(g (-t)):=λ t=>by
 obtain⟨g',G',L⟩:=gal_of hd W T
 rw[qps9 hd W L t]
 show some (-(g' (-t)))=some (-(g (-t)))
 rw[G.uniq G']
end
end Ma
namespace Ma
section
variable {f g:Int->Int}
end
end Ma
namespace Ma
theorem nextO_eq(d a b t:Int)(h1:a<=b):nextO d a b t=if b<t%d then t+d+a-t%d else if t%d<a then t+a-t%d else t:=by
 unfold nextO
 split
 ·omega
 ·split<;>omega
end Ma
namespace L2
open PySem PySem.Spec PyProof.Rows
variable {X:Cx}{a:Expr}{H:Hp}{es:List Expr}{i kk:Nat}{cpos pos pos' tp:Pos}{σ:St}{x:Str}{te:TE}{g:TG}
def Ite(K:W.Frag)(a:Addr):It :=
 ⟨λ i H=>∃xs x,SqL K H a xs/\xs[i]?=some x,
  λ i H v H'=>∃p x,v=.ref p/\H p=none/\H'=upd H p (.tup [.int i,x])/\(∀xs,SqL K H a xs->xs[i]?=some x),
  λ i H=>∃xs,SqL K H a xs/\xs.length<=i⟩
theorem turn_enum{P:Program}{w:World}{K:W.Frag}{e it a:Addr}(D:e≠it):Turn P w K (.Tuple es kk tp) (Ite K a) [e,it] e
  (λ i h=>(∃old,IsEnum h e it (i:Int) old)/\h.IsListIter it a i) where
 mem:=by simp
 obj:=λ i h st c hc=>by
  obtain⟨⟨old,he⟩,⟨o1,e1,c1,d1⟩⟩:=st
  simp only[zah,zaw,or_false] at hc
  rcases hc with rfl|rfl
  ·exact⟨_,he,λ v q=>by cases (show Data.fields _=Data.cell v from q)⟩
  ·exact⟨o1,e1,λ v q=>by rw[d1] at q;cases q⟩
 keep:=λ i h h' st k=>by
  obtain⟨⟨old,he⟩,h1⟩:=st
  exact⟨⟨old,k e (by simp) _ he⟩,h1.at λ o e=>k it (by simp) o e⟩
 item:=by
  intro X hP hw hK hc i pins s σ H E I hf st hg
  subst hP hw hK
  obtain⟨xs,x,hq1,hx⟩:=hg
  obtain⟨t1,rv1,p1,hz1⟩:=I.list hq1
  obtain⟨u,hu,ru⟩:=rv1.get hx
  obtain⟨⟨old,he⟩,h1⟩:=st
  refine wpAny_pyNext_enum_item he h1 p1.isList (x:=u) (by simpa using hu) D λ h' a1 a3 a5 a6 k=>?_
  have fresh:H s.heap.objs.size=none:=I.hok.fresh (zao _)
  have szn:∀c o,s.heap.get? c=some o->c≠s.heap.objs.size:=λ c o e=>zbd (zas e)
  have I1:Inv X pins σ (upd H s.heap.objs.size (.tup [.int i,x])) { s with heap:=h' }:=by
   refine I.turnedL (ch:=[e,it]) (λ c hc=>hf c hc) (λ c o hc e=>?_) (λ c o e=>by rw[qap9 (qaz9 e fresh)];exact e) (λ c o e n=>by rw[qap9 (szn c o e)];exact n) λ c o n e=>?_
   ·simp only[zah,zaw,or_false,not_or] at hc
    exact k c o hc.1 hc.2 e
   ·by_cases ec:c=s.heap.objs.size
    ·rw[ec,qaf9] at e
     cases e
     rw[ec]
     exact⟨by show 2<=sizeLine;decide,[.int i s.toks,u],.cons ⟨_,U⟩ (.cons ru .nil),_,a5,U,_,U⟩
    ·rw[qap9 ec,n] at e
     cases e
  have I1':Inv X pins σ (upd H s.heap.objs.size (.tup [.int i,x])) { s with heap:=h',toks:=s.toks+1 }:=I1.tok _
  refine⟨_,U,wpAny_letOwnedTupleGo_enum a1 λ h'' hz'' sb=>?_⟩
  have zf:=hf e (by simp)
  have zs:e≠s.heap.objs.size:=szn e _ he
  have I2:Inv X pins σ (upd H s.heap.objs.size (.tup [.int i,x])) { s with heap:=h'',toks:=s.toks+1 }:=Inv.turned (s:={ s with heap:=h',toks:=s.toks+1 }) (h':=h'') (t':=s.toks+1) (it:=e) I1' (λ c o hc e=>sb.extBut c o hc e) (by rw[qap9 zs];exact zf.1) zf.2.1 zf.2.2.2.1 zf.2.2.2.2.1 zf.2.2.2.2.2
  refine⟨.ref s.heap.objs.size,_,I2,U,⟨_,x,U,fresh,U,λ xs' h=>by rw[I.list_inj h hq1];exact hx⟩,?_,λ c hc=>?_⟩
  ·exact⟨⟨_,hz''⟩,a3.extBut sb.extBut D.symm⟩
  ·have q:c≠s.heap.objs.size:=by
    obtain⟨o1,e1,_⟩:=h1
    simp only[zah,zaw,or_false] at hc
    rcases hc with rfl|rfl
    ·exact zs
    ·exact szn _ _ e1
   rw[qap9 q]
   exact(hf c hc).1
 done:=by
  intro X hP hw hK hc i pins s σ H E I hf st hg
  subst hP hw hK
  obtain⟨xs,hq1,hl⟩:=hg
  obtain⟨t1,rv1,p1,hz1⟩:=I.list hq1
  have l1:=rv1.length
  obtain⟨⟨old,he⟩,h1⟩:=st
  refine wpAny_pyNext_enum_end (I.ok.hd hc) he h1 p1.isList (by simp;omega) λ h' k=>⟨rfl,?_⟩
  refine I.turnedL (ch:=[e,it]) (λ c hc=>hf c hc) (λ c o hc e=>?_) (λ c o e=>e) (λ c o e n=>n) λ c o n e=>by rw[n] at e;cases e
  simp only[zah,zaw,or_false,not_or] at hc
  exact k c o hc.2 e
 self:=λ _ _ _ _ _ st h=>by
  obtain⟨⟨old,he⟩,_⟩:=st
  exact wpAny_pyIter_enum he h
def iEnum(K:W.Frag)(ta:TA):TI:=λ σ H R=>ta σ H λ vs H1=>∃l1,vs=[.ref l1]/\(∃xs,SqL K H1 l1 xs)/\R (Ite K l1) H1
theorem boot_enum:bootBuiltins "enumerate"=some (.type "enumerate"):=by decide +kernel
theorem pi_enum{ta:TA}{p:Pos}(hg:Gl X "enumerate")(hm:X.mg "enumerate"=none)(ha:PA X [a] ta)(hs:starEach [a] X.env=[(false,eval a X.env)]) :
  PI X (.Tuple es kk tp) (.Call (.Name "enumerate" p) [a] [] pos) (iEnum X.K ta):=by
 intro pins s σ H R I h
 refine Call_ (qoi9 I hg hm boot_enum (PyProof.Rows.callWith_type1 (thn (ha pos pins s σ H _ I h) λ us s1 ⟨vs,H1,I1,r1,q1⟩=>?_) (by rw[hs];rfl) (by rfl)))
 obtain⟨l1,e,⟨xs,hq1⟩,q⟩:=q1
 subst e
 cases r1 with
 |cons r rr =>
  cases rr
  cases r
  obtain⟨t1,rv1,p1,hz1⟩:=I1.list hq1
  refine call_enumerate_list p1.isList λ h' hz hit1 hsz k=>wpAny_pyIter_enum hz ?_
  refine⟨s1.heap.objs.size+1,[s1.heap.objs.size+1,s1.heap.objs.size],_,_,H1,U,I1.kept (t':=s1.toks) k,turn_enum (Nat.succ_ne_self _),⟨⟨_,hz⟩,hit1⟩,λ c hc=>?_,q⟩
  have ge:s1.heap.objs.size<=c:=by
   simp only[zah,zaw,or_false] at hc
   rcases hc with rfl|rfl<;>omega
  exact I1.fpOk ge (I1.hok.fresh ge)
theorem qi_enum{ta:TA}{p pos tp:Pos}{es:List Expr}{kk:Nat}(hg:Gl X "enumerate")(hm:X.mg "enumerate"=none)(ha:QA X [a] ta)(h:qbj9 a=true:=by rfl) :
  QI X (.Tuple es kk tp) (.Call (.Name "enumerate" p) [a] [] pos) (iEnum X.K ta):=⟨pi_enum hg hm ha.run (by rw[se_of h];rfl)⟩
theorem for_enum{K:W.Frag}{a:Addr}{xs:List V}{tb:TS}{D:Ends}(Pv:Nat->St->Hp->Prop)(h0:Pv 0 σ H)(hl:∀i σ H,i<=xs.length->Pv i σ H->SqL K H a xs)
  (hs:∀i x p σ H,xs[i]?=some x->Pv i σ H->H p=none->g (.ref p) σ (upd H p (.tup [.int i,x])) λ σ2 H2=>tb { D with nx:=Pv (i+1),ct:=Pv (i+1),bk:=D.nx } σ2 H2) (hd:∀σ H,Pv xs.length σ H->D.nx σ H) :
  ∃W:Nat->Nat->St->Hp->Prop,(∃m,W 0 m σ H)/\∀i m σ H,W i m σ H ->
   ((Ite K a).stop i H/\D.nx σ H)\/((Ite K a).go i H/\∃N:St->Hp->Prop,(∀σ' H',N σ' H'->∃m',m'<m/\W (i+1) m' σ' H')/\∀x H',(Ite K a).yld i H x H'->g x σ H' λ σ2 H2=>tb { D with nx:=N,ct:=N,bk:=D.nx } σ2 H2):=by
 refine⟨λ i m σ H=>m=xs.length-i/\i<=xs.length/\Pv i σ H,⟨xs.length,by simp,zbt _,h0⟩,?_⟩
 intro i m σ H z9;obtain⟨rfl,hi,p⟩ := z9
 have q:=hl i σ H hi p
 by_cases hlt:i<xs.length
 ·refine .inr ⟨⟨xs,xs[i],q,by simp[hlt]⟩,Pv (i+1),λ σ' H' p'=>⟨xs.length-(i+1),⋯,rfl,hlt,p'⟩,λ x H' y=>?_⟩
  obtain⟨c,x,e,fr,e2,y⟩:=y
  subst e e2
  exact hs i x c σ _ (y xs q) p fr
 ·have e:i=xs.length:=⋯
  subst e
  exact .inl ⟨⟨xs,q,zao _⟩,hd σ H p⟩
section
variable {e o:Expr}{to:TE}{t:TA}{apos:Pos}
theorem qs_aug{op:Operator}{ti:TIp}{pos':Pos}(hN:X.N.Nodup)(hi:X.N[i]?=some x)(hx:Loc X.env.scope x)(ho:PIp X op ti)(he:QE X e te)(hf:X.fn x=true\/X.env.scope.names.lookup x=some .local:=by first|exact .inl rfl|exact .inr rfl|assumption) :
  QS X (.AugAssign (.Name x pos') op e pos) (tAug i te ti):=⟨ps_aug hN hi hx he.run ho hf⟩
theorem qfw9{st:Stmt}:QS X st tNever:=⟨ps_never⟩
theorem qrn9:QOp X (binaryOp .Add) rCat:=⟨op_cat⟩
theorem qkd9(ho:QE X o to)(ha:QA X [e] t)(h:qbj9 e=true:=by rfl)(hbase:attributeBase o "extend" X.env (eval o X.env)=eval o X.env:=by rfl)(hline:(apos.endLine==pos.line)=true:=by rfl) :
  QE X (.Call (.Attribute o "extend" apos) [e] [] pos) (tBM X.K "list" rExtend to t) :=
 ⟨pe_bm PySem.F.plainAttrs_list PySem.F.slot_list_extend PySem.F.type_list_extend mt_extend ho.run ha.run hbase (by rw[se_of h];rfl) hline (se_of h) rfl⟩
end
section
variable {lo:Int}{n:Nat}{caps:List (Option Nat)}{tt:TT}{Q:VK}
theorem qpw9(Pv:Addr->Nat->Hp->Prop)(h0:∀D,H D=none->Pv D 0 (upd H D (.lst [])))
  (hs:∀D i H',H D=none->i<n->Pv D i H'->g (.int (lo+(i:Nat))) (seen caps σ) H' λ σ4 H4=>(∀(k:Nat) v,(seen caps σ)[k]?=some (some v)->σ4[k]?=some (some v))/\tt σ4 H4 λ b H5 =>
   if b=true then te σ4 H5 λ y H6=>∃ys,H6 D=some (.lst ys)/\ys.length<sizeLine/\Pv D (i+1) (upd H6 D (.lst (ys++[y]))) else Pv D (i+1) H5)
  (hd:∀D H',H D=none->Pv D n H'->Q (.ref D) H'):cBody caps g tt te σ Q (Itr lo n) H:=by
 intro D hD
 refine⟨λ i m H'=>m=n-i/\i<=n/\Pv D i H',⟨n,by simp,zbt _,h0 D hD⟩,?_⟩
 intro i m H2 z9;obtain⟨rfl,hi,p⟩ := z9
 by_cases hlt:i<n
 ·refine .inr ⟨hlt,Pv D (i+1),λ H' p'=>⟨n-(i+1),⋯,rfl,hlt,p'⟩,λ x H3 y=>?_⟩
  obtain⟨e,y⟩:=y
  subst e y
  exact hs D i _ hD hlt p
 ·have e:i=n:=⋯
  subst e
  exact .inl ⟨zao _,hd D H2 hD p⟩
theorem qjn9(Pv:Addr->Nat->Hp->Prop)(h0:∀D,H D=none->Pv D 0 (upd H D (.lst [])))
  (hs:∀D i H',H D=none->i<n->Pv D i H'->g (.int (lo+(i:Nat))) (seen caps σ) H' λ σ4 H4=>(∀(k:Nat) v,(seen caps σ)[k]?=some (some v)->σ4[k]?=some (some v)) /\
   te σ4 H4 λ y H6=>∃ys,H6 D=some (.lst ys)/\ys.length<sizeLine/\Pv D (i+1) (upd H6 D (.lst (ys++[y]))))
  (hd:∀D H',H D=none->Pv D n H'->Q (.ref D) H'):cBody caps g tTrue te σ Q (Itr lo n) H:=qpw9 Pv h0 hs hd
end
section
variable {tg:Expr}
end
section
variable {N':List Str}{scope:Scope}{cl:List (Str×Addr)}{caps:List (Option Nat)}{tg iter elt:Expr}{wi:TI}{tt:TT}
theorem comp_gen{use:Option (Value->Sem Unit)}{QQ:Value->Shared->Prop}{pins:List (Addr×Obj)}{s:Shared}{σ:St}{H:Hp}{Q:VK}{cpos:Pos}(B:BlkOk X N' scope cl caps)(hc:X.calm=true)(hi:PI X tg iter wi)(hg:∀C s0 H0 fp,PG (blk X N' scope cl C s0 H0 fp) tg g)(he:∀C s0 H0 fp,PE (blk X N' scope cl C s0 H0 fp) elt te)
  (hs:∀x,foldedSetIterable iter X.env x=pure x:=by intro _;rfl) (I:Inv X pins σ H s) (h:(tComp wi caps g tTrue te) σ H Q)
  (fin:∀(D C:Addr)(s6:Shared)(H5:Hp),Inv X pins σ H5 s6->FpOk X pins H5 C->(∃m,s6.heap.Ns C m)->Q (.ref D) H5->compPost (model X.prog X.w) X.A X.xe use QQ (.ref D) C (.ok .next) s6) :
  wpAny (model X.prog X.w) X.A (comprehension (.ListComp elt [⟨tg,iter,[],0⟩] scope pos) scope X.env cpos (newList []) false (eval iter X.env) use) QQ X.xe s:=by
 refine wpAny_comprehension_free (use:=use) rfl hs B.clos B.kind B.names ?_
 refine thn (hi pins s σ H _ I h) λ v s1 h1=>thn h1 λ itv s2 h2=>?_
 obtain⟨it,fp,tn,J,H2,rfl,I2,T,st2,f2,q2⟩:=h2
 have fpl:∀b∈fp,b<s2.heap.objs.size:=λ b hb=>by
  obtain⟨o,e,_⟩:=T.obj _ _ st2 b hb
  exact zas e
 obtain⟨W,⟨m0,w0⟩,turn⟩:=q2 s2.heap.objs.size (I2.hok.fresh (zao _))
 refine wpAny_newObj_type ?_
 have I3:Inv X pins σ (upd H2 s2.heap.objs.size (.lst [])) { s2 with heap:=s2.heap.push { cls:=.type "list",data:=.seq ([]:List Value).toArray } } :=
  I2.laid (t':=s2.toks) (λ b u e=>zae _ e) (zao _) ⟨zbt _,[],0,.nil,zar _ rfl⟩
 generalize hs3:({ s2 with heap:=s2.heap.push { cls:=.type "list",data:=.seq ([]:List Value).toArray } }:Shared)=s3 at I3
 have k23:∀b o,s2.heap.get? b=some o->s3.heap.get? b=some o:=λ b o e=>by rw[<- hs3];exact zae _ e
 have fpl3:∀b∈fp,b<s3.heap.objs.size:=λ b hb=>by
  obtain⟨o,e,_⟩:=T.obj _ _ st2 b hb
  exact zas (k23 b o e)
 have f3:∀b∈fp,FpOk X pins (upd H2 s2.heap.objs.size (.lst [])) b:=λ b hb=>⟨by rw[qap9 (zbd (fpl b hb))];exact(f2 b hb).1,(f2 b hb).2⟩
 refine wpAny_newFunctionEnv B.nocell (by intro y hy;simp at hy) (λ h1 hn1 sb1=>?_) B.kind
 have k31:∀b o,s3.heap.get? b=some o->h1.get? b=some o:=λ b o e=>sb1.extBut b o (zbd (zas e)) (zae _ e)
 have J0:=qsl9 (fp:=fp) (tk:=s3.toks+([]:List (Str×Value)).length) B I3 f3 hn1 k31 fpl3
 have st1:tn 0 h1:=T.keep _ _ _ st2 λ b _ o e=>k31 b o (k23 b o e)
 have loop:codeAny (model X.prog X.w) X.A (.compLoop (.ListComp elt [⟨tg,iter,[],0⟩] scope pos) 0 (.ref it) (.ref s2.heap.objs.size) (blk X N' scope cl s3.heap.objs.size s3 (upd H2 s2.heap.objs.size (.lst [])) fp).env)
   (compPost (model X.prog X.w) X.A X.xe use QQ (.ref s2.heap.objs.size) s3.heap.objs.size) { s3 with heap:=h1,toks:=s3.toks+([]:List (Str×Value)).length }:=by
  refine codeAny_loop rfl (λ n s'=>∃i H',Inv (blk X N' scope cl s3.heap.objs.size s3 (upd H2 s2.heap.objs.size (.lst [])) fp) [] (seen caps σ) H' s'/\tn i s'.heap/\(∀b∈fp,H' b=none)/\W i n H') (λ n s5 hI=>?_) m0
   ⟨0,_,J0,st1,λ b hb=>(f3 b hb).1,w0⟩
  obtain⟨i,H5,I5,st5,fr5,w5⟩:=hI
  show wpAny _ _ ((compTurn (.ListComp elt [⟨tg,iter,[],0⟩] scope pos) 0 (.ref it) (.ref s2.heap.objs.size) (blk X N' scope cl s3.heap.objs.size s3 (upd H2 s2.heap.objs.size (.lst [])) fp).env).onRaise (λ x=>do noteFrame x (blk X N' scope cl s3.heap.objs.size s3 (upd H2 s2.heap.objs.size (.lst [])) fp).env;theTreesLotGoes x)) _ _ s5
  refine wpAny_noted ?_
  rw[compTurn_list1]
  have ff:∀{H':Hp},(∀b∈fp,H' b=none)->∀b∈fp,FpOk (blk X N' scope cl s3.heap.objs.size s3 (upd H2 s2.heap.objs.size (.lst [])) fp) [] H' b:=λ {H'} hn b hb =>
   ⟨hn b hb,(J0.ok.exf b hb).1,J0.ok.exfs b hb,.inl hb,λ x c e=>(J0.ok.exf b hb).2 x c e,λ p hp=>absurd (show p∈([]:List (Addr×Obj)) from hp) (by simp)⟩
  rcases turn i n H5 w5 with⟨stop,qn⟩|⟨go,N,hN,step⟩
  ·refine wpAny_bind (wpAny_standAt (wpAny_bind (thn (T.done (blk X N' scope cl s3.heap.objs.size s3 (upd H2 s2.heap.objs.size (.lst [])) fp) rfl rfl rfl hc i [] s5 _ H5 _ I5 (ff fr5) st5 stop) λ r s6 z9=>?_)))
   obtain⟨hr,I6⟩ := z9
   subst hr
   refine wpAny_pure ?_
   obtain⟨m,hn,_⟩:=id I6.loc
   exact fin _ _ _ _ (qpt9 I3 f3 fpl3 I6 (Heap.SameBut.refl _ _)) (I3.fpOk (zao _) I6.free) ⟨m,hn⟩ qn
  ·refine wpAny_bind (wpAny_standAt (wpAny_bind (thn (T.item (blk X N' scope cl s3.heap.objs.size s3 (upd H2 s2.heap.objs.size (.lst [])) fp) rfl rfl rfl hc i [] s5 _ H5 _ I5 (ff fr5) st5 go) λ r s6 z9=>?_)))
   obtain⟨u,hr,h6⟩ := z9
   subst hr
   refine wpAny_bind (thn h6 λ _ s7 z9=>?_)
   obtain⟨x,H7,I7,r7,y7,st7,fr7⟩ := z9
   have I7':=I7.pinned (ff fr7) (T.obj _ _ st7)
   refine wpAny_bind (wpAny_mono (hg _ _ _ _ _ s7 _ H7 x u _ I7' r7 (step x H7 y7)) (λ _ s8 z9=>?_) λ _ _ f=>f.elim)
   obtain⟨σ8,H8,I8,kp,q8⟩ := z9
   have q8':te σ8 H8 λ y H6=>∃ys,H6 s2.heap.objs.size=some (.lst ys)/\ys.length<sizeLine/\N (upd H6 s2.heap.objs.size (.lst (ys++[y]))):=by
    have z:=q8
    unfold tTrue at z
    dsimp only at z
    rw[if_pos rfl] at z
    exact z
   refine wpAny_bind (wpAny_bind (wpAny_mono (he _ _ _ _ _ s8 σ8 H8 _ I8 q8') (λ y s9 z9=>?_) λ _ _ f=>f.elim))
   obtain⟨y',H9,I9,r9,ys,hD,hl,n9⟩ := z9
   refine wpAny_bind (wpAny_mono (qhy9 (X:=blk X N' scope cl s3.heap.objs.size s3 (upd H2 s2.heap.objs.size (.lst [])) fp) _ s9 σ8 H9 (.ref s2.heap.objs.size) [y'] (.ref s2.heap.objs.size) [y] (λ _ H'=>N H') I9 rfl (.cons r9 .nil) ⟨_,ys,y',rfl,rfl,hD,hl,n9⟩) (λ _ s10 z9=>?_) λ _ _ f=>f.elim)
   obtain⟨_,H10,I10,_,n10⟩ := z9
   exact wpAny_pure (wpAny_pure ⟨rfl,qhj9 T hN st7 I10 kp (I5.len.trans I10.len.symm) n10⟩)
 exact codeAny_compStart_list loop (T.self X.A 0 _ _ _ st1 loop)
theorem qqk9{pos' cpos:Pos}{c:Expr}(hN:X.N.Nodup)(hix:X.N[i]?=some x)(hx:Loc X.env.scope x)(B:BlkOk X N' scope cl caps)(hc:X.calm=true)(hi:PI X tg iter wi)(hg:∀C s0 H0 fp,PG (blk X N' scope cl C s0 H0 fp) tg g)(he:∀C s0 H0 fp,PE (blk X N' scope cl C s0 H0 fp) elt te)
  (hs:∀x,foldedSetIterable iter X.env x=pure x:=by intro _;rfl) (hsw:swapsWith (.ListComp elt [⟨tg,iter,[],0⟩] scope cpos) (some (.Name x pos')) pos.line X.env=pure true:=by rfl) (hf:X.fn x=true\/X.env.scope.names.lookup x=some .local:=by first|exact .inl rfl|exact .inr rfl|assumption) :
  PS X (.Assign [.Name x pos'] (.ListComp elt [⟨tg,iter,[],0⟩] scope cpos) pos) (tAsg (tComp wi caps g tTrue te) (gName i)):=by
 intro pins s σ H D I h
 rw[exec_Assign_Name_used _ _ _ _ hsw]
 refine wpAny_bind (wpAny_standAt (wpAny_bind ?_))
 refine wpAny_bind (thn (comp_gen (use:=some (assign (.Name x pos') X.env)) (QQ:=λ _ s'=>SP X pins D .next s') B hc hi hg he hs I h ?_) λ _ s' q=>wpAny_pure (wpAny_pure q))
 intro Da C s6 H5 I6 fC z9 q;obtain⟨m,hn⟩ := z9
 show wpAny _ _ (assign (.Name x pos') X.env (.ref Da)) _ _ s6
 obtain⟨o,es,ep,eo,ed,k1,k2⟩:=hn
 have I6':=I6.pinned (fp:=[C]) (λ b hb=>by rw[zag.mp hb];exact fC) (λ b hb=>⟨o,by rw[zag.mp hb];exact eo,λ v z=>by rw[ed] at z;cases z⟩)
 refine thn (pg_name (pos:=pos') hN hix hx hf _ s6 σ H5 (.ref Da) (.ref Da) D.nx I6' rfl q) λ _ s7 z9=>?_
 obtain⟨σ7,H7,I7,q7⟩ := z9
 have e7:=I7.pin (C,o) (zaq _ (zaq _ (qfv9 (by simp) eo)))
 exact⟨m,⟨o,es,ep,e7.1,ed,k1,k2⟩,λ h' sb=>⟨σ7,H7,Inv.turned (t':=s7.toks) (it:=C) I7.unpinned (λ b o hb e=>sb.extBut b o hb e) e7.2.1 fC.2.1 fC.2.2.2.1 fC.2.2.2.2.1 fC.2.2.2.2.2,q7⟩⟩
theorem qrr9{pos' cpos:Pos}(N':List Str)(caps:List (Option Nat))(hN:X.N.Nodup)(hix:X.N[i]?=some x)(hx:Loc X.env.scope x)(B:BlkOk X N' scope cl caps)(hc:X.calm=true)(hi:QI X tg iter wi)(hg:∀C s0 H0 fp,QG (blk X N' scope cl C s0 H0 fp) tg g)(he:∀C s0 H0 fp,QE (blk X N' scope cl C s0 H0 fp) elt te)
  (hs:∀x,foldedSetIterable iter X.env x=pure x:=by intro _;rfl) (hsw:swapsWith (.ListComp elt [⟨tg,iter,[],0⟩] scope cpos) (some (.Name x pos')) pos.line X.env=pure true:=by rfl) (hf:X.fn x=true\/X.env.scope.names.lookup x=some .local:=by first|exact .inl rfl|exact .inr rfl|assumption) :
  QS X (.Assign [.Name x pos'] (.ListComp elt [⟨tg,iter,[],0⟩] scope cpos) pos) (tAsg (tComp wi caps g tTrue te) (gName i)) :=
 ⟨qqk9 (c:=elt) hN hix hx B hc hi.run (λ C s0 H0 fp=>(hg C s0 H0 fp).run) (λ C s0 H0 fp=>(he C s0 H0 fp).run) hs hsw hf⟩
end
def valI(ns:List Int)(i:Nat):Int:=(ns[i]?).getD 0
theorem qra9{ns:List Int}{its:List Value}(r:Vals (ns.map V.int) its){v:Value}(h:its[i]?=some v):∃t,v=.int (valI ns i) t:=by
 have hl:=r.length
 rw[zad] at hl
 have hi:i<ns.length:=by
  have:=(zab.mp h).1
  omega
 obtain⟨u,hu,ru⟩:=r.get (i:=i) (x:=.int ns[i]) (by rw[zap,zaa hi];rfl)
 rw[h] at hu
 cases hu
 obtain⟨t,e⟩:=ru
 exact⟨t,by rw[e];unfold valI;rw[zaa hi];rfl⟩
theorem best_ge(f:Nat->Int):∀k,argBest (λ i j=>decide (f i>f j)) k<=k/\∀i,i<=k->f i<=f (argBest (λ i j=>decide (f i>f j)) k)
 |0=>⟨zao _,λ i hi=>by
  have:i=0:=⋯
  subst this
  exact zau _⟩
 |k+1=>by
  obtain⟨h1,h2⟩:=best_ge f k
  simp only[argBest]
  by_cases c:f (k+1)>f (argBest (λ i j=>decide (f i>f j)) k)
  ·rw[if_pos (dT9 c)]
   refine⟨zao _,λ i hi=>?_⟩
   rcases(by omega:i<=k\/i=k+1) with z|z
   ·have:=h2 i z
    omega
   ·rw[z];exact zau _
  ·rw[if_neg (λ z=>c (oT9 z))]
   refine⟨⋯,λ i hi=>?_⟩
   rcases(by omega:i<=k\/i=k+1) with z|z
   ·exact h2 i z
   ·rw[z];omega
theorem valI_mem{ns:List Int}(h:i<ns.length):valI ns i∈ns:=by
 unfold valI
 rw[zaa h]
 exact zbi h
theorem mem_valI{ns:List Int}{x:Int}(h:x∈ns):∃i,i<ns.length/\valI ns i=x:=by
 obtain⟨i,hi,e⟩:=zdk.mp h
 exact⟨i,hi,by unfold valI;rw[zaa hi,e];rfl⟩
theorem call_maxL(hc:X.calm=true):CallR X (.builtin "max") (λ xs H Q=>∃(p:Addr)(ns:List Int),xs=[.ref p]/\SqL X.K H p (ns.map V.int)/\ns≠[]/\∀m,m∈ns->(∀x∈ns,x<=m)->Q (.int m) H):=by
 intro pins s σ H xs us Q I r h
 obtain⟨p,ns,rfl,hS,n0,q⟩:=h
 obtain⟨u,rfl,ru⟩:=vals1 r
 cases ru
 obtain⟨its,rv,pl,hz⟩:=I.list hS
 have hl:=pl.isList
 have hlt:p<s.heap.objs.size:=by obtain⟨_,e,_⟩:=hl;exact zas e
 have hl2:=rv.length
 rw[zad] at hl2
 have hn:0<ns.length:=zda.mpr n0
 have hsz:its.toArray.size=ns.length:=by rw[zax,hl2]
 refine call_max_walk (wpAny_pyIter_list hl ?_)
 refine⟨s.heap.objs.size,[s.heap.objs.size,p],[s.heap.objs.size],its.toArray.size,_,_,_,U,Walks.list (A:=X.A.in1) (I.ok.hd hc) _ p (zbd hlt) its.toArray,
  ⟨⟨_,zar _ rfl,rfl,rfl⟩,hl.push _⟩,λ b hb=>?_,⋯,CmpOf.ints_gt (valI ns) (λ i v hP=>qra9 rv (by simpa using hP)),λ v h' tk hP hk=>?_⟩
 ·simp only[zah,zaw,or_false] at hb
  show b<(s.heap.push _).objs.size
  rw[zdi]
  rcases hb with rfl|rfl
  ·exact zea _
  ·exact Nat.lt_succ_of_lt hlt
 ·obtain⟨t,rfl⟩:=qra9 rv (i:=argBest (λ i j=>decide (valI ns i>valI ns j)) (its.toArray.size-1)) (v:=v) (by simpa using hP)
  obtain⟨b1,b2⟩:=best_ge (valI ns) (its.toArray.size-1)
  have keep:∀b x,s.heap.get? b=some x->h'.get? b=some x:=λ b x e=>hk b x (λ hm=>by rw[zag.mp hm] at e;exact zca _ (zas e)) (zae _ e)
  refine⟨.int _,H,I.kept (t':=tk) keep,⟨_,U⟩,q _ (valI_mem ⋯) λ x hx=>?_⟩
  obtain⟨i,hi,e⟩:=mem_valI hx
  rw[<- e]
  exact b2 i ⋯
theorem qqo9(hc:X.calm=true):QCall X (.builtin "max") (λ xs H Q=>∃(p:Addr)(ns:List Int),xs=[.ref p]/\SqL X.K H p (ns.map V.int)/\ns≠[]/\∀m,m∈ns->(∀x∈ns,x<=m)->Q (.int m) H):=⟨call_maxL hc⟩
end L2
namespace My
open PySem L2
variable {P a l p:Addr}{o:HO}{H H' H1:Hp}{R:List T3}{vs xs zs:List V}{n:Nat}{x:V}{K:W.Frag}
def Tup3(H:Hp)(r:Addr)(a b c:Int):Prop:=H r=some (.tup [.int a,.int b,.int c])
theorem qar9(h:H p=none)(o:HO):Same H (upd H p o):=λ b u q=>by rw[qap9 (qaz9 q h)];exact q
theorem qqj9(hp:H p=none)(hg:upd H p o=H'):Same H H'/\H' p=some o:=by
 subst hg
 exact⟨qar9 hp o,qaf9⟩
theorem at_int{ns:List Int}{k:Int}(h0:0<=k)(h:k<(ns.length:Int)):∃v:Int,atI (ns.map V.int) k=some (.int v):=by
 have hk:k.toNat<ns.length:=⋯
 have ek:k=((k.toNat:Nat):Int):=⋯
 have q:atI (ns.map V.int) ((k.toNat:Nat):Int)=some (.int ns[k.toNat]):=qea9 (by rw[zap,zaa hk]<;>rfl)
 rw[<- ek] at q
 exact⟨_,q⟩
theorem iteP{c A B:Prop} [Decidable c](h:c)(x:A):if c then A else B:=by
 rw[if_pos h]
 exact x
theorem iteN{c A B:Prop} [Decidable c](h:¬c)(x:B):if c then A else B:=by
 rw[if_neg h]
 exact x
theorem day6{c j:Int}(hc:1<=c/\c<=1000000000000000)(h0:0<=j)(h1:j<6):∃v:Int,atI [V.int 1,V.int 2,V.int 3,V.int 24,V.int 1440,V.int c] j=some (.int v)/\1<=v/\v<=1000000000000000:=by
 rcases(by omega:j=0\/j=1\/j=2\/j=3\/j=4\/j=5) with rfl|rfl|rfl|rfl|rfl|rfl
 ·exact⟨1,U,by decide,by decide⟩
 ·exact⟨2,U,by decide,by decide⟩
 ·exact⟨3,U,by decide,by decide⟩
 ·exact⟨24,U,by decide,by decide⟩
 ·exact⟨1440,U,by decide,by decide⟩
 ·exact⟨c,U,hc.1,hc.2⟩
theorem pow15:((10:Int) ^ (15:Int).toNat)=1000000000000000:=by decide +kernel
inductive spCell(K:W.Frag)(vs:List V)(H:Hp)(Q:VK)(z3q:XK):Prop
 |mk (a:Addr) (ns:List Int) (k:Int):vs=[.ref a,.int k]->SqL K H a (ns.map V.int)->0<=k->(∀c:Int,Q (.int c) H)->spCell K vs H Q z3q
inductive spDay(vs:List V)(H:Hp)(Q:VK)(z3q:XK):Prop
 |mk (c:Int):vs=[.int c]->(∀(d:Int)(H':Hp),1<=d->d<=1000000000000000->Same H H'->Q (.int d) H')->spDay vs H Q z3q
open Ma (T3 rA rB rC)
def tup3(R:List T3)(i:Nat):HO:=.tup [.int (rA R i),.int (rB R i),.int (rC R i)]
structure RowsAt(H:Hp)(p:Addr)(R:List T3):Prop where
 ex:∃rs:List Addr,H p=some (.lst (rs.map V.ref))/\rs.length=R.length/\∀(i:Nat) r,rs[i]?=some r->H r=some (tup3 R i)
theorem RowsAt.mono(h:RowsAt H p R)(s:∀b o,H b=some o->(∀z,o ≠ .tbl z)->H' b=some o):RowsAt H' p R:=by
 obtain⟨rs,h1,h2,h3⟩:=h.ex
 exact⟨rs,s _ _ h1 (λ _ z=>nomatch z),h2,λ i r e=>s _ _ (h3 i r e) (λ _ z=>nomatch z)⟩
theorem RowsAt.at(h:RowsAt H p R):∃xs:List V,SqL K H p xs/\xs.length=R.length/\∀k:Int,0<=k->k<(R.length:Int)->∃r,atI xs k=some (.ref r)/\H r=some (tup3 R k.toNat):=by
 obtain⟨rs,h1,h2,h3⟩:=h.ex
 refine⟨rs.map V.ref,SqL.of h1,by rw[zad,h2],λ k k0 k1=>?_⟩
 have hk:k.toNat<rs.length:=⋯
 have ek:k=((k.toNat:Nat):Int):=⋯
 have q:atI (rs.map V.ref) ((k.toNat:Nat):Int)=some (.ref rs[k.toNat]):=qea9 (by rw[zap];simp[hk])
 rw[<- ek] at q
 exact⟨rs[k.toNat],q,h3 _ _ (zaa hk)⟩
theorem map_ref{rs:List Addr}{i:Nat}{y:V}(h:(rs.map V.ref)[i]?=some y):∃r,y=V.ref r/\rs[i]?=some r:=by
 rw[zap] at h
 cases e:rs[i]? with
 |none=>rw[e] at h;cases h
 |some z=>rw[e] at h;exact⟨z,(Option.some.inj h).symm,rfl⟩
theorem qnl9{pos:Pos}{q:Str}(h:H P=some (.tbl #[])):TabOk H P pos q:=⟨#[],h,trivial,.inl rfl⟩
structure LA{α:Type}(enc:α->List V)(H:Hp)(p:Addr)(xs:List α):Prop where
 ex:∃rs:List Addr,H p=some (.lst (rs.map V.ref))/\rs.length=xs.length/\∀(i:Nat) r x,rs[i]?=some r->xs[i]?=some x->H r=some (.tup (enc x))
section
variable {α:Type}{enc:α->List V}{H H':Hp}{p q r:Addr}{xs ys:List α}{vs ws:List V}
theorem LA.nil(h:H p=some (.lst [])):LA enc H p []:=⟨[],h,rfl,λ i r x e=>by cases i<;>cases e⟩
theorem LA.mono(h:LA enc H p xs)(s:∀b o,H b=some o->(∀z,o ≠ .tbl z)->H' b=some o):LA enc H' p xs:=by
 obtain⟨rs,h1,h2,h3⟩:=h.ex
 exact⟨rs,s _ _ h1 (λ _ z=>nomatch z),h2,λ i r x e e'=>s _ _ (h3 i r x e e') (λ _ z=>nomatch z)⟩
theorem LA.same(h:LA enc H p xs)(s:Same H H'):LA enc H' p xs:=h.mono λ b o e _=>s b o e
theorem LA.lst(h:LA enc H p xs):∃vs,H p=some (.lst vs)/\vs.length=xs.length/\∀(i:Nat) y,vs[i]?=some y->∃r x,y=.ref r/\xs[i]?=some x/\H r=some (.tup (enc x)):=by
 obtain⟨rs,h1,h2,h3⟩:=h.ex
 refine⟨_,h1,by rw[zad,h2],λ i y e=>?_⟩
 obtain⟨r,rfl,er⟩:=map_ref e
 have hi:i<xs.length:=by
  have:=(zab.mp er).1
  omega
 exact⟨r,xs[i],U,zaa hi,h3 i r _ er (zaa hi)⟩
theorem LA.of(h:H p=some (.lst vs))(l:vs.length=xs.length)(g:∀(i:Nat) y,vs[i]?=some y->∃r,y=.ref r/\∀x,xs[i]?=some x->H r=some (.tup (enc x))):LA enc H p xs:=by
 have go:∀(vs:List V),(∀(i:Nat) y,vs[i]?=some y->∃r,y=V.ref r)->∃rs:List Addr,vs=rs.map V.ref:=by
  intro vs
  induction vs with
  |nil=>intro _;exact⟨[],rfl⟩
  |cons v vs ih =>
   intro g
   obtain⟨r,e⟩:=g 0 v rfl
   obtain⟨rs,e2⟩:=ih λ i y e=>g (i+1) y (by simpa using e)
   exact⟨r::rs,by rw[e,e2];rfl⟩
 obtain⟨rs,e⟩:=go vs λ i y e=>by
  obtain⟨r,e1,_⟩:=g i y e
  exact⟨r,e1⟩
 subst e
 refine⟨rs,h,by rw[zad] at l;exact l,λ i r x e1 e2=>?_⟩
 obtain⟨r',e3,e4⟩:=g i (.ref r) (by rw[zap,e1];rfl)
 cases e3
 exact e4 x e2
theorem LA.append{x:α}(h:LA enc H p xs)(hx:H p=some (.lst vs))(hr:H r=some (.tup (enc x))):LA enc (upd H p (.lst (vs++[.ref r]))) p (xs++[x]):=by
 obtain⟨vs',h1,h2,h3⟩:=h.lst
 rw[h1] at hx
 cases hx
 have ne:∀q (ys:List V),H q=some (.tup ys)->q≠p:=λ q ys e z=>by rw[z,h1] at e;cases e
 refine LA.of qaf9 (by simp[h2]) λ i y e=>?_
 rcases(by omega:i<vs.length\/vs.length<=i) with hi|hi
 ·rw[zal hi] at e
  obtain⟨r',x',e1,e2,e3⟩:=h3 i y e
  refine⟨r',e1,λ x2 e4=>?_⟩
  rw[zal ⋯,e2] at e4
  cases e4
  rw[qap9 (ne r' _ e3)]
  exact e3
 ·rw[zak hi] at e
  have ei:i-vs.length=0:=by
   have:=(zab.mp e).1
   simp at this
   omega
  rw[ei] at e
  have e':V.ref r=y:=by simpa using e
  refine⟨r,e'.symm,λ x2 e4=>?_⟩
  rw[zak ⋯,show i-xs.length=0 by omega] at e4
  have e5:x=x2:=by simpa using e4
  subst e5
  rw[qap9 (ne r _ hr)]
  exact hr
theorem LA.extend(h:LA enc H p xs)(h':LA enc H q ys)(hx:H p=some (.lst vs))(hy:H q=some (.lst ws)):LA enc (upd H p (.lst (vs++ws))) p (xs++ys):=by
 obtain⟨vs',h1,h2,h3⟩:=h.lst
 obtain⟨ws',k1,k2,k3⟩:=h'.lst
 rw[h1] at hx
 cases hx
 rw[k1] at hy
 cases hy
 have ne:∀q (ys:List V),H q=some (.tup ys)->q≠p:=λ q ys e z=>by rw[z,h1] at e;cases e
 refine LA.of qaf9 (by simp[h2,k2]) λ i y e=>?_
 rcases(by omega:i<vs.length\/vs.length<=i) with hi|hi
 ·rw[zal hi] at e
  obtain⟨r',x',e1,e2,e3⟩:=h3 i y e
  refine⟨r',e1,λ x2 e4=>?_⟩
  rw[zal ⋯,e2] at e4
  cases e4
  rw[qap9 (ne r' _ e3)]
  exact e3
 ·rw[zak hi] at e
  obtain⟨r',x',e1,e2,e3⟩:=k3 _ y e
  refine⟨r',e1,λ x2 e4=>?_⟩
  rw[zak ⋯,show i-xs.length=i-vs.length by omega,e2] at e4
  cases e4
  rw[qap9 (ne r' _ e3)]
  exact e3
theorem LA.cat(h:LA enc H p xs)(h':LA enc H q ys)(hx:H p=some (.lst vs))(hy:H q=some (.lst ws))(hr:H r=none):LA enc (upd H r (.lst (vs++ws))) r (xs++ys):=by
 obtain⟨vs',h1,h2,h3⟩:=h.lst
 obtain⟨ws',k1,k2,k3⟩:=h'.lst
 rw[h1] at hx
 cases hx
 rw[k1] at hy
 cases hy
 have ne:∀q o,H q=some o->q≠r:=λ q o e=>qaz9 e hr
 refine LA.of qaf9 (by simp[h2,k2]) λ i y e=>?_
 rcases(by omega:i<vs.length\/vs.length<=i) with hi|hi
 ·rw[zal hi] at e
  obtain⟨r',x',e1,e2,e3⟩:=h3 i y e
  refine⟨r',e1,λ x2 e4=>?_⟩
  rw[zal ⋯,e2] at e4
  cases e4
  rw[qap9 (ne r' _ e3)]
  exact e3
 ·rw[zak hi] at e
  obtain⟨r',x',e1,e2,e3⟩:=k3 _ y e
  refine⟨r',e1,λ x2 e4=>?_⟩
  rw[zak ⋯,show i-xs.length=i-vs.length by omega,e2] at e4
  cases e4
  rw[qap9 (ne r' _ e3)]
  exact e3
theorem LA.setAt{x:α}{j:Nat}(h:LA enc H p xs)(hx:H p=some (.lst vs))(hr:H r=some (.tup (enc x))):LA enc (upd H p (.lst (vs.set j (.ref r)))) p (xs.set j x):=by
 obtain⟨vs',h1,h2,h3⟩:=h.lst
 rw[h1] at hx
 cases hx
 have ne:∀q (ys:List V),H q=some (.tup ys)->q≠p:=λ q ys e z=>by rw[z,h1] at e;cases e
 refine LA.of qaf9 (by simp[h2]) λ i y e=>?_
 rw[zcp] at e
 by_cases c:j=i
 ·rw[if_pos c] at e
  split at e
  ·have e':V.ref r=y:=by simpa using e
   refine⟨r,e'.symm,λ x2 e4=>?_⟩
   rw[zcp,if_pos c] at e4
   split at e4
   ·have e5:x=x2:=by simpa using e4
    subst e5
    rw[qap9 (ne r _ hr)]
    exact hr
   ·cases e4
  ·cases e
 ·rw[if_neg c] at e
  obtain⟨r',x',e1,e2,e3⟩:=h3 i y e
  refine⟨r',e1,λ x2 e4=>?_⟩
  rw[zcp,if_neg c,e2] at e4
  cases e4
  rw[qap9 (ne r' _ e3)]
  exact e3
theorem LA.copy(h:LA enc H p xs)(s:Same H H')(hx:H p=some (.lst vs))(e:H' q=some (.lst vs)):LA enc H' q xs:=by
 obtain⟨rs,h1,h2,h3⟩:=h.ex
 rw[h1] at hx
 cases hx
 exact⟨rs,e,h2,λ i r x e1 e2=>s _ _ (h3 i r x e1 e2)⟩
theorem LA.at{K:W.Frag}(h:LA enc H p xs):∃vs:List V,H p=some (.lst vs)/\vs.length=xs.length/\∀(k:Nat) x,xs[k]?=some x->∃r,atI vs (k:Int)=some (.ref r)/\H r=some (.tup (enc x)):=by
 obtain⟨vs,h1,h2,h3⟩:=h.lst
 refine⟨vs,h1,h2,λ k x e=>?_⟩
 have hk:k<vs.length:=by
  have:=(zab.mp e).1
  omega
 obtain⟨r,x',e1,e2,e3⟩:=h3 k _ (zaa hk)
 rw[e] at e2
 cases e2
 exact⟨r,qea9 (by rw[zaa hk,e1]),e3⟩
end
theorem qqf9(h:vs≠[]):atI vs (-1)=vs[vs.length-1]?:=by
 have hl:0<vs.length:=zda.mpr h
 unfold atI ixN
 rw[if_neg ⋯,if_pos ⋯]
 show vs[(-1+(vs.length:Int)).toNat]?=_
 congr 1
 omega
section
variable {α:Type}{D:α->PyData}
theorem qlk9 [DecidableEq α](hD:∀x y,PyData.eqv (D x) (D y)=decide (x=y)):∀xs ys:List α,PyData.eqvAll (xs.map D) (ys.map D)=decide (xs=ys)
 | [],[]=>by simp[PyData.eqvAll]
 | [],y::ys=>by simp[PyData.eqvAll]
 |x::xs,[]=>by simp[PyData.eqvAll]
 |x::xs,y::ys=>by
  have ih:=qlk9 hD xs ys
  simp only[zcg,PyData.eqvAll,ih,hD]
  by_cases c:x=y<;>by_cases c':xs=ys<;>simp[c,c']
theorem qri9 [DecidableEq α](hD:∀x y,PyData.eqv (D x) (D y)=decide (x=y))(xs ys:List α):PyData.eqv (.list (xs.map D)) (.list (ys.map D))=decide (xs=ys):=by
 simp only[PyData.eqv]
 exact qlk9 hD xs ys
theorem qit9(h:∀x,PyData.canLay0 (D x)=true):∀xs:List α,PyData.canLayAll0 (xs.map D)=true
 | []=>by simp[PyData.canLayAll0]
 |x::xs=>by
  have:=qit9 h xs
  simp[PyData.canLayAll0,h,this]
theorem qjp9{n:Nat}(h:∀x,PyData.depth (D x)<=n):∀xs:List α,PyData.depthAll (xs.map D)<=n
 | []=>by simp[PyData.depthAll]
 |x::xs=>by
  have:=qjp9 h xs
  have:=h x
  simp only[zcg,PyData.depthAll]
  omega
theorem qko9(h:∀x,PyData.canLay0 (D x)=true)(h2:∀x,PyData.depth (D x)<=n)(hn:n<=60)(xs:List α):SeqAt.shaped (.list (xs.map D))=true:=by
 have h3:=qjp9 h2 xs
 show(PyData.canLay0 (.list (xs.map D))&&decide (PyData.depth (.list (xs.map D))<=64))=true
 rw[zbu]
 exact⟨by simp only[PyData.canLay0];exact qit9 h xs,dT9 (by simp only[PyData.depth];omega)⟩
theorem LA.rd{enc:α->List V}{ds:α->List PyData}{xs:List α}(h:LA enc H p xs)(hd:∀x,RdAll K H (enc x) (ds x)):RdV K H (.ref p) (.list (xs.map λ x=>.tuple (ds x))):=by
 obtain⟨rs,h1,h2,h3⟩:=h.ex
 refine .lst (SqL.of h1) ?_
 have go:∀(rs:List Addr)(xs:List α),rs.length=xs.length->(∀(i:Nat) r x,rs[i]?=some r->xs[i]?=some x->H r=some (.tup (enc x)))->RdAll K H (rs.map V.ref) (xs.map λ x=>.tuple (ds x)):=by
  intro rs
  induction rs with
  |nil =>
   intro xs hl _
   cases xs with
   |nil=>exact .nil
   |cons x xs=>cases hl
  |cons r rs ih =>
   intro xs hl g
   cases xs with
   |nil=>cases hl
   |cons x xs=>exact .cons (.tup (SqT.of (g 0 r x rfl rfl)) (hd x)) (ih xs (by simpa using hl) λ i r' x' e1 e2=>g (i+1) r' x' (by simpa using e1) (by simpa using e2))
 exact go rs xs h2 h3
end
open Ma (T4)
def enc3(t:T3):List V:=[.int t.1,.int t.2.1,.int t.2.2]
def enc4(t:T4):List V:=[.int t.1,.int t.2.1,.bl t.2.2.1,.int t.2.2.2]
def dat3(t:T3):PyData:=.tuple [.int t.1,.int t.2.1,.int t.2.2]
theorem eqv3(x y:T3):PyData.eqv (dat3 x) (dat3 y)=decide (x=y):=by
 obtain⟨a,b,c⟩:=x
 obtain⟨a',b',c'⟩:=y
 simp only[dat3,PyData.eqv,PyData.eqvAll,Prod.mk.injEq]
 by_cases c1:a=a'<;>by_cases c2:b=b'<;>by_cases c3:c=c'<;>simp[c1,c2,c3]
theorem rd3(h:LA enc3 H p R):RdV K H (.ref p) (.list (R.map dat3)):=h.rd λ x=>.cons (.int _) (.cons (.int _) (.cons (.int _) .nil))
theorem LA.rows(h:LA enc3 H p R):RowsAt H p R:=by
 obtain⟨rs,h1,h2,h3⟩:=h.ex
 refine⟨rs,h1,h2,λ i r e1=>?_⟩
 have hi:i<R.length:=by
  have:=(zab.mp e1).1
  omega
 exact h3 i r _ e1 (Ma.r_at hi)
inductive Dv(H:Hp):V->Prop
 |non:Dv H .non
 |bl (b:Bool):Dv H (.bl b)
 |int (i:Int):Dv H (.int i)
 |str (x:Str):Dv H (.str x)
 |lst {a:Addr} {xs:List V}:H a=some (.lst xs)->Dv H (.ref a)
 |tup {a:Addr} {xs:List V}:H a=some (.tup xs)->Dv H (.ref a)
def isWh:V->Bool
 | .int _=>true
 |_=>false
def tupV(H:Hp):V->Option (List V)
 | .ref a=>match H a with
  |some (.tup xs)=>some xs
  |_=>none
 |_=>none
def lstV(H:Hp):V->Option (List V)
 | .ref a=>match H a with
  |some (.lst xs)=>some xs
  |_=>none
 |_=>none
theorem qsi9(h:H a=some (.tup xs)):tupV H (.ref a)=some xs:=by simp[tupV,h]
theorem qnb9(h:H a=some (.lst xs)):lstV H (.ref a)=some xs:=by simp[lstV,h]
theorem qlo9(h:tupV H x=some xs):∃a,x=.ref a/\H a=some (.tup xs):=by
 unfold tupV at h
 split at h
 ·rename_i a
  split at h
  ·rename_i ys e
   cases h
   exact⟨a,U,e⟩
  ·cases h
 ·cases h
theorem qlg9(h:lstV H x=some xs):∃a,x=.ref a/\H a=some (.lst xs):=by
 unfold lstV at h
 split at h
 ·rename_i a
  split at h
  ·rename_i ys e
   cases h
   exact⟨a,U,e⟩
  ·cases h
 ·cases h
theorem Dv.same(h:Dv H x)(s:Same H H'):Dv H' x:=by
 cases h with
 |non=>exact .non
 |bl b=>exact .bl b
 |int i=>exact .int i
 |str x=>exact .str x
 |lst e=>exact .lst (s _ _ e)
 |tup e=>exact .tup (s _ _ e)
theorem Dv.tupV_same(h:Dv H x)(s:Same H H'):tupV H' x=tupV H x:=by
 cases h with
 |non=>rfl
 |bl b=>rfl
 |int i=>rfl
 |str x=>rfl
 |lst e=>simp[tupV,e,s _ _ e]
 |tup e=>simp[tupV,e,s _ _ e]
theorem Dv.lstV_same(h:Dv H x)(s:Same H H'):lstV H' x=lstV H x:=by
 cases h with
 |non=>rfl
 |bl b=>rfl
 |int i=>rfl
 |str x=>rfl
 |lst e=>simp[lstV,e,s _ _ e]
 |tup e=>simp[lstV,e,s _ _ e]
theorem Dv.isTup(h:Dv H x):∃t,TyOf K H x t/\W.kitOne K t (.type "tuple")=some (tupV H x).isSome:=by
 cases h with
 |non=>exact⟨_,.non,rfl⟩
 |bl b=>exact⟨_,.bl b,rfl⟩
 |int i=>exact⟨_,.int i,rfl⟩
 |str x=>exact⟨_,.str x,rfl⟩
 |lst e=>exact⟨_,.lst e,by simp only[tupV,e];rfl⟩
 |tup e=>exact⟨_,.tup e,by simp only[tupV,e];rfl⟩
theorem Dv.isLst(h:Dv H x):∃t,TyOf K H x t/\W.kitOne K t (.type "list")=some (lstV H x).isSome:=by
 cases h with
 |non=>exact⟨_,.non,rfl⟩
 |bl b=>exact⟨_,.bl b,rfl⟩
 |int i=>exact⟨_,.int i,rfl⟩
 |str x=>exact⟨_,.str x,rfl⟩
 |lst e=>exact⟨_,.lst e,by simp only[lstV,e];rfl⟩
 |tup e=>exact⟨_,.tup e,by simp only[lstV,e];rfl⟩
def Dv2(H:Hp)(x:V):Prop:=Dv H x/\∀zs,tupV H x=some zs->∀z∈zs,Dv H z
theorem Dv2.same{H H':Hp}{x:V}(h:Dv2 H x)(s:Same H H'):Dv2 H' x:=⟨h.1.same s,λ zs e z hz=>(h.2 zs (by rw[<- h.1.tupV_same s];exact e) z hz).same s⟩
def winL(day:Int):List V->Bool
 | [.int a,.int b,.int c]=>decide (0<=a)&&(decide (a<=b)&&(decide (b<day)&&decide (0<=c)))
 |_=>false
def winV(H:Hp)(day:Int)(x:V):Bool:=match tupV H x with
 |some xs=>winL day xs
 |none=>false
theorem Dv.winV_same(h:Dv H x)(s:Same H H')(day:Int):winV H' day x=winV H day x:=by
 unfold winV
 rw[h.tupV_same s]
def qhx9(H:Hp)(day:Int)(x:V):Bool:=match lstV H x with
 |some xs=>xs.all (winV H day)
 |none=>false
inductive spIsWhole(vs:List V)(H:Hp)(Q:VK)(z3q:XK):Prop
 |mk (x:V):vs=[x]->Dv H x->Q (.bl (isWh x)) H->spIsWhole vs H Q z3q
inductive spWindow(vs:List V)(H:Hp)(Q:VK)(z3q:XK):Prop
 |mk (day:Int) (x:V):vs=[.int day,x]->Dv2 H x->(∀H',Same H H'->Q (.bl (winV H day x)) H')->spWindow vs H Q z3q
def Dv3(H:Hp)(x:V):Prop:=Dv H x/\∀xs,lstV H x=some xs->xs.length<=1000/\∀y∈xs,Dv2 H y
inductive spBoard(vs:List V)(H:Hp)(Q:VK)(z3q:XK):Prop
 |mk (day:Int) (x:V):vs=[.int day,x]->Dv3 H x->(∀H',Same H H'->Q (.bl (qhx9 H day x)) H')->spBoard vs H Q z3q
theorem qfj9{α β:Type}{xs:List α}{i:Nat}{y:α}(f:α->β)(h:xs[i]?=some y):(xs.take (i+1)).map f=(xs.take i).map f++[f y]:=by
 rw[zbw,h,zba]
 rfl
theorem three{α:Type}:∀{xs:List α},xs.length=3->∃u v w,xs=[u,v,w]
 | [u,v,w],_=>⟨u,v,w,rfl⟩
theorem qin9(h:isWh x=true):∃i,x=.int i:=by
 cases x<;>first|exact⟨_,rfl⟩|cases h
inductive Ev(H:Hp):Nat->V->Prop
 |non {n:Nat}:Ev H n .non
 |bl {n:Nat} (b:Bool):Ev H n (.bl b)
 |int {n:Nat} (i:Int):Ev H n (.int i)
 |str {n:Nat} {x:Str}:PyData.strOk x=true->Ev H n (.str x)
 |lst {n:Nat} {a:Addr} {xs:List V}:H a=some (.lst xs)->(∀y∈xs,Ev H n y)->Ev H (n+1) (.ref a)
 |tup {n:Nat} {a:Addr} {xs:List V}:H a=some (.tup xs)->(∀y∈xs,Ev H n y)->Ev H (n+1) (.ref a)
theorem Ev.dv(h:Ev H n x):Dv H x:=by
 cases h with
 |non=>exact .non
 |bl b=>exact .bl b
 |int i=>exact .int i
 |str h=>exact .str _
 |lst e _=>exact .lst e
 |tup e _=>exact .tup e
theorem Ev.parts(h:Ev H (n+1) x)(e:tupV H x=some zs):∀z∈zs,Ev H n z:=by
 obtain⟨a,rfl,ea⟩:=qlo9 e
 cases h with
 |lst e2 _=>rw[ea] at e2;cases e2
 |tup e2 p=>rw[ea] at e2;cases e2;exact p
theorem Ev.items(h:Ev H (n+1) x)(e:lstV H x=some zs):∀z∈zs,Ev H n z:=by
 obtain⟨a,rfl,ea⟩:=qlg9 e
 cases h with
 |tup e2 _=>rw[ea] at e2;cases e2
 |lst e2 p=>rw[ea] at e2;cases e2;exact p
theorem Ev.d2(h:Ev H (n+1) x):Dv2 H x:=⟨h.dv,λ zs e z hz=>(h.parts e z hz).dv⟩
theorem Ev.d3(h:Ev H (n+2) x)(l:∀zs,lstV H x=some zs->zs.length<=1000):Dv3 H x:=⟨h.dv,λ zs e=>⟨l zs e,λ z hz=>(h.items e z hz).d2⟩⟩
theorem Same.seqT(e:Same H H')(h:SqT K H a xs):SqT K H' a xs:=by
 rcases h with(h|⟨o,h⟩)|h
 ·exact .inl (.inl (e _ _ h))
 ·exact .inl (.inr ⟨o,e _ _ h⟩)
 ·exact .inr h
mutual
theorem rdv_same{K:W.Frag}{H H':Hp}(s:Same H H'):∀{x:V}{d:PyData},RdV K H x d->RdV K H' x d
 |_,_,.non=>.non
 |_,_,.bl b=>.bl b
 |_,_,.int i=>.int i
 |_,_,.str x=>.str x
 |_,_,.lst h a=>.lst (s.seq h) (qlz9 s a)
 |_,_,.tup h a=>.tup (Same.seqT s h) (qlz9 s a)
theorem qlz9{K:W.Frag}{H H':Hp}(s:Same H H'):∀{xs:List V}{ds:List PyData},RdAll K H xs ds->RdAll K H' xs ds
 |_,_,.nil=>.nil
 |_,_,.cons h1 h2=>.cons (rdv_same s h1) (qlz9 s h2)
end
theorem cut1(xs:List V):cutV xs (some 1) none=xs.drop 1:=by
 unfold cutV
 cases xs with
 |nil=>simp
 |cons x r =>
  have e1:HT.sIx (x::r).length 0 (some 1)=1:=by
   simp[HT.sIx]
  have e2:HT.sIx (x::r).length (x::r).length none=(x::r).length:=rfl
  rw[e1,e2]
  simp
def optV:Option Int->V
 |none=>.non
 |some y=>.int y
theorem qbf9(h:n<=16000000):n<sizeLine:=by
 have e:sizeLine=16777216:=by decide +kernel
 omega
theorem qbl9(hp:H p=none)(s:Same H H1):Same H (upd H1 p o):=λ b u e=>by
 rw[qap9 (qaz9 e hp)]
 exact s _ _ e
theorem SameT.trans{H2:Hp}(a:SameT P H H1)(b:SameT P H1 H2):SameT P H H2:=λ c o e n=>b c o (a c o e n) n
theorem SameT.same(a:Same H H1):SameT P H H1:=λ c o e _=>a c o e
def SameU(H H':Hp):Prop:=(∀b o,H b=some o->(∀z,o ≠ .tbl z)->H' b=some o)/\∀b o,H b=some o->∃o',H' b=some o'
theorem SameU.refl(H:Hp):SameU H H:=⟨λ _ _ e _=>e,λ _ o e=>⟨o,e⟩⟩
theorem SameU.trans{H2:Hp}(a:SameU H H1)(b:SameU H1 H2):SameU H H2:=⟨λ c o e n=>b.1 c o (a.1 c o e n) n,λ c o e=>by
 obtain⟨o1,e1⟩:=a.2 c o e
 exact b.2 c o1 e1⟩
theorem SameU.of(a:Same H H1):SameU H H1:=⟨λ c o e _=>a c o e,λ c o e=>⟨o,a c o e⟩⟩
theorem SameU.tab{pos pos':Pos}{q q':Str}(a:SameT P H H1)(t:TabOk H P pos q)(t':TabOk H1 P pos' q'):SameU H H1:=⟨λ c o e n=>a c o e λ z=>by
 obtain⟨ps,hp,_⟩:=t
 rw[z,hp] at e
 exact n ps (Option.some.inj e).symm,λ c o e=>by
 by_cases z:c=P
 ·obtain⟨ps,hp,_⟩:=t'
  exact⟨_,by rw[z];exact hp⟩
 ·exact⟨o,a c o e z⟩⟩
theorem SameU.free(a:SameU H H1)(h:H1 p=none):H p=none:=by
 cases e:H p with
 |none=>rfl
 |some o =>
  obtain⟨o',e'⟩:=a.2 p o e
  rw[h] at e'
  cases e'
theorem SameU.lst{H H1:Hp}{p:Addr}{xs:List V}(a:SameU H H1)(e:H p=some (.lst xs)):H1 p=some (.lst xs):=a.1 _ _ e λ _ z=>nomatch z
theorem SameU.tup{H H1:Hp}{p:Addr}{xs:List V}(a:SameU H H1)(e:H p=some (.tup xs)):H1 p=some (.tup xs):=a.1 _ _ e λ _ z=>nomatch z
theorem SameU.wr(hp:H p=none)(s:SameU H H1):SameU H (upd H1 p o):=⟨λ b u e n=>by
 rw[qap9 (qaz9 e hp)]
 exact s.1 _ _ e n,λ b u e=>by
 rw[qap9 (qaz9 e hp)]
 exact s.2 _ _ e⟩
theorem LA.u{α:Type}{enc:α->List V}{xs:List α}(h:LA enc H p xs)(s:SameU H H'):LA enc H' p xs:=h.mono s.1
theorem Callee.imp{P:Program}{w:World}{K:W.Frag}{mg:Str->Option Value}{base:Heap}{k:Nat}{x:Str}{ps:List Str}{sp sp':Sp}(C:Callee P w K mg base k x ps sp)(h:∀vs H Q E,sp' vs H Q E->sp vs H Q E):Callee P w K mg base k x ps sp':=by
 obtain⟨f,fd,G,b,kp,m⟩:=C.ex
 exact⟨f,fd,G.imp h,b,kp,m⟩
structure TB(T:Hp->Prop):Prop where
 same:∀H H',T H->Same H H'->T H'
 wr:∀H p xs ys,T H->H p=some (.lst xs)->T (upd H p (.lst ys))
section
variable {d:Int}
theorem la_mem{y:V}(h:LA enc3 H p R)(hv:H p=some (.lst vs))(hy:y∈vs):∃r x,y=.ref r/\x∈R/\H r=some (.tup (enc3 x)):=by
 obtain⟨vs',h1,h2,h3⟩:=h.lst
 rw[h1] at hv
 cases hv
 obtain⟨i,hi⟩:=zbl hy
 obtain⟨r,x,e1,e2,e3⟩:=h3 i y hi
 exact⟨r,x,e1,zaj e2,e3⟩
theorem la_ev(h:LA enc3 H p R):Ev H 3 (.ref p):=by
 obtain⟨vs,h1,h2,h3⟩:=h.lst
 refine .lst h1 λ y hy=>?_
 obtain⟨r,x,rfl,_,e⟩:=la_mem h h1 hy
 refine .tup e λ z hz=>?_
 simp only[enc3,zah,zaw,or_false] at hz
 rcases hz with rfl|rfl|rfl<;>exact .int _
theorem la_lst(h:LA enc3 H p R)(e:lstV H (.ref p)=some vs):vs.length=R.length:=by
 obtain⟨ws,h1,h2,h3⟩:=h.lst
 rw[qnb9 h1] at e
 cases e
 exact h2
theorem la_dv3(h:LA enc3 H p R)(hl:R.length<=1000):Dv3 H (.ref p):=Ev.d3 (n:=1) (la_ev h) λ zs e=>by rw[la_lst h e];exact hl
theorem qpd9(h:LA enc3 H p R)(W:Ma.Wins d R):qhx9 H d (.ref p)=true:=by
 obtain⟨vs,h1,h2,h3⟩:=h.lst
 unfold qhx9
 rw[qnb9 h1]
 refine zbh.mpr λ y hy=>?_
 obtain⟨r,x,rfl,hx,e⟩:=la_mem h h1 hy
 obtain⟨w0,w1,w2,w3⟩:=W x hx
 unfold winV
 rw[qsi9 e]
 simp[enc3,winL,w0,w1,w2,w3]
end
theorem qry9(vs:List V)(h:Nat)(hh:h<=vs.length):cutV vs none (some (h:Int))=vs.take h:=by
 unfold cutV HT.sIx
 have h0:¬(h:Int)<0:=⋯
 simp only[if_neg h0,zcs,zcw,zhh]
 rw[zfk hh]
theorem qru9(vs:List V)(h:Nat)(hh:h<=vs.length):cutV vs (some (h:Int)) none=vs.drop h:=by
 unfold cutV HT.sIx
 have h0:¬(h:Int)<0:=⋯
 simp only[if_neg h0,zcs]
 rw[zfk hh,zcm]
 rw[zcj]
 exact zao _
theorem LA.part{α:Type}{enc:α->List V}{xs:List α}(h:LA enc H p xs)(s:Same H H')(hv:H p=some (.lst vs))(lo hi:Nat)(e:H' l=some (.lst ((vs.drop lo).take hi))):LA enc H' l ((xs.drop lo).take hi):=by
 obtain⟨rs,h1,h2,h3⟩:=h.ex
 rw[h1] at hv
 cases hv
 refine⟨(rs.drop lo).take hi,by rw[e,<- zhi,<- zhj],by simp[h2],λ i r x e1 e2=>?_⟩
 rw[zey] at e1 e2
 split at e1
 ·rw[zct] at e1
  rename_i c
  rw[if_pos c,zct] at e2
  exact s _ _ (h3 _ r x e1 e2)
 ·cases e1
def datB(R:List T3):PyData:=.list (R.map dat3)
theorem eqvB(x y:List T3):PyData.eqv (datB x) (datB y)=decide (x=y):=qri9 eqv3 x y
theorem canB(R:List T3):PyData.canLay0 (datB R)=true:=by
 simp only[datB,PyData.canLay0]
 exact qit9 (λ x=>by simp[dat3,PyData.canLay0,PyData.canLayAll0]) R
theorem depB(R:List T3):PyData.depth (datB R)<=3:=by
 have:=qjp9 (D:=dat3) (n:=2) (λ x=>by simp[dat3,PyData.depth,PyData.depthAll]) R
 simp only[datB,PyData.depth]
 omega
theorem shapedB(xs:List (List T3)):SeqAt.shaped (.list (xs.map datB))=true:=qko9 (n:=3) canB depB (by decide) xs
theorem qcr9{α:Type}{enc:α->List V}{q:Addr}{xs:List α}{ys:List V}(h:LA enc H q xs)(hz:H l=some (.lst zs))(nq:q≠l):LA enc (upd H l (.lst ys)) q xs:=by
 obtain⟨rs,h1,h2,h3⟩:=h.ex
 refine⟨rs,by rw[qap9 nq];exact h1,h2,λ i r x e e'=>?_⟩
 have h4:=h3 i r x e e'
 have nr:r≠l:=λ z=>by rw[z,hz] at h4;cases h4
 rw[qap9 nr]
 exact h4
theorem la_ne{α β:Type}{enc:α->List V}{enc':β->List V}{xs:List α}(h:LA enc H p xs)(hl:H l=none):p≠l:=λ e=>by
 obtain⟨vs,h1,_⟩:=h.lst
 rw[e,hl] at h1
 cases h1
end My
namespace L2
open PySem PySem.Spec PyProof.Rows
variable {a:Addr}{A:Around}{X:Cx}{e o value:Expr}{H:Hp}{pins:List (Addr×Obj)}{apos pos:Pos}{P:Program}{s:Shared}{σ:St}{x:Str}{td te ty:TE}{y:V}{E:Value->Shared->Prop}{w:World}
section
variable {κ:Type} [DecidableEq κ]
end
theorem kV_is{k:Key}{u:Value}(r:RelV (kV k) u):(qiq9 P w).is k u=true:=by
 cases k with
 |inl i=>obtain⟨t,e⟩:=(show ∃t,u=Value.int i t from r);subst e;exact qoh9 P w i t
 |inr x=>obtain⟨t,e⟩:=(show ∃t,u=Value.str x t from r);subst e;exact qhm9 P w x t
section
variable {h:Heap}
end
section
variable {v:V}{u r:Value}{o:Option V}
end
section
variable {kvs:List (Key×V)}{k:Key}{u:Value}
end
def NoSl(i:Expr):Prop:=∀ov iv,subscripted i false ov iv=operate [ov,iv] (getItem ov iv)
theorem subD_of{prog:Program}{env:Env}{slice:Expr}{T id:String}{Q:Value->Shared->Prop}
  (hl:typeLookup (.type T) "__getitem__"=pure (some (.builtin id))) (hs:NoSl slice)
  (h:wpAny (model prog w) A (eval value env) (λ o s₁=>wpAny (model prog w) A (eval slice env) (λ i s₂=>s₂.TypeIs o T/\wpAny (model prog w) A (getItem o i) Q E s₂) E s₁) E s) :
  wpAny (model prog w) A (eval (.Subscript value slice pos) env) Q E s:=by
 refine Subscript_ (wpAny_mono h (λ o s₁ h₁=>wpAny_mono h₁ (λ i s₂ h₂=>?_) λ _ _ x=>x) λ _ _ x=>x)
 obtain⟨hT,h₂⟩:=h₂
 unfold subscriptTail
 refine wpAny_bind ?_
 rw[getitemInPython_of_ne hT.not_modules]
 refine wpAny_bind (wpAny_specialOf hT hl ?_)
 have fin:wpAny (model prog w) A (subscripted slice false o i) (λ r s₃=>wpAny (model prog w) A (letTemporaryGo value o r >>= λ _=>pure r) Q E s₃) E s₂:=by
  rw[hs o i]
  exact wpAny_operating (wpAny_mono h₂ (λ r s₃ h₃=>wpAny_bind (wpAny_letTemporaryGo (wpAny_pure h₃))) λ _ _ x=>x)
 first
  |exact wpAny_pure (wpAny_bind fin)
  |exact wpAny_bind (wpAny_pure (wpAny_bind fin))
  |exact wpAny_bind fin
section
variable {i:Expr}{pos' tpos:Pos}{tv:TE}
end
structure M1(X:Cx)(o:Expr)(m:Str)(apos:Pos)(e:Expr)(cpos:Pos):Prop where
 base:attributeBase o m X.env (eval o X.env)=eval o X.env
 few:((backTo cpos (starEach [e] X.env)).all (λ x=>!x.1)&&(backToKw cpos (keywordEach [] X.env)).all (λ x=>x.1.isSome)
  && decide (([e]:List Expr).length+([]:List Keyword).length+(if([]:List Keyword).isEmpty then 0 else 1)<30))=true
 line:(apos.endLine==cpos.line)=true
 trees:backTo cpos (starEach [e] X.env)=[(false,eval e X.env)]
structure M2(X:Cx)(o:Expr)(m:Str)(apos:Pos)(e f:Expr)(cpos:Pos):Prop where
 base:attributeBase o m X.env (eval o X.env)=eval o X.env
 few:((backTo cpos (starEach [e,f] X.env)).all (λ x=>!x.1)&&(backToKw cpos (keywordEach [] X.env)).all (λ x=>x.1.isSome)
  && decide (([e,f]:List Expr).length+([]:List Keyword).length+(if([]:List Keyword).isEmpty then 0 else 1)<30))=true
 line:(apos.endLine==cpos.line)=true
 trees:backTo cpos (starEach [e,f] X.env)=[(false,eval e X.env),(false,eval f X.env)]
section
variable {d:V}{u r:Value}{o:Option V}
end
section
variable {f:Expr}{cpos:Pos}{tx:TE}
end
section
variable {kvs:List (Key×V)}
end
section
variable {u:Value}
end
section
variable {i:Expr}{pos':Pos}{tv:TE}
end
section
variable {es:List Expr}{to:TE}
abbrev TF:=Str->St->Hp->(Str->Hp->Prop)->Prop
structure QF(X:Cx)(es:List Expr)(t:TF):Prop where
 run:∀(pins:List (Addr×Obj)) (s:Shared) (σ:St) (H:Hp) (acc:Str) (Q:Str->Hp->Prop),Inv X pins σ H s->t acc σ H Q->Joins (model X.prog X.w) X.A X.xe (evalEach es X.env) acc (λ out s1=>∃H1,Inv X pins σ H1 s1/\Q out H1) s
theorem qlr9{M:Model}{A:Around}{E:Value->Shared->Prop}:∀(ps:List (Sem Value)) (acc:Str) (Q Q':Str->Shared->Prop) (s:Shared),(∀o s,Q o s->Q' o s)->Joins M A E ps acc Q s->Joins M A E ps acc Q' s
 | [],acc,Q,Q',s,h,q=>h _ _ q
 |x::r,acc,Q,Q',s,h,q=>wpAny_mono q (λ v s1 ⟨y,t,e,z,q1⟩=>⟨y,t,e,z,qlr9 r _ Q Q' s1 h q1⟩) λ _ _ e=>e
theorem qpq9:QF X [] (λ acc _ H Q=>Q acc H):=⟨λ pins s σ H acc Q I h=>⟨H,I,h⟩⟩
theorem qmq9{j pos}{t:TF}(h:QF X es t)(he:evalEach (.Constant (.str x) j pos::es) X.env=eval (.Constant (.str x) j pos) X.env::evalEach es X.env:=by rfl) :
  QF X (.Constant (.str x) j pos::es) (λ acc σ H Q=>(acc++x).length<=sizeLine/\t (acc++x) σ H Q):=⟨by
 intro pins s σ H acc Q I q
 rw[he]
 refine Calls.Constant_str ⟨x,_,rfl,q.1,h.run pins _ σ H _ Q (I.tok _) q.2⟩⟩
theorem qij9{t:TF}(hv:QE X e te)(h:QF X es t)(he:evalEach (.FormattedValue e (-1) none pos::es) X.env=eval (.FormattedValue e (-1) none pos) X.env::evalEach es X.env:=by rfl) :
  QF X (.FormattedValue e (-1) none pos::es) (λ acc σ H Q=>te σ H λ v H1=>(∃i:Int,v=.int i/\i.natAbs.log2<1920/\(acc++toString i).length<=sizeLine/\t (acc++toString i) σ H1 Q)\/(∃y,v=.str y/\y.length<=sizeLine/\(acc++y).length<=sizeLine/\t (acc++y) σ H1 Q)):=⟨by
 intro pins s σ H acc Q I q
 rw[he]
 refine wpAny_FormattedValue_plain (thn (hv.run pins s σ H _ I q) λ u s1 z9=>?_)
 obtain⟨v,H1,I1,rv,q1⟩ := z9
 rcases q1 with⟨i,rfl,hl,hz,q2⟩|⟨y,rfl,hl,hz,q2⟩
 ·obtain⟨tk,rfl⟩:=rv
  exact wpAny_formatField_int hl ⟨_,_,rfl,hz,h.run pins _ σ H1 _ Q (I1.tok _) q2⟩
 ·obtain⟨tk,rfl⟩:=rv
  exact wpAny_formatField_str ⟨_,_,rfl,hz,h.run pins _ σ H1 _ Q I1 q2⟩ ⟨_,_,rfl,hz,h.run pins _ σ H1 _ Q (I1.tok _) q2⟩ hl⟩
theorem qku9{v1 v2:Expr}{t:TF}(h:QF X (v1::v2::es) t):QE X (.JoinedStr (v1::v2::es) pos) (λ σ H Q=>t zcd σ H λ out H1=>out.length<=sizeLine/\Q (.str out) H1):=⟨by
 intro pins s σ H Q I q
 refine wpAny_JoinedStr (qlr9 _ _ _ _ _ (λ out s1 hq=>?_) (h.run pins s σ H _ _ I q))
 obtain⟨H1,I1,hz,q1⟩:=hq
 exact⟨hz,.str out,H1,I1.tok _,⟨_,U⟩,q1⟩⟩
inductive rJoin(K:W.Frag)(x:V)(vs:List V)(H:Hp)(Q:VK):Prop
 |mk (sep:_) (p:_) (ys:_):x=.str sep->vs=[.ref p]->SqL K H p (ys.map V.str)->JoinOk sep ys=true->Q (.str (Txt.join sep ys)) H->rJoin K x vs H Q
theorem strs_of:∀{ys:List Str}{its:List Value},Vals (ys.map V.str) its->∃l:List (Str×Tok),strValues l=its/\l.map (·.1)=ys
 | [],_,r=>by
  cases r
  exact⟨[],U,U⟩
 |y::ys,_,r=>by
  cases r with
  |cons r1 r2 =>
   obtain⟨t,rfl⟩:=r1
   obtain⟨l,h1,h2⟩:=strs_of r2
   exact⟨(y,t)::l,by rw[<- h1];rfl,by rw[<- h2];rfl⟩
theorem mt_join:MtR X "str.join" (rJoin X.K):=by
 intro pins s σ H x vs v us Q I rx rv h
 obtain⟨sep,p,ys,rfl,rfl,hS,hok,q⟩:=h
 obtain⟨t,rfl⟩:=rx
 obtain⟨u,rfl,ru⟩:=vals1 rv
 cases ru
 obtain⟨its,r,pl,hz⟩:=I.list hS
 obtain⟨l,h1,h2⟩:=strs_of r
 subst h1
 exact SC.join pl.isList h2 hok λ t' k=>⟨.str _,H,I.kept (h':=s.heap) (t':=k) (λ _ _ e=>e),⟨_,rfl⟩,q⟩
theorem qpn9{t:TA}(ho:QE X o to)(ha:QA X [e] t)(h:qbj9 e=true:=by rfl)(hbase:attributeBase o "join" X.env (eval o X.env)=eval o X.env:=by rfl)(hline:(apos.endLine==pos.line)=true:=by rfl) :
  QE X (.Call (.Attribute o "join" apos) [e] [] pos) (tBM X.K "str" (rJoin X.K) to t):=⟨pe_bm PySem.F.plainAttrs_str PySem.F.slot_str_join PySem.F.type_str_join mt_join ho.run ha.run hbase (by rw[se_of h];rfl) hline (se_of h) rfl⟩
theorem qos9(K:W.Frag)(hK:X.K=K):QCall X (.type "list") (λ xs H Q=>∃p ys,xs=[.ref p]/\(SqL K H p ys\/SqT K H p ys)/\∀l,H l=none->Q (.ref l) (upd H l (.lst ys))):=by
 subst hK
 exact qih9
theorem qav9:QOp X (binaryOp .Add) (λ x y H Q=>∃i j,x=.str i/\y=.str j/\i.length+j.length<=sizeLine/\Q (.str (i++j)) H):=⟨qsg9⟩
theorem qbw9:QCall X (.type "str") (λ xs H Q=>∃i,xs=[.int i]/\i.natAbs.log2<1920/\Q (.str (toString i)) H):=⟨qly9⟩
theorem qjm9:QIx X rIxS:=⟨ix_str⟩
theorem qeu9:bootBuiltins "str"=some (.type "str"):=by decide +kernel
theorem qhc9:QOp X (compareOp .NotIn) (rIn X.K true):=⟨qms9⟩
end
variable {t:TF}
def Its(x:Str):It:=⟨λ i _=>i<x.length,λ i H v H'=>H'=H/\∃c,x.cps[i]?=some c/\v=.str ⟨#[c]⟩,λ i _=>i=x.length⟩
theorem turn_str{K:W.Frag}{tg:Expr}(x:Str)(t:Tok)(it:Addr):Turn P w K tg (Its x) [it] it (λ i h=>h.IsStrIter it "str_ascii_iterator" x t i) where
 mem:=by simp
 obj:=λ i h st b hb=>by
  have e:b=it:=by simpa using hb
  subst e
  obtain⟨o,e,c,d⟩:=st
  exact⟨o,e,λ v z=>by rw[d] at z;cases z⟩
 keep:=λ i h h' st k=>by
  obtain⟨o,e,r⟩:=st
  exact⟨o,k it (by simp) o e,r⟩
 item:=by
  intro X hP hw hK hc i pins s σ H E I hf st hg
  subst hP hw hK
  have hi:i<x.cps.size:=hg
  obtain⟨f0,f1,f2,f3,f4,f5⟩:=hf it (by simp)
  refine wpAny_pyNext_ascii_item st (c:=x.cps[i]) (by simp[hi]) λ h' st' hs=>?_
  have I1:Inv X pins σ H { s with heap:=h',toks:=s.toks+1 }:=I.turned (t':=s.toks+1) (λ b o hb e=>hs.extBut b o hb e) f0 f1 f3 f4 f5
  obtain⟨o,e,c,d⟩:=id st'
  exact⟨_,rfl,go_of (s:={ s with heap:=h',toks:=s.toks+1 }) e c d (by decide) ⟨.str ⟨#[x.cps[i]]⟩,H,I1,⟨_,rfl⟩,⟨rfl,_,by simp[hi],rfl⟩,st',λ b hb=>(hf b hb).1⟩⟩
 done:=by
  intro X hP hw hK hc i pins s σ H E I hf st hg
  subst hP hw hK
  have hg':i=x.length:=hg
  subst hg'
  obtain⟨f0,f1,f2,f3,f4,f5⟩:=hf it (by simp)
  exact wpAny_pyNext_ascii_end (I.ok.hd hc) st (by simp[zch]) λ h' eb=>⟨rfl,I.turned (t':=s.toks) (λ b o hb e=>eb b o hb e) f0 f1 f3 f4 f5⟩
 self:=λ _ _ _ _ _ st h=>wpAny_pyIter_striter_ascii st h
def iStr(tl:TE):TI:=λ σ H R=>tl σ H λ v H1=>∃x,v=.str x/\x.cps.all (· < 128)=true/\R (Its x) H1
section
variable {tg:Expr}{to:TE}
theorem pi_str{l:Expr}{tl:TE}(hl:PE X l tl):PI X tg l (iStr tl):=by
 intro pins s σ H R I h
 refine thn (hl pins s σ H _ I h) λ v s1 z9=>?_
 obtain⟨x,H1,I1,r1,q1⟩ := z9
 obtain⟨z,rfl,ha,q⟩:=q1
 obtain⟨t,rfl⟩:=r1
 refine wpAny_pyIter_ascii ha ?_
 refine⟨s1.heap.objs.size,[s1.heap.objs.size],_,_,H1,U,I1.kept (t':=s1.toks) λ b o e=>zae _ e,turn_str z t _,⟨_,zar _ rfl,U,U⟩,λ b hb=>?_,q⟩
 have e:b=s1.heap.objs.size:=by simpa using hb
 subst e
 exact I1.fpOk (zao _) (I1.hok.fresh (zao _))
theorem qi_str{l:Expr}{tl:TE}(hl:QE X l tl):QI X tg l (iStr tl):=⟨pi_str hl.run⟩
end
section
variable {caps:List (Option Nat)}{g:TG}{Q:VK}
theorem comp_str(Pv:Addr->Nat->Hp->Prop)(h0:∀D,H D=none->Pv D 0 (upd H D (.lst [])))
  (hs:∀D i c H',H D=none->x.cps[i]?=some c->Pv D i H'->g (.str ⟨#[c]⟩) (seen caps σ) H' λ σ4 H4=>(∀(k:Nat) v,(seen caps σ)[k]?=some (some v)->σ4[k]?=some (some v)) /\
   te σ4 H4 λ y H6=>∃ys,H6 D=some (.lst ys)/\ys.length<sizeLine/\Pv D (i+1) (upd H6 D (.lst (ys++[y]))))
  (hd:∀D H',H D=none->Pv D x.length H'->Q (.ref D) H'):cBody caps g tTrue te σ Q (Its x) H:=by
 intro D hD
 refine⟨λ i m H'=>m=x.length-i/\i<=x.length/\Pv D i H',⟨x.length,by simp,zbt _,h0 D hD⟩,?_⟩
 intro i m H2 z9;obtain⟨rfl,hi,p⟩ := z9
 by_cases hlt:i<x.length
 ·refine .inr ⟨hlt,Pv D (i+1),λ H' p'=>⟨x.length-(i+1),⋯,rfl,hlt,p'⟩,λ v H3 y=>?_⟩
  obtain⟨rfl,c,hc,rfl⟩:=y
  have:=hs D i c H3 hD hc p
  refine(?_:g _ _ _ _)
  exact this
 ·have e:i=x.length:=⋯
  subst e
  exact .inl ⟨rfl,hd D H2 hD p⟩
end
section
variable {to:TE}{t:TA}
theorem qod9:∀l:List (Str×Tok),Vals ((l.map (·.1)).map V.str) (strValues l)
 | []=>.nil
 | (y,t)::l=>.cons ⟨t,rfl⟩ (qod9 l)
inductive rSplit(x:V)(vs:List V)(H:Hp)(Q:VK):Prop
 |mk (z:_) (sep:_):x=.str z->vs=[.str sep]->(sep.length==0)=false->z.length<=sizeLine->(Builtin.Str.partsBetween z (Builtin.Str.occurrences z sep 0 z.length (z.length+1)) sep.length).length<=sizeLine->(Txt.split z sep).length<=sizeLine->(∀l,H l=none->Q (.ref l) (upd H l (.lst ((Txt.split z sep).map V.str))))->rSplit x vs H Q
theorem mt_split:MtR X "str.split" rSplit:=by
 intro pins s σ H x vs v us Q I rx rv h
 obtain⟨z,sep,rfl,rfl,hy,hz,hz2,hz3,q⟩:=h
 obtain⟨t,rfl⟩:=rx
 obtain⟨u',rfl,u,rfl⟩:=vals1 rv
 have fin:∀(l:List (Str×Tok)) (k:Nat),l.map (·.1)=Txt.split z sep->EP X pins σ Q (.ref s.heap.objs.size) { s with heap:=s.heap.push { cls:=.type "list",data:=.seq (strValues l).toArray },toks:=k }:=λ l k e=>by
  refine⟨.ref s.heap.objs.size,_,I.laid (t':=k) (λ b o e=>zae _ e) (zao _) (show ObjOk X.prog X.w _ _ _ (.lst ((Txt.split z sep).map V.str)) from⟨by rw[zad];exact hz3,strValues l,0,?_,zar _ rfl⟩),U,q _ (I.hok.fresh (zao _))⟩
  rw[<- e]
  exact qod9 l
 cases h1:(decide (z.length<sep.length)||decide (Builtin.Str.strKind z<Builtin.Str.strKind sep))
 ·cases hf:(Builtin.Str.occurrences z sep 0 z.length (z.length+1)).isEmpty
  ·refine call_meets F.slot_str_split (typeIs_str _ _ _) F.entry_str_split (F.args_str_split_2 _ _) (meets_str_split_sep z sep t u h1 hy hf hz hz2) ?_
   show wants _ _ _ { s with toks:=_,heap:=s.heap.push { cls:=.type "list",data:=.seq (strsFrom s.toks (Builtin.Str.partsBetween z (Builtin.Str.occurrences z sep 0 z.length (z.length+1)) sep.length)).toArray } }
   rw[strsFrom_eq]
   exact fin (numbered s.toks _) _ ((numbered_texts _ _).trans ((if_neg (ne_true_of_eq_false h1)).trans (if_neg (ne_true_of_eq_false hf))).symm)
  ·exact call_meets F.slot_str_split (typeIs_str _ _ _) F.entry_str_split (F.args_str_split_2 _ _) (meets_str_split_not_found z sep t u h1 hy hf) (fin [(z,t)] _ ((if_neg (ne_true_of_eq_false h1)).trans (if_pos hf)).symm)
 ·exact call_meets F.slot_str_split (typeIs_str _ _ _) F.entry_str_split (F.args_str_split_2 _ _) (meets_str_split_cannot_occur z sep t u h1) (fin [(z,t)] _ (if_pos h1).symm)
theorem qir9(K:W.Frag)(hK:X.K=K)(ho:QE X o to)(ha:QA X [e] t)(h:qbj9 e=true:=by rfl)(hbase:attributeBase o "split" X.env (eval o X.env)=eval o X.env:=by rfl)(hline:(apos.endLine==pos.line)=true:=by rfl) :
  QE X (.Call (.Attribute o "split" apos) [e] [] pos) (tBM K "str" rSplit to t):=by
 subst hK
 exact⟨pe_bm PySem.F.plainAttrs_str PySem.F.slot_str_split PySem.F.type_str_split mt_split ho.run ha.run hbase (by rw[se_of h];rfl) hline (se_of h) rfl⟩
inductive rPart(x:V)(vs:List V)(H:Hp)(Q:VK):Prop
 |mk (z:_) (sep:_):x=.str z->vs=[.str sep]->(sep.length==0)=false->z.length<=sizeLine->(∀l,H l=none->Q (.ref l) (upd H l (.tup [.str (Txt.partition z sep).1,.str (Txt.partition z sep).2.1,.str (Txt.partition z sep).2.2])))->rPart x vs H Q
theorem mt_part:MtR X "str.partition" rPart:=by
 intro pins s σ H x vs v us Q I rx rv h
 obtain⟨z,sep,rfl,rfl,hy,hz,q⟩:=h
 obtain⟨t,rfl⟩:=rx
 obtain⟨u',rfl,u,rfl⟩:=vals1 rv
 have fin:∀(ta tb tc:Tok)(k:Nat),EP X pins σ Q (.ref s.heap.objs.size) { s with heap:=s.heap.push { cls:=.type "tuple",data:=.seq [.str (Txt.partition z sep).1 ta,.str (Txt.partition z sep).2.1 tb,.str (Txt.partition z sep).2.2 tc].toArray },toks:=k }:=λ ta tb tc k=>by
  refine⟨.ref s.heap.objs.size,_,I.laid (t':=k) (λ b o e=>zae _ e) (zao _) (show ObjOk X.prog X.w _ _ _ (.tup [.str (Txt.partition z sep).1,.str (Txt.partition z sep).2.1,.str (Txt.partition z sep).2.2]) from⟨z39,[.str (Txt.partition z sep).1 ta,.str (Txt.partition z sep).2.1 tb,.str (Txt.partition z sep).2.2 tc],.cons ⟨_,U⟩ (.cons ⟨_,U⟩ (.cons ⟨_,U⟩ .nil)),_,zar _ rfl,U,_,U⟩),U,q _ (I.hok.fresh (zao _))⟩
 refine call_meets F.slot_str_partition (typeIs_str _ _ _) F.entry_str_partition (F.args_str_partition_2 _ _) (meets_str_partition z sep t u hy hz) ?_
 have h':=fin
 unfold Txt.partition at h'
 revert h'
 cases Builtin.Str.occurrences z sep 0 z.length 1 with
 |nil=>intro h';exact h' _ _ _ _
 |cons i r=>intro h';exact h' _ _ _ _
theorem qoc9(K:W.Frag)(hK:X.K=K)(ho:QE X o to)(ha:QA X [e] t)(h:qbj9 e=true:=by rfl)(hbase:attributeBase o "partition" X.env (eval o X.env)=eval o X.env:=by rfl)(hline:(apos.endLine==pos.line)=true:=by rfl) :
  QE X (.Call (.Attribute o "partition" apos) [e] [] pos) (tBM K "str" rPart to t):=by
 subst hK
 exact⟨pe_bm PySem.F.plainAttrs_str PySem.F.slot_str_partition PySem.F.type_str_partition mt_part ho.run ha.run hbase (by rw[se_of h];rfl) hline (se_of h) rfl⟩
theorem qsq9:OpR X (compareOp .In) (λ x y H Q=>∃(c:Nat)(j:Str),x=.str ⟨#[c]⟩/\y=.str j/\Q (.bl (decide (c∈j.cps.toList))) H):=by
 intro pins s σ H x y v u Q I rx ry h
 obtain⟨c,j,rfl,rfl,q⟩:=h
 obtain⟨t,rfl⟩:=rx
 obtain⟨t',rfl⟩:=ry
 rw[<- StrLaws.found_one] at q
 exact in_str ⟨.bl _,H,I,rfl,q⟩
theorem qop_inS:QOp X (compareOp .In) (λ x y H Q=>∃(c:Nat)(j:Str),x=.str ⟨#[c]⟩/\y=.str j/\Q (.bl (decide (c∈j.cps.toList))) H):=⟨qsq9⟩
theorem call_lenS:CallR X (.builtin "len") (λ xs H Q=>∃z:Str,xs=[.str z]/\z.length<=sizeLine/\Q (.int z.length) H):=by
 intro pins s σ H xs us Q I r h
 obtain⟨z,rfl,hz,q⟩:=h
 obtain⟨u,rfl,t,rfl⟩:=vals1 r
 have hn:=qma9
 exact len_str ⋯ ⟨.int z.length,H,I.tok _,⟨_,rfl⟩,q⟩
theorem qhf9:QCall X (.builtin "len") (λ xs H Q=>∃z:Str,xs=[.str z]/\z.length<=sizeLine/\Q (.int z.length) H):=⟨call_lenS⟩
theorem call_intS:CallR X (.type "int") (λ xs H Q=>∃(z:Str)(n:Int),xs=[.str z]/\PySem.intText? z=some n/\z.length<=640/\Q (.int n) H):=by
 intro pins s σ H xs us Q I r h
 obtain⟨z,n,rfl,hn,hz,q⟩:=h
 obtain⟨u,rfl,t,rfl⟩:=vals1 r
 exact W.KIN.call_text hn hz ⟨.int n,H,I.tok _,⟨_,rfl⟩,q⟩
theorem qlj9:QCall X (.type "int") (λ xs H Q=>∃(z:Str)(n:Int),xs=[.str z]/\PySem.intText? z=some n/\z.length<=640/\Q (.int n) H):=⟨call_intS⟩
inductive rIndexS(K:W.Frag)(x:V)(vs:List V)(H:Hp)(Q:VK):Prop
 |mk (l:Addr) (z:Str) (ys:List Str):x=.ref l->vs=[.str z]->SqL K H l (ys.map V.str)->z∈ys->ys.length<=sizeLine->(Q (.int ((ys.idxOf z:Nat):Int)) H)->rIndexS K x vs H Q
theorem qic9(ys:List Str):(ys.map V.str).all flatV=true:=by
 rw[zbh]
 intro y hy
 obtain⟨z,_,rfl⟩:=zat.mp hy
 rfl
theorem mt_indexS:MtR X "list.index" (rIndexS X.K):=by
 intro pins s σ H x vs v us Q I rx rv h
 obtain⟨l,z,ys,rfl,rfl,hS,hk,hl,q⟩:=h
 cases rx
 obtain⟨u',rfl,u,rfl⟩:=vals1 rv
 obtain⟨its,r,pl,hz⟩:=I.list hS
 obtain⟨⟨cls,dd,data,sl⟩,ho,hc,n,hd⟩:=pl.isList
 simp only at hc hd
 subst hc hd
 have hlen:=r.length
 rw[zad] at hlen
 have hj:ys.idxOf z<ys.length:=List.idxOf_lt_length_iff.mpr hk
 have hn:=qma9
 have at_:∀(i:Nat)(h1:i<its.toArray.size)(h2:i<ys.length),eqU (.str z) (its.toArray[i])=decide (ys[i]=z):=λ i h1 h2=>by
  have e1:(ys.map V.str)[i]?=some (.str ys[i]):=by rw[zap,zaa h2];rfl
  obtain⟨w,hw,rw'⟩:=r.get e1
  obtain⟨tw,rfl⟩:=rw'
  have:its.toArray[i]=.str ys[i] tw:=by
   have:=(zab.mp hw).2
   simpa using this
  rw[this]
  show(ys[i]==z)=_
  rw[zbz,beq_iff_eq,decide_eq_true_eq]
 refine call_meets PySem.F.slot_list_index ⟨_,ho,rfl⟩ PySem.F.entry_list_index (PySem.F.args_list_index_2 _ _)
  (SeqAt.list_indexAt l its.toArray n dd sl (.str z u) (eqU (.str z)) (ys.idxOf z) (by simp;omega) ⋯ ?_ ?_) ⟨ho,λ y hy=>qhs9 (x:=.str z) ⟨u,rfl⟩ rfl r (qic9 ys) y (by simpa using hy),⟨.int _,H,I.tok _,⟨_,rfl⟩,q⟩⟩
 ·rw[at_ _ (by simp;omega) hj]
  simp[zez hj]
 ·intro j hjs hlt
  rw[at_ j hjs (by simp at hjs;omega)]
  refine decide_eq_false λ e=>?_
  have:=List.not_of_lt_findIdx (xs:=ys) (p:=(· == z)) (i:=j) hlt
  simp[e] at this
theorem qno9(K:W.Frag)(hK:X.K=K)(ho:QE X o to)(ha:QA X [e] t)(h:qbj9 e=true:=by rfl)(hbase:attributeBase o "index" X.env (eval o X.env)=eval o X.env:=by rfl)(hline:(apos.endLine==pos.line)=true:=by rfl) :
  QE X (.Call (.Attribute o "index" apos) [e] [] pos) (tBM K "list" (rIndexS K) to t):=by
 subst hK
 exact⟨pe_bm PySem.F.plainAttrs_list PySem.F.slot_list_index PySem.F.type_list_index mt_indexS ho.run ha.run hbase (by rw[se_of h];rfl) hline (se_of h) rfl⟩
theorem qe_gStr{z:Str}{tk:Tok}(hg:Gl X x)(hm:X.mg x=some (.str z tk))(hd:(x==("__debug__":Str))=false:=by decide):QE X (.Name x pos) (tC (.str z)):=⟨qny9 hg hm ⟨_,rfl⟩ hd⟩
theorem qgb9{z:Int}{tk:Tok}(hg:Gl X x)(hm:X.mg x=some (.int z tk))(hd:(x==("__debug__":Str))=false:=by decide):QE X (.Name x pos) (tC (.int z)):=⟨qny9 hg hm ⟨_,rfl⟩ hd⟩
end
inductive rSlA(x:V)(lo:Option Int)(hi:Option Int)(H:Hp)(Q:VK):Prop
 |mk (z:_):x=.str z->z.length<=sizeLine->Q (.str (Txt.slice z lo hi)) H->rSlA x lo hi H Q
theorem sl_strA:SlR X rSlA:=by
 intro pins s σ H x v vl vu lo hi sl Q I rx hs pl pu h
 obtain⟨z,rfl,hz,q⟩:=h
 obtain⟨t,rfl⟩:=rx
 refine⟨"str",_,PySem.F.slot_str_getitem.lookup,typeIs_str _ _ _,?_⟩
 cases pl with
 |none =>
  cases pu with
  |none=>exact wpAny_getItem_str_slice (l:=none) (u:=none) (st:=none) hs rfl (post_val_or_str ⟨zbb (Txt.slice_le z _ _) hz,λ t' k=>⟨.str _,H,I.kept (h':=s.heap) (t':=k) (λ _ _ e=>e),⟨_,rfl⟩,q⟩⟩)
  |int j uj=>exact wpAny_getItem_str_slice (l:=none) (u:=some (_,uj)) (st:=none) hs rfl (post_val_or_str ⟨zbb (Txt.slice_le z _ _) hz,λ t' k=>⟨.str _,H,I.kept (h':=s.heap) (t':=k) (λ _ _ e=>e),⟨_,rfl⟩,q⟩⟩)
 |int i ui =>
  cases pu with
  |none=>exact wpAny_getItem_str_slice (l:=some (_,ui)) (u:=none) (st:=none) hs rfl (post_val_or_str ⟨zbb (Txt.slice_le z _ _) hz,λ t' k=>⟨.str _,H,I.kept (h':=s.heap) (t':=k) (λ _ _ e=>e),⟨_,rfl⟩,q⟩⟩)
  |int j uj=>exact wpAny_getItem_str_slice (l:=some (_,ui)) (u:=some (_,uj)) (st:=none) hs rfl (post_val_or_str ⟨zbb (Txt.slice_le z _ _) hz,λ t' k=>⟨.str _,H,I.kept (h':=s.heap) (t':=k) (λ _ _ e=>e),⟨_,rfl⟩,q⟩⟩)
theorem qe_slA{lo hi:Option Expr}{tl th:TO}{p2:Pos}(he:QE X e te)(hl:QO X lo tl)(hu:QO X hi th):QE X (.Subscript e (.Slice lo hi none p2) pos) (tSl rSlA te tl th):=⟨qqs9 sl_strA he.run hl.run hu.run⟩
theorem qrd9(x:Array Nat)(a:Nat):∀m:Nat,a+m<=x.size->((zcz m).map (a+·)).filterMap (x[·]?)=(x.toList.drop a).take m
 |0,_=>by simp
 |m+1,h=>by
  rw[zft,zba,List.filterMap_append,qrd9 x a m ⋯,zbw,zct,zcc]
  have hx:x[a+m]?=some x[a+m]:=zds ⋯
  simp[hx]
theorem slice_of{lo hi:Option Int}{a b:Nat}(hi':Builtin.Str.strSliceIndices lo hi 1 x.length=(zcz (b-a)).map (a+·))(ab:b<=x.length)(aa:a<=x.length):(Txt.slice x lo hi).cps.toList=(x.cps.toList.drop a).take (b-a):=by
 have sz:x.length=x.cps.size:=rfl
 unfold Txt.slice
 rw[hi']
 split
 ·rename_i c
  have c':b-a=x.length:=by simpa using c
  have a0:a=0:=by
   by_cases z:x.length=0
   ·omega
   ·omega
  subst a0
  rw[zcw,c',sz,zcm (by simp)]
 ·show(((zcz (b-a)).map (a+·)).filterMap (x.cps[·]?)).toArray.toList=_
  by_cases z:a<=b
  ·rw[qrd9 x.cps a (b-a) ⋯]
  ·have:b-a=0:=⋯
   rw[this]
   simp
theorem idx_of{a b:Int}(ha:0<=a):sliceRange a b 1=(zcz (b.toNat-a.toNat)).map (a.toNat+·):=by
 unfold sliceRange
 simp only[show(1:Int)>0 by decide,if_true]
 have ec:(if a<b then(b-a+1-1)/1 else 0).toNat=b.toNat-a.toNat:=by
  split
  ·rw[Int.ediv_one]
   omega
  ·omega
 rw[ec]
 refine zfy λ k _=>?_
 omega
theorem slice_sn{i:Int}(h0:0<=i):(Txt.slice x (some i) none).cps.toList=x.cps.toList.drop i.toNat:=by
 have sz:x.cps.toList.length=x.length:=by simp[zch]
 have:=slice_of (x:=x) (lo:=some i) (hi:=none) (a:=min i.toNat x.length) (b:=x.length) (by
  unfold Builtin.Str.strSliceIndices
  simp only[show(1:Int)>0 by decide,if_true]
  rw[show(if i<0 then i+(x.length:Int) else i)=i from if_neg ⋯,idx_of ⋯]
  have e1:(max 0 (min i (x.length:Int))).toNat=min i.toNat x.length:=⋯
  have e2:((x.length:Nat):Int).toNat=x.length:=⋯
  rw[e1,e2]) ⋯ ⋯
 rw[this]
 by_cases c:i.toNat<=x.length
 ·rw[zfk c,zcm (by rw[zcj];omega)]
 ·have em:min i.toNat x.length=x.length:=⋯
  rw[em,zcn ⋯,zcn ⋯]
  simp
theorem any_range(bs:List Bool):((zcz bs.length).any λ i=>(bs[i]?).getD true)=bs.any id:=by
 rw[zbz,zdv,zdv]
 constructor
 ·intro z9;obtain⟨i,hi,h⟩ := z9
  have hi':=zdh.mp hi
  rw[zaa hi'] at h
  exact⟨_,zbi hi',h⟩
 ·intro z9;obtain⟨x,hx,h⟩ := z9
  obtain⟨i,hi,e⟩:=zdk.mp hx
  refine⟨i,zdh.mpr hi,?_⟩
  rw[zaa hi,e]
  exact h
theorem call_any(hc:X.calm=true):CallR X (.builtin "any") (λ xs H Q=>∃(p:Addr)(bs:List Bool),xs=[.ref p]/\SqL X.K H p (bs.map V.bl)/\Q (.bl (bs.any id)) H):=by
 intro pins s σ H xs us Q I r h
 obtain⟨p,bs,rfl,hS,q⟩:=h
 obtain⟨u,rfl,ru⟩:=vals1 r
 cases ru
 obtain⟨its,rv,pl,hz⟩:=I.list hS
 have hl:=pl.isList
 have hlt:p<s.heap.objs.size:=by obtain⟨_,e,_⟩:=hl;exact zas e
 refine call_any_walk (wpAny_pyIter_list hl ?_)
 refine⟨s.heap.objs.size,[s.heap.objs.size,p],[s.heap.objs.size],its.toArray.size,_,_,λ i=>(bs[i]?).getD true,U,Walks.list (A:=X.A.in1) (I.ok.hd hc) _ p (zbd hlt) its.toArray,
  ⟨⟨_,zar _ rfl,rfl,rfl⟩,hl.push _⟩,λ i v s' Q' E' hP hQ=>?_,λ h' tk hk=>?_⟩
 ·obtain⟨k,e,rfl⟩:=vals_bl rv (i:=i) (v:=v) (by simpa using hP)
  simp only[e,zhc] at hQ
  exact wpAny_truthy_bool hQ
 ·have e:((zcz its.toArray.size).any λ i=>(bs[i]?).getD true)=bs.any id:=by
   have hl2:=rv.length
   rw[zad] at hl2
   rw[zax,<- hl2]
   exact any_range bs
  rw[e]
  have keep:∀b x,s.heap.get? b=some x->h'.get? b=some x:=λ b x e=>hk b x (λ hm=>by rw[zag.mp hm] at e;exact zca _ (zas e)) (zae _ e)
  exact⟨.bl (bs.any id),H,I.kept (t':=tk) keep,U,q⟩
theorem bt_any:bootBuiltins "any"=some (.builtin "any"):=by decide +kernel
theorem qcall_any(hc:X.calm=true):QCall X (.builtin "any") (λ xs H Q=>∃(p:Addr)(bs:List Bool),xs=[.ref p]/\SqL X.K H p (bs.map V.bl)/\Q (.bl (bs.any id)) H):=⟨call_any hc⟩
end L2
namespace Ma
variable {d:Int}{g:Int->Int}{R:List T3}{m m1 m2:Nat}
def Mu(d:Int)(f:Int->Int)(m:Nat):Prop :=
 ∃J V:List Int,J.length+V.length<=m/\(∀b,0<=b->b<d->f b+2<=f (b+1)->b∈J)/\∀t,0<=t->t<d->f t=f (t+1)->f t%d∈V
theorem pw_mem{p:T3->T3->Prop}(h:R.Pairwise p):∀u∈R,∀v∈R,u=v\/p u v\/p v u:=by
 induction R with
 |nil=>intro u hu;cases hu
 |cons x l ih =>
  have h':=zdd.mp h
  intro u hu v hv
  rcases zah.mp hu with rfl|hu'
  ·rcases zah.mp hv with rfl|hv'
   ·exact .inl rfl
   ·exact .inr (.inl (h'.1 v hv'))
  ·rcases zah.mp hv with rfl|hv'
   ·exact .inr (.inr (h'.1 u hu'))
   ·exact ih h'.2 u hu' v hv'
theorem CK.end_at{f:Int->Int}(h:CK d R)(T:Tells d R f):∀w∈R,0<=w.2.1/\w.2.1<d/\f w.2.1<f (w.2.1+1)/\(w.2.1+1<d->f (w.2.1+1)=f w.2.1+1->f (w.2.1+1)=f (w.2.1+1+1)):=by
 intro w hw
 have C:=h.can T
 obtain⟨m0,m1,m2,m3⟩:=C.mem w hw
 obtain⟨e1,e2⟩:=m3 w.2.1 m1 (zau _)
 refine⟨⋯,m2,e2,λ k1 k2=>?_⟩
 have mo:=(h.rise T).mono (w.2.1+1) (w.2.1+1+1) ⋯
 rcases(by omega:f (w.2.1+1)=f (w.2.1+1+1)\/f (w.2.1+1)<f (w.2.1+1+1)) with z|k3
 ·exact z
 exfalso
 obtain⟨v,hv,v1,v2⟩:=C.cov (w.2.1+1) ⋯ k1 k3
 obtain⟨e3,_⟩:=(C.mem v hv).2.2.2 _ v1 v2
 rcases pw_mem C.srt w hw v hv with rfl|⟨p,q⟩|⟨p,q⟩
 ·omega
 ·exact q ⋯ ⋯
 ·omega
theorem mod_ne{x y:Int}(l:x<y)(l2:y<x+d):x%d≠y%d:=λ e=>by
 have a1:=zdb x d
 have a2:=zdb y d
 have k1:0<d*(y/d)-d*(x/d):=⋯
 have k2:d*(y/d)-d*(x/d)<d:=⋯
 rw[<- zdt] at k1 k2
 generalize y/d-x/d=k at k1 k2
 rcases(by omega:k<=0\/1<=k) with y|y
 ·have:=Int.mul_nonpos_of_nonneg_of_nonpos (show 0<=d by omega) y
  omega
 ·have:=zbs y (show 0<=d by omega)
  omega
theorem mu_len{f:Int->Int}(h:CK d R)(T:Tells d R f)(M:Mu d f m):R.length<=m+1:=by
 obtain⟨J,V,hm,hJ,hV⟩:=M
 have hd:=h.d0
 have rf:=h.rise T
 let key:T3->Nat×Int:=λ w=>if w.2.1+1=d then(0,0) else if f w.2.1+2<=f (w.2.1+1) then(1,w.2.1) else(2,f (w.2.1+1)%d)
 have nd:(R.map key).Nodup:=by
  refine zfd.mpr (h.srt.imp_of_mem λ {u v} hu hv p=>?_)
  obtain⟨u0,u1,u2,u3⟩:=h.end_at T u hu
  obtain⟨v0,v1,v2,v3⟩:=h.end_at T v hv
  have vl:=(h.win v hv).2.1
  intro z
  dsimp only[key] at z
  rw[if_neg ⋯] at z
  split at z
  ·split at z
   ·cases (Prod.mk.inj z).1
   ·split at z
    ·have:=(Prod.mk.inj z).2
     omega
    ·cases (Prod.mk.inj z).1
  ·split at z
   ·cases (Prod.mk.inj z).1
   ·split at z
    ·cases (Prod.mk.inj z).1
    ·have m1:=rf.mono (u.2.1+1) v.2.1 ⋯
     have m2:=rf.mono (v.2.1+1) (u.2.1+d) ⋯
     have m3:=rf.mul u.2.1 1
     rw[zco] at m3
     exact mod_ne (d:=d) (show f (u.2.1+1)<f (v.2.1+1) by omega) ⋯ (Prod.mk.inj z).2
 have:=qlu9 (l:=R.map key) (L:=(0,0)::(J.map (λ b=>(1,b))++V.map (λ b=>(2,b)))) nd λ x hx=>by
  obtain⟨w,hw,rfl⟩:=zat.mp hx
  obtain⟨b0,b1,e1,e2⟩:=h.end_at T w hw
  show(if w.2.1+1=d then(0,0) else if f w.2.1+2<=f (w.2.1+1) then(1,w.2.1) else(2,f (w.2.1+1)%d))∈_
  split
  ·exact zan ..
  ·refine zai _ ?_
   split
   ·exact zbf _ (zat.mpr ⟨_,hJ _ b0 b1 (by assumption),rfl⟩)
   ·exact zaq _ (zat.mpr ⟨_,hV (w.2.1+1) ⋯ ⋯ (e2 ⋯ ⋯),rfl⟩)
 simp only[zad,zbg,zam] at this
 omega
theorem qkf9(late:Bool)(x y:Int):(late=true/\x<=jn late x y/\y<=jn late x y/\(jn late x y=x\/jn late x y=y))\/(late=false/\jn late x y<=x/\jn late x y<=y/\(jn late x y=x\/jn late x y=y)):=by
 unfold jn
 cases late
 ·refine .inr ⟨rfl,?_⟩
  simp only[zde,if_false]
  split<;>omega
 ·refine .inl ⟨rfl,?_⟩
  simp only[if_true]
  split<;>omega
theorem mu_jn{late:Bool}{f:Int->Int}(rf:Rise d f)(rg:Rise d g)(M1:Mu d f m1)(M2:Mu d g m2):Mu d (λ x=>jn late (f x) (g x)) (m1+m2):=by
 obtain⟨J1,V1,h1,j1,v1⟩:=M1
 obtain⟨J2,V2,h2,j2,v2⟩:=M2
 refine⟨J1++J2,V1++V2,by simp only[zam];omega,λ b b0 b1 e=>?_,λ t t0 t1 e=>?_⟩
 ·have f1:=rf.mono b (b+1) ⋯
  have g1:=rg.mono b (b+1) ⋯
  have c0:=qkf9 late (f b) (g b)
  have c1:=qkf9 late (f (b+1)) (g (b+1))
  dsimp only at e
  have:f b+2<=f (b+1)\/g b+2<=g (b+1):=by
   rcases c0 with⟨a0,a1,a2,a3⟩|⟨a0,a1,a2,a3⟩<;>rcases c1 with⟨b0,b1,b2,b3⟩|⟨b0,b1,b2,b3⟩
   ·omega
   ·rw[a0] at b0;cases b0
   ·rw[a0] at b0;cases b0
   ·omega
  rcases this with z|z
  ·exact zbf _ (j1 b b0 b1 z)
  ·exact zaq _ (j2 b b0 b1 z)
 ·have f1:=rf.mono t (t+1) ⋯
  have g1:=rg.mono t (t+1) ⋯
  have c0:=qkf9 late (f t) (g t)
  have c1:=qkf9 late (f (t+1)) (g (t+1))
  dsimp only at e ⊢
  have:(f t=f (t+1)/\jn late (f t) (g t)=f t)\/(g t=g (t+1)/\jn late (f t) (g t)=g t):=by
   rcases c0 with⟨a0,a1,a2,a3⟩|⟨a0,a1,a2,a3⟩<;>rcases c1 with⟨b0,b1,b2,b3⟩|⟨b0,b1,b2,b3⟩
   ·omega
   ·rw[a0] at b0;cases b0
   ·rw[a0] at b0;cases b0
   ·omega
  rcases this with⟨z,w⟩|⟨z,w⟩
  ·rw[w];exact zbf _ (v1 t t0 t1 z)
  ·rw[w];exact zaq _ (v2 t t0 t1 z)
theorem Rise.at_mod(rg:Rise d g)(x:Int):g (x%d)=g x-d*(x/d)/\g (x%d+1)=g (x+1)-d*(x/d):=by
 have ed:=zdb x d
 have p0:=rg.mul (x%d) (x/d)
 have p1:=rg.mul (x%d+1) (x/d)
 rw[ed] at p0
 rw[show x%d+1+d*(x/d)=x+1 by omega] at p1
 omega
theorem qrv9{x k:Int}:(x-d*k)%d=x%d:=by
 rw[Int.sub_eq_add_neg,<- zhk,Int.add_mul_emod_self_left]
theorem mu_comp(hd:0<d){f:Int->Int}(rf:Rise d f)(rg:Rise d g)(M1:Mu d f m1)(M2:Mu d g m2):Mu d (λ x=>g (f x)) (m1+m2):=by
 obtain⟨J1,V1,h1,j1,v1⟩:=M1
 obtain⟨J2,V2,h2,j2,v2⟩:=M2
 classical
 let back:Int->Int:=λ x=>if h:∃b,0<=b/\b<d/\f b%d=x/\f b<f (b+1) then h.choose else 0
 have hback:∀b,0<=b->b<d->f b<f (b+1)->back (f b%d)=b:=λ b b0 b1 l=>by
  have ex:∃c,0<=c/\c<d/\f c%d=f b%d/\f c<f (c+1):=⟨b,b0,b1,rfl,l⟩
  simp only[back]
  rw[dif_pos ex]
  obtain⟨c0,c1,c2,c3⟩:=ex.choose_spec
  generalize ex.choose=c at *
  rcases(by omega:c<b\/c=b\/b<c) with z|z|z
  ·have n1:=rf.mono (c+1) b ⋯
   have n2:=rf.mono (b+1) (c+d) ⋯
   have n3:=rf.mul c 1
   rw[zco] at n3
   exact absurd c2 (mod_ne ⋯ ⋯)
  ·exact z
  ·have n1:=rf.mono (b+1) c ⋯
   have n2:=rf.mono (c+1) (b+d) ⋯
   have n3:=rf.mul b 1
   rw[zco] at n3
   exact absurd c2.symm (mod_ne ⋯ ⋯)
 refine⟨J1++J2.map back,V1.map (λ u=>g u%d)++V2,by simp only[zam,zad];omega,λ b b0 b1 e=>?_,λ t t0 t1 e=>?_⟩
 ·dsimp only at e
  have fm:=rf.mono b (b+1) ⋯
  rcases(by omega:f b+2<=f (b+1)\/f (b+1)=f b+1\/f (b+1)=f b) with z|z|z
  ·exact zbf _ (j1 b b0 b1 z)
  ·refine zaq _ (zat.mpr ⟨f b%d,?_,hback b b0 b1 ⋯⟩)
   have p:=rg.at_mod (f b)
   rw[z] at e
   exact j2 _ (zbr _ ⋯) (zbk _ hd) ⋯
  ·rw[z] at e
   omega
 ·dsimp only at e ⊢
  have fm:=rf.mono t (t+1) ⋯
  by_cases z:f t=f (t+1)
  ·refine zbf _ (zat.mpr ⟨f t%d,v1 t t0 t1 z,?_⟩)
   rw[(rg.at_mod (f t)).1,qrv9]
  ·refine zaq _ ?_
   have p:=rg.at_mod (f t)
   have q1:=rg.mono (f t) (f t+1) ⋯
   have q2:=rg.mono (f t+1) (f (t+1)) ⋯
   have:=v2 _ (zbr (f t) ⋯) (zbk (f t) hd) ⋯
   rw[p.1,qrv9] at this
   exact this
theorem mu_of{f:Int->Int}(h:CK d R)(T:Tells d R f):Mu d f (2*R.length):=by
 have C:=h.can T
 have hd:=h.d0
 have rf:=h.rise T
 refine⟨R.map (·.2.1),R.map (λ w=>(w.1+w.2.2)%d),by simp only[zad];omega,λ b b0 b1 e=>?_,λ t t0 t1 e=>?_⟩
 ·obtain⟨w,hw,w1,w2⟩:=C.cov b b0 b1 ⋯
  obtain⟨_,_,_,m3⟩:=C.mem w hw
  refine zat.mpr ⟨w,hw,?_⟩
  rcases(by omega:w.2.1=b\/b+1<=w.2.1) with z|z
  ·exact z
  ·have a1:=(m3 b w1 w2).1
   have a2:=(m3 (b+1) ⋯ z).1
   omega
 ·obtain⟨x,x0,x1,x2,x3⟩:=qqi9 hd rf t
  have ne:t≠x:=λ z=>by subst z;omega
  have fx:=rf.mono t (x-1) ⋯
  have fx':=rf.mono (x-1) x ⋯
  have p:=rf.at_mod x
  have pm:=rf.at_mod (x-1)
  obtain⟨w,hw,w1,w2⟩:=C.cov (x%d) (zbr _ ⋯) (zbk _ hd) ⋯
  obtain⟨m0,_,_,m3⟩:=C.mem w hw
  have a1:=(m3 _ w1 w2).1
  refine zat.mpr ⟨w,hw,?_⟩
  rcases(by omega:w.1=x%d\/w.1<=x%d-1) with z|z
  ·rw[z,<- a1,p.1,qrv9,x2]
  ·have a2:=(m3 (x%d-1) z ⋯).1
   have:=rf.mul (x%d-1) (x/d)
   have ed:=zdb x d
   rw[show x%d-1+d*(x/d)=x-1 by omega] at this
   omega
def MuR(d:Int)(R:List T3)(m:Nat):Prop:=CK d R/\(R≠[]->Mu d (bf d R) m)
theorem Mu.congr{f:Int->Int}(M:Mu d f m)(e:∀t,f t=g t):Mu d g m:=by
 have:f=g:=funext e
 exact this ▸ M
theorem Mu.le{f:Int->Int}{m':Nat}(M:Mu d f m)(l:m<=m'):Mu d f m':=by
 obtain⟨J,V,h,a,b⟩:=M
 exact⟨J,V,⋯,a,b⟩
theorem MuR.len(h:MuR d R m):R.length<=m+1:=by
 by_cases z:R=[]
 ·rw[z];exact zbt _
 ·exact mu_len h.1 (tells_bf z) (h.2 z)
theorem mur_nil(hd:0<d):MuR d [] m:=⟨ck_nil hd,λ z=>absurd rfl z⟩
theorem mur_one{w:T3}(h:CK d [w]):MuR d [w] 2:=⟨h,λ z=>mu_of h (tells_bf z)⟩
theorem MuR.le{d:Int}{R:List T3}{m m':Nat}(h:MuR d R m)(l:m<=m'):MuR d R m':=⟨h.1,λ z=>(h.2 z).le l⟩
theorem MuR.min{d:Int}{R R1 R2:List T3}{m1 m2:Nat}(h:CK d R)(h1:MuR d R1 m1)(h2:MuR d R2 m2)(e:∀t,bt d R t=omin (bt d R1 t) (bt d R2 t)):MuR d R (m1+m2):=by
 by_cases z1:R1=[]
 ·subst z1
  have:R=R2:=h.uniq h2.1 λ t=>by rw[e t,bt_nil];cases bt d R2 t<;>rfl
  rw[this]
  exact h2.le ⋯
 by_cases z2:R2=[]
 ·subst z2
  have:R=R1:=h.uniq h1.1 λ t=>by rw[e t,bt_nil];cases bt d R1 t<;>rfl
  rw[this]
  exact h1.le ⋯
 refine⟨h,λ z=>(mu_jn (late:=false) (h1.1.rise (tells_bf (d:=d) z1)) (h2.1.rise (tells_bf (d:=d) z2)) (h1.2 z1) (h2.2 z2)).congr λ t=>?_⟩
 have a:=tells_bf (d:=d) z t
 rw[e t,(tells_bf (d:=d) z1).min (tells_bf (d:=d) z2) t] at a
 exact Option.some.inj a
theorem MuR.bind{R1 R2:List T3}(h:CK d R)(h1:MuR d R1 m1)(h2:MuR d R2 m2)(e:∀t,bt d R t=obind (bt d R1) (bt d R2) t):MuR d R (m1+m2):=by
 by_cases z1:R1=[]
 ·subst z1
  have:R=[]:=h.uniq (ck_nil h.d0) λ t=>by rw[e t];rfl
  rw[this]
  exact mur_nil h.d0
 by_cases z2:R2=[]
 ·subst z2
  have:R=[]:=h.uniq (ck_nil h.d0) λ t=>by rw[e t];unfold obind;cases bt d R1 t<;>rfl
  rw[this]
  exact mur_nil h.d0
 refine⟨h,λ z=>(mu_comp h.d0 (h1.1.rise (tells_bf (d:=d) z1)) (h2.1.rise (tells_bf (d:=d) z2)) (h1.2 z1) (h2.2 z2)).congr λ t=>?_⟩
 have a:=tells_bf (d:=d) z t
 rw[e t] at a
 unfold obind at a
 rw[tells_bf (d:=d) z1 t] at a
 exact Option.some.inj ((tells_bf (d:=d) z2 _).symm.trans a)
end Ma
namespace L2
open PySem PySem.Spec PyProof.Rows
variable {a:Addr}{X:Cx}{e:Expr}{base:Heap}{H:Hp}{es:List Expr}{ps:List Str}{k kk:Nat}{apos p pos tp:Pos}{P:Program}{s:Shared}{sp:Sp}{σ:St}{x:Str}{mg:Str->Option Value}{t:TA}{Q:Value->Shared->Prop}{K:W.Frag}{w:World}
theorem qji9{h base base':Heap}(k:∀b o,base.get? b=some o->base'.get? b=some o):∀{l:List Env},h.FunFrames base' l->h.FunFrames base l
 | [],_=>trivial
 |env::rest,⟨hk,⟨L,o,hf,hn,ho,hd⟩,hr⟩=>⟨hk,⟨L,o,hf,(by
   cases e:base.get? L with
   |none=>rfl
   |some x =>
    rw[k L x e] at hn
    cases hn),ho,hd⟩,qji9 k hr⟩
theorem FnOk.widen{base':Heap}{CX:CXT}{f:Addr}{fd:FuncData}(F:FnOk P w K mg base CX k f fd ps sp)(m:Mod K mg base)(hk:∀b o,base.get? b=some o->base'.get? b=some o)(hz:base.objs.size<=base'.objs.size) :
  FnOk P w K mg base' CX k f fd ps sp:=⟨F.len,λ A outer s H args us vs Q E hr e0 hb r hsp=>F.run A outer s H args us vs Q E hr ⟨e0.frames,m,λ b o e=>e0.bs b o (hk b o e),zbb hz e0.bsz,qji9 hk e0.funs,e0.frf,e0.hok,e0.bare⟩ hb r hsp⟩
theorem Callee.widen{P:Program}{w:World}{K:W.Frag}{mg:Str->Option Value}{base base':Heap}{k:Nat}{x:Str}{ps:List Str}{sp:Sp}(C:Callee P w K mg base k x ps sp)(m:Mod K mg base)(hk:∀b o,base.get? b=some o->base'.get? b=some o)(hz:base.objs.size<=base'.objs.size) :
  Callee P w K mg base' k x ps sp:=by
 obtain⟨f,fd,G,b,kp,m'⟩:=C.ex
 exact⟨f,fd,G.widen m hk hz,b,kp,m'⟩
inductive tLam4(i1 i2:Nat)(P:Addr)(pos:Pos)(qual:Str)(te1 te2 te3:TE)(spG:V->V->Addr->Addr->Sp)(σ:St)(H:Hp)(Q:VK):Prop
 |mk (v1:_) (v2:_):σ[i1]?=some (some v1)->σ[i2]?=some (some v2)->(te1 σ H λ w1 H1=>te2 σ H1 λ w2 H2=>te3 σ H2 λ w3 H3=>TabOk H3 P pos qual/\∀fl c' H4,SameT P H3 H4->TabOk H4 P pos qual->H4 c'=some (.ext (CodeQ c' qual))->spG v1 v2 fl c' [w1,w2,w3,.ref fl] H4 Q E0)->tLam4 i1 i2 P pos qual te1 te2 te3 spG σ H Q
section
variable {y1 y2:Str}{g c P cy1 cy2:Addr}{gd:FuncData}{ps2 N:List Str}{spG:V->V->Addr->Addr->Sp}{e1 e2 e3 body:Expr}{te1 te2 te3:TE}{params:Arguments}{sc:Scope}{lpos:Pos}{clos:List (Str×Addr)}
theorem qoz9(i1 i2:Nat)(hr:Room k X.A)(hg:Gl X x)(hm:X.mg x=some (.ref g))(hk:W.keepIn X.K (.ref g)=true)(hbG:Binds X.K gd ps2 [])(hl2:ps2.length=4)(hcode:X.env.code=.ref c)(hC:W.CodeHd X.base c P)(hB:BMain X.mg X.base)
  (hcl:closureFor sc X.env=pure clos)
  (hN1:X.N[i1]?=some y1) (hky1:X.env.kindOf y1=some .cell) (hvy1:Vis X.env.scope y1) (hcy1:X.env.cells.lookup y1=some cy1) (hfy1:X.fn y1=true) (hcly1:clos.lookup y1=some cy1)
  (hN2:X.N[i2]?=some y2) (hky2:X.env.kindOf y2=some .cell) (hvy2:Vis X.env.scope y2) (hcy2:X.env.cells.lookup y2=some cy2) (hfy2:X.fn y2=true) (hcly2:clos.lookup y2=some cy2)
  (honly:∀z d,clos.lookup z=some d->(z=y1/\d=cy1)\/(z=y2/\d=cy2)) (hNp:N=ps++[y1,y2]) (hsy1:sc.names.lookup y1=some .free) (hsy2:sc.names.lookup y2=some .free)
  (h1:PE X e1 te1) (h2:PE X e2 te2) (h3:PE X e3 te3)
  (G:∀(base':Heap)(fl c':Addr)(v1 v2:V)(pm ctv:Value),Mod X.K X.mg X.base->(∀b o,X.base.get? b=some o->base'.get? b=some o)->X.base.objs.size<=base'.objs.size->base'.get? fl=some (W.kla_obj "<lambda>" (X.env.qual++"<lambda>") params body sc clos pm c' ctv)->qkj9 base' sc clos N ps [v1,v2]->FnOk X.prog X.w X.K X.mg base' CX0 k g gd ps2 (spG v1 v2 fl c'))
  (hdb:(x==("__debug__":Str))=false:=by decide) (hdef:defaultsOf params X.env=([],[]):=by rfl)
  (he:starEach [e1,e2,e3,.Lambda params body sc lpos] X.env=(false,eval e1 X.env)::starEach [e2,e3,.Lambda params body sc lpos] X.env:=by rfl) (he2:starEach [e2,e3,.Lambda params body sc lpos] X.env=(false,eval e2 X.env)::starEach [e3,.Lambda params body sc lpos] X.env:=by rfl)
  (he3:starEach [e3,.Lambda params body sc lpos] X.env=(false,eval e3 X.env)::starEach [.Lambda params body sc lpos] X.env:=by rfl) (he4:starEach [.Lambda params body sc lpos] X.env=(false,eval (.Lambda params body sc lpos) X.env)::starEach [] X.env:=by rfl)
  (hpl:(backTo pos (starEach [e2,e3,.Lambda params body sc lpos] X.env)).any (·.1)=false:=by rfl) :
  PE X (.Call (.Name x p) [e1,e2,e3,.Lambda params body sc lpos] [] pos) (tLam4 i1 i2 P lpos (X.env.qual++"<lambda>") te1 te2 te3 spG):=by
 intro pins s σ H Q I h
 obtain⟨v1,v2,hv1,hv2,h⟩:=h
 refine wpAny_Call_Name_kw (qkr9 I hg hm ?_ hdb)
 refine W.callWith_K (h₀:=X.base) I.ok.mod.kin hk ?_ he hpl
 rw[he]
 show wpAny _ _ (spliced ((false,eval e1 X.env)::backTo pos (starEach [e2,e3,.Lambda params body sc lpos] X.env))) _ _ s
 refine Calls.spliced_cons (thn (h1 pins s σ H _ I h) λ u1 sa z9=>?_)
 obtain⟨w1,Ha,Ia,r1,ha⟩ := z9
 rw[he2]
 show wpAny _ _ (spliced ((false,eval e2 X.env)::backTo pos (starEach [e3,.Lambda params body sc lpos] X.env))) _ _ sa
 refine Calls.spliced_cons (thn (h2 pins sa σ Ha _ Ia ha) λ u2 sb z9=>?_)
 obtain⟨w2,Hb,Ib,r2,hb⟩ := z9
 rw[he3]
 show wpAny _ _ (spliced ((false,eval e3 X.env)::backTo pos (starEach [.Lambda params body sc lpos] X.env))) _ _ sb
 refine Calls.spliced_cons (thn (h3 pins sb σ Hb _ Ib hb) λ u3 s1 z9=>?_)
 obtain⟨w3,H1,I1,r3,tab,q1⟩ := z9
 rw[he4]
 show wpAny _ _ (spliced ((false,eval (.Lambda params body sc lpos) X.env)::backTo pos (starEach [] X.env))) _ _ s1
 refine Calls.spliced_cons (W.kla_eval hdef ?_)
 have cellAt:∀{i:Nat}{y:Str}{cy:Addr}{v:V},X.N[i]?=some y->X.env.kindOf y=some .cell->Vis X.env.scope y->X.env.cells.lookup y=some cy->σ[i]?=some (some v)->∀{H2:Hp}{s2:Shared},Inv X pins σ H2 s2->∃u,RelV v u/\s2.heap.IsCell cy (some u):=λ {i y cy v} hN hky hvy hcy hv {H2 s2} J=>by
  obtain⟨m,_,hl⟩:=J.loc
  obtain⟨u,ru,lk⟩:=hl i y v hN hv hvy
  rcases lk with⟨z,_⟩|⟨_,d,e',q⟩
  ·rw[hky] at z;cases z
  ·rw[hcy] at e'
   cases e'
   exact⟨u,ru,q⟩
 have fin:∀(fl c':Addr)(pm ctv:Value)(H2:Hp)(s2:Shared),Inv X pins σ H2 s2->SameT P H1 H2->TabOk H2 P lpos (X.env.qual++"<lambda>")->H2 c'=some (.ext (CodeQ c' (X.env.qual++"<lambda>"))) ->
   s2.heap.get? fl=some (W.kla_obj "<lambda>" (X.env.qual++"<lambda>") params body sc clos pm c' ctv)->H2 fl=none->fl∉frs X.stack ->
   wpAny (model X.prog X.w) X.A (spliced (backTo pos (starEach [] X.env))) (λ vs s3=>X.K.In s3.heap/\wpAny (model X.prog X.w) X.A (call (.ref g) ([]++(u1::u2::u3 :: .ref fl::vs))) (EP X pins σ Q) X.xe s3) X.xe s2:=by
  intro fl c' pm ctv H2 s2 I2 sm tb hc' hfl nfl nfs
  refine Calls.spliced_nil ⟨I2.kIn,?_⟩
  have hb1:=qgi9 (X:=X) hfl nfl nfs
  have nc:∀{y:Str}{cy:Addr},X.env.cells.lookup y=some cy->X.fn y=true->cy∉frs X.stack:=λ {y cy} hcy hfy z=>by
   rcases zah.mp (I2.stkSub cy z) with e|e
   ·exact I2.cne y cy hcy e
   ·have lo:=I2.ok.cab y cy hfy hcy
    obtain⟨_,o,eo,_⟩:=I2.ok.funs.mem e
    exact absurd (zay (zas eo) lo) (zca _)
  obtain⟨ua,ra,oa,qa1,qa2⟩:=cellAt hN1 hky1 hvy1 hcy1 hv1 I2
  obtain⟨ub,rb,ob,qb1,qb2⟩:=cellAt hN2 hky2 hvy2 hcy2 hv2 I2
  have hba:=qgi9 (X:=X) qa1 (I2.freeC y1 cy1 hcy1) (nc hcy1 hfy1)
  have hbb:=qgi9 (X:=X) qb1 (I2.freeC y2 cy2 hcy2) (nc hcy2 hfy2)
  have ca:qkj9 (fixed X H2 s2.heap) sc clos N ps [v1,v2]:=by
   refine⟨by rw[hNp,zam];rfl,λ z d e=>?_,λ j z v' e1 e2=>?_⟩
   ·rcases honly z d e with⟨rfl,rfl⟩|⟨rfl,rfl⟩
    ·exact⟨some ua,oa,hba,qa2⟩
    ·exact⟨some ub,ob,hbb,qb2⟩
   ·rw[hNp,zak (Nat.le_add_right _ _),Nat.add_sub_cancel_left] at e1
    match j,e1,e2 with
    |0,e1,e2 =>
     cases e1
     cases e2
     exact⟨hsy1,cy1,ua,hcly1,⟨oa,hba,qa2⟩,ra⟩
    |1,e1,e2 =>
     cases e1
     cases e2
     exact⟨hsy2,cy2,ub,hcly2,⟨ob,hbb,qb2⟩,rb⟩
    |j+2,e1,e2=>cases e2
  have F:=G _ fl c' v1 v2 pm ctv I2.ok.mod I2.base_fixed (zbb I2.env0.bsz (zer (W.hideAll_size _ _).symm)) hb1 ca
  have hsp:=q1 fl c' H2 sm tb hc'
  have bnd:BindsTo s2 gd ⟨[u1,u2,u3,.ref fl],[]⟩ (ps2.zip [u1,u2,u3,.ref fl]):=by
   have:=hbG s2 [u1,u2,u3,.ref fl] I2.kIn (by rw[hl2];rfl)
   simpa using this
  refine wpAny_call (codeAny_mono (F.run X.A X.stack s2 H2 ⟨[u1,u2,u3,.ref fl],[]⟩ [u1,u2,u3,.ref fl] [w1,w2,w3,.ref fl] Q E0 hr I2.env_fixed bnd (.cons r1 (.cons r2 (.cons r3 (.cons rfl .nil)))) hsp) λ r s' hq=>?_)
  cases r with
  |error e=>exact False.elim hq
  |ok fl' =>
   cases fl' with
   |ret u=>exact I2.after hq
   |next=>exact False.elim hq
   |brk=>exact False.elim hq
   |cont=>exact False.elim hq
 obtain⟨bm,ob,b1,b2,b3,b4,b5,b6⟩:=hB
 obtain⟨ps0,hP,ht,hor⟩:=tab
 have hPo:s1.heap.get? P=some (W.tabObj ps0):=I1.hok P _ hP
 have notP:∀b o,X.base.get? b=some o->b≠P:=λ b o e z=>by
  have:=(I1.bs b o e).2
  rw[z,hP] at this
  cases this
 obtain⟨og,esg,epg,eg,dg,rg⟩:=I1.mod.glob
 have hbA:s1.heap.BuiltinsAt X.mg P:=⟨bm,ob,b1,b2,(λ z=>by rw[z,eg] at b3;cases b3;rw[b6] at dg;cases dg),notP _ _ b3,I1.bk _ _ b3,b4,b5,b6⟩
 have gl:s1.heap.Ns mainGlobals X.mg:=I1.mod.glob.keeps I1.bk
 rcases hor with hnf|⟨c',hf,hc'⟩
 ·refine W.kla_makeFunction (mg:=X.mg) hcl I1.ok.glob gl hcode (hC.keeps I1.bk) hPo ht hnf (notP _ _ eg) hbA λ c' ctv h' tk hx hge hlt hrec htb=>?_
  have ltP:P<s1.heap.objs.size:=zas hPo
  have neP:P≠c':=zbd (zay ltP hge)
  have nc':H1 c'=none:=I1.hok.fresh hge
  have old:∀b o,b≠P->s1.heap.get? b=some o->(h'.push (W.kla_obj "<lambda>" (X.env.qual++"<lambda>") params body sc clos ((X.mg "__name__").getD .none) c' ctv)).get? b=some o:=λ b o n e=>zae _ (hx b o n e)
  have kP:∀b o,H1 b=some o->(∀z,o ≠ .tbl z)->b≠P:=λ b o e n z=>by rw[z,hP] at e;exact n ps0 (Option.some.inj e).symm
  have up:∀b o,H1 b=some o->b≠P->upd (upd H1 c' (.ext (CodeQ c' (X.env.qual++"<lambda>")))) P (.tbl (ps0 ++ #[rawInt lpos.line,rawInt lpos.col,.ref c'])) b=some o:=λ b o e n=>by
   rw[qap9 n,qap9 (qaz9 e nc')]
   exact e
  have upN:∀b,H1 b=none->b≠c'->upd (upd H1 c' (.ext (CodeQ c' (X.env.qual++"<lambda>")))) P (.tbl (ps0 ++ #[rawInt lpos.line,rawInt lpos.col,.ref c'])) b=none:=λ b e n=>by
   rw[qap9 (λ z=>by rw[z,hP] at e;cases e),qap9 n]
   exact e
  have u:Un X.fs [] H1 (upd (upd H1 c' (.ext (CodeQ c' (X.env.qual++"<lambda>")))) P (.tbl (ps0 ++ #[rawInt lpos.line,rawInt lpos.col,.ref c']))) s1.heap (h'.push (W.kla_obj "<lambda>" (X.env.qual++"<lambda>") params body sc clos ((X.mg "__name__").getD .none) c' ctv)):=by
   have nP:∀b,H1 b=none->b≠P:=λ b n z=>by rw[z,hP] at n;cases n
   refine⟨λ b o e n _ _=>old b o (nP b n) e,λ b o e n _ _=>⟨o.slots,old b o (nP b n) e⟩,λ b o e n _=>upN b n (zbd (zay (zas e) hge)),λ b o e _=>?_,λ b xs e=>up b _ e (kP b _ e λ _ z=>nomatch z),λ b o w e=>up b _ e (kP b _ e λ _ z=>nomatch z),λ b pz e=>?_⟩
   ·by_cases hb:b=P
    ·rw[hb]
     exact⟨_,zae _ htb⟩
    ·exact⟨o,old b o hb e⟩
   ·by_cases hb:b=P
    ·rw[hb] at e ⊢
     rw[hP] at e
     cases e
     exact⟨_,qaf9⟩
    ·exact⟨#[],by rw[up b _ e hb];simp⟩
  have hok:HOk X.prog X.w (upd (upd H1 c' (.ext (CodeQ c' (X.env.qual++"<lambda>")))) P (.tbl (ps0 ++ #[rawInt lpos.line,rawInt lpos.col,.ref c']))) (h'.push (W.kla_obj "<lambda>" (X.env.qual++"<lambda>") params body sc clos ((X.mg "__name__").getD .none) c' ctv)):=by
   intro b o e
   by_cases hb:b=P
   ·rw[hb,qaf9] at e
    cases e
    rw[hb]
    exact zae _ htb
   ·rw[qap9 hb] at e
    by_cases hb2:b=c'
    ·rw[hb2,qaf9] at e
     cases e
     rw[hb2]
     obtain⟨c2,oc,vs,tq,ee,hoc,rest⟩:=hrec
     cases ee
     refine⟨⟨_,oc,vs,tq,U,zae _ hoc,rest⟩,⟨oc,zae _ hoc⟩,λ h1 h2 hq hk=>?_⟩
     obtain⟨c3,o3,v3,t3,e3,g3,r3⟩:=hq
     cases e3
     exact⟨_,o3,v3,t3,U,hk _ g3,r3⟩
    ·rw[qap9 hb2] at e
     refine(I1.hok b o e).stay (λ d z hd q=>old d z ?_ q) (λ d q=>up d _ q (kP d _ q λ _ z=>nomatch z)) λ d xs q=>up d _ q (kP d _ q λ _ z=>nomatch z)
     rcases hd with hd|hd
     ·rw[hd];exact hb
     ·exact kP d _ hd λ _ z=>nomatch z
  have I2:=I1.un (t':=tk) u hok
  refine fin h'.objs.size c' _ ctv _ _ I2 (λ b o e n=>up b o e n) ⟨_,qaf9,?_,.inr ⟨c',?_,?_⟩⟩ ?_ (zar _ rfl) ?_ ?_
  ·have:=TriplesOk_snoc lpos.line lpos.col (.ref c') ps0.toList ht
   simpa using this
  ·have:=codeAmong_snoc (pos:=lpos) (c:=.ref c') ps0.toList ht hnf
   simpa using this
  ·rw[qap9 neP.symm,qaf9]
  ·rw[qap9 neP.symm,qaf9]
  ·refine upN _ (I1.hok.fresh (zbb hge (zcf hlt))) (zeq hlt)
  ·exact λ z=>by
    rcases zah.mp (I1.stkSub _ z) with e|e
    ·exact absurd (I1.lt) (by rw[<- e];exact zfc.mpr (zbb hge (zcf hlt)))
    ·exact I1.nofs (zbb hge (zcf hlt)) e
 ·refine W.kla_makeFunctionHit (mg:=X.mg) hcl I1.ok.glob gl hcode (hC.keeps I1.bk) hPo ht hf hbA λ ctv h' tk hk hsz=>?_
  have I2:Inv X pins σ H1 { s1 with heap:=h'.push { cls:=.type "function",data:=.func (W.kla_fn "<lambda>" (X.env.qual++"<lambda>") params body sc clos ((X.mg "__name__").getD .none) (.ref c') ctv) },toks:=tk }:=I1.kept (t':=tk) λ b o e=>zae _ (hk b o e)
  refine fin h'.objs.size c' _ ctv H1 _ I2 (λ b o e _=>e) ⟨ps0,hP,ht,.inr ⟨c',hf,hc'⟩⟩ hc' (zar _ rfl) (I1.hok.fresh hsz) ?_
  exact λ z=>by
   rcases zah.mp (I1.stkSub _ z) with e|e
   ·exact absurd (I1.lt) (by rw[<- e];exact zfc.mpr hsz)
   ·exact I1.nofs hsz e
end
section
variable {o value:Expr}{f m:Str}{pos':Pos}{ta tv:TE}{C:Addr}
theorem qiy9(he:QE X e ta)(hb:attributeBase e f X.env (eval e X.env)=eval e X.env:=by rfl):QE X (.Attribute e f pos) (tFld X.K ta f):=⟨pe_fld he.run hb⟩
theorem qs_fld(ha:QE X o ta)(hv:QE X value tv)(hs:swapsWith value (some (.Attribute o f pos')) pos.line X.env=pure false:=by rfl):QS X (.Assign [.Attribute o f pos'] value pos) (sFld X.K ta tv f):=⟨ps_fld ha.run hv.run hs⟩
structure MCal(P:Program)(w:World)(K:W.Frag)(mg:Str->Option Value)(base:Heap)(k:Nat)(C:Addr)(m:Str)(ps:List Str)(sp:Sp):Prop where
 ex:∃(f:Addr)(fd:FuncData),FnOk P w K mg base CX0 k f fd ps sp/\Binds K fd ps []/\Meth K C m f
 cl:Cls K C
theorem MCal.up{j:Nat}(M:MCal P w K mg base j C m ps sp)(h:j<=k):MCal P w K mg base k C m ps sp:=by
 obtain⟨⟨f,fd,G,b,me⟩,c⟩:=M
 exact⟨⟨f,fd,G.mono h,b,me⟩,c⟩
theorem qiu9{pl:Sem Bool}(M:MCal X.prog X.w X.K X.mg X.base k C m ps sp)(hr:Room k X.A)(ho:QE X o ta)(ha:QA X (e::es) t)(h:qbj9 e=true:=by rfl)(hpl:es.all qbj9=true:=by rfl)
  (ht:eval (.Call (.Attribute o m apos) (e::es) [] pos) X.env=(do
   let ov <- eval o X.env
   standAt apos.atName
   let (f,first) <- holding [ov] (getMethod ov m pl)
   callWith pos f first (backTo pos (starEach (e::es) X.env)) (backToKw pos (keywordEach [] X.env))):=by rfl) :
  QE X (.Call (.Attribute o m apos) (e::es) [] pos) (tMeth C m sp [] E0 ta t):=by
 obtain⟨⟨f,fd,G,b,me⟩,c⟩:=M
 exact⟨pe_meth ho.run c me G hr b .nil pass0 ha.run (se_of h) (qmp9 hpl) ht⟩
structure KCal(P:Program)(w:World)(K:W.Frag)(mg:Str->Option Value)(base:Heap)(k:Nat)(x:Str)(C:Addr)(ps:List Str)(sp:Sp):Prop where
 ex:∃(f:Addr)(fd:FuncData),Mk K C f/\FnOk P w K mg base CX0 k f fd ps sp/\Binds K fd ps []
 mg_:mg x=some (.ref C)
theorem KCal.up{j:Nat}(M:KCal P w K mg base j x C ps sp)(h:j<=k):KCal P w K mg base k x C ps sp:=by
 obtain⟨⟨f,fd,mk,G,b⟩,c⟩:=M
 exact⟨⟨f,fd,mk,G.mono h,b⟩,c⟩
theorem qpi9(M:KCal X.prog X.w X.K X.mg X.base k x C ps sp)(hr:Room (k+1) X.A)(hg:Gl X x)(ha:QA X (e::es) t)(h:qbj9 e=true:=by rfl)(hpl:es.all qbj9=true:=by rfl)(hdb:(x==("__debug__":Str))=false:=by decide) :
  QE X (.Call (.Name x p) (e::es) [] pos) (tMake C sp [] E0 t):=by
 obtain⟨⟨f,fd,mk,G,b⟩,c⟩:=M
 exact⟨pe_make mk G hr hg c b .nil pass0 ha.run hdb (se_of h) (qmp9 hpl)⟩
end
structure FunD(K:W.Frag)(x qual:Str)(st:Stmt)(f:Addr)(fd:FuncData):Prop where
 ex:∃(oc:Value)(od:Option Addr)(dV kV doc pm:Value)(an:Option Addr)(cdv ct:Value) (osl:Array (Option Value)),
  fd=W.fnOf x qual (qah9 st) (qag9 st) (qaa9 st) dV kV doc pm an cdv ct/\K.lookup f=some ⟨oc,od,.func fd,osl⟩/\W.codeIn K cdv qual=true
theorem FunD.okQ{qual:Str}{st:Stmt}{f:Addr}{fd:FuncData}{N:List Str}(F:FunD K x qual st f fd)(S:FnScope N ps (qaa9 st))(len:∀vs H Q E,sp vs H Q E->vs.length=ps.length)
  (hbody:∀(cdv:Value)(A:Around)(outer:List Env)(s:Shared)(H:Hp)(vs:List V)(Q:VK)(E:XK),Room k (A.deeper (envOfC qual (qaa9 st) s.heap.objs.size f cdv))->sp vs H Q E ->
   ∃t,QSs (cxOf CX0 P w K mg base N qual (qaa9 st) f cdv A outer s H E).nox (qag9 st) t/\t { nx:=λ _ H'=>Q .non H',rt:=Q } (start N vs) H):FnOk P w K mg base CX0 (k+1) f fd ps sp:=by
 obtain⟨oc,od,dV,kV,doc,pm,an,cdv,ct,osl,rfl,lk,hcd⟩:=F.ex
 refine fn_of lk hcd S len λ A outer s H vs Q E hr hsp=>?_
 obtain⟨t,h,q⟩:=hbody cdv A outer s H vs Q E hr hsp
 exact⟨t,h.run.nox,q⟩
section
variable {prog:Program}{A:Around}{E:Value->Shared->Prop}{it t:Addr}{i:Nat}{items:Array Value}
theorem qpp9{x:Value}(hi:s.heap.IsTupleIter it t i)(ht:s.heap.IsTuple t items)(hx:items[i]?=some x)(hQ:∀h',h'.IsTupleIter it t (i+1)->Heap.SameBut it s.heap h'->Q x { s with heap:=h' }) :
  wpAny (model prog w) A (Builtin.SmallTypes.nextOf (.ref it)) Q E s:=by
 obtain⟨o,ho,hc,hd⟩:=id hi
 obtain⟨ot,hot,_,nt,hdt⟩:=ht
 have go:wpAny (model prog w) A (callSpecial? (.ref it) (zbo "__next__")) (λ v s'=>wpAny (model prog w) A (match v with|some v=>pure v|none=>do rule "iternext.gone";raiseError "TypeError" s!"'{← typeNameOf (.ref it)}' object is not iterable") Q E s') E s:=by
  refine wpAny_callSpecial?_slot ⟨o,ho,hc⟩ F.slot_tuple_iterator_next (wpAny_call_entry F.slot_tuple_iterator_next ⟨o,ho,hc⟩ F.entry_tuple_iterator_next ?_ (F.args_tuple_iterator_next_1 _))
  refine(show wpAny (model prog w) _ (field (.ref it) 0 >>= _) _ _ s from ?_)
  refine wpAny_bind (wpAny_field ho hd (x:=.ref t) rfl ?_)
  refine(show wpAny (model prog w) _ (field (.ref it) 1 >>= _) _ _ s from ?_)
  refine wpAny_bind (wpAny_field ho hd (x:=.int i 0) rfl ?_)
  refine(show wpAny (model prog w) _ (seqItems? (.ref t) >>= _) _ _ s from ?_)
  refine wpAny_bind (wpAny_seqItems hot hdt ?_)
  simp only[zcs,hx]
  refine wpAny_bind (wpAny_setField ho hd (by simp) (wpAny_pure ⟨x,rfl,wpAny_pure (hQ _ ⟨_,zfm _ ho (Obj.isFreed_of_fields (Obj.data_mapFields hd _)),(Obj.cls_mapFields ..).trans hc,?_⟩ (Heap.SameBut.update ..))⟩))
  rw[Obj.data_mapFields hd]
  simp[rawInt]
 exact wpAny_bind go
theorem nextT_end{Q:Value->Shared->Prop}(hh:A.handled=none)(hi:s.heap.IsTupleIter it t i)(ht:s.heap.IsTuple t items)(hx:items[i]?=none)(hE:∀h' e,Heap.ExtBut it s.heap h'->(∃o,h'.get? e=some o/\o.cls=.type "StopIteration")->E (.ref e) { s with heap:=h' }) :
  wpAny (model prog w) A (Builtin.SmallTypes.nextOf (.ref it)) Q E s:=by
 obtain⟨o,ho,hc,hd⟩:=id hi
 obtain⟨ot,hot,_,nt,hdt⟩:=ht
 have go:∀Q',wpAny (model prog w) A (callSpecial? (.ref it) (zbo "__next__")) Q' E s:=λ Q'=>by
  refine wpAny_callSpecial?_slot ⟨o,ho,hc⟩ F.slot_tuple_iterator_next (wpAny_call_entry F.slot_tuple_iterator_next ⟨o,ho,hc⟩ F.entry_tuple_iterator_next ?_ (F.args_tuple_iterator_next_1 _))
  refine(show wpAny (model prog w) _ (field (.ref it) 0 >>= _) _ _ s from ?_)
  refine wpAny_bind (wpAny_field ho hd (x:=.ref t) rfl ?_)
  refine(show wpAny (model prog w) _ (field (.ref it) 1 >>= _) _ _ s from ?_)
  refine wpAny_bind (wpAny_field ho hd (x:=.int i 0) rfl ?_)
  refine(show wpAny (model prog w) _ (seqItems? (.ref t) >>= _) _ _ s from ?_)
  refine wpAny_bind (wpAny_seqItems hot hdt ?_)
  simp only[zcs,hx]
  refine wpAny_bind (wpAny_rule (wpAny_bind (wpAny_setField ho hd (by simp) ?_)))
  refine(show wpAny (model prog w) _ (newExc (.type "StopIteration") [] >>= _) _ _ _ from wpAny_bind ?_)
  simp only[newExc,newTuple]
  refine wpAny_bind (wpAny_newObj_type (wpAny_bind (m:=firstArgMember _ _) (wpAny_of_eq (a:=Value.none) (by first|rfl|(simp only[firstArgMember];rfl)) (wpAny_newObj_type ?_ (by size_fits)))) (by size_fits))
  simp only[raiseNew]
  refine wpAny_bind (wpAny_handled ?_)
  rw[show A.in1.handled=none from hh]
  exact wpAny_bind (wpAny_pure (wpAny_throw (hE _ _ (((Heap.SameBut.update ..).extBut.push _).push _) ⟨_,zar _ rfl,rfl⟩)))
 exact wpAny_bind (go _)
end
section
variable {prog:Program}{A:Around}{E:Value->Shared->Prop}{z TI TO i1 i2 l1 l2:Addr}{xs ys:Array Value}{x y a b:Value}
structure ZipT(h:Heap)(z TI TO i1 i2 l1 l2:Addr)(k:Nat):Prop where
 hz:IsZip h z TI TO .none
 hTI:IsPair h TI (.ref i1) (.ref i2)
 hTO:∃a b,IsPair h TO a b
 h1:h.IsTupleIter i1 l1 k
 h2:h.IsListIter i2 l2 k
theorem zipT_item(D:ZipApart z TI TO i1 i2 l1 l2)(Z:ZipT s.heap z TI TO i1 i2 l1 l2 k)(hl1:s.heap.IsTuple l1 xs)(hl2:s.heap.IsList l2 ys)(hx:xs[k]?=some x)(hy:ys[k]?=some y)
  (hQ:∀h',IsZip h' z TI TO (rawInt s.heap.objs.size)->IsPair h' TI (.ref i1) (.ref i2)->IsPair h' TO x y->h'.IsTupleIter i1 l1 (k+1)->h'.IsListIter i2 l2 (k+1)->IsPair h' s.heap.objs.size x y->(∀c o,c≠z->c≠TO->c≠i1->c≠i2->s.heap.get? c=some o->h'.get? c=some o)->Q (.ref s.heap.objs.size) { s with heap:=h' }) :
  wpAny (model prog w) A (Builtin.«zip.__next__» ⟨[.ref z],[]⟩) (λ fin s'=>∃v,fin=.done (.ret v)/\Q v s') E s:=by
 obtain⟨hz,hTI,⟨a,b,hTO⟩,h1,h2⟩:=Z
 refine(show wpAny (model prog w) _ (field (.ref z) 2 >>= _) _ _ s from ?_)
 refine wpAny_bind (wpAny_field hz rfl (x:=.bool false) rfl ?_)
 refine(show wpAny (model prog w) _ (field (.ref z) 3 >>= _) _ _ s from ?_)
 refine wpAny_bind (wpAny_field hz rfl (x:=.ref TI) rfl (wpAny_bind (wpAny_seqItems hTI rfl ?_)))
 refine(show wpAny (model prog w) _ (Builtin.SmallTypes.ownedTupleIsFree (.ref z) >>= _) _ _ s from wpAny_bind ?_)
 unfold Builtin.SmallTypes.ownedTupleIsFree
 refine wpAny_bind (wpAny_field hz rfl (x:=.none) rfl (wpAny_pure ?_))
 simp only[if_true]
 refine wpAny_bind (wpAny_rule (wpAny_bind (wpAny_field hz rfl (x:=.ref TO) rfl ?_)))
 refine wpAny_bind (wpAny_setField_rec hz (by simp) λ g1 z1 b1=>wpAny_bind ?_)
 simp only[zgm,zgw,zgx,zhd]
 have e1:=b1.extBut
 refine wpAny_bind (wpAny_bind (wpAny_onRaise ?_))
 refine(show wpAny (model prog w) _ (Builtin.SmallTypes.nextOf (.ref i1) >>= _) _ _ _ from ?_)
 refine wpAny_bind (qpp9 (h1.extBut e1 D.i1z) (hl1.extBut e1 D.l1z) hx λ g2 j1 b2=>wpAny_pure ?_)
 have e2:=b2.extBut
 have o2:IsPair g2 TO a b:=e2 _ _ D.TOi1 (e1 _ _ D.TOz hTO)
 refine wpAny_bind (wpAny_seqItems o2 rfl (wpAny_bind (wpAny_updateSeq_pair o2 λ g3 o3 b3=>wpAny_bind (wpAny_letGo (wpAny_pure ?_)))))
 have o3:IsPair g3 TO x b:=o3
 have e3:=b3.extBut
 refine wpAny_bind (wpAny_bind (wpAny_onRaise ?_))
 refine(show wpAny (model prog w) _ (Builtin.SmallTypes.nextOf (.ref i2) >>= _) _ _ _ from ?_)
 refine wpAny_bind (wpAny_nextOf_list_item (((h2.extBut e1 D.i2z).extBut e2 D.i12.symm).extBut e3 D.TOi2.symm) (((hl2.extBut e1 D.l2z).extBut e2 D.l2i1).extBut e3 D.l2TO) hy λ g4 j2 b4=>wpAny_pure ?_)
 have e4:=b4.extBut
 have o4:IsPair g4 TO x b:=e4 _ _ D.TOi2 o3
 refine wpAny_bind (wpAny_seqItems o4 rfl (wpAny_bind (wpAny_updateSeq_pair o4 λ g5 o5 b5=>wpAny_bind (wpAny_letGo (wpAny_pure (wpAny_pure ?_))))))
 have o5:IsPair g5 TO x y:=o5
 have e5:=b5.extBut
 refine wpAny_bind (wpAny_seqItems o5 rfl (wpAny_bind (wpAny_newTuple ?_)))
 have sz:g5.objs.size=s.heap.objs.size:=by rw[b5.1,b4.1,b3.1,b2.1,b1.1]
 have z1:IsZip g1 z TI TO .ellipsis:=z1
 have z5:IsZip g5 z TI TO .ellipsis:=e5 _ _ D.TOz.symm (e4 _ _ D.i2z.symm (e3 _ _ D.TOz.symm (e2 _ _ D.i1z.symm z1)))
 have k5:∀c o,c≠z->c≠TO->c≠i1->c≠i2->s.heap.get? c=some o->g5.get? c=some o:=λ c o c1 c2 c3 c4 e=>e5 _ _ c2 (e4 _ _ c4 (e3 _ _ c2 (e2 _ _ c3 (e1 _ _ c1 e))))
 have zlt:z<g5.objs.size:=zas z5
 refine(show wpAny (model prog w) _ (Builtin.SmallTypes.ownedTupleHandOut (.ref z) (.ref g5.objs.size) >>= _) _ _ _ from wpAny_bind ?_)
 unfold Builtin.SmallTypes.ownedTupleHandOut
 have z6:IsZip (g5.push { cls:=.type "tuple",data:=.seq #[x,y] }) z TI TO .ellipsis:=zae _ z5
 refine wpAny_bind (wpAny_setField_rec z6 (by simp) λ g7 z7 b7=>?_)
 have z7:IsZip g7 z TI TO (rawInt g5.objs.size):=z7
 refine wpAny_setField_rec z7 (by simp) λ g8 z8 b8=>?_
 have z8:IsZip g8 z TI TO (rawInt g5.objs.size):=z8
 have up:∀c o,c≠z->g5.get? c=some o->g8.get? c=some o:=λ c o c1 e=>b8.extBut _ _ c1 (b7.extBut _ _ c1 (zae _ e))
 have t8:IsPair g8 g5.objs.size x y:=b8.extBut _ _ (zeq zlt) (b7.extBut _ _ (zeq zlt) (zar _ rfl))
 rw[sz] at z8 t8
 refine wpAny_pure ⟨_,rfl,?_⟩
 rw[sz]
 exact hQ g8 z8 (up _ _ D.TIz (k5 _ _ D.TIz D.TITO D.TIi1 D.TIi2 hTI)) (up _ _ D.TOz o5) ((((j1.extBut e3 D.TOi1.symm).extBut e4 D.i12).extBut e5 D.TOi1.symm).at λ o e=>up _ o D.i1z e) ((j2.extBut e5 D.TOi2.symm).at λ o e=>up _ o D.i2z e) t8 λ c o c1 c2 c3 c4 e=>up c o c1 (k5 c o c1 c2 c3 c4 e)
theorem zipT_end{Q:PySem.Fin->Shared->Prop}(hh:A.handled=none)(D:ZipApart z TI TO i1 i2 l1 l2)(Z:ZipT s.heap z TI TO i1 i2 l1 l2 k)(hl1:s.heap.IsTuple l1 xs)(hx:xs[k]?=none)
  (hE:∀h' e,(∀c o,c≠z->c≠i1->s.heap.get? c=some o->h'.get? c=some o)->(∃o,h'.get? e=some o/\o.cls=.type "StopIteration")->E (.ref e) { s with heap:=h' }) :
  wpAny (model prog w) A (Builtin.«zip.__next__» ⟨[.ref z],[]⟩) Q E s:=by
 obtain⟨hz,hTI,⟨a,b,hTO⟩,h1,h2⟩:=Z
 refine(show wpAny (model prog w) _ (field (.ref z) 2 >>= _) _ _ s from ?_)
 refine wpAny_bind (wpAny_field hz rfl (x:=.bool false) rfl ?_)
 refine(show wpAny (model prog w) _ (field (.ref z) 3 >>= _) _ _ s from ?_)
 refine wpAny_bind (wpAny_field hz rfl (x:=.ref TI) rfl (wpAny_bind (wpAny_seqItems hTI rfl ?_)))
 refine(show wpAny (model prog w) _ (Builtin.SmallTypes.ownedTupleIsFree (.ref z) >>= _) _ _ s from wpAny_bind ?_)
 unfold Builtin.SmallTypes.ownedTupleIsFree
 refine wpAny_bind (wpAny_field hz rfl (x:=.none) rfl (wpAny_pure ?_))
 simp only[if_true]
 refine wpAny_bind (wpAny_rule (wpAny_bind (wpAny_field hz rfl (x:=.ref TO) rfl ?_)))
 refine wpAny_bind (wpAny_setField_rec hz (by simp) λ g1 z1 b1=>wpAny_bind ?_)
 simp only[zgm,zgw,zgx,zhd]
 have z1:IsZip g1 z TI TO .ellipsis:=z1
 refine wpAny_bind (wpAny_bind (wpAny_onRaise ?_))
 refine(show wpAny (model prog w) _ (Builtin.SmallTypes.nextOf (.ref i1) >>= _) _ _ _ from ?_)
 refine wpAny_bind (nextT_end hh (h1.extBut b1.extBut D.i1z) (hl1.extBut b1.extBut D.l1z) hx λ g2 e b2 he=>?_)
 obtain⟨oe,hoe,hce⟩:=he
 have z2:IsZip g2 z TI TO .ellipsis:=b2 _ _ D.i1z.symm z1
 have ne:e≠z:=λ q=>by
  subst q
  rw[z2] at hoe
  cases hoe
  simp at hce
 exact wpAny_setField_rec z2 (by simp) λ g3 _ b3=>hE g3 e (λ c o c1 c3 q=>b3.extBut _ _ c1 (b2 _ _ c3 (b1.extBut _ _ c1 q))) ⟨oe,b3.extBut _ _ ne hoe,hce⟩
theorem qqx9{Q:Option Value->Shared->Prop}(D:ZipApart z TI TO i1 i2 l1 l2)(Z:ZipT s.heap z TI TO i1 i2 l1 l2 k)(hl1:s.heap.IsTuple l1 xs)(hl2:s.heap.IsList l2 ys)(hx:xs[k]?=some x)(hy:ys[k]?=some y)
  (hQ:∀h',IsZip h' z TI TO (rawInt s.heap.objs.size)->IsPair h' TI (.ref i1) (.ref i2)->IsPair h' TO x y->h'.IsTupleIter i1 l1 (k+1)->h'.IsListIter i2 l2 (k+1)->IsPair h' s.heap.objs.size x y->(∀c o,c≠z->c≠TO->c≠i1->c≠i2->s.heap.get? c=some o->h'.get? c=some o)->Q (some (.ref s.heap.objs.size)) { s with heap:=h' }):wpAny (model prog w) A (pyNext (.ref z)) Q E s:=by
 have hT:s.TypeIs (.ref z) "zip" := ⟨_,Z.hz,rfl⟩
 unfold pyNext
 refine wpAny_bind (wpAny_attempt (wpAny_callSpecial?_slot hT F.slot_zip_next (wpAny_call_entry F.slot_zip_next hT F.entry_zip_next ?_ (F.args_zip_next_1 _))))
 exact zipT_item (Q:=λ v s'=>wpAny (model prog w) A (pure (some v)) Q E s') D Z hl1 hl2 hx hy λ h' a1 a2 a3 a4 a5 a6 a7=>wpAny_pure (hQ h' a1 a2 a3 a4 a5 a6 a7)
theorem nextZ_end{Q:Option Value->Shared->Prop}(hh:A.handled=none)(D:ZipApart z TI TO i1 i2 l1 l2)(Z:ZipT s.heap z TI TO i1 i2 l1 l2 k)(hl1:s.heap.IsTuple l1 xs)(hx:xs[k]?=none)
  (hQ:∀h',(∀c o,c≠z->c≠i1->s.heap.get? c=some o->h'.get? c=some o)->Q none { s with heap:=h' }):wpAny (model prog w) A (pyNext (.ref z)) Q E s:=by
 have hT:s.TypeIs (.ref z) "zip" := ⟨_,Z.hz,rfl⟩
 unfold pyNext
 refine wpAny_bind (wpAny_attempt (wpAny_callSpecial?_slot hT F.slot_zip_next (wpAny_call_entry F.slot_zip_next hT F.entry_zip_next (zipT_end hh D Z hl1 hx λ h' e hk he=>?_) (F.args_zip_next_1 _))))
 obtain⟨o,ho,hc⟩:=he
 exact wpAny_bind (wpAny_isInstance (T := "StopIteration") (b:=true) ⟨o,ho,hc⟩ isSubtype_stop (wpAny_pure (hQ _ hk)))
abbrev zH1(h:Heap)(t:Addr):Heap:=h.push { cls:=.type "tuple_iterator",data:=.fields #[.ref t,.int 0 0] }
abbrev zH2(h:Heap)(t l:Addr):Heap:=(zH1 h t).push { cls:=.type "list_iterator",data:=.fields #[.ref l,.int 0 0] }
abbrev zH3(h:Heap)(t l:Addr):Heap:=(zH2 h t l).push { cls:=.type "tuple",data:=.seq #[.ref h.objs.size,.ref (zH1 h t).objs.size] }
abbrev zH4(h:Heap)(t l:Addr):Heap:=(zH3 h t l).push { cls:=.type "tuple",data:=.seq #[.none,.none] }
abbrev zH5(h:Heap)(t l:Addr):Heap:=(zH4 h t l).push { cls:=.type "zip",data:=.fields #[.none,.bool false,.bool false,.ref (zH2 h t l).objs.size,.ref (zH3 h t l).objs.size] }
theorem qsn9(t l:Addr)(xs ys:Array Value):Meets (Builtin.«zip.__new__» ⟨[.type "zip",.ref t,.ref l],[]⟩) (λ _ R s=>s.heap.IsTuple t xs/\s.heap.IsList l ys/\R (.ok (.ret (.ref (zH4 s.heap t l).objs.size))) { s with heap:=zH5 s.heap t l }) :=
 .of_wp λ prog w A R s h=>by
  obtain⟨hp,g,d,tk,os⟩:=s
  obtain⟨ht,hl,h⟩:=h
  have hsub:=sub_zip
  have a1:Heap.IsTuple (Shared.heap ⟨hp,g,d,tk,os⟩) t xs:=ht
  have a2:Heap.IsList (Shared.heap ⟨hp.push { cls:=.type "tuple_iterator",data:=.fields #[.ref t,.int 0 0] },g,d,tk,os⟩) l ys:=Heap.IsList.push hl _
  wp_walk using wpAny_pyIter_tuple a1,wpAny_pyIter_list a2
  exact⟨_,U,h⟩
theorem call_zipT{t l:Addr}(ht:s.heap.IsTuple t xs)(hl:s.heap.IsList l ys)
  (h:∀h',ZipT h' (s.heap.objs.size+4) (s.heap.objs.size+2) (s.heap.objs.size+3) s.heap.objs.size (s.heap.objs.size+1) t l 0->(∀c o,s.heap.get? c=some o->h'.get? c=some o)->Q (.ref (s.heap.objs.size+4)) { s with heap:=h' }) :
  wpAny (model prog w) A (call (.type "zip") [.ref t,.ref l]) Q E s:=by
 refine callType_new F.called_zip (by decide) (F.typeCall_zip_2 _ _) (F.newCall_zip_2 _ _) (λ obj=>F.args_object_init_3 obj _ _) F.entry_zip_new (qsn9 t l xs ys) ⟨ht,hl,?_⟩
 have z1:(zH1 s.heap t).objs.size=s.heap.objs.size+1:=zdi ..
 have z2:(zH2 s.heap t l).objs.size=s.heap.objs.size+2:=by rw[zdi,z1]
 have z3:(zH3 s.heap t l).objs.size=s.heap.objs.size+3:=by rw[zdi,z2]
 have z4:(zH4 s.heap t l).objs.size=s.heap.objs.size+4:=by rw[zdi,z3]
 have p:∀{h:Heap}{c:Addr}{o o':Obj},h.get? c=some o->(h.push o').get? c=some o:=λ e=>zae _ e
 have g5:(zH5 s.heap t l).get? (zH4 s.heap t l).objs.size=some _:=zar _ rfl
 have g4:(zH5 s.heap t l).get? (zH3 s.heap t l).objs.size=some _:=p (zar _ rfl)
 have g3:(zH5 s.heap t l).get? (zH2 s.heap t l).objs.size=some _:=p (p (zar _ rfl))
 have g2:(zH5 s.heap t l).get? (zH1 s.heap t).objs.size=some _:=p (p (p (zar _ rfl)))
 have g1:(zH5 s.heap t l).get? s.heap.objs.size=some _:=p (p (p (p (zar _ rfl))))
 rw[z2,z3,z4] at g5
 rw[z1,z2] at g3
 rw[z3] at g4
 rw[z1] at g2
 refine(show _/\_ from ?_)
 rw[z4]
 exact⟨⟨_,g5,U⟩,h _ ⟨g5,g3,⟨_,_,g4⟩,⟨_,g1,U,U⟩,⟨_,g2,U,U⟩⟩ λ c o e=>p (p (p (p (p e))))⟩
end
def ItzT(K:W.Frag)(a b:Addr):It :=
 ⟨λ i H=>∃xs ys x y,SqT K H a xs/\SqL K H b ys/\xs[i]?=some x/\ys[i]?=some y,
  λ i H v H'=>∃p x y,v=.ref p/\H p=none/\H'=upd H p (.tup [x,y])/\(∀xs,SqT K H a xs->xs[i]?=some x)/\(∀ys,SqL K H b ys->ys[i]?=some y),
  λ i H=>∃xs,SqT K H a xs/\xs.length<=i⟩
theorem turn_zipT{z TI TO i1 i2 b:Addr}(D:ZipApart z TI TO i1 i2 a b):Turn P w K (.Tuple es kk tp) (ItzT K a b) [z,TI,TO,i1,i2] z (λ i h=>ZipT h z TI TO i1 i2 a b i) where
 mem:=by simp
 obj:=λ i h st c hc=>by
  obtain⟨hz,hTI,⟨x,y,hTO⟩,⟨o1,e1,c1,d1⟩,⟨o2,e2,c2,d2⟩⟩:=st
  simp only[zah,zaw,or_false] at hc
  rcases hc with rfl|rfl|rfl|rfl|rfl
  ·exact⟨_,hz,λ v q=>by cases (show Data.fields _=Data.cell v from q)⟩
  ·exact⟨_,hTI,λ v q=>by cases (show Data.seq _ _=Data.cell v from q)⟩
  ·exact⟨_,hTO,λ v q=>by cases (show Data.seq _ _=Data.cell v from q)⟩
  ·exact⟨o1,e1,λ v q=>by rw[d1] at q;cases q⟩
  ·exact⟨o2,e2,λ v q=>by rw[d2] at q;cases q⟩
 keep:=λ i h h' st k=>by
  obtain⟨hz,hTI,⟨x,y,hTO⟩,h1,h2⟩:=st
  exact⟨k z (by simp) _ hz,k TI (by simp) _ hTI,⟨x,y,k TO (by simp) _ hTO⟩,h1.at λ o e=>k i1 (by simp) o e,h2.at λ o e=>k i2 (by simp) o e⟩
 item:=by
  intro X hP hw hK hc i pins s σ H E I hf st hg
  subst hP hw hK
  obtain⟨xs,ys,x,y,hq1,hq2,hx,hy⟩:=hg
  obtain⟨t1,rv1,p1,hz1⟩:=I.tuple hq1
  obtain⟨t2,rv2,p2,hz2⟩:=I.list hq2
  obtain⟨u,hu,ru⟩:=rv1.get hx
  obtain⟨v,hv,rv⟩:=rv2.get hy
  refine qqx9 D st (show s.heap.IsTuple a t1.toArray from p1) p2.isList (x:=u) (y:=v) (by simpa using hu) (by simpa using hv) λ h' a1 a0 a2 a3 a4 a5 k=>?_
  have fresh:H s.heap.objs.size=none:=I.hok.fresh (zao _)
  have hz4:∀c∈[z,TO,i1,i2],c∈[z,TI,TO,i1,i2]:=λ c hc=>by
   simp only[zah,zaw,or_false] at hc ⊢
   rcases hc with rfl|rfl|rfl|rfl<;>simp
  have szn:∀c o,s.heap.get? c=some o->c≠s.heap.objs.size:=λ c o e=>zbd (zas e)
  have I1:Inv X pins σ (upd H s.heap.objs.size (.tup [x,y])) { s with heap:=h' }:=by
   refine I.turnedL (ch:=[z,TO,i1,i2]) (λ c hc=>hf c (hz4 c hc)) (λ c o hc e=>?_) (λ c o e=>by rw[qap9 (qaz9 e fresh)];exact e) (λ c o e n=>by rw[qap9 (szn c o e)];exact n) λ c o n e=>?_
   ·simp only[zah,zaw,or_false,not_or] at hc
    exact k c o hc.1 hc.2.1 hc.2.2.1 hc.2.2.2 e
   ·by_cases ec:c=s.heap.objs.size
    ·rw[ec,qaf9] at e
     cases e
     rw[ec]
     exact⟨by show 2<=sizeLine;decide,[u,v],.cons ru (.cons rv .nil),_,a5,U,_,U⟩
    ·rw[qap9 ec,n] at e
     cases e
  refine⟨_,U,wpAny_letOwnedTupleGo_zip a1 λ h'' hz'' sb=>?_⟩
  have zf:=hf z (by simp)
  have zs:z≠s.heap.objs.size:=szn z _ st.hz
  have I2:Inv X pins σ (upd H s.heap.objs.size (.tup [x,y])) { s with heap:=h'' }:=Inv.turned (s:={ s with heap:=h' }) (h':=h'') (t':=s.toks) (it:=z) I1 (λ c o hc e=>sb.extBut c o hc e) (by rw[qap9 zs];exact zf.1) zf.2.1 zf.2.2.2.1 zf.2.2.2.2.1 zf.2.2.2.2.2
  refine⟨.ref s.heap.objs.size,_,I2,U,⟨_,x,y,U,fresh,U,λ xs' h=>by rw[I.tuple_inj h hq1];exact hx,λ ys' h=>by rw[I.list_inj h hq2];exact hy⟩,?_,λ c hc=>?_⟩
  ·exact⟨hz'',sb.extBut _ _ D.TIz a0,⟨_,_,sb.extBut _ _ D.TOz a2⟩,a3.extBut sb.extBut D.i1z,a4.extBut sb.extBut D.i2z⟩
  ·have q:c≠s.heap.objs.size:=by
    obtain⟨_,hTI,⟨_,_,hTO⟩,⟨o1,e1,_⟩,⟨o2,e2,_⟩⟩:=st
    simp only[zah,zaw,or_false] at hc
    rcases hc with rfl|rfl|rfl|rfl|rfl
    ·exact zs
    ·exact szn _ _ hTI
    ·exact szn _ _ hTO
    ·exact szn _ _ e1
    ·exact szn _ _ e2
   rw[qap9 q]
   exact(hf c hc).1
 done:=by
  intro X hP hw hK hc i pins s σ H E I hf st hg
  subst hP hw hK
  obtain⟨xs,hq1,hl⟩:=hg
  obtain⟨t1,rv1,p1,hz1⟩:=I.tuple hq1
  have l1:=rv1.length
  refine nextZ_end (I.ok.hd hc) D st (show s.heap.IsTuple a t1.toArray from p1) (by simp;omega) λ h' k=>⟨rfl,?_⟩
  refine I.turnedL (ch:=[z,i1]) (λ c hc=>hf c ?_) (λ c o hc e=>?_) (λ c o e=>e) (λ c o e n=>n) λ c o n e=>by rw[n] at e;cases e
  ·simp only[zah,zaw,or_false] at hc
   rcases hc with rfl|rfl<;>simp
  ·simp only[zah,zaw,or_false,not_or] at hc
   exact k c o hc.1 hc.2 e
 self:=λ _ _ _ _ _ st h=>wpAny_pyIter_zip st.1 h
def iZipT(K:W.Frag)(ta:TA):TI:=λ σ H R=>ta σ H λ vs H1=>∃l1 l2,vs=[.ref l1,.ref l2]/\(∃xs,SqT K H1 l1 xs)/\(∃ys,SqL K H1 l2 ys)/\R (ItzT K l1 l2) H1
theorem pi_zipT{a b:Expr}{ta:TA}(hg:Gl X "zip")(hm:X.mg "zip"=none)(ha:PA X [a,b] ta)(hs:starEach [a,b] X.env=[(false,eval a X.env),(false,eval b X.env)])(hs2:starEach [b] X.env=[(false,eval b X.env)]) :
  PI X (.Tuple es kk tp) (.Call (.Name "zip" p) [a,b] [] pos) (iZipT X.K ta):=by
 intro pins s σ H R I h
 refine Call_ (qoi9 I hg hm boot_zip (PyProof.Rows.callWith_type1 (thn (ha pos pins s σ H _ I h) λ us s1 ⟨vs,H1,I1,r1,q1⟩=>?_) (by rw[hs,hs2]) (by rw[hs2];rfl)))
 obtain⟨l1,l2,e,⟨xs,hq1⟩,⟨ys,hq2⟩,q⟩:=q1
 subst e
 cases r1 with
 |cons r rr =>
  cases rr with
  |cons r' rr =>
   cases rr
   cases r
   cases r'
   obtain⟨t1,rv1,p1,hz1⟩:=I1.tuple hq1
   obtain⟨t2,rv2,p2,hz2⟩:=I1.list hq2
   have p1:s1.heap.IsTuple l1 t1.toArray:=p1
   have lt1:l1<s1.heap.objs.size:=by obtain⟨_,e,_⟩:=p1;exact zas e
   have lt2:l2<s1.heap.objs.size:=by obtain⟨_,e,_⟩:=p2.isList;exact zas e
   refine call_zipT p1 p2.isList λ h' Z k=>wpAny_pyIter_zip Z.hz ?_
   refine⟨s1.heap.objs.size+4,[s1.heap.objs.size+4,s1.heap.objs.size+2,s1.heap.objs.size+3,s1.heap.objs.size,s1.heap.objs.size+1],_,_,H1,U,I1.kept (t':=s1.toks) k,turn_zipT (zipApart_new lt1 lt2),Z,λ c hc=>?_,q⟩
   have ge:s1.heap.objs.size<=c:=by
    simp only[zah,zaw,or_false] at hc
    rcases hc with rfl|rfl|rfl|rfl|rfl<;>omega
   exact I1.fpOk ge (I1.hok.fresh ge)
theorem qi_zipT{a b:Expr}{ta:TA}{p pos tp:Pos}{es:List Expr}{kk:Nat}(hg:Gl X "zip")(hm:X.mg "zip"=none)(ha:QA X [a,b] ta)(h:qbj9 a=true:=by rfl)(h2:qbj9 b=true:=by rfl) :
  QI X (.Tuple es kk tp) (.Call (.Name "zip" p) [a,b] [] pos) (iZipT X.K ta):=⟨pi_zipT hg hm ha.run (by rw[se_of h,se_of h2];rfl) (by rw[se_of h2];rfl)⟩
theorem for_zipT{b:Addr}{xs ys:List V}{g:TG}{tb:TS}{D:Ends}(hn:xs.length=ys.length)(Pv:Nat->St->Hp->Prop)(h0:Pv 0 σ H)(hl:∀i σ H,i<=xs.length->Pv i σ H->SqT K H a xs/\SqL K H b ys)
  (hs:∀i x y p σ H,xs[i]?=some x->ys[i]?=some y->Pv i σ H->H p=none->g (.ref p) σ (upd H p (.tup [x,y])) λ σ2 H2=>tb { D with nx:=Pv (i+1),ct:=Pv (i+1),bk:=D.nx } σ2 H2) (hd:∀σ H,Pv xs.length σ H->D.nx σ H) :
  ∃W:Nat->Nat->St->Hp->Prop,(∃m,W 0 m σ H)/\∀i m σ H,W i m σ H ->
   ((ItzT K a b).stop i H/\D.nx σ H)\/((ItzT K a b).go i H/\∃N:St->Hp->Prop,(∀σ' H',N σ' H'->∃m',m'<m/\W (i+1) m' σ' H')/\∀x H',(ItzT K a b).yld i H x H'->g x σ H' λ σ2 H2=>tb { D with nx:=N,ct:=N,bk:=D.nx } σ2 H2):=by
 refine⟨λ i m σ H=>m=xs.length-i/\i<=xs.length/\Pv i σ H,⟨xs.length,by simp,zbt _,h0⟩,?_⟩
 intro i m σ H z9;obtain⟨rfl,hi,p⟩ := z9
 obtain⟨q1,q2⟩:=hl i σ H hi p
 by_cases hlt:i<xs.length
 ·have i2:i<ys.length:=⋯
  refine .inr ⟨⟨xs,ys,xs[i],ys[i],q1,q2,by simp[hlt],by simp[i2]⟩,Pv (i+1),λ σ' H' p'=>⟨xs.length-(i+1),⋯,rfl,hlt,p'⟩,λ v H3 y=>?_⟩
  obtain⟨c,x,y,e,fr,e2,y1,y2⟩:=y
  subst e e2
  exact hs i x y c σ _ (y1 xs q1) (y2 ys q2) p fr
 ·have e:i=xs.length:=⋯
  subst e
  exact .inl ⟨⟨xs,q1,zao _⟩,hd σ H p⟩
theorem ext_tup(l:Addr)(items:Array Value)(n:Nat)(b:Addr)(od:Option Addr)(items2:Array Value)(n2:Nat)(sl:Array (Option Value))(h0:¬(!items.isEmpty&&Builtin.List.listTooLong (items.size+items2.size))=true)(h1:items.size<=sizeLine)(h2:items.size+items2.size<=sizeLine+1) :
  Meets (Builtin.«list.extend» ⟨[.ref l,.ref b],[]⟩) (λ _ R s=>s.heap.get? l=some ⟨.type "list",none,.seq items n,#[]⟩/\s.heap.get? b=some ⟨.type "tuple",od,.seq items2 n2,sl⟩/\R (.ok (.ret Value.none)) { s with heap:=s.heap.update l (Obj.mapSeq λ x=>x++items2),toks:=s.toks }) :=
 .of_wp λ prog w A R s h=>by
  obtain⟨hp,g,d,tk,os⟩:=s
  obtain⟨hl,hb,h⟩:=h
  have f2:=AutoSeq1.sub_tuple_tuple
  have f3:=AutoSeq1.sub_list_list
  have f4:=AutoSeq1.sub_tuple_list
  have f5:=AutoSeq1.sub_list_tuple
  have hz':(items++items2).size<=sizeLine+1:=by rw[Array.size_append];exact h2
  wp_walk using (wpAny_updateSeq hl rfl (hz:=h1) (_hz':=hz')),AutoSeq1.wpAny_loadPart' hl,AutoSeq1.wpAny_loadPart' hb
  exact⟨_,U,h⟩
section
variable {o:Expr}{to:TE}
inductive rExtT(K:W.Frag)(x:V)(vs:List V)(H:Hp)(Q:VK):Prop
 |mk (l:_) (b:_) (xs:_) (zs:_):x=.ref l->vs=[.ref b]->H l=some (.lst xs)->SqT K H b zs->xs.length+zs.length<=sizeLine->Q .non (upd H l (.lst (xs++zs)))->rExtT K x vs H Q
theorem mt_extT:MtM X "list.extend" (rExtT X.K):=by
 intro pins s σ H x vs v us Q I rx rv h
 obtain⟨l,b,xs,zs,rfl,rfl,hH,hB,hz,q⟩:=h
 cases rx
 obtain⟨u,rfl,ru⟩:=rv.one
 cases ru
 obtain⟨z,its,n,r,hl,e⟩:=I.lstM hH
 obtain⟨its2,r2,⟨⟨c2,od,dt,sl⟩,e2,hc2,n2,hd2⟩,z2⟩:=I.tuple hB
 simp only at hc2 hd2
 subst hc2 hd2
 have hl2:=r2.length
 have hsz:its.toArray.size+its2.toArray.size<=sizeLine:=by rw[zax,zax];omega
 have hlong:¬(!its.toArray.isEmpty&&Builtin.List.listTooLong (its.toArray.size+its2.toArray.size))=true:=by
  rw[qpk9 hsz,zha]
  exact zaz
 refine call_meets F.slot_list_extend ⟨_,e,rfl⟩ F.entry_list_extend (F.args_list_extend_2 _ _) (ext_tup l its.toArray n b od its2.toArray n2 sl hlong (by rw[zax];omega) ⋯) ⟨e,e2,?_⟩
 refine⟨.non,_,I.lset (its':=its++its2) hH e (by simp) (r.append r2) ?_,U,q⟩
 rw[zam]
 omega
theorem qe_extT(ho:QE X o to)(ha:QA X [e] t)(h:qbj9 e=true:=by rfl)(hbase:attributeBase o "extend" X.env (eval o X.env)=eval o X.env:=by rfl)(hline:(apos.endLine==pos.line)=true:=by rfl) :
  QE X (.Call (.Attribute o "extend" apos) [e] [] pos) (tBM X.K "list" (rExtT X.K) to t) :=
 ⟨pe_bm PySem.F.plainAttrs_list PySem.F.slot_list_extend PySem.F.type_list_extend mt_extT ho.run ha.run hbase (by rw[se_of h];rfl) hline (se_of h) rfl⟩
inductive rStarts(x:V)(vs:List V)(H:Hp)(Q:VK):Prop
 |mk (z y:Str):x=.str z->vs=[.str y]->Q (.bl (Txt.startswith z y)) H->rStarts x vs H Q
theorem mt_starts:MtR X "str.startswith" rStarts:=by
 intro pins s σ H x vs v us Q I rx rv h
 obtain⟨z,y,rfl,rfl,q⟩:=h
 obtain⟨t,rfl⟩:=rx
 obtain⟨u',rfl,u,rfl⟩:=vals1 rv
 exact SC.startswith ⟨.bl _,H,I,rfl,q⟩
theorem qe_starts(ho:QE X o to)(ha:QA X [e] t)(h:qbj9 e=true:=by rfl)(hbase:attributeBase o "startswith" X.env (eval o X.env)=eval o X.env:=by rfl)(hline:(apos.endLine==pos.line)=true:=by rfl) :
  QE X (.Call (.Attribute o "startswith" apos) [e] [] pos) (tBM X.K "str" rStarts to t) :=
 ⟨pe_bm PySem.F.plainAttrs_str PySem.F.slot_str_startswith PySem.F.type_str_startswith mt_starts ho.run ha.run hbase (by rw[se_of h];rfl) hline (se_of h) rfl⟩
end
structure KDict(K:W.Frag)(P:Params)(a:Addr)(kvs:List (Str×Tok×Value)):Prop where
 at_:∃ep,K.lookup a=some ⟨.type "dict",none,.dict (kvs.map λ q=>(⟨PyData.keyHash P q.1,.str q.1 q.2.1,q.2.2⟩:DictEntry)).toArray ep,#[]⟩
 nd:(kvs.map (·.1)).Nodup
 ns:(a==sysModules)=false
def kdVal(kvs:List (Str×Tok×Value))(x:Str):Option Value:=(kvs.find? λ q=>decide (q.1=x)).map (·.2.2)
theorem kd_val(x:Str):∀kvs:List (Str×Tok×Value),valueAt (kvs.map λ q=>((Sum.inr q.1:Key),q.2.2)) (Sum.inr x)=kdVal kvs x
 | []=>rfl
 |q::kvs=>by
  have ih:=kd_val x kvs
  unfold valueAt kdVal at *
  rw[zcg,zgy,zgy]
  by_cases e:q.1=x
  ·simp[e]
  ·have e':¬((Sum.inr q.1:Key)=Sum.inr x):=λ z=>e (by injection z)
   simp only[decide_eq_false e,decide_eq_false e']
   exact ih
section
variable {pins:List (Addr×Obj)}{kvs:List (Str×Tok×Value)}
theorem KDict.of(h:KDict X.K X.w.params a kvs)(I:Inv X pins σ H s):s.heap.DictOf (qiq9 X.prog X.w) a (kvs.map λ q=>((Sum.inr q.1:Key),q.2.2)):=by
 obtain⟨⟨ep,e⟩,nd,_⟩:=h
 refine⟨_,_,ep,I.kIn a _ e,⟨U,U,U⟩,U,λ x hx=>?_,?_,?_⟩
 ·obtain⟨q,_,rfl⟩:=zat.mp (List.mem_toArray.mp hx)
  exact⟨Sum.inr q.1,qhm9 _ _ _ _,U⟩
 ·rw[List.toList_toArray]
  clear e nd
  induction kvs with
  |nil=>exact .nil
  |cons q kvs ih=>exact .cons (qhm9 _ _ _ _) rfl ih
 ·rw[zdz]
  have:((λ x:Key×Value=>x.1)∘λ q:Str×Tok×Value=>((Sum.inr q.1:Key),q.2.2))=Sum.inr∘λ q:Str×Tok×Value=>q.1:=rfl
  rw[this,<- zdz]
  exact List.Pairwise.map _ (λ _ _ h z=>h (by injection z)) nd
end
section
variable {i:Expr}{n:Str}{cpos:Pos}{ty:TE}{kvs:List (Str×Tok×Value)}
def tKGet(kvs:List (Str×Tok×Value))(ty:TE):TE:=λ σ H Q=>ty σ H λ y H1=>∃x u v,y=.str x/\kdVal kvs x=some u/\RelV v u/\Q v H1
def tKGet1(kvs:List (Str×Tok×Value))(ty:TE):TE:=λ σ H Q=>ty σ H λ y H1=>∃x v,y=.str x/\RelV v ((kdVal kvs x).getD .none)/\Q v H1
theorem pe_kget(hD:KDict X.K X.w.params a kvs)(hg:Gl X n)(hm:X.mg n=some (.ref a))(hi:PE X i ty)(hs:NoSl i)(hd:(n==("__debug__":Str))=false):PE X (.Subscript (.Name n p) i pos) (tKGet kvs ty):=by
 intro pins s σ H Q I h
 refine subD_of PySem.F.slot_dict_getitem.lookup hs (thn (qny9 (v:=.ref a) hg hm rfl hd pins s σ H (λ v H'=>v=.ref a/\H'=H) I ⟨rfl,rfl⟩) λ u s1 z9=>?_)
 obtain⟨x,H1,I1,rx,ex,eH⟩ := z9
 subst ex eH
 obtain rfl:u=Value.ref a:=rx
 refine thn (hi pins s1 σ H1 _ I1 h) λ iv s2 z9=>?_
 obtain⟨y,H2,I2,ry,x,u,v,ey,hv,rv,q⟩ := z9
 subst ey
 have dd:=hD.of I2
 refine⟨dd.typeIs,wpAny_getItem_of (kV_is (k:=Sum.inr x) ry) dd.mapOf (kd_val x kvs ▸ hv) ⟨v,H2,I2.tok _,rv,q⟩⟩
theorem pe_kget1(hD:KDict X.K X.w.params a kvs)(hg:Gl X n)(hm:X.mg n=some (.ref a))(he:PE X e ty)(m:M1 X (.Name n p) "get" apos e cpos)(hd:(n==("__debug__":Str))=false):PE X (.Call (.Attribute (.Name n p) "get" apos) [e] [] cpos) (tKGet1 kvs ty):=by
 intro pins s σ H Q I h
 refine wpAny_Call_method m.base m.few m.line PySem.F.plainAttrs_dict PySem.F.slot_dict_get PySem.F.type_dict_get (thn (qny9 (v:=.ref a) hg hm rfl hd pins s σ H (λ v H'=>v=.ref a/\H'=H) I ⟨rfl,rfl⟩) λ u s1 z9=>?_)
 obtain⟨x,H1,I1,rx,ex,eH⟩ := z9
 subst ex eH
 obtain rfl:u=Value.ref a:=rx
 have d1:=hD.of I1
 refine⟨d1.typeIs,d1.mapOf.noDict,?_⟩
 rw[m.trees]
 refine Calls.callWith_builtin rfl (Calls.evalArgs_plain (Calls.spliced_cons (thn (he pins s1 σ H1 _ I1 h) λ iv s2 ⟨y,H2,I2,ry,x,v,ey,rv,q⟩=>Calls.spliced_nil ?_)))
 subst ey
 have dd:=hD.of I2
 refine call_meetsIn PySem.F.slot_dict_get dd.typeIs PySem.F.entry_dict_get (PySem.F.args_dict_get_2 _ _) (meets_dict_get (qiq9 X.prog X.w) a (kV_is (k:=Sum.inr x) ry) hD.ns) ⟨_,dd.mapOf,v,H2,I2.tok _,?_,q⟩
 rw[kd_val]
 exact rv
theorem qe_kget(hD:KDict X.K X.w.params a kvs)(hg:Gl X n)(hm:X.mg n=some (.ref a))(hi:QE X i ty)(hs:NoSl i)(hd:(n==("__debug__":Str))=false:=by decide):QE X (.Subscript (.Name n p) i pos) (tKGet kvs ty):=⟨pe_kget hD hg hm hi.run hs hd⟩
theorem qe_kget1(hD:KDict X.K X.w.params a kvs)(hg:Gl X n)(hm:X.mg n=some (.ref a))(he:QE X e ty)(m:M1 X (.Name n p) "get" apos e cpos)(hd:(n==("__debug__":Str))=false:=by decide):QE X (.Call (.Attribute (.Name n p) "get" apos) [e] [] cpos) (tKGet1 kvs ty):=⟨pe_kget1 hD hg hm he.run m hd⟩
end
def Ans(P:Program)(w:World)(K:W.Frag)(mg:Str->Option Value)(base:Heap)(CX:CXT)(k:Nat)(ps:List Str)(f:Addr)(sp:Sp):Prop:=∃fd,FnOk P w K mg base CX k f fd ps sp/\Binds K fd ps []/\∃oc od sl,K.lookup f=some ⟨oc,od,.func fd,sl⟩
inductive tAns(i:Nat)(L:List (Addr×Sp))(E:XK)(t:TA)(σ:St)(H:Hp)(Q:VK):Prop
 |mk (f:_) (sp:_):(f,sp)∈L->σ[i]?=some (some (.ref f))->(t σ H λ vs H1=>sp (vs++[]) H1 Q E)->tAns i L E t σ H Q
section
variable {L:List (Addr×Sp)}{E:XK}{CX:CXT}
theorem pe_ans(i:Nat)(G:∀q∈L,Ans X.prog X.w X.K X.mg X.base CX k ps q.1 q.2)(hr:Room k X.A)(hx:qkp9 CX X E)(ha:PA X (e::es) t)(hN:X.N[i]?=some x)
  (hv:Vis X.env.scope x) (hd:(x==("__debug__":Str))=false) (hcd:(x==("__classdict__":Str))=false)
  (he:starEach (e::es) X.env=(false,eval e X.env)::starEach es X.env) (hpl:(backTo pos (starEach es X.env)).any (·.1)=false) :
  PE X (.Call (.Name x p) (e::es) [] pos) (tAns i L E t):=by
 intro pins s σ H Q I h
 obtain⟨f,sp,hm,hσ,h⟩:=h
 obtain⟨fd,F,hb,oc,od,sl,lk⟩:=G _ hm
 have fa:∀{H':Hp}{s':Shared},Inv X pins σ H' s'->W.FnAt f s'.heap:=λ J=>⟨oc,od,fd,sl,J.kIn _ _ lk⟩
 refine wpAny_Call_Name_kw (thn (pe_var (pos:=p) hN hv hd hcd pins s σ H (λ v H'=>v=.ref f/\H'=H) I ⟨_,hσ,rfl,rfl⟩) λ u s1 z9=>?_)
 obtain⟨v,H',I1,r,e1,e2⟩ := z9
 subst e1 e2
 cases r
 refine W.callWith_F (fa I1) (thn (ha pos pins s1 σ H' _ I1 h) λ us s2 ⟨vs,H2,I2,r2,q⟩=>⟨fa I2,?_⟩) he hpl
 exact run_fn F hr hb .nil hx I2 r2 q
theorem qe_ans(i:Nat)(G:∀q∈L,Ans X.prog X.w X.K X.mg X.base CX k ps q.1 q.2)(hr:Room k X.A)(hx:qkp9 CX X E)(ha:QA X (e::es) t)(hN:X.N[i]?=some x:=by rfl)
  (hv:Vis X.env.scope x:=by first|exact zaf rfl|exact zcr (zaf rfl)|exact zcr (zcr rfl)) (hd:(x==("__debug__":Str))=false:=by decide) (hcd:(x==("__classdict__":Str))=false:=by decide)
  (h:qbj9 e=true:=by rfl) (hpl:es.all qbj9=true:=by rfl) :
  QE X (.Call (.Name x p) (e::es) [] pos) (tAns i L E t):=⟨pe_ans i G hr hx ha.run hN hv hd hcd (se_of h) (qmp9 hpl)⟩
end
section
variable {f:Str}{ta:TE}
theorem qe_fldK(K:W.Frag)(hK:X.K=K)(he:QE X e ta)(hb:attributeBase e f X.env (eval e X.env)=eval e X.env:=by rfl):QE X (.Attribute e f pos) (tFld K ta f):=by
 subst hK
 exact qiy9 he hb
theorem qop_inLK(K:W.Frag)(hK:X.K=K):QOp X (compareOp .In) (rIn K false):=by
 subst hK
 exact⟨qnp9⟩
theorem qop_inL:QOp X (compareOp .In) (rIn X.K false):=⟨qnp9⟩
end
theorem for_str{g:TG}{tb:TS}{D:Ends}(Pv:Nat->St->Hp->Prop)(h0:Pv 0 σ H)
  (hs:∀i c σ H,x.cps[i]?=some c->Pv i σ H->g (.str ⟨#[c]⟩) σ H λ σ2 H2=>tb { D with nx:=Pv (i+1),ct:=Pv (i+1),bk:=D.nx } σ2 H2) (hd:∀σ H,Pv x.length σ H->D.nx σ H) :
  ∃W:Nat->Nat->St->Hp->Prop,(∃m,W 0 m σ H)/\∀i m σ H,W i m σ H ->
   ((Its x).stop i H/\D.nx σ H)\/((Its x).go i H/\∃N:St->Hp->Prop,(∀σ' H',N σ' H'->∃m',m'<m/\W (i+1) m' σ' H')/\∀v H',(Its x).yld i H v H'->g v σ H' λ σ2 H2=>tb { D with nx:=N,ct:=N,bk:=D.nx } σ2 H2):=by
 refine⟨λ i m σ H=>m=x.length-i/\i<=x.length/\Pv i σ H,⟨x.length,by simp,zbt _,h0⟩,?_⟩
 intro i m σ H z9;obtain⟨rfl,hi,p⟩ := z9
 by_cases hlt:i<x.length
 ·refine .inr ⟨hlt,Pv (i+1),λ σ' H' p'=>⟨x.length-(i+1),⋯,rfl,hlt,p'⟩,λ v H3 y=>?_⟩
  obtain⟨rfl,c,hc,rfl⟩:=y
  have:=hs i c σ H3 hc p
  refine(?_:g _ _ _ _)
  exact this
 ·have e:i=x.length:=⋯
  subst e
  exact .inl ⟨rfl,hd σ H p⟩
section
variable {p2:Pos}{st:Expr}{te:TE}{ts:TO}
theorem qlh9:OpR X (compareOp .NotIn) (λ x y H Q=>∃(c:Nat)(j:Str),x=.str ⟨#[c]⟩/\y=.str j/\Q (.bl (!decide (c∈j.cps.toList))) H):=by
 intro pins s σ H x y v u Q I rx ry h
 obtain⟨c,j,rfl,rfl,q⟩:=h
 obtain⟨t,rfl⟩:=rx
 obtain⟨t',rfl⟩:=ry
 rw[<- StrLaws.found_one] at q
 exact PyProof.Rows.notIn_str ⟨.bl _,H,I,rfl,q⟩
theorem qse9:QOp X (compareOp .NotIn) (λ x y H Q=>∃(c:Nat)(j:Str),x=.str ⟨#[c]⟩/\y=.str j/\Q (.bl (!decide (c∈j.cps.toList))) H):=⟨qlh9⟩
end
end L2
namespace My
open PySem L2
open PyProof.Rows (toString_length_le)
open Ma (T3 T4 rA rB rC)
variable {C P0 c' c1 c2 cy fl g p r:Addr}{osl:Array (Option Value)}{fd fdl gd:FuncData}{base:Heap}{H H' H1:Hp}{T:Hp->Prop}{a b d day j q size t:Int}{S:Int->Prop}{kvS:List (Str×Tok×Value)}{rs:List Addr}{names ts ys:List Str}{R:List T3}{vs xs zs:List V}{us:List Value}{c i k n:Nat}{an od:Option Addr}{o:Option Int}{pos:Pos}{P:Program}{e qual s sep x y y1 y2 z:Str}{mg:Str->Option Value}{v:V}{Q:VK}{ct ctv doc oc pm:Value}{K:W.Frag}{w:World}
theorem sC9{N p:List Str}{s:Scope}(h:FnScope N p s:=by exact⟨rfl,rfl,rfl,by decide +kernel,rfl,by decide +kernel,by decide +kernel⟩):FnScope N p s:=h
theorem qoj9:FnScope ["thing"] ["thing"] (qaa9 qec9):=sC9
theorem qlx9:FnScope ["day","thing"] ["day","thing"] (qaa9 qdm9):=sC9
theorem qot9:FnScope ["day","thing"] ["day","thing"] (qaa9 qeo9):=sC9
theorem sc_next_open:FnScope ["day","window","t","hour","midnight"] ["day","window","t"] (qaa9 qds9):=sC9
theorem sc_last_open:FnScope ["day","window","t","hour","midnight"] ["day","window","t"] (qaa9 qdl9):=sC9
theorem qmh9:FnScope ["count","thing"] ["count","thing"] (qaa9 qdn9):=sC9
theorem qqm9:FnScope ["day","size","thing"] ["day","size","thing"] (qaa9 qfa9):=sC9
theorem sc_is_net:FnScope ["day","size","roads"] ["day","size","roads"] (qaa9 qgk9):=sC9
theorem qor9:FnScope ["day","size","roads"] ["day","size","roads"] (qaa9 qen9):=sC9
theorem qlc9:FnScope ["size","thing"] ["size","thing"] (qaa9 qda9):=sC9
theorem sc_first_where:FnScope ["clock","holds","low","high","middle"] ["clock","holds"] (qaa9 qaw9):=sC9
theorem sc_set_off:FnScope ["day","clock","t","hour","number","found","x"] ["day","clock","t"] (qaa9 qbp9):=sC9
theorem sc_come:FnScope ["day","clock","t","departure"] ["day","clock","t"] (qaa9 qjj9):=sC9
theorem sc_leave:FnScope ["day","clock","s","start","hour","number","found"] ["day","clock","s"] (qaa9 qdk9):=sC9
theorem qol9:FnScope ["day"] ["day"] (qaa9 qeh9):=sC9
theorem sc_stretches:FnScope ["day","clock","rows","p","a","b","c"] ["day","clock"] (qaa9 qdt9):=sC9
theorem qlt9:FnScope ["row"] ["row"] (qaa9 qdb9):=sC9
theorem qll9:FnScope ["row"] ["row"] (qaa9 qdd9):=sC9
theorem sc_overlay:FnScope ["day","one","other","ones","others","rows","k","j","p","q"] ["day","one","other"] (qaa9 qfe9):=sC9
theorem qle9:FnScope ["clock","a","b","c"] ["clock","a","b","c"] (qaa9 qdc9):=sC9
theorem sc_clock_from:FnScope ["day","rows","clock","k","row","following","q","v"] ["day","rows"] (qaa9 qcz9):=sC9
theorem sc_picked:FnScope ["p","q","waiting","riding","late","cut","ahead","then"] ["p","q","waiting","riding","late"] (qaa9 qgj9):=sC9
theorem sc_joined:FnScope ["day","one","other","late","rows","p","q","still","v","other_still","other_v"] ["day","one","other","late"] (qaa9 qgh9):=sC9
theorem sc_sooner:FnScope ["day","one","other"] ["day","one","other"] (qaa9 qge9):=sC9
theorem sc_ridden:FnScope ["day","p","q","ride","others","hour","midnight","k","rows","end"] ["day","p","q","ride","others"] (qaa9 qco9):=sC9
theorem sc_behind:FnScope ["day","one","other","others","rows","p","q","still","v"] ["day","one","other"] (qaa9 qgg9):=sC9
theorem sc_clock_within:FnScope ["day","board","half"] ["day","board"] (qaa9 qbn9):=sC9
theorem qox9:FnScope ["day","board"] ["day","board"] (qaa9 qej9):=sC9
theorem qop9:FnScope ["day","roads"] ["day","roads"] (qaa9 qeb9):=sC9
theorem qrk9:FnScope ["day","size","place"] ["day","size","place"] (qaa9 qfi9):=sC9
theorem qjb9:FnScope ["told"] ["told"] (qaa9 qby9):=sC9
theorem sc_grown:FnScope ["day","size","place","step","found"] ["day","size","place","step"] (qaa9 qfn9):=sC9
theorem sc_ride_first:FnScope ["day","fords","told","found","start","end","ford"] ["day","fords","told"] (qaa9 qcy9):=sC9
theorem sc_rounds_to:FnScope ["day","size","roads","goal","fords"] ["day","size","roads","goal"] (qaa9 qbi9):=sC9
theorem sc_rounds:FnScope ["day","size","roads","goal"] ["day","size","roads","goal"] (qaa9 qgd9):=sC9
theorem sc_table:FnScope ["day","size","roads","goal"] ["day","size","roads","goal"] (qaa9 qhu9):=sC9
theorem qju9:FnScope ["text","most_figures"] ["text","most_figures"] (qaa9 qbu9):=sC9
theorem qsd9:FnScope ["text"] ["text"] (qaa9 qfd9):=sC9
theorem sc_read_ends:FnScope ["text","parts"] ["text"] (qaa9 qdu9):=sC9
theorem sc_read_span:FnScope ["text","parts","a","b"] ["text"] (qaa9 qdi9):=sC9
theorem sc_read_window:FnScope ["day","text","parts","span","ride","window"] ["day","text"] (qaa9 qck9):=sC9
theorem sc_read_day:FnScope ["text","parts","day"] ["text"] (qaa9 qem9):=sC9
theorem sc_read_board:FnScope ["day","words","board"] ["day","words"] (qaa9 qcw9):=sC9
theorem qmj9:FnScope ["names","name"] ["names","name"] (qaa9 qdr9):=sC9
theorem sc_read_net:FnScope ["text","parts","day","names","roads","part","words","ends","board","start"] ["text"] (qaa9 qef9):=sC9
theorem qkb9:FnScope ["a","b","c"] ["a","b","c"] (qaa9 qcm9):=sC9
theorem qkw9:FnScope ["board"] ["board"] (qaa9 qde9):=sC9
theorem sc_show_road:FnScope ["start","end","board","windows"] ["start","end","board"] (qaa9 qdj9):=sC9
theorem qoq9:FnScope ["day","names","roads"] ["day","names","roads"] (qaa9 qek9):=sC9
theorem qoy9:FnScope ["words"] ["words"] (qaa9 qel9):=sC9
theorem sc_read_moment:FnScope ["word","moment"] ["word"] (qaa9 qcn9):=sC9
theorem sc_read_turns:FnScope ["word","turns"] ["word"] (qaa9 qct9):=sC9
theorem qls9:FnScope ["kind","word"] ["kind","word"] (qaa9 qcv9):=sC9
theorem qld9:FnScope ["day","kind","word"] ["day","kind","word"] (qaa9 qdf9):=sC9
theorem sc_read_row:FnScope ["day","row","words","shape","names","values","kind","word","named","found"] ["day","row"] (qaa9 qed9):=sC9
theorem sc_longest:FnScope ["day","clock","found","row","wait"] ["day","clock"] (qaa9 qfb9):=sC9
theorem sc_shown:FnScope ["moment"] ["moment"] (qaa9 qht9):=sC9
theorem qik9:FnScope ["desk","places"] ["desk","places"] (qaa9 qbq9):=sC9
theorem qkl9:FnScope ["desk","places","values"] ["desk","places","values"] (qaa9 qbv9):=sC9
theorem qks9:FnScope ["desk","places","values"] ["desk","places","values"] (qaa9 qcd9):=sC9
theorem sc_longest_row:FnScope ["desk","places","values","found"] ["desk","places","values"] (qaa9 qbx9):=sC9
theorem qqa9:FnScope ["desk","places","values"] ["desk","places","values"] (qaa9 qep9):=sC9
theorem qja9:FnScope ["script","k"] ["script","k"] (qaa9 qbz9):=sC9
theorem qpa9:FnScope ["cell"] ["cell"] (qaa9 qee9):=sC9
theorem sc__law_way:FnScope ["day","cell","y","z","a","b","wide"] ["day","cell"] (qaa9 qei9):=sC9
theorem sc__law_net:FnScope ["script","start","cell","mixed","day","size","many","turn","roads","k","way","road","spot","at"] ["script","start"] (qaa9 qeg9):=sC9
theorem sc__law_names:FnScope ["cell","size","some","mixed","ahead","k","beyond"] ["cell","size"] (qaa9 qcx9):=sC9
theorem sc__law_window_text:FnScope ["window","a","b","c"] ["window"] (qaa9 qbk9):=sC9
theorem sc__law_text:FnScope ["day","names","roads","text","start","other","board","window"] ["day","names","roads"] (qaa9 qdp9):=sC9
theorem sc__law_ends:FnScope ["roads","goal","cell","known","start","other","board","place","size","k"] ["roads","goal","cell"] (qaa9 qdq9):=sC9
theorem sc__law_number:FnScope ["text","figures","sign"] ["text"] (qaa9 qcl9):=sC9
theorem sc__law_turned:FnScope ["day","roads","found","start","other","board","rows","a","b","c","first","last"] ["day","roads"] (qaa9 qcg9):=sC9
theorem sc__law_mirrored:FnScope ["found","beside","one","other"] ["found","beside"] (qaa9 qbs9):=sC9
theorem sc__law_waits:FnScope ["found","beside","one","other"] ["found","beside"] (qaa9 qcu9):=sC9
theorem sc_law:FnScope ["script","day","size","roads","goal","names","desk","back","place","t","forth","home"] ["script"] (qaa9 qje9):=sC9
theorem sc_Desk___init__:FnScope ["self","text","told"] ["self","text"] (qaa9 qbg9):=sC9
theorem sc_Desk_say:FnScope ["self","row","found","answer"] ["self","row"] (qaa9 qcj9):=sC9
theorem qbb9{o:HO}{G:Hp->Prop}(h:H p=none)(k:∀H1,Same H H1->H1 p=some o->G H1):∀H1,upd H p o=H1->G H1:=λ _ e=>e ▸ k _ (qqj9 h rfl).1 (qqj9 h rfl).2
theorem bl_1(h:us.length=1):∃a0:Value,us=[a0]:=match us,h with | [_],_=>⟨_,rfl⟩
theorem bl_2(h:us.length=2):∃a0 a1:Value,us=[a0,a1]:=by
 cases us with
 |nil=>cases h
 |cons _ t =>
  obtain⟨_,rfl⟩:=bl_1 (us:=t) (Nat.succ.inj h)
  exact⟨_,_,U⟩
theorem bl_3(h:us.length=3):∃a0 a1 a2:Value,us=[a0,a1,a2]:=by
 cases us with
 |nil=>cases h
 |cons _ t =>
  obtain⟨_,_,rfl⟩:=bl_2 (us:=t) (Nat.succ.inj h)
  exact⟨_,_,_,U⟩
theorem bl_4(h:us.length=4):∃a0 a1 a2 a3:Value,us=[a0,a1,a2,a3]:=by
 cases us with
 |nil=>cases h
 |cons _ t =>
  obtain⟨_,_,_,rfl⟩:=bl_3 (us:=t) (Nat.succ.inj h)
  exact⟨_,_,_,_,U⟩
theorem bl_5(h:us.length=5):∃a0 a1 a2 a3 a4:Value,us=[a0,a1,a2,a3,a4]:=by
 cases us with
 |nil=>cases h
 |cons _ t =>
  obtain⟨_,_,_,_,rfl⟩:=bl_4 (us:=t) (Nat.succ.inj h)
  exact⟨_,_,_,_,_,U⟩
inductive spLaw(K:W.Frag)(tabs:List (Addr×Addr))(vs:List V)(H:Hp)(Q:VK)(z3q:XK):Prop
 |mk (a:Addr) (ns:List Int):vs=[.ref a]->SqL K H a (ns.map V.int)->ns.length<=63->((∀t∈tabs,H t.2=some (.tbl #[])))->(∀H',Q (.bl true) H')->spLaw K tabs vs H Q z3q
theorem qet9(x:Int){m:Int}(h:0<m):0<=x%m/\x%m<m:=⟨zbr x ⋯,zbk x h⟩
structure Bl(mg:Str->Option Value):Prop where
 len:mg "len"=none
 max:mg "max"=none
 min:mg "min"=none
 all:mg "all"=none
 any:mg "any"=none
 zip:mg "zip"=none
 range:mg "range"=none
 enumerate:mg "enumerate"=none
 isinstance:mg "isinstance"=none
 bool_:mg "bool"=none
 int_:mg "int"=none
 tuple_:mg "tuple"=none
 list_:mg "list"=none
 str_:mg "str"=none
section
variable {f:Addr}
theorem qpb9(F:Fun K "is_whole" "is_whole" qec9 f fd)(B:Bl mg):FnOk P w K mg base CX0 (n+1) f fd ["thing"] spIsWhole:=by
 refine F.okQ qoj9 ?_ ?_
 walk_at "o"
 obtain⟨x,rfl,dv,q⟩:=h
 refine⟨_,(qae9 (qal9 (qhl9 (qe_cb qch9 U B.isinstance qbc9 (qa_c (qv 0) (qa_c (qfh9 (v:=.ty "int") U B.int_ bt_int U) qac9))) (qke9 (qe_not (qe_cb qch9 U B.isinstance qbc9 (qa_c (qv 0) (qa_c (qfh9 (v:=.ty "bool") U B.bool_ bt_bool U) qac9)))))))),?_⟩
 walk_at "d"
 cases dv with
 |non=>exact⟨_,rfl,_,"int",_,_,rfl,.non,rfl,_,rfl,iteF q⟩
 |bl b=>exact⟨_,rfl,_,"int",_,_,rfl,.bl _,rfl,_,rfl,iteT ⟨_,rfl,_,"bool",_,_,rfl,.bl _,rfl,_,rfl,q⟩⟩
 |int i=>exact⟨_,rfl,_,"int",_,_,rfl,.int _,rfl,_,rfl,iteT ⟨_,rfl,_,"bool",_,_,rfl,.int _,rfl,_,rfl,q⟩⟩
 |str z=>exact⟨_,rfl,_,"int",_,_,rfl,.str _,rfl,_,rfl,iteF q⟩
 |lst e=>exact⟨_,rfl,_,"int",_,_,rfl,.lst e,rfl,_,rfl,iteF q⟩
 |tup e=>exact⟨_,rfl,_,"int",_,_,rfl,.tup e,rfl,_,rfl,iteF q⟩
theorem qmm9(F:Fun K "is_window" "is_window" qdm9 f fd)(B:Bl mg)(Cg0:Callee P w K mg base n "is_whole" ["thing"] spIsWhole):FnOk P w K mg base CX0 (n+1) f fd ["day","thing"] spWindow:=by
 refine F.okQ qlx9 ?_ ?_
 walk_at "o"
 obtain⟨day,x,rfl,dv,q⟩:=h
 refine⟨_,(qab9 (qs_if (QW.pt (qw_or (qdv9 (qcb9 (qe_cb qch9 U B.isinstance qbc9 (qa_c (qv 1) (qa_c (qfh9 (v:=.ty "tuple") U B.tuple_ qqp9 U) qac9))))) (qew9 (qaj9 qoo9 (qe_cb qau9 U B.len qce9 (qa_c (qv 1) qac9)) qad9 (qat9 _))))) (qae9 (qal9 qe_bl)) qao9) (qab9 (qs_if (qdv9 (qcb9 (qe_cb (qfm9 U) U B.all qmr9 (qa_c (qer9 ["part"] [none] (BlkOk.of U U (SubL.to subN) U) U (qi_tup (qv 1)) (λ _ _ _ _=>(qam9 (i:=0) (show(["part"]:List Str).Nodup by decide) U (zaf U))) (λ _ _ _ _=>(qe_fn Cg0 hr U (qa_c (qv 0) qac9)))) qac9)))) (qae9 (qal9 qe_bl)) qao9) (qae9 (qal9 (qhl9 (qe_chain3 qgm9 qgm9 qff9 qad9 (qe_ix qan9 (qv 1) qad9 Y9) (qe_ix qan9 (qv 1) qad9 Y9) (qv 0)) (qke9 (qfg9 qop_ge (qe_ix qan9 (qv 1) qad9 Y9) qad9 (qat9 _)))))))),?_⟩
 walk_at "d"
 obtain⟨t,hty,hk⟩:=dv.1.isTup (K:=K)
 have q0:winV H day x=false->∀H',Same H H'->Q (.bl false) H':=λ e H' s=>by
  have:=q H' s
  rw[e] at this
  exact this
 cases ht:tupV H x with
 |none =>
  rw[ht] at hk
  have hw:winV H day x=false:=by unfold winV;rw[ht]
  exact⟨_,U,_,"tuple",t,_,U,hty,hk,_,U,iteT (iteT (q0 hw _ (Same.refl H)))⟩
 |some xs =>
  rw[ht] at hk
  have hwl:winV H day x=winL day xs:=by unfold winV;rw[ht]
  have dz:=dv.2 xs ht
  obtain⟨r,rfl,er⟩:=qlo9 ht
  refine⟨_,U,_,"tuple",t,_,U,hty,hk,_,U,iteF ?_⟩
  refine⟨_,U,r,xs,U,.inr (SqT.of er),U,_,U,?_⟩
  by_cases hl:xs.length=3
  ·obtain⟨u,v,w',rfl⟩:=three hl
   refine iteN (by simp) ?_
   refine⟨_,U,r,U,⟨_,SqT.of er⟩,?_⟩
   refine comp_tup0 (K:=K) (a:=r) (xs:=[u,v,w']) (λ D i H'=>Same H H'/\H' D=some (.lst ((([u,v,w']:List V).take i).map λ y=>V.bl (isWh y)))) (λ D hD=>⟨qar9 hD _,qaf9⟩) (λ D i H' _ _ h=>SqT.of (h.1 _ _ er)) ?_ ?_
   ·intro D i y H' hD hi z9;obtain⟨s2,hD2⟩ := z9
    refine⟨λ k v' e=>?_,_,U,y,U,(dz y (zaj hi)).same s2,_,hD2,(by rw[zad,zbc];exact qie9 (by simp;omega)),λ b o eb=>?_,?_⟩
    ·match k,e with
     |0,e=>cases e
     |k+1,e=>cases e
    ·rw[qap9 (qaz9 eb hD)]
     exact s2 _ _ eb
    ·rw[qaf9,qfj9 _ hi]
   ·intro D H' hD z9;obtain⟨s2,hD2⟩ := z9
    have eD:H' D=some (.lst (([isWh u,isWh v,isWh w']:List Bool).map V.bl)):=hD2
    refine⟨D,_,U,SqL.of eD,_,U,?_⟩
    refine ite2 (λ c=>?_) (λ c=>?_)
    ·refine q0 ?_ H' s2
     rw[hwl]
     have c':(isWh u&&(isWh v&&isWh w'))=false:=by cases hu:isWh u<;>cases hv:isWh v<;>cases hw:isWh w'<;>simp[hu,hv,hw] at c ⊢
     unfold winL
     split
     ·rename_i a b c e
      cases e
      exact absurd c' (by simp[isWh])
     ·rfl
    ·have c':isWh u=true/\isWh v=true/\isWh w'=true:=by simpa using c
     obtain⟨a,rfl⟩:=qin9 c'.1
     obtain⟨b,rfl⟩:=qin9 c'.2.1
     obtain⟨c3,rfl⟩:=qin9 c'.2.2
     have q1:=q H' s2
     rw[hwl] at q1
     have er':=s2 _ _ er
     unfold winL at q1
     dsimp only at q1
     refine⟨_,U,r,_,_,_,U,U,SqT.of er',U,_,_,U,U,_,U,?_⟩
     refine ite2 (λ c1=>?_) (λ c1=>?_)
     ·rw[c1,zee] at q1
      refine⟨_,U,r,_,_,_,U,U,SqT.of er',U,_,_,U,U,_,U,?_⟩
      refine ite2 (λ c2=>?_) (λ c2=>?_)
      ·rw[c2,zee] at q1
       refine⟨_,U,_,_,U,U,_,U,?_⟩
       refine ite2 (λ c3=>?_) (λ c3=>?_)
       ·rw[c3,zee] at q1
        exact⟨_,U,r,_,_,_,U,U,SqT.of er',U,_,_,U,U,q1⟩
       ·rw[zby.mpr c3,zeh] at q1
        exact q1
      ·rw[zby.mpr c2,zeh] at q1
       exact⟨_,U,iteF q1⟩
     ·rw[zby.mpr c1,zeh] at q1
      exact⟨_,U,iteF q1⟩
  ·refine iteP (by simp;omega) (q0 ?_ _ (Same.refl H))
   rw[hwl]
   unfold winL
   split
   ·rename_i e
    exact absurd rfl hl
   ·rfl
theorem qom9(F:Fun K "is_board" "is_board" qeo9 f fd)(B:Bl mg)(Cl0:Callee P w K mg base n "is_window" ["day","thing"] spWindow):FnOk P w K mg base CX0 (n+1) f fd ["day","thing"] spBoard:=by
 refine F.okQ qot9 ?_ ?_
 walk_at "o"
 obtain⟨day,x,rfl,dv,q⟩:=h
 refine⟨_,(qae9 (qal9 (qhl9 (qe_cb qch9 U B.isinstance qbc9 (qa_c (qv 1) (qa_c (qfh9 (v:=.ty "list") U B.list_ qkv9 U) qac9))) (qke9 (qe_cb (qfm9 U) U B.all qmr9 (qa_c (qer9 ["part","day"] [none,some 0] (BlkOk.of U U (SubL.to (subC U subN)) U) U (qcp9 (qv 1)) (λ _ _ _ _=>(qam9 (i:=0) (show(["part","day"]:List Str).Nodup by decide) U (zaf U))) (λ _ _ _ _=>(qe_fn Cl0 hr U (qa_c (qv 1) (qa_c (qv 0) qac9))))) qac9)))))),?_⟩
 walk_at "d"
 obtain⟨t,hty,hk⟩:=dv.1.isLst (K:=K)
 unfold qhx9 at q
 cases ht:lstV H x with
 |none =>
  rw[ht] at hk q
  exact⟨_,U,_,"list",t,_,U,hty,hk,_,U,iteF (q _ (Same.refl H))⟩
 |some xs =>
  rw[ht] at hk q
  obtain⟨hlen,dz⟩:=dv.2 xs ht
  obtain⟨p,rfl,ep⟩:=qlg9 ht
  refine⟨_,U,_,"list",t,_,U,hty,hk,_,U,iteT ?_⟩
  refine⟨_,U,p,U,⟨_,SqL.of ep⟩,?_⟩
  refine qcf9 (K:=K) (a:=p) (xs:=xs) (λ D i H'=>Same H H'/\H' D=some (.lst ((xs.take i).map λ y=>V.bl (winV H day y)))) (λ D hD=>⟨qar9 hD _,qaf9⟩) (λ D i H' _ _ h=>SqL.of (h.1 _ _ ep)) ?_ ?_
  ·intro D i y H' hD hi z9;obtain⟨s2,hD2⟩ := z9
   have d2:=dz y (zaj hi)
   refine⟨λ k v' e=>?_,_,U,_,U,day,y,U,d2.same s2,λ H3 s3=>⟨_,s3 _ _ hD2,(by rw[zad,zbc];exact qie9 ⋯),λ b o eb=>?_,?_⟩⟩
   ·match k,e with
    |0,e=>cases e
    |1,e=>exact e
    |k+2,e=>cases e
   ·rw[qap9 (qaz9 eb hD)]
    exact s3 _ _ (s2 _ _ eb)
   ·rw[qaf9,qfj9 _ hi,d2.1.winV_same s2]
  ·intro D H' hD z9;obtain⟨s2,hD2⟩ := z9
   have eD:H' D=some (.lst ((xs.map (winV H day)).map V.bl)):=by
    rw[hD2,zbj,zdz]
    rfl
   refine⟨D,_,U,SqL.of eD,?_⟩
   have e1:(xs.map (winV H day)).all id=xs.all (winV H day):=by rw[zgs];rfl
   rw[e1]
   exact q H' s2
inductive spStretches(vs:List V)(H:Hp)(Q:VK)(z3q:XK):Prop
 |mk (day:Int) (p:Addr) (R:List T3):vs=[.int day,.ref p]->LA enc3 H p R->R.length<=4000000->(∀(l:Addr)(H':Hp),Same H H'->H l=none->LA enc4 H' l (Ma.strOf day R)->Q (.ref l) H')->spStretches vs H Q z3q
theorem qlv9(F:Fun K "stretches" "stretches" qdt9 f fd)(B:Bl mg):FnOk P w K mg base CX0 (n+1) f fd ["day","clock"] spStretches:=by
 refine F.okQ sc_stretches ?_ ?_
 walk_at "o"
 obtain⟨day,p,R,rfl,hR,hlen,q⟩:=h
 refine⟨_,(qab9 (qai9 (i:=2) sc_stretches.nd U (zaf U) (qdh9 qac9)) (qab9 (qai9 (i:=3) sc_stretches.nd U (zaf U) qad9) (qab9 (qfk9 PassesOwn.never U (qcp9 (qv 1)) (qgx9 U (qaq9 (qam9 (i:=4) sc_stretches.nd U (zaf U)) (qaq9 (qam9 (i:=5) sc_stretches.nd U (zaf U)) (qaq9 (qam9 (i:=6) sc_stretches.nd U (zaf U)) qdz9)))) (qeq9 (qs_if (qaj9 qff9 (qv 3) (qv 4) (qat9 _)) (qae9 (qbm9 (qbh9 (qv 2) (qa_c (qca9 (qa_c (qv 3) (qa_c (qe_op qcc9 (qv 4) qad9) (qa_c qe_bl (qa_c (qe_op qas9 (qv 4) (qv 6)) qac9))))) qac9)))) qao9) (qab9 (qbm9 (qbh9 (qv 2) (qa_c (qca9 (qa_c (qv 4) (qa_c (qv 5) (qa_c qe_bl (qa_c (qv 6) qac9))))) qac9))) (qae9 (qai9 (i:=3) sc_stretches.nd U (zaf U) (qe_op qas9 (qv 5) qad9)))))) (qeq9 (qs_if (qfc9 (QW.pt (qjc9 (qaj9 qhb9 (qe_cb qau9 U B.len qce9 (qa_c (qv 2) qac9)) qad9 (qat9 _)) (qgy9 (qaj9 qff9 (qv 3) (qv 0) (qat9 _)))))) (qae9 (qbm9 (qbh9 (qv 2) (qa_c (qca9 (qa_c (qv 3) (qa_c (qe_op qcc9 (qv 0) qad9) (qa_c qe_bl (qa_c (qe_op qas9 (qe_op qas9 (qv 0) (qe_ix qan9 (qe_ix qak9 (qv 1) qad9 Y9) qad9 Y9)) (qe_ix qan9 (qe_ix qak9 (qv 1) qad9 Y9) qad9 Y9)) qac9))))) qac9)))) qao9) (qae9 (qal9 (qv 2))))))),?_⟩
 walk_at "d"
 refine⟨z09,λ pr hpr=>?_⟩
 have s0:Same H (upd H pr (.lst [])):=qar9 hpr _
 obtain⟨ws,hw1,hw2,hw3⟩:=hR.lst
 refine⟨_,U,p,U,⟨_,SqL.of (s0 _ _ hw1)⟩,qdy9 (K:=K) (a:=p) (xs:=ws)
  (λ i σ H'=>∃(v1 v2 v3:Option V),σ=[some (.int day),some (.ref p),some (.ref pr),some (.int (Ma.stPre (R.take i)).2),v1,v2,v3]/\Same H H'/\LA enc4 H' pr (Ma.stPre (R.take i)).1)
  ⟨_,_,_,rfl,s0,LA.nil qaf9⟩ (λ i σ H' _ z9=>by obtain⟨_,_,_,_,s1,_⟩ := z9;exact SqL.of (s1 _ _ hw1)) ?_ ?_⟩
 ·intro i y σ H1 hi z9;obtain⟨v1,v2,v3,rfl,s1,hL⟩ := z9
  obtain⟨r,x,rfl,ex,er⟩:=hw3 i y hi
  obtain⟨a,b,c⟩:=x
  have er1:=s1 _ _ er
  have hi2:i<R.length:=(zab.mp ex).1
  have et:R.take (i+1)=R.take i++[(a,b,c)]:=by rw[zbw,ex];rfl
  have ln:(Ma.stPre (R.take i)).1.length<=2*i:=by
   have:=(Ma.stPre_len (R.take i)).1
   rw[zbc] at this
   omega
  rw[et,Ma.stPre_snoc]
  unfold Ma.stStep
  generalize (Ma.stPre (R.take i)).1=S at *
  generalize (Ma.stPre (R.take i)).2=pp at *
  refine⟨r,_,U,SqT.of er1,U,_,_,U,_,_,U,_,_,U,U,?_⟩
  refine⟨λ σ' H2=>σ'=[some (.int day),some (.ref p),some (.ref pr),some (.int pp),some (.int a),some (.int b),some (.int c)]/\Same H H2/\LA enc4 H2 pr (if pp<a then S++[(pp,a-1,true,a+c)] else S),?_,?_⟩
  ·refine⟨_,U,_,U,_,_,U,U,_,U,?_⟩
   refine ite2 (λ z=>?_) (λ z=>?_)
   ·rw[if_pos (oT9 z)]
    obtain⟨us,hu1,hu2,hu3⟩:=hL.lst
    refine⟨_,U,.inl ⟨U,_,SqL.of hu1⟩,_,U,_,U,_,_,U,U,_,U,_,U,_,_,U,U,z49,λ r2 hr2=>?_⟩
    have s2:=qar9 hr2 (.tup [.int pp,.int (a-1),.bl true,.int (a+c)])
    refine⟨pr,us,.ref r2,U,U,s2 _ _ hu1,qbf9 ⋯,U,qbl9 hpr (s1.trans s2),?_⟩
    exact(hL.same s2).append (x:=(pp,a-1,true,a+c)) (s2 _ _ hu1) qaf9
   ·rw[if_neg (λ y=>z (dT9 y))]
    exact⟨U,s1,hL⟩
  intro σ' H2 z9;obtain⟨rfl,s2,hL2⟩ := z9
  have ln2:(if pp<a then S++[(pp,a-1,true,a+c)] else S).length<=2*i+1:=by
   split
   ·simp;omega
   ·omega
  generalize (if pp<a then S++[(pp,a-1,true,a+c)] else S)=S2 at *
  obtain⟨us,hu1,hu2,hu3⟩:=hL2.lst
  refine⟨_,U,.inl ⟨U,_,SqL.of hu1⟩,_,U,_,U,_,U,z49,λ r2 hr2=>?_⟩
  have s3:=qar9 hr2 (.tup [.int a,.int b,.bl false,.int c])
  refine⟨pr,us,.ref r2,U,U,s3 _ _ hu1,qbf9 ⋯,?_⟩
  refine⟨_,U,_,_,U,U,_,_,_,U,qbl9 hpr (s2.trans s3),?_⟩
  exact(hL2.same s3).append (x:=(a,b,false,c)) (s3 _ _ hu1) qaf9
 ·intro σ H1 z9;obtain⟨v1,v2,v3,rfl,s1,hL⟩ := z9
  rw[hw2,zbj] at hL ⊢
  have ln:=Ma.stPre_len R
  obtain⟨us,hu1,hu2,hu3⟩:=hL.lst
  refine⟨λ σ' H2=>∃u1 u2 u3 u4,σ'=[some (.int day),some (.ref p),some (.ref pr),u1,u2,u3,u4]/\Same H H2/\LA enc4 H2 pr (Ma.strOf day R),?_,?_⟩
  ·unfold Ma.strOf
   refine⟨λ c H2=>H2=H1/\c=decide (0<(Ma.stPre R).1.length/\(Ma.stPre R).2<day),?_,?_⟩
   ·refine⟨_,U,pr,_,U,.inl (SqL.of hu1),_,_,U,U,_,U,?_⟩
    refine ite2 (λ z=>?_) (λ z=>?_)
    ·have z':(0:Int)<((us.length:Nat):Int):=oT9 z
     refine⟨_,U,_,U,_,_,U,U,_,U,U,?_⟩
     have z2:0<(Ma.stPre R).1.length:=⋯
     by_cases c:(Ma.stPre R).2<day<;>simp[c,z2]
    ·refine⟨U,?_⟩
     have z':¬(0:Int)<((us.length:Nat):Int):=λ y=>z (dT9 y)
     exact(decide_eq_false ⋯).symm
   intro c H2 z9;obtain⟨rfl,rfl⟩ := z9
   refine ite2 (λ z=>?_) (λ z=>?_)
   ·have z':=oT9 z
    rw[if_pos z']
    have n0:0<R.length:=by
     rcases zbq R.length with e|e
     ·have:=ln.1
      omega
     ·exact e
    obtain⟨ws',k1,k2,k3⟩:=(hR.same s1).at (K:=K)
    obtain⟨r0,ka,kb⟩:=k3 0 _ (Ma.r_at n0)
    refine⟨_,U,.inl ⟨U,_,SqL.of hu1⟩,_,U,_,U,_,_,U,U,_,U,_,U,p,_,_,_,U,U,SqL.of k1,ka,r0,_,_,_,U,U,SqT.of kb,U,_,_,U,U,_,U,p,_,_,_,U,U,SqL.of k1,ka,r0,_,_,_,U,U,SqT.of kb,U,_,_,U,U,
     z49,λ r2 hr2=>?_⟩
    have s3:=qar9 hr2 (.tup [.int (Ma.stPre R).2,.int (day-1),.bl true,.int (day+Ma.rA R 0+Ma.rC R 0)])
    refine⟨pr,us,.ref r2,U,U,s3 _ _ hu1,qbf9 ⋯,_,_,_,_,U,qbl9 hpr (s1.trans s3),?_⟩
    exact(hL.same s3).append (x:=((Ma.stPre R).2,day-1,true,day+Ma.rA R 0+Ma.rC R 0)) (s3 _ _ hu1) qaf9
   ·rw[if_neg (λ y=>z (dT9 y))]
    exact⟨_,_,_,_,U,s1,hL⟩
  intro σ' H2 z9;obtain⟨u1,u2,u3,u4,rfl,s2,hL2⟩ := z9
  exact⟨_,U,q pr H2 s2 hpr hL2⟩
end
open Ma (T6)
def enc6(r:T6):List V:=[.int r.1,.int r.2.1,.bl r.2.2.1,.int r.2.2.2.1,.bl r.2.2.2.2.1,.int r.2.2.2.2.2]
inductive spFirstTold(vs:List V)(H:Hp)(Q:VK)(z3q:XK):Prop
 |mk (r:Addr) (x:T4):vs=[.ref r]->H r=some (.tup (enc4 x))->Q (.int (Ma.ftold x)) H->spFirstTold vs H Q z3q
inductive spPut(vs:List V)(H:Hp)(Q:VK)(z3q:XK):Prop
 |mk (p:Addr) (a b c:Int) (R:List T3):vs=[.ref p,.int a,.int b,.int c]->LA enc3 H p R->R.length<=16000000->(∀H',SameT p H H'->LA enc3 H' p (Ma.putW R a b c)->Q .non H')->spPut vs H Q z3q
inductive spClockFrom(vs:List V)(H:Hp)(Q:VK)(z3q:XK):Prop
 |mk (day:Int) (p:Addr) (S:List T4) (g:Int->Int):vs=[.int day,.ref p]->LA enc4 H p S->S.length<=16000000->0<day->Ma.Rise day g->Ma.Cov g 0 S day->(∀(l:Addr)(R:List T3)(H':Hp),Same H H'->H l=none->LA enc3 H' l R->R.length<=S.length->Ma.Can 0 day g R->Q (.ref l) H')->spClockFrom vs H Q z3q
inductive spOverlay(vs:List V)(H:Hp)(Q:VK)(z3q:XK):Prop
 |mk (day:Int) (p1 p2:Addr) (R1 R2:List T3) (f1 f2:Int->Int):vs=[.int day,.ref p1,.ref p2]->LA enc3 H p1 R1->LA enc3 H p2 R2->R1.length<=1900000->R2.length<=1900000->Ma.CK day R1->Ma.CK day R2->Ma.Tells day R1 f1->Ma.Tells day R2 f2->(∀(l:Addr)(O:List T6)(H':Hp),Same H H'->H l=none->LA enc6 H' l O->O.length<=2*R1.length+2*R2.length+2->Ma.Cov2 f1 f2 0 O day->Q (.ref l) H')->spOverlay vs H Q z3q
inductive spPicked(vs:List V)(H:Hp)(Q:VK)(z3q:XK):Prop
 |mk (p q wt rd:Int) (late:Bool):vs=[.int p,.int q,.int wt,.int rd,.bl late]->(∀(l:Addr)(H':Hp),Same H H'->H l=none->LA enc4 H' l (Ma.pickL p q wt rd late)->Q (.ref l) H')->spPicked vs H Q z3q
inductive spJoined(vs:List V)(H:Hp)(Q:VK)(z3q:XK):Prop
 |mk (day:Int) (p1 p2:Addr) (late:Bool) (R1 R2:List T3) (f1 f2:Int->Int):vs=[.int day,.ref p1,.ref p2,.bl late]->LA enc3 H p1 R1->LA enc3 H p2 R2->R1.length<=1900000->R2.length<=1900000->Ma.CK day R1->Ma.CK day R2->Ma.Tells day R1 f1->Ma.Tells day R2 f2->(∀(l:Addr)(R:List T3)(H':Hp),Same H H'->H l=none->LA enc3 H' l R->R.length<=4*R1.length+4*R2.length+4->Ma.Can 0 day (λ x=>Ma.jn late (f1 x) (f2 x)) R->Q (.ref l) H')->spJoined vs H Q z3q
inductive spTwo(op:Option Int->Option Int->Option Int)(vs:List V)(H:Hp)(Q:VK)(z3q:XK):Prop
 |mk (day:Int) (p1 p2:Addr) (R1 R2:List T3):vs=[.int day,.ref p1,.ref p2]->LA enc3 H p1 R1->LA enc3 H p2 R2->R1.length<=1900000->R2.length<=1900000->Ma.CK day R1->Ma.CK day R2->(∀(l:Addr)(R:List T3)(H':Hp),Same H H'->H l=none->LA enc3 H' l R->R.length<=4*R1.length+4*R2.length+4->Ma.CK day R->(∀t,Ma.bt day R t=op (Ma.bt day R1 t) (Ma.bt day R2 t))->Q (.ref l) H')->spTwo op vs H Q z3q
section
variable {f:Addr}
theorem qli9(F:Fun K "first_told" "first_told" qdb9 f fd):FnOk P w K mg base CX0 (n+1) f fd ["row"] spFirstTold:=by
 refine F.okQ qlt9 ?_ ?_
 walk_at "o"
 obtain⟨r,x,rfl,hx,q⟩:=h
 refine⟨_,(qae9 (qal9 (qbt9 (qcb9 (qe_ix qan9 (qv 0) qad9 Y9)) (qe_ix qan9 (qv 0) qad9 Y9) (qe_op qas9 (qe_ix qan9 (qv 0) qad9 Y9) (qe_ix qan9 (qv 0) qad9 Y9))))),?_⟩
 walk_at "d"
 refine⟨_,U,r,_,_,_,U,U,SqT.of hx,U,_,U,?_⟩
 unfold Ma.ftold at q
 refine ite2 (λ c=>?_) (λ c=>?_)
 ·rw[if_pos c] at q
  exact⟨_,U,r,_,_,_,U,U,SqT.of hx,U,q⟩
 ·rw[if_neg c] at q
  exact⟨_,U,r,_,_,_,U,U,SqT.of hx,U,_,U,r,_,_,_,U,U,SqT.of hx,U,_,_,U,U,q⟩
theorem ok_put(F:Fun K "put_window" "put_window" qdc9 f fd)(B:Bl mg):FnOk P w K mg base CX0 (n+1) f fd ["clock","a","b","c"] spPut:=by
 refine F.okQ qle9 ?_ ?_
 walk_at "o"
 obtain⟨p,a,b,c,R,rfl,hR,hlen,q⟩:=h
 refine⟨_,(qab9 (qs_if (qaj9 qhb9 (qv 1) (qv 2) (qat9 _)) (qae9 qs_retN) qao9) (qae9 (qs_if (qfc9 (QW.pt (qjc9 (qaj9 qhb9 (qe_cb qau9 U B.len qce9 (qa_c (qv 0) qac9)) qad9 (qat9 _)) (qjc9 (qaj9 qbr9 (qe_op qas9 (qe_ix qan9 (qe_ix qak9 (qv 0) (qhi9 qad9) Y9) qad9 Y9) qad9) (qv 1) (qat9 _)) (qgy9 (qaj9 qbr9 (qe_ix qan9 (qe_ix qak9 (qv 0) (qhi9 qad9) Y9) qad9 Y9) (qv 3) (qat9 _))))))) (qae9 (qqd9 (qca9 (qa_c (qe_ix qan9 (qe_ix qak9 (qv 0) (qhi9 qad9) Y9) qad9 Y9) (qa_c (qv 2) (qa_c (qv 3) qac9)))) (qg_sub (qv 0) (qhi9 qad9) qqu9))) (qae9 (qbm9 (qbh9 (qv 0) (qa_c (qca9 (qa_c (qv 1) (qa_c (qv 2) (qa_c (qv 3) qac9)))) qac9))))))),?_⟩
 walk_at "d"
 obtain⟨vs,hv1,hv2,hv3⟩:=hR.lst
 have neg1:∀(i:Int) ,(-1:Int)=-i->i=1:=λ i e=>⋯
 refine⟨_,U,_,U,_,_,U,U,_,U,?_⟩
 unfold Ma.putW at q
 refine ite2 (λ z=>?_) (λ z=>?_)
 ·rw[if_pos (oT9 z)] at q
  exact q H (λ b o e _=>e) hR
 rw[if_neg (λ y=>z (dT9 y))] at q
 have app:∀H1:Hp,H1=H->(∀H',SameT p H H'->LA enc3 H' p (R++[(a,b,c)])->Q .non H')->∀r2,H1 r2=none->Q .non (upd (upd H1 r2 (.tup [.int a,.int b,.int c])) p (.lst (vs++[.ref r2]))):=by
  rintro H1 rfl q' r2 hr2
  have s2:=qar9 hr2 (.tup [.int a,.int b,.int c])
  refine q' _ (λ x o e nx=>?_) ((hR.same s2).append (x:=(a,b,c)) (s2 _ _ hv1) qaf9)
  rw[qap9 nx]
  exact s2 _ _ e
 cases hl:R.getLast? with
 |none =>
  rw[hl] at q
  have e0:=zet.mp hl
  subst e0
  have v0:vs=[]:=zbe.mp hv2
  subst v0
  refine⟨λ k H'=>k=false/\H'=H,?_,?_⟩
  ·exact⟨_,U,p,_,U,.inl (SqL.of hv1),_,_,U,U,_,U,iteN (by simp) ⟨U,U⟩⟩
  intro k H1 z9;obtain⟨rfl,rfl⟩ := z9
  refine iteF ⟨_,rfl,.inl ⟨rfl,_,SqL.of hv1⟩,_,rfl,_,rfl,_,rfl,z39,λ r2 hr2=>?_⟩
  refine⟨p,_,.ref r2,U,U,(qar9 hr2 _) _ _ hv1,qbf9 (by simp),app H1 rfl q r2 hr2⟩
 |some l =>
  rw[hl] at q
  obtain⟨R0,rfl⟩:=zes.mp hl
  have vl:vs.length=R0.length+1:=by rw[hv2];simp
  have vne:vs≠[]:=λ e=>by rw[e] at vl;simp at vl
  obtain⟨r,x,e1,e2,e3⟩:=hv3 R0.length _ (zaa ⋯)
  have e2':l=x:=by simpa using e2
  subst e2'
  have at1:atI vs (-1)=some (.ref r):=by
   rw[qqf9 vne,show vs.length-1=R0.length by omega,zaa ⋯,e1]
  obtain⟨la,lb,lc⟩:=l
  refine⟨λ k H'=>k=decide (lb+1=a/\lc=c)/\H'=H,?_,?_⟩
  ·refine⟨_,U,p,_,U,.inl (SqL.of hv1),_,_,U,U,_,U,iteP (dT9 (by show(0:Int)<((vs.length:Nat):Int);omega)) ?_⟩
   refine⟨_,U,_,U,p,_,_,_,U,U,SqL.of hv1,at1,r,_,_,_,U,U,SqT.of e3,U,_,_,U,U,_,U,U,_,U,?_⟩
   refine ite2 (λ y=>?_) (λ y=>?_)
   ·have y':lb+1=a:=by
     have:=oT9 y
     simpa [enc3] using this
    refine⟨_,U,_,U,p,_,_,_,U,U,SqL.of hv1,at1,r,_,_,_,U,U,SqT.of e3,U,_,U,U,_,U,?_,U⟩
    by_cases c0:lc=c<;>simp[y',c0]
   ·have y':¬lb+1=a:=λ e=>y (dT9 (by rw[<- e]))
    exact⟨by simp[y'],U⟩
  intro k H1 z9;obtain⟨rfl,rfl⟩ := z9
  dsimp only at q
  refine ite2 (λ y=>?_) (λ y=>?_)
  ·have y':=oT9 y
   rw[if_pos y',zfs] at q
   refine⟨_,U,_,U,p,_,_,_,U,U,SqL.of hv1,at1,r,_,_,_,U,U,SqT.of e3,U,_,U,_,U,z39,λ r2 hr2=>?_⟩
   have s2:=qar9 hr2 (.tup [.int la,.int b,.int c])
   have ix:ixN vs.length (-1)=some R0.length:=by
    unfold ixN
    rw[if_neg ⋯,if_pos ⋯]
    congr 1
    omega
   refine⟨_,U,_,U,p,vs,-1,R0.length,U,U,s2 _ _ hv1,ix,?_⟩
   refine q _ (λ x o e nx=>?_) ?_
   ·rw[qap9 nx]
    exact s2 _ _ e
   ·have h:=(hR.same s2).setAt (x:=(la,b,c)) (j:=R0.length) (s2 _ _ hv1) qaf9
    have e:(R0++[(la,lb,lc)]).set R0.length (la,b,c)=R0++[(la,b,c)]:=by simp
    rw[e] at h
    exact h
  ·rw[if_neg (λ z=>y (dT9 z))] at q
   refine⟨_,U,.inl ⟨U,_,SqL.of hv1⟩,_,U,_,U,_,U,z39,λ r2 hr2=>?_⟩
   exact⟨p,_,.ref r2,U,U,(qar9 hr2 _) _ _ hv1,qbf9 ⋯,app H1 rfl q r2 hr2⟩
theorem qlq9(F:Fun K "clock_from" "clock_from" qcz9 f fd)(B:Bl mg)(Ch0:Callee P w K mg base n "first_told" ["row"] spFirstTold)(Cs0:Callee P w K mg base n "put_window" ["clock","a","b","c"] spPut) :
  FnOk P w K mg base CX0 (n+1) f fd ["day","rows"] spClockFrom:=by
 refine F.okQ sc_clock_from ?_ ?_
 walk_at "o"
 obtain⟨day,p,S,g,rfl,hS,hlen,hd,rg,hC,q⟩:=h
 refine⟨_,(qab9 (qai9 (i:=2) sc_clock_from.nd U (zaf U) (qdh9 qac9)) (qab9 (qfk9 PassesOwn.never U (qi_enum U B.enumerate (qa_c (qv 1) qac9)) (qgx9 U (qaq9 (qam9 (i:=3) sc_clock_from.nd U (zaf U)) (qaq9 (qam9 (i:=4) sc_clock_from.nd U (zaf U)) qdz9))) (qab9 (qai9 (i:=5) sc_clock_from.nd U (zaf U) (qlm9 (qbt9 (qaj9 qff9 (qe_op qas9 (qv 3) qad9) (qe_cb qau9 U B.len qce9 (qa_c (qv 1) qac9)) (qat9 _)) (qe_fn Ch0 hr U (qa_c (qe_ix qak9 (qv 1) (qe_op qas9 (qv 3) qad9) Y9) qac9)) (qe_op qas9 (qv 0) (qe_fn Ch0 hr U (qa_c (qe_ix qak9 (qv 1) qad9 Y9) qac9)))))) (qab9 (qai9 (i:=6) sc_clock_from.nd U (zaf U) (qe_ix qan9 (qv 4) qad9 Y9)) (qab9 (qai9 (i:=7) sc_clock_from.nd U (zaf U) (qe_ix qan9 (qv 4) qad9 Y9)) (qae9 (qs_if (qcb9 (qe_ix qan9 (qv 4) qad9 Y9)) (qae9 (qbm9 (qe_fn Cs0 hr U (qa_c (qv 2) (qa_c (qv 6) (qa_c (qlm9 (qbt9 (qaj9 qff9 (qv 7) (qv 5) (qat9 _)) (qv 6) (qe_op qcc9 (qv 6) qad9))) (qa_c (qe_op qcc9 (qv 7) (qv 6)) qac9))))))) (qae9 (qbm9 (qe_fn Cs0 hr U (qa_c (qv 2) (qa_c (qe_ix qan9 (qv 4) qad9 Y9) (qa_c (qlm9 (qbt9 (qaj9 qff9 (qe_op qas9 (qv 6) (qv 7)) (qv 5) (qat9 _)) (qv 6) (qe_op qcc9 (qv 6) qad9))) (qa_c (qv 7) qac9))))))))))))) (qae9 (qal9 (qv 2))))),?_⟩
 walk_at "d"
 refine⟨z09,λ pc hpc=>?_⟩
 have s0:Same H (upd H pc (.lst [])):=qar9 hpc _
 obtain⟨ws,hw1,hw2,hw3⟩:=hS.lst
 refine⟨_,U,p,U,⟨_,SqL.of (s0 _ _ hw1)⟩,for_enum (K:=K) (a:=p) (xs:=ws)
  (λ i σ H'=>∃(R:List T3)(at_:Int)(v1 v2 v3 v4 v5:Option V),σ=[some (.int day),some (.ref p),some (.ref pc),v1,v2,v3,v4,v5]/\Same H H'/\LA enc3 H' pc R/\R.length<=i/\0<=at_/\Ma.Can 0 at_ g R/\(∀r,S[i]?=some r->r.1=at_)/\(i=S.length->at_=day))
  ⟨[],0,_,_,_,_,_,rfl,s0,LA.nil qaf9,zao _,zau _,⟨List.Pairwise.nil,(λ w hw=>by cases hw),λ x x0 x1=>⋯⟩,λ r e=>(hC.get e).2.2.2.2.1 rfl,λ e=>?_⟩
  (λ i σ H' _ z9=>by obtain⟨_,_,_,_,_,_,_,_,s1,_⟩ := z9;exact SqL.of (s1 _ _ hw1)) ?_ ?_⟩
 ·have:S=[]:=zbe.mp e.symm
  rw[this] at hC
  exact hC
 ·intro i y pe σ H1 hi z9 hpe;obtain⟨R,at_,v1,v2,v3,v4,v5,rfl,s1,hR,hRl,a0,hCan,hat,_⟩ := z9
  obtain⟨r,x,rfl,ex,er⟩:=hw3 i y hi
  have e1:=hat x ex
  obtain⟨g1,g2,g3,g4,g5,g6,g7⟩:=hC.get ex
  have hi2:i<S.length:=(zab.mp ex).1
  have s2:=qar9 hpe (.tup [.int i,.ref r])
  generalize hg2:upd H1 pe (.tup [.int i,.ref r])=H2 at *
  have ep:H2 pe=some (.tup [.int i,.ref r]):=by rw[<- hg2];exact qaf9
  clear hg2
  have s02:=s1.trans s2
  have er2:=s02 _ _ er
  have hw12:=s02 _ _ hw1
  have fo:=Ma.cfo_eq hC rg.per ex
  have step:=hCan.row a0 x e1 g2 g4
  rw[<- fo] at step
  refine⟨pe,_,U,SqT.of ep,U,_,_,U,_,_,U,U,?_⟩
  refine⟨λ v H'=>H'=H2/\v=.int (Ma.cfo day S i),?_,?_⟩
  ·refine⟨_,U,_,_,U,U,_,U,p,_,U,.inl (SqL.of hw12),_,_,U,U,_,U,?_⟩
   obtain⟨ws',k1,k2,k3⟩:=(hS.same s02).at (K:=K)
   rw[hw12] at k1
   cases k1
   unfold Ma.cfo
   refine ite2 (λ c=>?_) (λ c=>?_)
   ·have c':(i:Int)+1<((ws.length:Nat):Int):=oT9 c
    have hi3:i+1<S.length:=⋯
    obtain⟨r3,ka,kb⟩:=k3 (i+1) _ (zaa hi3)
    rw[zaa hi3]
    exact⟨_,U,_,U,_,_,U,U,p,_,_,_,U,U,SqL.of hw12,ka,r3,_,U,kb,U,U⟩
   ·have c':¬(i:Int)+1<((ws.length:Nat):Int):=λ z=>c (dT9 z)
    have hi3:S.length<=i+1:=⋯
    obtain⟨r3,ka,kb⟩:=k3 0 _ (zaa (by omega:0<S.length))
    rw[zeu.mpr hi3,zaa (by omega:0<S.length)]
    exact⟨_,U,_,U,p,_,_,_,U,U,SqL.of hw12,ka,r3,_,U,kb,_,_,U,U,U,U⟩
  intro v H3 z9;obtain⟨rfl,rfl⟩ := z9
  generalize Ma.cfo day S i=fol at *
  obtain⟨xp,xq,xs,xv⟩:=x
  refine⟨_,U,r,_,_,_,U,U,SqT.of er2,U,?_⟩
  refine⟨_,U,r,_,_,_,U,U,SqT.of er2,U,?_⟩
  have hR2:=hR.same s2
  have fin:∀(H4:Hp)(u1 u2 u3 u4 u5:Option V),SameT pc H3 H4->LA enc3 H4 pc (Ma.cfStep fol (xp,xq,xs,xv) R)->∃(R:List T3)(at_:Int)(v1 v2 v3 v4 v5:Option V),[some (.int day),some (.ref p),some (.ref pc),u1,u2,u3,u4,u5]=[some (.int day),some (.ref p),some (.ref pc),v1,v2,v3,v4,v5]/\Same H H4/\LA enc3 H4 pc R/\R.length<=i+1/\0<=at_/\Ma.Can 0 at_ g R/\(∀r,S[i+1]?=some r->r.1=at_)/\(i+1=S.length->at_=day):=by
   intro H4 u1 u2 u3 u4 u5 s4 h4
   refine⟨_,xq+1,u1,u2,u3,u4,u5,U,λ b o e=>s4 b o (s02 _ _ e) (qaz9 e hpc),h4,?_,?_,step,λ r' e'=>g6 r' e',λ e=>g7 e⟩
   ·have:=Ma.cfStep_len fol (xp,xq,xs,xv) R
    omega
   ·have g1':0<=xp:=g1
    have g2':xp<=xq:=g2
    omega
  unfold Ma.cfStep at fin
  dsimp only at fin
  refine⟨_,U,r,_,_,_,U,U,SqT.of er2,U,_,U,?_⟩
  refine ite2 (λ c=>?_) (λ c=>?_)
  ·have c':xs=true:=c
   rw[if_pos c'] at fin
   refine⟨_,U,_,U,?_⟩
   refine⟨λ v H'=>H'=H3/\v=.int (if xv<fol then xq else xq-1),?_,?_⟩
   ·refine⟨_,U,_,U,_,_,U,U,_,U,?_⟩
    refine ite2 (λ z=>?_) (λ z=>?_)
    ·exact⟨_,U,U,by rw[if_pos (oT9 z)]⟩
    ·exact⟨_,U,_,_,U,U,U,by rw[if_neg (λ y=>z (dT9 y))]⟩
   intro v H4 z9;obtain⟨rfl,rfl⟩ := z9
   exact⟨_,U,_,U,_,_,U,U,pc,_,_,_,R,U,hR2,⋯,λ H5 s5 h5=>fin H5 _ _ _ _ _ s5 h5⟩
  ·have c':¬xs=true:=c
   rw[if_neg c'] at fin
   refine⟨_,U,_,U,r,_,_,_,U,U,SqT.of er2,U,?_⟩
   refine⟨λ v H'=>H'=H3/\v=.int (if xq+xv<fol then xq else xq-1),?_,?_⟩
   ·refine⟨_,U,_,U,_,_,U,U,_,U,_,_,U,U,_,U,?_⟩
    refine ite2 (λ z=>?_) (λ z=>?_)
    ·exact⟨_,U,U,by rw[if_pos (oT9 z)]⟩
    ·exact⟨_,U,_,_,U,U,U,by rw[if_neg (λ y=>z (dT9 y))]⟩
   intro v H4 z9;obtain⟨rfl,rfl⟩ := z9
   exact⟨_,U,pc,_,_,_,R,U,hR2,⋯,λ H5 s5 h5=>fin H5 _ _ _ _ _ s5 h5⟩
 ·intro σ H1 z9;obtain⟨R,at_,v1,v2,v3,v4,v5,rfl,s1,hR,hRl,a0,hCan,hat,hend⟩ := z9
  have e:=hend hw2
  subst e
  exact⟨_,U,q pc R H1 s1 hpc hR ⋯ hCan⟩
theorem qqb9(F:Fun K "overlay" "overlay" qfe9 f fd)(B:Bl mg)(Ce0:Callee P w K mg base n "stretches" ["day","clock"] spStretches):FnOk P w K mg base CX0 (n+1) f fd ["day","one","other"] spOverlay:=by
 refine F.okQ sc_overlay ?_ ?_
 walk_at "o"
 obtain⟨day,p1,p2,R1,R2,f1,f2,rfl,hR1,hR2,hl1,hl2,ck1,ck2,T1,T2,q⟩:=h
 refine⟨_,(qab9 (qai9 (i:=3) sc_overlay.nd U (zaf U) (qe_fn Ce0 hr U (qa_c (qv 0) (qa_c (qv 1) qac9)))) (qab9 (qai9 (i:=4) sc_overlay.nd U (zaf U) (qe_fn Ce0 hr U (qa_c (qv 0) (qa_c (qv 2) qac9)))) (qab9 (qai9 (i:=5) sc_overlay.nd U (zaf U) (qdh9 qac9)) (qab9 (qai9 (i:=6) sc_overlay.nd U (zaf U) qad9) (qab9 (qai9 (i:=7) sc_overlay.nd U (zaf U) qad9) (qab9 (qai9 (i:=8) sc_overlay.nd U (zaf U) qad9) (qab9 (qii9 PassesOwn.never (qaj9 qff9 (qv 8) (qv 0) (qat9 _)) (qab9 (qai9 (i:=9) sc_overlay.nd U (zaf U) (qe_cb (qhd9 U) U B.min bt_min (qa_c (qe_ix qan9 (qe_ix qak9 (qv 3) (qv 6) Y9) qad9 Y9) (qa_c (qe_ix qan9 (qe_ix qak9 (qv 4) (qv 7) Y9) qad9 Y9) qac9)))) (qab9 (qbm9 (qbh9 (qv 5) (qa_c (qca9 (qa_c (qv 8) (qa_c (qv 9) (qa_c (qe_ix qan9 (qe_ix qak9 (qv 3) (qv 6) Y9) qad9 Y9) (qa_c (qe_ix qan9 (qe_ix qak9 (qv 3) (qv 6) Y9) qad9 Y9) (qa_c (qe_ix qan9 (qe_ix qak9 (qv 4) (qv 7) Y9) qad9 Y9) (qa_c (qe_ix qan9 (qe_ix qak9 (qv 4) (qv 7) Y9) qad9 Y9) qac9))))))) qac9))) (qeq9 (qs_if (qaj9 qbr9 (qe_ix qan9 (qe_ix qak9 (qv 3) (qv 6) Y9) qad9 Y9) (qv 9) (qat9 _)) (qae9 (qs_aug (i:=6) sc_overlay.nd U (zaf U) ip_add qad9)) qao9) (qeq9 (qs_if (qaj9 qbr9 (qe_ix qan9 (qe_ix qak9 (qv 4) (qv 7) Y9) qad9 Y9) (qv 9) (qat9 _)) (qae9 (qs_aug (i:=7) sc_overlay.nd U (zaf U) ip_add qad9)) qao9) (qae9 (qai9 (i:=8) sc_overlay.nd U (zaf U) (qe_op qas9 (qv 9) qad9)))))))) (qae9 (qal9 (qv 5)))))))))),?_⟩
 walk_at "d"
 refine⟨_,U,_,U,day,p1,R1,U,hR1,⋯,λ l1 H1 s1 fr1 hS1=>?_⟩
 refine⟨_,U,_,U,day,p2,R2,U,hR2.same s1,⋯,λ l2 H2 s2 fr2 hS2=>?_⟩
 have C1:=Ma.str_cov ck1 T1
 have C2:=Ma.str_cov ck2 T2
 have b1:=Ma.strOf_len day R1
 have b2:=Ma.strOf_len day R2
 have hS1:=hS1.same s2
 generalize Ma.strOf day R1=S1 at *
 generalize Ma.strOf day R2=S2 at *
 have s02:=s1.trans s2
 have hd:=ck1.d0
 refine⟨z09,λ pr hpr=>?_⟩
 have sr:Same H2 (upd H2 pr (.lst [])):=qar9 hpr _
 refine qif9 (λ σ H'=>∃(O:List T6)(k j:Nat)(p:Int)(v:Option V),σ=[some (.int day),some (.ref p1),some (.ref p2),some (.ref l1),some (.ref l2),some (.ref pr),some (.int k),some (.int j),some (.int p),v] /\
   Same H2 H'/\LA enc6 H' pr O/\Ma.Cov2 f1 f2 0 O p/\0<=p/\p<=day/\O.length<=k+j/\k<=S1.length/\j<=S2.length/\(p<day->∃r1 r2,S1[k]?=some r1/\r1.1<=p/\p<=r1.2.1/\S2[j]?=some r2/\r2.1<=p/\p<=r2.2.1))
  (λ σ _=>match σ with | [_,_,_,_,_,_,_,_,some (.int p),_]=>(day-p).toNat|_=>0) ?_ ?_ ?_
 ·refine⟨[],0,0,0,none,U,sr,LA.nil qaf9,U,zau _,⋯,by simp,zbt _,zbt _,λ h=>?_⟩
  have n1:0<S1.length:=by
   rcases zbq S1.length with e|e
   ·rw[zbe.mp e] at C1
    have:(0:Int)=day:=C1
    omega
   ·exact e
  have n2:0<S2.length:=by
   rcases zbq S2.length with e|e
   ·rw[zbe.mp e] at C2
    have:(0:Int)=day:=C2
    omega
   ·exact e
  have e1:=zaa n1
  have e2:=zaa n2
  obtain⟨g1,g2,g3,g4,g5,g6,g7⟩:=C1.get e1
  obtain⟨h1,h2,h3,h4,h5,h6,h7⟩:=C2.get e2
  have:=g5 rfl
  have:=h5 rfl
  exact⟨_,_,e1,⋯,⋯,e2,⋯,⋯⟩
 ·intro σ H3 z9;obtain⟨O,k,j,p,v,rfl,s3,hO,cv,p0,pd,ol,kl,jl,hin⟩ := z9
  refine⟨_,U,_,U,_,_,U,U,_,U,?_⟩
  refine ite2 (λ c=>?_) (λ c=>?_)
  ·have c':p<day:=oT9 c
   obtain⟨r1,r2,e1,x1,x2,e2,y1,y2⟩:=hin c'
   obtain⟨g1,g2,g3,g4,g5,g6,g7⟩:=C1.get e1
   obtain⟨h1,h2,h3,h4,h5,h6,h7⟩:=C2.get e2
   obtain⟨us1,u1,u2,u3⟩:=(hS1.same s3).at (K:=K)
   obtain⟨us2,w1,w2,w3⟩:=(hS2.same s3).at (K:=K)
   obtain⟨a1,ua,ub⟩:=u3 k _ e1
   obtain⟨a2,wa,wb⟩:=w3 j _ e2
   obtain⟨q1p,q1q,q1s,q1v⟩:=r1
   obtain⟨q2p,q2q,q2s,q2v⟩:=r2
   have x2':p<=q1q:=x2
   have y2':p<=q2q:=y2
   refine⟨_,U,_,U,l1,_,_,_,U,U,SqL.of u1,ua,a1,_,_,_,U,U,SqT.of ub,U,_,U,_,U,l2,_,_,_,U,U,SqL.of w1,wa,a2,_,_,_,U,U,SqT.of wb,U,_,_,U,?_⟩
   generalize hq:(if q2q<q1q then q2q else q1q)=qq
   have qp:p<=qq:=by rw[<- hq];split<;>omega
   have qa:qq<=q1q:=by rw[<- hq];split<;>omega
   have qb:qq<=q2q:=by rw[<- hq];split<;>omega
   have qe:qq=q1q\/qq=q2q:=by rw[<- hq];split<;>simp
   obtain⟨vs,v1,v2,v3⟩:=hO.lst
   refine⟨_,U,.inl ⟨U,_,SqL.of v1⟩,_,U,_,U,_,U,_,U,l1,_,_,_,U,U,SqL.of u1,ua,a1,_,_,_,U,U,SqT.of ub,U,_,U,_,U,l1,_,_,_,U,U,SqL.of u1,ua,a1,_,_,_,U,U,SqT.of ub,U,
    _,rfl,_,rfl,l2,_,_,_,rfl,rfl,SqL.of w1,wa,a2,_,_,_,rfl,rfl,SqT.of wb,rfl,_,rfl,_,rfl,l2,_,_,_,rfl,rfl,SqL.of w1,wa,a2,_,_,_,rfl,rfl,SqT.of wb,rfl,z69,λ rn hrn=>?_⟩
   have s4:=qar9 hrn (.tup [.int p,.int qq,.bl q1s,.int q1v,.bl q2s,.int q2v])
   refine⟨pr,vs,.ref rn,U,U,s4 _ _ v1,qbf9 ⋯,?_⟩
   have hO5:=(hO.same s4).append (x:=(p,qq,q1s,q1v,q2s,q2v)) (s4 _ _ v1) qaf9
   have s5:=qbl9 (o:=.lst (vs++[.ref rn])) hpr (s3.trans s4)
   have cv5:Ma.Cov2 f1 f2 0 (O++[(p,qq,q1s,q1v,q2s,q2v)]) (qq+1):=Ma.Cov2.snoc (r:=(p,qq,q1s,q1v,q2s,q2v)) qp (λ x a b=>by
    have a':p<=x:=a
    have b':x<=qq:=b
    exact⟨g4 x (by show q1p<=x;have:q1p<=p:=x1;omega) (by show x<=q1q;omega),h4 x (by show q2p<=x;have:q2p<=p:=y1;omega) (by show x<=q2q;omega)⟩) cv
   generalize upd (upd H3 rn _) pr _=H5 at *
   have hS15:=hS1.same s5
   have hS25:=hS2.same s5
   obtain⟨us1,u1,u2,u3⟩:=hS15.at (K:=K)
   obtain⟨us2,w1,w2,w3⟩:=hS25.at (K:=K)
   obtain⟨a1,ua,ub⟩:=u3 k _ e1
   obtain⟨a2,wa,wb⟩:=w3 j _ e2
   refine⟨λ σ' H'=>H'=H5/\∃k':Nat,σ'=[some (.int day),some (.ref p1),some (.ref p2),some (.ref l1),some (.ref l2),some (.ref pr),some (.int k'),some (.int j),some (.int p),some (.int qq)]/\((qq=q1q/\k'=k+1)\/(qq<q1q/\k'=k)),?_,?_⟩
   ·refine⟨_,U,_,U,l1,_,_,_,U,U,SqL.of u1,ua,a1,_,_,_,U,U,SqT.of ub,U,_,U,U,_,U,?_⟩
    refine ite2 (λ z=>?_) (λ z=>?_)
    ·have z':=oT9 z
     injection z' with z'
     exact⟨_,U,_,_,U,U,U,k+1,U,.inl ⟨z'.symm,U⟩⟩
    ·have z':¬q1q=qq:=λ e=>z (dT9 (by rw[e]))
     exact⟨U,k,U,.inr ⟨⋯,U⟩⟩
   intro σ' H6 z9;obtain⟨rfl,k',rfl,hk'⟩ := z9
   refine⟨λ σ' H'=>H'=H6/\∃j':Nat,σ'=[some (.int day),some (.ref p1),some (.ref p2),some (.ref l1),some (.ref l2),some (.ref pr),some (.int k'),some (.int j'),some (.int p),some (.int qq)]/\((qq=q2q/\j'=j+1)\/(qq<q2q/\j'=j)),?_,?_⟩
   ·refine⟨_,U,_,U,l2,_,_,_,U,U,SqL.of w1,wa,a2,_,_,_,U,U,SqT.of wb,U,_,U,U,_,U,?_⟩
    refine ite2 (λ z=>?_) (λ z=>?_)
    ·have z':=oT9 z
     injection z' with z'
     exact⟨_,U,_,_,U,U,U,j+1,U,.inl ⟨z'.symm,U⟩⟩
    ·have z':¬q2q=qq:=λ e=>z (dT9 (by rw[e]))
     exact⟨U,j,U,.inr ⟨⋯,U⟩⟩
   intro σ' H7 z9;obtain⟨rfl,j',rfl,hj'⟩ := z9
   have kS:k<S1.length:=(zab.mp e1).1
   have jS:j<S2.length:=(zab.mp e2).1
   refine⟨_,U,_,_,U,U,⟨_,k',j',qq+1,_,U,s5,hO5,cv5,⋯,?_,?_,⋯,⋯,λ lt=>?_⟩,?_⟩
   ·have:q1q<day:=g3
    omega
   ·rw[zam,zbm]
    omega
   ·have A:∃r1,S1[k']?=some r1/\r1.1<=qq+1/\qq+1<=r1.2.1:=by
     rcases hk' with⟨z,rfl⟩|⟨z,rfl⟩
     ·have hk1:k+1<S1.length:=by
       rcases(by omega:k+1<S1.length\/k+1=S1.length) with y|y
       ·exact y
       ·have:=g7 y
        have:q1q+1=day:=this
        omega
      have e:=zaa hk1
      have:=g6 _ e
      have:=(C1.get e).2.1
      have:(S1[k+1]).1=q1q+1:=g6 _ e
      exact⟨_,e,⋯,⋯⟩
     ·exact⟨_,e1,by show q1p<=qq+1;have:q1p<=p:=x1;omega,by show qq+1<=q1q;omega⟩
    have A2:∃r2,S2[j']?=some r2/\r2.1<=qq+1/\qq+1<=r2.2.1:=by
     rcases hj' with⟨z,rfl⟩|⟨z,rfl⟩
     ·have hk1:j+1<S2.length:=by
       rcases(by omega:j+1<S2.length\/j+1=S2.length) with y|y
       ·exact y
       ·have:=h7 y
        have:q2q+1=day:=this
        omega
      have e:=zaa hk1
      have:=(C2.get e).2.1
      have:(S2[j+1]).1=q2q+1:=h6 _ e
      exact⟨_,e,⋯,⋯⟩
     ·exact⟨_,e2,by show q2p<=qq+1;have:q2p<=p:=y1;omega,by show qq+1<=q2q;omega⟩
    obtain⟨r1',b1,b2,b3⟩:=A
    obtain⟨r2',d1,d2,d3⟩:=A2
    exact⟨r1',r2',b1,b2,b3,d1,d2,d3⟩
   ·show(day-(qq+1)).toNat<(day-p).toNat
    omega
  ·have c':¬p<day:=λ z=>c (dT9 z)
   have e:p=day:=⋯
   subst e
   refine⟨_,U,q pr O H3 (s02.trans s3) (s02.free hpr) hO ⋯ cv⟩
 ·intro σ H' Q1 Q2 hq z9;obtain⟨v,e1,v',e2,i,j,e3,e4,k,e5,q1⟩ := z9
  exact⟨v,e1,v',e2,i,j,e3,e4,k,e5,hq _ _ q1⟩
theorem ok_picked(F:Fun K "picked" "picked" qgj9 f fd)(B:Bl mg):FnOk P w K mg base CX0 (n+1) f fd ["p","q","waiting","riding","late"] spPicked:=by
 refine F.okQ sc_picked ?_ ?_
 walk_at "o"
 obtain⟨p,qq,wt,rd,late,rfl,q⟩:=h
 refine⟨_,(qab9 (qai9 (i:=5) sc_picked.nd U (zaf U) (qe_op qcc9 (qv 2) (qv 3))) (qab9 (qai9 (i:=6) sc_picked.nd U (zaf U) (qca9 (qa_c (qv 0) (qa_c (qe_cb (qhd9 U) U B.min bt_min (qa_c (qv 1) (qa_c (qv 5) qac9))) (qa_c (qv 4) (qa_c (qlm9 (qbt9 (qcb9 (qv 4)) (qv 2) (qv 3))) qac9)))))) (qab9 (qai9 (i:=7) sc_picked.nd U (zaf U) (qca9 (qa_c (qe_cb (qjv9 U) U B.max bt_max (qa_c (qv 0) (qa_c (qe_op qas9 (qv 5) qad9) qac9))) (qa_c (qv 1) (qa_c (qe_not (qv 4)) (qa_c (qlm9 (qbt9 (qcb9 (qv 4)) (qv 3) (qv 2))) qac9)))))) (qae9 (qal9 (qe_compIf ["part"] [none] (BlkOk.of U U (SubL.to subN) U) U (qi_tup (qca9 (qa_c (qv 6) (qa_c (qv 7) qac9)))) (λ _ _ _ _=>(qam9 (i:=0) (show(["part"]:List Str).Nodup by decide) U (zaf U))) (λ _ _ _ _=>(qaj9 qgm9 (qe_ix (qmv9 K U) (qv 0) qad9 Y9) (qe_ix (qmv9 K U) (qv 0) qad9 Y9) (qat9 _))) (λ _ _ _ _=>(qv 0)))))))),?_⟩
 walk_at "d"
 refine⟨_,U,_,U,_,_,U,U,?_⟩
 refine⟨_,U,_,U,_,U,_,_,U,_,U,?_⟩
 refine⟨λ v H'=>H'=H/\v=.int (if late=true then wt else rd),?_,?_⟩
 ·refine⟨_,U,_,U,?_⟩
  cases late
  ·exact iteF ⟨_,rfl,rfl,rfl⟩
  ·exact iteT ⟨_,rfl,rfl,rfl⟩
 intro v H1 z9;obtain⟨rfl,rfl⟩ := z9
 refine⟨z49,λ ra hra=>?_⟩
 generalize hgH2:upd _ ra _=H2
 revert H2
 refine qbb9 hra λ H2 s2 e2=>?_
 refine⟨_,U,_,U,_,_,U,U,_,_,U,_,U,_,U,_,U,?_⟩
 refine⟨λ v H'=>H'=H2/\v=.int (if late=true then rd else wt),?_,?_⟩
 ·refine⟨_,U,_,U,?_⟩
  cases late
  ·exact iteF ⟨_,rfl,rfl,rfl⟩
  ·exact iteT ⟨_,rfl,rfl,rfl⟩
 intro v H2 z9;obtain⟨rfl,rfl⟩ := z9
 refine⟨z49,λ rt hrt=>?_⟩
 generalize hgH3:upd _ rt _=H3
 revert H3
 refine qbb9 hrt λ H3 s3 e3=>?_
 have e23:=s3 _ _ e2
 refine⟨_,U,_,U,z29,λ rp hrp=>?_⟩
 generalize hgH4:upd _ rp _=H4
 revert H4
 refine qbb9 hrp λ H4 s4 e4=>?_
 have e24:=s4 _ _ e23
 have e34:=s4 _ _ e3
 have s14:=(s2.trans s3).trans s4
 unfold Ma.pickL at q
 generalize hx1:(if wt-rd<qq then wt-rd else qq)=x1 at *
 generalize hx2:(if wt-rd+1>p then wt-rd+1 else p)=x2 at *
 generalize (if late=true then wt else rd)=v1 at *
 generalize (if late=true then rd else wt)=v2 at *
 refine⟨rp,U,⟨_,SqT.of e4⟩,?_⟩
 refine qso9 (K:=K) (a:=rp) (xs:=[.ref ra,.ref rt]) (λ D i H'=>Same H4 H'/\LA enc4 H' D (if i=0 then [] else if i=1 then(if p<=x1 then [(p,x1,late,v1)] else []) else(if p<=x1 then [(p,x1,late,v1)] else [])++(if x2<=qq then [(x2,qq,!late,v2)] else [])))
  (λ D hD=>⟨qar9 hD _,LA.nil qaf9⟩) (λ D i H' _ _ h=>SqT.of (h.1 _ _ e4)) ?_ ?_
 ·intro D i y H' hD hi z9;obtain⟨sD,hD2⟩ := z9
  obtain⟨ds,hd1,hd2,hd3⟩:=hD2.lst
  refine⟨λ k v e=>?_,?_⟩
  ·match k,e with
   |0,e=>cases e
   |k+1,e=>cases e
  match i,hi with
  |0,hi =>
   have ey:y=.ref ra:=by simpa using hi.symm
   subst ey
   have er:=sD _ _ e24
   refine⟨_,U,ra,_,_,_,U,U,SqT.of er,U,_,U,ra,_,_,_,U,U,SqT.of er,U,_,_,U,U,_,U,?_⟩
   refine ite2 (λ c=>?_) (λ c=>?_)
   ·refine⟨_,U,ds,hd1,qbf9 (by rw[hd2];simp),qbl9 hD sD,?_⟩
    have c':p<=x1:=oT9 c
    have:=hD2.append (x:=(p,x1,late,v1)) hd1 er
    simpa [c'] using this
   ·have c':¬p<=x1:=λ z=>c (dT9 z)
    exact⟨sD,by simpa [c'] using hD2⟩
  |1,hi =>
   have ey:y=.ref rt:=by simpa using hi.symm
   subst ey
   have er:=sD _ _ e34
   refine⟨_,U,rt,_,_,_,U,U,SqT.of er,U,_,U,rt,_,_,_,U,U,SqT.of er,U,_,_,U,U,_,U,?_⟩
   refine ite2 (λ c=>?_) (λ c=>?_)
   ·refine⟨_,U,ds,hd1,qbf9 (by rw[hd2];simp;split<;>simp),qbl9 hD sD,?_⟩
    have c':x2<=qq:=oT9 c
    have:=hD2.append (x:=(x2,qq,!late,v2)) hd1 er
    simpa [c'] using this
   ·have c':¬x2<=qq:=λ z=>c (dT9 z)
    exact⟨sD,by simpa [c'] using hD2⟩
  |k+2,hi=>simp at hi
 ·intro D H' hD z9;obtain⟨sD,hD2⟩ := z9
  exact q D H' (s14.trans sD) (s14.free hD) (by simpa using hD2)
theorem ok_joined(F:Fun K "joined" "joined" qgh9 f fd)(B:Bl mg)(Cy1:Callee P w K mg base n "overlay" ["day","one","other"] spOverlay)(Cn1:Callee P w K mg base n "picked" ["p","q","waiting","riding","late"] spPicked)(Ck0:Callee P w K mg base n "clock_from" ["day","rows"] spClockFrom) :
  FnOk P w K mg base CX0 (n+1) f fd ["day","one","other","late"] spJoined:=by
 refine F.okQ sc_joined ?_ ?_
 walk_at "o"
 obtain⟨day,p1,p2,late,R1,R2,f1,f2,rfl,hR1,hR2,hl1,hl2,ck1,ck2,T1,T2,q⟩:=h
 refine⟨_,(qab9 (qai9 (i:=4) sc_joined.nd U (zaf U) (qdh9 qac9)) (qab9 (qfk9 PassesOwn.never U (qcp9 (qe_fn Cy1 hr U (qa_c (qv 0) (qa_c (qv 1) (qa_c (qv 2) qac9))))) (qgx9 U (qaq9 (qam9 (i:=5) sc_joined.nd U (zaf U)) (qaq9 (qam9 (i:=6) sc_joined.nd U (zaf U)) (qaq9 (qam9 (i:=7) sc_joined.nd U (zaf U)) (qaq9 (qam9 (i:=8) sc_joined.nd U (zaf U)) (qaq9 (qam9 (i:=9) sc_joined.nd U (zaf U)) (qaq9 (qam9 (i:=10) sc_joined.nd U (zaf U)) qdz9))))))) (qae9 (qs_if (qaj9 qbr9 (qv 7) (qv 9) (qat9 _)) (qae9 (qbm9 (qbh9 (qv 4) (qa_c (qca9 (qa_c (qv 5) (qa_c (qv 6) (qa_c (qv 7) (qa_c (qlm9 (qbt9 (qcb9 (qv 3)) (qe_cb (qjv9 U) U B.max bt_max (qa_c (qv 8) (qa_c (qv 10) qac9))) (qe_cb (qhd9 U) U B.min bt_min (qa_c (qv 8) (qa_c (qv 10) qac9))))) qac9))))) qac9)))) (qae9 (qs_if (qcb9 (qv 7)) (qae9 (qbm9 (qkd9 (qv 4) (qa_c (qe_fn Cn1 hr U (qa_c (qv 5) (qa_c (qv 6) (qa_c (qv 8) (qa_c (qv 10) (qa_c (qv 3) qac9)))))) qac9)))) (qae9 (qbm9 (qkd9 (qv 4) (qa_c (qe_fn Cn1 hr U (qa_c (qv 5) (qa_c (qv 6) (qa_c (qv 10) (qa_c (qv 8) (qa_c (qv 3) qac9)))))) qac9))))))))) (qae9 (qal9 (qe_fn Ck0 hr U (qa_c (qv 0) (qa_c (qv 4) qac9))))))),?_⟩
 walk_at "d"
 refine⟨z09,λ pr hpr=>?_⟩
 have s0:Same H (upd H pr (.lst [])):=qar9 hpr _
 refine⟨_,U,_,U,_,U,day,p1,p2,R1,R2,f1,f2,U,hR1.same s0,hR2.same s0,hl1,hl2,ck1,ck2,T1,T2,λ lo O H1 s1 fr1 hO hOl cv=>?_⟩
 have er1:H1 pr=some (.lst []):=s1 _ _ qaf9
 have nlo:lo≠pr:=λ e=>by rw[e,qaf9] at fr1;cases fr1
 have s01:=s0.trans s1
 clear fr1 s1
 obtain⟨ws,hw1,hw2,hw3⟩:=hO.lst
 have nws:∀(i:Nat) r,ws[i]?=some (.ref r)->r≠pr:=λ i r e z=>by
  obtain⟨r',x,e1,_,e2⟩:=hw3 i _ e
  cases e1
  rw[z,er1] at e2
  cases e2
 have rg:=Ma.rise_jn late (ck1.rise T1) (ck2.rise T2)
 refine⟨lo,U,⟨_,SqL.of hw1⟩,qdy9 (K:=K) (a:=lo) (xs:=ws)
  (λ i σ H'=>∃(S:List T4)(at_:Int)(v1 v2 v3 v4 v5 v6:Option V),σ=[some (.int day),some (.ref p1),some (.ref p2),some (.bl late),some (.ref pr),v1,v2,v3,v4,v5,v6]/\Same H H'/\SameT pr H1 H'/\LA enc4 H' pr S/\S.length<=2*i/\Ma.Cov (λ x=>Ma.jn late (f1 x) (f2 x)) 0 S at_/\(∀r,O[i]?=some r->r.1=at_)/\(i=O.length->at_=day))
  ⟨[],0,_,_,_,_,_,_,rfl,s01,λ b o e _=>e,LA.nil er1,by simp,rfl,λ r e=>(cv.get e).2.2.2.2.1 rfl,λ e=>?_⟩
  (λ i σ H' _ z9=>by obtain⟨_,_,_,_,_,_,_,_,_,_,s1,_⟩ := z9;exact SqL.of (s1 _ _ hw1 nlo)) ?_ ?_⟩
 ·rw[zbe.mp e.symm] at cv
  exact cv
 ·intro i y σ H2 hi z9;obtain⟨S,at_,v1,v2,v3,v4,v5,v6,rfl,sH,s2,hS,hSl,hC,hat,_⟩ := z9
  obtain⟨r,x,rfl,ex,er⟩:=hw3 i y hi
  have e1:=hat x ex
  obtain⟨g1,g2,g3,g4,g5,g6,g7⟩:=cv.get ex
  have er2:=s2 _ _ er (nws i r hi)
  have hi2:i<O.length:=(zab.mp ex).1
  have jr:=Ma.joinRow_cov (late:=late) g2 g4
  rw[e1] at jr
  have hC2:=hC.append jr
  have jl:=Ma.joinRow_len late x
  obtain⟨us,hu1,hu2,hu3⟩:=hS.lst
  have fin:∀(H4:Hp)(u1 u2 u3 u4 u5 u6:Option V),SameT pr H2 H4->LA enc4 H4 pr (S++Ma.joinRow late x)->∃(S:List T4)(at_:Int)(v1 v2 v3 v4 v5 v6:Option V),[some (.int day),some (.ref p1),some (.ref p2),some (.bl late),some (.ref pr),u1,u2,u3,u4,u5,u6]=[some (.int day),some (.ref p1),some (.ref p2),some (.bl late),some (.ref pr),v1,v2,v3,v4,v5,v6]/\Same H H4/\SameT pr H1 H4/\LA enc4 H4 pr S/\S.length<=2*(i+1)/\Ma.Cov (λ x=>Ma.jn late (f1 x) (f2 x)) 0 S at_/\(∀r,O[i+1]?=some r->r.1=at_)/\(i+1=O.length->at_=day):=by
   intro H4 u1 u2 u3 u4 u5 u6 s4 h4
   refine⟨_,_,u1,u2,u3,u4,u5,u6,U,λ b o e=>s4 _ _ (sH _ _ e) (qaz9 e hpr),λ b o e nb=>s4 _ _ (s2 _ _ e nb) nb,h4,?_,hC2,λ r' e'=>g6 r' e',λ e=>g7 e⟩
   rw[zam]
   omega
  obtain⟨xp,xq,xs,xv,xs',xv'⟩:=x
  unfold Ma.joinRow at fin
  dsimp only at fin
  refine⟨r,_,U,SqT.of er2,U,_,_,U,_,_,U,_,_,U,_,_,U,_,_,U,_,_,U,U,?_⟩
  refine⟨_,U,_,U,U,_,U,?_⟩
  refine ite2 (λ c=>?_) (λ c=>?_)
  ·have c':xs=xs':=by
    have:=oT9 c
    injection this
   rw[if_pos c'] at fin
   refine⟨_,U,.inl ⟨U,_,SqL.of hu1⟩,_,U,_,U,_,U,?_⟩
   refine⟨λ v H'=>H'=H2/\v=.int (Ma.jn late xv xv'),?_,?_⟩
   ·refine⟨_,U,_,U,?_⟩
    unfold Ma.jn
    cases late
    ·exact iteF ⟨_,rfl,_,rfl,_,_,rfl,rfl,rfl⟩
    ·exact iteT ⟨_,rfl,_,rfl,_,_,rfl,rfl,rfl⟩
   intro v H3 z9;obtain⟨rfl,rfl⟩ := z9
   refine⟨z49,λ rn hrn=>?_⟩
   have s4:=qar9 hrn (.tup [.int xp,.int xq,.bl xs,.int (Ma.jn late xv xv')])
   refine⟨pr,us,.ref rn,U,U,s4 _ _ hu1,qbf9 ⋯,?_⟩
   refine fin _ _ _ _ _ _ _ (λ b o e nb=>?_) ((hS.same s4).append (x:=(xp,xq,xs,Ma.jn late xv xv')) (s4 _ _ hu1) qaf9)
   rw[qap9 nb]
   exact s4 _ _ e
  ·have c':¬xs=xs':=λ e=>c (dT9 (by rw[e]))
   rw[if_neg c'] at fin
   refine⟨_,U,_,U,?_⟩
   have ext:∀(L:List T4),L.length<=2->(∀(H4:Hp)(u1 u2 u3 u4 u5 u6:Option V),SameT pr H2 H4->LA enc4 H4 pr (S++L)->∃(S:List T4)(at_:Int)(v1 v2 v3 v4 v5 v6:Option V),[some (.int day),some (.ref p1),some (.ref p2),some (.bl late),some (.ref pr),u1,u2,u3,u4,u5,u6]=[some (.int day),some (.ref p1),some (.ref p2),some (.bl late),some (.ref pr),v1,v2,v3,v4,v5,v6]/\Same H H4/\SameT pr H1 H4/\LA enc4 H4 pr S/\S.length<=2*(i+1)/\Ma.Cov (λ x=>Ma.jn late (f1 x) (f2 x)) 0 S at_/\(∀r,O[i+1]?=some r->r.1=at_)/\(i+1=O.length->at_=day)) ->
     ∀(l:Addr)(H3:Hp),Same H2 H3->LA enc4 H3 l L->∀(u1 u2 u3 u4 u5 u6:Option V),∃(l2 b:Addr)(ys zs:List V),V.ref pr=.ref l2/\[V.ref l]=[.ref b]/\H3 l2=some (.lst ys)/\H3 b=some (.lst zs)/\ys.length+zs.length<=sizeLine/\∃(S:List T4)(at_:Int)(v1 v2 v3 v4 v5 v6:Option V),[some (.int day),some (.ref p1),some (.ref p2),some (.bl late),some (.ref pr),u1,u2,u3,u4,u5,u6]=[some (.int day),some (.ref p1),some (.ref p2),some (.bl late),some (.ref pr),v1,v2,v3,v4,v5,v6]/\Same H (upd H3 l2 (.lst (ys++zs)))/\SameT pr H1 (upd H3 l2 (.lst (ys++zs)))/\LA enc4 (upd H3 l2 (.lst (ys++zs))) pr S/\S.length<=2*(i+1)/\Ma.Cov (λ x=>Ma.jn late (f1 x) (f2 x)) 0 S at_/\(∀r,O[i+1]?=some r->r.1=at_)/\(i+1=O.length->at_=day):=by
    intro L hL fin' l H3 s3 hl u1 u2 u3 u4 u5 u6
    obtain⟨zs,z1,z2,z3⟩:=hl.lst
    refine⟨pr,l,us,zs,U,U,s3 _ _ hu1,z1,?_,fin' _ _ _ _ _ _ _ (λ b o e nb=>?_) ((hS.same s3).extend hl (s3 _ _ hu1) z1)⟩
    ·have:=qbf9 (n:=us.length+zs.length) ⋯
     omega
    ·rw[qap9 nb]
     exact s3 _ _ e
   cases xs with
   |true =>
    rw[if_pos rfl] at fin
    refine iteT ⟨_,rfl,.inl ⟨rfl,_,SqL.of hu1⟩,_,rfl,_,rfl,_,rfl,_,rfl,_,rfl,xp,xq,xv,xv',late,rfl,λ l H3 s3 _ hl=>?_⟩
    exact ext _ (Ma.pick_len ..) fin l H3 s3 hl _ _ _ _ _ _
   |false =>
    rw[if_neg (by decide)] at fin
    refine iteF ⟨_,rfl,.inl ⟨rfl,_,SqL.of hu1⟩,_,rfl,_,rfl,_,rfl,_,rfl,_,rfl,xp,xq,xv',xv,late,rfl,λ l H3 s3 _ hl=>?_⟩
    exact ext _ (Ma.pick_len ..) fin l H3 s3 hl _ _ _ _ _ _
 ·intro σ H2 z9;obtain⟨S,at_,v1,v2,v3,v4,v5,v6,rfl,sH,s2,hS,hSl,hC,hat,hend⟩ := z9
  have e:=hend hw2
  subst e
  refine⟨_,U,_,U,at_,pr,S,_,U,hS,⋯,ck1.d0,rg,hC,λ l R H3 s3 fl hR hRl can=>?_⟩
  exact q l R H3 (sH.trans s3) (sH.free fl) hR ⋯ can
theorem ok_sooner(F:Fun K "sooner" "sooner" qge9 f fd)(B:Bl mg)(Cf2:Callee P w K mg base n "joined" ["day","one","other","late"] spJoined):FnOk P w K mg base CX0 (n+1) f fd ["day","one","other"] (spTwo Ma.omin):=by
 refine F.okQ sc_sooner ?_ ?_
 walk_at "o"
 obtain⟨day,p1,p2,R1,R2,rfl,hR1,hR2,hl1,hl2,ck1,ck2,q⟩:=h
 refine⟨_,(qab9 (qs_if (qfc9 (QW.pt (qw_or (qaj9 qbr9 (qe_cb qau9 U B.len qce9 (qa_c (qv 1) qac9)) qad9 (qat9 _)) (qew9 (qaj9 qbr9 (qe_cb qau9 U B.len qce9 (qa_c (qv 2) qac9)) qad9 (qat9 _)))))) (qae9 (qal9 (qe_op qrn9 (qv 1) (qv 2)))) qao9) (qae9 (qal9 (qe_fn Cf2 hr U (qa_c (qv 0) (qa_c (qv 1) (qa_c (qv 2) (qa_c qe_bl qac9)))))))),?_⟩
 walk_at "d"
 obtain⟨us,hu1,hu2,hu3⟩:=hR1.lst
 obtain⟨ws,hw1,hw2,hw3⟩:=hR2.lst
 refine⟨λ b H'=>H'=H/\b=decide (R1=[]\/R2=[]),?_,?_⟩
 ·refine⟨_,U,p1,_,U,.inl (SqL.of hu1),U,_,U,?_⟩
  refine ite2 (λ c=>?_) (λ c=>?_)
  ·have c':=oT9 c
   injection c' with c'
   have e:R1=[]:=zbe.mp ⋯
   exact⟨U,by simp[e]⟩
  ·have n1:R1≠[]:=λ e=>c (dT9 (by rw[hu2,e];rfl))
   refine⟨_,U,p2,_,U,.inl (SqL.of hw1),U,_,U,U,?_⟩
   rw[hw2]
   cases R2 with
   |nil=>simp
   |cons x r=>simp[n1];omega
 intro b H1 z9;obtain⟨rfl,rfl⟩ := z9
 refine ite2 (λ c=>?_) (λ c=>?_)
 ·have c':=oT9 c
  refine⟨_,U,_,U,p1,p2,us,ws,U,U,hu1,hw1,?_,λ l hl=>?_⟩
  ·have:=qbf9 (n:=us.length+ws.length) ⋯
   omega
  refine q l (R1++R2) _ (qar9 hl _) hl (hR1.cat hR2 hu1 hw1 hl) (by rw[zam];omega) ?_ (λ t=>Ma.bt_append day R1 R2 t)
  rcases c' with e|e
  ·rw[e];exact ck2
  ·rw[e,zbv];exact ck1
 ·have c':¬(R1=[]\/R2=[]):=λ z=>c (dT9 z)
  have n1:R1≠[]:=λ e=>c' (.inl e)
  have n2:R2≠[]:=λ e=>c' (.inr e)
  have T1:=Ma.tells_bf (d:=day) n1
  have T2:=Ma.tells_bf (d:=day) n2
  refine⟨_,U,_,U,_,U,day,p1,p2,false,R1,R2,_,_,U,hR1,hR2,hl1,hl2,ck1,ck2,T1,T2,λ l R H2 s2 fl hR hRl can=>?_⟩
  have rg:=Ma.rise_jn false (ck1.rise T1) (ck2.rise T2)
  exact q l R H2 s2 fl hR hRl (can.ck ck1.d0 rg) λ t=>by rw[can.tells ck1.d0 rg t,T1.min T2 t]
inductive spWithin(m:Nat)(vs:List V)(H:Hp)(Q:VK)(z3q:XK):Prop
 |mk (day:Int) (p:Addr) (R:List T3):vs=[.int day,.ref p]->LA enc3 H p R->R.length<=2 ^ m->R.length<=900000->0<day->Ma.Wins day R->(∀(l:Addr)(R':List T3)(H':Hp),Same H H'->H l=none->LA enc3 H' l R'->R'.length<=2*R.length+1->Ma.CK day R'->(∀t,Ma.bt day R' t=Ma.bt day R t)->Q (.ref l) H')->spWithin m vs H Q z3q
theorem qrf9(hd:0<d)(hW:Ma.Wins d R)(hl:R.length<=1):Ma.CK d R:=match R,hl,hW with
 | [],_,_=>Ma.ck_nil hd
 | [x],_,hW=>Ma.ck_one hd (hW x (zag.mpr rfl))
theorem qnq9(F:Fun K "clock_within" "clock_within" qbn9 f fd)(B:Bl mg)(bd:Binds K fd ["day","board"] [])(kp:W.keepIn K (.ref f)=true)(mgf:mg "clock_within"=some (.ref f))(Ce3:Callee P w K mg base n "sooner" ["day","one","other"] (spTwo Ma.omin)) :
  ∀m,FnOk P w K mg base CX0 (n+m+1) f fd ["day","board"] (spWithin m)
 |0=>by
  refine F.okQ sc_clock_within (λ vs H Q E h=>?_) (λ cdv A outer s H vs Q E hr h=>?_)
  ·obtain⟨_,_,_,rfl,_⟩:=h
   rfl
  obtain⟨day,p,R,rfl,hR,hl,hl9,hd,hW,q⟩:=h
  have Cn0:Callee P w K mg base (n+0) "sooner" ["day","one","other"] (λ _ _ _ _=>False):=by
   obtain⟨f,fd,G,b,kp,m⟩:=Ce3.ex
   exact⟨f,fd,⟨λ _ _ _ _ h=>h.elim,λ _ _ _ _ _ _ _ _ _ _ _ _ _ h=>h.elim⟩,b,kp,m⟩
  have Cd0:Callee P w K mg base (n+0) "clock_within" ["day","board"] (λ _ _ _ _=>False):=⟨f,fd,⟨λ _ _ _ _ h=>h.elim,λ _ _ _ _ _ _ _ _ _ _ _ _ _ h=>h.elim⟩,bd,kp,mgf⟩
  refine⟨_,(qab9 (qs_if (qaj9 qff9 (qe_cb qau9 U B.len qce9 (qa_c (qv 1) qac9)) qad9 (qat9 _)) (qae9 (qal9 (qe_ct qih9 U B.list_ qkv9 (qa_c (qv 1) qac9)))) qao9) (qab9 (qai9 (i:=2) sc_clock_within.nd U (zaf U) (qe_op qbd9 (qe_cb qau9 U B.len qce9 (qa_c (qv 1) qac9)) qad9)) (qae9 (qal9 (qe_fn Cn0 hr U (qa_c (qv 0) (qa_c (qe_fn Cd0 hr U (qa_c (qv 0) (qa_c (qkh9 (qv 1) qfz9 (qft9 (qv 2))) qac9))) (qa_c (qe_fn Cd0 hr U (qa_c (qv 0) (qa_c (qkh9 (qv 1) (qft9 (qv 2)) qfz9) qac9))) qac9)))))))),?_⟩
  walk_at "d"
  obtain⟨us,hu1,hu2,hu3⟩:=hR.lst
  have hl':R.length<=1:=hl
  refine⟨_,U,p,_,U,.inl (SqL.of hu1),_,_,U,U,_,U,iteP (dT9 (by show((us.length:Nat):Int)<2;omega)) ?_⟩
  refine⟨_,U,p,_,U,.inl (SqL.of hu1),λ pl hpl=>?_⟩
  generalize hgH1:upd _ pl _=H1
  revert H1
  refine qbb9 hpl λ H1 s1 e1=>?_
  have hR1:=hR.copy s1 hu1 e1
  refine q pl R H1 s1 hpl hR1 ⋯ ?_ λ t=>rfl
  exact qrf9 hd hW hl'
 |m+1=>by
  have Cd0:Callee P w K mg base (n+m+1) "clock_within" ["day","board"] (spWithin m):=Callee.mk' (qnq9 F B bd kp mgf Ce3 m) bd kp mgf
  have Cn0:=Ce3.up (show n<=n+m+1 by omega)
  refine F.okQ sc_clock_within (λ vs H Q E h=>?_) (λ cdv A outer s H vs Q E hr h=>?_)
  ·obtain⟨_,_,_,rfl,_⟩:=h
   rfl
  obtain⟨day,p,R,rfl,hR,hl,hl9,hd,hW,q⟩:=h
  refine⟨_,(qab9 (qs_if (qaj9 qff9 (qe_cb qau9 U B.len qce9 (qa_c (qv 1) qac9)) qad9 (qat9 _)) (qae9 (qal9 (qe_ct qih9 U B.list_ qkv9 (qa_c (qv 1) qac9)))) qao9) (qab9 (qai9 (i:=2) sc_clock_within.nd U (zaf U) (qe_op qbd9 (qe_cb qau9 U B.len qce9 (qa_c (qv 1) qac9)) qad9)) (qae9 (qal9 (qe_fn Cn0 hr U (qa_c (qv 0) (qa_c (qe_fn Cd0 hr U (qa_c (qv 0) (qa_c (qkh9 (qv 1) qfz9 (qft9 (qv 2))) qac9))) (qa_c (qe_fn Cd0 hr U (qa_c (qv 0) (qa_c (qkh9 (qv 1) (qft9 (qv 2)) qfz9) qac9))) qac9)))))))),?_⟩
  walk_at "d"
  obtain⟨us,hu1,hu2,hu3⟩:=hR.lst
  refine⟨_,U,p,_,U,.inl (SqL.of hu1),_,_,U,U,_,U,?_⟩
  refine ite2 (λ c=>?_) (λ c=>?_)
  ·have c':((us.length:Nat):Int)<2:=oT9 c
   refine⟨_,U,p,_,U,.inl (SqL.of hu1),λ pl hpl=>?_⟩
   generalize hgH1:upd _ pl _=H1
   revert H1
   refine qbb9 hpl λ H1 s1 e1=>?_
   have hR1:=hR.copy s1 hu1 e1
   have hl':R.length<=1:=⋯
   refine q pl R H1 s1 hpl hR1 ⋯ ?_ λ t=>rfl
   exact qrf9 hd hW hl'
  have c':¬((us.length:Nat):Int)<2:=λ z=>c (dT9 z)
  refine⟨_,U,p,_,U,.inl (SqL.of hu1),_,_,U,U,⟨by decide,by decide⟩,?_⟩
  have eh:((us.length:Nat):Int)/2=((R.length/2:Nat):Int):=by rw[hu2];rfl
  dsimp only
  rw[eh]
  generalize hh:R.length/2=h
  have h1:0<h:=⋯
  have h2:h<=us.length:=⋯
  have pw:2 ^ (m+1)=2*2 ^ m:=by rw[Nat.pow_succ,Nat.mul_comm]
  refine⟨_,U,_,U,_,U,_,U,_,U,p,us,U,SqL.of hu1,λ pa hpa=>?_⟩
  rw[qry9 us h h2]
  have ea:us.take h=(us.drop 0).take h:=by simp
  rw[ea]
  generalize hgH1:upd _ pa _=H1
  revert H1
  refine qbb9 hpa λ H1 s1 e1=>?_
  have hA:=hR.part s1 hu1 0 h e1
  rw[zcw] at hA
  refine⟨day,pa,R.take h,U,hA,by rw[zbc];omega,by rw[zbc];omega,hd,λ w hw=>hW w (zcv hw),λ la Ra H2 s2 fa ha hal cka bta=>?_⟩
  have hu12:=s2 _ _ (s1 _ _ hu1)
  have hR2:=(hR.same s1).same s2
  refine⟨_,U,_,U,_,U,_,U,p,us,U,SqL.of hu12,λ pb hpb=>?_⟩
  rw[qru9 us h h2]
  have eb:us.drop h=(us.drop h).take us.length:=by rw[zcm];simp
  rw[eb]
  generalize hgH3:upd _ pb _=H3
  revert H3
  refine qbb9 hpb λ H3 s3 e3=>?_
  have hB:=hR2.part s3 hu12 h us.length e3
  rw[zcm (by rw[zcj];omega)] at hB
  refine⟨day,pb,R.drop h,U,hB,by rw[zcj];omega,by rw[zcj];omega,hd,λ w hw=>hW w (zdp hw),λ lb Rb H4 s4 fb hb hbl ckb btb=>?_⟩
  have s34:=s3.trans s4
  rw[zbc] at hal
  rw[zcj] at hbl
  refine⟨day,la,lb,Ra,Rb,U,ha.same s34,hb,⋯,⋯,cka,ckb,λ l R' H5 s5 fl hR' hl' ck' bt'=>?_⟩
  have s05:=((s1.trans s2).trans s34).trans s5
  have eb:∀t,Ma.bt day R' t=Ma.bt day R t:=λ t=>by rw[bt',bta,btb,<- Ma.bt_append,zef]
  exact q l R' H5 s05 (((s1.trans s2).trans s34).free fl) hR' (Ma.ck_len ck' hW eb) ck' eb
inductive spClockOf(vs:List V)(H:Hp)(Q:VK)(z3q:XK):Prop
 |mk (day:Int) (p:Addr) (R:List T3):vs=[.int day,.ref p]->LA enc3 H p R->R.length<=1000->0<day->Ma.Wins day R->(∀(l:Addr)(R':List T3)(H':Hp),Same H H'->H l=none->LA enc3 H' l R'->R'.length<=2*R.length+1->Ma.CK day R'->(∀t,Ma.bt day R' t=Ma.bt day R t)->Q (.ref l) H')->spClockOf vs H Q z3q
theorem qov9(F:Fun K "clock_of" "clock_of" qej9 f fd)(Cr0:Callee P w K mg base n "is_board" ["day","thing"] spBoard)(Cd0:Callee P w K mg base n "clock_within" ["day","board"] (spWithin 10)):FnOk P w K mg base CX0 (n+1) f fd ["day","board"] spClockOf:=by
 refine F.okQ qox9 ?_ ?_
 walk_at "o"
 obtain⟨day,p,R,rfl,hR,hl,hd,hW,q⟩:=h
 refine⟨_,(qab9 (qs_if (qdv9 (qcb9 (qe_fn Cr0 hr U (qa_c (qv 0) (qa_c (qv 1) qac9))))) (qae9 qfw9) qao9) (qae9 (qal9 (qe_fn Cd0 hr U (qa_c (qv 0) (qa_c (qv 1) qac9)))))),?_⟩
 walk_at "d"
 refine⟨_,U,_,U,day,.ref p,U,la_dv3 hR hl,λ H1 s1=>?_⟩
 rw[qpd9 hR hW]
 refine⟨_,U,iteF ?_⟩
 exact⟨_,U,_,U,day,p,R,U,hR.same s1,(by show R.length<=1024;omega),⋯,hd,hW,λ l R' H2 s2 fl h1 h2 h3 h4=>q l R' H2 (s1.trans s2) (s1.free fl) h1 h2 h3 h4⟩
theorem ok_cell(F:Fun K "_law_cell_at" "_law_cell_at" qbz9 f fd)(B:Bl mg):FnOk P w K mg base CX0 (n+1) f fd ["script","k"] (spCell K):=by
 refine F.okQ qja9 ?_ ?_
 walk_at "o"
 obtain⟨a,ns,k,rfl,hS,h0,q⟩:=h
 refine⟨_,(qab9 (qs_if (qaj9 qff9 (qv 1) (qe_cb qau9 U B.len qce9 (qa_c (qv 0) qac9)) (qat9 _)) (qae9 (qal9 (qe_ix qak9 (qv 0) (qv 1) Y9))) qao9) (qae9 (qal9 qad9))),?_⟩
 walk_at "d"
 have hl:(ns.map V.int).length=ns.length:=zad _
 refine⟨_,U,_,U,a,_,U,.inl hS,_,_,U,U,_,U,?_⟩
 refine ite2 (λ c=>?_) (λ c=>?_)
 ·have c':k<(((ns.map V.int).length:Nat):Int):=oT9 c
  rw[hl] at c'
  obtain⟨v,hv⟩:=at_int (ns:=ns) h0 ⋯
  exact⟨_,U,_,U,a,_,_,_,U,U,hS,hv,q v⟩
 ·exact q 0
theorem ok_day(F:Fun K "_law_day" "_law_day" qee9 f fd):FnOk P w K mg base CX0 (n+1) f fd ["cell"] spDay:=by
 refine F.okQ qpa9 ?_ ?_
 walk_at "o"
 obtain⟨c,rfl,q⟩:=h
 refine⟨_,(qab9 (qs_if (qaj9 qbr9 (qe_op qay9 (qv 0) qad9) qad9 (qat9 _)) (qae9 (qal9 (qe_ix qak9 (qdh9 (qa_c qad9 (qa_c qad9 (qa_c qad9 (qa_c qad9 (qa_c qad9 (qa_c (qe_op qkt9 qad9 qad9) qac9))))))) (qe_op qay9 (qe_op qbd9 (qv 0) qad9) qad9) Y9))) qao9) (qab9 (qs_if (qaj9 qbr9 (qe_op qay9 (qv 0) qad9) qad9 (qat9 _)) (qae9 (qal9 (qe_op qas9 qad9 (qe_op qay9 (qe_op qbd9 (qv 0) qad9) qad9)))) qao9) (qae9 (qal9 (qe_op qas9 qad9 (qe_op qay9 (qe_op qbd9 (qv 0) qad9) (qe_op qkt9 qad9 qad9))))))),?_⟩
 walk_at "d"
 refine⟨_,U,_,_,U,U,(by show(0:Int)<3;decide),U,_,U,?_⟩
 refine ite2 (λ _=>?_) (λ _=>?_)
 ·refine⟨_,_,U,U,⟨by decide,by decide,by decide⟩,z69,λ p hp=>?_⟩
  obtain⟨v,hv,v1,v2⟩:=day6 (c:=(10:Int) ^ (15:Int).toNat) (j:=c/3%6) (by rw[pow15];decide) (zbr _ (by decide)) (zbk _ (by decide))
  refine⟨_,U,_,_,U,U,⟨by decide,by decide⟩,_,_,U,U,(by show(0:Int)<6;decide),p,_,_,.int v,U,U,SqL.of qaf9,hv,?_⟩
  exact q v _ v1 v2 (qar9 hp _)
 refine⟨_,U,_,_,U,U,(by show(0:Int)<3;decide),U,_,U,?_⟩
 refine ite2 (λ _=>?_) (λ _=>?_)
 ·refine⟨_,U,_,_,U,U,⟨by decide,by decide⟩,_,_,U,U,(by show(0:Int)<60;decide),_,_,U,U,?_⟩
  have h0:=zbr (c/3) (show(60:Int)≠0 by decide)
  have h1:=zbk (c/3) (show(0:Int)<60 by decide)
  exact q _ H ⋯ ⋯ (Same.refl H)
 ·refine⟨_,U,_,_,U,U,⟨by decide,by decide⟩,_,_,U,U,⟨by decide,by decide,by decide⟩,_,_,U,U,(by show(0:Int)<10 ^ (15:Int).toNat;rw[pow15];decide),_,_,U,U,?_⟩
  have h0:=zbr (c/3) (show((10:Int) ^ (15:Int).toNat)≠0 by rw[pow15];decide)
  have h1:=zbk (c/3) (show(0:Int)<(10:Int) ^ (15:Int).toNat by rw[pow15];decide)
  refine q (1+c/3%(10:Int) ^ (15:Int).toNat) H ?_ ?_ (Same.refl H)
  ·generalize c/3%(10:Int) ^ (15:Int).toNat=v at *
   rw[pow15] at h1
   omega
  ·generalize c/3%(10:Int) ^ (15:Int).toNat=v at *
   rw[pow15] at h1
   omega
inductive spNext(vs:List V)(H:Hp)(Q:VK)(z3q:XK):Prop
 |mk (day:Int) (r:Addr) (a b c t:Int):vs=[.int day,.ref r,.int t]->0<day->Tup3 H r a b c->Q (.int (Ma.nextO day a b t)) H->spNext vs H Q z3q
inductive spLast(vs:List V)(H:Hp)(Q:VK)(z3q:XK):Prop
 |mk (day:Int) (r:Addr) (a b c t:Int):vs=[.int day,.ref r,.int t]->0<day->Tup3 H r a b c->Q (.int (Ma.lastO day a b t)) H->spLast vs H Q z3q
theorem ok_next(F:Fun K "next_open" "next_open" qds9 f fd)(B:Bl mg):FnOk P w K mg base CX0 (n+1) f fd ["day","window","t"] spNext:=by
 refine F.okQ sc_next_open ?_ ?_
 walk_at "o"
 obtain⟨day,r,a,b,c,t,rfl,hd,hw,q⟩:=h
 refine⟨_,(qab9 (qai9 (i:=3) sc_next_open.nd U (zaf U) (qe_op qay9 (qv 2) (qv 0))) (qab9 (qai9 (i:=4) sc_next_open.nd U (zaf U) (qe_op qcc9 (qv 2) (qv 3))) (qab9 (qs_if (qaj9 qhb9 (qv 3) (qe_ix qan9 (qv 1) qad9 Y9) (qat9 _)) (qae9 (qal9 (qe_op qas9 (qe_op qas9 (qv 4) (qv 0)) (qe_ix qan9 (qv 1) qad9 Y9)))) qao9) (qae9 (qal9 (qe_op qas9 (qv 4) (qe_cb (qjv9 U) U B.max bt_max (qa_c (qv 3) (qa_c (qe_ix qan9 (qv 1) qad9 Y9) qac9))))))))),?_⟩
 walk_at "d"
 refine⟨_,U,_,U,_,_,U,U,hd,?_⟩
 refine⟨_,U,_,U,_,_,U,U,?_⟩
 refine⟨_,U,_,U,r,_,_,_,U,U,SqT.of hw,U,_,_,U,U,_,U,?_⟩
 unfold Ma.nextO at q
 refine ite2 (λ c1=>?_) (λ c1=>?_)
 ·rw[if_pos (oT9 c1)] at q
  exact⟨_,U,_,U,_,_,U,U,_,U,r,_,_,_,U,U,SqT.of hw,U,_,_,U,U,q⟩
 ·rw[if_neg (λ z=>c1 (dT9 z))] at q
  exact⟨_,U,_,U,_,U,r,_,_,_,U,U,SqT.of hw,U,_,_,U,_,_,U,U,q⟩
theorem ok_last(F:Fun K "last_open" "last_open" qdl9 f fd)(B:Bl mg):FnOk P w K mg base CX0 (n+1) f fd ["day","window","t"] spLast:=by
 refine F.okQ sc_last_open ?_ ?_
 walk_at "o"
 obtain⟨day,r,a,b,c,t,rfl,hd,hw,q⟩:=h
 refine⟨_,(qab9 (qai9 (i:=3) sc_last_open.nd U (zaf U) (qe_op qay9 (qv 2) (qv 0))) (qab9 (qai9 (i:=4) sc_last_open.nd U (zaf U) (qe_op qcc9 (qv 2) (qv 3))) (qab9 (qs_if (qaj9 qff9 (qv 3) (qe_ix qan9 (qv 1) qad9 Y9) (qat9 _)) (qae9 (qal9 (qe_op qas9 (qe_op qcc9 (qv 4) (qv 0)) (qe_ix qan9 (qv 1) qad9 Y9)))) qao9) (qae9 (qal9 (qe_op qas9 (qv 4) (qe_cb (qhd9 U) U B.min bt_min (qa_c (qv 3) (qa_c (qe_ix qan9 (qv 1) qad9 Y9) qac9))))))))),?_⟩
 walk_at "d"
 refine⟨_,U,_,U,_,_,U,U,hd,?_⟩
 refine⟨_,U,_,U,_,_,U,U,?_⟩
 refine⟨_,U,_,U,r,_,_,_,U,U,SqT.of hw,U,_,_,U,U,_,U,?_⟩
 unfold Ma.lastO at q
 refine ite2 (λ c1=>?_) (λ c1=>?_)
 ·rw[if_pos (oT9 c1)] at q
  exact⟨_,U,_,U,_,_,U,U,_,U,r,_,_,_,U,U,SqT.of hw,U,_,_,U,U,q⟩
 ·rw[if_neg (λ z=>c1 (dT9 z))] at q
  exact⟨_,U,_,U,_,U,r,_,_,_,U,U,SqT.of hw,U,_,_,U,_,_,U,U,q⟩
theorem RowsAt.sameT{P:Addr}(h:RowsAt H p R)(s:SameT P H H')(t:TabOk H P pos qual):RowsAt H' p R:=h.mono λ b o e n=>s b o e λ z=>by
 obtain⟨ps,hp,_⟩:=t
 rw[z,hp] at e
 exact n ps (Option.some.inj e).symm
def pAt(p:T3->Bool)(R:List T3)(i:Nat):Bool:=p (rA R i,rB R i,rC R i)
inductive spLam(p:T3->Bool)(c':Addr)(qual:Str)(vs:List V)(H:Hp)(Q:VK)(z3q:XK):Prop
 |mk (r:Addr) (t:T3):vs=[.ref r]->H c'=some (.ext (CodeQ c' qual))->H r=some (.tup [.int t.1,.int t.2.1,.int t.2.2])->Q (.bl (p t)) H->spLam p c' qual vs H Q z3q
inductive spFW(p:T3->Bool)(fl c':Addr)(qual:Str)(vs:List V)(H:Hp)(Q:VK)(z3q:XK):Prop
 |mk (pc:Addr) (R:List T3):vs=[.ref pc,.ref fl]->H c'=some (.ext (CodeQ c' qual))->RowsAt H pc R->((∀i j,i<j->j<R.length->pAt p R i=true->pAt p R j=true))->(∀m:Nat,m<=R.length->(∀i,i<m->pAt p R i=false)->(m<R.length->pAt p R m=true)->Q (.int m) H)->spFW p fl c' qual vs H Q z3q
theorem qhh9{p:T3->Bool}(F:Fun K "first_where" "first_where" qaw9 f fd)(B:Bl mg)(G:FnOk P w K mg base CX0 n fl fdl ["window"] (spLam p c' qual))(bG:Binds K fdl ["window"] [])(ho:W.FnAt fl base) :
  FnOk P w K mg base CX0 (n+1) f fd ["clock","holds"] (spFW p fl c' qual):=by
 refine F.okQ sc_first_where ?_ ?_
 walk_at "o"
 obtain⟨pc,R,rfl,hc,hR,hmono,q⟩:=h
 refine⟨_,(qab9 (qai9 (i:=2) sc_first_where.nd U (zaf U) qad9) (qab9 (qai9 (i:=3) sc_first_where.nd U (zaf U) (qe_cb qau9 U B.len qce9 (qa_c (qv 0) qac9))) (qab9 (qii9 PassesOwn.never (qaj9 qff9 (qv 2) (qv 3) (qat9 _)) (qab9 (qai9 (i:=4) sc_first_where.nd U (zaf U) (qe_op qbd9 (qe_op qas9 (qv 2) (qv 3)) qad9)) (qae9 (qs_if (qcb9 ⟨pe_clo 1 G hr bG ho (qa_c (qe_ix qak9 (qv 0) (qv 4) Y9) qac9).run⟩) (qae9 (qai9 (i:=3) sc_first_where.nd U (zaf U) (qv 4))) (qae9 (qai9 (i:=2) sc_first_where.nd U (zaf U) (qe_op qas9 (qv 4) qad9))))))) (qae9 (qal9 (qv 2)))))),?_⟩
 walk_at "d"
 obtain⟨xs,hS,hlen,hat⟩:=hR.at (K:=K)
 refine⟨_,U,pc,_,U,.inl hS,?_⟩
 refine qif9 (λ σ H'=>H'=H/\∃(lo hi:Nat)(v:Option V),σ=[some (.ref pc),some (.ref fl),some (.int lo),some (.int hi),v]/\lo<=hi/\hi<=R.length/\(∀i,i<lo->pAt p R i=false)/\(∀i,hi<=i->i<R.length->pAt p R i=true))
  (λ σ _=>match σ with | [_,_,some (.int l),some (.int h),_]=>(h-l).toNat|_=>0) ⟨rfl,0,R.length,none,by rw[hlen];rfl,zbt _,zao _,λ i hi=>absurd hi (zgn _),λ i h1 h2=>absurd h2 (zfc.mpr h1)⟩ ?_ ?_
 ·intro σ H' z9;obtain⟨rfl,lo,hi,v,rfl,l1,l2,l3,l4⟩ := z9
  refine⟨_,U,_,U,_,_,U,U,_,U,?_⟩
  refine ite2 (λ c1=>?_) (λ c1=>?_)
  ·have c2:(lo:Int)<(hi:Int):=oT9 c1
   refine⟨_,U,_,U,_,_,U,U,_,_,U,U,⟨by decide,by decide⟩,?_⟩
   have m1:(lo:Int)<=((lo:Int)+hi)/2:=⋯
   have m2:((lo:Int)+hi)/2<(hi:Int):=⋯
   obtain⟨r,ha,hr'⟩:=hat (((lo:Int)+hi)/2) ⋯ ⋯
   refine⟨U,_,U,_,U,pc,_,_,_,U,U,hS,ha,r,(rA R (((lo:Int)+hi)/2).toNat,rB R (((lo:Int)+hi)/2).toNat,rC R (((lo:Int)+hi)/2).toNat),U,hc,hr',_,U,?_⟩
   refine ite2 (λ c3=>?_) (λ c3=>?_)
   ·refine⟨_,U,⟨U,lo,(((lo:Int)+hi)/2).toNat,some (.int (((lo:Int)+hi)/2)),?_,⋯,⋯,l3,λ i h1 h2=>?_⟩,?_⟩
    ·show _=([some (.ref pc),some (.ref fl),some (.int lo),some (.int (((((lo:Int)+hi)/2).toNat:Nat):Int)),some (.int (((lo:Int)+hi)/2))]:List (Option V))
     rw[show(((((lo:Int)+hi)/2).toNat:Nat):Int)=(((lo:Int)+hi)/2) by omega]
     rfl
    ·rcases(by omega:i=(((lo:Int)+hi)/2).toNat\/(((lo:Int)+hi)/2).toNat<i) with e|e
     ·rw[e];exact c3
     ·exact hmono _ _ e h2 c3
    ·show((((lo:Int)+hi)/2)-(lo:Int)).toNat<((hi:Int)-(lo:Int)).toNat
     omega
   ·refine⟨_,U,_,_,U,U,⟨U,(((lo:Int)+hi)/2).toNat+1,hi,some (.int (((lo:Int)+hi)/2)),?_,⋯,l2,λ i h1=>?_,l4⟩,?_⟩
    ·show _=([some (.ref pc),some (.ref fl),some (.int (((((lo:Int)+hi)/2).toNat+1:Nat):Int)),some (.int hi),some (.int (((lo:Int)+hi)/2))]:List (Option V))
     rw[show(((((lo:Int)+hi)/2).toNat+1:Nat):Int)=(((lo:Int)+hi)/2)+1 by omega]
     rfl
    ·have c4:pAt p R (((lo:Int)+hi)/2).toNat=false:=zby.mpr c3
     rcases(by omega:i=(((lo:Int)+hi)/2).toNat\/i<(((lo:Int)+hi)/2).toNat) with e|e
     ·rw[e];exact c4
     ·refine zby.mpr λ z=>?_
      have:=hmono _ _ e ⋯ z
      rw[c4] at this
      cases this
    ·show((hi:Int)-((((lo:Int)+hi)/2)+1)).toNat<((hi:Int)-(lo:Int)).toNat
     omega
  ·have c2:¬(lo:Int)<(hi:Int):=λ z=>c1 (dT9 z)
   have e:lo=hi:=⋯
   subst e
   exact⟨_,U,q lo l2 l3 λ h=>l4 lo (zao _) h⟩
 ·intro σ H' Q1 Q2 hq z9;obtain⟨v,e1,v',e2,i,j,e3,e4,k,e5,q1⟩ := z9
  exact⟨v,e1,v',e2,i,j,e3,e4,k,e5,hq _ _ q1⟩
end
def lamQ(x:Str):Str:=(x++".<locals>.")++"<lambda>"
def lamIn:Stmt->Expr
 | .Assign _ (.Call _ [_,l] _ _) _=>l
 |_=>.Constant .none 0 ⟨0,0,0,0⟩
def lamSc:Expr->Scope
 | .Lambda _ _ sc _=>sc
 |_=>{ kind:=.function,names:=[],isGenerator:=false,isCoroutine:=false }
def qnk9:Expr->Expr
 | .Lambda _ b _ _=>b
 |e=>e
def qnz9:Expr->Arguments
 | .Lambda a _ _ _=>a
 |_=>{ posonlyargs:=[],args:=[],vararg:=none,kwonlyargs:=[],kw_defaults:=[],kwarg:=none,defaults:=[] }
theorem qez9{c:Addr}(z:Str)(d:Addr)(e:([(y,c)]:List (Str×Addr)).lookup z=some d):z=y/\d=c:=by
 rw[zck] at e
 cases h:z==y with
 |true=>rw[h] at e;cases e;exact⟨eq_of_beq h,rfl⟩
 |false=>rw[h] at e;cases e
theorem qjw9{a b:Str}{c:Addr}(h:([(a,NameKind.local),(b,NameKind.free)]:List (Str×NameKind)).lookup x=some .free):∃d,([(b,c)]:List (Str×Addr)).lookup x=some d:=by
 rw[zck] at h
 cases h1:x==a with
 |true=>rw[h1] at h;cases h
 |false =>
  rw[h1] at h
  have h':([(b,NameKind.free)]:List (Str×NameKind)).lookup x=some .free:=h
  rw[zck] at h'
  cases h2:x==b with
  |true=>exact⟨c,by rw[zck,h2]⟩
  |false=>rw[h2] at h';cases h'
inductive spSetOff(P0:Addr)(pos:Pos)(vs:List V)(H:Hp)(Q:VK)(z3q:XK):Prop
 |mk (day:Int) (pc:Addr) (t:Int) (R:List T3):vs=[.int day,.ref pc,.int t]->RowsAt H pc R->TabOk H P0 pos (lamQ "set_off")->Ma.Clk day R.length (rA R) (rB R) (rC R)->((R.length=0->Q .non H))->((R.length≠0->∀(x y:Int)(r:Addr)(H':Hp),Ma.First day R.length (rA R) (rB R) (rC R) t x y->SameT P0 H H'->TabOk H' P0 pos (lamQ "set_off")->H' r=some (.tup [.int x,.int y])->Q (.ref r) H'))->spSetOff P0 pos vs H Q z3q
inductive spCome(P0:Addr)(pos:Pos)(vs:List V)(H:Hp)(Q:VK)(z3q:XK):Prop
 |mk (day:Int) (pc:Addr) (t:Int) (R:List T3):vs=[.int day,.ref pc,.int t]->RowsAt H pc R->TabOk H P0 pos (lamQ "set_off")->Ma.Clk day R.length (rA R) (rB R) (rC R)->((R.length=0->Q .non H))->((R.length≠0->∀(x y:Int)(H':Hp),Ma.First day R.length (rA R) (rB R) (rC R) t x y->SameT P0 H H'->TabOk H' P0 pos (lamQ "set_off")->Q (.int y) H'))->spCome P0 pos vs H Q z3q
theorem TabOk.same{P:Addr}{q:Str}(t:TabOk H P pos q)(a:Same H H1):TabOk H1 P pos q:=by
 obtain⟨ps,h1,h2,h3⟩:=t
 refine⟨ps,a _ _ h1,h2,?_⟩
 rcases h3 with h3|⟨c,h3,h4⟩
 ·exact .inl h3
 ·exact .inr ⟨c,h3,a _ _ h4⟩
abbrev lamS:Expr:=lamIn ((qag9 qbp9).getD 2 (.Pass ⟨0,0,0,0⟩))
theorem sc_lamS(c:Addr):LamScope ["window","hour"] ["window"] (lamSc lamS) [("hour",c)]:=⟨rfl,rfl,rfl,by decide,rfl,by decide +kernel,by decide +kernel,λ _ h=>qjw9 h,λ x y d h1 h2=>(qez9 x d h1).1.trans (qez9 y d h2).1.symm⟩
def spGS(v:V)(fl c':Addr):Sp:=match v with
 | .int hour=>spFW (λ t=>decide (hour<=t.2.1)) fl c' (lamQ "set_off")
 |_=>λ _ _ _ _=>False
section
variable {f:Addr}
theorem qcq9{ps:List Str}{f:Addr}:FnOk P w K mg base CX0 k f fd ps (λ _ _ _ _=>False):=⟨λ _ _ _ _ h=>h.elim,λ _ _ _ _ _ _ _ _ _ _ _ _ _ h=>h.elim⟩
theorem ok_lamS(FW:Fun K "first_where" "first_where" qaw9 g gd)(B:Bl mg)
  (hfl:base.get? fl=some (W.kla_obj "<lambda>" (lamQ "set_off") (qnz9 lamS) (qnk9 lamS) (lamSc lamS) [("hour",cy)] pm c' ctv)) (hca:qkj9 base (lamSc lamS) [("hour",cy)] ["window","hour"] ["window"] [v]) :
  FnOk P w K mg base CX0 2 g gd ["clock","holds"] (spGS v fl c'):=by
 cases v with
 |int hour =>
  refine qhh9 (n:=1) FW B (lam_ok (k:=0) (N:=["window","hour"]) (cs:=[.int hour]) hfl (λ vs H Q E h=>?_) (sc_lamS cy) hca (λ vs H Q E h=>?_) (λ A outer s H vs Q E hr h=>?_)) (Binds.all λ us hl=>match us,hl with | [_],_=>rfl) ⟨_,_,_,_,hfl⟩
  ·obtain⟨_,_,_,h,_⟩:=h
   exact h
  ·obtain⟨_,_,rfl,_⟩:=h
   rfl
  ·obtain⟨r,t,rfl,hc,hr',q⟩:=h
   refine⟨_,qne9 op_le (pv 1) (pe_ix qrg9 (pv 0) qpu9 Y9) (qat9 _),?_⟩
   exact⟨_,U,_,U,r,_,_,_,U,U,SqT.of hr',U,_,_,U,U,q⟩
 |non=>exact qcq9
 |bl b=>exact qcq9
 |str x=>exact qcq9
 |byt b=>exact qcq9
 |flt b=>exact qcq9
 |ref a=>exact qcq9
 |ty n=>exact qcq9
theorem K0{A B C:Nat->Int}(h:Ma.Clk d n A B C):0<d:=h.d0
theorem qsa9{c:Addr}{kV:Value}(lk:K.lookup f=some ⟨oc,od,.func (W.fnOf "set_off" "set_off" (qah9 qbp9) (qag9 qbp9) (qaa9 qbp9) .none kV doc pm an (.ref c) ct),osl⟩)(hcd:W.codeIn K (.ref c) "set_off"=true)
  (B:Bl mg) (hC:W.CodeHd base c P0) (hB:BMain mg base) (FW:Fun K "first_where" "first_where" qaw9 g gd) (bW:Binds K gd ["clock","holds"] []) (mW:mg "first_where"=some (.ref g)) (Cg1:Callee P w K mg base 2 "next_open" ["day","window","t"] spNext) :
  FnOk P w K mg base CX0 3 f (W.fnOf "set_off" "set_off" (qah9 qbp9) (qag9 qbp9) (qaa9 qbp9) .none kV doc pm an (.ref c) ct) ["day","clock","t"] (spSetOff P0 ⟨77,32,77,64⟩):=by
 refine fn_of lk hcd sc_set_off (λ vs H Q E h=>?_) (λ A outer s H vs Q E hr h=>?_)
 ·obtain⟨_,_,_,_,rfl,_⟩:=h
  rfl
 obtain⟨day,pc,t,R,rfl,hR,tab,hK,q0,q1⟩:=h
 refine⟨_,PSs.nox (QSs.run (qab9 (qs_if (qaj9 qbr9 (qe_cb qau9 rfl B.len qce9 (qa_c (qv 1) qac9)) qad9 (qat9 _)) (qae9 (qal9 qes9)) qao9) (qab9 (qai9 (i:=3) sc_set_off.nd rfl (zcr rfl) (qe_op qay9 (qv 2) (qv 0))) (qab9 (qai9 (i:=4) sc_set_off.nd rfl (zaf rfl) ⟨qig9 (N:=["window","hour"]) (ps:=["window"]) 3 hr rfl mW FW.kp bW rfl rfl hC hB rfl rfl rfl (zcr (zaf rfl)) rfl rfl rfl qez9 rfl rfl (pv 1) (λ base' fl c' v pm ctv hfl hca=>ok_lamS FW B hfl hca)⟩) (qab9 (qai9 (i:=5) sc_set_off.nd rfl (zaf rfl) (qe_ix qak9 (qv 1) (qe_op qay9 (qv 4) (qe_cb qau9 rfl B.len qce9 (qa_c (qv 1) qac9))) Y9)) (qab9 (qai9 (i:=6) sc_set_off.nd rfl (zaf rfl) (qe_fn Cg1 hr rfl (qa_c (qv 0) (qa_c (qv 5) (qa_c (qv 2) qac9))))) (qae9 (qal9 (qca9 (qa_c (qv 6) (qa_c (qe_op qas9 (qv 6) (qe_ix qan9 (qv 5) qad9 Y9)) qac9))))))))))),?_⟩
 walk_at "d"
 obtain⟨xs,hS,hlen,hat⟩:=hR.at (K:=K)
 refine⟨_,U,pc,_,U,.inl hS,U,_,U,?_⟩
 refine ite2 (λ c1=>?_) (λ c1=>?_)
 ·have c2:V.int ((xs.length:Nat):Int)=V.int 0:=oT9 c1
  injection c2 with c3
  exact q0 ⋯
 have n0:R.length≠0:=λ z=>c1 (dT9 (by rw[hlen,z];rfl))
 refine⟨_,U,_,U,_,_,U,U,K0 hK,?_⟩
 refine⟨_,U,_,U,tab,λ fl c' H2 sm tb hc'=>?_⟩
 refine⟨pc,R,U,hc',hR.sameT sm tab,λ i j hij hj hp=>?_,λ m m1 m2 m3=>?_⟩
 ·have a1:=oT9 hp
  have:=hK.lt i j hij hj
  have:=hK.ab j hj
  exact dT9 (by show t%day<=rB R j;have a2:t%day<=rB R i:=a1;omega)
 have hR2:=hR.sameT sm tab
 obtain⟨xs2,hS2,hlen2,hat2⟩:=hR2.at (K:=K)
 have hm:((m:Int)%((xs2.length:Nat):Int))=((m%R.length:Nat):Int):=by rw[hlen2];rfl
 have hml:m%R.length<R.length:=zhb _ ⋯
 obtain⟨r,ha,hr'⟩:=hat2 ((m%R.length:Nat):Int) (Int.natCast_nonneg _) ⋯
 refine⟨_,U,_,U,_,U,pc,_,U,.inl hS2,_,_,U,U,(by show 0<((xs2.length:Nat):Int);omega),pc,_,_,.ref r,U,U,hS2,by rw[hm];exact ha,?_⟩
 refine⟨_,U,_,U,_,U,day,r,_,_,_,t,U,hK.d0,hr',?_⟩
 refine⟨_,U,_,U,_,U,r,_,_,_,U,U,SqT.of hr',U,_,_,U,U,z29,λ r2 hr2=>?_⟩
 refine q1 n0 _ _ r2 _ (Ma.first_of hK ⋯ m1 (λ i hi=>?_) (λ hi=>?_) (i:=m%R.length) rfl) (SameT.trans sm (SameT.same (qar9 hr2 _))) (TabOk.same tb (qar9 hr2 _)) qaf9
 ·have z:=m2 i hi
  exact of_decide_eq_false z
 ·exact oT9 (m3 hi)
theorem ok_come(F:Fun K "come" "come" qjj9 f fd)(Cz1:Callee P w K mg base n "set_off" ["day","clock","t"] (spSetOff P0 pos)):FnOk P w K mg base CX0 (n+1) f fd ["day","clock","t"] (spCome P0 pos):=by
 refine F.okQ sc_come ?_ ?_
 walk_at "o"
 obtain⟨day,pc,t,R,rfl,hR,tab,hK,q0,q1⟩:=h
 refine⟨_,(qab9 (qai9 (i:=3) sc_come.nd U (zaf U) (qe_fn Cz1 hr U (qa_c (qv 0) (qa_c (qv 1) (qa_c (qv 2) qac9))))) (qab9 (qs_if (qfq9 (qv 3)) (qae9 (qal9 qes9)) qao9) (qae9 (qal9 (qe_ix qan9 (qv 3) qad9 Y9))))),?_⟩
 walk_at "d"
 refine⟨_,U,_,U,_,U,day,pc,t,R,U,hR,tab,hK,λ e0=>?_,λ n0 x y r H' hF sm tb hr'=>?_⟩
 ·refine⟨_,U,_,U,iteP (dT9 rfl) (q0 e0)⟩
 ·refine⟨_,U,_,U,iteN (by simp) ?_⟩
  exact⟨_,U,r,_,_,_,U,U,SqT.of hr',U,q1 n0 x y H' hF sm tb⟩
inductive spLeave(P0:Addr)(pos:Pos)(vs:List V)(H:Hp)(Q:VK)(z3q:XK):Prop
 |mk (day:Int) (pc:Addr) (t:Int) (R:List T3):vs=[.int day,.ref pc,.int t]->RowsAt H pc R->TabOk H P0 pos (lamQ "leave")->Ma.Clk day R.length (rA R) (rB R) (rC R)->((R.length=0->Q .non H))->((R.length≠0->∀(x:Int)(H':Hp),Ma.Last day R.length (rA R) (rB R) (rC R) t x->SameT P0 H H'->TabOk H' P0 pos (lamQ "leave")->Q (.int x) H'))->spLeave P0 pos vs H Q z3q
abbrev lamL:Expr:=lamIn ((qag9 qdk9).getD 3 (.Pass ⟨0,0,0,0⟩))
theorem sc_lamL(c:Addr):LamScope ["window","hour"] ["window"] (lamSc lamL) [("hour",c)]:=⟨rfl,rfl,rfl,by decide,rfl,by decide +kernel,by decide +kernel,λ _ h=>qjw9 h,λ x y d h1 h2=>(qez9 x d h1).1.trans (qez9 y d h2).1.symm⟩
def spGL(v:V)(fl c':Addr):Sp:=match v with
 | .int hour=>spFW (λ t=>decide (hour<t.1+t.2.2)) fl c' (lamQ "leave")
 |_=>λ _ _ _ _=>False
theorem ok_lamL(FW:Fun K "first_where" "first_where" qaw9 g gd)(B:Bl mg)
  (hfl:base.get? fl=some (W.kla_obj "<lambda>" (lamQ "leave") (qnz9 lamL) (qnk9 lamL) (lamSc lamL) [("hour",cy)] pm c' ctv)) (hca:qkj9 base (lamSc lamL) [("hour",cy)] ["window","hour"] ["window"] [v]) :
  FnOk P w K mg base CX0 2 g gd ["clock","holds"] (spGL v fl c'):=by
 cases v with
 |int hour =>
  refine qhh9 (n:=1) FW B (lam_ok (k:=0) (N:=["window","hour"]) (cs:=[.int hour]) hfl (λ vs H Q E h=>?_) (sc_lamL cy) hca (λ vs H Q E h=>?_) (λ A outer s H vs Q E hr h=>?_)) (Binds.all λ us hl=>match us,hl with | [_],_=>rfl) ⟨_,_,_,_,hfl⟩
  ·obtain⟨_,_,_,h,_⟩:=h
   exact h
  ·obtain⟨_,_,rfl,_⟩:=h
   rfl
  ·obtain⟨r,t,rfl,hc,hr',q⟩:=h
   refine⟨_,qne9 op_lt (pv 1) (pe_op op_add (pe_ix qrg9 (pv 0) qpu9 Y9) (pe_ix qrg9 (pv 0) qpu9 Y9)) (qat9 _),?_⟩
   exact⟨_,U,_,U,r,_,_,_,U,U,SqT.of hr',U,_,U,r,_,_,_,U,U,SqT.of hr',U,_,_,U,U,_,_,U,U,q⟩
 |non=>exact qcq9
 |bl b=>exact qcq9
 |str x=>exact qcq9
 |byt b=>exact qcq9
 |flt b=>exact qcq9
 |ref a=>exact qcq9
 |ty n=>exact qcq9
theorem ok_leave{c:Addr}{kV:Value}(lk:K.lookup f=some ⟨oc,od,.func (W.fnOf "leave" "leave" (qah9 qdk9) (qag9 qdk9) (qaa9 qdk9) .none kV doc pm an (.ref c) ct),osl⟩)(hcd:W.codeIn K (.ref c) "leave"=true)
  (B:Bl mg) (hC:W.CodeHd base c P0) (hB:BMain mg base) (FW:Fun K "first_where" "first_where" qaw9 g gd) (bW:Binds K gd ["clock","holds"] []) (mW:mg "first_where"=some (.ref g)) (Ch1:Callee P w K mg base 2 "last_open" ["day","window","t"] spLast) :
  FnOk P w K mg base CX0 3 f (W.fnOf "leave" "leave" (qah9 qdk9) (qag9 qdk9) (qaa9 qdk9) .none kV doc pm an (.ref c) ct) ["day","clock","s"] (spLeave P0 ⟨91,32,91,75⟩):=by
 refine fn_of lk hcd sc_leave (λ vs H Q E h=>?_) (λ A outer s H vs Q E hr h=>?_)
 ·obtain⟨_,_,_,_,rfl,_⟩:=h
  rfl
 obtain⟨day,pc,t,R,rfl,hR,tab,hK,q0,q1⟩:=h
 refine⟨_,PSs.nox (QSs.run (qab9 (qs_if (qaj9 qbr9 (qe_cb qau9 rfl B.len qce9 (qa_c (qv 1) qac9)) qad9 (qat9 _)) (qae9 (qal9 qes9)) qao9) (qab9 (qai9 (i:=3) sc_leave.nd rfl (zaf rfl) (qe_op qas9 (qe_ix qan9 (qe_ix qak9 (qv 1) qad9 Y9) qad9 Y9) (qe_ix qan9 (qe_ix qak9 (qv 1) qad9 Y9) qad9 Y9))) (qab9 (qai9 (i:=4) sc_leave.nd rfl (zcr rfl) (qe_op qas9 (qv 3) (qe_op qay9 (qe_op qcc9 (qv 2) (qv 3)) (qv 0)))) (qab9 (qai9 (i:=5) sc_leave.nd rfl (zaf rfl) ⟨qig9 (N:=["window","hour"]) (ps:=["window"]) 4 hr rfl mW FW.kp bW rfl rfl hC hB rfl rfl rfl (zcr (zaf rfl)) rfl rfl rfl qez9 rfl rfl (pv 1) (λ base' fl c' v pm ctv hfl hca=>ok_lamL FW B hfl hca)⟩) (qab9 (qai9 (i:=6) sc_leave.nd rfl (zaf rfl) (qe_ix qak9 (qv 1) (qe_op qcc9 (qv 5) qad9) Y9)) (qae9 (qal9 (qe_fn Ch1 hr rfl (qa_c (qv 0) (qa_c (qv 6) (qa_c (qe_op qcc9 (qv 2) (qe_ix qan9 (qv 6) qad9 Y9)) qac9)))))))))))),?_⟩
 walk_at "d"
 obtain⟨xs,hS,hlen,hat⟩:=hR.at (K:=K)
 refine⟨_,U,pc,_,U,.inl hS,U,_,U,?_⟩
 refine ite2 (λ c1=>?_) (λ c1=>?_)
 ·have c2:V.int ((xs.length:Nat):Int)=V.int 0:=oT9 c1
  injection c2 with c3
  exact q0 ⋯
 have n0:R.length≠0:=λ z=>c1 (dT9 (by rw[hlen,z];rfl))
 obtain⟨r0,ha0,hr0⟩:=hat 0 ⋯ ⋯
 refine⟨_,U,pc,_,_,_,U,U,hS,ha0,r0,_,_,_,U,U,SqT.of hr0,U,_,U,pc,_,_,_,U,U,hS,ha0,r0,_,_,_,U,U,SqT.of hr0,U,_,_,U,U,?_⟩
 refine⟨_,U,_,U,_,U,_,_,U,U,_,U,_,_,U,U,K0 hK,_,_,U,U,?_⟩
 refine⟨_,U,_,U,tab,λ fl c' H2 sm tb hc'=>?_⟩
 refine⟨pc,R,U,hc',hR.sameT sm tab,λ i j hij hj hp=>?_,λ m m1 m2 m3=>?_⟩
 ·have a1:=oT9 hp
  have:=hK.yl i j hij hj
  have:=hK.ab i ⋯
  exact dT9 (by
   show rA R 0+rC R 0+(t-(rA R 0+rC R 0))%day<rA R j+rC R j
   have a2:rA R 0+rC R 0+(t-(rA R 0+rC R 0))%day<rA R i+rC R i:=a1
   omega)
 obtain⟨mp,hL⟩:=Ma.last_of hK (s:=t) ⋯ m1 (λ i hi=>of_decide_eq_false (m2 i hi)) (λ hi=>oT9 (m3 hi))
 have hR2:=hR.sameT sm tab
 obtain⟨xs2,hS2,hlen2,hat2⟩:=hR2.at (K:=K)
 obtain⟨r,ha,hr'⟩:=hat2 ((m:Int)-1) ⋯ ⋯
 have e1:((m:Int)-1).toNat=m-1:=⋯
 rw[e1] at hr'
 refine⟨_,U,_,U,_,_,U,U,pc,_,_,.ref r,U,U,hS2,ha,?_⟩
 refine⟨_,U,_,U,_,U,_,U,r,_,_,_,U,U,SqT.of hr',U,_,_,U,U,day,r,_,_,_,_,U,K0 hK,hr',?_⟩
 exact q1 n0 _ _ hL sm tb
end
theorem tab_wr{P:Addr}{q:Str}{ys:List V}(t:TabOk H P pos q)(e:H p=some (.lst xs)):TabOk (upd H p (.lst ys)) P pos q:=by
 obtain⟨ps,h1,h2,h3⟩:=t
 refine⟨ps,by rw[qap9 (λ z=>by rw[z,e] at h1;cases h1)];exact h1,h2,?_⟩
 rcases h3 with h3|⟨c,h3,h4⟩
 ·exact .inl h3
 ·exact .inr ⟨c,h3,by rw[qap9 (λ z=>by rw[z,e] at h4;cases h4)];exact h4⟩
theorem tb_one(P:Addr)(pos:Pos)(q:Str):TB λ H=>TabOk H P pos q:=⟨λ _ _ t s=>TabOk.same t s,λ _ _ _ _ t e=>tab_wr t e⟩
theorem TB.and{T':Hp->Prop}(h:TB T)(h':TB T'):TB λ H=>T H/\T' H:=⟨λ H H' t s=>⟨h.same H H' t.1 s,h'.same H H' t.2 s⟩,λ H p xs ys t e=>⟨h.wr H p xs ys t.1 e,h'.wr H p xs ys t.2 e⟩⟩
inductive spComeT(T:Hp->Prop)(vs:List V)(H:Hp)(Q:VK)(z3q:XK):Prop
 |mk (day:Int) (p:Addr) (t:Int) (R:List T3):vs=[.int day,.ref p,.int t]->LA enc3 H p R->T H->Ma.CK day R->(∀H',SameU H H'->T H'->Q (optV (Ma.bt day R t)) H')->spComeT T vs H Q z3q
theorem come_T(C:Callee P w K mg base n "come" ["day","clock","t"] (spCome P0 pos))(h1:∀H,T H->TabOk H P0 pos (lamQ "set_off"))
  (h2:∀H H',T H->SameT P0 H H'->TabOk H' P0 pos (lamQ "set_off")->T H'):Callee P w K mg base n "come" ["day","clock","t"] (spComeT T):=Callee.imp C λ vs H Q E h=>by
 obtain⟨day,p,t,R,rfl,hR,hT,ck,q⟩:=h
 refine⟨day,p,t,R,U,hR.rows,h1 H hT,ck.clk,λ e=>?_,λ n0 x y H' hF sm tb=>?_⟩
 ·have e':=zbe.mp e
  subst e'
  exact q H (SameU.refl H) hT
 ·have:=q H' (SameU.tab sm (h1 H hT) tb) (h2 H H' hT sm tb)
  rw[Ma.first_bt ck.clk hF] at this
  exact this
theorem qcs9{P:Addr}{pos0:Pos}{q q0:Str}(t:TabOk H P pos q)(t0:TabOk H P0 pos0 q0)(s:SameT P0 H H')(ne:P≠P0):TabOk H' P pos q:=by
 obtain⟨ps,h1,h2,h3⟩:=t
 refine⟨ps,s _ _ h1 ne,h2,?_⟩
 rcases h3 with h3|⟨c,h3,h4⟩
 ·exact .inl h3
 ·refine .inr ⟨c,h3,s _ _ h4 λ z=>?_⟩
  obtain⟨ps0,g1,_⟩:=t0
  rw[z,g1] at h4
  cases h4
inductive spLamG{α:Type}(enc:α->List V)(p:α->Bool)(c':Addr)(qual:Str)(vs:List V)(H:Hp)(Q:VK)(z3q:XK):Prop
 |mk (r:Addr) (x:α):vs=[.ref r]->H c'=some (.ext (CodeQ c' qual))->H r=some (.tup (enc x))->Q (.bl (p x)) H->spLamG enc p c' qual vs H Q z3q
inductive spFWG{α:Type}(enc:α->List V)(p:α->Bool)(fl c':Addr)(qual:Str)(vs:List V)(H:Hp)(Q:VK)(z3q:XK):Prop
 |mk (pc:Addr) (xs:List α):vs=[.ref pc,.ref fl]->H c'=some (.ext (CodeQ c' qual))->LA enc H pc xs->((∀(i j:Nat) x y,i<j->xs[i]?=some x->xs[j]?=some y->p x=true->p y=true))->(∀m:Nat,m<=xs.length->(∀(i:Nat) x,i<m->xs[i]?=some x->p x=false)->(∀x,xs[m]?=some x->p x=true)->Q (.int m) H)->spFWG enc p fl c' qual vs H Q z3q
section
variable {f:Addr}
theorem qjf9{α:Type}{enc:α->List V}{p:α->Bool}{v0:Str}(F:Fun K "first_where" "first_where" qaw9 f fd)(B:Bl mg)(G:FnOk P w K mg base CX0 n fl fdl [v0] (spLamG enc p c' qual))(bG:Binds K fdl [v0] [])(ho:W.FnAt fl base) :
  FnOk P w K mg base CX0 (n+1) f fd ["clock","holds"] (spFWG enc p fl c' qual):=by
 refine F.okQ sc_first_where ?_ ?_
 walk_at "o"
 obtain⟨pc,xs,rfl,hc,hR,hmono,q⟩:=h
 refine⟨_,(qab9 (qai9 (i:=2) sc_first_where.nd U (zaf U) qad9) (qab9 (qai9 (i:=3) sc_first_where.nd U (zaf U) (qe_cb qau9 U B.len qce9 (qa_c (qv 0) qac9))) (qab9 (qii9 PassesOwn.never (qaj9 qff9 (qv 2) (qv 3) (qat9 _)) (qab9 (qai9 (i:=4) sc_first_where.nd U (zaf U) (qe_op qbd9 (qe_op qas9 (qv 2) (qv 3)) qad9)) (qae9 (qs_if (qcb9 ⟨pe_clo 1 G hr bG ho (qa_c (qe_ix qak9 (qv 0) (qv 4) Y9) qac9).run⟩) (qae9 (qai9 (i:=3) sc_first_where.nd U (zaf U) (qv 4))) (qae9 (qai9 (i:=2) sc_first_where.nd U (zaf U) (qe_op qas9 (qv 4) qad9))))))) (qae9 (qal9 (qv 2)))))),?_⟩
 walk_at "d"
 obtain⟨vs,hv,hlen,hat⟩:=hR.at (K:=K)
 refine⟨_,U,pc,_,U,.inl (SqL.of hv),?_⟩
 refine qif9 (λ σ H'=>H'=H/\∃(lo hi:Nat)(v:Option V),σ=[some (.ref pc),some (.ref fl),some (.int lo),some (.int hi),v]/\lo<=hi/\hi<=xs.length/\(∀(i:Nat) x,i<lo->xs[i]?=some x->p x=false)/\(∀(i:Nat) x,hi<=i->xs[i]?=some x->p x=true))
  (λ σ _=>match σ with | [_,_,some (.int l),some (.int h),_]=>(h-l).toNat|_=>0) ⟨rfl,0,xs.length,none,by rw[hlen];rfl,zbt _,zao _,λ i x hi=>absurd hi (zgn _),λ i x h1 h2=>absurd (zab.mp h2).1 (zfc.mpr h1)⟩ ?_ ?_
 ·intro σ H' z9;obtain⟨rfl,lo,hi,v,rfl,l1,l2,l3,l4⟩ := z9
  refine⟨_,U,_,U,_,_,U,U,_,U,?_⟩
  refine ite2 (λ c1=>?_) (λ c1=>?_)
  ·have c2:(lo:Int)<(hi:Int):=oT9 c1
   refine⟨_,U,_,U,_,_,U,U,_,_,U,U,⟨by decide,by decide⟩,?_⟩
   have m1:(lo:Int)<=((lo:Int)+hi)/2:=⋯
   have m2:((lo:Int)+hi)/2<(hi:Int):=⋯
   have hk:(((lo:Int)+hi)/2).toNat<xs.length:=⋯
   have ex:=zaa hk
   obtain⟨r,ha,hr'⟩:=hat _ _ ex
   have ek:((((((lo:Int)+hi)/2).toNat:Nat)):Int)=((lo:Int)+hi)/2:=⋯
   rw[ek] at ha
   refine⟨U,_,U,_,U,pc,_,_,_,U,U,SqL.of hv,ha,r,_,U,hc,hr',_,U,?_⟩
   refine ite2 (λ c3=>?_) (λ c3=>?_)
   ·refine⟨_,U,⟨U,lo,(((lo:Int)+hi)/2).toNat,some (.int (((lo:Int)+hi)/2)),?_,⋯,⋯,l3,λ i x h1 h2=>?_⟩,?_⟩
    ·rw[ek]
     rfl
    ·rcases(by omega:i=(((lo:Int)+hi)/2).toNat\/(((lo:Int)+hi)/2).toNat<i) with e|e
     ·rw[e,ex] at h2
      cases h2
      exact c3
     ·exact hmono _ _ _ _ e ex h2 c3
    ·show((((lo:Int)+hi)/2)-(lo:Int)).toNat<((hi:Int)-(lo:Int)).toNat
     omega
   ·refine⟨_,U,_,_,U,U,⟨U,(((lo:Int)+hi)/2).toNat+1,hi,some (.int (((lo:Int)+hi)/2)),?_,⋯,l2,λ i x h1 h2=>?_,l4⟩,?_⟩
    ·rw[show(((((lo:Int)+hi)/2).toNat+1:Nat):Int)=(((lo:Int)+hi)/2)+1 by omega]
     rfl
    ·have c4:p xs[(((lo:Int)+hi)/2).toNat]=false:=zby.mpr c3
     rcases(by omega:i=(((lo:Int)+hi)/2).toNat\/i<(((lo:Int)+hi)/2).toNat) with e|e
     ·rw[e,ex] at h2
      cases h2
      exact c4
     ·refine zby.mpr λ z=>?_
      have:=hmono _ _ _ _ e h2 ex z
      rw[c4] at this
      cases this
    ·show((hi:Int)-((((lo:Int)+hi)/2)+1)).toNat<((hi:Int)-(lo:Int)).toNat
     omega
  ·have c2:¬(lo:Int)<(hi:Int):=λ z=>c1 (dT9 z)
   have e:lo=hi:=⋯
   subst e
   exact⟨_,U,q lo l2 l3 λ x h=>l4 lo x (zao _) h⟩
 ·intro σ H' Q1 Q2 hq z9;obtain⟨v,e1,v',e2,i,j,e3,e4,k,e5,q1⟩ := z9
  exact⟨v,e1,v',e2,i,j,e3,e4,k,e5,hq _ _ q1⟩
end
inductive spRidden(P0:Addr)(pos:Pos)(vs:List V)(H:Hp)(Q:VK)(z3q:XK):Prop
 |mk (day p qq ride:Int) (po:Addr) (S:List T4) (g:Int->Int):vs=[.int day,.int p,.int qq,.int ride,.ref po]->LA enc4 H po S->TabOk H P0 pos (lamQ "ridden")->S.length<=4000000->0<day->p<=qq->qq<p+day->Ma.Rise day g->Ma.Cov g 0 S day->(∀(l:Addr)(S':List T4)(H':Hp),SameT P0 H H'->TabOk H' P0 pos (lamQ "ridden")->H l=none->LA enc4 H' l S'->S'.length<=S.length+1->Ma.Cov (λ x=>g (x+ride)) p S' (qq+1)->Q (.ref l) H')->spRidden P0 pos vs H Q z3q
abbrev lamR:Expr:=lamIn ((qag9 qco9).getD 2 (.Pass ⟨0,0,0,0⟩))
theorem sc_lamR(c:Addr):LamScope ["row","hour"] ["row"] (lamSc lamR) [("hour",c)]:=⟨rfl,rfl,rfl,by decide,rfl,by decide +kernel,by decide +kernel,λ _ h=>qjw9 h,λ x y d h1 h2=>(qez9 x d h1).1.trans (qez9 y d h2).1.symm⟩
def spGR(v:V)(fl c':Addr):Sp:=match v with
 | .int hour=>spFWG enc4 (λ t=>decide (hour<=t.2.1)) fl c' (lamQ "ridden")
 |_=>λ _ _ _ _=>False
section
variable {f:Addr}
theorem ok_lamR(FW:Fun K "first_where" "first_where" qaw9 g gd)(B:Bl mg)
  (hfl:base.get? fl=some (W.kla_obj "<lambda>" (lamQ "ridden") (qnz9 lamR) (qnk9 lamR) (lamSc lamR) [("hour",cy)] pm c' ctv)) (hca:qkj9 base (lamSc lamR) [("hour",cy)] ["row","hour"] ["row"] [v]) :
  FnOk P w K mg base CX0 2 g gd ["clock","holds"] (spGR v fl c'):=by
 cases v with
 |int hour =>
  refine qjf9 (n:=1) (v0 := "row") FW B (lam_ok (k:=0) (N:=["row","hour"]) (cs:=[.int hour]) hfl (λ vs H Q E h=>?_) (sc_lamR cy) hca (λ vs H Q E h=>?_) (λ A outer s H vs Q E hr h=>?_)) (Binds.all λ us hl=>match us,hl with | [_],_=>rfl) ⟨_,_,_,_,hfl⟩
  ·obtain⟨_,_,_,h,_⟩:=h
   exact h
  ·obtain⟨_,_,rfl,_⟩:=h
   rfl
  ·obtain⟨r,t,rfl,hc,hr',q⟩:=h
   refine⟨_,qne9 op_le (pv 1) (pe_ix qrg9 (pv 0) qpu9 Y9) (qat9 _),?_⟩
   exact⟨_,U,_,U,r,_,_,_,U,U,SqT.of hr',U,_,_,U,U,q⟩
 |non=>exact qcq9
 |bl b=>exact qcq9
 |str x=>exact qcq9
 |byt b=>exact qcq9
 |flt b=>exact qcq9
 |ref a=>exact qcq9
 |ty n=>exact qcq9
theorem ok_ridden{c:Addr}{kV:Value}(lk:K.lookup f=some ⟨oc,od,.func (W.fnOf "ridden" "ridden" (qah9 qco9) (qag9 qco9) (qaa9 qco9) .none kV doc pm an (.ref c) ct),osl⟩)(hcd:W.codeIn K (.ref c) "ridden"=true)
  (B:Bl mg) (hC:W.CodeHd base c P0) (hB:BMain mg base) (FW:Fun K "first_where" "first_where" qaw9 g gd) (bW:Binds K gd ["clock","holds"] []) (mW:mg "first_where"=some (.ref g)) :
  FnOk P w K mg base CX0 3 f (W.fnOf "ridden" "ridden" (qah9 qco9) (qag9 qco9) (qaa9 qco9) .none kV doc pm an (.ref c) ct) ["day","p","q","ride","others"] (spRidden P0 ⟨173,28,173,54⟩):=by
 refine fn_of lk hcd sc_ridden (λ vs H Q E h=>?_) (λ A outer s H vs Q E hr h=>?_)
 ·obtain⟨_,_,_,_,_,_,_,rfl,_⟩:=h
  rfl
 obtain⟨day,p0,qq,ride,po,S,gg,rfl,hS,tab,hSl,hd,pq,qd,rg,hCv,q⟩:=h
 refine⟨_,PSs.nox (QSs.run (qab9 (qai9 (i:=5) sc_ridden.nd rfl (zcr rfl) (qe_op qay9 (qe_op qas9 (qv 1) (qv 3)) (qv 0))) (qab9 (qai9 (i:=6) sc_ridden.nd rfl (zaf rfl) (qe_op qcc9 (qe_op qas9 (qv 1) (qv 3)) (qv 5))) (qab9 (qai9 (i:=7) sc_ridden.nd rfl (zaf rfl) ⟨qig9 (N:=["row","hour"]) (ps:=["row"]) 5 hr rfl mW FW.kp bW rfl rfl hC hB rfl rfl rfl (zcr (zaf rfl)) rfl rfl rfl qez9 rfl rfl (pv 4) (λ base' fl c' v pm ctv hfl hca=>ok_lamR FW B hfl hca)⟩) (qab9 (qai9 (i:=8) sc_ridden.nd rfl (zaf rfl) (qdh9 qac9)) (qab9 (qii9 PassesOwn.never (qaj9 qgm9 (qv 1) (qv 2) (qat9 _)) (qab9 (qai9 (i:=9) sc_ridden.nd rfl (zaf rfl) (qe_cb (qhd9 rfl) rfl B.min bt_min (qa_c (qv 2) (qa_c (qe_op qcc9 (qe_op qas9 (qv 6) (qe_ix qan9 (qe_ix qak9 (qv 4) (qv 7) Y9) qad9 Y9)) (qv 3)) qac9)))) (qeq9 (qs_if (qcb9 (qe_ix qan9 (qe_ix qak9 (qv 4) (qv 7) Y9) qad9 Y9)) (qae9 (qbm9 (qbh9 (qv 8) (qa_c (qca9 (qa_c (qv 1) (qa_c (qv 9) (qa_c qe_bl (qa_c (qe_op qas9 (qv 6) (qe_ix qan9 (qe_ix qak9 (qv 4) (qv 7) Y9) qad9 Y9)) qac9))))) qac9)))) (qae9 (qbm9 (qbh9 (qv 8) (qa_c (qca9 (qa_c (qv 1) (qa_c (qv 9) (qa_c qe_bl (qa_c (qe_op qas9 (qv 3) (qe_ix qan9 (qe_ix qak9 (qv 4) (qv 7) Y9) qad9 Y9)) qac9))))) qac9))))) (qab9 (qai9 (i:=1) sc_ridden.nd rfl (zaf rfl) (qe_op qas9 (qv 9) qad9)) (qab9 (qs_aug (i:=7) sc_ridden.nd rfl (zaf rfl) ip_add qad9) (qae9 (qs_if (qaj9 qbr9 (qv 7) (qe_cb qau9 rfl B.len qce9 (qa_c (qv 4) qac9)) (qat9 _)) (qab9 (qai9 (i:=7) sc_ridden.nd rfl (zaf rfl) qad9) (qae9 (qs_aug (i:=6) sc_ridden.nd rfl (zaf rfl) ip_add (qv 0)))) qao9))))))) (qae9 (qal9 (qv 8))))))))),?_⟩
 walk_at "d"
 refine⟨_,U,_,U,_,_,U,U,_,U,_,_,U,U,hd,?_⟩
 obtain⟨qt,eq0,h0,h1⟩:=Ma.split day (p0+ride) hd
 dsimp only
 generalize (p0+ride)%day=hour at *
 refine⟨_,U,_,U,_,_,U,U,_,U,_,_,U,U,?_⟩
 dsimp only
 generalize hm0:p0+ride-hour=mid0
 have em0:mid0=day*qt:=⋯
 refine⟨_,U,_,U,tab,λ fl c' H2 sm tb hc'=>?_⟩
 have su:=SameU.tab sm tab tb
 have hS2:=hS.u su
 refine⟨po,S,U,hc',hS2,λ i j x y hij ex ey hp=>?_,λ k0 m1 m2 m3=>?_⟩
 ·have a1:hour<=x.2.1:=oT9 hp
  have:=hCv.lt ex ey hij
  have:=(hCv.get ey).2.1
  exact dT9 (by show hour<=y.2.1;omega)
 have hk0:k0<S.length:=by
  rcases zcl k0 S.length with z|z
  ·exact z
  ·exfalso
   obtain⟨i,r,er,r1,r2⟩:=hCv.find h0 h1
   have hi:=(zab.mp er).1
   have:=of_decide_eq_false (m2 i r ⋯ er)
   omega
 have er0:=zaa hk0
 generalize hr0:S[k0]=r0 at *
 have r0b:hour<=r0.2.1:=oT9 (m3 r0 er0)
 have r0a:r0.1<=hour:=by
  rcases zbq k0 with z|z
  ·have:=(hCv.get er0).2.2.2.2.1 z
   omega
  ·have hk:k0-1<S.length:=⋯
   have e1:=zaa hk
   have:=of_decide_eq_false (m2 (k0-1) _ ⋯ e1)
   have:=(hCv.get e1).2.2.2.2.2.1 r0 (by rw[show k0-1+1=k0 by omega];exact er0)
   omega
 refine⟨z09,λ pr hpr=>?_⟩
 have sr:Same H2 (upd H2 pr (.lst [])):=qar9 hpr _
 refine qif9 (λ σ H'=>∃(S':List T4)(p m:Int)(k:Nat)(v:Option V),σ=[some (.int day),some (.int p),some (.int qq),some (.int ride),some (.ref po),some (.int hour),some (.int m),some (.int k),some (.ref pr),v] /\
   Same H2 H'/\LA enc4 H' pr S'/\Ma.Cov (λ x=>gg (x+ride)) p0 S' p/\p<=qq+1/\S'.length<=S.length+1 /\
   (p<=qq->(∃kk,m=day*kk)/\(∃r,S[k]?=some r/\m+r.1<=p+ride/\p+ride<=m+r.2.1)/\((m=mid0/\S'.length+k0=k)\/(m=mid0+day/\S'.length+k0=S.length+k/\k<=k0))))
  (λ σ _=>match σ with | [_,some (.int p),_,_,_,_,_,_,_,_]=>(qq+1-p).toNat|_=>0) ?_ ?_ ?_
 ·exact⟨[],p0,mid0,k0,none,U,sr,LA.nil qaf9,U,⋯,by simp,λ _=>⟨⟨qt,em0⟩,⟨r0,er0,⋯,⋯⟩,.inl ⟨U,by simp⟩⟩⟩
 ·intro σ H3 z9;obtain⟨S',p,m,k,v,rfl,s3,hS',cv,pl,sl,hin⟩ := z9
  refine⟨_,U,_,U,_,_,U,U,_,U,?_⟩
  refine ite2 (λ c=>?_) (λ c=>?_)
  ·have c':p<=qq:=oT9 c
   obtain⟨⟨kk,em⟩,⟨r,er,x1,x2⟩,hw⟩:=hin c'
   obtain⟨g1,g2,g3,g4,g5,g6,g7⟩:=hCv.get er
   have hkS:=(zab.mp er).1
   obtain⟨us,u1,u2,u3⟩:=(hS2.same s3).at (K:=K)
   obtain⟨ra,ua,ub⟩:=u3 k _ er
   refine⟨_,U,_,U,_,U,_,U,po,_,_,_,U,U,SqL.of u1,ua,ra,_,_,_,U,U,SqT.of ub,U,_,_,U,U,_,U,_,_,U,U,_,_,U,?_⟩
   generalize he:(if m+r.2.1-ride<qq then m+r.2.1-ride else qq)=e
   have e1:p<=e:=by rw[<- he];split<;>omega
   have e2:e<=qq:=by rw[<- he];split<;>omega
   have e3:e+ride<=m+r.2.1:=by rw[<- he];split<;>omega
   have e4:e<qq->e+ride=m+r.2.1:=by rw[<- he];split<;>omega
   have rc:=Ma.ride_cov rg em e1 x1 e3 g4
   obtain⟨vs,v1,v2,v3⟩:=hS'.lst
   refine⟨λ σ' H'=>σ'=[some (.int day),some (.int p),some (.int qq),some (.int ride),some (.ref po),some (.int hour),some (.int m),some (.int k),some (.ref pr),some (.int e)]/\Same H2 H'/\LA enc4 H' pr (S'++[Ma.rideRow p e m ride r]),?_,?_⟩
   ·refine⟨_,U,_,U,po,_,_,_,U,U,SqL.of u1,ua,ra,_,_,_,U,U,SqT.of ub,U,_,U,?_⟩
    unfold Ma.rideRow
    refine ite2 (λ z=>?_) (λ z=>?_)
    ·rw[if_pos z]
     refine⟨_,U,.inl ⟨U,_,SqL.of v1⟩,_,U,_,U,_,U,_,U,_,U,po,_,_,_,U,U,SqL.of u1,ua,ra,_,_,_,U,U,SqT.of ub,U,_,_,U,U,z49,λ rn hrn=>?_⟩
     have s4:=qar9 hrn (.tup [.int p,.int e,.bl true,.int (m+r.2.2.2)])
     exact⟨pr,vs,.ref rn,U,U,s4 _ _ v1,qbf9 ⋯,U,qbl9 hpr (s3.trans s4),(hS'.same s4).append (x:=(p,e,true,m+r.2.2.2)) (s4 _ _ v1) qaf9⟩
    ·rw[if_neg z]
     refine⟨_,U,.inl ⟨U,_,SqL.of v1⟩,_,U,_,U,_,U,_,U,_,U,po,_,_,_,U,U,SqL.of u1,ua,ra,_,_,_,U,U,SqT.of ub,U,_,_,U,U,z49,λ rn hrn=>?_⟩
     have s4:=qar9 hrn (.tup [.int p,.int e,.bl false,.int (ride+r.2.2.2)])
     exact⟨pr,vs,.ref rn,U,U,s4 _ _ v1,qbf9 ⋯,U,qbl9 hpr (s3.trans s4),(hS'.same s4).append (x:=(p,e,false,ride+r.2.2.2)) (s4 _ _ v1) qaf9⟩
   intro σ' H4 z9;obtain⟨rfl,s4,hS4⟩ := z9
   refine⟨_,U,_,_,U,U,?_⟩
   refine⟨_,U,_,_,U,U,?_⟩
   obtain⟨us,u1,u2,u3⟩:=(hS2.same s4).at (K:=K)
   have cv4:=cv.append rc
   have sl4:(S'++[Ma.rideRow p e m ride r]).length<=S.length+1:=by
    rw[zam,zbm]
    rcases hw with⟨_,z⟩|⟨_,z,z2⟩<;>omega
   have ek:((k:Int)+1)=(((k+1:Nat)):Int):=⋯
   have nxt:∀(m':Int)(k':Nat),(k+1<S.length->m'=m/\k'=k+1)->(k+1=S.length->m'=m+day/\k'=0)->(e+1<=qq->(∃kk,m'=day*kk)/\(∃r,S[k']?=some r/\m'+r.1<=e+1+ride/\e+1+ride<=m'+r.2.1)/\((m'=mid0/\(S'++[Ma.rideRow p e m ride r]).length+k0=k')\/(m'=mid0+day/\(S'++[Ma.rideRow p e m ride r]).length+k0=S.length+k'/\k'<=k0))):=by
    intro m' k' ha hb lt
    have e5:=e4 ⋯
    rw[zam,zbm]
    rcases(by omega:k+1<S.length\/k+1=S.length) with z|z
    ·obtain⟨rfl,rfl⟩:=ha z
     have en:=zaa z
     have q1:=g6 _ en
     have q2:=(hCv.get en).2.1
     refine⟨⟨kk,em⟩,⟨_,en,⋯,⋯⟩,?_⟩
     rcases hw with⟨y1,y2⟩|⟨y1,y2,y3⟩
     ·exact .inl ⟨y1,⋯⟩
     ·refine .inr ⟨y1,⋯,?_⟩
      rcases(by omega:k<k0\/k=k0) with y|y
      ·omega
      ·exfalso
       have er':=er
       rw[y,er0] at er'
       cases er'
       omega
    ·obtain⟨rfl,rfl⟩:=hb z
     have q1:=g7 z
     have hn0:0<S.length:=⋯
     have en:=zaa hn0
     have q2:=(hCv.get en).2.2.2.2.1 rfl
     have q3:=(hCv.get en).2.1
     refine⟨⟨kk+1,by rw[em,zeo,zco]⟩,⟨_,en,⋯,⋯⟩,?_⟩
     rcases hw with⟨y1,y2⟩|⟨y1,y2,y3⟩
     ·exact .inr ⟨⋯,⋯,zbt _⟩
     ·exfalso
      have y:k=k0:=⋯
      have er':=er
      rw[y,er0] at er'
      cases er'
      omega
   dsimp only
   rw[ek]
   refine⟨_,U,_,U,po,_,U,.inl (SqL.of u1),U,_,U,?_⟩
   refine ite2 (λ z=>?_) (λ z=>?_)
   ·have z':=oT9 z
    injection z' with z'
    refine⟨_,U,_,U,_,_,U,U,⟨_,e+1,m+day,0,_,U,s4,hS4,cv4,⋯,sl4,nxt (m+day) 0 (λ y=>⋯) λ _=>⟨U,U⟩⟩,?_⟩
    show(qq+1-(e+1)).toNat<(qq+1-p).toNat
    omega
   ·have z':¬(((k+1:Nat)):Int)=((us.length:Nat):Int):=λ y=>z (dT9 (by rw[y]))
    refine⟨⟨_,e+1,m,k+1,_,U,s4,hS4,cv4,⋯,sl4,nxt m (k+1) (λ _=>⟨U,U⟩) λ y=>⋯⟩,?_⟩
    show(qq+1-(e+1)).toNat<(qq+1-p).toNat
    omega
  ·have c':¬p<=qq:=λ z=>c (dT9 z)
   have e:p=qq+1:=⋯
   subst e
   have fr:H pr=none:=by
    cases eh:H pr with
    |none=>rfl
    |some o =>
     by_cases zp:pr=P0
     ·obtain⟨ps,hp,_⟩:=tb
      rw[zp,hp] at hpr
      cases hpr
     ·rw[sm _ _ eh zp] at hpr
      cases hpr
   exact⟨_,U,q pr S' H3 (SameT.trans sm (SameT.same s3)) (TabOk.same tb s3) fr hS' sl cv⟩
 ·intro σ H' Q1 Q2 hq z9;obtain⟨v,e1,v',e2,i,j,e3,e4,k,e5,q1⟩ := z9
  exact⟨v,e1,v',e2,i,j,e3,e4,k,e5,hq _ _ q1⟩
end
inductive spRiddenT(T:Hp->Prop)(vs:List V)(H:Hp)(Q:VK)(z3q:XK):Prop
 |mk (day p qq ride:Int) (po:Addr) (S:List T4) (g:Int->Int):vs=[.int day,.int p,.int qq,.int ride,.ref po]->LA enc4 H po S->T H->S.length<=4000000->0<day->p<=qq->qq<p+day->Ma.Rise day g->Ma.Cov g 0 S day->(∀(l:Addr)(S':List T4)(H':Hp),SameU H H'->T H'->H l=none->LA enc4 H' l S'->S'.length<=S.length+1->Ma.Cov (λ x=>g (x+ride)) p S' (qq+1)->Q (.ref l) H')->spRiddenT T vs H Q z3q
theorem ridden_T(C:Callee P w K mg base n "ridden" ["day","p","q","ride","others"] (spRidden P0 pos))(h1:∀H,T H->TabOk H P0 pos (lamQ "ridden"))
  (h2:∀H H',T H->SameT P0 H H'->TabOk H' P0 pos (lamQ "ridden")->T H'):Callee P w K mg base n "ridden" ["day","p","q","ride","others"] (spRiddenT T):=Callee.imp C λ vs H Q E h=>by
 obtain⟨day,p,qq,ride,po,S,g,rfl,hS,hT,a1,a2,a3,a4,a5,a6,q⟩:=h
 exact⟨day,p,qq,ride,po,S,g,U,hS,h1 H hT,a1,a2,a3,a4,a5,a6,λ l S' H' sm tb=>q l S' H' (SameU.tab sm (h1 H hT) tb) (h2 H H' hT sm tb)⟩
inductive spBehind(T:Hp->Prop)(vs:List V)(H:Hp)(Q:VK)(z3q:XK):Prop
 |mk (day:Int) (p1 p2:Addr) (R1 R2:List T3):vs=[.int day,.ref p1,.ref p2]->LA enc3 H p1 R1->LA enc3 H p2 R2->T H->R1.length<=1900000->R2.length<=1900000->(2*R1.length+1)*(2*R2.length+2)<=16000000->Ma.CK day R1->Ma.CK day R2->(∀(l:Addr)(R:List T3)(H':Hp),SameU H H'->T H'->H l=none->LA enc3 H' l R->R.length<=(2*R1.length+1)*(2*R2.length+2)->Ma.CK day R->(∀t,Ma.bt day R t=Ma.obind (Ma.bt day R1) (Ma.bt day R2) t)->Q (.ref l) H')->spBehind T vs H Q z3q
section
variable {f:Addr}
theorem ok_behind(hTB:TB T)(F:Fun K "behind" "behind" qgg9 f fd)(B:Bl mg)(Ce0:Callee P w K mg base n "stretches" ["day","clock"] spStretches)(Ca2:Callee P w K mg base n "come" ["day","clock","t"] (spComeT T))(Cg2:Callee P w K mg base n "ridden" ["day","p","q","ride","others"] (spRiddenT T))
  (Ck0:Callee P w K mg base n "clock_from" ["day","rows"] spClockFrom):FnOk P w K mg base CX0 (n+1) f fd ["day","one","other"] (spBehind T):=by
 refine F.okQ sc_behind ?_ ?_
 walk_at "o"
 obtain⟨day,p1,p2,R1,R2,rfl,hR1,hR2,hT,hl1,hl2,hl3,ck1,ck2,q⟩:=h
 refine⟨_,(qab9 (qs_if (qfc9 (QW.pt (qw_or (qaj9 qbr9 (qe_cb qau9 U B.len qce9 (qa_c (qv 1) qac9)) qad9 (qat9 _)) (qew9 (qaj9 qbr9 (qe_cb qau9 U B.len qce9 (qa_c (qv 2) qac9)) qad9 (qat9 _)))))) (qae9 (qal9 (qdh9 qac9))) qao9) (qab9 (qai9 (i:=3) sc_behind.nd U (zaf U) (qe_fn Ce0 hr U (qa_c (qv 0) (qa_c (qv 2) qac9)))) (qab9 (qai9 (i:=4) sc_behind.nd U (zaf U) (qdh9 qac9)) (qab9 (qfk9 PassesOwn.never U (qcp9 (qe_fn Ce0 hr U (qa_c (qv 0) (qa_c (qv 1) qac9)))) (qgx9 U (qaq9 (qam9 (i:=5) sc_behind.nd U (zaf U)) (qaq9 (qam9 (i:=6) sc_behind.nd U (zaf U)) (qaq9 (qam9 (i:=7) sc_behind.nd U (zaf U)) (qaq9 (qam9 (i:=8) sc_behind.nd U (zaf U)) qdz9))))) (qae9 (qs_if (qcb9 (qv 7)) (qae9 (qbm9 (qbh9 (qv 4) (qa_c (qca9 (qa_c (qv 5) (qa_c (qv 6) (qa_c qe_bl (qa_c (qe_fn Ca2 hr U (qa_c (qv 0) (qa_c (qv 2) (qa_c (qv 8) qac9)))) qac9))))) qac9)))) (qae9 (qbm9 (qkd9 (qv 4) (qa_c (qe_fn Cg2 hr U (qa_c (qv 0) (qa_c (qv 5) (qa_c (qv 6) (qa_c (qv 8) (qa_c (qv 3) qac9)))))) qac9))))))) (qae9 (qal9 (qe_fn Ck0 hr U (qa_c (qv 0) (qa_c (qv 4) qac9))))))))),?_⟩
 walk_at "d"
 obtain⟨us,hu1,hu2,hu3⟩:=hR1.lst
 obtain⟨ws,hw1,hw2,hw3⟩:=hR2.lst
 refine⟨λ b H'=>H'=H/\b=decide (R1=[]\/R2=[]),?_,?_⟩
 ·refine⟨_,U,p1,_,U,.inl (SqL.of hu1),U,_,U,?_⟩
  refine ite2 (λ c=>?_) (λ c=>?_)
  ·have c':=oT9 c
   injection c' with c'
   have e:R1=[]:=zbe.mp ⋯
   exact⟨U,by simp[e]⟩
  ·have n1:R1≠[]:=λ e=>c (dT9 (by rw[hu2,e];rfl))
   refine⟨_,U,p2,_,U,.inl (SqL.of hw1),U,_,U,U,?_⟩
   rw[hw2]
   cases R2 with
   |nil=>simp
   |cons x r=>simp[n1];omega
 intro b H1 z9;obtain⟨rfl,rfl⟩ := z9
 refine ite2 (λ c=>?_) (λ c=>?_)
 ·have c':=oT9 c
  refine⟨z09,λ l hl=>?_⟩
  refine q l [] _ (SameU.of (qar9 hl _)) (hTB.same _ _ hT (qar9 hl _)) hl (LA.nil qaf9) (by simp) (Ma.ck_nil ck1.d0) λ t=>?_
  unfold Ma.obind
  rcases c' with e|e
  ·rw[e];rfl
  ·rw[e,Ma.bt_nil];cases Ma.bt day R1 t<;>rfl
 have c':¬(R1=[]\/R2=[]):=λ z=>c (dT9 z)
 have T1:=Ma.tells_bf (d:=day) (λ e=>c' (.inl e))
 have T2:=Ma.tells_bf (d:=day) (λ e=>c' (.inr e))
 have rf:=ck1.rise T1
 have rg:=ck2.rise T2
 have C1:=Ma.str_cov ck1 T1
 have C2:=Ma.str_cov ck2 T2
 have b1:=Ma.strOf_len day R1
 have b2:=Ma.strOf_len day R2
 have hd:=ck1.d0
 refine⟨_,U,_,U,day,p2,R2,U,hR2,⋯,λ l2 H2 s2 f2 hS2=>?_⟩
 refine⟨z09,λ pr hpr=>?_⟩
 have s3:Same H2 (upd H2 pr (.lst [])):=qar9 hpr _
 have s13:=s2.trans s3
 refine⟨_,U,_,U,day,p1,R1,U,hR1.same s13,⋯,λ l1 H4 s4 f4 hS1=>?_⟩
 have er4:H4 pr=some (.lst []):=s4 _ _ qaf9
 have n1:l1≠pr:=λ e=>by rw[e,qaf9] at f4;cases f4
 have s14:=s13.trans s4
 have hS2:=(hS2.same s3).same s4
 have n2:l2≠pr:=λ e=>by
  have h:=s2.free hpr
  obtain⟨vs,z,_⟩:=hS2.lst
  rw[e,er4] at z
  cases z
  obtain⟨vs',z',_⟩:=(show LA enc4 H2 l2 (Ma.strOf day R2) from by assumption).lst
  rw[e,hpr] at z'
  cases z'
 have hR2:=(hR2.same s14)
 have np2:p2≠pr:=λ e=>by
  have z:=s2 _ _ hw1
  rw[e,hpr] at z
  cases z
 have hT4:=hTB.same _ _ hT s14
 have hfr:H1 pr=none:=s2.free hpr
 clear s3 f4 f2
 generalize Ma.strOf day R1=S1 at *
 generalize Ma.strOf day R2=S2 at *
 generalize Ma.bf day R1=f1 at *
 generalize Ma.bf day R2=f2 at *
 obtain⟨xs,hx1,hx2,hx3⟩:=hS1.lst
 have hrow:∀{α:Type}{enc:α->List V}{l:Addr}{ys:List α}{H':Hp},LA enc H4 l ys->l≠pr->(∀b o,H4 b=some o->b≠pr->(∀z,o ≠ .tbl z)->H' b=some o)->LA enc H' l ys:=λ {α enc l ys H'} h nl st=>by
  obtain⟨rs,h1,h2,h3⟩:=h.ex
  refine⟨rs,st _ _ h1 nl (λ _ z=>nomatch z),h2,λ i r x e e'=>?_⟩
  have h4:=h3 i r x e e'
  exact st _ _ h4 (λ z=>by rw[z,er4] at h4;cases h4) (λ _ z=>nomatch z)
 refine⟨l1,U,⟨_,SqL.of hx1⟩,qdy9 (K:=K) (a:=l1) (xs:=xs)
  (λ i σ H'=>∃(S:List T4)(at_:Int)(v1 v2 v3 v4:Option V),σ=[some (.int day),some (.ref p1),some (.ref p2),some (.ref l2),some (.ref pr),v1,v2,v3,v4]/\SameU H1 H'/\T H'/\(∀b o,H4 b=some o->b≠pr->(∀z,o ≠ .tbl z)->H' b=some o)/\LA enc4 H' pr S/\S.length<=i*(S2.length+1)/\Ma.Cov (λ x=>f2 (f1 x)) 0 S at_/\(∀r,S1[i]?=some r->r.1=at_)/\(i=S1.length->at_=day))
  ⟨[],0,_,_,_,_,rfl,SameU.of s14,hT4,λ b o e _ _=>e,LA.nil er4,by simp,rfl,λ r e=>(C1.get e).2.2.2.2.1 rfl,λ e=>?_⟩
  (λ i σ H' _ ⟨_,_,_,_,_,_,_,_,_,s1,_⟩=>SqL.of (s1 _ _ hx1 n1 (λ _ z=>nomatch z))) ?_ ?_⟩
 ·rw[zbe.mp e.symm] at C1
  exact C1
 ·intro i y σ H5 hi z9;obtain⟨S,at_,v1,v2,v3,v4,rfl,sU,t5,st,hS,hSl,hC,hat,_⟩ := z9
  obtain⟨r,x,rfl,ex,er⟩:=hx3 i y hi
  have e1:=hat x ex
  obtain⟨g1,g2,g3,g4,g5,g6,g7⟩:=C1.get ex
  have nr:r≠pr:=λ z=>by rw[z,er4] at er;cases er
  have er5:=st _ _ er nr (λ _ z=>nomatch z)
  have hi2:i<S1.length:=(zab.mp ex).1
  obtain⟨xp,xq,xs',xv⟩:=x
  have e1':xp=at_:=e1
  subst e1'
  have g2':xp<=xq:=g2
  have g3':xq<day:=g3
  have g1':0<=xp:=g1
  have g4':∀x,xp<=x->x<=xq->f1 x=if xs'=true then xv else x+xv:=g4
  obtain⟨vs,hv1,hv2,hv3⟩:=hS.lst
  have bnd:(i+1)*(S2.length+1)<=16000000:=by
   have:(i+1)*(S2.length+1)<=(2*R1.length+1)*(2*R2.length+2):=zev ⋯ ⋯
   omega
  rw[zgj] at bnd
  refine⟨r,_,U,SqT.of er5,U,_,_,U,_,_,U,_,_,U,_,_,U,U,?_⟩
  refine⟨_,U,_,U,?_⟩
  cases xs' with
  |true =>
   refine iteT ⟨_,rfl,.inl ⟨rfl,_,SqL.of hv1⟩,_,rfl,_,rfl,_,rfl,_,rfl,_,rfl,day,p2,xv,R2,rfl,hrow hR2 np2 st,t5,ck2,λ H6 u6 t6=>?_⟩
   rw[T2 xv]
   refine⟨z49,λ rn hrn=>?_⟩
   have s7:=qar9 hrn (.tup [.int xp,.int xq,.bl true,.int (f2 xv)])
   have u7:=u6.trans (SameU.of s7)
   have hv7:=u7.lst hv1
   refine⟨pr,vs,.ref rn,U,U,hv7,qbf9 ⋯,?_⟩
   have cr:Ma.Cov (λ x=>f2 (f1 x)) xp [(xp,xq,true,f2 xv)] (xq+1):=Ma.Cov.one (r:=(xp,xq,true,f2 xv)) g2' λ x x0 x1=>by
    have:=g4' x x0 x1
    rw[if_pos rfl] at this
    show f2 (f1 x)=f2 xv
    rw[this]
   refine⟨_,_,_,_,_,_,U,SameU.wr hfr (sU.trans u7),hTB.wr _ _ _ _ (hTB.same _ _ t6 s7) hv7,λ b o e nb nt=>?_,((hS.u u6).same s7).append (x:=(xp,xq,true,f2 xv)) hv7 qaf9,?_,hC.append cr,λ r' e'=>g6 r' e',λ e=>g7 e⟩
   ·rw[qap9 nb]
    exact u7.1 _ _ (st _ _ e nb nt) nt
   ·rw[zam,zbm,zgj]
    omega
  |false =>
   refine iteF ⟨_,rfl,.inl ⟨rfl,_,SqL.of hv1⟩,_,rfl,_,rfl,_,rfl,_,rfl,_,rfl,day,xp,xq,xv,l2,S2,f2,rfl,hrow hS2 n2 st,t5,⋯,hd,g2',⋯,rg,C2,λ l S' H6 u6 t6 fl hS' hSl' cr=>?_⟩
   obtain⟨zs,hz1,hz2,hz3⟩:=hS'.lst
   have hv6:=u6.lst hv1
   refine⟨pr,l,vs,zs,U,U,hv6,hz1,zcf (qbf9 ⋯),?_⟩
   have cr':Ma.Cov (λ x=>f2 (f1 x)) xp S' (xq+1):=by
    refine Ma.Cov.congr (λ x x0 x1=>?_) cr
    have:=g4' x x0 ⋯
    rw[if_neg (by decide)] at this
    show f2 (x+xv)=f2 (f1 x)
    rw[this]
   refine⟨_,_,_,_,_,_,U,SameU.wr hfr (sU.trans u6),hTB.wr _ _ _ _ t6 hv6,λ b o e nb nt=>?_,(hS.u u6).extend hS' hv6 hz1,?_,hC.append cr',λ r' e'=>g6 r' e',λ e=>g7 e⟩
   ·rw[qap9 nb]
    exact u6.1 _ _ (st _ _ e nb nt) nt
   ·rw[zam,zgj]
    omega
 ·intro σ H5 z9;obtain⟨S,at_,v1,v2,v3,v4,rfl,sU,t5,st,hS,hSl,hC,hat,hend⟩ := z9
  have e:=hend hx2
  subst e
  rw[hx2] at hSl
  have bnd:S1.length*(S2.length+1)<=(2*R1.length+1)*(2*R2.length+2):=zev b1 ⋯
  have rc:=Ma.rise_comp rf rg
  refine⟨_,U,_,U,at_,pr,S,_,U,hS,⋯,hd,rc,hC,λ l R H6 s6 fl hR hRl can=>?_⟩
  refine q l R H6 (sU.trans (SameU.of s6)) (hTB.same _ _ t5 s6) (sU.free fl) hR ⋯ (can.ck hd rc) λ t=>?_
  rw[can.tells hd rc t]
  unfold Ma.obind
  rw[T1 t]
  exact(T2 _).symm
end
abbrev RdT:=Int×Int×Addr×List T3
variable {F F' M N:List RdT}{m:RdT}
def keyN(m:RdT):Int×Int×Addr:=(m.1,m.2.1,m.2.2.1)
def encK(k:Int×Int×Addr):List V:=[.int k.1,.int k.2.1,.ref k.2.2]
def datN(m:RdT):PyData:=.tuple [.int m.1,.int m.2.1,datB m.2.2.2]
structure NA(H:Hp)(p:Addr)(N:List RdT):Prop where
 la:LA encK H p (N.map keyN)
 bd:∀m∈N,LA enc3 H m.2.2.1 m.2.2.2/\m.2.2.1≠p
 nd:(N.map λ m=>m.2.2.1).Nodup
section
variable {b:Addr}{s e:Int}{us:List V}
theorem NA.nil(h:H p=some (.lst [])):NA H p []:=⟨LA.nil h,(λ m hm=>by cases hm),List.Pairwise.nil⟩
theorem NA.mono(h:NA H p N)(s:∀b o,H b=some o->(∀z,o ≠ .tbl z)->H' b=some o):NA H' p N:=⟨h.la.mono s,λ m hm=>⟨(h.bd m hm).1.mono s,(h.bd m hm).2⟩,h.nd⟩
theorem NA.same(h:NA H p N)(s:Same H H'):NA H' p N:=h.mono λ b o e _=>s b o e
theorem NA.fresh(h:NA H p N)(fb:H b=none):b≠p/\b∉N.map λ m=>m.2.2.1:=by
 refine⟨λ z=>?_,λ hm=>?_⟩
 ·obtain⟨vs,h1,_⟩:=h.la.lst
  rw[<- z,fb] at h1
  cases h1
 ·obtain⟨m,hm',e⟩:=zat.mp hm
  obtain⟨vs,h1,_⟩:=(h.bd m hm').1.lst
  rw[e,fb] at h1
  cases h1
theorem NA.snoc(h:NA H p N)(fb:b≠p/\b∉N.map λ m=>m.2.2.1)(hx:H p=some (.lst vs))(hb:H b=some (.lst []))(hr:H r=some (.tup [.int s,.int e,.ref b])):NA (upd H p (.lst (vs++[.ref r]))) p (N++[(s,e,b,[])]):=by
 refine⟨?_,λ m hm=>?_,?_⟩
 ·rw[zba]
  exact h.la.append (x:=(s,e,b)) hx hr
 ·rcases zav.mp hm with hm|hm
  ·obtain⟨h1,h2⟩:=h.bd m hm
   exact⟨qcr9 h1 hx h2,h2⟩
  ·rw[zag] at hm
   subst hm
   exact⟨LA.nil (by rw[qap9 fb.1];exact hb),fb.1⟩
 ·rw[zba]
  refine zcb.mpr ⟨h.nd,by simp,λ x hx y hy=>?_⟩
  simp only[zcg,zen,zag] at hy
  subst hy
  exact λ z=>fb.2 (z ▸ hx)
theorem NA.rd(h:NA H p N):RdV K H (.ref p) (.list (N.map datN)):=by
 obtain⟨rs,h1,h2,h3⟩:=h.la.ex
 refine .lst (SqL.of h1) ?_
 have go:∀(rs:List Addr)(N:List RdT),rs.length=N.length->(∀(i:Nat) r x,rs[i]?=some r->(N.map keyN)[i]?=some x->H r=some (.tup (encK x)))->(∀m∈N,LA enc3 H m.2.2.1 m.2.2.2)->RdAll K H (rs.map V.ref) (N.map datN):=by
  intro rs
  induction rs with
  |nil =>
   intro N hl _ _
   cases N with
   |nil=>exact .nil
   |cons x N=>cases hl
  |cons r rs ih =>
   intro N hl g gb
   cases N with
   |nil=>cases hl
   |cons m N=>exact .cons (.tup (SqT.of (g 0 r (keyN m) rfl rfl)) (.cons (.int _) (.cons (.int _) (.cons (rd3 (gb m (by simp))) .nil)))) (ih N (by simpa using hl) (λ i r' x' e1 e2=>g (i+1) r' x' (by simpa using e1) (by simpa using e2)) λ m' hm'=>gb m' (zai _ hm'))
 exact go rs N (by rw[h2,zad]) h3 λ m hm=>(h.bd m hm).1
theorem shapedN(N:List RdT):SeqAt.shaped (.list (N.map datN))=true:=qko9 (n:=5) (λ x=>by
  have:=canB x.2.2.2
  simp[datN,PyData.canLay0,PyData.canLayAll0,this]) (λ x=>by
  have:=depB x.2.2.2
  simp only[datN,PyData.depth,PyData.depthAll]
  omega) (by decide) N
end
def NFr(H:Hp)(N:List RdT):Prop:=∀m∈N,H m.2.2.1=none
theorem NFr.snoc(h:NFr H N)(e:H m.2.2.1=none):NFr H (N++[m]):=λ x hx=>by
 rcases zav.mp hx with hx|hx
 ·exact h x hx
 ·rw[zag] at hx
  subst hx
  exact e
theorem NA.add{b:Addr}{s e:Int}(h:NA H p N)(fb:b≠p/\b∉N.map λ m=>m.2.2.1)(hx:H p=some (.lst vs))(hb:LA enc3 H b R)(hr:H r=some (.tup [.int s,.int e,.ref b])):NA (upd H p (.lst (vs++[.ref r]))) p (N++[(s,e,b,R)]):=by
 refine⟨?_,λ m hm=>?_,?_⟩
 ·rw[zba]
  exact h.la.append (x:=(s,e,b)) hx hr
 ·rcases zav.mp hm with hm|hm
  ·obtain⟨h1,h2⟩:=h.bd m hm
   exact⟨qcr9 h1 hx h2,h2⟩
  ·rw[zag] at hm
   subst hm
   exact⟨qcr9 hb hx fb.1,fb.1⟩
 ·rw[zba]
  refine zcb.mpr ⟨h.nd,by simp,λ x hx y hy=>?_⟩
  simp only[zcg,zen,zag] at hy
  subst hy
  exact λ z=>fb.2 (z ▸ hx)
def strip(m:RdT):Int×Int×List T3:=(m.1,m.2.1,m.2.2.2)
def numV(count:Int):V->Bool
 | .int i=>decide (0<=i)&&decide (i<count)
 |_=>false
def posW(H:Hp)(x:V):Bool:=match tupV H x with
 |some [_,_,.int c]=>decide (0<c)
 |_=>false
def posB(H:Hp)(x:V):Bool:=match lstV H x with
 |some ws=>ws.all (posW H)
 |none=>false
def roadL(H:Hp)(day size:Int):List V->Bool
 | [s,e,b]=>numV size s&&(numV size e&&(qhx9 H day b&&posB H b))
 |_=>false
def roadV(H:Hp)(day size:Int)(x:V):Bool:=match tupV H x with
 |some xs=>roadL H day size xs
 |none=>false
def netV(H:Hp)(day:Int)(size roads:V):Bool:=match size with
 | .int n=>decide (1<=n)&&(match lstV H roads with
  |some xs=>xs.all (roadV H day n)
  |none=>false)
 |_=>false
def DvR(H:Hp)(x:V):Prop:=Dv H x/\∀zs,tupV H x=some zs->∀z∈zs,Dv3 H z
def DvN(H:Hp)(x:V):Prop:=Dv H x/\∀xs,lstV H x=some xs->xs.length<=1000/\∀y∈xs,DvR H y
theorem Dv3.same{H H':Hp}{x:V}(h:Dv3 H x)(s:Same H H'):Dv3 H' x:=⟨h.1.same s,λ xs e=>by
 rw[h.1.lstV_same s] at e
 exact⟨(h.2 xs e).1,λ y hy=>((h.2 xs e).2 y hy).same s⟩⟩
theorem DvR.same{H H':Hp}{x:V}(h:DvR H x)(s:Same H H'):DvR H' x:=⟨h.1.same s,λ xs e=>by
 rw[h.1.tupV_same s] at e
 exact λ y hy=>(h.2 xs e y hy).same s⟩
theorem Dv3.boardV_same{x:V}(h:Dv3 H x)(s:Same H H')(day:Int):qhx9 H' day x=qhx9 H day x:=by
 unfold qhx9
 rw[h.1.lstV_same s]
 cases e:lstV H x with
 |none=>rfl
 |some xs =>
  rw[zbz,zbh,zbh]
  exact⟨λ z y hy=>by rw[<- ((h.2 xs e).2 y hy).1.winV_same s day];exact z y hy,λ z y hy=>by rw[((h.2 xs e).2 y hy).1.winV_same s day];exact z y hy⟩
theorem Dv2.posW_same{x:V}(h:Dv2 H x)(s:Same H H'):posW H' x=posW H x:=by
 unfold posW
 rw[h.1.tupV_same s]
theorem Dv3.posB_same{x:V}(h:Dv3 H x)(s:Same H H'):posB H' x=posB H x:=by
 unfold posB
 rw[h.1.lstV_same s]
 cases e:lstV H x with
 |none=>rfl
 |some xs =>
  rw[zbz,zbh,zbh]
  exact⟨λ z y hy=>by rw[<- ((h.2 xs e).2 y hy).posW_same s];exact z y hy,λ z y hy=>by rw[((h.2 xs e).2 y hy).posW_same s];exact z y hy⟩
theorem DvR.roadV_same{x:V}(h:DvR H x)(s:Same H H')(day size:Int):roadV H' day size x=roadV H day size x:=by
 unfold roadV
 rw[h.1.tupV_same s]
 cases e:tupV H x with
 |none=>rfl
 |some xs =>
  have hz:=h.2 xs e
  show roadL H' day size xs=roadL H day size xs
  unfold roadL
  split
  ·rw[(hz _ (by simp)).boardV_same s,(hz _ (by simp)).posB_same s]
  ·rfl
theorem qrh9{x:V}(h:winV H day x=true):∃(r:Addr)(a b c:Int),x=.ref r/\H r=some (.tup [.int a,.int b,.int c]):=by
 unfold winV at h
 split at h
 ·rename_i xs e
  obtain⟨r,rfl,er⟩:=qlo9 e
  unfold winL at h
  split at h
  ·exact⟨r,_,_,_,U,er⟩
  ·cases h
 ·cases h
inductive spNumber(vs:List V)(H:Hp)(Q:VK)(z3q:XK):Prop
 |mk (count:Int) (x:V):vs=[.int count,x]->Dv H x->Q (.bl (numV count x)) H->spNumber vs H Q z3q
inductive spRoad(vs:List V)(H:Hp)(Q:VK)(z3q:XK):Prop
 |mk (day size:Int) (x:V):vs=[.int day,.int size,x]->DvR H x->(∀H',Same H H'->Q (.bl (roadV H day size x)) H')->spRoad vs H Q z3q
inductive spIsNet(vs:List V)(H:Hp)(Q:VK)(z3q:XK):Prop
 |mk (day:Int) (size x:V):vs=[.int day,size,x]->Dv H size->DvN H x->(∀H',Same H H'->Q (.bl (netV H day size x)) H')->spIsNet vs H Q z3q
section
variable {f:Addr}
theorem qmb9(F:Fun K "is_number" "is_number" qdn9 f fd)(Cg0:Callee P w K mg base n "is_whole" ["thing"] spIsWhole):FnOk P w K mg base CX0 (n+1) f fd ["count","thing"] spNumber:=by
 refine F.okQ qmh9 ?_ ?_
 walk_at "o"
 obtain⟨count,x,rfl,dv,q⟩:=h
 refine⟨_,(qae9 (qal9 (qhl9 (qe_fn Cg0 hr U (qa_c (qv 1) qac9)) (qke9 (qpf9 qgm9 qff9 qad9 (qv 1) (qv 0)))))),?_⟩
 walk_at "d"
 refine⟨_,U,x,U,dv,_,U,?_⟩
 cases hw:isWh x with
 |false =>
  refine iteF ?_
  have e:numV count x=false:=by
   unfold numV
   split
   ·cases hw
   ·rfl
  rw[e] at q
  exact q
 |true =>
  obtain⟨i,rfl⟩:=qin9 hw
  unfold numV at q
  dsimp only at q
  refine iteT ⟨_,rfl,_,_,rfl,rfl,_,rfl,ite2 (λ c=>?_) (λ c=>?_)⟩
  ·rw[c,zee] at q
   exact⟨_,U,_,_,U,U,q⟩
  ·rw[zby.mpr c,zeh] at q
   exact q
theorem qpm9(F:Fun K "is_road" "is_road" qfa9 f fd)(B:Bl mg)(Cj0:Callee P w K mg base n "is_number" ["count","thing"] spNumber)(Cr0:Callee P w K mg base n "is_board" ["day","thing"] spBoard):FnOk P w K mg base CX0 (n+1) f fd ["day","size","thing"] spRoad:=by
 refine F.okQ qqm9 ?_ ?_
 walk_at "o"
 obtain⟨day,size,x,rfl,dv,q⟩:=h
 refine⟨_,(qab9 (qs_if (QW.pt (qw_or (qdv9 (qcb9 (qe_cb qch9 U B.isinstance qbc9 (qa_c (qv 2) (qa_c (qfh9 (v:=.ty "tuple") U B.tuple_ qqp9 U) qac9))))) (qew9 (qaj9 qoo9 (qe_cb qau9 U B.len qce9 (qa_c (qv 2) qac9)) qad9 (qat9 _))))) (qae9 (qal9 qe_bl)) qao9) (qab9 (qs_if (QW.pt (qw_or (qdv9 (qcb9 (qe_fn Cj0 hr U (qa_c (qv 1) (qa_c (qe_ix qan9 (qv 2) qad9 Y9) qac9))))) (qew9 (qdv9 (qcb9 (qe_fn Cj0 hr U (qa_c (qv 1) (qa_c (qe_ix qan9 (qv 2) qad9 Y9) qac9)))))))) (qae9 (qal9 qe_bl)) qao9) (qae9 (qal9 (qhl9 (qe_fn Cr0 hr U (qa_c (qv 0) (qa_c (qe_ix qan9 (qv 2) qad9 Y9) qac9))) (qke9 (qe_cb (qfm9 U) U B.all qmr9 (qa_c (qer9 ["window"] [none] (BlkOk.of U U (SubL.to subN) U) U (qcp9 (qe_ix qan9 (qv 2) qad9 Y9)) (λ _ _ _ _=>(qam9 (i:=0) (show(["window"]:List Str).Nodup by decide) U (zaf U))) (λ _ _ _ _=>(qfg9 qhb9 (qe_ix (qmv9 K U) (qv 0) qad9 Y9) qad9 (qat9 _)))) qac9)))))))),?_⟩
 walk_at "d"
 obtain⟨t,hty,hk⟩:=dv.1.isTup (K:=K)
 have q0:roadV H day size x=false->∀H',Same H H'->Q (.bl false) H':=λ e H' s=>by
  have:=q H' s
  rw[e] at this
  exact this
 cases ht:tupV H x with
 |none =>
  rw[ht] at hk
  have hw:roadV H day size x=false:=by unfold roadV;rw[ht]
  exact⟨_,U,_,"tuple",t,_,U,hty,hk,_,U,iteT (iteT (q0 hw _ (Same.refl H)))⟩
 |some xs =>
  rw[ht] at hk
  have hwl:roadV H day size x=roadL H day size xs:=by unfold roadV;rw[ht]
  have dz:=dv.2 xs ht
  obtain⟨r,rfl,er⟩:=qlo9 ht
  refine⟨_,U,_,"tuple",t,_,U,hty,hk,_,U,iteF ?_⟩
  refine⟨_,U,r,xs,U,.inr (SqT.of er),U,_,U,?_⟩
  by_cases hl:xs.length=3
  ·obtain⟨u,v,b,rfl⟩:=three hl
   refine iteN (by simp) ?_
   have eL:roadL H day size [u,v,b]=(numV size u&&(numV size v&&(qhx9 H day b&&posB H b))):=rfl
   rw[eL] at hwl
   refine⟨_,U,_,U,r,_,_,_,U,U,SqT.of er,U,size,u,U,(dz u (by simp)).1,_,U,?_⟩
   cases hu:numV size u with
   |false=>exact iteT (iteT (q0 (by rw[hwl,hu];rfl) _ (Same.refl H)))
   |true =>
    refine iteF ⟨_,rfl,_,rfl,r,_,_,_,rfl,rfl,SqT.of er,rfl,size,v,rfl,(dz v (by simp)).1,_,rfl,?_⟩
    cases hv:numV size v with
    |false=>exact iteT (q0 (by rw[hwl,hu,hv];rfl) _ (Same.refl H))
    |true =>
     refine iteF ?_
     have db:=dz b (by simp)
     refine⟨_,U,_,U,r,_,_,_,U,U,SqT.of er,U,day,b,U,db,λ H1 s1=>⟨_,U,?_⟩⟩
     cases hb:qhx9 H day b with
     |false=>exact iteF (q0 (by rw[hwl,hu,hv,hb];rfl) _ s1)
     |true =>
      refine iteT ?_
      rw[hwl,hu,hv,hb] at q
      simp only[zee] at q
      unfold qhx9 at hb
      split at hb
      ·rename_i ws hws
       obtain⟨hlen,_⟩:=db.2 ws hws
       obtain⟨p,rfl,ep⟩:=qlg9 hws
       rw[zbh] at hb
       have ep1:=s1 _ _ ep
       refine⟨_,U,r,_,_,_,U,U,SqT.of (s1 _ _ er),U,p,U,⟨_,SqL.of ep1⟩,?_⟩
       refine qcf9 (K:=K) (a:=p) (xs:=ws) (λ D i H'=>Same H1 H'/\H' D=some (.lst ((ws.take i).map λ y=>V.bl (posW H y)))) (λ D hD=>⟨qar9 hD _,qaf9⟩) (λ D i H' _ _ h=>SqL.of (h.1 _ _ ep1)) ?_ ?_
       ·intro D i y H' hD hi z9;obtain⟨s2,hD2⟩ := z9
        obtain⟨r2,a,b,c,rfl,e2⟩:=qrh9 (hb y (zaj hi))
        refine⟨λ k v' e=>?_,?_⟩
        ·match k,e with
         |0,e=>cases e
         |k+1,e=>cases e
        refine⟨_,U,r2,_,_,_,U,U,SqT.of (s2 _ _ (s1 _ _ e2)),U,_,_,U,U,_,hD2,(by rw[zad,zbc];exact qie9 ⋯),λ b o eb=>?_,?_⟩
        ·rw[qap9 (qaz9 eb hD)]
         exact s2 _ _ eb
        ·rw[qaf9,qfj9 _ hi]
         simp[posW,tupV,e2]
       ·intro D H' hD z9;obtain⟨s2,hD2⟩ := z9
        have eD:H' D=some (.lst ((ws.map (posW H)).map V.bl)):=by
         rw[hD2,zbj,zdz]
         rfl
        refine⟨D,_,U,SqL.of eD,?_⟩
        have e1:(ws.map (posW H)).all id=ws.all (posW H):=by rw[zgs];rfl
        rw[e1]
        have:=q H' (s1.trans s2)
        unfold posB at this
        rw[hws] at this
        exact this
      ·cases hb
  ·refine iteP (by simp;omega) (q0 ?_ _ (Same.refl H))
   rw[hwl]
   unfold roadL
   split
   ·rename_i e
    exact absurd rfl hl
   ·rfl
theorem ok_is_net(F:Fun K "is_net" "is_net" qgk9 f fd)(B:Bl mg)(Cg0:Callee P w K mg base n "is_whole" ["thing"] spIsWhole)(Cb2:Callee P w K mg base n "is_road" ["day","size","thing"] spRoad):FnOk P w K mg base CX0 (n+1) f fd ["day","size","roads"] spIsNet:=by
 refine F.okQ sc_is_net ?_ ?_
 walk_at "o"
 obtain⟨day,size,x,rfl,ds,dv,q⟩:=h
 refine⟨_,(qab9 (qs_if (QW.pt (qw_or (qdv9 (qcb9 (qe_fn Cg0 hr U (qa_c (qv 1) qac9)))) (qw_or (qaj9 qff9 (qv 1) qad9 (qat9 _)) (qew9 (qdv9 (qcb9 (qe_cb qch9 U B.isinstance qbc9 (qa_c (qv 2) (qa_c (qfh9 (v:=.ty "list") U B.list_ qkv9 U) qac9))))))))) (qae9 (qal9 qe_bl)) qao9) (qae9 (qal9 (qe_cb (qfm9 U) U B.all qmr9 (qa_c (qer9 ["road","day","size"] [none,some 0,some 1] (BlkOk.of U U (SubL.to (subC U (subC U subN))) U) U (qcp9 (qv 2)) (λ _ _ _ _=>(qam9 (i:=0) (show(["road","day","size"]:List Str).Nodup by decide) U (zaf U))) (λ _ _ _ _=>(qe_fn Cb2 hr U (qa_c (qv 1) (qa_c (qv 2) (qa_c (qv 0) qac9)))))) qac9))))),?_⟩
 walk_at "d"
 refine⟨_,U,size,U,ds,_,U,?_⟩
 cases hw:isWh size with
 |false =>
  have e:netV H day size x=false:=by
   unfold netV
   split
   ·cases hw
   ·rfl
  have q':=q H (Same.refl H)
  rw[e] at q'
  exact iteT (iteT q')
 |true =>
  obtain⟨m,rfl⟩:=qin9 hw
  unfold netV at q
  dsimp only at q
  refine iteF ⟨_,rfl,_,_,rfl,rfl,_,rfl,ite2 (λ c=>?_) (λ c=>?_)⟩
  ·have c':m<1:=oT9 c
   have q':=q H (Same.refl H)
   rw[decide_eq_false (show ¬1<=m by omega)] at q'
   exact iteT q'
  have c':1<=m:=by
   have:¬m<1:=λ z=>c (dT9 z)
   omega
  rw[dT9 c',zee] at q
  obtain⟨t,hty,hk⟩:=dv.1.isLst (K:=K)
  cases ht:lstV H x with
  |none =>
   rw[ht] at hk q
   exact⟨_,U,_,"list",t,_,U,hty,hk,_,U,iteT (q _ (Same.refl H))⟩
  |some xs =>
   rw[ht] at hk q
   obtain⟨hlen,dz⟩:=dv.2 xs ht
   obtain⟨p,rfl,ep⟩:=qlg9 ht
   refine⟨_,U,_,"list",t,_,U,hty,hk,_,U,iteF ?_⟩
   refine⟨_,U,p,U,⟨_,SqL.of ep⟩,?_⟩
   refine qcf9 (K:=K) (a:=p) (xs:=xs) (λ D i H'=>Same H H'/\H' D=some (.lst ((xs.take i).map λ y=>V.bl (roadV H day m y)))) (λ D hD=>⟨qar9 hD _,qaf9⟩) (λ D i H' _ _ h=>SqL.of (h.1 _ _ ep)) ?_ ?_
   ·intro D i y H' hD hi z9;obtain⟨s2,hD2⟩ := z9
    have d2:=dz y (zaj hi)
    refine⟨λ k v' e=>?_,_,U,_,U,_,U,day,m,y,U,d2.same s2,λ H3 s3=>⟨_,s3 _ _ hD2,(by rw[zad,zbc];exact qie9 ⋯),λ b o eb=>?_,?_⟩⟩
    ·match k,e with
     |0,e=>cases e
     |1,e=>exact e
     |2,e=>exact e
     |k+3,e=>cases e
    ·rw[qap9 (qaz9 eb hD)]
     exact s3 _ _ (s2 _ _ eb)
    ·rw[qaf9,qfj9 _ hi,d2.roadV_same s2]
   ·intro D H' hD z9;obtain⟨s2,hD2⟩ := z9
    have eD:H' D=some (.lst ((xs.map (roadV H day m)).map V.bl)):=by
     rw[hD2,zbj,zdz]
     rfl
    refine⟨D,_,U,SqL.of eD,?_⟩
    have e1:(xs.map (roadV H day m)).all id=xs.all (roadV H day m):=by rw[zgs];rfl
    rw[e1]
    exact q H' s2
end
inductive Ew(H:Hp):Nat->V->Prop
 |non {n:Nat}:Ew H n .non
 |bl {n:Nat} (b:Bool):Ew H n (.bl b)
 |int {n:Nat} (i:Int):Ew H n (.int i)
 |str {n:Nat} (x:Str):Ew H n (.str x)
 |lst {n:Nat} {a:Addr} {xs:List V}:H a=some (.lst xs)->xs.length<=1000->(∀y∈xs,Ew H n y)->Ew H (n+1) (.ref a)
 |tup {n:Nat} {a:Addr} {xs:List V}:H a=some (.tup xs)->(∀y∈xs,Ew H n y)->Ew H (n+1) (.ref a)
theorem Ew.same(s:Same H H'):∀{n:Nat}{x:V},Ew H n x->Ew H' n x:=by
 intro n x h
 induction h with
 |non=>exact .non
 |bl b=>exact .bl b
 |int i=>exact .int i
 |str x=>exact .str x
 |lst e l _ ih=>exact .lst (s _ _ e) l ih
 |tup e _ ih=>exact .tup (s _ _ e) ih
theorem Ew.dv{x:V}(h:Ew H n x):Dv H x:=by
 cases h with
 |non=>exact .non
 |bl b=>exact .bl b
 |int i=>exact .int i
 |str x=>exact .str x
 |lst e _ _=>exact .lst e
 |tup e _=>exact .tup e
theorem Ew.parts{x:V}(h:Ew H (n+1) x)(e:tupV H x=some zs):∀z∈zs,Ew H n z:=by
 obtain⟨a,rfl,ea⟩:=qlo9 e
 cases h with
 |lst e2 _ _=>rw[ea] at e2;cases e2
 |tup e2 p=>rw[ea] at e2;cases e2;exact p
theorem Ew.items{x:V}(h:Ew H (n+1) x)(e:lstV H x=some zs):zs.length<=1000/\∀z∈zs,Ew H n z:=by
 obtain⟨a,rfl,ea⟩:=qlg9 e
 cases h with
 |tup e2 _=>rw[ea] at e2;cases e2
 |lst e2 l p=>rw[ea] at e2;cases e2;exact⟨l,p⟩
theorem Ew.d2{x:V}(h:Ew H (n+1) x):Dv2 H x:=⟨h.dv,λ zs e z hz=>(h.parts e z hz).dv⟩
theorem Ew.d3{x:V}(h:Ew H (n+2) x):Dv3 H x:=⟨h.dv,λ zs e=>⟨(h.items e).1,λ z hz=>((h.items e).2 z hz).d2⟩⟩
theorem Ew.dr{x:V}(h:Ew H (n+3) x):DvR H x:=⟨h.dv,λ zs e z hz=>(h.parts e z hz).d3⟩
theorem Ew.dn{x:V}(h:Ew H (n+4) x):DvN H x:=⟨h.dv,λ zs e=>⟨(h.items e).1,λ z hz=>((h.items e).2 z hz).dr⟩⟩
def hide(p:Addr)(H:Hp):Hp:=λ b=>if b=p then none else H b
theorem qrl9{b:Addr}{o:HO}(e:H b=some o)(n:b≠p):hide p H b=some o:=by
 unfold hide
 rw[if_neg n]
 exact e
theorem hide_to:Same (hide p H) H:=λ b o e=>by
 unfold hide at e
 split at e
 ·cases e
 ·exact e
section
variable {H2:Hp}{q:Addr}
end
theorem la_ew{b:Addr}(h:LA enc3 H b R)(hp:H p=some (.lst zs))(nb:b≠p)(l:R.length<=1000):Ew (hide p H) 2 (.ref b):=by
 obtain⟨vs,h1,h2,h3⟩:=h.lst
 refine .lst (qrl9 h1 nb) ⋯ λ y hy=>?_
 obtain⟨i,hi⟩:=zdg.mp hy
 obtain⟨r,x,rfl,_,er⟩:=h3 i y hi
 refine .tup (qrl9 er λ z=>by rw[z,hp] at er;cases er) λ y hy=>?_
 simp only[enc3,zah,zaw,or_false] at hy
 rcases hy with rfl|rfl|rfl<;>exact .int _
theorem NA.item{y:V}(h:NA H p N)(l:∀m∈N,m.2.2.2.length<=1000)(e:H p=some (.lst vs))(hy:y∈vs):Ew (hide p H) 3 y:=by
 obtain⟨vs',h1,h2,h3⟩:=h.la.lst
 rw[h1] at e
 cases e
 obtain⟨i,hi⟩:=zdg.mp hy
 obtain⟨r,x,rfl,ex,er⟩:=h3 i y hi
 obtain⟨m,hm,rfl⟩:=zat.mp (zaj ex)
 refine .tup (qrl9 er λ z=>by rw[z,h1] at er;cases er) λ y hy=>?_
 simp only[encK,keyN,zah,zaw,or_false] at hy
 rcases hy with rfl|rfl|rfl
 ·exact .int _
 ·exact .int _
 ·exact la_ew (h.bd m hm).1 h1 (h.bd m hm).2 (l m hm)
theorem NA.ew(h:NA H p N)(l:∀m∈N,m.2.2.2.length<=1000)(l2:N.length<=1000):Ew H 4 (.ref p):=by
 obtain⟨vs,h1,h2,_⟩:=h.la.lst
 exact .lst h1 (by rw[h2,zad];exact l2) λ y hy=>(h.item l h1 hy).same hide_to
def BA(H:Hp)(p:Addr)(Bs:List (List T3)):Prop:=∃rs:List Addr,H p=some (.lst (rs.map V.ref))/\rs.length=Bs.length/\p∉rs/\rs.Nodup/\∀(i:Nat) r B,rs[i]?=some r->Bs[i]?=some B->LA enc3 H r B
section
variable {q:Addr}{Bs:List (List T3)}
theorem BA.nil(h:H p=some (.lst [])):BA H p []:=⟨[],h,rfl,by simp,List.nodup_nil,λ i r B e=>by simp at e⟩
theorem BA.u(h:BA H p Bs)(s:SameU H H'):BA H' p Bs:=by
 obtain⟨rs,h1,h2,h3,h4,h5⟩:=h
 exact⟨rs,s.lst h1,h2,h3,h4,λ i r B a b=>(h5 i r B a b).u s⟩
theorem BA.rd(h:BA H p Bs):RdV K H (.ref p) (.list (Bs.map datB)):=by
 obtain⟨rs,h1,h2,-,-,h5⟩:=h
 refine .lst (SqL.of h1) ?_
 clear h1
 induction rs generalizing Bs with
 |nil =>
  cases Bs with
  |nil=>exact .nil
  |cons B Bs=>simp at h2
 |cons r rs ih =>
  cases Bs with
  |nil=>simp at h2
  |cons B Bs=>exact .cons (rd3 (h5 0 r B rfl rfl)) (ih (Bs:=Bs) (by simpa using h2) λ i r B a b=>h5 (i+1) r B a b)
theorem BA.snoc{B:List T3}(h:BA H p Bs)(hx:H p=some (.lst (rs.map V.ref)))(hr:LA enc3 H r B)(n1:r≠p)(n2:r∉rs):BA (upd H p (.lst (rs.map V.ref++[.ref r]))) p (Bs++[B]):=by
 obtain⟨rs',h1,h2,h3,h4,h5⟩:=h
 rw[hx] at h1
 have e:rs=rs':=by
  have:rs.map V.ref=rs'.map V.ref:=by
   injection h1 with h1
   injection h1
  exact(zgd λ a b z=>by cases z;rfl).mp this
 subst e
 refine⟨rs++[r],by rw[qaf9];simp,by simp[h2],by simp[h3,Ne.symm n1],?_,λ i r' B' a b=>?_⟩
 ·rw[zcb]
  exact⟨h4,by simp,λ a ha b hb=>by rw[zag] at hb;subst hb;exact λ z=>n2 (z ▸ ha)⟩
 ·rcases zcl i rs.length with z|z
  ·rw[zal z] at a
   rw[zal ⋯] at b
   exact qcr9 (h5 i r' B' a b) hx λ z=>h3 (z ▸ zaj a)
  ·obtain⟨lt,_⟩:=zab.mp a
   have ei:i=rs.length:=by simp at lt;omega
   subst ei
   rw[zak (zao _),zed] at a
   rw[zak ⋯,show rs.length-Bs.length=0 by omega] at b
   cases a
   cases b
   exact qcr9 hr hx n1
end
def Yg(H H':Hp)(p:Addr):Prop:=∀rs:List Addr,H' p=some (.lst (rs.map V.ref))->∀r∈rs,H r=none
theorem qrz9{rs':List Addr}(h:(HO.lst (rs.map V.ref))=.lst (rs'.map V.ref)):rs=rs':=by
 injection h with h
 exact(zgd λ a b z=>by cases z;rfl).mp h
theorem Yg.of(e:H' p=some (.lst (rs.map V.ref)))(h:∀r∈rs,H r=none):Yg H H' p:=λ rs' e'=>by
 rw[e] at e'
 rw[<- qrz9 (Option.some.inj e')]
 exact h
theorem Ma.bt_still(hd:0<d)(t:Int):Ma.bt d [(0,d-1,0)] t=some t:=by
 have h:=Ma.bt_snoc d [] (0,d-1,0) t
 rw[zdo,Ma.bt_nil] at h
 rw[h]
 unfold Ma.btS
 dsimp only
 rw[Ma.nextO_eq d 0 (d-1) t ⋯]
 have m:=qet9 t hd
 rw[if_neg ⋯,if_neg ⋯,Int.add_zero]
theorem Ma.ck_still(hd:0<d):Ma.CK d [(0,d-1,0)]:=Ma.ck_one hd ⟨zau _,by show 0<=d-1;omega,by show d-1<d;omega,zau _⟩
theorem LA.one{x:T3}(h:H p=some (.lst [.ref r]))(e:H r=some (.tup (enc3 x))):LA enc3 H p [x]:=LA.of h rfl λ i y hi=>by
 match i,hi with
 |0,hi=>cases hi;exact⟨r,rfl,λ z hz=>by cases hz;exact e⟩
 |k+1,hi=>simp at hi
theorem qis9{α:Type}{L:List α}{x:α}(h:L[i]?=some x):L.take (i+1)=L.take i++[x]:=by rw[List.take_succ,h];rfl
abbrev Tb:=List (List T3)
variable {B Cs:Tb}
def cl(Cs:Tb)(p:Int):List T3:=Cs.getD p.toNat []
def ways(d:Int)(F:List RdT)(Cs:Tb)(p t:Int)(o:Option Int):Option Int:=F.foldl (λ acc m=>if m.1=p then Ma.omin acc (Ma.obind (Ma.bt d m.2.2.2) (Ma.bt d (cl Cs m.2.1)) t) else acc) o
def stepT(d:Int)(F:List RdT)(Cs:Tb)(p t:Int):Option Int:=ways d F Cs p t (Ma.bt d (cl Cs p) t)
theorem ways_snoc{p:Int}:ways d (F++[m]) Cs p t o=if m.1=p then Ma.omin (ways d F Cs p t o) (Ma.obind (Ma.bt d m.2.2.2) (Ma.bt d (cl Cs m.2.1)) t) else ways d F Cs p t o:=by simp[ways]
def stay(d:Int)(n:Nat)(p:Int):Tb:=(zcz n).map λ(i:Nat)=>if(i:Int)=p then [(0,d-1,0)] else []
theorem cl_at{p:Int}(h0:0<=p)(h1:p<(Cs.length:Int)):Cs[p.toNat]?=some (cl Cs p):=by
 unfold cl
 rw[zbn,zaa ⋯]
 rfl
theorem cl_mem{p:Int}(h0:0<=p)(h1:p<(Cs.length:Int)):cl Cs p∈Cs:=zaj (cl_at h0 h1)
theorem cl_set{p:Int}(h0:0<=p)(h1:p<(Cs.length:Int))(g0:0<=q)(g1:q<(Cs.length:Int)):cl (Cs.set q.toNat R) p=if q=p then R else cl Cs p:=by
 unfold cl
 rw[zbn,zbn,zcp]
 by_cases e:q=p
 ·subst e
  rw[if_pos rfl,if_pos rfl,if_pos ⋯]
  rfl
 ·rw[if_neg e,if_neg ⋯]
theorem cl_stay{p:Int}(h0:0<=q)(h1:q<(n:Int)):cl (stay d n p) q=if q=p then [(0,d-1,0)] else []:=by
 unfold cl stay
 rw[zbn,zap,List.getElem?_range ⋯]
 show(if((q.toNat:Nat):Int)=p then _ else _)=_
 rw[show((q.toNat:Nat):Int)=q by omega]
def TOk(d:Int)(M:Nat)(Cs:Tb):Prop:=∀C∈Cs,Ma.MuR d C M
def FOk(d size:Int)(m:Nat)(F:List RdT):Prop:=∀f∈F,(0<=f.1/\f.1<size)/\(0<=f.2.1/\f.2.1<size)/\Ma.MuR d f.2.2.2 m
theorem TOk.le{d:Int}{M M':Nat}{Cs:Tb}(h:TOk d M Cs)(l:M<=M'):TOk d M' Cs:=λ C hC=>(h C hC).le l
def mxT(f m:Nat):Nat->Nat
 |0=>2
 |k+1=>mxT f m k+f*(m+mxT f m k)
structure NetOk(d size:Int)(N:List RdT):Prop where
 all:∀m∈N,(0<=m.1/\m.1<size)/\(0<=m.2.1/\m.2.1<size)/\m.2.2.2.length<=100/\∀w∈m.2.2.2,0<=w.1/\w.1<=w.2.1/\w.2.1<d/\1<=w.2.2
def Fords(d:Int)(N F:List RdT):Prop:=F.length=N.length/\∀(i:Nat) m f,N[i]?=some m->F[i]?=some f->f.1=m.1/\f.2.1=m.2.1/\Ma.CK d f.2.2.2/\f.2.2.2.length<=2*m.2.2.2.length+1/\∀t,Ma.bt d f.2.2.2 t=Ma.bt d m.2.2.2 t
theorem NetOk.wins(h:NetOk d size N)(hm:m∈N):Ma.Wins d m.2.2.2:=λ w hw=>by
 obtain⟨a,b,c,e⟩:=(h.all m hm).2.2.2 w hw
 exact⟨a,b,c,⋯⟩
theorem Fords.ok{m:Nat}(h:Fords d N F)(hN:NetOk d size N)(l:∀x∈N,4*x.2.2.2.length+2<=m):FOk d size m F:=λ f hf=>by
 obtain⟨i,hi⟩:=zbl hf
 have lt:=(zab.mp hi).1
 have hx:=zaa (show i<N.length by rw[<- h.1];exact lt)
 obtain⟨e1,e2,ck,ln,_⟩:=h.2 i _ f hx hi
 have hm:=zaj hx
 have:=hN.all _ hm
 have:=l _ hm
 exact⟨by rw[e1];exact(hN.all _ hm).1,by rw[e2];exact(hN.all _ hm).2.1,ck,λ z=>(Ma.mu_of ck (Ma.tells_bf z)).le ⋯⟩
structure FA(H:Hp)(p:Addr)(F:List RdT):Prop where
 la:LA encK H p (F.map keyN)
 bd:∀m∈F,LA enc3 H m.2.2.1 m.2.2.2
theorem FA.u{H H':Hp}{p:Addr}{F:List RdT}(h:FA H p F)(s:SameU H H'):FA H' p F:=⟨h.la.u s,λ m hm=>(h.bd m hm).u s⟩
theorem NA.u{H H':Hp}{p:Addr}{N:List RdT}(h:NA H p N)(s:SameU H H'):NA H' p N:=⟨h.la.u s,λ m hm=>⟨(h.bd m hm).1.u s,(h.bd m hm).2⟩,h.nd⟩
theorem NA.net(h:NA H p N)(hN:NetOk d size N)(h1:1<=size):netV H d (.int size) (.ref p)=true:=by
 obtain⟨vs,e1,e2,e3⟩:=h.la.lst
 unfold netV
 rw[qnb9 e1]
 simp only[zbu,decide_eq_true_eq]
 refine⟨h1,zbh.mpr λ y hy=>?_⟩
 obtain⟨i,hi⟩:=zdg.mp hy
 obtain⟨r,x,rfl,ex,er⟩:=e3 i y hi
 obtain⟨m,hm,rfl⟩:=zat.mp (zaj ex)
 obtain⟨⟨a1,a2⟩,⟨b1,b2⟩,_,w⟩:=hN.all m hm
 unfold roadV
 rw[qsi9 er]
 have hb:=(h.bd m hm).1
 have hB:=qpd9 hb (hN.wins hm)
 show(numV size (.int m.1)&&(numV size (.int m.2.1)&&(qhx9 H d (.ref m.2.2.1)&&posB H (.ref m.2.2.1))))=true
 rw[hB]
 simp only[numV,zbu,decide_eq_true_eq]
 refine⟨⟨a1,a2⟩,⟨b1,b2⟩,trivial,?_⟩
 obtain⟨us,u1,u2,u3⟩:=hb.lst
 unfold posB
 rw[qnb9 u1]
 refine zbh.mpr λ y hy=>?_
 obtain⟨i,hi⟩:=zdg.mp hy
 obtain⟨r,x,rfl,ex,er⟩:=u3 i y hi
 unfold posW
 rw[qsi9 er]
 have:=(w x (zaj ex)).2.2.2
 simp only[enc3,decide_eq_true_eq]
 omega
theorem BA.at{i:Int}(h:BA H p Cs)(h0:0<=i)(h1:i<(Cs.length:Int)):∃(rs:List Addr)(r:Addr),H p=some (.lst (rs.map V.ref))/\atI (rs.map V.ref) i=some (.ref r)/\rs[i.toNat]?=some r/\rs.length=Cs.length/\LA enc3 H r (cl Cs i):=by
 obtain⟨rs,e1,e2,e3,e4,e5⟩:=h
 have hr:rs[i.toNat]?=some (rs[i.toNat]'⋯):=zaa ⋯
 refine⟨rs,_,e1,?_,hr,e2,e5 _ _ _ hr (cl_at h0 h1)⟩
 have:=qea9 (j:=i.toNat) (v:=V.ref (rs[i.toNat]'⋯)) (xs:=rs.map V.ref) (by rw[zap,hr];rfl)
 rw[show((i.toNat:Nat):Int)=i by omega] at this
 exact this
theorem ixN_pos{i:Int}(h0:0<=i)(h1:i<(n:Int)):ixN n i=some i.toNat:=by
 unfold ixN
 rw[if_pos h0,if_pos h1]
theorem BA.set{H:Hp}{p r:Addr}{Cs:Tb}{rs:List Addr}{i:Nat}{R:List T3}(h:BA H p Cs)(hx:H p=some (.lst (rs.map V.ref)))(hr:LA enc3 H r R)(n1:r≠p)(n2:r∉rs)(hi:i<Cs.length):BA (upd H p (.lst ((rs.map V.ref).set i (.ref r)))) p (Cs.set i R):=by
 obtain⟨rs',e1,e2,e3,e4,e5⟩:=h
 rw[hx] at e1
 have e:=qrz9 (Option.some.inj e1)
 subst e
 have ms:(rs.map V.ref).set i (.ref r)=(rs.set i r).map V.ref:=by rw[zhl]
 refine⟨rs.set i r,by rw[qaf9,ms],by simp[e2],λ z=>?_,?_,λ j r' B a b=>?_⟩
 ·rcases zce z with z|z
  ·exact e3 z
  ·exact n1 z.symm
 ·rw[List.nodup_iff_pairwise_ne,zdm]
  intro a b ha hb hab
  rw[zgo,zgo]
  have ha':a<rs.length:=by simpa using ha
  have hb':b<rs.length:=by simpa using hb
  by_cases z1:i=a
  ·rw[if_pos z1,if_neg ⋯]
   exact λ z=>n2 (z ▸ zbi hb')
  ·rw[if_neg z1]
   by_cases z2:i=b
   ·rw[if_pos z2]
    exact λ z=>n2 (z ▸ zbi ha')
   ·rw[if_neg z2]
    intro z
    have:=(zgl e4).mp z
    omega
 ·rw[zcp] at a b
  by_cases z:i=j
  ·rw[if_pos z,if_pos ⋯] at a b
   cases a
   cases b
   exact qcr9 hr hx n1
  ·rw[if_neg z] at a b
   exact qcr9 (e5 j r' B a b) hx λ z=>e3 (z ▸ zaj a)
theorem comp_copy{σ:L2.St}(hB:BA H p Cs)(hl:Cs.length<=1000)(q:∀(l:Addr)(H':Hp),Same H H'->H l=none->BA H' l Cs->Yg H H' l->Q (.ref l) H') :
  cBody [none] (gName 0) tTrue (tCB (λ xs H Q=>∃p ys,xs=[V.ref p]/\(SqL K H p ys\/SqT K H p ys)/\∀l,H l=none->Q (V.ref l) (upd H l (.lst ys))) (tCons (tVar 0) tNil)) σ Q (Itl K p) H:=by
 obtain⟨rs,h1,h2,h3,h4,h5⟩:=id hB
 have hrl:(rs.map V.ref).length=Cs.length:=by simp[h2]
 refine qcf9 (K:=K) (a:=p) (xs:=rs.map V.ref) (λ D i H'=>Same H H'/\BA H' D (Cs.take i)/\Yg H H' D) (λ D hD=>⟨qar9 hD _,BA.nil qaf9,Yg.of (rs:=[]) qaf9 (λ r hr=>by cases hr)⟩) (λ D i H' _ _ h=>SqL.of (h.1 _ _ h1)) ?_ ?_
 ·intro D i y H' hD hi z9;obtain⟨sD,hB',hY⟩ := z9
  have hil:i<rs.length:=by
   have:=(zab.mp hi).1
   simpa using this
  have hr':rs[i]?=some rs[i]:=zaa hil
  have ey:y=.ref rs[i]:=by
   rw[zap,hr'] at hi
   exact(Option.some.inj hi).symm
  subst ey
  have hb:Cs[i]?=some (Cs[i]'⋯):=zaa ⋯
  have la:=(h5 i _ _ hr' hb).same sD
  generalize Cs[i]'⋯=C at hb la
  generalize rs[i]=rc at la
  obtain⟨us,hu1,hu2,hu3⟩:=la.lst
  refine⟨λ k v e=>?_,?_⟩
  ·match k,e with
   |0,e=>cases e
   |k+1,e=>cases e
  refine⟨_,U,rc,_,U,.inl (SqL.of hu1),λ l hl'=>?_⟩
  have hl0:=hl'
  have s1:=qar9 hl' (.lst us)
  have hc:=la.copy s1 hu1 qaf9
  generalize upd H' l (.lst us)=H1 at *
  obtain⟨os,o1,o2,o3,o4,o5⟩:=id hB'
  have hol:os.length=i:=by rw[o2,zbc];omega
  have nlD:l≠D:=λ z=>by rw[z,o1] at hl0;cases hl0
  have nlo:l∉os:=λ z=>by
   obtain⟨j,hj⟩:=zbl z
   have lj:=(zab.mp hj).1
   exact la_ne (enc':=enc3) (o5 j l _ hj (zaa ⋯)) hl0 rfl
  refine⟨_,s1 _ _ o1,qbf9 (by simp;omega),qbl9 hD (sD.trans s1),?_,Yg.of (rs:=os++[l]) (by rw[qaf9];simp) λ r hr=>?_⟩
  ·rw[qis9 hb]
   exact(hB'.u (SameU.of s1)).snoc (s1 _ _ o1) hc nlD nlo
  ·rcases zav.mp hr with hr|hr
   ·exact hY os o1 r hr
   ·rw[zag] at hr
    subst hr
    exact sD.free hl0
 ·intro D H' hD z9;obtain⟨sD,hB',hY⟩ := z9
  rw[hrl,zbj] at hB'
  exact q D H' sD hD hB' hY
inductive spNeedNet(vs:List V)(H:Hp)(Q:VK)(z3q:XK):Prop
 |mk (d size:Int) (p:Addr) (N:List RdT):vs=[.int d,.int size,.ref p]->NA H p N->N.length<=1000->NetOk d size N->1<=size->(∀H',Same H H'->Q .non H')->spNeedNet vs H Q z3q
inductive spNeedPlace(vs:List V)(H:Hp)(Q:VK)(z3q:XK):Prop
 |mk (size p:Int):vs=[.int size,.int p]->0<=p->p<size->Q .non H->spNeedPlace vs H Q z3q
inductive spFordsOf(vs:List V)(H:Hp)(Q:VK)(z3q:XK):Prop
 |mk (d size:Int) (p:Addr) (N:List RdT):vs=[.int d,.ref p]->NA H p N->N.length<=1000->0<d->NetOk d size N->(∀(l:Addr)(F:List RdT)(H':Hp),Same H H'->FA H' l F->Fords d N F->Q (.ref l) H')->spFordsOf vs H Q z3q
inductive spStand(vs:List V)(H:Hp)(Q:VK)(z3q:XK):Prop
 |mk (day:Int):vs=[.int day]->(∀(l:Addr)(H':Hp),Same H H'->H l=none->LA enc3 H' l [(0,day-1,0)]->Q (.ref l) H')->spStand vs H Q z3q
inductive spStaying(vs:List V)(H:Hp)(Q:VK)(z3q:XK):Prop
 |mk (d:Int) (n:Nat) (p:Int):vs=[.int d,.int n,.int p]->n<=1000->(∀(l:Addr)(H':Hp),Same H H'->H l=none->BA H' l (stay d n p)->Yg H H' l->Q (.ref l) H')->spStaying vs H Q z3q
inductive spCopied(vs:List V)(H:Hp)(Q:VK)(z3q:XK):Prop
 |mk (p:Addr) (Cs:Tb):vs=[.ref p]->BA H p Cs->Cs.length<=1000->(∀(l:Addr)(H':Hp),Same H H'->H l=none->BA H' l Cs->Yg H H' l->Q (.ref l) H')->spCopied vs H Q z3q
def spRide(T:Hp->Prop)(stp:Int->List RdT->Tb->Int->Int->Option Int):Sp:=λ vs H Q _=>∃(d:Int)(pF:Addr)(F:List RdT)(pt:Addr)(Cs:Tb)(M m:Nat),vs=[.int d,.ref pF,.ref pt]/\FA H pF F/\BA H pt Cs/\T H/\FOk d Cs.length m F/\TOk d M Cs/\M+F.length*(m+M)<=1000000/\(2*(m+1)+2)*(2*(M+1)+2)<=16000000/\Cs.length<=1000 /\
 ∀(l:Addr)(Ds:Tb)(H':Hp),SameU H H'->T H'->H l=none->BA H' l Ds->Yg H H' l->Ds.length=Cs.length->TOk d (M+F.length*(m+M)) Ds->(∀p,0<=p->p<(Cs.length:Int)->∀t,Ma.bt d (cl Ds p) t=stp d F Cs p t)->Q (.ref l) H'
section
variable {f:Addr}
theorem qow9(F:Fun K "need_net" "need_net" qen9 f fd)(Ch2:Callee P w K mg base n "is_net" ["day","size","roads"] spIsNet):FnOk P w K mg base CX0 (n+1) f fd ["day","size","roads"] spNeedNet:=by
 refine F.okQ qor9 ?_ ?_
 walk_at "o"
 obtain⟨d,size,p,N,rfl,hN,nl,ok,h1,q⟩:=h
 refine⟨_,(qae9 (qs_if (qdv9 (qcb9 (qe_fn Ch2 hr U (qa_c (qv 0) (qa_c (qv 1) (qa_c (qv 2) qac9)))))) (qae9 qfw9) qao9)),?_⟩
 walk_at "d"
 have ew:=hN.ew (λ m hm=>by have:=(ok.all m hm).2.2.1;omega) nl
 refine⟨_,U,_,U,_,U,d,.int size,.ref p,U,.int _,Ew.dn (n:=0) ew,λ H1 s1=>?_⟩
 rw[hN.net ok h1]
 exact⟨_,U,iteF (q H1 s1)⟩
theorem qkq9(F:Fun K "need_place" "need_place" qda9 f fd)(Cj0:Callee P w K mg base n "is_number" ["count","thing"] spNumber):FnOk P w K mg base CX0 (n+1) f fd ["size","thing"] spNeedPlace:=by
 refine F.okQ qlc9 ?_ ?_
 walk_at "o"
 obtain⟨size,p,rfl,h0,h1,q⟩:=h
 refine⟨_,(qae9 (qs_if (qdv9 (qcb9 (qe_fn Cj0 hr U (qa_c (qv 0) (qa_c (qv 1) qac9))))) (qae9 qfw9) qao9)),?_⟩
 walk_at "d"
 refine⟨_,U,_,U,size,.int p,U,.int _,?_⟩
 have e:numV size (.int p)=true:=by simp[numV,h0,h1]
 rw[e]
 exact⟨_,U,iteF q⟩
theorem ok_stand(F:Fun K "standing" "standing" qeh9 f fd):FnOk P w K mg base CX0 (n+1) f fd ["day"] spStand:=by
 refine F.okQ qol9 ?_ ?_
 walk_at "o"
 obtain⟨day,rfl,q⟩:=h
 refine⟨_,(qae9 (qal9 (qdh9 (qa_c (qca9 (qa_c qad9 (qa_c (qe_op qcc9 (qv 0) qad9) (qa_c qad9 qac9)))) qac9)))),?_⟩
 walk_at "d"
 refine⟨_,U,_,_,U,U,z39,λ r1 hr1=>?_⟩
 generalize hgH1:upd _ r1 _=H1
 revert H1
 refine qbb9 hr1 λ H1 s1 e1=>?_
 refine⟨z19,λ pl hpl=>?_⟩
 generalize hgH2:upd _ pl _=H2
 revert H2
 refine qbb9 hpl λ H2 s2 e2=>?_
 exact q pl H2 (s1.trans s2) (s1.free hpl) (LA.one e2 (s2 _ _ e1))
theorem qou9(F:Fun K "fords_of" "fords_of" qeb9 f fd)(Co1:Callee P w K mg base n "clock_of" ["day","board"] spClockOf):FnOk P w K mg base CX0 (n+1) f fd ["day","roads"] spFordsOf:=by
 refine F.okQ qop9 ?_ ?_
 walk_at "o"
 obtain⟨d,size,pr,N,rfl,hN,nl,hd,ok,q⟩:=h
 refine⟨_,(qae9 (qal9 (qer9 ["start","end","board","day"] [none,none,none,some 0] (BlkOk.of U U (SubL.to (subC U subN)) U) U (qcp9 (qv 1)) (λ _ _ _ _=>(qsb9 (n:=3) K U U (qaq9 (qam9 (i:=0) (show(["start","end","board","day"]:List Str).Nodup by decide) U (zaf U)) (qaq9 (qam9 (i:=1) (show(["start","end","board","day"]:List Str).Nodup by decide) U (zaf U)) (qaq9 (qam9 (i:=2) (show(["start","end","board","day"]:List Str).Nodup by decide) U (zaf U)) qdz9))))) (λ _ _ _ _=>(qca9 (qa_c (qv 0) (qa_c (qv 1) (qa_c (qe_fn Co1 hr U (qa_c (qv 3) (qa_c (qv 2) qac9))) qac9)))))))),?_⟩
 walk_at "d"
 obtain⟨ws,hw1,hw2,hw3⟩:=hN.la.lst
 rw[zad] at hw2
 refine⟨_,U,pr,U,⟨_,SqL.of hw1⟩,?_⟩
 refine qcf9 (K:=K) (a:=pr) (xs:=ws) (λ D i H'=>Same H H'/\∃F,FA H' D F/\(∀m∈F,m.2.2.1≠D)/\Fords d (N.take i) F) (λ D hD=>⟨qar9 hD _,[],⟨LA.nil qaf9,λ m hm=>by cases hm⟩,(λ m hm=>by cases hm),by simp,λ i m f a b=>by simp at b⟩) (λ D i H' _ _ h=>SqL.of (h.1 _ _ hw1)) ?_ ?_
 ·intro D i y H' hD hi z9;obtain⟨sD,F,hF,hne,fo⟩ := z9
  obtain⟨r,x,rfl,ex,er⟩:=hw3 i y hi
  have hi2:i<N.length:=by
   have:=(zab.mp hi).1
   omega
  have em:=zaa hi2
  rw[zap,em] at ex
  cases ex
  have hm:=zbi hi2
  have hb:=(hN.bd _ hm).1
  generalize N[i]=m at *
  refine⟨r,_,U,SqT.of (sD _ _ er),U,_,_,U,_,_,U,_,_,U,U,λ k v e=>?_,?_⟩
  ·match k,e with
   |0,e=>cases e
   |1,e=>cases e
   |2,e=>cases e
   |3,e=>exact e
   |k+4,e=>cases e
  have lb:=(ok.all m hm).2.2.1
  refine⟨_,U,_,U,_,U,_,U,d,m.2.2.1,m.2.2.2,U,hb.same sD,⋯,hd,ok.wins hm,λ l R' H1 s1 f1 la1 l1 ck1 e1=>?_⟩
  refine⟨z39,λ rr hrr=>?_⟩
  generalize hgH2:upd _ rr _=H2
  revert H2
  refine qbb9 hrr λ H2 s2 e2=>?_
  have s12:=s1.trans s2
  obtain⟨vs,hv1,hv2,_⟩:=(hF.u (SameU.of s12)).la.lst
  have ml:F.length=i:=by rw[fo.1,zbc];omega
  rw[zad] at hv2
  have nlD:l≠D:=λ z=>by
   obtain⟨us,u1,_⟩:=hF.la.lst
   rw[z,u1] at f1
   cases f1
  refine⟨_,hv1,qbf9 ⋯,qbl9 hD (sD.trans s12),F++[(m.1,m.2.1,l,R')],⟨?_,λ x hx=>?_⟩,λ x hx=>?_,?_,λ j a b ha hb'=>?_⟩
  ·rw[zba]
   exact(hF.u (SameU.of s12)).la.append (x:=(m.1,m.2.1,l)) hv1 e2
  ·rcases zav.mp hx with hx|hx
   ·exact qcr9 ((hF.u (SameU.of s12)).bd x hx) hv1 (hne x hx)
   ·rw[zag] at hx
    subst hx
    exact qcr9 (la1.same s2) hv1 nlD
  ·rcases zav.mp hx with hx|hx
   ·exact hne x hx
   ·rw[zag] at hx
    subst hx
    exact nlD
  ·rw[zam,ml,zbc]
   simp
   omega
  ·rw[qis9 em] at ha
   rcases zcl j i with z|z
   ·rw[zal (by simp;omega)] at ha
    rw[zal ⋯] at hb'
    exact fo.2 j a b ha hb'
   ·have:=(zab.mp hb').1
    simp at this
    have ej:j=i:=⋯
    subst ej
    rw[zak (by simp;omega),zbc,show j-min j N.length=0 by omega] at ha
    rw[zak ⋯,ml,zed] at hb'
    cases ha
    cases hb'
    exact⟨U,U,ck1,l1,e1⟩
 ·intro D H' hD z9;obtain⟨sD,F,hF,hne,fo⟩ := z9
  rw[hw2,zbj] at fo
  exact q D F H' sD hF fo
theorem ok_copied(F:Fun K "copied_table" "copied_table" qby9 f fd)(B:Bl mg):FnOk P w K mg base CX0 (n+1) f fd ["told"] spCopied:=by
 refine F.okQ qjb9 ?_ ?_
 walk_at "o"
 obtain⟨p,Cs,rfl,hB,hl,q⟩:=h
 refine⟨_,(qae9 (qal9 (qer9 ["clock"] [none] (BlkOk.of U U (SubL.to subN) U) U (qcp9 (qv 0)) (λ _ _ _ _=>(qam9 (i:=0) (show(["clock"]:List Str).Nodup by decide) U (zaf U))) (λ _ _ _ _=>(qe_ct (qos9 K U) U B.list_ qkv9 (qa_c (qv 0) qac9)))))),?_⟩
 walk_at "d"
 obtain⟨rs,h1,h2,h3,h4,h5⟩:=id hB
 refine⟨_,U,p,U,⟨_,SqL.of h1⟩,?_⟩
 exact comp_copy hB hl q
theorem qrj9(F:Fun K "staying" "staying" qfi9 f fd)(B:Bl mg)(Cp1:Callee P w K mg base n "standing" ["day"] spStand):FnOk P w K mg base CX0 (n+1) f fd ["day","size","place"] spStaying:=by
 refine F.okQ qrk9 ?_ ?_
 walk_at "o"
 obtain⟨d,m,p,rfl,ml,q⟩:=h
 refine⟨_,(qae9 (qal9 (qer9 ["number","day","place"] [none,some 0,some 2] (BlkOk.of U U (SubL.to (subC U (subC U subN))) U) U (qfp9 U B.range (qa_c (qv 1) qac9)) (λ _ _ _ _=>(qam9 (i:=0) (show(["number","day","place"]:List Str).Nodup by decide) U (zaf U))) (λ _ _ _ _=>(qlm9 (qbt9 (qaj9 qbr9 (qv 0) (qv 2) (qat9 _)) (qe_fn Cp1 hr U (qa_c (qv 1) qac9)) (qdh9 qac9))))))),?_⟩
 walk_at "d"
 refine⟨_,U,(m:Int),U,⋯,⋯,?_⟩
 have mt:((m:Nat):Int).toNat=m:=⋯
 refine qjn9 (lo:=0) (n:=((m:Nat):Int).toNat) (λ D i H'=>Same H H'/\BA H' D (stay d i p)/\Yg H H' D) (λ D hD=>⟨qar9 hD _,BA.nil qaf9,Yg.of (rs:=[]) qaf9 (λ r hr=>by cases hr)⟩) ?_ ?_
 ·intro D i H' hD hi z9;obtain⟨sD,hB,hY⟩ := z9
  refine⟨λ k v e=>?_,?_⟩
  ·match k,e with
   |0,e=>cases e
   |1,e=>exact e
   |2,e=>exact e
   |k+3,e=>cases e
  have fin:∀(l:Addr)(C:List T3)(H1:Hp),Same H' H1->H' l=none->LA enc3 H1 l C->C=(if(i:Int)=p then [(0,d-1,0)] else [])->∃ys,H1 D=some (.lst ys)/\ys.length<sizeLine/\Same H (upd H1 D (.lst (ys++[.ref l])))/\BA (upd H1 D (.lst (ys++[.ref l]))) D (stay d (i+1) p)/\Yg H (upd H1 D (.lst (ys++[.ref l]))) D:=λ l C H1 s1 fl hC eC=>by
   obtain⟨os,o1,o2,o3,o4,o5⟩:=id hB
   have hol:os.length=i:=by rw[o2];simp[stay]
   have nlD:l≠D:=λ z=>by rw[z,o1] at fl;cases fl
   have nlo:l∉os:=λ z=>by
    obtain⟨j,hj⟩:=zbl z
    have lj:=(zab.mp hj).1
    exact la_ne (enc':=enc3) (o5 j l _ hj (zaa ⋯)) fl rfl
   refine⟨_,s1 _ _ o1,qbf9 (by simp;omega),qbl9 hD (sD.trans s1),?_,Yg.of (rs:=os++[l]) (by rw[qaf9];simp) λ r hr=>?_⟩
   ·have:=(hB.u (SameU.of s1)).snoc (s1 _ _ o1) hC nlD nlo
    have e:stay d (i+1) p=stay d i p++[C]:=by
     unfold stay
     rw[zft,zba,eC]
     rfl
    rw[e]
    exact this
   ·rcases zav.mp hr with hr|hr
    ·exact hY os o1 r hr
    ·rw[zag] at hr
     subst hr
     exact sD.free fl
  rw[show(0:Int)+((i:Nat):Int)=(i:Int) by omega]
  refine⟨λ v H1=>∃(l:Addr)(C:List T3),v=.ref l/\Same H' H1/\H' l=none/\LA enc3 H1 l C/\C=(if(i:Int)=p then [(0,d-1,0)] else []),?_,?_⟩
  ·refine⟨_,U,_,U,U,_,U,ite2 (λ c=>?_) (λ c=>?_)⟩
   ·have c':(i:Int)=p:=by
     have:=oT9 c
     injection this
    refine⟨_,U,d,U,λ l H1 s1 f1 la1=>⟨l,_,U,s1,f1,la1,by rw[if_pos c']⟩⟩
   ·have c':¬(i:Int)=p:=λ z=>c (dT9 (by rw[z]))
    refine⟨z09,λ l hl=>⟨l,[],U,qar9 hl _,hl,LA.nil qaf9,by rw[if_neg c']⟩⟩
  intro v H1 z9;obtain⟨l,C,rfl,s1,f1,la1,eC⟩ := z9
  exact fin l C H1 s1 f1 la1 eC
 ·intro D H' hD z9;obtain⟨sD,hB,hY⟩ := z9
  rw[mt] at hB
  exact q D H' sD hD hB hY
theorem qkz9(hTB:TB T)(F:Fun K "ride_first" "ride_first" qcy9 f fd)(Cb0:Callee P w K mg base n "copied_table" ["told"] spCopied)(Cn0:Callee P w K mg base n "sooner" ["day","one","other"] (spTwo Ma.omin))(Ci2:Callee P w K mg base n "behind" ["day","one","other"] (spBehind T)):FnOk P w K mg base CX0 (n+1) f fd ["day","fords","told"] (spRide T stepT):=by
 refine F.okQ sc_ride_first ?_ ?_
 walk_at "o"
 obtain⟨d,pF,F,pt,Cs,M,m,rfl,hF,hB,hT,fok,tok,b1,b2,nl,q⟩:=h
 refine⟨_,(qab9 (qai9 (i:=3) sc_ride_first.nd U (zaf U) (qe_fn Cb0 hr U (qa_c (qv 2) qac9))) (qab9 (qfk9 PassesOwn.never U (qcp9 (qv 1)) (qgx9 U (qaq9 (qam9 (i:=4) sc_ride_first.nd U (zaf U)) (qaq9 (qam9 (i:=5) sc_ride_first.nd U (zaf U)) (qaq9 (qam9 (i:=6) sc_ride_first.nd U (zaf U)) qdz9)))) (qae9 (qqd9 (qe_fn Cn0 hr U (qa_c (qv 0) (qa_c (qe_ix qak9 (qv 3) (qv 4) Y9) (qa_c (qe_fn Ci2 hr U (qa_c (qv 0) (qa_c (qv 6) (qa_c (qe_ix qak9 (qv 2) (qv 5) Y9) qac9)))) qac9)))) (qg_sub (qv 3) (qv 4) qqu9)))) (qae9 (qal9 (qv 3))))),?_⟩
 walk_at "d"
 refine⟨_,U,pt,Cs,U,hB,nl,λ pn H1 s1 f1 B1 Y1=>?_⟩
 have u1:=SameU.of s1
 obtain⟨ws,hw1,hw2,hw3⟩:=hF.la.lst
 rw[zad] at hw2
 refine⟨_,U,pF,U,⟨_,SqL.of (s1 _ _ hw1)⟩,qdy9 (K:=K) (a:=pF) (xs:=ws)
  (λ i σ H'=>∃(Ds:Tb)(v4 v5 v6:Option V),σ=[some (.int d),some (.ref pF),some (.ref pt),some (.ref pn),v4,v5,v6]/\SameU H H'/\T H'/\BA H' pn Ds/\Yg H H' pn/\Ds.length=Cs.length/\TOk d (M+i*(m+M)) Ds/\∀p,0<=p->p<(Cs.length:Int)->∀t,Ma.bt d (cl Ds p) t=ways d (F.take i) Cs p t (Ma.bt d (cl Cs p) t))
  ⟨Cs,_,_,_,rfl,u1,hTB.same _ _ hT s1,B1,Y1,rfl,by simpa using tok,λ p _ _ t=>rfl⟩ (λ i σ H' _ z9=>by obtain⟨_,_,_,_,_,u,_⟩ := z9;exact SqL.of (u.lst hw1)) ?_ ?_⟩
 ·intro i y σ H2 hi z9;obtain⟨Ds,v4,v5,v6,rfl,u2,t2,B2,Y2,l2,tok2,e2⟩ := z9
  obtain⟨r,x,rfl,ex,er⟩:=hw3 i y hi
  have hi2:i<F.length:=by
   have:=(zab.mp hi).1
   omega
  have em:=zaa hi2
  rw[zap,em] at ex
  cases ex
  have hm:=zbi hi2
  generalize F[i]=g at *
  obtain⟨⟨a0,a1⟩,⟨b0,b1'⟩,mu⟩:=fok g hm
  refine⟨r,_,U,SqT.of (u2.tup er),U,_,_,U,_,_,U,_,_,U,U,?_⟩
  obtain⟨rs,rc,r1,r2,r3,r4,r5⟩:=B2.at a0 (by rw[l2];exact a1)
  obtain⟨ts,tc,q1,q2,q3,q4,q5⟩:=(hB.u u2).at b0 b1'
  have muD:=tok2 _ (cl_mem a0 (by rw[l2];exact a1))
  have muC:=tok _ (cl_mem b0 b1')
  have lg:=mu.len
  have lC:=muC.len
  have lD:=muD.len
  have im:M+i*(m+M)<=M+F.length*(m+M):=zfu (zfn _ ⋯) _
  have im2:M+(i+1)*(m+M)<=M+F.length*(m+M):=zfu (zfn _ ⋯) _
  have ie:M+(i+1)*(m+M)=M+i*(m+M)+(m+M):=by rw[Nat.add_mul,Nat.one_mul];omega
  have bnd:(2*g.2.2.2.length+1)*(2*(cl Cs g.2.1).length+2)<=16000000:=zbb (zev ⋯ ⋯) b2
  refine⟨_,U,_,U,_,U,pn,_,_,_,U,U,SqL.of r1,r2,_,U,_,U,_,U,_,U,pt,_,_,_,U,U,SqL.of q1,q2,d,g.2.2.1,tc,g.2.2.2,cl Cs g.2.1,U,(hF.u u2).bd g hm,q5,t2,⋯,⋯,bnd,mu.1,muC.1,λ l3 R3 H3 u3 t3 f3 la3 _ ck3 e3=>?_⟩
  have mu3:=Ma.MuR.bind ck3 mu muC e3
  have l3':=mu3.len
  refine⟨d,rc,l3,cl Ds g.1,R3,U,r5.u u3,la3,⋯,⋯,muD.1,ck3,λ l4 R4 H4 s4 f4 la4 _ ck4 e4=>?_⟩
  have mu4:=Ma.MuR.min ck4 muD mu3 e4
  have u24:=u3.trans (SameU.of s4)
  have r14:=u24.lst r1
  have nlp:l4≠pn:=λ z=>by rw[z,u3.lst r1] at f4;cases f4
  have nlr:l4∉rs:=λ z=>by
   obtain⟨rs',x1,x2,x3,x4,x5⟩:=B2.u u3
   rw[u3.lst r1] at x1
   have:=qrz9 (Option.some.inj x1)
   subst this
   obtain⟨j,hj⟩:=zbl z
   have lj:=(zab.mp hj).1
   exact la_ne (enc':=enc3) (x5 j l4 _ hj (zaa ⋯)) f4 rfl
  refine⟨_,U,_,U,pn,_,_,g.1.toNat,U,U,r14,ixN_pos a0 (by rw[zad,r4,l2];exact a1),?_⟩
  refine⟨Ds.set g.1.toNat R4,_,_,_,U,SameU.wr f1 (u2.trans u24),hTB.wr _ _ _ _ (hTB.same _ _ t3 s4) r14,(B2.u u24).set r14 la4 nlp nlr ⋯,Yg.of (rs:=rs.set g.1.toNat l4) (by rw[qaf9,zhl]) λ r' hr'=>?_,by simp[l2],λ C hC=>?_,λ p p0 p1 t=>?_⟩
  ·rcases zce hr' with z|z
   ·exact Y2 rs r1 r' z
   ·subst z
    exact(u2.trans u3).free f4
  ·rw[ie]
   rcases zce hC with z|z
   ·exact(tok2 C z).le ⋯
   ·subst z
    exact mu4
  ·rw[qis9 em,ways_snoc,cl_set p0 (by rw[l2];exact p1) a0 (by rw[l2];exact a1)]
   by_cases z:g.1=p
   ·rw[if_pos z,if_pos z,e4,e2 g.1 a0 a1,e3,z]
   ·rw[if_neg z,if_neg z,e2 p p0 p1]
 ·intro σ H2 z9;obtain⟨Ds,v4,v5,v6,rfl,u2,t2,B2,Y2,l2,tok2,e2⟩ := z9
  rw[hw2] at tok2 e2
  rw[zbj] at e2
  exact⟨_,U,q pn Ds H2 u2 t2 f1 B2 Y2 l2 tok2 e2⟩
end
def TL(H0 H:Hp)(p:Addr)(Ts:List Tb):Prop:=∃qs:List (Addr×List Addr),H p=some (.lst (qs.map λ q=>V.ref q.1))/\qs.length=Ts.length/\(p::qs.flatMap λ q=>q.1::q.2).Nodup/\(∀a∈p::qs.flatMap λ q=>q.1::q.2,H0 a=none) /\
 ∀(i:Nat) q B,qs[i]?=some q->Ts[i]?=some B->H q.1=some (.lst (q.2.map V.ref))/\q.2.length=B.length/\∀(j:Nat) r C,q.2[j]?=some r->B[j]?=some C->LA enc3 H r C
section
variable {H0 H H':Hp}{p:Addr}{Ts:List Tb}
theorem TL.live{qs:List (Addr×List Addr)}(e1:H p=some (.lst (qs.map λ q=>V.ref q.1)))(e2:qs.length=Ts.length)(e5:∀(i:Nat) q B,qs[i]?=some q->Ts[i]?=some B->H q.1=some (.lst (q.2.map V.ref))/\q.2.length=B.length/\∀(j:Nat) r C,q.2[j]?=some r->B[j]?=some C->LA enc3 H r C) :
  ∀a∈p::qs.flatMap λ q=>q.1::q.2,H a≠none:=λ a ha z=>by
 rcases zah.mp ha with e|e
 ·rw[e,e1] at z
  cases z
 ·obtain⟨q,hq,hm⟩:=zej.mp e
  obtain⟨i,hi⟩:=zbl hq
  have lt:=(zab.mp hi).1
  obtain⟨g1,g2,g3⟩:=e5 i q _ hi (zaa ⋯)
  rcases zah.mp hm with e|e
  ·rw[e,g1] at z
   cases z
  ·obtain⟨j,hj⟩:=zbl e
   have lj:=(zab.mp hj).1
   exact la_ne (enc':=enc3) (g3 j a _ hj (zaa ⋯)) z rfl
theorem TL.old(h:TL H1 H p Ts)(s:SameU H0 H1):TL H0 H p Ts:=by
 obtain⟨qs,e1,e2,e3,e4,e5⟩:=h
 exact⟨qs,e1,e2,e3,λ a ha=>s.free (e4 a ha),e5⟩
theorem TL.lst(h:TL H0 H p Ts):∃xs:List V,H p=some (.lst xs)/\xs.length=Ts.length:=by
 obtain⟨qs,e1,e2,_⟩:=h
 exact⟨_,e1,by simp[e2]⟩
theorem TL.at(h:TL H0 H p Ts)(hx:H p=some (.lst xs))(hi:Ts[i]?=some B):∃q:Addr,xs[i]?=some (.ref q)/\BA H q B/\H0 q=none/\Yg H0 H q/\q≠p:=by
 obtain⟨qs,e1,e2,e3,e4,e5⟩:=h
 rw[e1] at hx
 cases hx
 have lt:=(zab.mp hi).1
 have hq:qs[i]?=some (qs[i]'⋯):=zaa ⋯
 have hm:=zaj hq
 generalize qs[i]'⋯=q at hq hm
 obtain⟨g1,g2,g3⟩:=e5 i q B hq hi
 have fm:∀a∈q.1::q.2,a∈qs.flatMap λ q=>q.1::q.2:=λ a ha=>zej.mpr ⟨q,hm,ha⟩
 have nd:(q.1::q.2).Nodup:=by
  have:=(zbp.mp e3).2
  obtain⟨as,bs,rfl⟩:=zex hm
  rw[zdu,zbx] at this
  exact(zcb.mp ((zcb.mp this).2.1)).1
 obtain⟨nd1,nd2⟩:=zbp.mp nd
 refine⟨q.1,by rw[zap,hq];rfl,⟨q.2,g1,g2,nd1,nd2,g3⟩,e4 _ (zai _ (fm _ (zan ..))),Yg.of g1 λ r hr=>e4 _ (zai _ (fm _ (zai _ hr))),λ z=>?_⟩
 exact(zbp.mp e3).1 (z ▸ fm _ (zan ..))
theorem TL.one{q:Addr}(hB:BA H q B)(hp:H p=none)(fp:H0 p=none)(fq:H0 q=none)(Y:Yg H0 H q):TL H0 (upd H p (.lst [.ref q])) p [B]:=by
 obtain⟨rs,b1,b2,b3,b4,b5⟩:=hB
 have fr:=Y rs b1
 have nq:q≠p:=λ z=>by rw[z,hp] at b1;cases b1
 have nr:p∉rs:=λ z=>by
  obtain⟨j,hj⟩:=zbl z
  have lj:=(zab.mp hj).1
  exact la_ne (enc':=enc3) (b5 j p _ hj (zaa ⋯)) hp rfl
 refine⟨[(q,rs)],qaf9,U,?_,λ a ha=>?_,λ i q' B' a b=>?_⟩
 ·show(p::(q::rs++[])).Nodup
  rw[zbv]
  refine zbp.mpr ⟨λ z=>?_,zbp.mpr ⟨b3,b4⟩⟩
  rcases zah.mp z with e|e
  ·exact nq e.symm
  ·exact nr e
 ·have ha:a∈p::(q::rs++[]):=ha
  rw[zbv] at ha
  rcases zah.mp ha with e|e
  ·rw[e];exact fp
  ·rcases zah.mp e with e|e
   ·rw[e];exact fq
   ·exact fr a e
 ·match i,a,b with
  |0,a,b =>
   cases a
   cases b
   exact⟨by rw[qap9 nq];exact b1,b2,λ j r C x y=>(b5 j r C x y).same (qar9 hp _)⟩
  |i+1,a,b=>simp at a
theorem qmy9{α:Type}{xs:List α}(h1:1<=k)(h2:k<=xs.length):atI xs (-(k:Int))=xs[xs.length-k]?:=by
 unfold atI ixN
 rw[if_neg ⋯,if_pos ⋯]
 show xs[(-(k:Int)+(xs.length:Int)).toNat]?=_
 congr 1
 omega
theorem TL.snoc{Ha:Hp}{q:Addr}(h:TL H0 Ha p Ts)(s:SameU Ha H)(fq:Ha q=none)(hB:BA H q B)(hY:Yg Ha H q)(u:SameU H0 Ha)(hx:H p=some (.lst xs)):TL H0 (upd H p (.lst (xs++[.ref q]))) p (Ts++[B]):=by
 obtain⟨qs,e1,e2,e3,e4,e5⟩:=h
 have lv:=TL.live e1 e2 e5
 obtain⟨rs,b1,b2,b3,b4,b5⟩:=hB
 have fr:=hY rs b1
 rw[s.lst e1] at hx
 cases hx
 have ap:∀a∈q::rs,a≠p/\a∉(qs.flatMap λ q=>q.1::q.2)/\Ha a=none:=λ a ha=>by
  have z:Ha a=none:=by
   rcases zah.mp ha with e|e
   ·rw[e];exact fq
   ·exact fr a e
  exact⟨λ y=>lv a (by rw[y];exact zan ..) z,λ y=>lv a (zai _ y) z,z⟩
 have hp:∀{r:Addr}{C:List T3},r≠p->LA enc3 H r C->LA enc3 (upd H p (.lst ((qs.map λ q=>V.ref q.1)++[.ref q]))) r C:=λ n h=>qcr9 h (s.lst e1) n
 refine⟨qs++[(q,rs)],by rw[qaf9,zba];rfl,by simp[e2],?_,λ a ha=>?_,λ i q' B' a b=>?_⟩
 ·obtain⟨n1,n2⟩:=zbp.mp e3
  rw[zdu,zbx,zdw,zbv]
  refine zbp.mpr ⟨λ z=>?_,zcb.mpr ⟨n2,zbp.mpr ⟨b3,b4⟩,λ a ha b hb e=>(ap b hb).2.1 (e ▸ ha)⟩⟩
  rcases zav.mp z with z|z
  ·exact n1 z
  ·exact(ap p z).1 rfl
 ·rw[zdu,zbx,zdw,zbv] at ha
  rcases zah.mp ha with e|e
  ·exact e4 a (by rw[e];exact zan ..)
  ·rcases zav.mp e with e|e
   ·exact e4 a (zai _ e)
   ·exact u.free (ap a e).2.2
 ·rcases zcl i qs.length with z|z
  ·rw[zal z] at a
   rw[zal ⋯] at b
   obtain⟨g1,g2,g3⟩:=e5 i q' B' a b
   have hm:=zaj a
   have np:∀x∈q'.1::q'.2,x≠p:=λ x hx e=>(zbp.mp e3).1 (e ▸ zej.mpr ⟨q',hm,hx⟩)
   exact⟨by rw[qap9 (np _ (zan ..))];exact s.lst g1,g2,λ j r C x y=>hp (np r (zai _ (zaj x))) ((g3 j r C x y).u s)⟩
  ·have lt:=(zab.mp a).1
   simp at lt
   have ei:i=qs.length:=⋯
   subst ei
   rw[zak (zao _),zed] at a
   rw[zak ⋯,show qs.length-Ts.length=0 by omega] at b
   cases a
   cases b
   exact⟨by rw[qap9 (ap q (zan ..)).1];exact b1,b2,λ j r C x y=>hp (ap r (zai _ (zaj x))).1 (b5 j r C x y)⟩
end
def spStep(T:Hp->Prop)(stp:Int->List RdT->Tb->Int->Int->Option Int)(qual:Str)(v1 v2:V)(c':Addr):Sp:=match v1,v2 with
 | .int d,.ref pF=>λ vs H Q E=>H c'=some (.ext (CodeQ c' qual))/\∃pt:Addr,vs=[.ref pt]/\spRide T stp [.int d,.ref pF,.ref pt] H Q E
 |_,_=>λ _ _ _ _=>False
structure TsOk(d:Int)(n:Nat)(p:Int)(F:List RdT)(m:Nat)(stp:Int->List RdT->Tb->Int->Int->Option Int)(Ts:List Tb):Prop where
 first:Ts[0]?=some (stay d n p)
 each:∀(i:Nat) A,Ts[i]?=some A->A.length=n/\TOk d (mxT F.length m i) A
 grow:∀(i:Nat) A B,Ts[i]?=some A->Ts[i+1]?=some B->∀p,0<=p->p<(n:Int)->∀t,Ma.bt d (cl B p) t=stp d F A p t
def Few(f m n:Nat):Prop:=∀k,k+1<n->mxT f m (k+1)<=1000000/\(2*(m+1)+2)*(2*(mxT f m k+1)+2)<=16000000
def qpj9(T:Hp->Prop)(stp:Int->List RdT->Tb->Int->Int->Option Int)(qual:Str)(v1 v2:V)(fl c':Addr):Sp:=match v1,v2 with
 | .int d,.ref pF=>λ vs H Q _=>∃(n:Nat)(p:Int)(F:List RdT)(m:Nat),vs=[.int d,.int n,.int p,.ref fl]/\H c'=some (.ext (CodeQ c' qual))/\FA H pF F/\T H/\1<=n/\n<=1000/\0<d/\FOk d n m F/\Few F.length m n /\
  ∀(l:Addr)(Ts:List Tb)(H':Hp),SameU H H'->T H'->TL H H' l Ts->Ts.length=n->TsOk d n p F m stp Ts->Q (.ref l) H'
 |_,_=>λ _ _ _ _=>False
theorem stay_ok(hd:0<d){p:Int}:TOk d 2 (stay d n p):=λ C hC=>by
 obtain⟨i,_,rfl⟩:=zat.mp hC
 split
 ·exact Ma.mur_one (Ma.ck_still hd)
 ·exact Ma.mur_nil hd
section
variable {f:Addr}
theorem ok_grown{v1 v2:V}{stp:Int->List RdT->Tb->Int->Int->Option Int}(hTB:TB T)(F:Fun K "grown" "grown" qfn9 f fd)(B:Bl mg)(Co0:Callee P w K mg base n "staying" ["day","size","place"] spStaying)(Cb0:Callee P w K mg base n "copied_table" ["told"] spCopied)
  (G:FnOk P w K mg base CX0 n fl fdl ["told"] (spStep T stp qual v1 v2 c')) (bG:Binds K fdl ["told"] []) (ho:W.FnAt fl base):FnOk P w K mg base CX0 (n+1) f fd ["day","size","place","step"] (qpj9 T stp qual v1 v2 fl c'):=by
 unfold qpj9
 split
 case h_2=>exact qcq9
 rename_i d pF
 refine F.okQ sc_grown ?_ ?_
 walk_at "o"
 obtain⟨N,p,Fs,m,rfl,hc,hF,hT,N1,N2,hd,fok,few,q⟩:=h
 refine⟨_,(qab9 (qai9 (i:=4) sc_grown.nd U (zaf U) (qdh9 (qa_c (qe_fn Co0 hr U (qa_c (qv 0) (qa_c (qv 1) (qa_c (qv 2) qac9)))) qac9))) (qab9 (qii9 PassesOwn.never (qaj9 qff9 (qe_cb qau9 U B.len qce9 (qa_c (qv 4) qac9)) (qv 1) (qat9 _)) (qae9 (qs_if (qfc9 (QW.pt (qjc9 (qaj9 qhb9 (qe_cb qau9 U B.len qce9 (qa_c (qv 4) qac9)) qad9 (qat9 _)) (qgy9 (qaj9 (qop_eqD hr.units) (qe_ix qak9 (qv 4) (qhi9 qad9) Y9) (qe_ix qak9 (qv 4) (qhi9 qad9) Y9) (qat9 _)))))) (qae9 (qbm9 (qbh9 (qv 4) (qa_c (qe_fn Cb0 hr U (qa_c (qe_ix qak9 (qv 4) (qhi9 qad9) Y9) qac9)) qac9)))) (qae9 (qbm9 (qbh9 (qv 4) (qa_c ⟨pe_clo 3 G hr bG ho (qa_c (qe_ix qak9 (qv 4) (qhi9 qad9) Y9) qac9).run⟩ qac9))))))) (qae9 (qal9 (qv 4))))),?_⟩
 walk_at "d"
 refine⟨_,U,_,U,_,U,d,N,p,U,N2,λ q0 H1 s1 f1 B1 Y1=>⟨z19,λ pf hpf=>?_⟩⟩
 have L1:=TL.one (H0:=H) B1 hpf (s1.free hpf) f1 Y1
 have s12:=qar9 hpf (.lst [.ref q0])
 have S2:=s1.trans s12
 have k0:stay d N p∈[stay d N p]:=zag.mpr rfl
 have ok1:TsOk d N p Fs m stp [stay d N p]:=⟨rfl,λ i A hA=>by
   match i,hA with
   |0,hA =>
    cases hA
    exact⟨by simp[stay],stay_ok hd⟩
   |i+1,hA=>simp at hA,λ i A B hA hB=>by simp at hB⟩
 generalize upd H1 pf (.lst [.ref q0])=H2 at *
 refine qif9 (λ σ H'=>σ=[some (.int d),some (.int N),some (.int p),some (.ref fl),some (.ref pf)]/\SameU H H'/\T H'/\∃Ts:List Tb,TL H H' pf Ts/\1<=Ts.length/\Ts.length<=N/\TsOk d N p Fs m stp Ts)
  (λ _ H'=>match H' pf with|some (.lst xs)=>N-xs.length|_=>0) ⟨rfl,SameU.of S2,hTB.same _ _ hT S2,_,L1,zao _,N1,ok1⟩ ?_ ?_
 ·intro σ H3 z9;obtain⟨rfl,u3,t3,Ts,L3,l1,l2,ok⟩ := z9
  obtain⟨xs,x1,xl⟩:=L3.lst
  refine⟨_,U,pf,_,U,.inl (SqL.of x1),_,U,_,_,U,U,_,U,ite2 (λ c=>?_) (λ c=>?_)⟩
  ·have c':(xs.length:Int)<(N:Int):=oT9 c
   have hA:Ts[Ts.length-1]?=some (Ts[Ts.length-1]'⋯):=zaa ⋯
   generalize Ts[Ts.length-1]'⋯=A at hA
   obtain⟨qa,qa1,qa2,qa3,qa4,qa5⟩:=L3.at x1 hA
   obtain⟨oA1,oA2⟩:=ok.each _ A hA
   have a1:atI xs (-1)=some (.ref qa):=by
    have:=qmy9 (xs:=xs) (k:=1) (zao _) ⋯
    rw[xl] at this
    exact this.trans qa1
   have mu0:∀ys:List V,H3 pf=some (.lst ys)->ys=xs:=λ ys e=>by
    rw[x1] at e
    cases e
    rfl
   have fin:∀(l:Addr)(B:Tb)(H4:Hp),SameU H3 H4->T H4->H3 l=none->BA H4 l B->Yg H3 H4 l->B.length=N->TOk d (mxT Fs.length m Ts.length) B->(∀p,0<=p->p<(N:Int)->∀t,Ma.bt d (cl B p) t=stp d Fs A p t)->∃p_1 xs v,(V.ref pf:V)=.ref p_1/\[V.ref l]=[v]/\H4 p_1=some (.lst xs)/\xs.length<sizeLine /\
     ((([some (.int d),some (.int N),some (.int p),some (.ref fl),some (.ref pf)]:L2.St)=[some (.int d),some (.int N),some (.int p),some (.ref fl),some (.ref pf)]/\SameU H (upd H4 p_1 (.lst (xs++[v])))/\T (upd H4 p_1 (.lst (xs++[v])))/\∃Ts:List Tb,TL H (upd H4 p_1 (.lst (xs++[v]))) pf Ts/\1<=Ts.length/\Ts.length<=N/\TsOk d N p Fs m stp Ts) /\
     (match upd H4 p_1 (.lst (xs++[v])) pf with|some (.lst xs)=>N-xs.length|_=>0)<(match H3 pf with|some (.lst xs)=>N-xs.length|_=>0)):=by
    intro l B H4 u4 t4 fl4 hB hY bl tB gB
    have x4:=u4.lst x1
    have L4:=L3.snoc u4 fl4 hB hY u3 x4
    obtain⟨qs0,z1,_,_,z4,_⟩:=id L3
    have fpf:H pf=none:=z4 pf (zan ..)
    refine⟨pf,xs,_,U,U,x4,qbf9 ⋯,⟨U,SameU.wr fpf (u3.trans u4),hTB.wr _ _ _ _ t4 x4,Ts++[B],L4,by simp,by simp;omega,?_,?_,?_⟩,?_⟩
    ·rw[zal ⋯]
     exact ok.first
    ·intro i C hC
     rcases zcl i Ts.length with z|z
     ·rw[zal z] at hC
      exact ok.each i C hC
     ·have:=(zab.mp hC).1
      simp at this
      have ei:i=Ts.length:=⋯
      subst ei
      rw[zak (zao _),zed] at hC
      cases hC
      exact⟨bl,tB⟩
    ·intro i C D hC hD
     rcases zcl (i+1) Ts.length with z|z
     ·rw[zal ⋯] at hC
      rw[zal z] at hD
      exact ok.grow i C D hC hD
     ·have:=(zab.mp hD).1
      simp at this
      have ei:i=Ts.length-1:=⋯
      subst ei
      rw[zal ⋯,hA] at hC
      rw[zak ⋯,show Ts.length-1+1-Ts.length=0 by omega] at hD
      cases hC
      cases hD
      exact gB
    ·rw[qaf9,x1]
     show N-(xs++[V.ref l]).length<N-xs.length
     rw[zam,zbm]
     omega
   have em:mxT Fs.length m Ts.length=mxT Fs.length m (Ts.length-1)+Fs.length*(m+mxT Fs.length m (Ts.length-1)):=by
    rw[show Ts.length=Ts.length-1+1 by omega]
    rfl
   refine⟨λ b H'=>H'=H3/\(b=true->∃A',Ts[Ts.length-1-1]?=some A'/\2<=Ts.length/\A'=A),?_,?_⟩
   ·refine⟨_,rfl,pf,_,rfl,.inl (SqL.of x1),_,_,rfl,rfl,_,rfl,ite2 (λ c2=>?_) (λ c2=>⟨rfl,λ z=>by cases z⟩)⟩
    have c2':(1:Int)<(xs.length:Int):=oT9 c2
    have hA':Ts[Ts.length-1-1]?=some (Ts[Ts.length-1-1]'⋯):=zaa ⋯
    generalize Ts[Ts.length-1-1]'⋯=A' at hA'
    obtain⟨qb,qb1,qb2,qb3,qb4,qb5⟩:=L3.at x1 hA'
    have a2:atI xs (-2)=some (.ref qb):=by
     have:=qmy9 (xs:=xs) (k:=2) ⋯ ⋯
     rw[xl,show Ts.length-2=Ts.length-1-1 by omega] at this
     exact this.trans qb1
    refine⟨_,U,_,U,pf,_,_,_,U,U,SqL.of x1,a1,_,U,_,U,pf,_,_,_,U,U,SqL.of x1,a2,_,_,qa2.rd,qb2.rd,shapedB _,shapedB _,_,U,U,λ z=>⟨A',hA',⋯,?_⟩⟩
    rw[qri9 eqvB] at z
    exact(oT9 z).symm
   intro b H3' z9;obtain⟨rfl,hb⟩ := z9
   refine ite2 (λ cb=>?_) (λ cb=>?_)
   ·obtain⟨A',hA',l2',rfl⟩:=hb cb
    refine⟨_,U,.inl ⟨U,_,SqL.of x1⟩,_,U,_,U,pf,_,_,_,U,U,SqL.of x1,a1,qa,A',U,qa2,⋯,λ l H4 s4 f4 B4 Y4=>?_⟩
    refine fin l A' H4 (SameU.of s4) (hTB.same _ _ t3 s4) f4 B4 Y4 oA1 (oA2.le (by rw[em];omega)) λ p' p0 p1 t=>?_
    exact ok.grow _ A' A' hA' (by rw[show Ts.length-1-1+1=Ts.length-1 by omega];exact hA) p' p0 p1 t
   ·have fw:=few (Ts.length-1) ⋯
    rw[show Ts.length-1+1=Ts.length by omega] at fw
    refine⟨_,rfl,.inl ⟨rfl,_,SqL.of x1⟩,rfl,_,rfl,_,rfl,pf,_,_,_,rfl,rfl,SqL.of x1,a1,u3.1 _ _ hc (λ z y=>by cases y),qa,rfl,d,pF,Fs,qa,A,_,m,rfl,hF.u u3,qa2,t3,by rw[oA1];exact fok,oA2,by rw[<- em];exact fw.1,fw.2,⋯,λ l Ds H4 u4 t4 f4 B4 Y4 l4 tk4 e4=>?_⟩
    refine fin l Ds H4 u4 t4 f4 B4 Y4 (l4.trans oA1) (by rw[em];exact tk4) λ p' p0 p1 t=>e4 p' p0 (by rw[oA1];exact p1) t
  ·have c':¬(xs.length:Int)<(N:Int):=λ z=>c (dT9 z)
   exact⟨_,U,q pf Ts H3 u3 t3 L3 ⋯ ok⟩
 ·intro σ H' Q1 Q2 hq z9;obtain⟨v,e1,p1,ys,e2,e3,v2,e4,i,j,e5,e6,k,e7,q1⟩ := z9
  exact⟨v,e1,p1,ys,e2,e3,v2,e4,i,j,e5,e6,k,e7,hq _ _ q1⟩
end
def lamRet:Stmt->Expr
 | .Return (some (.Call _ [_,_,_,l] _ _)) _=>l
 |_=>.Constant .none 0 ⟨0,0,0,0⟩
theorem qkg9(z:Str)(d:Addr)(e:([(y2,c2),(y1,c1)]:List (Str×Addr)).lookup z=some d):(z=y1/\d=c1)\/(z=y2/\d=c2):=by
 rw[zck] at e
 cases h:z==y2 with
 |true=>rw[h] at e;cases e;exact .inr ⟨eq_of_beq h,rfl⟩
 |false =>
  rw[h] at e
  exact .inl (qez9 z d e)
theorem cells_inj(ne:c1≠c2)(x y:Str)(c:Addr)(h1:([(y2,c2),(y1,c1)]:List (Str×Addr)).lookup x=some c)(h2:([(y2,c2),(y1,c1)]:List (Str×Addr)).lookup y=some c):x=y:=by
 rcases qkg9 x c h1 with⟨a,b⟩|⟨a,b⟩<;>rcases qkg9 y c h2 with⟨a',b'⟩|⟨a',b'⟩
 ·exact a.trans a'.symm
 ·exact absurd (b.symm.trans b') ne
 ·exact absurd (b'.symm.trans b) ne
 ·exact a.trans a'.symm
theorem free_has{sc:Scope}(h:∀y∈sc.names,y.2=.free->y.1=y1\/y.1=y2)(x:Str)(e:sc.names.lookup x=some .free):∃d,([(y2,c2),(y1,c1)]:List (Str×Addr)).lookup x=some d:=by
 have hm:=PySem.mem_of_lookup e
 rw[zck]
 rcases h _ hm rfl with z|z
 ·have z:x=y1:=z
  cases h2:x==y2 with
  |true=>exact⟨c2,rfl⟩
  |false =>
   refine⟨c1,?_⟩
   rw[z,zck]
   simp
 ·have z:x=y2:=z
  rw[z]
  exact⟨c2,by simp⟩
abbrev lamT:Expr:=lamRet ((qag9 qbi9).getD 1 (.Pass ⟨0,0,0,0⟩))
theorem sc_lamT(c1 c2:Addr)(ne:c1≠c2):LamScope ["told","day","fords"] ["told"] (lamSc lamT) [("fords",c2),("day",c1)]:=⟨rfl,rfl,rfl,by decide,rfl,by decide +kernel,by decide +kernel,free_has (by decide +kernel),cells_inj ne⟩
section
variable {f:Addr}
theorem ok_lamT{v1 v2:V}(ne:c1≠c2)(hTB:TB T)(FG:Fun K "grown" "grown" qfn9 g gd)(B:Bl mg)(Co0:Callee P w K mg base (n+1) "staying" ["day","size","place"] spStaying)(Cb0:Callee P w K mg base (n+1) "copied_table" ["told"] spCopied)(Cp0:Callee P w K mg base n "ride_first" ["day","fords","told"] (spRide T stepT))
  (hfl:base.get? fl=some (W.kla_obj "<lambda>" (lamQ "rounds_to") (qnz9 lamT) (qnk9 lamT) (lamSc lamT) [("fords",c2),("day",c1)] pm c' ctv)) (hca:qkj9 base (lamSc lamT) [("fords",c2),("day",c1)] ["told","day","fords"] ["told"] [v1,v2]) :
  FnOk P w K mg base CX0 (n+2) g gd ["day","size","place","step"] (qpj9 T stepT (lamQ "rounds_to") v1 v2 fl c'):=by
 refine ok_grown (n:=n+1) hTB FG B Co0 Cb0 (lam_ok (k:=n) (N:=["told","day","fords"]) (cs:=[v1,v2]) hfl (λ vs H Q E h=>?_) (sc_lamT c1 c2 ne) hca (λ vs H Q E h=>?_) (λ A outer s H vs Q E hr h=>?_)) (Binds.all λ us hl=>match us,hl with | [_],_=>rfl) ⟨_,_,_,_,hfl⟩
 all_goals unfold spStep at h
 all_goals split at h
 all_goals first|exact h.elim|skip
 ·exact h.1
 ·obtain⟨_,_,rfl,_⟩:=h
  rfl
 ·obtain⟨hc,pt,rfl,h⟩:=h
  refine⟨_,pe_fn Cp0 hr rfl (pa_c (pv 1) (pa_c (pv 2) (pa_c (pv 0) pa_nil))),?_⟩
  exact⟨_,U,_,U,_,U,h⟩
inductive spRounds(T:Hp->Prop)(vs:List V)(H:Hp)(Q:VK)(z3q:XK):Prop
 |mk (d:Int) (n:Nat) (pr:Addr) (N:List RdT) (goal:Int) (m:Nat):vs=[.int d,.int n,.ref pr,.int goal]->NA H pr N->T H->0<d->NetOk d n N->1<=n->n<=1000->N.length<=1000->((∀x∈N,4*x.2.2.2.length+2<=m))->Few N.length m n->0<=goal->(goal<(n:Int))->(∀(l:Addr)(F:List RdT)(Ts:List Tb)(H':Hp),SameU H H'->T H'->Fords d N F->TL H H' l Ts->Ts.length=n->TsOk d n goal F m stepT Ts->Q (.ref l) H')->spRounds T vs H Q z3q
inductive spTable(T:Hp->Prop)(vs:List V)(H:Hp)(Q:VK)(z3q:XK):Prop
 |mk (d:Int) (n:Nat) (pr:Addr) (N:List RdT) (goal:Int) (m:Nat):vs=[.int d,.int n,.ref pr,.int goal]->NA H pr N->T H->0<d->NetOk d n N->1<=n->n<=1000->N.length<=1000->((∀x∈N,4*x.2.2.2.length+2<=m))->Few N.length m n->0<=goal->(goal<(n:Int))->(∀(l:Addr)(F:List RdT)(Ts:List Tb)(C:Tb)(H':Hp),SameU H H'->T H'->Fords d N F->Ts.length=n->TsOk d n goal F m stepT Ts->Ts[n-1]?=some C->BA H' l C->H l=none->Yg H H' l->Q (.ref l) H')->spTable T vs H Q z3q
theorem qmw9{c:Addr}{kV:Value}(lk:K.lookup f=some ⟨oc,od,.func (W.fnOf "rounds_to" "rounds_to" (qah9 qbi9) (qag9 qbi9) (qaa9 qbi9) .none kV doc pm an (.ref c) ct),osl⟩)(hcd:W.codeIn K (.ref c) "rounds_to"=true)
  (B:Bl mg) (hC:W.CodeHd base c P0) (hB:BMain mg base) (FG:Fun K "grown" "grown" qfn9 g gd) (bG:Binds K gd ["day","size","place","step"] []) (mG:mg "grown"=some (.ref g)) (hTB:TB T) (h1:∀H,T H->TabOk H P0 ⟨234,34,234,75⟩ (lamQ "rounds_to")) (h2:∀H H',T H->SameT P0 H H'->TabOk H' P0 ⟨234,34,234,75⟩ (lamQ "rounds_to")->T H')
  (Cq1:Callee P w K mg base (n+2) "fords_of" ["day","roads"] spFordsOf) (Co0:Callee P w K mg base (n+1) "staying" ["day","size","place"] spStaying) (Cb0:Callee P w K mg base (n+1) "copied_table" ["told"] spCopied) (Cp0:Callee P w K mg base n "ride_first" ["day","fords","told"] (spRide T stepT)) :
  FnOk P w K mg base CX0 (n+3) f (W.fnOf "rounds_to" "rounds_to" (qah9 qbi9) (qag9 qbi9) (qaa9 qbi9) .none kV doc pm an (.ref c) ct) ["day","size","roads","goal"] (spRounds T):=by
 refine fn_of lk hcd sc_rounds_to (λ vs H Q E h=>?_) (λ A outer s H vs Q E hr h=>?_)
 ·obtain⟨_,_,_,_,_,_,rfl,_⟩:=h
  rfl
 obtain⟨d,N,pr,Ns,goal,m,rfl,hN,hT,hd,nok,N1,N2,nl,lm,few,g0,g1,q⟩:=h
 refine⟨_,PSs.nox (QSs.run (qab9 (qai9 (i:=4) sc_rounds_to.nd rfl (zcr rfl) (qe_fn Cq1 hr rfl (qa_c (qv 0) (qa_c (qv 2) qac9)))) (qae9 (qal9 ⟨qoz9 (N:=["told","day","fords"]) (ps:=["told"]) 0 4 hr rfl mG FG.kp bG rfl rfl hC hB rfl rfl rfl (zcr (zaf rfl)) rfl rfl rfl rfl rfl (zcr (zaf rfl)) rfl rfl rfl qkg9 rfl rfl rfl (pv 0) (pv 1) (pv 3) (λ base' fl c' v1 v2 pm ctv md hk hz hfl hca=>ok_lamT (zbd (zea _)) hTB FG B (Co0.widen md hk hz) (Cb0.widen md hk hz) (Cp0.widen md hk hz) hfl hca)⟩)))),?_⟩
 walk_at "d"
 refine⟨_,U,_,U,d,N,pr,Ns,U,hN,nl,hd,nok,λ pF F H1 s1 hF fo=>?_⟩
 have t1:=hTB.same _ _ hT s1
 refine⟨_,_,U,U,_,U,_,U,_,U,h1 _ t1,λ fl c' H2 sm tb hc'=>?_⟩
 have u2:=SameU.tab sm (h1 _ t1) tb
 have u02:=(SameU.of s1).trans u2
 refine⟨N,goal,F,m,U,hc',hF.u u2,h2 _ _ t1 sm tb,N1,N2,hd,fo.ok nok lm,by rw[fo.1];exact few,λ l Ts H3 u3 t3 L3 l3 ok3=>?_⟩
 exact q l F Ts H3 (u02.trans u3) t3 fo (L3.old u02) l3 ok3
theorem ok_rounds(F:Fun K "rounds" "rounds" qgd9 f fd)(hTB:TB T)(Cr1:Callee P w K mg base n "need_net" ["day","size","roads"] spNeedNet)(Cz0:Callee P w K mg base n "need_place" ["size","thing"] spNeedPlace)(Ci1:Callee P w K mg base n "rounds_to" ["day","size","roads","goal"] (spRounds T)):FnOk P w K mg base CX0 (n+1) f fd ["day","size","roads","goal"] (spRounds T):=by
 refine F.okQ sc_rounds ?_ ?_
 walk_at "o"
 obtain⟨d,N,pr,Ns,goal,m,rfl,hN,hT,hd,nok,N1,N2,nl,lm,few,g0,g1,q⟩:=h
 refine⟨_,(qab9 (qbm9 (qe_fn Cr1 hr U (qa_c (qv 0) (qa_c (qv 1) (qa_c (qv 2) qac9))))) (qab9 (qbm9 (qe_fn Cz0 hr U (qa_c (qv 1) (qa_c (qv 3) qac9)))) (qae9 (qal9 (qe_fn Ci1 hr U (qa_c (qv 0) (qa_c (qv 1) (qa_c (qv 2) (qa_c (qv 3) qac9))))))))),?_⟩
 walk_at "d"
 refine⟨_,U,_,U,_,U,d,N,pr,Ns,U,hN,nl,nok,⋯,λ H1 s1=>?_⟩
 refine⟨_,U,_,U,N,goal,U,g0,g1,?_⟩
 refine⟨_,U,_,U,_,U,_,U,d,N,pr,Ns,goal,m,U,hN.same s1,hTB.same _ _ hT s1,hd,nok,N1,N2,nl,lm,few,g0,g1,λ l F Ts H2 u2 t2 fo Lq l2 ok2=>?_⟩
 exact q l F Ts H2 ((SameU.of s1).trans u2) t2 fo (Lq.old (SameU.of s1)) l2 ok2
theorem ok_table(F:Fun K "table" "table" qhu9 f fd)(Cj2:Callee P w K mg base n "rounds" ["day","size","roads","goal"] (spRounds T)):FnOk P w K mg base CX0 (n+1) f fd ["day","size","roads","goal"] (spTable T):=by
 refine F.okQ sc_table ?_ ?_
 walk_at "o"
 obtain⟨d,N,pr,Ns,goal,m,rfl,hN,hT,hd,nok,N1,N2,nl,lm,few,g0,g1,q⟩:=h
 refine⟨_,(qae9 (qal9 (qe_ix qak9 (qe_fn Cj2 hr U (qa_c (qv 0) (qa_c (qv 1) (qa_c (qv 2) (qa_c (qv 3) qac9))))) (qhi9 qad9) Y9))),?_⟩
 walk_at "d"
 refine⟨_,U,_,U,_,U,_,U,d,N,pr,Ns,goal,m,U,hN,hT,hd,nok,N1,N2,nl,lm,few,g0,g1,λ l F Ts H2 u2 t2 fo Lq l2 ok2=>?_⟩
 obtain⟨xs,x1,xl⟩:=Lq.lst
 have hC:Ts[N-1]?=some (Ts[N-1]'⋯):=zaa ⋯
 generalize Ts[N-1]'⋯=C at hC
 obtain⟨qa,qa1,qa2,qa3,qa4,qa5⟩:=Lq.at x1 hC
 have a1:atI xs (-1)=some (.ref qa):=by
  have:=qmy9 (xs:=xs) (k:=1) (zao _) ⋯
  rw[xl,l2] at this
  exact this.trans qa1
 exact⟨_,U,l,_,_,_,U,U,SqL.of x1,a1,q qa F Ts C H2 u2 t2 fo l2 ok2 hC qa2 qa3 qa4⟩
end
def Mn(S:Int->Prop)(o:Option Int):Prop:=(∀y,o=some y->S y/\∀z,S z->y<=z)/\(o=none->∀z,¬S z)
theorem Mn.dom{S':Int->Prop}{a:Option Int}(h:Mn S a)(h1:∀y,S y->S' y)(h2:∀y,S' y->∃x,x<=y/\S x):Mn S' a:=by
 refine⟨λ y e=>⟨h1 y (h.1 y e).1,λ z s=>?_⟩,λ e z s=>?_⟩
 ·obtain⟨x,l,sx⟩:=h2 z s
  have:=(h.1 y e).2 x sx
  omega
 ·obtain⟨x,l,sx⟩:=h2 z s
  exact h.2 e x sx
theorem Mn.congr{S':Int->Prop}{a:Option Int}(h:Mn S a)(e:∀y,S y↔S' y):Mn S' a:=h.dom (λ y s=>(e y).mp s) λ y s=>⟨y,zau _,(e y).mpr s⟩
theorem Mn.omin{S S':Int->Prop}{a b:Option Int}(h:Mn S a)(h':Mn S' b):Mn (λ y=>S y\/S' y) (Ma.omin a b):=by
 cases a with
 |none=>exact⟨λ y e=>⟨.inr (h'.1 y e).1,λ z s=>s.elim (λ s=>absurd s (h.2 rfl z)) ((h'.1 y e).2 z)⟩,λ e z s=>s.elim (h.2 rfl z) (h'.2 e z)⟩
 |some x =>
  cases b with
  |none=>exact⟨λ y e=>⟨.inl (h.1 y e).1,λ z s=>s.elim ((h.1 y e).2 z) λ s=>absurd s (h'.2 rfl z)⟩,λ e=>by cases e⟩
  |some x' =>
   obtain⟨s1,s2⟩:=h.1 x rfl
   obtain⟨t1,t2⟩:=h'.1 x' rfl
   refine⟨λ y e=>?_,λ e=>by cases e⟩
   have e:(if x'<x then x' else x)=y:=Option.some.inj e
   split at e
   ·subst e
    exact⟨.inr t1,λ z s=>s.elim (λ s=>by have:=s2 z s;omega) (t2 z)⟩
   ·subst e
    exact⟨.inl s1,λ z s=>s.elim (s2 z) λ s=>by have:=t2 z s;omega⟩
theorem Mn.none(h:∀z,¬S z):Mn S none:=⟨λ y e=>(nomatch e),λ _=>h⟩
theorem Mn.one{x:Int}(h1:S x)(h2:∀z,S z->x<=z):Mn S (some x):=⟨λ y e=>by cases e;exact⟨h1,h2⟩,λ e=>by cases e⟩
theorem bt_up{C:List T3}(ck:Ma.CK d C){t' z:Int}(h:Ma.bt d C t=some z)(l:t'<=t):∃z',Ma.bt d C t'=some z'/\z'<=z:=by
 have n0:C≠[]:=λ e=>by rw[e] at h;cases h
 have T:=Ma.tells_bf (d:=d) n0
 have r:=ck.rise T
 rw[T t] at h
 cases h
 exact⟨_,T t',r.mono _ _ l⟩
theorem bt_after{C:List T3}(ck:Ma.CK d C){z:Int}(h:Ma.bt d C t=some z):t<=z:=by
 have n0:C≠[]:=λ e=>by rw[e] at h;cases h
 have T:=Ma.tells_bf (d:=d) n0
 rw[T t] at h
 cases h
 exact(ck.rise T).ge t
def CkF(d:Int)(F:List RdT):Prop:=∀m∈F,Ma.CK d m.2.2.2
def Jo(d:Int)(F:List RdT):Nat->Int->Int->Int->Int->Prop
 |0,p,t,q,y=>p=q/\t=y
 |k+1,p,t,q,y=>Jo d F k p t q y\/∃m∈F,m.1=p/\∃z,Ma.bt d m.2.2.2 t=some z/\Jo d F k m.2.1 z q y
theorem qql9{d:Int}{A:Tb}{p t:Int}{S:Int->Int->Int->Prop}:∀{F:List RdT}{o:Option Int}{S0:Int->Prop},Mn S0 o->(∀m∈F,∀z,Mn (S m.2.1 z) (Ma.bt d (cl A m.2.1) z))->Mn (λ y=>S0 y\/∃m∈F,m.1=p/\∃z,Ma.bt d m.2.2.2 t=some z/\S m.2.1 z y) (ways d F A p t o)
 | [],o,S0,h,_=>h.congr λ y=>⟨.inl,λ s=>s.elim id λ⟨m,hm,_⟩=>by cases hm⟩
 |m::F,o,S0,h,hS=>by
  have hF:=λ x hx=>hS x (zai _ hx)
  by_cases e:m.1=p
  ·have hb:Mn (λ y=>∃z,Ma.bt d m.2.2.2 t=some z/\S m.2.1 z y) (Ma.obind (Ma.bt d m.2.2.2) (Ma.bt d (cl A m.2.1)) t):=by
    unfold Ma.obind
    cases e':Ma.bt d m.2.2.2 t with
    |none=>exact Mn.none λ z ⟨x,hx,_⟩=>by cases hx
    |some z=>exact(hS m (zan ..) z).congr λ y=>⟨λ s=>⟨z,rfl,s⟩,λ⟨x,hx,s⟩=>by cases hx;exact s⟩
   have:=qql9 (p:=p) (t:=t) (F:=F) (h.omin hb) hF
   have e2:ways d (m::F) A p t o=ways d F A p t (Ma.omin o (Ma.obind (Ma.bt d m.2.2.2) (Ma.bt d (cl A m.2.1)) t)):=by
    show ways d F A p t (if m.1=p then _ else _)=_
    rw[if_pos e]
   rw[e2]
   refine this.congr λ y=>⟨λ s=>?_,λ s=>?_⟩
   ·rcases s with(s|s)|⟨x,hx,s⟩
    ·exact .inl s
    ·exact .inr ⟨m,zan ..,e,s⟩
    ·exact .inr ⟨x,zai _ hx,s⟩
   ·rcases s with s|⟨x,hx,s1,s2⟩
    ·exact .inl (.inl s)
    ·rcases zah.mp hx with rfl|hx
     ·exact .inl (.inr s2)
     ·exact .inr ⟨x,hx,s1,s2⟩
  ·have:=qql9 (p:=p) (t:=t) (F:=F) h hF
   have e2:ways d (m::F) A p t o=ways d F A p t o:=by
    show ways d F A p t (if m.1=p then _ else _)=_
    rw[if_neg e]
   rw[e2]
   refine this.congr λ y=>⟨λ s=>?_,λ s=>?_⟩
   ·rcases s with s|⟨x,hx,s⟩
    ·exact .inl s
    ·exact .inr ⟨x,zai _ hx,s⟩
   ·rcases s with s|⟨x,hx,s1,s2⟩
    ·exact .inl s
    ·rcases zah.mp hx with rfl|hx
     ·exact absurd s1 e
     ·exact .inr ⟨x,hx,s1,s2⟩
theorem TsOk.mn{d:Int}{n:Nat}{goal:Int}{F:List RdT}{m:Nat}{Ts:List Tb}(hd:0<d)(fok:FOk d n m F)(ok:TsOk d n goal F m stepT Ts):∀{k:Nat}{A:Tb},Ts[k]?=some A->∀p,0<=p->p<(n:Int)->∀t,Mn (Jo d F k p t goal) (Ma.bt d (cl A p) t)
 |0,A,hA,p,p0,p1,t=>by
  rw[ok.first] at hA
  cases hA
  rw[cl_stay p0 p1]
  by_cases e:p=goal
  ·rw[if_pos e,Ma.bt_still hd]
   exact Mn.one ⟨e,rfl⟩ λ z s=>Int.le_of_eq s.2
  ·rw[if_neg e]
   exact Mn.none λ z s=>e s.1
 |k+1,A,hA,p,p0,p1,t=>by
  have lt:=(zab.mp hA).1
  have hA':=zaa (show k<Ts.length by omega)
  rw[ok.grow k _ A hA' hA p p0 p1 t]
  exact qql9 (S:=λ q z=>Jo d F k q z goal) (ok.mn hd fok hA' p p0 p1 t) λ x hx z=>ok.mn hd fok hA' _ (fok x hx).2.1.1 (fok x hx).2.1.2 z
def Pa(d:Int)(F:List RdT):List Int->Int->Int->Int->Int->Prop
 | [],p,t,q,y=>p=q/\t=y
 |x::ps,p,t,q,y=>∃m∈F,m.1=p/\m.2.1=x/\∃z,Ma.bt d m.2.2.2 t=some z/\Pa d F ps x z q y
theorem Jo.up:∀{k:Nat}{p t q y:Int},Jo d F k p t q y->Jo d F (k+1) p t q y:=λ h=>.inl h
theorem Jo.le{j:Nat}{p y:Int}(h:Jo d F k p t q y)(l:k<=j):Jo d F j p t q y:=by
 induction j with
 |zero =>
  have:k=0:=⋯
  subst this
  exact h
 |succ j ih =>
  rcases(by omega:k=j+1\/k<=j) with e|e
  ·subst e
   exact h
  ·exact(ih e).up
theorem Jo.pa:∀{k:Nat}{p t q y:Int},Jo d F k p t q y->∃ps,ps.length<=k/\Pa d F ps p t q y
 |0,p,t,q,y,h=>⟨[],zao _,h⟩
 |k+1,p,t,q,y,h=>by
  rcases h with h|⟨m,hm,e,z,hz,h⟩
  ·obtain⟨ps,l,h⟩:=h.pa
   exact⟨ps,⋯,h⟩
  ·obtain⟨ps,l,h⟩:=h.pa
   exact⟨m.2.1::ps,by simp;omega,m,hm,e,U,z,hz,h⟩
theorem Pa.jo:∀{ps:List Int}{p t q y:Int},Pa d F ps p t q y->Jo d F ps.length p t q y
 | [],p,t,q,y,h=>h
 |x::ps,p,t,q,y,⟨m,hm,e,ex,z,hz,h⟩=>.inr ⟨m,hm,e,z,hz,by rw[ex];exact h.jo⟩
theorem Pa.early(ck:CkF d F):∀{ps:List Int}{p t t' q y:Int},Pa d F ps p t q y->t'<=t->∃y',y'<=y/\Pa d F ps p t' q y'
 | [],p,t,t',q,y,⟨e1,e2⟩,l=>⟨t',⋯,e1,rfl⟩
 |x::ps,p,t,t',q,y,⟨m,hm,e,ex,z,hz,h⟩,l=>by
  obtain⟨z',hz',lz⟩:=bt_up (ck m hm) hz l
  obtain⟨y',ly,h'⟩:=h.early ck lz
  exact⟨y',ly,m,hm,e,ex,z',hz',h'⟩
theorem Pa.from(ck:CkF d F):∀{ps:List Int}{p t q y a:Int},Pa d F ps p t q y->a∈ps->∃ps' z,ps'.length<ps.length/\t<=z/\Pa d F ps' a z q y/\∀b∈ps',b∈ps
 |x::ps,p,t,q,y,a,⟨m,hm,e,ex,z,hz,h⟩,ha=>by
  have tz:=bt_after (ck m hm) hz
  rcases zah.mp ha with rfl|ha
  ·exact⟨ps,z,by simp,tz,h,λ b hb=>zai _ hb⟩
  ·obtain⟨ps',z',l,tz',h',s⟩:=h.from ck ha
   exact⟨ps',z',by simp;omega,⋯,h',λ b hb=>zai _ (s b hb)⟩
theorem Pa.nodup(ck:CkF d F):∀(n:Nat){ps:List Int}{p t q y:Int},ps.length<=n->Pa d F ps p t q y->∃ps' y',y'<=y/\Pa d F ps' p t q y'/\(p::ps').Nodup/\∀b∈ps',b∈ps
 |n,[],p,t,q,y,_,h=>⟨[],y,zau _,h,by simp,λ b hb=>hb⟩
 |0,x::ps,_,_,_,_,l,_=>by simp at l
 |n+1,x::ps,p,t,q,y,l,h=>by
  simp at l
  by_cases hp:p∈x::ps
  ·obtain⟨ps',z,l',tz,h',s⟩:=h.from ck hp
   obtain⟨y',ly,h''⟩:=h'.early ck tz
   obtain⟨ps'',y'',ly',h3,nd,s'⟩:=Pa.nodup ck n (by simp at l';omega) h''
   exact⟨ps'',y'',⋯,h3,nd,λ b hb=>s b (s' b hb)⟩
  ·obtain⟨m,hm,e,ex,z,hz,h⟩:=h
   obtain⟨ps',y',ly,h',nd,s⟩:=Pa.nodup ck n l h
   refine⟨x::ps',y',ly,⟨m,hm,e,ex,z,hz,h'⟩,zbp.mpr ⟨λ z=>hp ?_,nd⟩,λ b hb=>?_⟩
   ·rcases zah.mp z with z|z
    ·exact zah.mpr (.inl z)
    ·exact zai _ (s _ z)
   ·rcases zah.mp hb with z|z
    ·exact zah.mpr (.inl z)
    ·exact zai _ (s _ z)
theorem qhg9:∀(n:Nat){L:List Int},L.Nodup->(∀x∈L,0<=x/\x<(n:Int))->L.length<=n
 |0,L,nd,h=>by
  cases L with
  |nil=>exact zao _
  |cons x L =>
   have:=h x (zan ..)
   omega
 |n+1,L,nd,h=>by
  by_cases hn:(n:Int)∈L
  ·have h1:=qhg9 n (nd.erase (n:Int)) λ x hx=>by
    have h2:=h x (List.mem_of_mem_erase hx)
    have h3:x≠(n:Int):=λ e=>nd.not_mem_erase (e ▸ hx)
    omega
   rw[List.length_erase_of_mem hn] at h1
   omega
  ·have:=qhg9 n nd λ x hx=>by
    have h2:=h x hx
    have h3:x≠(n:Int):=λ e=>hn (e ▸ hx)
    omega
   omega
theorem Pa.in(hF:∀m∈F,0<=m.2.1/\m.2.1<(n:Int)):∀{ps:List Int}{p t q y:Int},Pa d F ps p t q y->∀b∈ps,0<=b/\b<(n:Int)
 |x::ps,p,t,q,y,⟨m,hm,e,ex,z,hz,h⟩,b,hb=>by
  rcases zah.mp hb with rfl|hb
  ·rw[<- ex]
   exact hF m hm
  ·exact h.in hF b hb
theorem Jo.enough(ck:CkF d F)(hF:∀m∈F,0<=m.2.1/\m.2.1<(n:Int)){p y:Int}(p0:0<=p)(p1:p<(n:Int))(h:Jo d F k p t q y):∃y',y'<=y/\Jo d F (n-1) p t q y':=by
 obtain⟨ps,l,h⟩:=h.pa
 have hin:=h.in hF
 obtain⟨ps',y',ly,h',nd,s⟩:=Pa.nodup ck _ (zao _) h
 have:=qhg9 n nd λ x hx=>by
  rcases zah.mp hx with rfl|hx
  ·exact⟨p0,p1⟩
  ·exact hin x (s x hx)
 simp at this
 exact⟨y',ly,h'.jo.le ⋯⟩
theorem FOk.ck{m:Nat}(h:FOk d size m F):CkF d F:=λ x hx=>(h x hx).2.2.1
theorem TsOk.all{goal:Int}{m:Nat}{Ts:List Tb}{A:Tb}(hd:0<d)(fok:FOk d n m F)(ok:TsOk d n goal F m stepT Ts)(hA:Ts[n-1]?=some A)(p:Int)(p0:0<=p)(p1:p<(n:Int))(t:Int):Mn (λ y=>∃k,Jo d F k p t goal y) (Ma.bt d (cl A p) t) :=
 (ok.mn hd fok hA p p0 p1 t).dom (λ y s=>⟨_,s⟩) λ y ⟨k,s⟩=>s.enough fok.ck (λ x hx=>(fok x hx).2.1) p0 p1
theorem Fords.of(h:Fords d N F){f:RdT}(hf:f∈F):∃x∈N,x.1=f.1/\x.2.1=f.2.1/\∀t,Ma.bt d f.2.2.2 t=Ma.bt d x.2.2.2 t:=by
 obtain⟨i,hi⟩:=zbl hf
 have lt:=(zab.mp hi).1
 have hx:=zaa (show i<N.length by rw[<- h.1];exact lt)
 obtain⟨e1,e2,_,_,e3⟩:=h.2 i _ f hx hi
 exact⟨_,zaj hx,e1.symm,e2.symm,e3⟩
theorem Fords.to(h:Fords d N F){x:RdT}(hx:x∈N):∃f∈F,f.1=x.1/\f.2.1=x.2.1/\∀t,Ma.bt d f.2.2.2 t=Ma.bt d x.2.2.2 t:=by
 obtain⟨i,hi⟩:=zbl hx
 have lt:=(zab.mp hi).1
 have hf:=zaa (show i<F.length by rw[h.1];exact lt)
 obtain⟨e1,e2,_,_,e3⟩:=h.2 i _ _ hi hf
 exact⟨_,zaj hf,e1,e2,e3⟩
theorem qka9{f f' m:Nat}(h:f<=f'):∀k,mxT f m k<=mxT f' m k
 |0=>zao _
 |k+1=>by
  have:=qka9 (m:=m) h k
  exact zgv this (zev h ⋯)
theorem few16{f:Nat}(h:f<=16)(hn:n<=4):Few f 66 n:=λ k hk=>by
 have h1:=qka9 (m:=66) h (k+1)
 have h2:=qka9 (m:=66) h k
 have b1:mxT 16 66 (k+1)<=1000000:=by
  match k,hk with
  |0,_=>decide
  |1,_=>decide
  |2,_=>decide
  |k+3,hk=>omega
 have b2:mxT 16 66 k<=19586:=by
  match k,hk with
  |0,_=>decide
  |1,_=>decide
  |2,_=>decide
  |k+3,hk=>omega
 exact⟨⋯,zbb (Nat.mul_le_mul_left _ (show 2*(mxT f 66 k+1)+2<=2*19587+2 by omega)) (by decide)⟩
theorem big16{f:Nat}(h:f<=16)(hn:n<=4)(hk:k<n):mxT f 66 k<=400000:=by
 refine zbb (qka9 (m:=66) h k) ?_
 match k,hk with
 |0,_=>decide
 |1,_=>decide
 |2,_=>decide
 |3,_=>decide
 |k+4,hk=>omega
section
variable {f:Addr}
end
theorem Jo.to(h:∀m∈F,∃m'∈F',m'.1=m.1/\m'.2.1=m.2.1/\∀t,Ma.bt d m'.2.2.2 t=Ma.bt d m.2.2.2 t):∀{k:Nat}{p t q y:Int},Jo d F k p t q y->Jo d F' k p t q y
 |0,p,t,q,y,j=>j
 |k+1,p,t,q,y,j=>by
  rcases j with j|⟨m,hm,e,z,hz,j⟩
  ·exact .inl (j.to h)
  ·obtain⟨m',hm',e1,e2,e3⟩:=h m hm
   exact .inr ⟨m',hm',e1.trans e,z,by rw[e3];exact hz,by rw[e2];exact j.to h⟩
def wsN(N:List RdT):List (Int×Int×T3):=N.flatMap λ m=>m.2.2.2.map λ w=>(m.1,m.2.1,w)
theorem qsk9:wsN (N++M)=wsN N++wsN M:=by unfold wsN;rw[zdu]
theorem qhq9:wsN (m::N)=(m.2.2.2.map λ w=>(m.1,m.2.1,w))++wsN N:=by unfold wsN;rw[zbx]
def WinB(d:Int)(w:T3):Prop:=0<=w.1/\w.1<=w.2.1/\w.2.1<d/\1<=w.2.2/\w.2.2<=1000000000000000
inductive spWay(vs:List V)(H:Hp)(Q:VK)(z3q:XK):Prop
 |mk (d cell:Int):vs=[.int d,.int cell]->1<=d->d<=1000000000000000->(∀(r:Addr)(x:T3)(H':Hp),Same H H'->H' r=some (.tup (enc3 x))->WinB d x->Q (.ref r) H')->spWay vs H Q z3q
theorem menu4w{c:Int}(ha:1<=a)(hb:1<=b)(hc:1<=c)(h0:0<=j)(h1:j<4):∃v:Int,atI [V.int 3,V.int a,V.int b,V.int c] j=some (.int v)/\1<=v:=by
 rcases(by omega:j=0\/j=1\/j=2\/j=3) with rfl|rfl|rfl|rfl
 ·exact⟨3,U,by decide⟩
 ·exact⟨a,U,ha⟩
 ·exact⟨b,U,hb⟩
 ·exact⟨c,U,hc⟩
section
variable {f:Addr}
theorem ok_way(F:Fun K "_law_way" "_law_way" qei9 f fd):FnOk P w K mg base CX0 (n+1) f fd ["day","cell"] spWay:=by
 refine F.okQ sc__law_way ?_ ?_
 walk_at "o"
 obtain⟨d,cell,rfl,d1,d2,q⟩:=h
 refine⟨_,(qab9 (qai9 (i:=2) sc__law_way.nd U (zaf U) (qe_op qay9 (qe_op qfy9 (qv 1) qad9) qad9)) (qab9 (qai9 (i:=3) sc__law_way.nd U (zaf U) (qe_op qay9 (qe_op qfy9 (qv 1) qad9) qad9)) (qab9 (qai9 (i:=4) sc__law_way.nd U (zaf U) (qe_op qay9 (qv 1) (qv 0))) (qab9 (qai9 (i:=5) sc__law_way.nd U (zaf U) (qv 4)) (qeq9 (qs_if (qaj9 qbr9 (qe_op qay9 (qv 2) qad9) qad9 (qat9 _)) (qab9 (qai9 (i:=4) sc__law_way.nd U (zaf U) qad9) (qae9 (qai9 (i:=5) sc__law_way.nd U (zaf U) (qe_op qcc9 (qv 0) qad9)))) qao9) (qeq9 (qs_if (qaj9 qhb9 (qe_op qay9 (qv 2) qad9) qad9 (qat9 _)) (qae9 (qai9 (i:=5) sc__law_way.nd U (zaf U) (qe_op qas9 (qv 4) (qe_op qay9 (qe_op qbd9 (qv 2) qad9) (qe_op qcc9 (qv 0) (qv 4)))))) qao9) (qab9 (qai9 (i:=6) sc__law_way.nd U (zaf U) (qe_ix qak9 (qdh9 (qa_c qad9 (qa_c (qe_op qas9 qad9 (qe_op qbd9 (qv 0) qad9)) (qa_c (qe_op qas9 (qv 0) qad9) (qa_c (qe_op qkt9 qad9 qad9) qac9))))) (qe_op qay9 (qv 3) qad9) Y9)) (qae9 (qal9 (qca9 (qa_c (qv 4) (qa_c (qv 5) (qa_c (qe_op qas9 qad9 (qe_op qay9 (qe_op qfy9 (qe_op qbd9 (qv 3) qad9) qad9) (qv 6))) qac9))))))))))))),?_⟩
 walk_at "d"
 have hd:0<d:=⋯
 refine⟨_,U,_,_,U,U,.inr ⟨by decide,by decide⟩,_,_,U,U,(by show(0:Int)<2147483647;decide),?_⟩
 refine⟨_,U,_,_,U,U,.inr ⟨by decide,by decide⟩,_,_,U,U,(by show(0:Int)<2147483629;decide),?_⟩
 dsimp only
 generalize cell*1103515245%2147483647=y
 have zb:=qet9 (cell*1664525013) (show(0:Int)<2147483629 by decide)
 generalize cell*1664525013%2147483629=z at zb
 refine⟨_,U,_,U,_,_,U,U,hd,?_⟩
 refine⟨_,U,?_⟩
 have e0:=qet9 cell hd
 refine⟨λ σ' H'=>H'=H/\∃a b:Int,σ'=[some (.int d),some (.int cell),some (.int y),some (.int z),some (.int a),some (.int b),none]/\0<=a/\a<=b/\b<d,?_,?_⟩
 ·refine⟨_,U,_,_,U,U,(by show(0:Int)<4;decide),U,_,U,ite2 (λ _=>?_) (λ _=>⟨U,_,_,U,e0.1,zau _,e0.2⟩)⟩
  exact⟨_,U,_,_,U,U,U,0,d-1,U,zau _,⋯,⋯⟩
 intro σ' H1 z9;obtain⟨rfl,a,b,rfl,a0,ab,bd⟩ := z9
 refine⟨λ σ' H'=>H'=H1/\∃b:Int,σ'=[some (.int d),some (.int cell),some (.int y),some (.int z),some (.int a),some (.int b),none]/\a<=b/\b<d,?_,?_⟩
 ·refine⟨_,U,_,_,U,U,(by show(0:Int)<4;decide),_,_,U,U,_,U,ite2 (λ _=>?_) (λ _=>⟨U,b,U,ab,bd⟩)⟩
  have pa:0<d-a:=⋯
  have em:=qet9 (y/4) pa
  exact⟨_,U,_,U,_,_,U,U,⟨by decide,by decide⟩,_,U,_,U,_,_,U,U,_,_,U,U,pa,_,_,U,U,U,_,U,⋯,⋯⟩
 intro σ' H2 z9;obtain⟨rfl,b',rfl,ab',bd'⟩ := z9
 refine⟨_,U,_,_,U,U,⟨by decide,by decide⟩,_,_,U,U,_,U,_,_,U,U,_,_,U,U,⟨by decide,by decide,by decide⟩,z49,λ p hp=>?_⟩
 have h2:1<=1+d/2:=by
  have:=zgp (show 0<=d by omega) (show(0:Int)<=2 by decide)
  omega
 obtain⟨v,hv,v1⟩:=menu4w (a:=1+d/2) (b:=d+1) (c:=(10:Int) ^ (15:Int).toNat) (j:=z%4) h2 ⋯ (by rw[pow15];decide) (zbr _ (by decide)) (zbk _ (by decide))
 generalize hgH3:upd _ p _=H3
 revert H3
 refine qbb9 hp λ H3 s3 e3=>?_
 refine⟨_,U,_,_,U,U,(by show(0:Int)<4;decide),p,_,_,.int v,U,U,SqL.of e3,hv,?_⟩
 have em:=qet9 (z/4*1000003) (show 0<v by omega)
 refine⟨_,U,_,U,_,U,_,_,U,U,⟨by decide,by decide⟩,_,_,U,U,.inr ⟨by decide,by decide⟩,_,U,_,_,U,U,⋯,_,_,U,U,z39,λ rr hrr=>?_⟩
 generalize hgH4:upd _ rr _=H4
 revert H4
 refine qbb9 hrr λ H4 s4 e4=>?_
 exact q rr (a,b',1+z/4*1000003%v) H4 (s3.trans s4) e4 ⟨a0,ab',bd',by show 1<=1+z/4*1000003%v;omega,by
  show 1+z/4*1000003%v<=1000000000000000
  have h1:=zfj (z/4*1000003) v
  have h2:=Int.mul_nonneg (show 0<=v by omega) (zgp (show 0<=z/4*1000003 by omega) (show 0<=v by omega))
  omega⟩
end
section
variable {b:Addr}{us:List V}
theorem NA.atG(h:NA H p N)(g:N[i]?=some m):∃(ws:List V)(r:Addr),H p=some (.lst ws)/\ws.length=N.length/\atI ws (i:Int)=some (.ref r)/\H r=some (.tup [.int m.1,.int m.2.1,.ref m.2.2.1]):=by
 obtain⟨ws,hw1,hw2,hw3⟩:=h.la.lst
 rw[zad] at hw2
 have hi:=(zab.mp g).1
 obtain⟨r,x',y,ex,er⟩:=hw3 i _ (zaa ⋯)
 rw[zap,g] at ex
 cases ex
 exact⟨ws,r,hw1,hw2,by rw[<- y];exact qea9 (zaa ⋯),er⟩
theorem qnw9{α β:Type}{f:α->β}{N:List α}{m m':α}(g:N[i]?=some m)(e:f m'=f m):(N.set i m').map f=N.map f:=by
 refine List.ext_getElem? λ j=>?_
 rw[zap,zap,zcp]
 have hi:=(zab.mp g).1
 by_cases c:i=j
 ·subst c
  rw[if_pos rfl,if_pos hi,g]
  exact congrArg some e
 ·rw[if_neg c]
theorem NA.pushAt{x:T3}(h:NA H p N)(g:N[i]?=some m)(hb:H m.2.2.1=some (.lst us))(hr:H r=some (.tup (enc3 x))):NA (upd H m.2.2.1 (.lst (us++[.ref r]))) p (N.set i (m.1,m.2.1,m.2.2.1,m.2.2.2++[x])):=by
 have hm:=zaj g
 have hl:=h.bd m hm
 refine⟨?_,λ m2 hm2=>?_,?_⟩
 ·rw[qnw9 (f:=keyN) (m':=(m.1,m.2.1,m.2.2.1,m.2.2.2++[x])) g rfl]
  exact qcr9 (ys:=us++[.ref r]) h.la hb (Ne.symm hl.2)
 ·obtain⟨j,hj⟩:=zbl hm2
  rw[zcp] at hj
  by_cases c:i=j
  ·subst c
   rw[if_pos rfl,if_pos (zab.mp g).1] at hj
   cases hj
   exact⟨hl.1.append (x:=x) hb hr,hl.2⟩
  ·rw[if_neg c] at hj
   obtain⟨h1,h2⟩:=h.bd m2 (zaj hj)
   refine⟨qcr9 h1 hb λ z=>c ?_,h2⟩
   have e1:(N.map λ m=>m.2.2.1)[i]?=some m.2.2.1:=by rw[zap,g];rfl
   have e2:(N.map λ m=>m.2.2.1)[j]?=some m.2.2.1:=by rw[zap,hj,<- z];rfl
   have li:=(zab.mp e1).1
   exact(zgk li h.nd).mp (e1.trans e2.symm)
 ·rw[qnw9 (f:=λ m:RdT=>m.2.2.1) (m':=(m.1,m.2.1,m.2.2.1,m.2.2.2++[x])) g rfl]
  exact h.nd
theorem NA.rot(h:NA H p N)(s:Same H H')(hx:H p=some (.lst xs))(hr:H r=none)(e:H' r=some (.lst (xs.drop k++xs.take k))):NA H' r (N.drop k++N.take k):=by
 have sub:∀m∈N.drop k++N.take k,m∈N:=λ m hm=>(zav.mp hm).elim zdp zcv
 obtain⟨ws,w1,w2,w3⟩:=h.la.lst
 rw[hx] at w1
 cases w1
 rw[zad] at w2
 refine⟨LA.of e (by simp[w2]) λ i y hy=>?_,λ m hm=>?_,?_⟩
 ·have hle:(xs.drop k).length=(N.drop k).length:=by simp[w2]
  rcases zcl i (xs.drop k).length with c|c
  ·rw[zal c,zct] at hy
   obtain⟨r',x,e1,e2,e3⟩:=w3 _ y hy
   refine⟨r',e1,λ x' hx'=>?_⟩
   rw[zba,zal (by rw[zad];omega),zhi,zct,e2] at hx'
   cases hx'
   exact s _ _ e3
  ·rw[zak c,zey] at hy
   by_cases z:i-(xs.drop k).length<k
   ·rw[if_pos z] at hy
    obtain⟨r',x,e1,e2,e3⟩:=w3 _ y hy
    refine⟨r',e1,λ x' hx'=>?_⟩
    rw[zba,zak (by rw[zad];omega),zad,<- hle,zhj,zey,if_pos z,e2] at hx'
    cases hx'
    exact s _ _ e3
   ·rw[if_neg z] at hy
    cases hy
 ·obtain⟨h1,_⟩:=h.bd m (sub m hm)
  refine⟨h1.same s,λ z=>?_⟩
  obtain⟨vs,v1,_⟩:=h1.lst
  rw[z,hr] at v1
  cases v1
 ·have nd:=h.nd
  rw[<- zef k N,zba] at nd
  obtain⟨n1,n2,n3⟩:=zcb.mp nd
  rw[zba]
  exact zcb.mpr ⟨n2,n1,λ x hx y hy z=>n3 y hy x hx z.symm⟩
end
theorem ws_rot(k:Nat):(wsN (N.drop k++N.take k)).length=(wsN N).length:=by
 have e:=congrArg zfb (congrArg wsN (zef k N))
 rw[qsk9,zam] at e
 rw[qsk9,zam]
 omega
theorem ws_push:∀{N:List RdT}{i:Nat}{m:RdT}{x:T3},N[i]?=some m->(wsN (N.set i (m.1,m.2.1,m.2.2.1,m.2.2.2++[x]))).length=(wsN N).length+1
 | [],i,m,x,h=>by simp at h
 |y::N,0,m,x,h=>by
  cases h
  show(wsN ((y.1,y.2.1,y.2.2.1,y.2.2.2++[x])::N)).length=_
  rw[qhq9,qhq9,zam,zam,zad,zad,zam,zbm]
  omega
 |y::N,i+1,m,x,h=>by
  show(wsN (y::N.set i _)).length=_
  rw[qhq9,qhq9,zam,zam,ws_push (N:=N) (i:=i) h]
  omega
theorem ws_nil:∀{N:List RdT},(∀m∈N,m.2.2.2=[])->(wsN N).length=0
 | [],_=>rfl
 |y::N,h=>by
  rw[qhq9,zam,zad,h y (zan ..),ws_nil λ m hm=>h m (zai _ hm)]
  rfl
theorem qml9(hm:m∈N):m.2.2.2.length<=(wsN N).length:=by
 obtain⟨a,b,rfl⟩:=zex hm
 rw[qsk9,qhq9,zam,zam,zad]
 omega
structure GNet(d:Int)(n:Nat)(N:List RdT):Prop where
 rng:∀m∈N,(0<=m.1/\m.1<(n:Int))/\(0<=m.2.1/\m.2.1<(n:Int))/\∀w∈m.2.2.2,WinB d w
 len:N.length<=5
 ws:(wsN N).length<=6
inductive spNetG(K:W.Frag)(vs:List V)(H:Hp)(Q:VK)(z3q:XK):Prop
 |mk (a:Addr) (ns:List Int) (st:Int):vs=[.ref a,.int st]->SqL K H a (ns.map V.int)->0<=st->(∀(r l:Addr)(d:Int)(n:Nat)(goal:Int)(N:List RdT)(H':Hp),Same H H'->H' r=some (.tup [.int d,.int n,.ref l,.int goal])->NA H' l N->1<=d->d<=1000000000000000->1<=n->n<=4->0<=goal->goal<(n:Int)->GNet d n N->NFr H N->Q (.ref r) H')->spNetG K vs H Q z3q
theorem menu8s{c e f g h:Int}{ok:Int->Prop}(ha:ok a)(hb:ok b)(hc:ok c)(hd:ok d)(he:ok e)(hf:ok f)(hg:ok g)(hh:ok h)(h0:0<=j)(h1:j<8):∃v:Int,atI [V.int a,V.int b,V.int c,V.int d,V.int e,V.int f,V.int g,V.int h] j=some (.int v)/\ok v:=by
 rcases(by omega:j=0\/j=1\/j=2\/j=3\/j=4\/j=5\/j=6\/j=7) with rfl|rfl|rfl|rfl|rfl|rfl|rfl|rfl
 ·exact⟨a,U,ha⟩
 ·exact⟨b,U,hb⟩
 ·exact⟨c,U,hc⟩
 ·exact⟨d,U,hd⟩
 ·exact⟨e,U,he⟩
 ·exact⟨f,U,hf⟩
 ·exact⟨g,U,hg⟩
 ·exact⟨h,U,hh⟩
theorem menu6s{c e f:Int}{ok:Int->Prop}(ha:ok a)(hb:ok b)(hc:ok c)(hd:ok d)(he:ok e)(hf:ok f)(h0:0<=j)(h1:j<6):∃v:Int,atI [V.int a,V.int b,V.int c,V.int d,V.int e,V.int f] j=some (.int v)/\ok v:=by
 rcases(by omega:j=0\/j=1\/j=2\/j=3\/j=4\/j=5) with rfl|rfl|rfl|rfl|rfl|rfl
 ·exact⟨a,U,ha⟩
 ·exact⟨b,U,hb⟩
 ·exact⟨c,U,hc⟩
 ·exact⟨d,U,hd⟩
 ·exact⟨e,U,he⟩
 ·exact⟨f,U,hf⟩
section
variable {f:Addr}
theorem ok_netG(F:Fun K "_law_net" "_law_net" qeg9 f fd)(B:Bl mg)(Cf0:Callee P w K mg base n "_law_cell_at" ["script","k"] (spCell K))(Cb3:Callee P w K mg base n "_law_day" ["cell"] spDay)(Cc3:Callee P w K mg base n "_law_way" ["day","cell"] spWay):FnOk P w K mg base CX0 (n+1) f fd ["script","start"] (spNetG K):=by
 refine F.okQ sc__law_net ?_ ?_
 walk_at "o"
 obtain⟨a,ns,st,rfl,hS,st0,q⟩:=h
 refine⟨_,(qab9 (qai9 (i:=2) sc__law_net.nd U (zaf U) (qe_fn Cf0 hr U (qa_c (qv 0) (qa_c (qv 1) qac9)))) (qab9 (qai9 (i:=3) sc__law_net.nd U (zaf U) (qe_op qay9 (qe_op qfy9 (qv 2) qad9) qad9)) (qab9 (qai9 (i:=4) sc__law_net.nd U (zaf U) (qe_fn Cb3 hr U (qa_c (qe_fn Cf0 hr U (qa_c (qv 0) (qa_c (qe_op qas9 (qv 1) qad9) qac9))) qac9))) (qab9 (qai9 (i:=5) sc__law_net.nd U (zaf U) (qe_ix qak9 (qdh9 (qa_c qad9 (qa_c qad9 (qa_c qad9 (qa_c qad9 (qa_c qad9 (qa_c qad9 (qa_c qad9 (qa_c qad9 qac9))))))))) (qe_op qay9 (qv 2) qad9) Y9)) (qab9 (qai9 (i:=6) sc__law_net.nd U (zaf U) (qe_ix qak9 (qdh9 (qa_c qad9 (qa_c qad9 (qa_c qad9 (qa_c qad9 (qa_c qad9 (qa_c qad9 (qa_c qad9 (qa_c qad9 qac9))))))))) (qe_op qay9 (qv 3) qad9) Y9)) (qab9 (qai9 (i:=7) sc__law_net.nd U (zaf U) (qe_op qay9 (qe_op qbd9 (qv 3) qad9) (qv 5))) (qab9 (qai9 (i:=8) sc__law_net.nd U (zaf U) (qdh9 qac9)) (qab9 (qfk9 PassesOwn.never U (qfp9 U B.range (qa_c (qv 6) qac9)) (qam9 (i:=9) sc__law_net.nd U (zaf U)) (qab9 (qai9 (i:=10) sc__law_net.nd U (zaf U) (qe_fn Cf0 hr U (qa_c (qv 0) (qa_c (qe_op qas9 (qe_op qas9 (qv 1) qad9) (qv 9)) qac9)))) (qab9 (qai9 (i:=11) sc__law_net.nd U (zaf U) (qca9 (qa_c (qe_op qay9 (qe_op qbd9 (qv 10) qad9) (qv 5)) (qa_c (qe_op qay9 (qe_op qbd9 (qv 10) (qe_op qfy9 qad9 (qv 5))) (qv 5)) (qa_c (qdh9 qac9) qac9))))) (qeq9 (qs_if (qfc9 (QW.pt (qjc9 (qaj9 qff9 (qe_op qas9 (qv 9) qad9) (qv 5) (qat9 _)) (qgy9 (QW.pt (qw_or (qaj9 qbr9 (qe_op qay9 (qv 10) qad9) qad9 (qat9 _)) (qew9 (qaj9 qhb9 (qe_op qay9 (qe_op qbd9 (qv 3) qad9) qad9) qad9 (qat9 _))))))))) (qae9 (qai9 (i:=11) sc__law_net.nd U (zaf U) (qca9 (qa_c (qe_op qay9 (qe_op qas9 (qe_op qas9 (qv 9) qad9) (qv 7)) (qv 5)) (qa_c (qe_op qay9 (qe_op qas9 (qv 9) (qv 7)) (qv 5)) (qa_c (qdh9 qac9) qac9)))))) qao9) (qae9 (qbm9 (qbh9 (qv 8) (qa_c (qv 11) qac9)))))))) (qab9 (qfk9 PassesOwn.never U (qfp9 U B.range (qa_c (qe_ix qak9 (qdh9 (qa_c qad9 (qa_c qad9 (qa_c qad9 (qa_c qad9 (qa_c qad9 (qa_c qad9 qac9))))))) (qe_op qay9 (qe_op qbd9 (qv 3) qad9) qad9) Y9) qac9)) (qam9 (i:=9) sc__law_net.nd U (zaf U)) (qab9 (qai9 (i:=12) sc__law_net.nd U (zaf U) (qe_fn Cf0 hr U (qa_c (qv 0) (qa_c (qe_op qas9 (qe_op qas9 (qv 1) qad9) (qv 9)) qac9)))) (qae9 (qs_if (qaj9 qhb9 (qv 6) qad9 (qat9 _)) (qab9 (qai9 (i:=13) sc__law_net.nd U (zaf U) (qe_op qay9 (qv 12) (qv 6))) (qeq9 (qs_if (qaj9 qff9 (qv 9) (qv 6) (qat9 _)) (qae9 (qai9 (i:=13) sc__law_net.nd U (zaf U) (qv 9))) qao9) (qae9 (qbm9 (qbh9 (qe_ix qan9 (qe_ix qak9 (qv 8) (qv 13) Y9) qad9 Y9) (qa_c (qe_fn Cc3 hr U (qa_c (qv 4) (qa_c (qe_op qbd9 (qv 12) (qv 6)) qac9))) qac9)))))) qao9)))) (qab9 (qai9 (i:=13) sc__law_net.nd U (zaf U) (qe_op qay9 (qe_op qbd9 (qv 3) qad9) (qe_op qas9 (qv 6) qad9))) (qab9 (qai9 (i:=8) sc__law_net.nd U (zaf U) (qe_op qrn9 (qkh9 (qv 8) (qft9 (qv 13)) qfz9) (qkh9 (qv 8) qfz9 (qft9 (qv 13))))) (qeq9 (qs_if (qaj9 qbr9 (qe_op qay9 (qe_op qbd9 (qv 3) qad9) qad9) qad9 (qat9 _)) (qae9 (qai9 (i:=7) sc__law_net.nd U (zaf U) (qe_op qay9 (qe_op qbd9 (qv 3) qad9) (qv 5)))) qao9) (qae9 (qal9 (qca9 (qa_c (qv 4) (qa_c (qv 5) (qa_c (qv 8) (qa_c (qv 7) qac9))))))))))))))))))),?_⟩
 walk_at "d"
 refine⟨_,U,_,U,a,ns,st,U,hS,st0,λ cell=>?_⟩
 refine⟨_,U,_,_,U,U,.inr ⟨by decide,by decide⟩,_,_,U,U,(by show(0:Int)<2147483647;decide),?_⟩
 dsimp only
 generalize cell*1103515245%2147483647=mixed
 refine⟨_,U,_,U,_,_,U,U,a,ns,st+1,U,hS,⋯,λ c1=>⟨c1,U,λ d H1 d1 d2 s1=>?_⟩⟩
 have hd:0<d:=⋯
 refine⟨z89,λ p2 hp2=>?_⟩
 generalize hgH2:upd _ p2 _=H2
 revert H2
 refine qbb9 hp2 λ H2 s2 e2=>?_
 obtain⟨sz,hsz,z1,z2⟩:=menu8s (a:=3) (b:=4) (c:=2) (d:=3) (e:=4) (f:=3) (g:=4) (h:=1) (j:=cell%8) (ok:=λ v=>1<=v/\v<=4) (by decide) (by decide) (by decide) (by decide) (by decide) (by decide) (by decide) (by decide) (zbr _ (by decide)) (zbk _ (by decide))
 refine⟨_,U,_,_,U,U,(by show(0:Int)<8;decide),p2,_,_,.int sz,U,U,SqL.of e2,hsz,?_⟩
 obtain⟨N,rfl⟩:∃N:Nat,sz=(N:Int):=⟨sz.toNat,⋯⟩
 have NP:(0:Int)<N:=⋯
 refine⟨z89,λ p3 hp3=>?_⟩
 generalize hgH3:upd _ p3 _=H3
 revert H3
 refine qbb9 hp3 λ H3 s3 e3=>?_
 obtain⟨mn,hmn,m1,m2⟩:=menu8s (a:=3) (b:=4) (c:=5) (d:=4) (e:=5) (f:=4) (g:=5) (h:=0) (j:=mixed%8) (ok:=λ v=>0<=v/\v<=5) (by decide) (by decide) (by decide) (by decide) (by decide) (by decide) (by decide) (by decide) (zbr _ (by decide)) (zbk _ (by decide))
 refine⟨_,U,_,_,U,U,(by show(0:Int)<8;decide),p3,_,_,.int mn,U,U,SqL.of e3,hmn,?_⟩
 obtain⟨M,rfl⟩:∃M:Nat,mn=(M:Int):=⟨mn.toNat,⋯⟩
 have s03:=(s1.trans s2).trans s3
 refine⟨_,U,_,_,U,U,⟨by decide,by decide⟩,_,U,_,_,U,U,NP,?_⟩
 have gb:=qet9 (mixed/1000) NP
 dsimp only
 generalize mixed/1000%(N:Int)=turn at gb
 refine⟨z09,λ pr hpr=>?_⟩
 have fpr:H pr=none:=s03.free hpr
 generalize hgH4:upd _ pr _=H4
 revert H4
 refine qbb9 hpr λ H4 s4 e4=>?_
 have s04:=s03.trans s4
 refine⟨_,U,(M:Int),U,⋯,⋯,qgz9 (lo:=0) (n:=((M:Int)).toNat)
  (λ i σ H'=>∃(Ns:List RdT)(v9 v10 v11:Option V),σ=[some (.ref a),some (.int st),some (.int cell),some (.int mixed),some (.int d),some (.int N),some (.int M),some (.int turn),some (.ref pr),v9,v10,v11,none,none]/\Same H H'/\NA H' pr Ns/\NFr H Ns/\Ns.length=i/\∀m∈Ns,(0<=m.1/\m.1<(N:Int))/\(0<=m.2.1/\m.2.1<(N:Int))/\m.2.2.2=[])
  ⟨[],_,_,_,rfl,s04,NA.nil e4,λ m hm=>(by cases hm),rfl,λ m hm=>(by cases hm)⟩ ?_ ?_⟩
 ·intro i σ H5 hi z9;obtain⟨Ns,v9,v10,v11,rfl,s5,hN,hfr,hl,hrg⟩ := z9
  rw[zcs] at hi
  refine⟨_,U,_,U,_,_,U,U,_,U,_,_,U,U,a,ns,_,U,s5.seq hS,⋯,λ way=>?_⟩
  refine⟨_,U,_,_,U,U,⟨by decide,by decide⟩,_,U,_,_,U,U,NP,_,U,_,U,_,_,U,U,.inl ⟨by decide,by decide⟩,_,_,U,U,⟨by show(0:Int)<2*N;omega,by show 2*(N:Int)<_;omega⟩,_,U,_,_,U,U,NP,z09,λ pb hpb=>?_⟩
  have fb:=hN.fresh hpb
  have fb0:H pb=none:=s5.free hpb
  generalize hgH6:upd _ pb _=H6
  revert H6
  refine qbb9 hpb λ H6 s6 e6=>?_
  refine⟨z39,λ rr hrr=>?_⟩
  generalize hgH7:upd _ rr _=H7
  revert H7
  refine qbb9 hrr λ H7 s7 e7=>?_
  have s57:=s6.trans s7
  refine⟨λ σ' H'=>∃(x e:Int)(b r:Addr),σ'=[some (.ref a),some (.int st),some (.int cell),some (.int mixed),some (.int d),some (.int N),some (.int M),some (.int turn),some (.ref pr),some (.int (0+(i:Int))),some (.int way),some (.ref r),none,none]/\Same H5 H'/\H' r=some (.tup [.int x,.int e,.ref b])/\H' b=some (.lst [])/\H b=none/\(b≠pr/\b∉Ns.map λ m=>m.2.2.1)/\(0<=x/\x<(N:Int))/\(0<=e/\e<(N:Int)),?_,?_⟩
  ·refine⟨λ b H'=>H'=H7,?_,?_⟩
   ·refine⟨_,U,_,_,U,U,_,U,_,_,U,U,_,U,ite2 (λ _=>?_) (λ _=>rfl)⟩
    refine⟨_,U,_,_,U,U,(by show(0:Int)<2;decide),U,_,U,ite2 (λ _=>rfl) (λ _=>?_)⟩
    exact⟨_,U,_,_,U,U,⟨by decide,by decide⟩,_,_,U,U,(by show(0:Int)<6;decide),_,_,U,U,_,U,U⟩
   rintro b H7' rfl
   refine ite2 (λ _=>?_) (λ _=>?_)
   ·refine⟨_,U,_,_,U,U,_,U,_,_,U,U,_,U,_,_,U,U,NP,_,U,_,U,_,_,U,U,_,U,_,_,U,U,NP,z09,λ p8 hp8=>?_⟩
    have fb8:=(hN.same s57).fresh hp8
    have fb80:H p8=none:=(s5.trans s57).free hp8
    generalize hgH8:upd _ p8 _=H8
    revert H8
    refine qbb9 hp8 λ H8 s8 e8=>?_
    refine⟨z39,λ r9 hr9=>?_⟩
    generalize hgH9:upd _ r9 _=H9
    revert H9
    refine qbb9 hr9 λ H9 s9 e9=>?_
    exact⟨_,_,p8,r9,U,(s57.trans s8).trans s9,e9,s9 _ _ e8,fb80,fb8,qet9 _ NP,qet9 _ NP⟩
   ·exact⟨_,_,pb,rr,U,s57,e7,s7 _ _ e6,fb0,fb,qet9 _ NP,qet9 _ NP⟩
  intro σ' H8 z9;obtain⟨x,e,b,r,rfl,s8,er,eb,fb0',fb',xr,er'⟩ := z9
  have hN8:=hN.same s8
  obtain⟨vs,hv1,hv2,_⟩:=hN8.la.lst
  rw[zad] at hv2
  refine⟨_,U,.inl ⟨U,_,SqL.of hv1⟩,_,U,pr,_,.ref r,U,U,hv1,qbf9 ⋯,?_⟩
  refine⟨Ns++[(x,e,b,[])],_,_,_,U,qbl9 fpr (s5.trans s8),hN8.snoc fb' hv1 eb er,hfr.snoc fb0',by simp[hl],λ m hm=>?_⟩
  rcases zav.mp hm with hm|hm
  ·exact hrg m hm
  ·rw[zag] at hm
   subst hm
   exact⟨xr,er',U⟩
 intro σ H5 z9;obtain⟨Ns,v9,v10,v11,rfl,s5,hN,hfr,hl,hrg⟩ := z9
 rw[zcs] at hl
 refine⟨z69,λ p6 hp6=>?_⟩
 generalize hgH6:upd _ p6 _=H6
 revert H6
 refine qbb9 hp6 λ H6 s6 e6=>?_
 obtain⟨cn,hcn,n1,n2⟩:=menu6s (a:=4) (b:=5) (c:=3) (d:=6) (e:=4) (f:=2) (j:=mixed/8%6) (ok:=λ v=>0<=v/\v<=6) (by decide) (by decide) (by decide) (by decide) (by decide) (by decide) (zbr _ (by decide)) (zbk _ (by decide))
 refine⟨_,U,_,_,U,U,⟨by decide,by decide⟩,_,_,U,U,(by show(0:Int)<6;decide),p6,_,_,.int cn,U,U,SqL.of e6,hcn,?_⟩
 refine⟨cn,U,⋯,⋯,qgz9 (lo:=0) (n:=cn.toNat)
  (λ i σ H'=>∃(Ns:List RdT)(v9 v10 v11 v12 v13:Option V),σ=[some (.ref a),some (.int st),some (.int cell),some (.int mixed),some (.int d),some (.int N),some (.int M),some (.int turn),some (.ref pr),v9,v10,v11,v12,v13]/\Same H H'/\NA H' pr Ns/\NFr H Ns/\Ns.length=M/\(wsN Ns).length<=i/\∀m∈Ns,(0<=m.1/\m.1<(N:Int))/\(0<=m.2.1/\m.2.1<(N:Int))/\∀w∈m.2.2.2,WinB d w)
  ⟨Ns,_,_,_,_,_,rfl,s5.trans s6,hN.same s6,hfr,hl,zer (ws_nil λ m hm=>(hrg m hm).2.2),λ m hm=>⟨(hrg m hm).1,(hrg m hm).2.1,λ w hw=>by rw[(hrg m hm).2.2] at hw;cases hw⟩⟩ ?_ ?_⟩
 ·clear hN hfr hl hrg s6 e6 s5
  intro i σ H7 hi z9;obtain⟨Ns,v9,v10,v11,v12,v13,rfl,s7,hN,hfr,hl,hw,hrg⟩ := z9
  refine⟨_,U,_,U,_,_,U,U,_,U,_,_,U,U,a,ns,_,U,s7.seq hS,⋯,λ sp=>?_⟩
  refine⟨_,U,_,_,U,U,_,U,ite2 (λ c=>?_) (λ c=>⟨Ns,_,_,_,_,_,U,s7,hN,hfr,hl,⋯,hrg⟩)⟩
  have MP:(0:Int)<M:=oT9 c
  refine⟨_,U,_,U,_,_,U,U,MP,?_⟩
  refine⟨λ σ' H'=>H'=H7/\∃at_:Nat,σ'=[some (.ref a),some (.int st),some (.int cell),some (.int mixed),some (.int d),some (.int N),some (.int M),some (.int turn),some (.ref pr),some (.int (0+(i:Int))),v10,v11,some (.int sp),some (.int at_)]/\at_<M,?_,?_⟩
  ·refine⟨_,U,_,U,_,_,U,U,_,U,ite2 (λ c=>?_) (λ _=>?_)⟩
   ·have c':0+(i:Int)<(M:Int):=oT9 c
    exact⟨_,U,U,i,by rw[zgi];rfl,⋯⟩
   ·have em:=qet9 sp MP
    exact⟨U,(sp%(M:Int)).toNat,by rw[Int.toNat_of_nonneg em.1];rfl,⋯⟩
  intro σ' H7' z9;obtain⟨rfl,at_,rfl,la⟩ := z9
  have hm:=zaa (show at_<Ns.length by omega)
  generalize Ns[at_]=m at hm
  obtain⟨ws,r,w1,w2,w3,w4⟩:=hN.atG hm
  have mm:=zaj hm
  have hb:=(hN.bd m mm).1
  obtain⟨us,u1,u2,_⟩:=hb.lst
  refine⟨_,U,_,U,pr,_,_,_,U,U,SqL.of w1,w3,r,_,_,_,U,U,SqT.of w4,U,.inl ⟨U,_,SqL.of u1⟩,_,U,_,U,_,U,_,_,U,U,⟨MP,by show(M:Int)<_;omega⟩,d,_,U,d1,d2,λ r2 x H8 s8 e8 wok=>?_⟩
  have bl:=qml9 mm
  refine⟨m.2.2.1,us,.ref r2,U,U,s8 _ _ u1,qbf9 ⋯,?_⟩
  refine⟨Ns.set at_ (m.1,m.2.1,m.2.2.1,m.2.2.2++[x]),_,_,_,_,_,U,qbl9 (hfr m mm) (s7.trans s8),(hN.same s8).pushAt hm (s8 _ _ u1) e8,λ m2 hm2=>?_,by rw[zgt];exact hl,by rw[ws_push hm];omega,λ m2 hm2=>?_⟩
  ·rcases zce hm2 with z|z
   ·exact hfr m2 z
   ·subst z
    exact hfr m mm
  ·rcases zce hm2 with z|z
   ·exact hrg m2 z
   ·subst z
    obtain⟨i1,i2,i3⟩:=hrg m mm
    refine⟨i1,i2,λ w hw=>?_⟩
    rcases zav.mp hw with hw|hw
    ·exact i3 w hw
    ·rw[zag] at hw
     subst hw
     exact wok
 clear hN hfr hl hrg s6 e6 s5
 intro σ H7 z9;obtain⟨Ns,v9',v10',v11',v12,v13,rfl,s7,hN,hfr,hl,hw,hrg⟩ := z9
 have MP1:(0:Int)<(M:Int)+1:=⋯
 refine⟨_,U,_,_,U,U,⟨by decide,by decide⟩,_,U,_,_,U,U,_,_,U,U,MP1,?_⟩
 have ab:=qet9 (mixed/300) MP1
 dsimp only
 generalize mixed/300%((M:Int)+1)=at_ at ab
 obtain⟨k,rfl⟩:∃k:Nat,at_=(k:Int):=⟨at_.toNat,⋯⟩
 obtain⟨ws,w1,w2,_⟩:=hN.la.lst
 rw[zad] at w2
 refine⟨_,U,_,U,_,U,pr,_,U,SqL.of w1,λ p8 hp8=>?_⟩
 rw[qru9 ws k ⋯]
 generalize hgH8:upd _ p8 _=H8
 revert H8
 refine qbb9 hp8 λ H8 s8 e8=>?_
 refine⟨_,U,_,U,_,U,pr,_,U,SqL.of (s8 _ _ w1),λ p9 hp9=>?_⟩
 rw[qry9 ws k ⋯]
 generalize hgH9:upd _ p9 _=H9
 revert H9
 refine qbb9 hp9 λ H9 s9 e9=>?_
 refine⟨p8,p9,_,_,U,U,s9 _ _ e8,e9,zcf (qbf9 (by simp;omega)),λ pz hpz=>?_⟩
 have fpz:H7 pz=none:=(s8.trans s9).free hpz
 generalize hgHA:upd _ pz _=HA
 revert HA
 refine qbb9 hpz λ HA sA eA=>?_
 have s7A:=(s8.trans s9).trans sA
 have hR:=hN.rot s7A w1 fpz eA
 have SA:=s7.trans s7A
 have gn:GNet d N (Ns.drop k++Ns.take k):=⟨λ m hm=>hrg m ((zav.mp hm).elim zdp zcv),by simp;omega,by rw[ws_rot];omega⟩
 have hfr2:NFr H (Ns.drop k++Ns.take k):=λ m hm=>hfr m ((zav.mp hm).elim zdp zcv)
 refine⟨λ σ' H'=>H'=HA/\∃turn:Int,σ'=[some (.ref a),some (.int st),some (.int cell),some (.int mixed),some (.int d),some (.int N),some (.int M),some (.int turn),some (.ref pz),v9',v10',v11',v12,some (.int (k:Int))]/\0<=turn/\turn<(N:Int),?_,?_⟩
 ·refine⟨_,U,_,_,U,U,⟨by decide,by decide⟩,_,_,U,U,(by show(0:Int)<6;decide),U,_,U,ite2 (λ _=>?_) (λ _=>⟨U,turn,U,gb.1,gb.2⟩)⟩
  exact⟨_,U,_,_,U,U,⟨by decide,by decide⟩,_,U,_,_,U,U,NP,U,_,U,qet9 _ NP⟩
 intro σ' HA' z9;obtain⟨rfl,goal,rfl,g0,g1⟩ := z9
 refine⟨_,U,_,U,_,U,_,U,z49,λ rz hrz=>?_⟩
 generalize hgHB:upd _ rz _=HB
 revert HB
 refine qbb9 hrz λ HB sB eB=>?_
 exact q rz pz d N goal _ HB (SA.trans sB) eB (hR.same sB) d1 d2 ⋯ ⋯ g0 g1 gn hfr2
def winT(w:T3):Str:=if w.1<w.2.1 then zcd++(zbo (toString w.1))++"-"++(zbo (toString w.2.1))++"+"++(zbo (toString w.2.2)) else zcd++(zbo (toString w.1))++"+"++(zbo (toString w.2.2))
def qqz9(R:List T3):Str:=Txt.join " " (R.map winT)
def roadT(s e:Str)(R:List T3):Str:=if R=[] then zcd++s++">"++e else zcd++s++">"++e++" "++qqz9 R
def nmT(names:List Str)(i:Int):Str:=names.getD i.toNat zcd
def roadN(names:List Str)(m:RdT):Str:=roadT (nmT names m.1) (nmT names m.2.1) m.2.2.2
def netT(day:Int)(names:List Str)(N:List RdT):Str:=Txt.join "; " ((zcd++"day "++(zbo (toString day)))::N.map (roadN names))
def Sm(x:Int):Prop:=0<=x/\x<10000000000000000
def SmW(R:List T3):Prop:=∀w∈R,Sm w.1/\Sm w.2.1/\Sm w.2.2
theorem Sm.len{x:Int}(h:Sm x):(zbo (toString x)).length<=16:=toString_length_le h.1 (by decide) (by have:=h.2;have e:(10:Int) ^ 16=10000000000000000:=(by decide);rw[e];exact this)
theorem Sm.log{x:Int}(h:Sm x):x.natAbs.log2<1920:=by
 rcases zbq x.natAbs with z|z
 ·rw[z];decide
 ·rw[zgr ⋯]
  have h1:x.natAbs<10000000000000000:=by have:=h.1;have:=h.2;omega
  exact zay h1 (zbb (by decide:10000000000000000<=2 ^ 54) (zfo (by decide) (by decide)))
theorem L.le(h:n<=16000000):n<=sizeLine:=zcf (qbf9 h)
theorem qba9:Str.empty.length=0:=rfl
theorem qhp9{w:T3}(h:Sm w.1/\Sm w.2.1/\Sm w.2.2):(winT w).length<=50:=by
 have h1:=h.1.len
 have h2:=h.2.1.len
 have h3:=h.2.2.len
 have e1:("-":Str).length=1:=by decide
 have e2:("+":Str).length=1:=by decide
 unfold winT
 split<;>simp only[zac,qba9,e1,e2]<;>omega
theorem qjr9{B:Nat}(hB:∀y∈ts,y.length<=B)(h:ts.length*B+ts.length*sep.length<=16777216):JoinOk sep ts=true:=by
 unfold JoinOk
 rw[StrLaws.joinFits hB h]
 rfl
theorem join_len{B:Nat}(hB:∀y∈ts,y.length<=B):(Txt.join sep ts).length<=ts.length*B+ts.length*sep.length:=by
 unfold Txt.join
 rw[StrLaws.glued_eq_join]
 have h1:=StrLaws.join_length_le sep ts
 have h2:=StrLaws.sumLen_le ts hB
 omega
theorem qla9(h:SmW R)(hl:R.length<=100):(qqz9 R).length<=5100:=by
 have e1:(" ":Str).length=1:=by decide
 have:=join_len (sep := " ") (ts:=R.map winT) (B:=50) λ y hy=>by
  obtain⟨w,hw,rfl⟩:=zat.mp hy
  exact qhp9 (h w hw)
 rw[zad,e1] at this
 unfold qqz9
 omega
theorem qob9(h:SmW R)(hl:R.length<=100)(hs:s.length<=100)(he:e.length<=100):(roadT s e R).length<=5400:=by
 have e1:(" ":Str).length=1:=by decide
 have e2:(">":Str).length=1:=by decide
 have hb:=qla9 h hl
 unfold roadT
 split<;>simp only[zac,qba9,e1,e2]<;>omega
inductive spShowW(vs:List V)(H:Hp)(Q:VK)(z3q:XK):Prop
 |mk (a b c:Int):vs=[.int a,.int b,.int c]->Sm a->Sm b->Sm c->Q (.str (winT (a,b,c))) H->spShowW vs H Q z3q
inductive spShowB(vs:List V)(H:Hp)(Q:VK)(z3q:XK):Prop
 |mk (p:Addr) (R:List T3):vs=[.ref p]->LA enc3 H p R->SmW R->R.length<=100->(∀H',Same H H'->Q (.str (qqz9 R)) H')->spShowB vs H Q z3q
inductive spShowR(vs:List V)(H:Hp)(Q:VK)(z3q:XK):Prop
 |mk (s e:Str) (p:Addr) (R:List T3):vs=[.str s,.str e,.ref p]->s.length<=100->e.length<=100->LA enc3 H p R->SmW R->R.length<=100->(∀H',Same H H'->Q (.str (roadT s e R)) H')->spShowR vs H Q z3q
structure NetTx(names:List Str)(N:List RdT):Prop where
 few:N.length<=100
 nm:∀x∈names,x.length<=100
 rd:∀m∈N,0<=m.1/\m.1<names.length/\0<=m.2.1/\m.2.1<names.length/\SmW m.2.2.2/\m.2.2.2.length<=100
inductive spShowN(vs:List V)(H:Hp)(Q:VK)(z3q:XK):Prop
 |mk (day:Int) (pn pr:Addr) (names:List Str) (N:List RdT):vs=[.int day,.ref pn,.ref pr]->Sm day->H pn=some (.lst (names.map V.str))->NA H pr N->NetTx names N->(∀H',Same H H'->Q (.str (netT day names N)) H')->spShowN vs H Q z3q
theorem at_nm{i:Int}(h0:0<=i)(h1:i<names.length):atI (names.map V.str) i=some (.str (nmT names i)):=by
 obtain⟨k,rfl⟩:=zcu h0
 refine qea9 ?_
 have hk:k<names.length:=⋯
 rw[zap,zaa hk]
 simp[nmT,zho,zaa hk]
theorem qog9{B:Nat}(h:∀x∈names,x.length<=B)(i:Int):(nmT names i).length<=B:=by
 unfold nmT
 rcases zcl i.toNat names.length with z|z
 ·have e:names.getD i.toNat zcd=names[i.toNat]:=by simp[zho,zaa z]
  rw[e]
  exact h _ (zbi z)
 ·have e:names.getD i.toNat zcd=zcd:=by simp[zho,List.getElem?_eq_none z]
  rw[e]
  exact zbt _
theorem ok_showw(F:Fun K "show_window" "show_window" qcm9 f fd):FnOk P w K mg base CX0 (n+1) f fd ["a","b","c"] spShowW:=by
 refine F.okQ qkb9 ?_ ?_
 walk_at "o"
 obtain⟨a,b,c,rfl,ha,hb,hc,q⟩:=h
 refine⟨_,(qae9 (qal9 (qbt9 (qaj9 qff9 (qv 0) (qv 1) (qat9 _)) (qku9 (qij9 (qv 0) (qmq9 (qij9 (qv 1) (qmq9 (qij9 (qv 2) qpq9)))))) (qku9 (qij9 (qv 0) (qmq9 (qij9 (qv 2) qpq9))))))),?_⟩
 walk_at "d"
 have h1:=ha.len
 have h2:=hb.len
 have h3:=hc.len
 have e1:("-":Str).length=1:=by decide
 have e2:("+":Str).length=1:=by decide
 unfold winT at q
 dsimp only at q
 refine⟨_,U,_,U,_,_,U,U,_,U,ite2 (λ z=>?_) (λ z=>?_)⟩
 ·rw[if_pos (oT9 z)] at q
  refine⟨_,U,.inl ⟨_,U,ha.log,L.le (by simp only[zac,qba9];omega),L.le (by simp only[zac,qba9,e1];omega),_,U,.inl ⟨_,U,hb.log,L.le (by simp only[zac,qba9,e1];omega),L.le (by simp only[zac,qba9,e1,e2];omega),_,U,.inl ⟨_,U,hc.log,L.le (by simp only[zac,qba9,e1,e2];omega),L.le (by simp only[zac,qba9,e1,e2];omega),q⟩⟩⟩⟩
 ·rw[if_neg (λ y=>z (dT9 y))] at q
  refine⟨_,U,.inl ⟨_,U,ha.log,L.le (by simp only[zac,qba9];omega),L.le (by simp only[zac,qba9,e2];omega),_,U,.inl ⟨_,U,hc.log,L.le (by simp only[zac,qba9,e2];omega),L.le (by simp only[zac,qba9,e2];omega),q⟩⟩⟩
theorem ok_showb(F:Fun K "show_board" "show_board" qde9 f fd)(Cv0:Callee P w K mg base n "show_window" ["a","b","c"] spShowW):FnOk P w K mg base CX0 (n+1) f fd ["board"] spShowB:=by
 refine F.okQ qkw9 ?_ ?_
 walk_at "o"
 obtain⟨p,R,rfl,hR,hW,hl,q⟩:=h
 refine⟨_,(qae9 (qal9 (qpn9 qbe9 (qa_c (qer9 ["a","b","c"] [none,none,none] (BlkOk.of U U (SubL.to subN) U) U (qcp9 (qv 0)) (λ _ _ _ _=>(qsb9 (n:=3) K U U (qaq9 (qam9 (i:=0) (show(["a","b","c"]:List Str).Nodup by decide) U (zaf U)) (qaq9 (qam9 (i:=1) (show(["a","b","c"]:List Str).Nodup by decide) U (zaf U)) (qaq9 (qam9 (i:=2) (show(["a","b","c"]:List Str).Nodup by decide) U (zaf U)) qdz9))))) (λ _ _ _ _=>(qe_fn Cv0 hr U (qa_c (qv 0) (qa_c (qv 1) (qa_c (qv 2) qac9)))))) qac9)))),?_⟩
 walk_at "d"
 obtain⟨ws,hw1,hw2,hw3⟩:=hR.lst
 refine⟨U,_,U,p,U,⟨_,SqL.of hw1⟩,?_⟩
 refine qcf9 (K:=K) (a:=p) (xs:=ws) (λ D i H'=>Same H H'/\H' D=some (.lst (((R.take i).map winT).map V.str))) (λ D hD=>⟨qar9 hD _,qaf9⟩) (λ D i H' _ _ h=>SqL.of (h.1 _ _ hw1)) ?_ ?_
 ·intro D i y H' hD hi z9;obtain⟨sD,eD⟩ := z9
  obtain⟨r,x,rfl,ex,er⟩:=hw3 i y hi
  obtain⟨a,b,c⟩:=x
  obtain⟨s1,s2,s3⟩:=hW _ (zaj ex)
  have hi2:=(zab.mp hi).1
  refine⟨r,_,U,SqT.of (sD _ _ er),U,_,_,U,_,_,U,_,_,U,U,λ k v e=>?_,?_⟩
  ·match k,e with
   |0,e=>cases e
   |1,e=>cases e
   |2,e=>cases e
   |k+3,e=>cases e
  refine⟨_,U,_,U,_,U,a,b,c,U,s1,s2,s3,_,eD,qbf9 (by rw[zad,zad,zbc];omega),qbl9 hD sD,?_⟩
  rw[qaf9,qfj9 winT ex,zba]
  rfl
 ·intro D H' hD z9;obtain⟨sD,eD⟩ := z9
  rw[hw2,zbj] at eD
  have e1:(" ":Str).length=1:=by decide
  refine⟨_,D,_,U,U,SqL.of eD,qjr9 (B:=50) (λ y hy=>?_) (by rw[zad,e1];omega),q H' sD⟩
  obtain⟨x,hx,rfl⟩:=zat.mp hy
  exact qhp9 (hW x hx)
theorem ok_showr(F:Fun K "show_road" "show_road" qdj9 f fd)(B:Bl mg)(Ca1:Callee P w K mg base n "show_board" ["board"] spShowB):FnOk P w K mg base CX0 (n+1) f fd ["start","end","board"] spShowR:=by
 refine F.okQ sc_show_road ?_ ?_
 walk_at "o"
 obtain⟨sv,ev,p,R,rfl,hs,he,hR,hW,hl,q⟩:=h
 refine⟨_,(qab9 (qai9 (i:=3) sc_show_road.nd U (zaf U) (qe_fn Ca1 hr U (qa_c (qv 2) qac9))) (qae9 (qal9 (qbt9 (qaj9 qhb9 (qe_cb qau9 U B.len qce9 (qa_c (qv 2) qac9)) qad9 (qat9 _)) (qku9 (qij9 (qv 0) (qmq9 (qij9 (qv 1) (qmq9 (qij9 (qv 3) qpq9)))))) (qku9 (qij9 (qv 0) (qmq9 (qij9 (qv 1) qpq9)))))))),?_⟩
 walk_at "d"
 refine⟨_,U,p,R,U,hR,hW,hl,λ H1 s1=>?_⟩
 have hb:=qla9 hW hl
 have e1:(" ":Str).length=1:=by decide
 have e2:(">":Str).length=1:=by decide
 obtain⟨ws,hw1,hw2,hw3⟩:=hR.lst
 have q1:=q H1 s1
 unfold roadT at q1
 refine⟨_,U,p,_,U,.inl (SqL.of (s1 _ _ hw1)),_,_,U,U,_,U,ite2 (λ z=>?_) (λ z=>?_)⟩
 ·have z':(0:Int)<((ws.length:Nat):Int):=oT9 z
  rw[if_neg (λ e=>by rw[e] at hw2;simp at hw2;rw[hw2] at z';simp at z')] at q1
  refine⟨_,U,.inr ⟨_,U,L.le ⋯,L.le (by simp only[zac,qba9];omega),L.le (by simp only[zac,qba9,e2];omega),_,U,.inr ⟨_,U,L.le ⋯,L.le (by simp only[zac,qba9,e2];omega),L.le (by simp only[zac,qba9,e1,e2];omega),_,U,.inr ⟨_,U,L.le ⋯,L.le (by simp only[zac,qba9,e1,e2];omega),L.le (by simp only[zac,qba9,e1,e2];omega),q1⟩⟩⟩⟩
 ·have z':¬(0:Int)<((ws.length:Nat):Int):=λ y=>z (dT9 y)
  rw[if_pos (zbe.mp ⋯)] at q1
  refine⟨_,U,.inr ⟨_,U,L.le ⋯,L.le (by simp only[zac,qba9];omega),L.le (by simp only[zac,qba9,e2];omega),_,U,.inr ⟨_,U,L.le ⋯,L.le (by simp only[zac,qba9,e2];omega),L.le (by simp only[zac,qba9,e2];omega),q1⟩⟩⟩
theorem ok_shown(F:Fun K "show_net" "show_net" qek9 f fd)(Cj1:Callee P w K mg base n "show_road" ["start","end","board"] spShowR):FnOk P w K mg base CX0 (n+1) f fd ["day","names","roads"] spShowN:=by
 refine F.okQ qoq9 ?_ ?_
 walk_at "o"
 obtain⟨day,pn,pr,names,N,rfl,hd,hn,hN,hok,q⟩:=h
 refine⟨_,(qae9 (qal9 (qpn9 qbe9 (qa_c (qe_op qrn9 (qdh9 (qa_c (qku9 (qmq9 (qij9 (qv 0) qpq9))) qac9)) (qer9 ["start","end","board","names"] [none,none,none,some 1] (BlkOk.of U U (SubL.to (subC U subN)) U) U (qcp9 (qv 2)) (λ _ _ _ _=>(qsb9 (n:=3) K U U (qaq9 (qam9 (i:=0) (show(["start","end","board","names"]:List Str).Nodup by decide) U (zaf U)) (qaq9 (qam9 (i:=1) (show(["start","end","board","names"]:List Str).Nodup by decide) U (zaf U)) (qaq9 (qam9 (i:=2) (show(["start","end","board","names"]:List Str).Nodup by decide) U (zaf U)) qdz9))))) (λ _ _ _ _=>(qe_fn Cj1 hr U (qa_c (qe_ix (qnv9 K U) (qv 3) (qv 0) Y9) (qa_c (qe_ix (qnv9 K U) (qv 3) (qv 1) Y9) (qa_c (qv 2) qac9))))))) qac9)))),?_⟩
 walk_at "d"
 have h1:=hd.len
 have e1:("day ":Str).length=4:=by decide
 refine⟨U,L.le (by simp only[zac,qba9,e1];omega),_,U,.inl ⟨_,U,hd.log,L.le (by simp only[zac,qba9,e1];omega),L.le (by simp only[zac,qba9,e1];omega),?_⟩⟩
 refine⟨z19,λ p1 hp1=>?_⟩
 generalize hgH1:upd _ p1 _=H1
 revert H1
 refine qbb9 hp1 λ H1 s1 e2=>?_
 obtain⟨ws,hw1,hw2,hw3⟩:=hN.la.lst
 rw[zad] at hw2
 have hw11:=s1 _ _ hw1
 have nf:=hok.few
 refine⟨_,U,pr,U,⟨_,SqL.of hw11⟩,?_⟩
 refine qcf9 (K:=K) (a:=pr) (xs:=ws) (λ D i H'=>Same H1 H'/\H' D=some (.lst (((N.take i).map (roadN names)).map V.str))) (λ D hD=>⟨qar9 hD _,qaf9⟩) (λ D i H' _ _ h=>SqL.of (h.1 _ _ hw11)) ?_ ?_
 ·intro D i y H' hD hi z9;obtain⟨sD,eD⟩ := z9
  obtain⟨r,x,rfl,ex,er⟩:=hw3 i y hi
  have hi2:i<N.length:=by
   have:=(zab.mp hi).1
   omega
  have em:=zaa hi2
  rw[zap,em] at ex
  cases ex
  obtain⟨m1,m2,m3,m4,m5,m6⟩:=hok.rd _ (zbi hi2)
  have hb:=(hN.bd _ (zbi hi2)).1
  generalize hm:N[i]=m at *
  refine⟨r,_,U,SqT.of (sD _ _ (s1 _ _ er)),U,_,_,U,_,_,U,_,_,U,U,λ k v e=>?_,?_⟩
  ·match k,e with
   |0,e=>cases e
   |1,e=>cases e
   |2,e=>cases e
   |3,e=>exact e
   |k+4,e=>cases e
  have hn':=sD _ _ (s1 _ _ hn)
  refine⟨_,U,_,U,pn,_,_,_,U,U,SqL.of hn',at_nm m1 m2,_,U,_,U,pn,_,_,_,U,U,SqL.of hn',at_nm m3 m4,_,U,_,_,m.2.2.1,m.2.2.2,U,qog9 hok.nm _,qog9 hok.nm _,(hb.same s1).same sD,m5,m6,λ H2 s2=>?_⟩
  refine⟨_,s2 _ _ eD,qbf9 (by rw[zad,zad,zbc];omega),qbl9 hD (sD.trans s2),?_⟩
  rw[qaf9,qfj9 (roadN names) em,zba]
  rfl
 ·intro D H' hD z9;obtain⟨sD,eD⟩ := z9
  rw[hw2,zbj] at eD
  refine⟨p1,D,_,_,U,U,sD _ _ e2,eD,L.le (by simp;omega),λ p3 hp3=>?_⟩
  generalize hgH3:upd _ p3 _=H3
  revert H3
  refine qbb9 hp3 λ H3 s3 e3=>?_
  have e5:("; ":Str).length=2:=by decide
  refine⟨_,p3,(zcd++"day "++(zbo (toString day)))::N.map (roadN names),U,U,SqL.of e3,qjr9 (B:=5400) (λ y hy=>?_) (by rw[zbg,zad,e5];omega),q H3 ((s1.trans sD).trans s3)⟩
  rcases zah.mp hy with rfl|hy
  ·simp only[zac,qba9,e1]
   omega
  ·obtain⟨m,hm,rfl⟩:=zat.mp hy
   obtain⟨_,_,_,_,m5,m6⟩:=hok.rd m hm
   exact qob9 m5 m6 (qog9 hok.nm _) (qog9 hok.nm _)
end
section
open PySem.StrLaws PySem.Builtin.Str
theorem qix9{a b:Nat}(hx:∀k,x.cps.toList[k]?=some c->At x sep x.length k)(hn:∀k,a<=k->k<b->¬At x sep x.length k):c∉(strSub x a b).cps.toList:=by
 intro hm
 rw[strSub_toList] at hm
 obtain⟨j,hj⟩:=zbl hm
 have hlt:j<b-a:=by
  have h1:j<((x.cps.toList.drop a).take (b-a)).length:=(zab.mp hj).1
  simp at h1
  omega
 rw[zdr hlt,zct] at hj
 exact hn (a+j) ⋯ ⋯ (hx _ hj)
theorem qjo9{x sep:Str}{c:Nat}(hx:∀k,x.cps.toList[k]?=some c->At x sep x.length k):∀(cuts:List Nat)(a f:Nat),ChainG x sep x.length a cuts f->(∀k,f<=k->¬At x sep x.length k)->∀p∈partsFrom x sep.length a cuts,c∉p.cps.toList
 | [],a,f,h,hn,p,hp=>by
  have e:f=a:=h
  subst e
  rw[zag.mp hp]
  exact qix9 hx λ k h1 _=>hn k h1
 |d::r,a,f,h,hn,p,hp=>by
  rcases zah.mp hp with rfl|hp'
  ·exact qix9 hx h.2.2.1
  ·exact qjo9 hx r _ f h.2.2.2 hn p hp'
theorem qon9(hs:1<=sep.length)(hk:¬PySem.Builtin.Str.strKind x<PySem.Builtin.Str.strKind sep)(hx:∀k,x.cps.toList[k]?=some c->At x sep x.length k):∀p∈Txt.split x sep,c∉p.cps.toList:=by
 obtain⟨f,hG,hn⟩:=occ_tight x sep hs
 unfold Txt.split
 split
 ·rename_i hc
  intro p hp
  rw[zag.mp hp]
  intro hm
  obtain⟨j,hj⟩:=zbl hm
  have hA:=hx j hj
  rw[zgu,decide_eq_true_eq,decide_eq_true_eq] at hc
  rcases hc with h|h
  ·have:=hA.1;omega
  ·exact hk h
 ·split
  ·rename_i he
   intro p hp
   rw[zag.mp hp]
   have e0:occurrences x sep 0 x.length (x.length+1)=[]:=List.isEmpty_iff.mp he
   rw[e0] at hG
   have ef:f=0:=hG
   subst ef
   rw[<- sub_whole x]
   exact qix9 hx λ k h1 _=>hn k h1
  ·rw[partsBetween_eq]
   exact qjo9 hx _ 0 f hG hn
theorem qfr9(sep:Str):∀(x:Str)(r:List Str),(zci sep (x::r)).cps.toList=x.cps.toList++r.flatMap λ p=>sep.cps.toList++p.cps.toList
 |x,[]=>by simp[zci]
 |x,y::r=>by
  show(x++sep++zci sep (y::r)).cps.toList=_
  have e:∀a b:Str,(a++b).cps.toList=a.cps.toList++b.cps.toList:=λ a b=>by
   show(a.cps++b.cps).toList=_
   simp
  rw[e,e,qfr9 sep y r,zbx]
  simp
theorem qnj9{c:Nat}:∀{a b s t:List Nat},c∉a->c∉b->a++c::s=b++c::t->a=b/\s=t
 | [],[],s,t,_,_,e=>⟨rfl,by simpa using e⟩
 | [],y::b,s,t,_,hb,e=>by
  simp at e
  exact absurd (zah.mpr (.inl e.1)) hb
 |x::a,[],s,t,ha,_,e=>by
  simp at e
  exact absurd (zah.mpr (.inl e.1.symm)) ha
 |x::a,y::b,s,t,ha,hb,e=>by
  rw[zgq,zgq] at e
  injection e with e1 e2
  obtain⟨h1,h2⟩:=qnj9 (λ h=>ha (zai _ h)) (λ h=>hb (zai _ h)) e2
  exact⟨by rw[e1,h1],h2⟩
theorem qip9(h:x.cps.toList=y.cps.toList):x=y:=by
 cases x
 cases y
 congr
 exact Array.toList_inj.mp h
theorem qpy9{sep:Str}{c:Nat}{cs:List Nat}(hs:sep.cps.toList=c::cs):∀{xs ys:List Str},xs≠[]->ys≠[]->(∀p∈xs,c∉p.cps.toList)->(∀p∈ys,c∉p.cps.toList)->zci sep xs=zci sep ys->xs=ys
 | [],_,h,_,_,_,_=>absurd rfl h
 |_,[],_,h,_,_,_=>absurd rfl h
 |x::xs,y::ys,_,_,hx,hy,e=>by
  have e:=congrArg (λ z:Str=>z.cps.toList) e
  rw[qfr9,qfr9] at e
  have fx:=hx x (zan ..)
  have fy:=hy y (zan ..)
  cases xs with
  |nil =>
   cases ys with
   |nil =>
    rw[zdw,zbv,zbv] at e
    rw[qip9 (x:=x) (y:=y) e]
   |cons y' ys =>
    rw[zdw,zbv,zbx,hs] at e
    exact absurd (by rw[e];simp) fx
  |cons x' xs =>
   cases ys with
   |nil =>
    rw[zdw,zbv,zbx,hs] at e
    exact absurd (by rw[<- e];simp) fy
   |cons y' ys =>
    have e':x.cps.toList++c::(cs++x'.cps.toList++xs.flatMap λ p=>sep.cps.toList++p.cps.toList)=y.cps.toList++c::(cs++y'.cps.toList++ys.flatMap λ p=>sep.cps.toList++p.cps.toList):=by
     rw[zbx,zbx,hs] at e
     simpa [hs] using e
    obtain⟨e1,e2⟩:=qnj9 fx fy e'
    rw[zdq,zdq] at e2
    have e3:=zfe e2
    rw[<- qfr9,<- qfr9] at e3
    have:=qpy9 hs (xs:=x'::xs) (ys:=y'::ys) (by simp) (by simp) (λ p hp=>hx p (zai _ hp)) (λ p hp=>hy p (zai _ hp)) (qip9 e3)
    rw[qip9 e1,this]
theorem split_ne(x sep:Str):Txt.split x sep≠[]:=by
 unfold Txt.split
 split
 ·simp
 ·split
  ·simp
  ·rw[partsBetween_eq]
   obtain⟨p,r,e⟩:=partsFrom_ne x sep.length 0 (occurrences x sep 0 x.length (x.length+1))
   rw[e]
   simp
theorem at_join{sep:Str}{c:Nat}{cs:List Nat}(hs:sep.cps.toList=c::cs)(hc:c∉cs):∀{ts:List Str},(∀p∈ts,c∉p.cps.toList)->∀k,(zci sep ts).cps.toList[k]?=some c->(((zci sep ts).cps.toList.drop k).take sep.length=sep.cps.toList)
 | [],_,k,h=>by simp[zci,zcd] at h
 | [x],hf,k,h=>absurd (zaj h) (hf x (zan ..))
 |x::y::r,hf,k,h=>by
  have ls:sep.length=(c::cs).length:=by rw[<- hs];simp[zch]
  have e:(zci sep (x::y::r)).cps.toList=x.cps.toList++(sep.cps.toList++(zci sep (y::r)).cps.toList):=by
   rw[qfr9,qfr9,zbx,zdq]
  rw[e] at h ⊢
  rcases zcl k x.cps.toList.length with z|z
  ·rw[zal z] at h
   exact absurd (zaj h) (hf x (zan ..))
  rw[zak z] at h
  rw[zfl,zcn z,zdo]
  generalize k-x.cps.toList.length=j at h
  have lsep:sep.cps.toList.length=sep.length:=by simp[zch]
  rcases zcl j sep.cps.toList.length with y1|y1
  ·rw[zal y1,hs] at h
   cases j with
   |zero =>
    rw[zcw,<- lsep,zfz]
   |succ j=>exact absurd (zaj (by simpa using h)) hc
  ·rw[zak y1] at h
   rw[zfl,zcn y1,zdo]
   exact at_join hs hc (ts:=y::r) (λ p hp=>hf p (zai _ hp)) _ h
theorem qhe9{cs:List Nat}(hs:sep.cps.toList=c::cs)(hc:c∉cs)(ha:PySem.Builtin.Str.strKind sep=1)(h0:ts≠[])(hf:∀p∈ts,c∉p.cps.toList):Txt.split (zci sep ts) sep=ts:=by
 have ls:sep.length=(c::cs).length:=by rw[<- hs];simp[zch]
 have hk:¬PySem.Builtin.Str.strKind (zci sep ts)<PySem.Builtin.Str.strKind sep:=by
  rw[ha]
  unfold PySem.Builtin.Str.strKind
  split
  ·omega
  ·split<;>omega
 refine qpy9 hs (split_ne _ _) h0 (qon9 (by rw[ls];simp) hk λ k hkk=>?_) hf (join_split _ _)
 have e:=at_join hs hc hf k hkk
 have hl:k+sep.length<=(zci sep ts).length:=by
  have:=congrArg zfb e
  rw[zbc,zcj] at this
  have l1:sep.cps.toList.length=sep.length:=by simp[zch]
  have l2:(zci sep ts).cps.toList.length=(zci sep ts).length:=by simp[zch]
  have:1<=sep.length:=by rw[ls];simp
  omega
 refine⟨hl,?_⟩
 rw[subAt_eq,e]
 simp
theorem qia9(hx:c∉x.cps.toList):Txt.partition (x ++ ⟨#[c]⟩ ++ y) ⟨#[c]⟩=(x,⟨#[c]⟩,y):=by
 have ea:∀a b:Str,(a++b).cps.toList=a.cps.toList++b.cps.toList:=λ a b=>by
  show(a.cps++b.cps).toList=_
  simp
 have e:(x++(⟨#[c]⟩:Str)++y).cps.toList=x.cps.toList++c::y.cps.toList:=by
  rw[ea,ea]
  simp
 have lx:x.cps.toList.length=x.length:=by simp[zch]
 have at_:(x++(⟨#[c]⟩:Str)++y).cps.toList[x.length]?=some c:=by
  rw[e,zak ⋯,lx,zed]
  rfl
 unfold Txt.partition
 rcases occ_head (x++(⟨#[c]⟩:Str)++y) ⟨#[c]⟩ 1 (zao _) with⟨_,h⟩|⟨i,r,h,hA,hn⟩
 ·exact absurd ((subAt_one _ c _).mpr at_) (h x.length)
 ·have hi:=(subAt_one _ c i).mp hA
  have i1:i=x.length:=by
   rcases Nat.lt_trichotomy i x.length with z|z|z
   ·rw[e,zal ⋯] at hi
    exact absurd (zaj hi) hx
   ·exact z
   ·exact absurd ((subAt_one _ c _).mpr at_) (hn _ z)
  subst i1
  rw[h]
  have l1:(⟨#[c]⟩:Str).length=1:=rfl
  have s1:strSub (x++(⟨#[c]⟩:Str)++y) 0 x.length=x:=qip9 (by
   rw[strSub_toList,e,zcw,zhh,<- lx,zfz])
  have s2:strSub (x++(⟨#[c]⟩:Str)++y) (x.length+1) (x++(⟨#[c]⟩:Str)++y).length=y:=qip9 (by
   have l2:(x++(⟨#[c]⟩:Str)++y).length=x.length+1+y.length:=by
    rw[zac,zac,l1]
   have ly:y.cps.toList.length=y.length:=by simp[zch]
   rw[strSub_toList,e,l2,zfl,zcn ⋯,zdo,lx,show x.length+1-x.length=1 by omega,show x.length+1+y.length-(x.length+1)=y.length by omega,List.drop_succ_cons,zcw,<- ly,zbj])
  show(strSub _ 0 x.length,_,strSub _ (x.length+1) _)=_
  rw[s1,s2]
theorem part_none(hx:c∉x.cps.toList):Txt.partition x ⟨#[c]⟩=(x,zcd,zcd):=by
 unfold Txt.partition
 rcases occ_head x ⟨#[c]⟩ 1 (zao _) with⟨h,_⟩|⟨i,r,h,hA,hn⟩
 ·rw[h]
 ·exact absurd (zaj ((subAt_one _ c i).mp hA)) hx
end
abbrev numT(n:Int):Str:=zbo (toString n)
theorem qkc9(m:Nat):1<=(zcx 10 m).length:=Nat.length_toDigits_pos
theorem qnm9:∀m:Nat,1<=m->(zcx 10 m).head? ≠ some '0':=by
 intro m
 induction m using Nat.strongRecOn with
 |_ m ih =>
  intro h1
  by_cases h:m<10
  ·rw[Nat.toDigits_of_lt_base h]
   have:∀m:Fin 10,1<=m.val->[Nat.digitChar m.val].head? ≠ some '0':=by decide
   exact this ⟨m,h⟩ h1
  ·have hm:m%10<10:=zhb m (by decide)
   have t:zcx 10 (m/10)++zcx 10 (m%10)=zcx 10 (10*(m/10)+m%10):=Nat.toDigits_append_toDigits (by decide) ⋯ hm
   rw[Nat.div_add_mod] at t
   rw[<- t]
   have:=ih (m/10) ⋯ ⋯
   cases e:zcx 10 (m/10) with
   |nil =>
    have h:=qkc9 (m/10)
    rw[e] at h
    exact absurd h (by decide)
   |cons a l =>
    rw[e] at this
    exact this
theorem qjl9{n:Int}(h:0<=n):(numT n).cps.toList=(zcx 10 n.toNat).map Char.toNat:=by
 obtain⟨m,rfl⟩:=zcu h
 exact W.KIN.signs_num m
theorem qhw9{n:Int}(h:0<=n):∀c∈(numT n).cps.toList,48<=c/\c<=57:=λ c hc=>by
 rw[qjl9 h] at hc
 obtain⟨ch,hch,e⟩:=zat.mp hc
 have r:=PyProof.Rows.digit_range (Nat.isDigit_of_mem_toDigits (by decide) (by decide) hch)
 rw[<- e]
 exact r
theorem qrx9{n:Int}(h:0<=n):1<=(numT n).length:=by
 have e:(numT n).length=(numT n).cps.toList.length:=by simp[zch]
 rw[e,qjl9 h,zad]
 exact qkc9 _
theorem num_first{n:Int}(h:0<=n)(hl:1<(numT n).length):∃c,(numT n).cps[0]?=some c/\c≠48:=by
 have e:(numT n).length=(numT n).cps.toList.length:=by simp[zch]
 have ec:=qjl9 h
 have h1:1<=n.toNat:=by
  rcases zbq n.toNat with z|z
  ·rw[e,ec,z] at hl
   exact absurd hl (by decide)
  ·exact z
 have hf:=qnm9 n.toNat h1
 cases hd:zcx 10 n.toNat with
 |nil =>
  have:=qkc9 n.toNat
  rw[hd] at this
  exact absurd this (by decide)
 |cons a l =>
  rw[hd] at hf ec
  refine⟨a.toNat,?_,λ z=>hf ?_⟩
  ·rw[<- zcc,ec]
   rfl
  ·have:a='0':=Char.toNat_inj.mp z
   rw[this]
   rfl
structure Low(x:Str):Prop where
 all:∀c∈x.cps.toList,97<=c/\c<=122
 l1:1<=x.length
 l8:x.length<=8
structure Gt(mg:Str->Option Value)(t1 t2 t3 t4:Tok):Prop where
 fig:mg "FIGURES"=some (.str "0123456789" t1)
 lets:mg "LETTERS"=some (.str "abcdefghijklmnopqrstuvwxyz" t2)
 mf:mg "MOST_FIGURES_texts"=some (.int 16 t3)
 mo:mg "MOST"=some (.int 1000000000000000 t4)
theorem fig_in(h:48<=c/\c<=57):c∈("0123456789":Str).cps.toList:=by
 have:∀c:Fin 58,48<=c.val->c.val∈("0123456789":Str).cps.toList:=by decide +kernel
 exact this ⟨c,⋯⟩ h.1
theorem let_in(h:97<=c/\c<=122):c∈("abcdefghijklmnopqrstuvwxyz":Str).cps.toList:=by
 have:∀c:Fin 123,97<=c.val->c.val∈("abcdefghijklmnopqrstuvwxyz":Str).cps.toList:=by decide +kernel
 exact this ⟨c,⋯⟩ h.1
theorem qmf9(h:∀c∈x.cps.toList,c<128):x.cps.all (· < 128)=true:=by
 rw[<- Array.all_toList,zbh]
 exact λ c hc=>dT9 (h c hc)
inductive spNumR(vs:List V)(H:Hp)(Q:VK)(z3q:XK):Prop
 |mk (n:Int):vs=[.str (numT n),.int 16]->Sm n->(∀H',Same H H'->Q (.int n) H')->spNumR vs H Q z3q
inductive spNameR(vs:List V)(H:Hp)(Q:VK)(z3q:XK):Prop
 |mk (x:Str):vs=[.str x]->Low x->(∀H',Same H H'->Q (.bl true) H')->spNameR vs H Q z3q
inductive spEnds(vs:List V)(H:Hp)(Q:VK)(z3q:XK):Prop
 |mk (s e:Str):vs=[.str (s++">"++e)]->Low s->Low e->(∀(r:Addr)(H':Hp),Same H H'->H' r=some (.tup [.str s,.str e])->Q (.ref r) H')->spEnds vs H Q z3q
section
variable {P:Program}{w:World}{K:W.Frag}{mg:Str->Option Value}{base:Heap}{f:Addr}{fd:FuncData}{n:Nat}{t1 t2 t3 t4:Tok}
theorem qlb9{σ:L2.St}(h:∀c∈x.cps.toList,c∈y.cps.toList)(hl:x.length<=100)(q:∀D H',Same H H'->H' D=some (.lst ((zdj x.length true).map V.bl))->Q (.ref D) H') :
  cBody [none] (gName 0) tTrue (tOp (λ x y H Q=>∃(c:Nat)(j:Str),x=.str ⟨#[c]⟩/\y=.str j/\Q (.bl (decide (c∈j.cps.toList))) H) (tVar 0) (tC (.str y))) σ Q (Its x) H:=by
 refine comp_str (λ D i H'=>Same H H'/\H' D=some (.lst ((zdj i true).map V.bl))) (λ D hD=>⟨qar9 hD _,qaf9⟩) ?_ (λ D H' hD h=>q D H' h.1 h.2)
 intro D i c H' hD hc z9;obtain⟨sD,eD⟩ := z9
 have hi:i<x.length:=by
  have:=(Array.getElem?_eq_some_iff.mp hc).1
  exact this
 refine⟨λ k v e=>?_,?_⟩
 ·match k,e with
  |0,e=>cases e
  |k+1,e=>cases e
 refine⟨_,U,c,y,U,U,_,eD,qbf9 (by rw[zad,zeb];omega),qbl9 hD sD,?_⟩
 rw[qaf9,zei,zba,dT9 (h c (zaj (by rw[zcc];exact hc)))]
 rfl
theorem qpx9(k:Nat):(zdj k true).all id=true:=by
 rw[zbh]
 intro x hx
 rw[zfa hx]
 rfl
theorem ok_nameR(gt:Gt mg t1 t2 t3 t4)(F:Fun K "is_name" "is_name" qfd9 f fd)(B:Bl mg):FnOk P w K mg base CX0 (n+1) f fd ["text"] spNameR:=by
 refine F.okQ qsd9 ?_ ?_
 walk_at "o"
 obtain⟨x,rfl,lo,q⟩:=h
 refine⟨_,(qae9 (qal9 (qhl9 (qpf9 qgm9 qgm9 qad9 (qe_cb qhf9 U B.len qce9 (qa_c (qv 0) qac9)) qad9) (qke9 (qe_cb (qfm9 U) U B.all qmr9 (qa_c (qer9 ["sign"] [none] (BlkOk.of U U (SubL.to subN) U) U (qi_str (qv 0)) (λ _ _ _ _=>(qam9 (i:=0) (show(["sign"]:List Str).Nodup by decide) U (zaf U))) (λ _ _ _ _=>(qfg9 qop_inS (qv 0) (qe_gStr U gt.lets) U))) qac9)))))),?_⟩
 walk_at "d"
 have l1:=lo.l1
 have l8:=lo.l8
 refine⟨_,U,_,U,L.le ⋯,_,_,U,U,_,U,iteP (dT9 ⋯) ⟨_,_,U,U,_,U,iteP (by simp;omega) ?_⟩⟩
 refine⟨_,U,_,U,qmf9 (λ c hc=>by have:=lo.all c hc;omega),qlb9 (λ c hc=>let_in (lo.all c hc)) ⋯ λ D H1 s1 e1=>?_⟩
 refine⟨D,_,U,SqL.of e1,?_⟩
 rw[qpx9]
 exact q H1 s1
theorem qjx9(h:Low x)(hc:c<97\/122<c):c∉x.cps.toList:=λ z=>by
 have:=h.all c z
 omega
theorem qev9{n:Int}(h:0<=n)(hc:c<48\/57<c):c∉(numT n).cps.toList:=λ z=>by
 have:=qhw9 h c z
 omega
theorem ok_ends(F:Fun K "read_ends" "read_ends" qdu9 f fd)(Cq0:Callee P w K mg base n "is_name" ["text"] spNameR):FnOk P w K mg base CX0 (n+1) f fd ["text"] spEnds:=by
 refine F.okQ sc_read_ends ?_ ?_
 walk_at "o"
 obtain⟨x,y,rfl,lx,ly,q⟩:=h
 refine⟨_,(qab9 (qai9 (i:=1) sc_read_ends.nd U (zaf U) (qoc9 K U (qv 0) (qa_c qbe9 qac9))) (qab9 (qs_if (qfc9 (QW.pt (qw_or (qdv9 (qcb9 (qe_fn Cq0 hr U (qa_c (qe_ix qan9 (qv 1) qad9 Y9) qac9)))) (qew9 (qdv9 (qcb9 (qe_fn Cq0 hr U (qa_c (qe_ix qan9 (qv 1) qad9 Y9) qac9)))))))) (qae9 (qal9 qes9)) qao9) (qae9 (qal9 (qca9 (qa_c (qe_ix qan9 (qv 1) qad9 Y9) (qa_c (qe_ix qan9 (qv 1) qad9 Y9) qac9))))))),?_⟩
 walk_at "d"
 have ep:Txt.partition (x++">"++y) ">"=(x,(">":Str),y):=qia9 (c:=62) (qjx9 lx ⋯)
 have e1':(">":Str).length=1:=by decide
 have l1:=lx.l8
 have l2:=ly.l8
 refine⟨_,U,U,_,_,U,U,by decide,L.le (by simp only[zac,e1'];omega),λ l hl=>?_⟩
 rw[ep]
 generalize hgH1:upd _ l _=H1
 revert H1
 refine qbb9 hl λ H1 s1 e1=>?_
 refine⟨λ b H'=>b=false/\Same H1 H',?_,?_⟩
 ·refine⟨_,U,l,_,_,_,U,U,SqT.of e1,U,x,U,lx,λ H2 s2=>⟨_,U,iteF ?_⟩⟩
  exact⟨_,U,l,_,_,_,U,U,SqT.of (s2 _ _ e1),U,y,U,ly,λ H3 s3=>⟨_,U,U,s2.trans s3⟩⟩
 intro b H2 z9;obtain⟨rfl,s2⟩ := z9
 refine iteF ?_
 refine⟨_,U,l,_,_,_,U,U,SqT.of (s2 _ _ e1),U,_,U,l,_,_,_,U,U,SqT.of (s2 _ _ e1),U,z29,λ rr hrr=>?_⟩
 generalize hgH3:upd _ rr _=H3
 revert H3
 refine qbb9 hrr λ H3 s3 e3=>?_
 exact q rr H3 (s1.trans (s2.trans s3)) e3
def spanT(a b:Int):Str:=if a<b then numT a++"-"++numT b else numT a
inductive spSpan(vs:List V)(H:Hp)(Q:VK)(z3q:XK):Prop
 |mk (a b:Int):vs=[.str (spanT a b)]->Sm a->Sm b->a<=b->(∀(r:Addr)(H':Hp),Same H H'->H' r=some (.tup [.int a,.int b])->Q (.ref r) H')->spSpan vs H Q z3q
inductive spWinR(vs:List V)(H:Hp)(Q:VK)(z3q:XK):Prop
 |mk (day:Int) (x:T3):vs=[.int day,.str (winT x)]->0<=x.1->x.1<=x.2.1->x.2.1<day->day<=1000000000000000->1<=x.2.2->x.2.2<=1000000000000000->(∀(r:Addr)(H':Hp),Same H H'->H' r=some (.tup (enc3 x))->Q (.ref r) H')->spWinR vs H Q z3q
inductive spDayR(vs:List V)(H:Hp)(Q:VK)(z3q:XK):Prop
 |mk (day:Int):vs=[.str ("day "++numT day)]->1<=day->day<=1000000000000000->(∀H',Same H H'->Q (.int day) H')->spDayR vs H Q z3q
theorem ok_span(gt:Gt mg t1 t2 t3 t4)(F:Fun K "read_span" "read_span" qdi9 f fd)(Ca0:Callee P w K mg base n "read_number" ["text","most_figures"] spNumR):FnOk P w K mg base CX0 (n+1) f fd ["text"] spSpan:=by
 refine F.okQ sc_read_span ?_ ?_
 walk_at "o"
 obtain⟨a,b,rfl,sa,sb,ab,q⟩:=h
 refine⟨_,(qab9 (qai9 (i:=1) sc_read_span.nd U (zaf U) (qoc9 K U (qv 0) (qa_c qbe9 qac9))) (qab9 (qai9 (i:=2) sc_read_span.nd U (zaf U) (qe_fn Ca0 hr U (qa_c (qe_ix qan9 (qv 1) qad9 Y9) (qa_c (qgb9 U gt.mf) qac9)))) (qab9 (qs_if (qaj9 qbr9 (qe_ix qan9 (qv 1) qad9 Y9) qbe9 (qat9 _)) (qae9 (qal9 (qbt9 (qfq9 (qv 2)) qes9 (qca9 (qa_c (qv 2) (qa_c (qv 2) qac9)))))) qao9) (qab9 (qai9 (i:=3) sc_read_span.nd U (zaf U) (qe_fn Ca0 hr U (qa_c (qe_ix qan9 (qv 1) qad9 Y9) (qa_c (qgb9 U gt.mf) qac9)))) (qab9 (qs_if (qfc9 (QW.pt (qw_or (qfq9 (qv 2)) (qw_or (qfq9 (qv 3)) (qew9 (qaj9 qop_ge (qv 2) (qv 3) (qat9 _))))))) (qae9 (qal9 qes9)) qao9) (qae9 (qal9 (qca9 (qa_c (qv 2) (qa_c (qv 3) qac9)))))))))),?_⟩
 walk_at "d"
 have e1':("-":Str).length=1:=by decide
 have l1:(numT a).length<=16:=sa.len
 have l2:(numT b).length<=16:=sb.len
 by_cases c:a<b
 ·have et:spanT a b=numT a++"-"++numT b:=if_pos c
  have ep:Txt.partition (spanT a b) "-"=(numT a,("-":Str),numT b):=by
   rw[et]
   exact qia9 (c:=45) (qev9 sa.1 ⋯)
  refine⟨_,U,U,_,_,U,U,by decide,L.le (by rw[et];simp only[zac,e1'];omega),λ l hl=>?_⟩
  rw[ep]
  generalize hgH1:upd _ l _=H1
  revert H1
  refine qbb9 hl λ H1 s1 e1=>?_
  refine⟨_,U,l,_,_,_,U,U,SqT.of e1,U,a,U,sa,λ H2 s2=>?_⟩
  have e2:=s2 _ _ e1
  refine⟨_,U,l,_,_,_,U,U,SqT.of e2,U,U,_,U,iteN (by show ¬decide (V.str (("-":Str))=V.str "")=true;decide +kernel) ?_⟩
  refine⟨_,U,l,_,_,_,U,U,SqT.of e2,U,b,U,sb,λ H3 s3=>?_⟩
  refine⟨λ z H'=>z=false/\H'=H3,?_,?_⟩
  ·exact⟨_,U,_,U,iteF ⟨_,U,_,U,iteF ⟨_,U,_,U,_,_,U,U,_,U,decide_eq_false ⋯,U⟩⟩⟩
  intro z H4 z9;obtain⟨rfl,rfl⟩ := z9
  refine iteF ?_
  refine⟨_,U,_,U,z29,λ rr hrr=>?_⟩
  generalize hgH5:upd _ rr _=H5
  revert H5
  refine qbb9 hrr λ H5 s5 e5=>?_
  exact q rr H5 (s1.trans (s2.trans (s3.trans s5))) e5
 ·have et:spanT a b=numT a:=if_neg c
  have eab:a=b:=⋯
  subst eab
  have ep:Txt.partition (spanT a a) "-"=(numT a,zcd,zcd):=by
   rw[et]
   exact part_none (c:=45) (qev9 sa.1 ⋯)
  refine⟨_,U,U,_,_,U,U,by decide,L.le (by rw[et];omega),λ l hl=>?_⟩
  rw[ep]
  generalize hgH1:upd _ l _=H1
  revert H1
  refine qbb9 hl λ H1 s1 e1=>?_
  refine⟨_,U,l,_,_,_,U,U,SqT.of e1,U,a,U,sa,λ H2 s2=>?_⟩
  have e2:=s2 _ _ e1
  refine⟨_,U,l,_,_,_,U,U,SqT.of e2,U,U,_,U,iteP (dT9 rfl) ?_⟩
  refine⟨_,U,_,U,iteF ⟨_,U,_,U,z29,λ rr hrr=>?_⟩⟩
  generalize hgH5:upd _ rr _=H5
  revert H5
  refine qbb9 hrr λ H5 s5 e5=>?_
  exact q rr H5 (s1.trans (s2.trans s5)) e5
theorem qqc9{x:T3}:winT x=spanT x.1 x.2.1++"+"++numT x.2.2:=by
 unfold winT spanT
 split<;>simp only[zcy]
theorem qnc9(ha:0<=a)(hb:0<=b)(hc:(c<48\/57<c)/\c≠45):c∉(spanT a b).cps.toList:=by
 unfold spanT
 split
 ·intro z
  have e:∀u v:Str,(u++v).cps.toList=u.cps.toList++v.cps.toList:=λ u v=>by
   show(u.cps++v.cps).toList=_
   simp
  rw[e,e,zav,zav] at z
  rcases z with(z|z)|z
  ·exact qev9 ha hc.1 z
  ·have:(("-":Str)).cps.toList=[45]:=by decide +kernel
   rw[this] at z
   exact hc.2 (by simpa using z)
  ·exact qev9 hb hc.1 z
 ·exact qev9 ha hc.1
theorem dv2_three{c:Int}(e:H r=some (.tup [.int a,.int b,.int c])):Dv2 H (.ref r):=⟨.tup e,λ zs ez z hz=>by
 have:tupV H (.ref r)=some [V.int a,V.int b,V.int c]:=by simp[tupV,e]
 rw[this] at ez
 cases ez
 simp only[zah,zaw,or_false] at hz
 rcases hz with rfl|rfl|rfl<;>exact .int _⟩
theorem ok_winR(gt:Gt mg t1 t2 t3 t4)(F:Fun K "read_window" "read_window" qck9 f fd)(Ck1:Callee P w K mg base n "read_span" ["text"] spSpan)(Ca0:Callee P w K mg base n "read_number" ["text","most_figures"] spNumR)(Cl0:Callee P w K mg base n "is_window" ["day","thing"] spWindow):FnOk P w K mg base CX0 (n+1) f fd ["day","text"] spWinR:=by
 refine F.okQ sc_read_window ?_ ?_
 walk_at "o"
 obtain⟨day,⟨a,b,c⟩,rfl,a0,ab,bd,d2,c1,c2,q⟩:=h
 dsimp only at a0 ab bd d2 c1 c2
 refine⟨_,(qab9 (qai9 (i:=2) sc_read_window.nd U (zaf U) (qoc9 K U (qv 1) (qa_c qbe9 qac9))) (qab9 (qai9 (i:=3) sc_read_window.nd U (zaf U) (qe_fn Ck1 hr U (qa_c (qe_ix qan9 (qv 2) qad9 Y9) qac9))) (qab9 (qai9 (i:=4) sc_read_window.nd U (zaf U) (qe_fn Ca0 hr U (qa_c (qe_ix qan9 (qv 2) qad9 Y9) (qa_c (qgb9 U gt.mf) qac9)))) (qab9 (qs_if (qfc9 (QW.pt (qw_or (qfq9 (qv 3)) (qw_or (qfq9 (qv 4)) (qew9 (qdv9 (qjy9 qgm9 qgm9 qad9 (qv 4) (qgb9 U gt.mo)))))))) (qae9 (qal9 qes9)) qao9) (qab9 (qai9 (i:=5) sc_read_window.nd U (zaf U) (qca9 (qa_c (qe_ix qan9 (qv 3) qad9 Y9) (qa_c (qe_ix qan9 (qv 3) qad9 Y9) (qa_c (qv 4) qac9))))) (qae9 (qal9 (qbt9 (qcb9 (qe_fn Cl0 hr U (qa_c (qv 0) (qa_c (qv 5) qac9)))) (qv 5) qes9)))))))),?_⟩
 walk_at "d"
 have sa:Sm a:=⟨a0,⋯⟩
 have sb:Sm b:=⟨⋯,⋯⟩
 have sc:Sm c:=⟨⋯,⋯⟩
 have ep:Txt.partition (winT (a,b,c)) "+"=(spanT a b,("+":Str),numT c):=by
  rw[qqc9]
  exact qia9 (c:=43) (qnc9 (a:=a) (b:=b) a0 ⋯ ⟨⋯,⋯⟩)
 refine⟨_,U,U,_,_,U,U,by decide,L.le (zbb (qhp9 ⟨sa,sb,sc⟩) (by decide)),λ l hl=>?_⟩
 rw[ep]
 generalize hgH1:upd _ l _=H1
 revert H1
 refine qbb9 hl λ H1 s1 e1=>?_
 refine⟨_,U,l,_,_,_,U,U,SqT.of e1,U,a,b,U,sa,sb,ab,λ r2 H2 s2 e2=>?_⟩
 refine⟨_,U,l,_,_,_,U,U,SqT.of (s2 _ _ e1),U,c,U,sc,λ H3 s3=>?_⟩
 have e3:=s3 _ _ e2
 refine⟨λ z H'=>z=false/\H'=H3,?_,?_⟩
 ·exact⟨_,U,_,U,iteF ⟨_,U,_,U,iteF ⟨_,U,_,_,U,U,_,U,iteP (dT9 c1) ⟨_,_,U,U,_,U,by simp;omega,U⟩⟩⟩⟩
 intro z H4 z9;obtain⟨rfl,rfl⟩ := z9
 refine iteF ?_
 refine⟨_,U,r2,_,_,_,U,U,SqT.of e3,U,_,U,r2,_,_,_,U,U,SqT.of e3,U,_,U,z39,λ rr hrr=>?_⟩
 generalize hgH5:upd _ rr _=H5
 revert H5
 refine qbb9 hrr λ H5 s5 e5=>?_
 have wv:winV H5 day (.ref rr)=true:=by
  have:tupV H5 (.ref rr)=some [V.int a,V.int b,V.int c]:=by simp[tupV,e5]
  unfold winV
  rw[this]
  simp[winL,isWh]
  omega
 refine⟨_,U,_,U,day,.ref rr,U,dv2_three e5,λ H6 s6=>?_⟩
 rw[wv]
 exact⟨_,U,iteT ⟨_,U,q rr H6 (s1.trans (s2.trans (s3.trans (s5.trans s6)))) (s6 _ _ e5)⟩⟩
theorem ok_dayR(gt:Gt mg t1 t2 t3 t4)(F:Fun K "read_day" "read_day" qem9 f fd)(Ca0:Callee P w K mg base n "read_number" ["text","most_figures"] spNumR):FnOk P w K mg base CX0 (n+1) f fd ["text"] spDayR:=by
 refine F.okQ sc_read_day ?_ ?_
 walk_at "o"
 obtain⟨day,rfl,d1,d2,q⟩:=h
 refine⟨_,(qab9 (qai9 (i:=1) sc_read_day.nd U (zaf U) (qoc9 K U (qv 0) (qa_c qbe9 qac9))) (qab9 (qai9 (i:=2) sc_read_day.nd U (zaf U) (qe_fn Ca0 hr U (qa_c (qe_ix qan9 (qv 1) qad9 Y9) (qa_c (qgb9 U gt.mf) qac9)))) (qab9 (qs_if (qfc9 (QW.pt (qw_or (qaj9 qoo9 (qe_ix qan9 (qv 1) qad9 Y9) qbe9 (qat9 _)) (qw_or (qfq9 (qv 2)) (qew9 (qdv9 (qjy9 qgm9 qgm9 qad9 (qv 2) (qgb9 U gt.mo)))))))) (qae9 (qal9 qes9)) qao9) (qae9 (qal9 (qv 2)))))),?_⟩
 walk_at "d"
 have sd:Sm day:=⟨⋯,⋯⟩
 have hd:(numT day).length<=16:=sd.len
 have e4:("day ":Str).length=4:=by decide
 have ep:Txt.partition ("day "++numT day) " "=(("day":Str),(" ":Str),numT day):=by
  have e:("day ":Str)=("day":Str)++(" ":Str):=by decide +kernel
  rw[e]
  exact qia9 (c:=32) (by decide +kernel)
 refine⟨_,U,U,_,_,U,U,by decide,L.le (by simp only[zac,e4];omega),λ l hl=>?_⟩
 rw[ep]
 generalize hgH1:upd _ l _=H1
 revert H1
 refine qbb9 hl λ H1 s1 e1=>?_
 refine⟨_,U,l,_,_,_,U,U,SqT.of e1,U,day,U,sd,λ H2 s2=>?_⟩
 have e2:=s2 _ _ e1
 refine⟨λ z H'=>z=false/\H'=H2,?_,?_⟩
 ·refine⟨_,U,l,_,_,_,U,U,SqT.of e2,U,U,_,U,iteN (by simp) ?_⟩
  exact⟨_,U,_,U,iteF ⟨_,U,_,_,U,U,_,U,iteP (dT9 d1) ⟨_,_,U,U,_,U,by simp;omega,U⟩⟩⟩
 intro z H4 z9;obtain⟨rfl,rfl⟩ := z9
 refine iteF ?_
 exact⟨_,U,q H4 (s1.trans s2)⟩
def WinsR(day:Int)(R:List T3):Prop:=∀x∈R,0<=x.1/\x.1<=x.2.1/\x.2.1<day/\1<=x.2.2/\x.2.2<=1000000000000000
inductive spBoardR(K:W.Frag)(vs:List V)(H:Hp)(Q:VK)(z3q:XK):Prop
 |mk (day:Int) (p:Addr) (R:List T3):vs=[.int day,.ref p]->H p=some (.lst ((R.map winT).map V.str))->WinsR day R->day<=1000000000000000->R.length<=100->(∀(l:Addr)(H':Hp),Same H H'->H l=none->LA enc3 H' l R->Q (.ref l) H')->spBoardR K vs H Q z3q
theorem ok_boardR(F:Fun K "read_board" "read_board" qcw9 f fd)(B:Bl mg)(Ci0:Callee P w K mg base n "read_window" ["day","text"] spWinR):FnOk P w K mg base CX0 (n+1) f fd ["day","words"] (spBoardR K):=by
 refine F.okQ sc_read_board ?_ ?_
 walk_at "o"
 obtain⟨day,p,R,rfl,hp,hW,d2,hl,q⟩:=h
 refine⟨_,(qab9 (qrr9 (i:=2) ["word","day"] [none,some 0] sc_read_board.nd U (zaf U) (BlkOk.of U U (SubL.to (subC U subN)) U) U (qcp9 (qv 1)) (λ _ _ _ _=>(qam9 (i:=0) (show(["word","day"]:List Str).Nodup by decide) U (zaf U))) (λ _ _ _ _=>(qe_fn Ci0 hr U (qa_c (qv 1) (qa_c (qv 0) qac9))))) (qae9 (qal9 (qbt9 (qcb9 (qe_cb (qcall_any U) U B.any bt_any (qa_c (qer9 ["window"] [none] (BlkOk.of U U (SubL.to subN) U) U (qcp9 (qv 2)) (λ _ _ _ _=>(qam9 (i:=0) (show(["window"]:List Str).Nodup by decide) U (zaf U))) (λ _ _ _ _=>(qe_isN (qv 0)))) qac9))) qes9 (qv 2))))),?_⟩
 walk_at "d"
 refine⟨_,U,p,U,⟨_,SqL.of hp⟩,?_⟩
 refine qcf9 (K:=K) (a:=p) (xs:=(R.map winT).map V.str) (λ D i H'=>Same H H'/\LA enc3 H' D (R.take i)) (λ D hD=>⟨qar9 hD _,LA.nil qaf9⟩) (λ D i H' _ _ h=>SqL.of (h.1 _ _ hp)) ?_ ?_
 ·intro D i y H' hD hi z9;obtain⟨sD,hL⟩ := z9
  rw[zap,zap] at hi
  cases hx:R[i]? with
  |none=>rw[hx] at hi;cases hi
  |some x =>
   rw[hx] at hi
   cases hi
   have li:=(zab.mp hx).1
   obtain⟨x0,x1,x2,x3,x4⟩:=hW x (zaj hx)
   refine⟨λ k v e=>?_,?_⟩
   ·match k,e with
    |0,e=>cases e
    |1,e=>exact e
    |k+2,e=>cases e
   refine⟨_,U,_,U,day,x,U,x0,x1,x2,d2,x3,x4,λ r H2 s2 e2=>?_⟩
   have hL2:=hL.same s2
   obtain⟨ys,y1,yl,_⟩:=hL2.lst
   refine⟨ys,y1,qbf9 (by rw[yl,zbc];omega),qbl9 hD (sD.trans s2),?_⟩
   have e:R.take (i+1)=R.take i++[x]:=by rw[zbw,hx];rfl
   rw[e]
   exact hL2.append y1 e2
 ·intro D H1 hD z9;obtain⟨s1,hL⟩ := z9
  rw[zad,zad,zbj] at hL
  obtain⟨us,u1,u2,u3⟩:=hL.lst
  refine⟨_,U,D,U,⟨_,SqL.of u1⟩,?_⟩
  refine qcf9 (K:=K) (a:=D) (xs:=us) (λ D' i H'=>Same H1 H'/\H' D'=some (.lst ((zdj i false).map V.bl))) (λ D' hD'=>⟨qar9 hD' _,qaf9⟩) (λ D' i H' _ _ h=>SqL.of (h.1 _ _ u1)) ?_ ?_
  ·intro D' i y H' hD' hi z9;obtain⟨sD,eD⟩ := z9
   obtain⟨r,x,rfl,_,_⟩:=u3 i y hi
   have li:=(zab.mp hi).1
   refine⟨λ k v e=>?_,?_⟩
   ·match k,e with
    |0,e=>cases e
    |k+1,e=>cases e
   refine⟨_,U,_,eD,qbf9 (by rw[zad,zeb];omega),qbl9 hD' sD,?_⟩
   rw[qaf9,zei,zba]
   rfl
  ·intro D' H2 hD' z9;obtain⟨s2,e2⟩ := z9
   refine⟨D',_,U,SqL.of e2,_,U,?_⟩
   have:(zdj us.length false).any id=false:=by
    rw[zby]
    intro z
    obtain⟨x,hx,e⟩:=zdv.mp z
    rw[zfa hx] at e
    cases e
   rw[this]
   exact iteF ⟨_,rfl,q D H2 (s1.trans s2) hD (hL.same s2)⟩
inductive spNumOf(K:W.Frag)(vs:List V)(H:Hp)(Q:VK)(z3q:XK):Prop
 |mk (p:Addr) (z:Str) (ys:List Str):vs=[.ref p,.str z]->H p=some (.lst (ys.map V.str))->ys.length<=100000->(∀(v:Int)(ys':List Str),(z∈ys/\v=((ys.idxOf z:Nat):Int)/\ys'=ys)\/(z∉ys/\v=(ys.length:Int)/\ys'=ys++[z])->Q (.int v) (upd H p (.lst (ys'.map V.str))))->spNumOf K vs H Q z3q
theorem upd_id{o:HO}(h:H p=some o):upd H p o=H:=funext λ b=>by
 by_cases e:b=p
 ·rw[e,qaf9,h]
 ·rw[qap9 e]
theorem qqe9{ns:List Str}:inV (.str x) (ns.map V.str)=decide (x∈ns):=by
 unfold inV
 rw[zbz,zdv,decide_eq_true_iff]
 constructor
 ·intro z9;obtain⟨y,hy,e⟩ := z9
  obtain⟨z,hz,rfl⟩:=zat.mp hy
  have:z=x:=by simpa [eqV] using e
  exact this ▸ hz
 ·intro h
  exact⟨.str x,zat.mpr ⟨x,h,U⟩,by simp[eqV]⟩
theorem ok_numOf(F:Fun K "number_of" "number_of" qdr9 f fd):FnOk P w K mg base CX0 (n+1) f fd ["names","name"] (spNumOf K):=by
 refine F.okQ qmj9 ?_ ?_
 walk_at "o"
 obtain⟨p,z,ys,rfl,hp,hl,qq⟩:=h
 refine⟨_,(qeq9 (qs_if (qaj9 qhc9 (qv 1) (qv 0) U) (qae9 (qbm9 (qbh9 (qv 0) (qa_c (qv 1) qac9)))) qao9) (qae9 (qal9 (qno9 K U (qv 0) (qa_c (qv 1) qac9))))),?_⟩
 walk_at "d"
 have q1:z∈ys->Q (.int ((ys.idxOf z:Nat):Int)) H:=λ c=>by
  have:=qq _ ys (.inl ⟨c,rfl,rfl⟩)
  rw[upd_id hp] at this
  exact this
 have q2:z∉ys->Q (.int (ys.length:Int)) (upd H p (.lst ((ys++[z]).map V.str))):=λ c=>qq _ _ (.inr ⟨c,rfl,rfl⟩)
 have hz:=L.le (n:=ys.length) ⋯
 have hz2:=L.le (n:=ys.length+1) ⋯
 by_cases c:z∈ys
 ·refine⟨λ σ' H'=>σ'=[some (.ref p),some (.str z)]/\H'=H,?_,?_⟩
  ·refine⟨_,U,_,U,p,_,U,.inl (SqL.of hp),U,qic9 _,_,U,?_⟩
   rw[qqe9,dT9 c]
   exact iteN (by decide) ⟨rfl,rfl⟩
  intro σ' H' z9;obtain⟨rfl,rfl⟩ := z9
  exact⟨_,U,.inl ⟨U,_,SqL.of hp⟩,_,U,p,z,ys,U,U,SqL.of hp,c,hz,q1 c⟩
 ·refine⟨λ σ' H'=>σ'=[some (.ref p),some (.str z)]/\H'=upd H p (.lst ((ys++[z]).map V.str)),?_,?_⟩
  ·refine⟨_,U,_,U,p,_,U,.inl (SqL.of hp),U,qic9 _,_,U,?_⟩
   rw[qqe9,decide_eq_false c]
   refine iteP (by decide) ⟨_,rfl,.inl ⟨rfl,_,SqL.of hp⟩,_,rfl,p,_,_,rfl,rfl,hp,qbf9 (by rw[zad];omega),rfl,?_⟩
   rw[zba]
   rfl
  intro σ' H' z9;obtain⟨rfl,rfl⟩ := z9
  have e:upd H p (.lst ((ys++[z]).map V.str)) p=some (.lst ((ys++[z]).map V.str)):=qaf9
  refine⟨_,U,.inl ⟨U,_,SqL.of e⟩,_,U,p,z,ys++[z],U,U,SqL.of e,by simp,by rw[zam,zbm];exact hz2,?_⟩
  rw[zff,if_neg c]
  simpa using q2 c
theorem qio9:roadT s e R=zci " " ((s++">"++e)::R.map winT):=by
 have h:∀(x:Str)(r:List Str),zci " " (x::r)=Txt.join " " (x::r):=λ x r=>by
  unfold Txt.join
  rw[StrLaws.glued_eq_join]
 unfold roadT qqz9
 cases R with
 |nil=>rw[if_pos rfl,zcy];rfl
 |cons w R =>
  rw[if_neg (by simp),zcg,<- h,zcy]
  rfl
theorem app_mem{u v:Str}:c∈(u++v).cps.toList↔c∈u.cps.toList\/c∈v.cps.toList:=by
 have e:(u++v).cps.toList=u.cps.toList++v.cps.toList:=by
  show(u.cps++v.cps).toList=_
  simp
 rw[e,zav]
theorem qmi9{x:T3}(h0:0<=x.1)(h1:0<=x.2.1)(h2:0<=x.2.2)(hc:(c<48\/57<c)/\c≠45/\c≠43):c∉(winT x).cps.toList:=λ z=>by
 rw[qqc9,app_mem,app_mem] at z
 rcases z with(z|z)|z
 ·exact qnc9 h0 h1 ⟨hc.1,hc.2.1⟩ z
 ·have:(("+":Str)).cps.toList=[43]:=by decide +kernel
  rw[this] at z
  exact hc.2.2 (by simpa using z)
 ·exact qev9 h2 hc.1 z
theorem qki9(hs:Low s)(he:Low e)(hc:(c<97\/122<c)/\c≠62):c∉(s++">"++e).cps.toList:=λ z=>by
 rw[app_mem,app_mem] at z
 rcases z with(z|z)|z
 ·exact qjx9 hs hc.1 z
 ·have:((">":Str)).cps.toList=[62]:=by decide +kernel
  rw[this] at z
  exact hc.2 (by simpa using z)
 ·exact qjx9 he hc.1 z
theorem qsm9(hs:Low s)(he:Low e)(hR:WinsR day R):Txt.split (roadT s e R) " "=(s++">"++e)::R.map winT:=by
 rw[qio9]
 refine qhe9 (c:=32) (cs:=[]) (by decide +kernel) (by simp) (by decide +kernel) (by simp) λ p hp=>?_
 rcases zah.mp hp with rfl|hp
 ·exact qki9 hs he ⟨⋯,⋯⟩
 ·obtain⟨x,hx,rfl⟩:=zat.mp hp
  obtain⟨a,b,c,d,_⟩:=hR x hx
  exact qmi9 a ⋯ ⋯ ⟨⋯,⋯,⋯⟩
theorem road_free(hs:Low s)(he:Low e)(hR:WinsR day R):59∉(roadT s e R).cps.toList:=by
 rw[qio9,qfr9]
 intro z
 rcases zav.mp z with z|z
 ·exact qki9 hs he ⟨⋯,⋯⟩ z
 ·obtain⟨p,hp,z⟩:=zej.mp z
  rcases zav.mp z with z|z
  ·exact absurd z (by decide +kernel)
  ·obtain⟨x,hx,rfl⟩:=zat.mp hp
   obtain⟨a,b,c,d,_⟩:=hR x hx
   exact qmi9 a ⋯ ⋯ ⟨⋯,⋯,⋯⟩ z
theorem FnOk.imp{P:Program}{w:World}{K:W.Frag}{mg:Str->Option Value}{base:Heap}{CX:CXT}{f:Addr}{fd:FuncData}{ps:List Str}{sp sp':Sp}(F:FnOk P w K mg base CX k f fd ps sp)(h:∀vs H Q E,sp' vs H Q E->sp vs H Q E):FnOk P w K mg base CX k f fd ps sp' :=
 ⟨λ vs H Q E q=>F.len vs H Q E (h vs H Q E q),λ A outer s H args us vs Q E hr he hb hv q=>F.run A outer s H args us vs Q E hr he hb hv (h vs H Q E q)⟩
theorem qrp9{n:Int}(h0:0<=n)(hl:(numT n).length<=100):PySem.intText? (numT n)=some n:=by
 have hne:(numT n).cps.toList≠[]:=λ e=>by
  have:=qrx9 h0
  have e':(numT n).length=(numT n).cps.toList.length:=by simp[zch]
  rw[e',e] at this
  exact absurd this (by decide)
 have e:=intText_digits (λ c hc=>qhw9 h0 c hc) hne (zbb hl (by decide))
 rw[qjl9 h0,W.KIN.val_back] at e
 rw[e]
 congr 1
 omega
inductive spNumG(vs:List V)(H:Hp)(Q:VK)(z3q:XK):Prop
 |mk (n:Int) (m:Nat):vs=[.str (numT n),.int m]->0<=n->(numT n).length<=m->m<=100->(∀H',Same H H'->Q (.int n) H')->spNumG vs H Q z3q
theorem ok_numG(gt:Gt mg t1 t2 t3 t4)(F:Fun K "read_number" "read_number" qbu9 f fd)(B:Bl mg):FnOk P w K mg base CX0 (n+1) f fd ["text","most_figures"] spNumG:=by
 refine F.okQ qju9 ?_ ?_
 walk_at "o"
 obtain⟨n,m,rfl,n0,hl,hm,q⟩:=h
 refine⟨_,(qab9 (qs_if (qfc9 (QW.pt (qw_or (qdv9 (qjy9 qgm9 qgm9 qad9 (qe_cb qhf9 U B.len qce9 (qa_c (qv 0) qac9)) (qv 1))) (qew9 (qdv9 (qcb9 (qe_cb (qfm9 U) U B.all qmr9 (qa_c (qer9 ["sign"] [none] (BlkOk.of U U (SubL.to subN) U) U (qi_str (qv 0)) (λ _ _ _ _=>(qam9 (i:=0) (show(["sign"]:List Str).Nodup by decide) U (zaf U))) (λ _ _ _ _=>(qfg9 qop_inS (qv 0) (qe_gStr U gt.fig) U))) qac9)))))))) (qae9 (qal9 qes9)) qao9) (qab9 (qs_if (qfc9 (QW.pt (qjc9 (qaj9 qhb9 (qe_cb qhf9 U B.len qce9 (qa_c (qv 0) qac9)) qad9 (qat9 _)) (qgy9 (qaj9 qbr9 (qe_ix qjm9 (qv 0) qad9 Y9) qbe9 (qat9 _)))))) (qae9 (qal9 qes9)) qao9) (qae9 (qal9 (qe_ct qlj9 U B.int_ bt_int (qa_c (qv 0) qac9)))))),?_⟩
 walk_at "d"
 have hz:=L.le (n:=(numT n).length) ⋯
 have l1:=qrx9 n0
 refine⟨λ b H'=>b=false/\Same H H',?_,?_⟩
 ·refine⟨_,U,_,U,hz,_,_,U,U,_,U,iteP (dT9 ⋯) ⟨_,U,_,_,U,U,_,U,iteN (by simp;omega) ?_⟩⟩
  refine⟨_,U,_,U,qmf9 (λ c hc=>by have:=qhw9 n0 c hc;omega),qlb9 (λ c hc=>fig_in (qhw9 n0 c hc)) ⋯ λ D H1 s1 e1=>?_⟩
  exact⟨D,_,U,SqL.of e1,_,U,by rw[qpx9];rfl,s1⟩
 intro b H1 z9;obtain⟨rfl,s1⟩ := z9
 refine iteF ?_
 refine⟨λ b H'=>b=false/\H'=H1,?_,?_⟩
 ·refine⟨_,U,_,U,hz,_,_,U,U,_,U,ite2 (λ c=>?_) (λ c=>⟨U,U⟩)⟩
  have c':1<(numT n).length:=by
   have:=oT9 c
   omega
  obtain⟨c,hc,n48⟩:=num_first n0 c'
  refine⟨_,U,_,0,c,U,U,hz,qea9 (j:=0) (by rw[zcc];exact hc),U,_,U,decide_eq_false λ z=>n48 ?_,U⟩
  have z:(⟨#[c]⟩:Str)="0" := by
   injection z
  have:=congrArg (λ s:Str=>s.cps.toList) z
  have e0:(("0":Str)).cps.toList=[48]:=by decide +kernel
  rw[e0] at this
  simpa using this
 intro b H2 z9;obtain⟨rfl,rfl⟩ := z9
 refine iteF ?_
 exact⟨_,U,_,n,U,qrp9 n0 ⋯,⋯,q _ s1⟩
theorem num_of_R:∀(vs:List V)(H:Hp)(Q:VK)(E:XK),spNumR vs H Q E->spNumG vs H Q E:=λ vs H Q E ⟨n,e,sm,q⟩=>⟨n,16,e,sm.1,sm.len,by decide,q⟩
theorem qiv9(a b:Str):(a++b).cps.toList=a.cps.toList++b.cps.toList:=by
 show(a.cps++b.cps).toList=_
 simp
theorem qha9(h:t<0):numT t="-"++numT (-t):=by
 obtain⟨m,rfl⟩:∃m:Nat,t=zhm m:=⟨(-t-1).toNat,⋯⟩
 refine qip9 ?_
 rw[qiv9,show -(zhm m)=((m+1:Nat):Int) from rfl]
 show(zbo ("-"++toString (m+1))).cps.toList=(zbo "-").cps.toList++(zbo (toString (m+1))).cps.toList
 rw[PyProof.Rows.signs_ofString,PyProof.Rows.signs_ofString,PyProof.Rows.signs_ofString,String.toList_append,zba]
theorem starts_no(hy:y.cps.toList=[c])(h:c∉x.cps.toList):Txt.startswith x y=false:=by
 unfold Txt.startswith
 rw[Bool.and_eq_false_iff]
 refine .inr ?_
 rw[StrLaws.subAt_eq,hy,zcw,show y.length=1 by rw[show y.length=y.cps.toList.length by simp[zch],hy];rfl]
 refine zby.mpr λ z=>h ?_
 have:=eq_of_beq z
 exact zcv (this ▸ zag.mpr rfl)
theorem qqy9:Txt.startswith (y++x) y=true:=by
 unfold Txt.startswith
 have ly:y.length=y.cps.toList.length:=by simp[zch]
 rw[zbu,decide_eq_true_eq,StrLaws.subAt_eq,zcw,qiv9,ly,zfz]
 refine⟨by rw[zac];omega,by simp⟩
theorem qnu9(hy:y.cps.toList=[c]):Txt.slice (y++x) (some 1) none=x:=qip9 (by
 rw[slice_sn (by decide),qiv9,hy]
 rfl)
inductive Part
 |name (x:Str)
 |ends (a b:Str)
 |moment (t:Int)
 |turns (k:Int)
 |win (x:T3)
def Part.txt:Part->Str
 |name x=>x
 |ends a b=>a++">"++b
 |moment t=>numT t
 |turns k=>numT k
 |win x=>winT x
def Part.kind:Part->Str
 |name _ => "name"
 |ends _ _ => "road"
 |moment _ => "moment"
 |turns _ => "turns"
 |win _ => "window"
def Part.named:Part->Bool
 |name _=>true
 |ends _ _=>true
 |_=>false
def Part.ok(d:Int):Part->Prop
 |name x=>Low x
 |ends a b=>Low a/\Low b
 |moment t=>-1000000000000000000000000000000<t/\t<1000000000000000000000000000000
 |turns k=>0<=k/\k<=3
 |win x=>0<=x.1/\x.1<=x.2.1/\x.2.1<d/\d<=1000000000000000/\1<=x.2.2/\x.2.2<=1000000000000000
def Part.ns:Part->List Str
 |name x=>[x]
 |ends a b=>[a,b]
 |_=>[]
def PV(H:Hp)(v:V):Part->Prop
 | .moment t=>v=.int t
 | .turns k=>v=.int k
 | .win x=>∃r,v=.ref r/\H r=some (.tup (enc3 x))
 |_=>False
theorem PV.same{p:Part}(h:PV H v p)(s:Same H H'):PV H' v p:=by
 cases p with
 |name _=>exact h
 |ends _ _=>exact h
 |moment _=>exact h
 |turns _=>exact h
 |win x =>
  obtain⟨r,e,er⟩:=h
  exact⟨r,e,s _ _ er⟩
theorem PV.some{H:Hp}{v:V}{p:Part}(h:PV H v p):v ≠ .non:=by
 cases p with
 |name _=>exact h.elim
 |ends _ _=>exact h.elim
 |moment _=>rw[h];simp
 |turns _=>rw[h];simp
 |win x =>
  obtain⟨r,e,_⟩:=h
  rw[e]
  simp
theorem qgc9{n:Int}{m:Nat}(h0:0<=n)(hm:1<=m)(h:n<(10:Int) ^ m):(numT n).length<=m:=PyProof.Rows.toString_length_le h0 hm h
inductive spMomR(vs:List V)(H:Hp)(Q:VK)(z3q:XK):Prop
 |mk (t:Int):vs=[.str (numT t)]->(Part.moment t).ok 0->(∀H',Same H H'->Q (.int t) H')->spMomR vs H Q z3q
inductive spTurR(vs:List V)(H:Hp)(Q:VK)(z3q:XK):Prop
 |mk (k:Int):vs=[.str (numT k)]->(Part.turns k).ok 0->(∀H',Same H H'->Q (.int k) H')->spTurR vs H Q z3q
inductive spNamesR(vs:List V)(H:Hp)(Q:VK)(z3q:XK):Prop
 |mk (p:Part):vs=[.str p.kind,.str p.txt]->p.named=true->p.ok 0->(∀(r:Addr)(H':Hp),Same H H'->H' r=some (.tup (p.ns.map V.str))->Q (.ref r) H')->spNamesR vs H Q z3q
inductive spValR(vs:List V)(H:Hp)(Q:VK)(z3q:XK):Prop
 |mk (d:Int) (p:Part):vs=[.int d,.str p.kind,.str p.txt]->p.named=false->p.ok d->(∀(v:V)(H':Hp),Same H H'->PV H' v p->Q v H')->spValR vs H Q z3q
structure Gr(mg:Str->Option Value)(t1 t2 t3:Tok):Prop where
 mf:mg "MOST_FIGURES_rows"=some (.int 30 t1)
 mt:mg "MOST_TURNS"=some (.int 3 t2)
 mp:mg "MOST_PARTY"=some (.int 6 t3)
theorem pow30:(10:Int) ^ 30=1000000000000000000000000000000:=by decide +kernel
theorem ok_momR(gr:Gr mg t1 t2 t3)(F:Fun K "read_moment" "read_moment" qcn9 f fd)(Ca0:Callee P w K mg base n "read_number" ["text","most_figures"] spNumG):FnOk P w K mg base CX0 (n+1) f fd ["word"] spMomR:=by
 refine F.okQ sc_read_moment ?_ ?_
 walk_at "o"
 obtain⟨t,rfl,⟨h1,h2⟩,q⟩:=h
 refine⟨_,(qab9 (qs_if (qdv9 (qcb9 (qe_starts (qv 0) (qa_c qbe9 qac9)))) (qae9 (qal9 (qe_fn Ca0 hr U (qa_c (qv 0) (qa_c (qgb9 U gr.mf) qac9))))) qao9) (qab9 (qai9 (i:=1) sc_read_moment.nd U (zaf U) (qe_fn Ca0 hr U (qa_c (qe_slA (qv 0) (qft9 qad9) qfz9) (qa_c (qgb9 U gr.mf) qac9)))) (qae9 (qal9 (qbt9 (QW.pt (qw_or (qfq9 (qv 1)) (qew9 (qaj9 qbr9 (qv 1) qad9 (qat9 _))))) qes9 (qhi9 (qv 1))))))),?_⟩
 walk_at "d"
 have e45:(("-":Str)).cps.toList=[45]:=by decide +kernel
 by_cases c:t<0
 ·have l:=qgc9 (n:=-t) (m:=30) ⋯ (by decide) (by rw[pow30];omega)
  have lw:("-"++numT (-t):Str).length<=sizeLine:=L.le (by rw[zac,show(("-":Str)).length=1 by decide];omega)
  rw[qha9 c]
  refine⟨_,U,U,_,_,U,U,?_⟩
  rw[qqy9]
  refine⟨_,U,iteF ?_⟩
  refine⟨_,U,_,U,_,U,lw,?_⟩
  rw[qnu9 e45]
  refine⟨-t,30,U,⋯,l,by decide,λ H1 s1=>?_⟩
  refine⟨_,U,_,U,iteF ⟨_,U,U,_,U,iteN (by simp;omega) ⟨_,U,_,U,?_⟩⟩⟩
  have q1:=q H1 s1
  rw[<- zep t] at q1
  exact q1
 ·have c':0<=t:=⋯
  have l:=qgc9 (n:=t) (m:=30) c' (by decide) (by rw[pow30];omega)
  refine⟨_,U,U,_,_,U,U,?_⟩
  rw[starts_no e45 (qev9 c' ⋯)]
  refine⟨_,U,iteT ?_⟩
  exact⟨_,U,t,30,U,c',l,by decide,q⟩
theorem ok_turR(gr:Gr mg t1 t2 t3)(F:Fun K "read_turns" "read_turns" qct9 f fd)(Ca0:Callee P w K mg base n "read_number" ["text","most_figures"] spNumG):FnOk P w K mg base CX0 (n+1) f fd ["word"] spTurR:=by
 refine F.okQ sc_read_turns ?_ ?_
 walk_at "o"
 obtain⟨k,rfl,⟨h1,h2⟩,q⟩:=h
 refine⟨_,(qab9 (qai9 (i:=1) sc_read_turns.nd U (zaf U) (qe_fn Ca0 hr U (qa_c (qv 0) (qa_c (qgb9 U gr.mf) qac9)))) (qae9 (qal9 (qbt9 (QW.pt (qjc9 (qt_notN (qv 1)) (qgy9 (qaj9 qgm9 (qv 1) (qgb9 U gr.mt) (qat9 _))))) (qv 1) qes9)))),?_⟩
 walk_at "d"
 have l:=qgc9 (n:=k) (m:=30) h1 (by decide) (by rw[pow30];omega)
 refine⟨_,U,k,30,U,h1,l,by decide,λ H1 s1=>?_⟩
 exact⟨_,U,_,U,iteT ⟨_,U,_,_,U,U,_,U,iteP (dT9 h2) ⟨_,U,q H1 s1⟩⟩⟩
theorem ok_namesR(F:Fun K "read_names" "read_names" qcv9 f fd)(Cm0:Callee P w K mg base n "read_ends" ["text"] spEnds)(Cq0:Callee P w K mg base n "is_name" ["text"] spNameR):FnOk P w K mg base CX0 (n+1) f fd ["kind","word"] spNamesR:=by
 refine F.okQ qls9 ?_ ?_
 walk_at "o"
 obtain⟨p,rfl,hn,hok,q⟩:=h
 refine⟨_,(qab9 (qs_if (qaj9 qbr9 (qv 0) qbe9 (qat9 _)) (qae9 (qal9 (qe_fn Cm0 hr U (qa_c (qv 1) qac9)))) qao9) (qae9 (qal9 (qbt9 (qcb9 (qe_fn Cq0 hr U (qa_c (qv 1) qac9))) (qca9 (qa_c (qv 1) qac9)) qes9)))),?_⟩
 walk_at "d"
 cases p with
 |name x =>
  refine⟨_,U,U,_,U,iteN (by show ¬decide (V.str "name"=V.str "road")=true;decide +kernel) ?_⟩
  refine⟨_,U,x,U,hok,λ H1 s1=>⟨_,U,iteT ⟨_,U,z19,λ rr hrr=>?_⟩⟩⟩
  generalize hgH2:upd _ rr _=H2
  revert H2
  refine qbb9 hrr λ H2 s2 e2=>?_
  exact q rr H2 (s1.trans s2) e2
 |ends a b =>
  refine⟨_,U,U,_,U,iteP (dT9 rfl) ⟨_,U,a,b,U,hok.1,hok.2,λ rr H1 s1 e1=>?_⟩⟩
  exact q rr H1 s1 e1
 |moment _=>cases hn
 |turns _=>cases hn
 |win _=>cases hn
theorem ok_valR(F:Fun K "read_value" "read_value" qdf9 f fd)(Cw0:Callee P w K mg base n "read_moment" ["word"] spMomR)(Cb1:Callee P w K mg base n "read_turns" ["word"] spTurR)(Ci0:Callee P w K mg base n "read_window" ["day","text"] spWinR):FnOk P w K mg base CX0 (n+1) f fd ["day","kind","word"] spValR:=by
 refine F.okQ qld9 ?_ ?_
 walk_at "o"
 obtain⟨d,p,rfl,hn,hok,q⟩:=h
 refine⟨_,(qab9 (qs_if (qaj9 qbr9 (qv 1) qbe9 (qat9 _)) (qae9 (qal9 (qe_fn Cw0 hr U (qa_c (qv 2) qac9)))) qao9) (qab9 (qs_if (qaj9 qbr9 (qv 1) qbe9 (qat9 _)) (qae9 (qal9 (qe_fn Cb1 hr U (qa_c (qv 2) qac9)))) qao9) (qae9 (qal9 (qe_fn Ci0 hr U (qa_c (qv 0) (qa_c (qv 2) qac9))))))),?_⟩
 walk_at "d"
 cases p with
 |name _=>cases hn
 |ends _ _=>cases hn
 |moment t=>exact⟨_,rfl,rfl,_,rfl,iteP (dT9 rfl) ⟨_,rfl,t,rfl,hok,λ H1 s1=>q _ H1 s1 rfl⟩⟩
 |turns k=>exact⟨_,rfl,rfl,_,rfl,iteN (by show ¬decide (V.str "turns"=V.str "moment")=true;decide +kernel) ⟨_,rfl,rfl,_,rfl,iteP (dT9 rfl) ⟨_,rfl,k,rfl,hok,λ H1 s1=>q _ H1 s1 rfl⟩⟩⟩
 |win x =>
  obtain⟨x0,x1,x2,d2,x3,x4⟩:=hok
  exact⟨_,U,U,_,U,iteN (by show ¬decide (V.str "window"=V.str "moment")=true;decide +kernel) ⟨_,U,U,_,U,iteN (by show ¬decide (V.str "window"=V.str "turns")=true;decide +kernel) ⟨_,U,_,U,d,x,U,x0,x1,x2,d2,x3,x4,λ r H1 s1 e1=>q _ H1 s1 ⟨r,U,e1⟩⟩⟩⟩
end
variable {ps:List Part}
theorem qib9(hc:(c<48\/57<c)/\c≠45):c∉(numT t).cps.toList:=λ z=>by
 by_cases h:t<0
 ·rw[qha9 h,qiv9] at z
  rcases zav.mp z with z|z
  ·rw[show(("-":Str)).cps.toList=[45] by decide +kernel] at z
   exact hc.2 (zag.mp z)
  ·exact qev9 ⋯ hc.1 z
 ·exact qev9 ⋯ hc.1 z
theorem Part.free{p:Part}(h:p.ok d):32∉p.txt.cps.toList:=by
 cases p with
 |name x=>exact qjx9 h ⋯
 |ends a b=>exact qki9 h.1 h.2 ⟨⋯,⋯⟩
 |moment t=>exact qib9 ⟨⋯,⋯⟩
 |turns k=>exact qib9 ⟨⋯,⋯⟩
 |win x=>exact qmi9 h.1 (by have:=h.2.1;have:=h.1;omega) (by have:=h.2.2.2.2.1;omega) ⟨⋯,⋯,⋯⟩
theorem Part.len{p:Part}(h:p.ok d):p.txt.length<=60:=by
 cases p with
 |name x=>exact zbb h.l8 (by decide)
 |ends a b =>
  have h1:=h.1.l8
  have h2:=h.2.l8
  show(a++">"++b).length<=60
  rw[zac,zac,show((">":Str)).length=1 by decide]
  omega
 |moment t =>
  show(numT t).length<=60
  obtain⟨h1,h2⟩:=h
  by_cases c:t<0
  ·have:=qgc9 (n:=-t) (m:=30) ⋯ (by decide) (by rw[pow30];omega)
   rw[qha9 c,zac,show(("-":Str)).length=1 by decide]
   omega
  ·have:=qgc9 (n:=t) (m:=30) ⋯ (by decide) (by rw[pow30];omega)
   omega
 |turns k =>
  obtain⟨h1,h2⟩:=h
  have:=qgc9 (n:=k) (m:=30) ⋯ (by decide) (by rw[pow30];omega)
  show(numT k).length<=60
  omega
 |win x =>
  obtain⟨x0,x1,x2,d2,x3,x4⟩:=h
  exact zbb (qhp9 ⟨⟨x0,⋯⟩,⟨⋯,⋯⟩,⟨⋯,⋯⟩⟩) (by decide)
structure RowT(K:W.Frag)(kvS:List (Str×Tok×Value))(w:Str)(ta:Addr)(ks:List Str):Prop where
 get:kdVal kvS w=some (.ref ta)
 sh:∀H,SqT K H ta (ks.map V.str)
 nm:w≠"meet"
 fr:32∉w.cps.toList
 len:w.length<=10
def vps(ps:List Part):List Part:=ps.filter λ p=>!p.named
def VP(H:Hp)(vs:List V)(ps:List Part):Prop:=vs.length=(vps ps).length/\∀(i:Nat) v p,vs[i]?=some v->(vps ps)[i]?=some p->PV H v p
def rowS(w:Str)(ps:List Part):Str:=zci " " (w::ps.map Part.txt)
theorem VP.same{H H':Hp}{vs:List V}{ps:List Part}(h:VP H vs ps)(s:Same H H'):VP H' vs ps:=⟨h.1,λ i v p a b=>(h.2 i v p a b).same s⟩
theorem VP.skip{p:Part}(h:VP H vs ps)(hp:p.named=true):VP H vs (ps++[p]):=by
 unfold VP vps at *
 rw[zge,show [p].filter (λ p=>!p.named)=[] by simp[hp],zbv]
 exact h
theorem VP.snoc{p:Part}(h:VP H vs ps)(hp:p.named=false)(hv:PV H v p):VP H (vs++[v]) (ps++[p]):=by
 unfold VP vps at *
 rw[zge,show [p].filter (λ p=>!p.named)=[p] by simp[hp]]
 refine⟨by simp[h.1],λ i u q a b=>?_⟩
 rcases zcl i vs.length with z|z
 ·rw[zal z] at a
  rw[zal (by rw[<- h.1];exact z)] at b
  exact h.2 i u q a b
 ·rw[zak z] at a
  rw[zak (by rw[<- h.1];exact z),<- h.1] at b
  have e:i-vs.length=0:=by
   have:=(zab.mp a).1
   simp at this
   omega
  rw[e] at a b
  cases a
  cases b
  exact hv
theorem row_split{w:Str}(hw:32∉w.cps.toList)(hp:∀p∈ps,p.ok d):Txt.split (rowS w ps) " "=w::ps.map Part.txt:=by
 refine qhe9 (c:=32) (cs:=[]) (by decide +kernel) (by simp) (by decide +kernel) (by simp) λ x hx=>?_
 rcases zah.mp hx with rfl|hx
 ·exact hw
 ·obtain⟨p,h,rfl⟩:=zat.mp hx
  exact Part.free (hp p h)
theorem row_len{w:Str}(hw:w.length<=10)(hp:∀p∈ps,p.ok d)(l8:ps.length<=8):(rowS w ps).length<=1000:=by
 have h1:=StrLaws.join_length_le " " (w::ps.map Part.txt)
 have h2:=StrLaws.sumLen_le (B:=60) (w::ps.map Part.txt) λ y hy=>by
  rcases zah.mp hy with rfl|hy
  ·omega
  ·obtain⟨p,h,rfl⟩:=zat.mp hy
   exact Part.len (hp p h)
 rw[zbg,zad] at h1 h2
 rw[show((" ":Str)).length=1 by decide] at h1
 have:rowS w ps=zci " " (w::ps.map Part.txt):=rfl
 rw[this]
 omega
theorem qfx9(h:x.length<=1000000):(Builtin.Str.partsBetween x (Builtin.Str.occurrences x sep 0 x.length (x.length+1)) sep.length).length<=sizeLine:=by
 rw[length_partsBetween]
 have:=StrLaws.occ_length_le x sep 0 x.length (x.length+1)
 exact L.le ⋯
theorem in_kind(p:Part):inV (.str p.kind) [.str "name",.str "road"]=p.named:=by
 cases p with
 |name _=>exact(by decide +kernel:inV (.str "name") [.str "name",.str "road"]=true)
 |ends _ _=>exact(by decide +kernel:inV (.str "road") [.str "name",.str "road"]=true)
 |moment _=>exact(by decide +kernel:inV (.str "moment") [.str "name",.str "road"]=false)
 |turns _=>exact(by decide +kernel:inV (.str "turns") [.str "name",.str "road"]=false)
 |win _=>exact(by decide +kernel:inV (.str "window") [.str "name",.str "road"]=false)
theorem qni9{p:Part}(h:ps[i]?=some p):(ps.take (i+1)).flatMap Part.ns=(ps.take i).flatMap Part.ns++p.ns:=by
 rw[zbw,h]
 simp
theorem ns_len(ps:List Part):(ps.flatMap Part.ns).length<=2*ps.length:=by
 induction ps with
 |nil=>simp
 |cons p ps ih =>
  rw[zbx,zam,zbg]
  have:p.ns.length<=2:=by cases p<;>simp[Part.ns]
  omega
inductive spShape(K:W.Frag)(kvS:List (Str×Tok×Value))(vs:List V)(H:Hp)(Q:VK)(z3q:XK):Prop
 |mk (pw:Addr) (w:Str) (ws:List Str) (ta:Addr) (ks:List Str):vs=[.ref pw]->(H pw=some (.lst ((w::ws).map V.str)))->RowT K kvS w ta ks->Q (.ref ta) H->spShape K kvS vs H Q z3q
inductive spRowR(K:W.Frag)(kvS:List (Str×Tok×Value))(vs:List V)(H:Hp)(Q:VK)(z3q:XK):Prop
 |mk (d:Int) (w:Str) (ta:Addr) (ps:List Part):vs=[.int d,.str (rowS w ps)]->RowT K kvS w ta (ps.map Part.kind)->((∀p∈ps,p.ok d))->ps.length<=8->(∀(r pn pv:Addr)(us:List V)(H':Hp),Same H H'->H' r=some (.tup [.str w,.ref pn,.ref pv])->H' pn=some (.lst ((ps.flatMap Part.ns).map V.str))->H' pv=some (.lst us)->VP H' us ps->Q (.ref r) H')->spRowR K kvS vs H Q z3q
section
variable {f:Addr}{t1 t2 t3 t4:Tok}{aS:Addr}
theorem ok_shape(gr:Gr mg t1 t2 t3)(kS:KDict K w.params aS kvS)(mS:mg "SHAPES"=some (.ref aS))(F:Fun K "shape_of" "shape_of" qel9 f fd)(B:Bl mg):FnOk P w K mg base CX0 (n+1) f fd ["words"] (spShape K kvS):=by
 refine F.okQ qoy9 ?_ ?_
 walk_at "o"
 obtain⟨pw,w,ws,ta,ks,rfl,ep,rt,q⟩:=h
 refine⟨_,(qab9 (qs_if (QW.pt (qjc9 (qaj9 qbr9 (qe_ix qak9 (qv 0) qad9 Y9) qbe9 (qat9 _)) (qgy9 (qjy9 qgm9 qgm9 qad9 (qe_cb qau9 U B.len qce9 (qa_c (qv 0) qac9)) (qe_op qas9 qad9 (qgb9 U gr.mp)))))) (qae9 (qal9 (qe_op qas9 (qca9 (qa_c qbe9 qac9)) (qe_op qfy9 (qca9 (qa_c qbe9 qac9)) (qe_op qcc9 (qe_cb qau9 U B.len qce9 (qa_c (qv 0) qac9)) qad9))))) qao9) (qae9 (qal9 (qe_kget1 kS U mS (qe_ix qak9 (qv 0) qad9 Y9) ⟨U,U,U,U⟩)))),?_⟩
 walk_at "d"
 have a0:atI ((w::ws).map V.str) 0=some (.str w):=qea9 (j:=0) rfl
 refine⟨_,U,pw,_,_,_,U,U,SqL.of ep,a0,U,_,U,iteN (λ z=>rt.nm ?_) ?_⟩
 ·have:=oT9 z
  injection this
 ·exact⟨_,U,pw,_,_,_,U,U,SqL.of ep,a0,w,.ref ta,U,by rw[rt.get];rfl,q⟩
theorem ok_rowR(F:Fun K "read_row" "read_row" qed9 f fd)(B:Bl mg)(Cs1:Callee P w K mg base n "shape_of" ["words"] (spShape K kvS))(Cc1:Callee P w K mg base n "read_names" ["kind","word"] spNamesR)(Cd1:Callee P w K mg base n "read_value" ["day","kind","word"] spValR):FnOk P w K mg base CX0 (n+1) f fd ["day","row"] (spRowR K kvS):=by
 refine F.okQ sc_read_row ?_ ?_
 walk_at "o"
 obtain⟨d,w,ta,ps,rfl,rt,hok,l8,q⟩:=h
 refine⟨_,(qab9 (qs_if (qdv9 (qcb9 (qe_cb qch9 U B.isinstance qbc9 (qa_c (qv 1) (qa_c (qfh9 (v:=.ty "str") U B.str_ qeu9 U) qac9))))) (qae9 (qal9 qes9)) qao9) (qab9 (qai9 (i:=2) sc_read_row.nd U (zaf U) (qir9 K U (qv 1) (qa_c qbe9 qac9))) (qab9 (qai9 (i:=3) sc_read_row.nd U (zaf U) (qe_fn Cs1 hr U (qa_c (qv 2) qac9))) (qab9 (qs_if (qfc9 (QW.pt (qw_or (qfq9 (qv 3)) (qew9 (qaj9 qoo9 (qe_cb qau9 U B.len qce9 (qa_c (qv 2) qac9)) (qe_op qas9 qad9 (qe_cb qau9 U B.len qce9 (qa_c (qv 3) qac9))) (qat9 _)))))) (qae9 (qal9 qes9)) qao9) (qab9 (qai9 (i:=4) sc_read_row.nd U (zaf U) (qdh9 qac9)) (qab9 (qai9 (i:=5) sc_read_row.nd U (zaf U) (qdh9 qac9)) (qab9 (qfk9 PassesOwn.never U (qi_zipT U B.zip (qa_c (qv 3) (qa_c (qkh9 (qv 2) (qft9 qad9) qfz9) qac9))) (qgx9 U (qaq9 (qam9 (i:=6) sc_read_row.nd U (zaf U)) (qaq9 (qam9 (i:=7) sc_read_row.nd U (zaf U)) qdz9))) (qab9 (qai9 (i:=8) sc_read_row.nd U (zaf U) (qfg9 qop_inL (qv 6) (qca9 (qa_c qbe9 (qa_c qbe9 qac9))) U)) (qab9 (qai9 (i:=9) sc_read_row.nd U (zaf U) (qlm9 (qbt9 (qcb9 (qv 8)) (qe_fn Cc1 hr U (qa_c (qv 6) (qa_c (qv 7) qac9))) (qe_fn Cd1 hr U (qa_c (qv 0) (qa_c (qv 6) (qa_c (qv 7) qac9))))))) (qab9 (qs_if (qfq9 (qv 9)) (qae9 (qal9 qes9)) qao9) (qae9 (qs_if (qcb9 (qv 8)) (qae9 (qbm9 (qe_extT (qv 4) (qa_c (qv 9) qac9)))) (qae9 (qbm9 (qbh9 (qv 5) (qa_c (qv 9) qac9)))))))))) (qae9 (qal9 (qca9 (qa_c (qe_ix qak9 (qv 2) qad9 Y9) (qa_c (qv 4) (qa_c (qv 5) qac9))))))))))))),?_⟩
 walk_at "d"
 refine⟨_,U,_,"str",_,_,U,.str _,U,_,U,iteF ?_⟩
 have es:=row_split rt.fr hok
 have lx:=row_len rt.len hok l8
 refine⟨_,U,U,_,_,U,U,by decide,L.le ⋯,qfx9 ⋯,by rw[es,zbg,zad];exact L.le ⋯,λ pw hpw=>?_⟩
 rw[es]
 generalize hgH1:upd _ pw _=H1
 revert H1
 refine qbb9 hpw λ H1 s1 e1=>?_
 refine⟨_,U,pw,w,ps.map Part.txt,ta,_,U,e1,rt,?_⟩
 have lk:(ps.map Part.kind).map V.str=ps.map λ p=>V.str p.kind:=by rw[zdz];rfl
 refine⟨λ b H'=>b=false/\H'=H1,?_,?_⟩
 ·refine⟨_,U,_,U,iteF ?_⟩
  refine⟨_,U,pw,_,U,.inl (SqL.of e1),_,U,ta,_,U,.inr (rt.sh _),_,_,U,U,U,_,U,?_,U⟩
  simp
  omega
 intro b H1' z9;obtain⟨rfl,rfl⟩ := z9
 refine iteF ?_
 refine⟨z09,λ pn hpn=>?_⟩
 have fpn:=s1.free hpn
 have nwn:pw≠pn:=λ z=>by rw[<- z,e1] at hpn;cases hpn
 generalize hgH2:upd _ pn _=H2
 revert H2
 refine qbb9 hpn λ H2 s2 e2=>?_
 refine⟨z09,λ pv hpv=>?_⟩
 have fpv:=(s1.trans s2).free hpv
 have npv:pv≠pn:=λ z=>by rw[z,e2] at hpv;cases hpv
 have nwv:pw≠pv:=λ z=>by rw[<- z,s2 _ _ e1] at hpv;cases hpv
 generalize hgH3:upd _ pv _=H3
 revert H3
 refine qbb9 hpv λ H3 s3 e3=>?_
 refine⟨_,U,_,U,_,U,pw,_,U,SqL.of (s3 _ _ (s2 _ _ e1)),λ pz hpz=>?_⟩
 rw[cut1]
 have nzn:pz≠pn:=λ z=>by rw[z,s3 _ _ e2] at hpz;cases hpz
 have nzv:pz≠pv:=λ z=>by rw[z,e3] at hpz;cases hpz
 generalize hgH4:upd _ pz _=H4
 revert H4
 refine qbb9 hpz λ H4 s4 e4=>?_
 have S4:=s1.trans (s2.trans (s3.trans s4))
 refine⟨ta,pz,U,⟨_,rt.sh _⟩,⟨_,SqL.of e4⟩,?_⟩
 have e4:H4 pz=some (.lst ((ps.map Part.txt).map V.str)):=e4
 refine for_zipT (K:=K) (a:=ta) (b:=pz) (xs:=(ps.map Part.kind).map V.str) (ys:=(ps.map Part.txt).map V.str) (by simp)
  (λ i σ H'=>∃(us:List V)(v6 v7 v8 v9:Option V),σ=[some (.int d),some (.str (rowS w ps)),some (.ref pw),some (.ref ta),some (.ref pn),some (.ref pv),v6,v7,v8,v9]/\Same H H'/\H' pz=some (.lst ((ps.map Part.txt).map V.str))/\H' pw=some (.lst ((w::ps.map Part.txt).map V.str))/\H' pn=some (.lst (((ps.take i).flatMap Part.ns).map V.str))/\H' pv=some (.lst us)/\VP H' us (ps.take i))
  ⟨[],_,_,_,_,rfl,S4,e4,s4 _ _ (s3 _ _ (s2 _ _ e1)),s4 _ _ (s3 _ _ e2),s4 _ _ e3,rfl,λ i v p a=>(by cases a)⟩ (λ i σ H' _ h=>?_) ?_ ?_
 ·obtain⟨_,_,_,_,_,_,_,h,_⟩:=h
  exact⟨rt.sh _,SqL.of h⟩
 ·intro i x y pt σ H5 hx hy z9 hpt;obtain⟨us,v6,v7,v8,v9,rfl,s5,z5,w5,n5,u5,vp5⟩ := z9
  rw[zap,zap] at hx hy
  cases hp:ps[i]? with
  |none=>rw[hp] at hx;cases hx
  |some p =>
  rw[hp] at hx hy
  cases hx
  cases hy
  have hi:=(zab.mp hp).1
  have okp:=hok p (zaj hp)
  have nl:=ns_len (ps.take i)
  rw[zbc] at nl
  have ul:=vp5.1
  have vl:(vps (ps.take i)).length<=i:=zbb (List.length_filter_le _ _) (by rw[zbc];omega)
  generalize hgH6:upd _ pt _=H6
  revert H6
  refine qbb9 hpt λ H6 s6 e6=>?_
  refine⟨pt,_,U,SqT.of e6,U,_,_,U,_,_,U,U,?_⟩
  refine⟨_,U,z29,λ pq hpq=>?_⟩
  generalize hgH7:upd _ pq _=H7
  revert H7
  refine qbb9 hpq λ H7 s7 e7=>?_
  refine⟨pq,_,U,.inr (SqT.of e7),U,U,?_⟩
  rw[in_kind]
  have s57:=s6.trans s7
  refine⟨λ v H'=>Same H7 H'/\v ≠ .non/\(p.named=true->∃r,v=.ref r/\H' r=some (.tup (p.ns.map V.str)))/\(p.named=false->PV H' v p),?_,?_⟩
  ·refine⟨_,U,_,U,ite2 (λ c=>?_) (λ c=>?_)⟩
   ·have c:p.named=true:=by simpa using c
    exact⟨_,rfl,_,rfl,p,rfl,c,(by cases p<;>first|exact okp|cases c),λ r H8 s8 e8=>⟨s8,by simp,λ _=>⟨r,rfl,e8⟩,λ z=>(by rw[c] at z;cases z)⟩⟩
   ·have c':p.named=false:=by simpa using c
    exact⟨_,rfl,_,rfl,_,rfl,d,p,rfl,c',okp,λ v H8 s8 hv=>⟨s8,hv.some,λ z=>(by rw[c'] at z;cases z),λ _=>hv⟩⟩
  intro v H8 z9;obtain⟨s8,vn,hn,hv⟩ := z9
  have s58:=s57.trans s8
  refine⟨_,U,_,U,iteN (by simp[vn]) ?_⟩
  have n8:=s58 _ _ n5
  have u8:=s58 _ _ u5
  have S8:=s5.trans s58
  have et:ps.take (i+1)=ps.take i++[p]:=by rw[zbw,hp];rfl
  refine⟨_,U,_,U,ite2 (λ c=>?_) (λ c=>?_)⟩
  ·have c:p.named=true:=by simpa using c
   obtain⟨r,rfl,er⟩:=hn c
   refine⟨_,U,.inl ⟨U,_,SqL.of n8⟩,_,U,pn,r,_,_,U,U,n8,SqT.of er,?_,?_⟩
   ·have:p.ns.length<=2:=by cases p<;>simp[Part.ns]
    exact L.le (by simp only[zad];omega)
   refine⟨us,_,_,_,_,U,qbl9 fpn S8,by rw[qap9 nzn];exact s58 _ _ z5,by rw[qap9 nwn];exact s58 _ _ w5,?_,by rw[qap9 npv];exact u8,?_⟩
   ·rw[qaf9,qni9 hp,zba]
   ·rw[et]
    refine VP.skip ⟨vp5.1,λ k u x a b=>?_⟩ c
    have h1:=(vp5.2 k u x a b).same s58
    cases x with
    |win y =>
     obtain⟨r2,e,er2⟩:=h1
     exact⟨r2,e,by rw[qap9 (λ z=>by rw[z,n8] at er2;cases er2)];exact er2⟩
    |_=>exact h1
  ·have c':p.named=false:=by simpa using c
   refine⟨_,U,.inl ⟨U,_,SqL.of u8⟩,_,U,pv,us,v,U,U,u8,qbf9 ⋯,?_⟩
   refine⟨us++[v],_,_,_,_,U,qbl9 fpv S8,by rw[qap9 nzv];exact s58 _ _ z5,by rw[qap9 nwv];exact s58 _ _ w5,?_,qaf9,?_⟩
   ·rw[qap9 npv.symm,qni9 hp,show p.ns=[] by(cases p<;>first|rfl|cases c'),zbv]
    exact n8
   ·have off:∀{u:V}{x:Part},PV H8 u x->PV (upd H8 pv (.lst (us++[v]))) u x:=λ {u x} h1=>by
     cases x with
     |win y =>
      obtain⟨r2,e,er2⟩:=h1
      exact⟨r2,e,by rw[qap9 (λ z=>by rw[z,u8] at er2;cases er2)];exact er2⟩
     |_=>exact h1
    rw[et]
    exact VP.snoc ⟨vp5.1,λ k u x a b=>off ((vp5.2 k u x a b).same s58)⟩ c' (off (hv c'))
 ·intro σ H5 z9;obtain⟨us,v6,v7,v8,v9,rfl,s5,z5,w5,n5,u5,vp5⟩ := z9
  rw[zad,zad,zbj] at n5 vp5
  have a0:atI ((w::ps.map Part.txt).map V.str) 0=some (.str w):=qea9 (j:=0) rfl
  refine⟨_,U,pw,_,_,_,U,U,SqL.of w5,a0,_,U,_,U,z39,λ rr hrr=>?_⟩
  generalize hgH6:upd _ rr _=H6
  revert H6
  refine qbb9 hrr λ H6 s6 e6=>?_
  exact q rr pn pv us H6 (s5.trans s6) e6 (s6 _ _ n5) (s6 _ _ u5) (vp5.same s6)
end
abbrev RoadS:=Str×Str×List T3
def addS(ys:List Str)(z:Str):List Str:=if z∈ys then ys else ys++[z]
theorem qpv9{v:Int}{ys':List Str}(h:(z∈ys/\v=((ys.idxOf z:Nat):Int)/\ys'=ys)\/(z∉ys/\v=(ys.length:Int)/\ys'=ys++[z])):ys'=addS ys z/\v=(((addS ys z).idxOf z:Nat):Int):=by
 unfold addS
 rcases h with⟨a,b,c⟩|⟨a,b,c⟩
 ·rw[if_pos a]
  exact⟨c,b⟩
 ·rw[if_neg a]
  refine⟨c,?_⟩
  rw[b,zff,if_neg a]
  simp
theorem qlw9(ys:List Str)(z:Str):(addS ys z).length<=ys.length+1:=by
 unfold addS
 split
 ·omega
 ·simp
def qiz9(st:List Str×List (Int×Int×List T3))(q:RoadS):List Str×List (Int×Int×List T3):=(addS (addS st.1 q.1) q.2.1,st.2++[((((addS st.1 q.1).idxOf q.1:Nat):Int),(((addS (addS st.1 q.1) q.2.1).idxOf q.2.1:Nat):Int),q.2.2)])
def rdAll(L:List RoadS):List Str×List (Int×Int×List T3):=L.foldl qiz9 ([],[])
theorem rd_snoc(L:List RoadS)(q:RoadS):rdAll (L++[q])=qiz9 (rdAll L) q:=by
 unfold rdAll
 rw[zdl]
 rfl
theorem rd_len:∀(L:List RoadS),(rdAll L).1.length<=2*L.length:=by
 have go:∀(L:List RoadS) (st:List Str×List (Int×Int×List T3)),(L.foldl qiz9 st).1.length<=st.1.length+2*L.length:=by
  intro L
  induction L with
  |nil=>intro st;simp
  |cons q L ih =>
   intro st
   have h:=ih (qiz9 st q)
   have h1:=qlw9 st.1 q.1
   have h2:=qlw9 (addS st.1 q.1) q.2.1
   have e:(qiz9 st q).1=addS (addS st.1 q.1) q.2.1:=rfl
   rw[zcq,zbg]
   rw[e] at h
   omega
 intro L
 have:=go L ([],[])
 simpa [rdAll] using this
def rdT(q:RoadS):Str:=roadT q.1 q.2.1 q.2.2
def netS(d:Int)(L:List RoadS):Str:=zci "; " (("day "++numT d)::L.map rdT)
structure Told(d:Int)(L:List RoadS):Prop where
 d1:1<=d
 d2:d<=1000000000000000
 l:L.length<=20
 rd:∀q∈L,Low q.1/\Low q.2.1/\WinsR d q.2.2/\q.2.2.length<=20
theorem Told.one{L:List RoadS}(h:Told d L){q:RoadS}(hq:q∈L):(rdT q).length<=5400:=by
 obtain⟨ls,le,e,l⟩:=h.rd q hq
 have d2:=h.d2
 refine qob9 (λ x hx=>?_) ⋯ (by have:=ls.l8;omega) (by have:=le.l8;omega)
 obtain⟨x0,x1,x2,x3,x4⟩:=e x hx
 exact⟨⟨x0,⋯⟩,⟨⋯,⋯⟩,⟨⋯,⋯⟩⟩
theorem Told.split{d:Int}{L:List RoadS}(h:Told d L):Txt.split (netS d L) "; "=("day "++numT d)::L.map rdT:=by
 refine qhe9 (c:=59) (cs:=[32]) (by decide +kernel) (by simp) (by decide +kernel) (by simp) λ p hp=>?_
 rcases zah.mp hp with rfl|hp
 ·intro z
  rw[app_mem] at z
  rcases z with z|z
  ·exact absurd z (by decide +kernel)
  ·exact qev9 (by have:=h.d1;omega) ⋯ z
 ·obtain⟨q,hq,rfl⟩:=zat.mp hp
  obtain⟨a,b,c,_⟩:=h.rd q hq
  exact road_free a b c
theorem Told.len{d:Int}{L:List RoadS}(h:Told d L):(netS d L).length<=200000:=by
 have sd:Sm d:=⟨by have:=h.d1;omega,by have:=h.d2;omega⟩
 have hd:(numT d).length<=16:=sd.len
 have h1:=StrLaws.join_length_le "; " (("day "++numT d)::L.map rdT)
 have h2:=StrLaws.sumLen_le (B:=5400) (("day "++numT d)::L.map rdT) λ y hy=>by
  rcases zah.mp hy with rfl|hy
  ·rw[zac,show(("day ":Str)).length=4 by decide]
   omega
  ·obtain⟨q,hq,rfl⟩:=zat.mp hy
   exact h.one hq
 rw[zbg,zad] at h1 h2
 rw[show(("; ":Str)).length=2 by decide] at h1
 have lL:=h.l
 have:netS d L=zci "; " (("day "++numT d)::L.map rdT):=rfl
 rw[this]
 omega
theorem NA.wr{x:Addr}{ys:List V}(h:NA H p N)(e:H x=some (.lst zs))(ne:p≠x)(nb:∀m∈N,m.2.2.1≠x):NA (upd H x (.lst ys)) p N:=⟨qcr9 h.la e ne,λ m hm=>⟨qcr9 (h.bd m hm).1 e (nb m hm),(h.bd m hm).2⟩,h.nd⟩
inductive spReadL(vs:List V)(H:Hp)(Q:VK)(z3q:XK):Prop
 |mk (day:Int) (L:List RoadS):vs=[.str (netS day L)]->Told day L->(∀(r pn pr:Addr)(M:List RdT)(H':Hp),Same H H'->H' r=some (.tup [.int day,.ref pn,.ref pr])->H' pn=some (.lst ((rdAll L).1.map V.str))->H pn=none->NA H' pr M->H pr=none->NFr H M->pn≠pr->(∀m∈M,m.2.2.1≠pn)->M.map strip=(rdAll L).2->Q (.ref r) H')->spReadL vs H Q z3q
section
variable {f:Addr}
theorem ok_readL(F:Fun K "read_net" "read_net" qef9 f fd)(B:Bl mg)(Ct1:Callee P w K mg base n "read_day" ["text"] spDayR)(Cm0:Callee P w K mg base n "read_ends" ["text"] spEnds)(Ce1:Callee P w K mg base n "read_board" ["day","words"] (spBoardR K))(Cu0:Callee P w K mg base n "number_of" ["names","name"] (spNumOf K)):FnOk P w K mg base CX0 (n+1) f fd ["text"] spReadL:=by
 refine F.okQ sc_read_net ?_ ?_
 walk_at "o"
 obtain⟨day,Lr,rfl,ok,q⟩:=h
 refine⟨_,(qab9 (qs_if (qdv9 (qcb9 (qe_cb qch9 U B.isinstance qbc9 (qa_c (qv 0) (qa_c (qfh9 (v:=.ty "str") U B.str_ qeu9 U) qac9))))) (qae9 qfw9) qao9) (qab9 (qai9 (i:=1) sc_read_net.nd U (zaf U) (qir9 K U (qv 0) (qa_c qbe9 qac9))) (qab9 (qai9 (i:=2) sc_read_net.nd U (zaf U) (qe_fn Ct1 hr U (qa_c (qe_ix qak9 (qv 1) qad9 Y9) qac9))) (qab9 (qs_if (qfq9 (qv 2)) (qae9 qfw9) qao9) (qab9 (qai9 (i:=3) sc_read_net.nd U (zaf U) (qdh9 qac9)) (qab9 (qai9 (i:=4) sc_read_net.nd U (zaf U) (qdh9 qac9)) (qab9 (qfk9 PassesOwn.never U (qcp9 (qkh9 (qv 1) (qft9 qad9) qfz9)) (qam9 (i:=5) sc_read_net.nd U (zaf U)) (qab9 (qai9 (i:=6) sc_read_net.nd U (zaf U) (qir9 K U (qv 5) (qa_c qbe9 qac9))) (qab9 (qai9 (i:=7) sc_read_net.nd U (zaf U) (qe_fn Cm0 hr U (qa_c (qe_ix qak9 (qv 6) qad9 Y9) qac9))) (qab9 (qai9 (i:=8) sc_read_net.nd U (zaf U) (qe_fn Ce1 hr U (qa_c (qv 2) (qa_c (qkh9 (qv 6) (qft9 qad9) qfz9) qac9)))) (qab9 (qs_if (QW.pt (qw_or (qfq9 (qv 7)) (qew9 (qfq9 (qv 8))))) (qae9 qfw9) qao9) (qab9 (qai9 (i:=9) sc_read_net.nd U (zaf U) (qe_fn Cu0 hr U (qa_c (qv 3) (qa_c (qe_ix qan9 (qv 7) qad9 Y9) qac9)))) (qae9 (qbm9 (qbh9 (qv 4) (qa_c (qca9 (qa_c (qv 9) (qa_c (qe_fn Cu0 hr U (qa_c (qv 3) (qa_c (qe_ix qan9 (qv 7) qad9 Y9) qac9))) (qa_c (qv 8) qac9)))) qac9)))))))))) (qae9 (qal9 (qca9 (qa_c (qv 2) (qa_c (qv 3) (qa_c (qv 4) qac9))))))))))))),?_⟩
 walk_at "d"
 have sd:Sm day:=⟨by have:=ok.d1;omega,by have:=ok.d2;omega⟩
 have hd:(numT day).length<=16:=sd.len
 have e4:("day ":Str).length=4:=by decide
 have lL:=ok.l
 have hlen:=ok.len
 refine⟨_,U,_,"str",_,_,U,.str _,U,_,U,iteF ?_⟩
 have es:=ok.split
 refine⟨_,U,U,_,_,U,U,by decide,L.le ⋯,qfx9 ⋯,L.le (by rw[es,zbg,zad];omega),λ ps hps=>?_⟩
 rw[es]
 generalize hgH1:upd _ ps _=H1
 revert H1
 refine qbb9 hps λ H1 s1 e1=>?_
 have e1:H1 ps=some (.lst ((("day "++numT day)::Lr.map rdT).map V.str)):=e1
 refine⟨_,U,ps,_,_,_,U,U,SqL.of e1,qea9 (j:=0) rfl,day,U,ok.d1,ok.d2,λ H2 s2=>?_⟩
 refine⟨_,U,_,U,iteF ?_⟩
 refine⟨z09,λ pn hpn=>?_⟩
 have fpn:H pn=none:=s1.free (s2.free hpn)
 generalize hgH3:upd _ pn _=H3
 revert H3
 refine qbb9 hpn λ H3 s3 e3=>?_
 refine⟨z09,λ pr hpr=>?_⟩
 have fpr:H pr=none:=s1.free (s2.free (s3.free hpr))
 have npr:pn≠pr:=λ z=>by rw[<- z,e3] at hpr;cases hpr
 generalize hgH4:upd _ pr _=H4
 revert H4
 refine qbb9 hpr λ H4 s4 e4'=>?_
 have s04:=s1.trans (s2.trans (s3.trans s4))
 have s14:=s2.trans (s3.trans s4)
 refine⟨_,U,_,U,ps,_,U,SqL.of (s14 _ _ e1),λ p5 hp5=>?_⟩
 have ec:cutV ((("day "++numT day)::Lr.map rdT).map V.str) (some 1) none=(Lr.map rdT).map V.str:=cut1 _
 rw[ec]
 have n5n:p5≠pn:=λ z=>by rw[z,s4 _ _ e3] at hp5;cases hp5
 have n5r:p5≠pr:=λ z=>by rw[z,e4'] at hp5;cases hp5
 generalize hgH5:upd _ p5 _=H5
 revert H5
 refine qbb9 hp5 λ H5 s5 e5=>?_
 refine⟨p5,U,⟨_,SqL.of e5⟩,qdy9 (K:=K) (a:=p5) (xs:=(Lr.map rdT).map V.str) (λ i σ H'=>∃(M:List RdT)(v5 v6 v7 v8 v9:Option V),σ=[some (.str (netS day Lr)),some (.ref ps),some (.int day),some (.ref pn),some (.ref pr),v5,v6,v7,v8,v9]/\Same H H'/\H' p5=some (.lst ((Lr.map rdT).map V.str))/\H' pn=some (.lst ((rdAll (Lr.take i)).1.map V.str))/\NA H' pr M/\NFr H M/\(∀m∈M,m.2.2.1≠pn)/\M.length=i/\M.map strip=(rdAll (Lr.take i)).2)
  ⟨[],_,_,_,_,_,rfl,s04.trans s5,e5,s5 _ _ (s4 _ _ e3),NA.nil (s5 _ _ e4'),(by intro m hm;cases hm),(by simp),rfl,rfl⟩ (λ i σ H' _ h=>?_) ?_ ?_⟩
 ·obtain⟨_,_,_,_,_,_,_,_,h,_⟩:=h
  exact SqL.of h
 ·intro i y σ H6 hi z9;obtain⟨M,v5,v6,v7,v8,v9,rfl,s6,e6,n6,hM,fM,bM,lM,eM⟩ := z9
  rw[zap,zap] at hi
  cases hx:Lr[i]? with
  |none=>rw[hx] at hi;cases hi
  |some m =>
  rw[hx] at hi
  cases hi
  have li:=(zab.mp hx).1
  have mm:=zaj hx
  obtain⟨ls,le,wR,lR⟩:=ok.rd m mm
  have rl:=ok.one mm
  have er:Txt.split (rdT m) " "=(m.1++">"++m.2.1)::m.2.2.map winT:=qsm9 ls le wR
  have nl:=rd_len (Lr.take i)
  rw[zbc] at nl
  have n2:=qlw9 (rdAll (Lr.take i)).1 m.1
  have et:Lr.take (i+1)=Lr.take i++[m]:=by rw[zbw,hx];rfl
  refine⟨_,U,U,_,_,U,U,by decide,L.le ⋯,qfx9 ⋯,L.le (by rw[er,zbg,zad];omega),λ pw hpw=>?_⟩
  rw[er]
  generalize hgH7:upd _ pw _=H7
  revert H7
  refine qbb9 hpw λ H7 s7 e7=>?_
  have e7:H7 pw=some (.lst (((m.1++">"++m.2.1)::m.2.2.map winT).map V.str)):=e7
  refine⟨_,U,pw,_,_,_,U,U,SqL.of e7,qea9 (j:=0) rfl,_,_,U,ls,le,λ r8 H8 s8 e8=>?_⟩
  refine⟨_,U,_,U,_,U,pw,_,U,SqL.of (s8 _ _ e7),λ p9 hp9=>?_⟩
  have ec9:cutV (((m.1++">"++m.2.1)::m.2.2.map winT).map V.str) (some 1) none=(m.2.2.map winT).map V.str:=cut1 _
  rw[ec9]
  generalize hgH9:upd _ p9 _=H9
  revert H9
  refine qbb9 hp9 λ H9 s9 e9=>?_
  refine⟨day,p9,m.2.2,U,e9,wR,ok.d2,⋯,λ pb H10 s10 fb la=>?_⟩
  have s69:=s7.trans (s8.trans s9)
  have s610:=s69.trans s10
  have n10:=s610 _ _ n6
  have nbn:pb≠pn:=λ z=>by
   rw[z,s69 _ _ n6] at fb
   cases fb
  have fpb:H pb=none:=s6.free (s69.free fb)
  have fbM:=(hM.same s69).fresh fb
  have hM10:=hM.same s610
  have e8':=s10 _ _ (s9 _ _ e8)
  have e510:=s610 _ _ e6
  have s010:=s6.trans s610
  have nr8:r8≠pn:=λ z=>by rw[z,n10] at e8';cases e8'
  refine⟨_,U,_,U,iteF ⟨_,U,_,U,iteF ?_⟩⟩
  refine⟨_,U,_,U,r8,_,_,_,U,U,SqT.of e8',U,pn,_,(rdAll (Lr.take i)).1,U,n10,⋯,λ v ys' alt=>?_⟩
  obtain⟨rfl,rfl⟩:=qpv9 alt
  clear alt
  generalize hN1:addS (rdAll (Lr.take i)).1 m.1=N1 at *
  have n11:upd H10 pn (.lst (N1.map V.str)) pn=some (.lst (N1.map V.str)):=qaf9
  have e511:upd H10 pn (.lst (N1.map V.str)) p5=some (.lst ((Lr.map rdT).map V.str)):=by rw[qap9 n5n];exact e510
  have e811:upd H10 pn (.lst (N1.map V.str)) r8=some (.tup [.str m.1,.str m.2.1]):=by rw[qap9 nr8];exact e8'
  have la11:LA enc3 (upd H10 pn (.lst (N1.map V.str))) pb m.2.2:=qcr9 la n10 nbn
  have hM11:NA (upd H10 pn (.lst (N1.map V.str))) pr M:=hM10.wr n10 npr.symm bM
  have s011:Same H (upd H10 pn (.lst (N1.map V.str))):=qbl9 fpn s010
  generalize upd H10 pn (.lst (N1.map V.str))=H11 at *
  obtain⟨vs,hv1,hv2,_⟩:=hM11.la.lst
  refine⟨_,U,.inl ⟨U,_,SqL.of hv1⟩,_,U,_,U,_,U,r8,_,_,_,U,U,SqT.of e811,U,pn,_,N1,U,n11,⋯,λ v ys' alt=>?_⟩
  obtain⟨rfl,rfl⟩:=qpv9 alt
  clear alt
  generalize hN2:addS N1 m.2.1=N2 at *
  have n12:upd H11 pn (.lst (N2.map V.str)) pn=some (.lst (N2.map V.str)):=qaf9
  have e512:upd H11 pn (.lst (N2.map V.str)) p5=some (.lst ((Lr.map rdT).map V.str)):=by rw[qap9 n5n];exact e511
  have la12:LA enc3 (upd H11 pn (.lst (N2.map V.str))) pb m.2.2:=qcr9 la11 n11 nbn
  have hM12:NA (upd H11 pn (.lst (N2.map V.str))) pr M:=hM11.wr n11 npr.symm bM
  have s012:Same H (upd H11 pn (.lst (N2.map V.str))):=qbl9 fpn s011
  have hv12:upd H11 pn (.lst (N2.map V.str)) pr=some (.lst vs):=by rw[qap9 npr.symm];exact hv1
  generalize upd H11 pn (.lst (N2.map V.str))=H12 at *
  refine⟨_,U,z39,λ rr hrr=>?_⟩
  generalize hgH13:upd _ rr _=H13
  revert H13
  refine qbb9 hrr λ H13 s13 e13=>?_
  rw[zad] at hv2
  refine⟨pr,_,_,U,U,s13 _ _ hv12,qbf9 ⋯,?_⟩
  refine⟨M++[(((N1.idxOf m.1:Nat):Int),((N2.idxOf m.2.1:Nat):Int),pb,m.2.2)],_,_,_,_,_,U,qbl9 fpr (s012.trans s13),?_,?_,(hM12.same s13).add fbM (s13 _ _ hv12) (la12.same s13) e13,?_,?_,by simp[lM],?_⟩
  ·rw[qap9 n5r]
   exact s13 _ _ e512
  ·rw[qap9 npr,et,rd_snoc]
   unfold qiz9
   rw[hN1,hN2]
   exact s13 _ _ n12
  ·exact fM.snoc fpb
  ·intro m' hm'
   rcases zav.mp hm' with z|z
   ·exact bM m' z
   ·rw[zag] at z
    subst z
    exact nbn
  ·rw[zba,eM,et,rd_snoc]
   unfold qiz9
   rw[hN1,hN2]
   rfl
 ·intro σ H6 z9;obtain⟨M,v5,v6,v7,v8,v9,rfl,s6,e6,n6,hM,fM,bM,lM,eM⟩ := z9
  rw[zad,zad,zbj] at eM n6
  refine⟨_,U,_,U,_,U,z39,λ rr hrr=>?_⟩
  generalize hgH7:upd _ rr _=H7
  revert H7
  refine qbb9 hrr λ H7 s7 e7=>?_
  exact q rr pn pr M H7 (s6.trans s7) e7 (s7 _ _ n6) fpn (hM.same s7) fpr fM npr bM eM
end
def TBI(T:Hp->Prop):Prop:=∀(H:Hp)(x C dx:Addr) (fs fs':List (Str×V)),T H->H x=some (.ins C dx fs)->T (upd H x (.ins C dx fs'))
theorem qns9(P:Addr)(pos:Pos)(q:Str):TBI λ H=>TabOk H P pos q:=λ H x C dx fs fs' t e=>by
 obtain⟨ps,h1,h2,h3⟩:=t
 refine⟨ps,by rw[qap9 (λ z=>by rw[z,e] at h1;cases h1)];exact h1,h2,?_⟩
 rcases h3 with h3|⟨c,h3,h4⟩
 ·exact .inl h3
 ·exact .inr ⟨c,h3,by rw[qap9 (λ z=>by rw[z,e] at h4;cases h4)];exact h4⟩
theorem TBI.and{T':Hp->Prop}(h:TBI T)(h':TBI T'):TBI λ H=>T H/\T' H:=λ H x C dx fs fs' t e=>⟨h H x C dx fs fs' t.1 e,h' H x C dx fs fs' t.2 e⟩
theorem upd_two{x:Addr}{a b:HO}:upd (upd H x a) x b=upd H x b:=funext λ c=>by
 by_cases e:c=x
 ·rw[e,qaf9,qaf9]
 ·rw[qap9 e,qap9 e,qap9 e]
theorem LA.offI{α:Type}{enc:α->List V}{x dx:Addr}{fs:List (Str×V)}{o:HO}{xs:List α}(h:LA enc H p xs)(e:H x=some (.ins C dx fs)):LA enc (upd H x o) p xs:=by
 obtain⟨rs,h1,h2,h3⟩:=h.ex
 refine⟨rs,by rw[qap9 (λ z=>by rw[z,e] at h1;cases h1)];exact h1,h2,λ i r y e1 e2=>?_⟩
 have:=h3 i r y e1 e2
 rw[qap9 (λ z=>by rw[z,e] at this;cases this)]
 exact this
theorem NA.offI{H:Hp}{p x C dx:Addr}{fs:List (Str×V)}{o:HO}{N:List RdT}(h:NA H p N)(e:H x=some (.ins C dx fs)):NA (upd H x o) p N:=⟨h.la.offI e,λ m hm=>⟨(h.bd m hm).1.offI e,(h.bd m hm).2⟩,h.nd⟩
abbrev dfs(d:Int)(pn pr:Addr):List (Str×V):=[("day",.int d),("names",.ref pn),("roads",.ref pr)]
structure DeskAt(C:Addr)(H:Hp)(x:Addr)(d:Int)(ns:List Str)(M:List RdT):Prop where
 ex:∃dx pn pr,H x=some (.ins C dx (dfs d pn pr))/\H pn=some (.lst (ns.map V.str))/\NA H pr M
theorem DeskAt.same{C:Addr}{H H':Hp}{x:Addr}{d:Int}{ns:List Str}{M:List RdT}(h:DeskAt C H x d ns M)(s:Same H H'):DeskAt C H' x d ns M:=by
 obtain⟨dx,pn,pr,h1,h2,h3⟩:=h.ex
 exact⟨dx,pn,pr,s _ _ h1,s _ _ h2,h3.same s⟩
theorem DeskAt.u{C:Addr}{H H':Hp}{x:Addr}{d:Int}{ns:List Str}{M:List RdT}(h:DeskAt C H x d ns M)(s:SameU H H'):DeskAt C H' x d ns M:=by
 obtain⟨dx,pn,pr,h1,h2,h3⟩:=h.ex
 exact⟨dx,pn,pr,s.1 _ _ h1 (λ _ z=>nomatch z),s.lst h2,h3.u s⟩
structure DkT(K:W.Frag)(C:Addr):Prop where
 cl:Cls K C
 nd:NoAttr K C "day"
 nn:NoAttr K C "names"
 nr:NoAttr K C "roads"
inductive spDInit(T:Hp->Prop)(C:Addr)(vs:List V)(H:Hp)(Q:VK)(z3q:XK):Prop
 |mk (x dx:Addr) (d:Int) (L:List RoadS) (H0:Hp):vs=[.ref x,.str (netS d L)]->H x=some (.ins C dx [])->H0 x=none->Same H0 H->T H->Told d L->(∀(H':Hp)(M:List RdT),Same H0 H'->T H'->DeskAt C H' x d (rdAll L).1 M->M.map strip=(rdAll L).2->NFr H0 M->Q .non H')->spDInit T C vs H Q z3q
section
variable {f:Addr}
theorem ok_dinit(G:DkT K C)(hTB:TB T)(hTI:TBI T)(F:FunD K "__init__" "Desk.__init__" qbg9 f fd)(Cu1:Callee P w K mg base n "read_net" ["text"] spReadL):FnOk P w K mg base CX0 (n+1) f fd ["self","text"] (spDInit T C):=by
 refine F.okQ sc_Desk___init__ ?_ ?_
 walk_at "o"
 obtain⟨x,dx,d,L,H0,rfl,hx,fx,s0,hT,tl,q⟩:=h
 refine⟨_,(qab9 (qai9 (i:=2) sc_Desk___init__.nd U (zaf U) (qe_fn Cu1 hr U (qa_c (qv 1) qac9))) (qab9 (qs_fld (qv 0) (qe_ix qan9 (qv 2) qad9 Y9)) (qab9 (qs_fld (qv 0) (qe_ix qan9 (qv 2) qad9 Y9)) (qae9 (qs_fld (qv 0) (qe_ix qan9 (qv 2) qad9 Y9)))))),?_⟩
 walk_at "d"
 refine⟨_,U,d,L,U,tl,λ r pn pr M H1 s1 e1 n1 fn hM fr fM np bM eM=>?_⟩
 have x1:=s1 _ _ hx
 have t1:=hTB.same _ _ hT s1
 have nrx:∀{b:Addr}{o:HO},H1 b=some o->(∀C dx fs,o ≠ .ins C dx fs)->b≠x:=λ hb ho z=>by
  rw[z,x1] at hb
  exact ho _ _ _ (by injection hb with hb;exact hb.symm)
 refine⟨_,U,r,_,_,_,U,U,SqT.of e1,U,_,U,x,C,dx,_,U,x1,G.cl,G.nd,(by show 0<1000;decide),?_⟩
 have r2:upd H1 x (.ins C dx (putF "day" (.int d) [])) r=some (.tup [.int d,.ref pn,.ref pr]):=by rw[qap9 (nrx e1 (by simp))];exact e1
 refine⟨_,U,r,_,_,_,U,U,SqT.of r2,U,_,U,x,C,dx,_,U,qaf9,G.cl,G.nn,(by show 1<1000;decide),?_⟩
 rw[upd_two]
 have r3:upd H1 x (.ins C dx (putF "names" (.ref pn) (putF "day" (.int d) []))) r=some (.tup [.int d,.ref pn,.ref pr]):=by rw[qap9 (nrx e1 (by simp))];exact e1
 refine⟨_,U,r,_,_,_,U,U,SqT.of r3,U,_,U,x,C,dx,_,U,qaf9,G.cl,G.nr,(by show 2<1000;decide),?_⟩
 rw[upd_two]
 have ef:putF "roads" (.ref pr) (putF "names" (.ref pn) (putF "day" (.int d) []))=dfs d pn pr:=rfl
 rw[ef]
 refine q _ M ?_ (hTI _ x C dx _ _ t1 x1) ⟨dx,pn,pr,qaf9,by rw[qap9 (nrx n1 (by simp))];exact n1,hM.offI x1⟩ eM λ m hm=>s0.free (fM m hm)
 exact qbl9 fx (s0.trans s1)
end
structure RowE where
 w:Str
 ta:Addr
 ks:List Str
 f:Addr
 sp:Sp
structure RowsOk(K:W.Frag)(kvS kvA:List (Str×Tok×Value))(R:List RowE):Prop where
 row:∀e∈R,RowT K kvS e.w e.ta e.ks
 ans:∀e∈R,kdVal kvA e.w=some (.ref e.f)
def ansL(R:List RowE):List (Addr×Sp):=R.map λ e=>(e.f,e.sp)
def idxV(ns:List Str)(z:Str):V:=.int ((ns.idxOf z:Nat):Int)
inductive spSay(C:Addr)(R:List RowE)(vs:List V)(H:Hp)(Q:VK)(z3q:XK):Prop
 |mk (x:Addr) (d:Int) (ns:List Str) (M:List RdT) (e:RowE) (ps:List Part):vs=[.ref x,.str (rowS e.w ps)]->e∈R->e.ks=ps.map Part.kind->((∀p∈ps,p.ok d))->ps.length<=8->DeskAt C H x d ns M->((∀z∈ps.flatMap Part.ns,z∈ns))->ns.length<=100->(∀(pl pv:Addr)(us:List V)(H':Hp),Same H H'->H' pl=some (.lst ((ps.flatMap Part.ns).map (idxV ns)))->H' pv=some (.lst us)->VP H' us ps->e.sp [.ref x,.ref pl,.ref pv] H' Q E0)->spSay C R vs H Q z3q
section
variable {f:Addr}{aA:Addr}{kvA:List (Str×Tok×Value)}{R:List RowE}
theorem ok_say(G:DkT K C)(ro:RowsOk K kvS kvA R)(kA:KDict K w.params aA kvA)(mA:mg "ANSWERS"=some (.ref aA))(F:Fun K "say" "Desk.say" qcj9 f fd)(B:Bl mg)(Cv1:Callee P w K mg base n "read_row" ["day","row"] (spRowR K kvS))(GA:∀q∈ansL R,Ans P w K mg base CX0 n ["desk","places","values"] q.1 q.2):FnOk P w K mg base CX0 (n+1) f fd ["self","row"] (spSay C R):=by
 refine F.okQ sc_Desk_say ?_ ?_
 walk_at "o"
 obtain⟨x,d,ns,M,e,ps,rfl,he,ek,hok,l8,dk,hin,ln,q⟩:=h
 refine⟨_,(qab9 (qai9 (i:=2) sc_Desk_say.nd U (zaf U) (qe_fn Cv1 hr U (qa_c (qiy9 (qv 0)) (qa_c (qv 1) qac9)))) (qab9 (qs_if (qfq9 (qv 2)) (qae9 qfw9) qao9) (qab9 (qs_if (qdv9 (qcb9 (qe_cb (qfm9 U) U B.all qmr9 (qa_c (qer9 ["name","self"] [none,some 0] (BlkOk.of U U (SubL.to (subC U subN)) U) U (qcp9 (qe_ix qan9 (qv 2) qad9 Y9)) (λ _ _ _ _=>(qam9 (i:=0) (show(["name","self"]:List Str).Nodup by decide) U (zaf U))) (λ _ _ _ _=>(qfg9 (qop_inLK K U) (qv 0) (qe_fldK K U (qv 1)) U))) qac9)))) (qae9 qfw9) qao9) (qab9 (qai9 (i:=3) sc_Desk_say.nd U (zaf U) (qe_kget kA U mA (qe_ix qan9 (qv 2) qad9 Y9) Y9)) (qae9 (qal9 (qe_ans 3 GA hr pass0 (qa_c (qv 0) (qa_c (qer9 ["name","self"] [none,some 0] (BlkOk.of U U (SubL.to (subC U subN)) U) U (qcp9 (qe_ix qan9 (qv 2) qad9 Y9)) (λ _ _ _ _=>(qam9 (i:=0) (show(["name","self"]:List Str).Nodup by decide) U (zaf U))) (λ _ _ _ _=>(qno9 K U (qe_fldK K U (qv 1)) (qa_c (qv 0) qac9)))) (qa_c (qe_ix qan9 (qv 2) qad9 Y9) qac9)))))))))),?_⟩
 walk_at "d"
 obtain⟨dx,pn,pr,hx,hn,hM⟩:=dk.ex
 have rt:=ro.row e he
 rw[ek] at rt
 refine⟨_,U,x,C,dx,_,_,U,hx,G.cl,G.nd,U,_,U,d,e.w,e.ta,ps,U,rt,hok,l8,λ r qn qv us H1 s1 e1 n1 u1 vp=>?_⟩
 refine⟨_,U,_,U,iteF ?_⟩
 generalize hz:ps.flatMap Part.ns=zs at *
 have lz:zs.length<=16:=by
  rw[<- hz]
  exact zbb (ns_len ps) ⋯
 refine⟨_,U,r,_,_,_,U,U,SqT.of e1,U,qn,U,⟨_,SqL.of n1⟩,?_⟩
 refine qcf9 (K:=K) (a:=qn) (xs:=zs.map V.str) (λ D i H'=>Same H1 H'/\H' D=some (.lst ((zdj i true).map V.bl))) (λ D hD=>⟨qar9 hD _,qaf9⟩) (λ D i H' _ _ h=>SqL.of (h.1 _ _ n1)) ?_ ?_
 ·intro D i y H' hD hi z9;obtain⟨sD,eD⟩ := z9
  rw[zap] at hi
  cases hzi:zs[i]? with
  |none=>rw[hzi] at hi;cases hi
  |some z =>
  rw[hzi] at hi
  cases hi
  have li:=(zab.mp hzi).1
  have sH:=s1.trans sD
  refine⟨λ k v e=>?_,?_⟩
  ·match k,e with
   |0,e=>cases e
   |1,e=>exact e
   |k+2,e=>cases e
  refine⟨_,U,_,U,x,C,dx,_,_,U,sH _ _ hx,G.cl,G.nn,U,pn,_,U,.inl (SqL.of (sH _ _ hn)),U,qic9 _,?_⟩
  refine⟨_,eD,qbf9 (by simp;omega),qbl9 hD sD,?_⟩
  rw[qaf9,qqe9,dT9 (hin z (zaj hzi)),zei,zba]
  rfl
 intro D H2 hD z9;obtain⟨s2,e2⟩ := z9
 refine⟨D,_,U,SqL.of e2,?_⟩
 rw[qpx9]
 refine⟨_,U,iteF ?_⟩
 have s02:=s1.trans s2
 refine⟨_,U,r,_,_,_,U,U,SqT.of (s2 _ _ e1),U,e.w,_,.ref e.f,U,ro.ans e he,U,?_⟩
 refine⟨e.f,e.sp,zat.mpr ⟨e,he,U⟩,U,_,U,_,U,r,_,_,_,U,U,SqT.of (s2 _ _ e1),U,qn,U,⟨_,SqL.of (s2 _ _ n1)⟩,?_⟩
 refine qcf9 (K:=K) (a:=qn) (xs:=zs.map V.str) (λ D i H'=>Same H2 H'/\H' D=some (.lst ((zs.take i).map (idxV ns)))) (λ D hD=>⟨qar9 hD _,qaf9⟩) (λ D i H' _ _ h=>SqL.of (h.1 _ _ (s2 _ _ n1))) ?_ ?_
 ·intro D i y H' hD hi z9;obtain⟨sD,eD⟩ := z9
  rw[zap] at hi
  cases hzi:zs[i]? with
  |none=>rw[hzi] at hi;cases hi
  |some z =>
  rw[hzi] at hi
  cases hi
  have li:=(zab.mp hzi).1
  have sH:=s02.trans sD
  refine⟨λ k v e=>?_,?_⟩
  ·match k,e with
   |0,e=>cases e
   |1,e=>exact e
   |k+2,e=>cases e
  refine⟨_,U,x,C,dx,_,_,U,sH _ _ hx,G.cl,G.nn,U,.inl ⟨U,_,SqL.of (sH _ _ hn)⟩,_,U,pn,z,ns,U,U,SqL.of (sH _ _ hn),hin z (zaj hzi),L.le ⋯,?_⟩
  refine⟨_,eD,qbf9 (by simp;omega),qbl9 hD sD,?_⟩
  rw[qaf9,zbw,hzi,zba]
  rfl
 intro D3 H3 hD3 z9;obtain⟨s3,e3⟩ := z9
 rw[zad,zbj] at e3
 refine⟨_,U,r,_,_,_,U,U,SqT.of (s3 _ _ (s2 _ _ e1)),U,?_⟩
 have s23:=s2.trans s3
 exact q D3 qv us H3 (s1.trans s23) e3 (s23 _ _ u1) (vp.same s23)
end
theorem qmx9(fo:Fords d N F){p y:Int}:Jo d F k p t q y↔Jo d N k p t q y:=⟨λ j=>j.to λ f hf=>by
  obtain⟨x,hx,e1,e2,e3⟩:=fo.of hf
  exact⟨x,hx,e1,e2,λ t=>(e3 t).symm⟩,λ j=>j.to λ x hx=>by
  obtain⟨f',hf',a,b,c⟩:=fo.to hx
  exact⟨f',hf',a,b,c⟩⟩
theorem bt_in{y:Int}(hd:0<d)(hW:WinsR d R)(h:Ma.bt d R t=some y):t<=y/\y<=t+d+1000000000000000:=by
 obtain⟨⟨w,hw,e⟩,_⟩:=Ma.bt_min h
 obtain⟨w0,w1,w2,w3,w4⟩:=hW w hw
 have m0:=zbr t (by omega:d≠0)
 have m1:=zbk t hd
 rw[Ma.nextO_eq d _ _ t w1] at e
 split at e
 ·omega
 ·split at e<;>omega
theorem jo_in{d:Int}{M:List RdT}(hd:0<d)(d2:d<=1000000000000000)(hW:∀m∈M,WinsR d m.2.2.2):∀{k:Nat}{p t q y:Int},Jo d M k p t q y->t<=y/\y<=t+k*2000000000000000
 |0,p,t,q,y,⟨_,e⟩=>⋯
 |k+1,p,t,q,y,j=>by
  rcases j with j|⟨m,hm,_,z,hz,j⟩
  ·have:=jo_in hd d2 hW j
   omega
  ·have h1:=bt_in hd (hW m hm) hz
   have h2:=jo_in hd d2 hW j
   omega
structure BtIn(T:Hp->Prop)(C:Addr)(H:Hp)(x pl:Addr)(d:Int)(ns:List Str)(M:List RdT)(i j:Nat):Prop where
 dk:DeskAt C H x d ns M
 t:T H
 d1:1<=d
 d2:d<=1000000000000000
 rng:∀m∈M,(0<=m.1/\m.1<ns.length)/\(0<=m.2.1/\m.2.1<ns.length)/\WinsR d m.2.2.2/\m.2.2.2.length<=16
 n4:ns.length<=4
 l:M.length<=16
 pl:H pl=some (.lst [.int i,.int j])
 i:i<ns.length
 j:j<ns.length
theorem BtIn.ok{x pl:Addr}{ns:List Str}{j:Nat}(h:BtIn T C H x pl d ns M i j):NetOk d ns.length M:=⟨λ m hm=>by
 obtain⟨a,b,c,e⟩:=h.rng m hm
 exact⟨a,b,⋯,λ w hw=>⟨(c w hw).1,(c w hw).2.1,(c w hw).2.2.1,(c w hw).2.2.2.1⟩⟩⟩
structure SoonC(d:Int)(n:Nat)(M:List RdT)(i j:Nat)(R:List T3):Prop where
 ck:Ma.CK d R
 len:R.length<=1000000
 mn:∀t,Mn (λ y=>∃k,Jo d M k i t j y) (Ma.bt d R t)
 m1:∃k,k<=n-1/\∀t,Mn (Jo d M k i t j) (Ma.bt d R t)
 bd:∀t y,Ma.bt d R t=some y->t<=y/\y<=t+10000000000000000
inductive spBetw(T:Hp->Prop)(C:Addr)(vs:List V)(H:Hp)(Q:VK)(z3q:XK):Prop
 |mk (x pl:Addr) (d:Int) (ns:List Str) (M:List RdT) (i j:Nat):vs=[.ref x,.ref pl]->BtIn T C H x pl d ns M i j->(∀(rc:Addr)(R:List T3)(H':Hp),SameU H H'->T H'->LA enc3 H' rc R->SoonC d ns.length M i j R->Q (.ref rc) H')->spBetw T C vs H Q z3q
def qpc9:Option Int->Str
 |none => "never"
 |some t=>numT t
inductive spShown(vs:List V)(H:Hp)(Q:VK)(z3q:XK):Prop
 |mk (o:Option Int):vs=[optV o]->((∀t,o=some t->t.natAbs<10000000000000000000000000000000000000000))->Q (.str (qpc9 o)) H->spShown vs H Q z3q
section
variable {f:Addr}
theorem qmk9(h:t.natAbs<10000000000000000000000000000000000000000):t.natAbs.log2<1920:=by
 rcases zbq t.natAbs with z|z
 ·rw[z];decide
 ·rw[zgr ⋯]
  exact zay h (zbb (by decide +kernel:10000000000000000000000000000000000000000<=2 ^ 140) (zfo (by decide) (by decide)))
theorem ok_shownA(F:Fun K "shown" "shown" qht9 f fd)(B:Bl mg):FnOk P w K mg base CX0 (n+1) f fd ["moment"] spShown:=by
 refine F.okQ sc_shown ?_ ?_
 walk_at "o"
 obtain⟨o,rfl,hb,q⟩:=h
 refine⟨_,(qae9 (qal9 (qbt9 (qfq9 (qv 0)) qbe9 (qe_ct qbw9 U B.str_ qeu9 (qa_c (qv 0) qac9))))),?_⟩
 walk_at "d"
 cases o with
 |none=>exact⟨_,rfl,_,rfl,iteP (by rfl) q⟩
 |some t=>exact⟨_,rfl,_,rfl,iteN (by simp[optV]) ⟨_,rfl,_,rfl,qmk9 (hb t rfl),q⟩⟩
theorem ok_betw(G:DkT K C)(hTB:TB T)(F:Fun K "clock_between" "clock_between" qbq9 f fd)(B:Bl mg)(Cm2:Callee P w K mg base n "table" ["day","size","roads","goal"] (spTable T)):FnOk P w K mg base CX0 (n+1) f fd ["desk","places"] (spBetw T C):=by
 refine F.okQ qik9 ?_ ?_
 walk_at "o"
 obtain⟨x,pl,d,ns,M,i,j,rfl,b,q⟩:=h
 refine⟨_,(qae9 (qal9 (qe_ix qak9 (qe_fn Cm2 hr U (qa_c (qiy9 (qv 0)) (qa_c (qe_cb qau9 U B.len qce9 (qa_c (qiy9 (qv 0)) qac9)) (qa_c (qiy9 (qv 0)) (qa_c (qe_ix qak9 (qv 1) qad9 Y9) qac9))))) (qe_ix qak9 (qv 1) qad9 Y9) Y9))),?_⟩
 walk_at "d"
 obtain⟨dx,pn,pr,hx,hn,hM⟩:=b.dk.ex
 have nok:=b.ok
 have hd:0<d:=by have:=b.d1;omega
 have lM:=b.l
 have n4:=b.n4
 have hi:=b.i
 have hj:=b.j
 have few:∀y∈M,4*y.2.2.2.length+2<=66:=λ y hy=>by
  have:=(b.rng y hy).2.2.2
  omega
 have a0:atI [V.int (i:Int),V.int (j:Int)] 0=some (.int i):=rfl
 have a1:atI [V.int (i:Int),V.int (j:Int)] 1=some (.int j):=rfl
 refine⟨_,U,x,C,dx,_,_,U,hx,G.cl,G.nd,U,_,U,x,C,dx,_,_,U,hx,G.cl,G.nn,U,pn,_,U,.inl (SqL.of hn),_,U,x,C,dx,_,_,U,hx,G.cl,G.nr,U,_,U,pl,_,_,_,U,U,SqL.of b.pl,a1,?_⟩
 refine⟨d,ns.length,pr,M,j,66,by simp,hM,b.t,hd,nok,⋯,⋯,⋯,few,few16 ⋯ n4,⋯,⋯,λ l Fs Ts Ct H1 u1 t1 fo lT ok hC hB _ _=>?_⟩
 have fok:=fo.ok nok few
 obtain⟨lC,tok⟩:=ok.each _ Ct hC
 obtain⟨rs,rc,r1,r2,r3,r4,r5⟩:=hB.at (i:=(i:Int)) ⋯ ⋯
 refine⟨_,U,pl,_,_,_,U,U,SqL.of (u1.lst b.pl),a0,l,_,_,_,U,U,SqL.of r1,r2,?_⟩
 have mur:=tok _ (cl_mem (show(0:Int)<=i by omega) ⋯)
 have mnk:=λ t=>(ok.mn hd fok hC (i:Int) ⋯ ⋯ t).congr λ y=>qmx9 fo
 refine q rc (cl Ct i) H1 u1 t1 r5 ⟨mur.1,?_,λ t=>(ok.all hd fok hC (i:Int) ⋯ ⋯ t).congr λ y=>⟨λ⟨k,h⟩=>⟨k,(qmx9 fo).mp h⟩,λ⟨k,h⟩=>⟨k,(qmx9 fo).mpr h⟩⟩,⟨_,⋯,mnk⟩,λ t y e=>?_⟩
 ·have h1:=mur.len
  have h2:=big16 (f:=Fs.length) (n:=4) (k:=ns.length-1) (by rw[fo.1];omega) ⋯ ⋯
  omega
 ·have h1:=jo_in hd b.d2 (λ m hm=>(b.rng m hm).2.2.1) ((mnk t).1 y e).1
  omega
inductive spSoon(T:Hp->Prop)(C:Addr)(vs:List V)(H:Hp)(Q:VK)(z3q:XK):Prop
 |mk (x pl pv:Addr) (d:Int) (ns:List Str) (M:List RdT) (i j:Nat) (t:Int):vs=[.ref x,.ref pl,.ref pv]->BtIn T C H x pl d ns M i j->H pv=some (.lst [.int t])->(Part.moment t).ok 0->(∀(o:Option Int)(H':Hp),SameU H H'->T H'->Mn (λ y=>∃k,Jo d M k i t j y) o->(∃k,k<=ns.length-1/\Mn (Jo d M k i t j) o)->(∀y,o=some y->y.natAbs<10000000000000000000000000000000000000000)->Q (.str (qpc9 o)) H')->spSoon T C vs H Q z3q
inductive spNetRow(C:Addr)(vs:List V)(H:Hp)(Q:VK)(z3q:XK):Prop
 |mk (x pl pv:Addr) (d:Int) (ns:List Str) (M:List RdT):vs=[.ref x,.ref pl,.ref pv]->DeskAt C H x d ns M->Sm d->NetTx ns M->(∀H',Same H H'->Q (.str (netT d ns M)) H')->spNetRow C vs H Q z3q
theorem ok_soon(G:DkT K C)(F:Fun K "soonest_row" "soonest_row" qbv9 f fd)(Cy0:Callee P w K mg base n "shown" ["moment"] spShown)(Ca2:Callee P w K mg base n "come" ["day","clock","t"] (spComeT T))(Cc0:Callee P w K mg base n "clock_between" ["desk","places"] (spBetw T C)):FnOk P w K mg base CX0 (n+1) f fd ["desk","places","values"] (spSoon T C):=by
 refine F.okQ qkl9 ?_ ?_
 walk_at "o"
 obtain⟨x,pl,pv,d,ns,M,i,j,t,rfl,b,hv,ht,q⟩:=h
 refine⟨_,(qae9 (qal9 (qe_fn Cy0 hr U (qa_c (qe_fn Ca2 hr U (qa_c (qiy9 (qv 0)) (qa_c (qe_fn Cc0 hr U (qa_c (qv 0) (qa_c (qv 1) qac9))) (qa_c (qe_ix qak9 (qv 2) qad9 Y9) qac9)))) qac9)))),?_⟩
 walk_at "d"
 obtain⟨dx,pn,pr,hx,hn,hM⟩:=b.dk.ex
 refine⟨_,U,x,C,dx,_,_,U,hx,G.cl,G.nd,U,_,U,_,U,x,pl,d,ns,M,i,j,U,b,λ rc R H1 u1 t1 la sc=>?_⟩
 have bd:∀y,Ma.bt d R t=some y->y.natAbs<10000000000000000000000000000000000000000:=λ y e=>by
  have:=sc.bd t y e
  have h1:=ht.1
  have h2:=ht.2
  omega
 refine⟨_,U,pv,_,_,_,U,U,SqL.of (u1.lst hv),(rfl:atI [V.int t] 0=_),d,rc,t,R,U,la,t1,sc.ck,λ H2 u2 t2=>?_⟩
 exact⟨_,U,bd,q _ H2 (u1.trans u2) t2 (sc.mn t) ⟨_,sc.m1.choose_spec.1,sc.m1.choose_spec.2 t⟩ bd⟩
theorem ok_netrow(G:DkT K C)(F:Fun K "net_row" "net_row" qep9 f fd)(Cw1:Callee P w K mg base n "show_net" ["day","names","roads"] spShowN):FnOk P w K mg base CX0 (n+1) f fd ["desk","places","values"] (spNetRow C):=by
 refine F.okQ qqa9 ?_ ?_
 walk_at "o"
 obtain⟨x,pl,pv,d,ns,M,rfl,dk,sd,nt,q⟩:=h
 refine⟨_,(qae9 (qal9 (qe_fn Cw1 hr U (qa_c (qiy9 (qv 0)) (qa_c (qiy9 (qv 0)) (qa_c (qiy9 (qv 0)) qac9)))))),?_⟩
 walk_at "d"
 obtain⟨dx,pn,pr,hx,hn,hM⟩:=dk.ex
 exact⟨_,U,x,C,dx,_,_,U,hx,G.cl,G.nd,U,_,U,x,C,dx,_,_,U,hx,G.cl,G.nn,U,_,U,x,C,dx,_,_,U,hx,G.cl,G.nr,U,d,pn,pr,ns,M,U,sd,hn,hM,nt,q⟩
end
def kdObj(P:Params)(kvs:List (Str×Tok×Value))(ep:Nat):Obj:=⟨.type "dict",none,.dict (kvs.map λ q=>(⟨PyData.keyHash P q.1,.str q.1 q.2.1,q.2.2⟩:DictEntry)).toArray ep,#[]⟩
def isS(k:Str):Value->Bool
 | .str x _=>decide (k=x)
 |_=>false
def strsB:List Str->List Value->Bool
 | [],[]=>true
 |k::ks,u::us=>isS k u&&strsB ks us
 |_,_=>false
theorem qln9:∀(ks:List Str)(us:List Value),strsB ks us=true->Vals (ks.map V.str) us
 | [],[],_=>.nil
 | [],_::_,h=>by cases h
 |_::_,[],h=>by cases h
 |k::ks,u::us,h=>by
  unfold strsB at h
  rw[zbu] at h
  refine .cons ?_ (qln9 ks us h.2)
  have h1:=h.1
  unfold isS at h1
  split at h1
  ·rw[oT9 h1]
   exact⟨_,U⟩
  ·cases h1
def seqD:Data->Option (Array Value×Nat)
 | .seq a n=>some (a,n)
 |_=>none
def tupB(K:W.Frag)(ta:Addr)(ks:List Str):Bool:=match K.lookup ta with
 |some o=>decide (o.cls=.type "tuple")&&(match seqD o.data with
  |some (its,_)=>strsB ks its.toList&&decide (its.size<=8)
  |none=>false)
 |none=>false
theorem tupB_sq{ta:Addr}{ks:List Str}(h:tupB K ta ks=true)(H:Hp):SqT K H ta (ks.map V.str):=by
 unfold tupB at h
 split at h
 ·rename_i o e
  rw[zbu] at h
  obtain⟨h1,h2⟩:=h
  split at h2
  ·rename_i its n e2
   rw[zbu] at h2
   refine .inr ⟨o,its,n,e,oT9 h1,?_,zbb (oT9 h2.2) (by decide),qln9 _ _ h2.1⟩
   unfold seqD at e2
   split at e2
   ·cases e2
    assumption
   ·cases e2
  ·cases h2
 ·cases h
def wordB(w:Str):Bool:=decide (w≠"meet")&&decide (32∉w.cps.toList)&&decide (w.length<=10)
theorem qnt9{w:Str}{ta:Addr}{ks:List Str}(h1:kdVal kvS w=some (.ref ta))(h2:tupB K ta ks=true)(h3:wordB w=true):RowT K kvS w ta ks:=by
 unfold wordB at h3
 simp only[zbu,decide_eq_true_eq] at h3
 exact⟨h1,tupB_sq h2,h3.1.1,h3.1.2,h3.2⟩
theorem ro_of{P:Params}{aS aA:Addr}{kvA:List (Str×Tok×Value)}{R:List RowE}(_:KDict K P aS kvS)(_:KDict K P aA kvA)(h:RowsOk K kvS kvA R):RowsOk K kvS kvA R:=h
def lettersT:Str := "abcdefghijklmnopqrstuvwxyz"
theorem qrm9(h0:0<=j)(h1:j<26):atI lettersT.cps.toList j=some (97+j.toNat):=by
 obtain⟨k,rfl⟩:=zcu h0
 have all:∀k:Fin 26,lettersT.cps.toList[k.val]?=some (97+k.val):=by decide +kernel
 exact qea9 (all ⟨k,⋯⟩)
def lowS(x:Str):Prop:=∀c∈x.cps.toList,97<=c/\c<=122
theorem lowS.app(h:lowS x)(h':lowS y):lowS (x++y):=λ c hc=>by
 rcases app_mem.mp hc with hc|hc
 ·exact h c hc
 ·exact h' c hc
theorem lowS.one(h:0<=j/\j<26):lowS ⟨#[97+j.toNat]⟩:=λ d hd=>by
 have hd:d∈[97+j.toNat]:=hd
 rw[zag] at hd
 omega
def nmB(c:Int)(x y:Str)(k:Nat):Str:=x++(⟨#[97+((c/20+7*(k:Int))%26).toNat]⟩:Str)++y
theorem nmB_inj{c:Int}{j:Nat}(hi:i<4)(hj:j<4)(h:nmB c x y i=nmB c x y j):i=j:=by
 have e:=congrArg (λ s:Str=>s.cps.toList) h
 simp only[nmB,qiv9] at e
 have e2:=zfe (List.append_cancel_right e)
 have e3:97+((c/20+7*(i:Int))%26).toNat=97+((c/20+7*(j:Int))%26).toNat:=by simpa using e2
 omega
theorem nmB_nodup{c:Int}(h:n<=4):((zcz n).map (nmB c x y)).Nodup:=by
 refine zdm.mpr λ i j hi hj hij e=>?_
 simp only[zad,List.length_range] at hi hj
 simp only[List.getElem_map,List.getElem_range] at e
 have:=nmB_inj ⋯ ⋯ e
 omega
inductive spNamesB(vs:List V)(H:Hp)(Q:VK)(z3q:XK):Prop
 |mk (cell:Int) (n:Nat):vs=[.int cell,.int n]->n<=4->(∀(l:Addr)(xs:List Str)(H':Hp),Same H H'->H' l=some (.lst (xs.map V.str))->xs.length=n->(∀x∈xs,Low x)->xs.Nodup->Q (.ref l) H')->spNamesB vs H Q z3q
section
variable {f:Addr}
theorem ok_namesB(F:Fun K "_law_names" "_law_names" qcx9 f fd)(B:Bl mg):FnOk P w K mg base CX0 (n+1) f fd ["cell","size"] spNamesB:=by
 refine F.okQ sc__law_names ?_ ?_
 walk_at "o"
 obtain⟨cell,sz,rfl,m1,q⟩:=h
 refine⟨_,(qab9 (qai9 (i:=2) sc__law_names.nd U (zcr U) qbe9) (qab9 (qai9 (i:=3) sc__law_names.nd U (zaf U) (qe_op qay9 (qe_op qfy9 (qv 0) qad9) qad9)) (qab9 (qai9 (i:=4) sc__law_names.nd U (zcr U) qbe9) (qab9 (qfk9 PassesOwn.never U (qfp9 U B.range (qa_c (qe_op qay9 (qv 0) qad9) qac9)) (qam9 (i:=5) sc__law_names.nd U (zaf U)) (qae9 (qai9 (i:=4) sc__law_names.nd U (zcr U) (qe_op qav9 (qv 4) (qe_ix qjm9 (qv 2) (qe_op qay9 (qe_op qbd9 (qv 3) (qe_op qas9 qad9 (qe_op qfy9 qad9 (qv 5)))) qad9) Y9))))) (qab9 (qai9 (i:=6) sc__law_names.nd U (zcr U) qbe9) (qab9 (qfk9 PassesOwn.never U (qfp9 U B.range (qa_c (qe_op qay9 (qe_op qbd9 (qv 0) qad9) qad9) qac9)) (qam9 (i:=5) sc__law_names.nd U (zaf U)) (qae9 (qai9 (i:=6) sc__law_names.nd U (zcr U) (qe_op qav9 (qv 6) (qe_ix qjm9 (qv 2) (qe_op qay9 (qe_op qbd9 (qv 3) (qe_op qas9 qad9 (qe_op qfy9 qad9 (qv 5)))) qad9) Y9))))) (qae9 (qal9 (qer9 ["p","cell","some","ahead","beyond"] [none,some 0,some 2,some 4,some 6] (BlkOk.of U U (SubL.to (subC U (subC U (subC U (subC U subN))))) U) U (qfp9 U B.range (qa_c (qv 1) qac9)) (λ _ _ _ _=>(qam9 (i:=0) (show(["p","cell","some","ahead","beyond"]:List Str).Nodup by decide) U (zaf U))) (λ _ _ _ _=>(qe_op qav9 (qe_op qav9 (qv 3) (qe_ix qjm9 (qv 2) (qe_op qay9 (qe_op qas9 (qe_op qbd9 (qv 1) qad9) (qe_op qfy9 qad9 (qv 0))) qad9) Y9)) (qv 4)))))))))))),?_⟩
 walk_at "d"
 have z4:=qet9 cell (show(0:Int)<4 by decide)
 have z5:=qet9 (cell/4) (show(0:Int)<5 by decide)
 have zm:=qet9 (cell*1664525013) (show(0:Int)<2147483629 by decide)
 refine⟨_,U,_,_,U,U,.inr ⟨by decide,by decide⟩,_,_,U,U,(by show(0:Int)<2147483629;decide),?_⟩
 dsimp only
 generalize cell*1664525013%2147483629=mixed at *
 have ll:lettersT.length=26:=by decide +kernel
 refine⟨_,U,_,_,U,U,(by show(0:Int)<4;decide),cell%4,U,⋯,⋯,qgz9 (lo:=0) (n:=(cell%4).toNat)
  (λ i σ H'=>H'=H/\∃(x:Str)(v5 v6 v7:Option V),σ=[some (.int cell),some (.int sz),some (.str lettersT),some (.int mixed),some (.str x),v5,v6]/\x.length=i/\lowS x)
  ⟨rfl,zcd,_,_,none,rfl,rfl,λ c hc=>by cases hc⟩ ?_ ?_⟩
 ·intro i σ H' hi z9;obtain⟨rfl,x,v5,v6,v7,rfl,xl,xo⟩ := z9
  rw[show(0:Int)+((i:Nat):Int)=(i:Int) by omega]
  have e26:=qet9 (mixed/(1+26*(i:Int))) (show(0:Int)<26 by decide)
  have hc:=qrm9 e26.1 e26.2
  have p1:(0:Int)<1+26*(i:Int):=⋯
  refine⟨_,U,_,U,_,U,_,U,_,_,U,U,.inl ⟨by decide,by decide⟩,_,_,U,U,_,_,U,U,⟨p1,⋯⟩,_,_,U,U,(by show(0:Int)<26;decide),_,_,_,U,U,L.le (by rw[ll];omega),hc,_,_,U,U,L.le (by show x.length+1<=_;omega),?_⟩
  refine⟨U,_,_,_,none,U,?_,xo.app (lowS.one e26)⟩
  rw[zac,xl]
  rfl
 intro σ H' z9;obtain⟨rfl,ah,v5,v6,v7,rfl,al,ao⟩ := z9
 refine⟨_,U,_,_,U,U,⟨by decide,by decide⟩,_,_,U,U,(by show(0:Int)<5;decide),cell/4%5,U,⋯,⋯,qgz9 (lo:=0) (n:=(cell/4%5).toNat)
  (λ i σ H2=>H2=H'/\∃(x:Str)(v5:Option V),σ=[some (.int cell),some (.int sz),some (.str lettersT),some (.int mixed),some (.str ah),v5,some (.str x)]/\x.length=i/\lowS x)
  ⟨rfl,zcd,_,rfl,rfl,λ c hc=>by cases hc⟩ ?_ ?_⟩
 ·intro i σ H2 hi z9;obtain⟨rfl,x,v5,rfl,xl,xo⟩ := z9
  rw[show(0:Int)+((i:Nat):Int)=(i:Int) by omega]
  have e26:=qet9 (mixed/(3+31*(i:Int))) (show(0:Int)<26 by decide)
  have hc:=qrm9 e26.1 e26.2
  have p1:(0:Int)<3+31*(i:Int):=⋯
  refine⟨_,U,_,U,_,U,_,U,_,_,U,U,.inl ⟨by decide,by decide⟩,_,_,U,U,_,_,U,U,⟨p1,⋯⟩,_,_,U,U,(by show(0:Int)<26;decide),_,_,_,U,U,L.le (by rw[ll];omega),hc,_,_,U,U,L.le (by show x.length+1<=_;omega),?_⟩
  refine⟨U,_,_,U,?_,xo.app (lowS.one e26)⟩
  rw[zac,xl]
  rfl
 intro σ H2 z9;obtain⟨rfl,be,v5,rfl,bl,bo⟩ := z9
 have low:∀k:Nat,Low (nmB cell ah be k):=λ k=>by
  have e26:=qet9 (cell/20+7*(k:Int)) (show(0:Int)<26 by decide)
  have ln:(nmB cell ah be k).length=ah.length+1+be.length:=by
   unfold nmB
   rw[zac,zac]
   rfl
  exact⟨(ao.app (lowS.one e26)).app bo,⋯,⋯⟩
 refine⟨_,U,(sz:Int),U,⋯,⋯,?_⟩
 refine qjn9 (lo:=0) (n:=((sz:Nat):Int).toNat) (λ D i H'=>Same H2 H'/\H' D=some (.lst (((zcz i).map (nmB cell ah be)).map V.str))) (λ D hD=>⟨qar9 hD _,qaf9⟩) ?_ ?_
 ·intro D i H' hD hi z9;obtain⟨sD,eD⟩ := z9
  rw[show(0:Int)+((i:Nat):Int)=(i:Int) by omega]
  refine⟨λ k v e=>?_,?_⟩
  ·match k,e with
   |0,e=>cases e
   |k+1,e=>exact e
  have e26:=qet9 (cell/20+7*(i:Int)) (show(0:Int)<26 by decide)
  have hc:=qrm9 e26.1 e26.2
  refine⟨_,U,_,U,_,U,_,_,U,U,⟨by decide,by decide⟩,_,U,_,_,U,U,.inl ⟨by decide,by decide⟩,_,_,U,U,_,_,U,U,(by show(0:Int)<26;decide),_,_,_,U,U,L.le (by rw[ll];omega),hc,_,_,U,U,L.le (by show ah.length+1<=_;omega),_,U,_,_,U,U,L.le (by rw[zac];show ah.length+1+be.length<=_;omega),?_⟩
  refine⟨_,eD,qbf9 (by simp;omega),qbl9 hD sD,?_⟩
  rw[qaf9,zft,zba,zba]
  rfl
 ·intro D H' hD z9;obtain⟨sD,eD⟩ := z9
  rw[show((sz:Nat):Int).toNat=sz by omega] at eD
  refine q D _ H' sD eD (by simp) (λ x hx=>?_) (nmB_nodup m1)
  obtain⟨k,_,rfl⟩:=zat.mp hx
  exact low k
theorem qhz9(sep:Str):∀(rest:List Str)(x:Str),zci sep (x::rest)=rest.foldl (λ acc p=>acc++sep++p) x:=by
 intro rest
 induction rest with
 |nil=>intro x;rfl
 |cons y r ih =>
  intro x
  rw[zcq,<- ih (x++sep++y),StrLaws.join_shift]
  rfl
def rdS(names:List Str)(m:RdT):RoadS:=(nmT names m.1,nmT names m.2.1,m.2.2.2)
def wStep(acc:Str)(w:T3):Str:=acc++" "++winT w
def rStep(names:List Str)(acc:Str)(m:RdT):Str:=m.2.2.2.foldl wStep (acc++"; "++nmT names m.1++">"++nmT names m.2.1)
theorem qmz9{α:Type}(g:α->Str)(sep:Str):∀(l:List α)(x y:Str),l.foldl (λ acc p=>acc++sep++g p) (x++y)=x++l.foldl (λ acc p=>acc++sep++g p) y
 | [],x,y=>rfl
 |p::l,x,y=>by
  rw[zcq,zcq,<- qmz9 g sep l x (y++sep++g p)]
  simp only[zeg]
theorem rStep_eq(names:List Str)(acc:Str)(m:RdT):rStep names acc m=acc++"; "++rdT (rdS names m):=by
 unfold rStep rdT rdS
 rw[qio9,qhz9,zga]
 have e:wStep=λ acc w=>acc++" "++winT w:=rfl
 rw[e,<- qmz9 winT " "]
 simp only[zeg]
theorem netS_eq(day:Int)(names:List Str)(N:List RdT):N.foldl (rStep names) ("day "++numT day)=netS day (N.map (rdS names)):=by
 have e:rStep names=λ acc m=>acc++"; "++rdT (rdS names m):=by
  funext acc m
  exact rStep_eq names acc m
 unfold netS
 rw[qhz9,zga,zga,e]
theorem qoa9:∀(R:List T3)(acc:Str),SmW R->(R.foldl wStep acc).length<=acc.length+51*R.length
 | [],acc,_=>by simp
 |w::R,acc,h=>by
  have h1:=qoa9 R (wStep acc w) λ x hx=>h x (zai _ hx)
  have h2:=qhp9 (h w (zan ..))
  have e1:(" ":Str).length=1:=by decide
  have h3:(wStep acc w).length=acc.length+1+(winT w).length:=by
   unfold wStep
   simp only[zac,e1]
  rw[zcq,zbg]
  omega
inductive spWinTx(vs:List V)(H:Hp)(Q:VK)(z3q:XK):Prop
 |mk (r:Addr) (x:T3):vs=[.ref r]->H r=some (.tup (enc3 x))->x.1<=x.2.1->Sm x.1->Sm x.2.1->Sm x.2.2->Q (.str (winT x)) H->spWinTx vs H Q z3q
inductive spTextB(vs:List V)(H:Hp)(Q:VK)(z3q:XK):Prop
 |mk (day:Int) (pn pr:Addr) (names:List Str) (N:List RdT):vs=[.int day,.ref pn,.ref pr]->Sm day->H pn=some (.lst (names.map V.str))->NA H pr N->NetTx names N->((∀m∈N,∀x∈m.2.2.2,x.1<=x.2.1))->Q (.str (netS day (N.map (rdS names)))) H->spTextB vs H Q z3q
theorem ok_winTx(F:Fun K "_law_window_text" "_law_window_text" qbk9 f fd)(B:Bl mg):FnOk P w K mg base CX0 (n+1) f fd ["window"] spWinTx:=by
 refine F.okQ sc__law_window_text ?_ ?_
 walk_at "o"
 obtain⟨r,⟨a,b,c⟩,rfl,er,hab,sa,sb,sc,q⟩:=h
 refine⟨_,(qab9 (qqd9 (qv 0) (qgx9 U (qaq9 (qam9 (i:=1) sc__law_window_text.nd U (zaf U)) (qaq9 (qam9 (i:=2) sc__law_window_text.nd U (zaf U)) (qaq9 (qam9 (i:=3) sc__law_window_text.nd U (zaf U)) qdz9))))) (qab9 (qs_if (qaj9 qbr9 (qv 1) (qv 2) (qat9 _)) (qae9 (qal9 (qe_op qav9 (qe_op qav9 (qe_ct qbw9 U B.str_ qeu9 (qa_c (qv 1) qac9)) qbe9) (qe_ct qbw9 U B.str_ qeu9 (qa_c (qv 3) qac9))))) qao9) (qae9 (qal9 (qe_op qav9 (qe_op qav9 (qe_op qav9 (qe_op qav9 (qe_ct qbw9 U B.str_ qeu9 (qa_c (qv 1) qac9)) qbe9) (qe_ct qbw9 U B.str_ qeu9 (qa_c (qv 2) qac9))) qbe9) (qe_ct qbw9 U B.str_ qeu9 (qa_c (qv 3) qac9))))))),?_⟩
 walk_at "d"
 dsimp only at *
 have k1:=sa.len
 have k2:=sb.len
 have k3:=sc.len
 have e5:("-":Str).length=1:=by decide
 have e6:("+":Str).length=1:=by decide
 refine⟨_,U,r,_,U,SqT.of er,U,_,_,U,_,_,U,_,_,U,U,?_⟩
 refine⟨_,U,_,U,U,_,U,ite2 (λ y=>?_) (λ y=>?_)⟩
 ·have e:a=b:=by
   have:=oT9 y
   injection this
  have ew:winT (a,b,c)=numT a++"+"++numT c:=by
   unfold winT
   rw[if_neg (by show ¬a<b;omega),zcy]
  rw[ew] at q
  exact⟨_,U,_,U,sa.log,_,_,U,U,L.le (by simp only[e6];omega),_,U,_,U,sc.log,_,_,U,U,L.le (by simp only[zac,e6];omega),q⟩
 ·have e:a<b:=by
   rcases Int.lt_or_eq_of_le hab with h|h
   ·exact h
   ·exact absurd (dT9 (by rw[h])) y
  have ew:winT (a,b,c)=numT a++"-"++numT b++"+"++numT c:=by
   unfold winT
   rw[if_pos (by exact e),zcy]
  rw[ew] at q
  exact⟨_,U,_,U,sa.log,_,_,U,U,L.le (by simp only[e5];omega),_,U,_,U,sb.log,_,_,U,U,L.le (by simp only[zac,e5];omega),_,_,U,U,L.le (by simp only[zac,e5,e6];omega),_,U,_,U,sc.log,_,_,U,U,L.le (by simp only[zac,e5,e6];omega),q⟩
theorem ok_textB(F:Fun K "_law_text" "_law_text" qdp9 f fd)(B:Bl mg)(Ce2:Callee P w K mg base n "_law_window_text" ["window"] spWinTx):FnOk P w K mg base CX0 (n+1) f fd ["day","names","roads"] spTextB:=by
 refine F.okQ sc__law_text ?_ ?_
 walk_at "o"
 obtain⟨day,pn,pr,names,N,rfl,hd,hn,hN,hok,hab,q⟩:=h
 refine⟨_,(qab9 (qai9 (i:=3) sc__law_text.nd U (zaf U) (qe_op qav9 qbe9 (qe_ct qbw9 U B.str_ qeu9 (qa_c (qv 0) qac9)))) (qab9 (qfk9 PassesOwn.never U (qcp9 (qv 2)) (qgx9 U (qaq9 (qam9 (i:=4) sc__law_text.nd U (zaf U)) (qaq9 (qam9 (i:=5) sc__law_text.nd U (zaf U)) (qaq9 (qam9 (i:=6) sc__law_text.nd U (zaf U)) qdz9)))) (qab9 (qai9 (i:=3) sc__law_text.nd U (zaf U) (qe_op qav9 (qe_op qav9 (qe_op qav9 (qe_op qav9 (qv 3) qbe9) (qe_ix qak9 (qv 1) (qv 4) Y9)) qbe9) (qe_ix qak9 (qv 1) (qv 5) Y9))) (qae9 (qfk9 PassesOwn.never U (qcp9 (qv 6)) (qam9 (i:=7) sc__law_text.nd U (zaf U)) (qae9 (qai9 (i:=3) sc__law_text.nd U (zaf U) (qe_op qav9 (qe_op qav9 (qv 3) qbe9) (qe_fn Ce2 hr U (qa_c (qv 7) qac9))))))))) (qae9 (qal9 (qv 3))))),?_⟩
 walk_at "d"
 have h1:(numT day).length<=16:=hd.len
 have h1':=hd.len
 have e1:("day ":Str).length=4:=by decide
 have e2:("; ":Str).length=2:=by decide
 have e3:(">":Str).length=1:=by decide
 have e4:(" ":Str).length=1:=by decide
 have nf:=hok.few
 refine⟨_,U,_,U,hd.log,_,_,U,U,L.le (by rw[e1];omega),?_⟩
 obtain⟨ws,hw1,hw2,hw3⟩:=hN.la.lst
 rw[zad] at hw2
 refine⟨_,U,pr,U,⟨_,SqL.of hw1⟩,qdy9 (K:=K) (a:=pr) (xs:=ws)
  (λ i σ H'=>H'=H/\(∃v1 v2 v3 v4:Option V,σ=[some (.int day),some (.ref pn),some (.ref pr),some (.str ((N.take i).foldl (rStep names) ("day "++numT day))),v1,v2,v3,v4])/\((N.take i).foldl (rStep names) ("day "++numT day)).length<=20+5500*i)
  ⟨rfl,⟨_,_,_,_,rfl⟩,by simp only[List.take_zero,zgb,zac,e1];omega⟩ (λ i σ H' _ h=>by rw[h.1];exact SqL.of hw1) ?_ ?_⟩
 ·intro i y σ H' hi z9;obtain⟨rfl,⟨v1,v2,v3,v4,rfl⟩,hlen⟩ := z9
  obtain⟨r,x,rfl,ex,er⟩:=hw3 i y hi
  have hi2:i<N.length:=by
   have:=(zab.mp hi).1
   omega
  have em:=zaa hi2
  rw[zap,em] at ex
  cases ex
  have et:N.take (i+1)=N.take i++[N[i]]:=by rw[zbw,em];rfl
  obtain⟨m1,m2,m3,m4,m5,m6⟩:=hok.rd _ (zbi hi2)
  have hb:=(hN.bd _ (zbi hi2)).1
  have hab':=hab _ (zbi hi2)
  rw[et,zdl,zcq,zgb]
  generalize hm:N[i]=m at *
  generalize (N.take i).foldl (rStep names) ("day "++numT day)=acc at *
  have l1:=qog9 hok.nm m.1
  have l2:=qog9 hok.nm m.2.1
  have er:H' r=some (.tup [.int m.1,.int m.2.1,.ref m.2.2.1]):=er
  refine⟨r,_,U,SqT.of er,U,_,_,U,_,_,U,_,_,U,U,?_⟩
  refine⟨_,U,_,_,U,U,L.le (by rw[e2];omega),_,U,_,U,pn,_,_,_,U,U,SqL.of hn,at_nm m1 m2,_,_,U,U,L.le (by simp only[zac,e2];omega),_,_,U,U,L.le (by simp only[zac,e2,e3];omega),_,U,_,U,pn,_,_,_,U,U,SqL.of hn,at_nm m3 m4,_,_,U,U,L.le (by simp only[zac,e2,e3];omega),?_⟩
  have al:(acc++"; "++nmT names m.1++">"++nmT names m.2.1).length<=300+5500*i:=by simp only[zac,e2,e3];omega
  unfold rStep
  have fl:=qoa9 m.2.2.2 (acc++"; "++nmT names m.1++">"++nmT names m.2.1) m5
  generalize acc++"; "++nmT names m.1++">"++nmT names m.2.1=ac at *
  obtain⟨bs,hb1,hb2,hb3⟩:=hb.lst
  refine⟨_,U,m.2.2.1,U,⟨_,SqL.of hb1⟩,qdy9 (K:=K) (a:=m.2.2.1) (xs:=bs)
   (λ j σ H''=>H''=H'/\(∃v4:Option V,σ=[some (.int day),some (.ref pn),some (.ref pr),some (.str ((m.2.2.2.take j).foldl wStep ac)),some (.int m.1),some (.int m.2.1),some (.ref m.2.2.1),v4])/\((m.2.2.2.take j).foldl wStep ac).length<=ac.length+51*j)
   ⟨rfl,⟨_,rfl⟩,by simp⟩ (λ i σ H'' _ h=>by rw[h.1];exact SqL.of hb1) ?_ ?_⟩
  ·intro j z σ H'' hj z9;obtain⟨rfl,⟨v4,rfl⟩,hlj⟩ := z9
   obtain⟨r2,x,rfl,ex,er2⟩:=hb3 j z hj
   have et2:m.2.2.2.take (j+1)=m.2.2.2.take j++[x]:=by rw[zbw,ex];rfl
   have jl:=(zab.mp ex).1
   have sm:=m5 _ (zaj ex)
   have wl:=qhp9 sm
   rw[et2,zdl,zcq,zgb]
   generalize (m.2.2.2.take j).foldl wStep ac=tx at *
   refine⟨_,U,_,_,U,U,L.le (by rw[e4];omega),_,U,r2,x,U,er2,hab' x (zaj ex),sm.1,sm.2.1,sm.2.2,_,_,U,U,L.le (by simp only[zac,e4];omega),?_⟩
   exact⟨U,⟨_,U⟩,by show(tx++" "++winT x).length<=_;simp only[zac,e4];omega⟩
  ·intro σ H'' z9;obtain⟨rfl,⟨v4,rfl⟩,hlj⟩ := z9
   rw[hb2,zbj]
   exact⟨U,⟨_,_,_,_,U⟩,⋯⟩
 ·intro σ H' z9;obtain⟨rfl,⟨v1,v2,v3,v4,rfl⟩,hlen⟩ := z9
  rw[hw2,zbj,netS_eq]
  exact⟨_,U,q⟩
theorem qnn9{x:Int}{ns:List Int}:inV (.int x) (ns.map V.int)=decide (x∈ns):=by
 unfold inV
 rw[zbz,zdv,decide_eq_true_iff]
 constructor
 ·intro z9;obtain⟨y,hy,e⟩ := z9
  obtain⟨z,hz,rfl⟩:=zat.mp hy
  have:z=x:=by simpa [eqV] using e
  exact this ▸ hz
 ·intro h
  exact⟨.int x,zat.mpr ⟨x,h,U⟩,by simp[eqV]⟩
theorem qid9(ns:List Int):(ns.map V.int).all flatV=true:=by
 rw[zbh]
 intro y hy
 obtain⟨z,_,rfl⟩:=zat.mp hy
 rfl
def OnRd(N:List RdT)(x:Int):Prop:=∃m∈N,x=m.1\/x=m.2.1
inductive spEndsB(vs:List V)(H:Hp)(Q:VK)(z3q:XK):Prop
 |mk (pr:Addr) (N:List RdT) (goal cell:Int):vs=[.ref pr,.int goal,.int cell]->NA H pr N->N≠[]->N.length<=100->((∀m∈N,0<=m.1/\m.1<100/\0<=m.2.1/\m.2.1<100))->(∀(r:Addr)(p g:Int)(H':Hp),Same H H'->H' r=some (.tup [.int p,.int g])->OnRd N p->OnRd N g->Q (.ref r) H')->spEndsB vs H Q z3q
inductive spNumberB(vs:List V)(H:Hp)(Q:VK)(z3q:XK):Prop
 |mk (t:Int):vs=[.str (numT t)]->t.natAbs<10000000000000000000000000000000000000000->Q (.int t) H->spNumberB vs H Q z3q
theorem ok_endsB(F:Fun K "_law_ends" "_law_ends" qdq9 f fd)(B:Bl mg):FnOk P w K mg base CX0 (n+1) f fd ["roads","goal","cell"] spEndsB:=by
 refine F.okQ sc__law_ends ?_ ?_
 walk_at "o"
 obtain⟨pr,N,goal,cell,rfl,hN,n0,nl,rng,q⟩:=h
 refine⟨_,(qab9 (qai9 (i:=3) sc__law_ends.nd U (zaf U) (qdh9 qac9)) (qab9 (qfk9 PassesOwn.never U (qcp9 (qv 0)) (qgx9 U (qaq9 (qam9 (i:=4) sc__law_ends.nd U (zaf U)) (qaq9 (qam9 (i:=5) sc__law_ends.nd U (zaf U)) (qaq9 (qam9 (i:=6) sc__law_ends.nd U (zaf U)) qdz9)))) (qeq9 (qs_if (qaj9 qhc9 (qv 4) (qv 3) U) (qae9 (qbm9 (qbh9 (qv 3) (qa_c (qv 4) qac9)))) qao9) (qae9 (qs_if (qaj9 qhc9 (qv 5) (qv 3) U) (qae9 (qbm9 (qbh9 (qv 3) (qa_c (qv 5) qac9)))) qao9)))) (qab9 (qai9 (i:=7) sc__law_ends.nd U (zaf U) (qe_ix qak9 (qv 3) (qe_op qay9 (qe_op qbd9 (qv 2) qad9) (qe_cb qau9 U B.len qce9 (qa_c (qv 3) qac9))) Y9)) (qeq9 (qs_if (qaj9 qhc9 (qv 1) (qv 3) U) (qae9 (qai9 (i:=1) sc__law_ends.nd U (zaf U) (qe_ix qak9 (qv 3) qad9 Y9))) qao9) (qeq9 (qs_if (qaj9 qhb9 (qe_op qay9 (qv 2) qad9) qad9 (qat9 _)) (qab9 (qai9 (i:=8) sc__law_ends.nd U (zaf U) (qe_op qas9 (qe_cb (qqo9 U) U B.max bt_max (qa_c (qv 3) qac9)) qad9)) (qae9 (qfk9 PassesOwn.never U (qfp9 U B.range (qa_c (qv 8) qac9)) (qam9 (i:=9) sc__law_ends.nd U (zaf U)) (qae9 (qs_if (qfc9 (QW.pt (qjc9 (qaj9 qop_inL (qe_op qay9 (qe_op qas9 (qe_op qas9 (qv 1) qad9) (qv 9)) (qv 8)) (qv 3) U) (qgy9 (qaj9 qoo9 (qe_op qay9 (qe_op qas9 (qe_op qas9 (qv 1) qad9) (qv 9)) (qv 8)) (qv 1) (qat9 _)))))) (qae9 (qai9 (i:=7) sc__law_ends.nd U (zaf U) (qe_op qay9 (qe_op qas9 (qe_op qas9 (qv 1) qad9) (qv 9)) (qv 8)))) qao9))))) qao9) (qae9 (qal9 (qca9 (qa_c (qv 7) (qa_c (qv 1) qac9)))))))))),?_⟩
 walk_at "d"
 refine⟨z09,λ pk hpk=>?_⟩
 obtain⟨ws,hw1,hw2,hw3⟩:=hN.la.lst
 rw[zad] at hw2
 generalize hgH1:upd _ pk _=H1
 revert H1
 refine qbb9 hpk λ H1 s1 e1=>?_
 refine⟨_,U,pr,U,⟨_,SqL.of (s1 _ _ hw1)⟩,qdy9 (K:=K) (a:=pr) (xs:=ws)
  (λ i σ H'=>∃(ks:List Int)(v1 v2 v3 v4 v5 v6:Option V),σ=[some (.ref pr),some (.int goal),some (.int cell),some (.ref pk),v1,v2,v3,v4,v5,v6]/\Same H H'/\H' pk=some (.lst (ks.map V.int))/\ks.length<=2*i/\(0<i->ks≠[])/\∀x∈ks,OnRd N x)
  ⟨[],_,_,_,_,_,_,rfl,s1,e1,by simp,λ h=>absurd h ⋯,by simp⟩ (λ i σ H' _ h=>?_) ?_ ?_⟩
 ·obtain⟨_,_,_,_,_,_,_,_,s,_⟩:=h
  exact SqL.of (s _ _ hw1)
 ·intro i y σ H' hi z9;obtain⟨ks,v1,v2,v3,v4,v5,v6,rfl,sI,eI,lk,ne,onk⟩ := z9
  obtain⟨r,x,rfl,ex,er⟩:=hw3 i y hi
  have hi2:i<N.length:=by
   have:=(zab.mp hi).1
   omega
  have em:=zaa hi2
  rw[zap,em] at ex
  cases ex
  have hm:=zbi hi2
  generalize N[i]=m at *
  have er:H' r=some (.tup [.int m.1,.int m.2.1,.ref m.2.2.1]):=sI _ _ er
  refine⟨r,_,U,SqT.of er,U,_,_,U,_,_,U,_,_,U,U,?_⟩
  refine⟨λ σ' H2=>∃ks':List Int,σ'=[some (.ref pr),some (.int goal),some (.int cell),some (.ref pk),some (.int m.1),some (.int m.2.1),some (.ref m.2.2.1),v4,v5,v6]/\Same H H2/\H2 pk=some (.lst (ks'.map V.int))/\ks'.length<=2*i+1/\ks'≠[]/\∀x∈ks',OnRd N x,?_,?_⟩
  ·refine⟨_,U,_,U,pk,_,U,.inl (SqL.of eI),U,qid9 _,?_⟩
   rw[qnn9]
   refine⟨_,U,ite2 (λ c=>?_) (λ c=>?_)⟩
   ·refine⟨_,U,.inl ⟨U,_,SqL.of eI⟩,_,U,pk,_,_,U,U,eI,qbf9 (by simp;omega),ks++[m.1],U,qbl9 hpk sI,by rw[qaf9,zba];rfl,by simp;omega,by simp,λ x hx=>?_⟩
    rcases zav.mp hx with hx|hx
    ·exact onk x hx
    ·exact⟨m,hm,.inl (zag.mp hx)⟩
   ·have c:m.1∈ks:=by simpa using c
    exact⟨ks,rfl,sI,eI,⋯,(λ z=>by rw[z] at c;cases c),onk⟩
  intro σ' H2 z9;obtain⟨ks',rfl,s2,e2,l2,n2,on2⟩ := z9
  refine⟨_,U,_,U,pk,_,U,.inl (SqL.of e2),U,qid9 _,?_⟩
  rw[qnn9]
  refine⟨_,U,ite2 (λ c=>?_) (λ c=>?_)⟩
  ·refine⟨_,U,.inl ⟨U,_,SqL.of e2⟩,_,U,pk,_,_,U,U,e2,qbf9 (by simp;omega),ks'++[m.2.1],_,_,_,_,_,_,U,qbl9 hpk s2,by rw[qaf9,zba];rfl,by simp;omega,λ _=>by simp,λ x hx=>?_⟩
   rcases zav.mp hx with hx|hx
   ·exact on2 x hx
   ·exact⟨m,hm,.inr (zag.mp hx)⟩
  ·exact⟨ks',_,_,_,_,_,_,U,s2,e2,⋯,λ _=>n2,on2⟩
 intro σ H2 z9;obtain⟨ks,v1,v2,v3,v4,v5,v6,rfl,s2,e2,l2,ne,onk⟩ := z9
 have kne:ks≠[]:=ne (by
  rw[hw2]
  exact zda.mpr n0)
 have kl:0<ks.length:=zda.mpr kne
 have at_:∀j:Int,0<=j->j<ks.length->∃z:Int,atI (ks.map V.int) j=some (.int z)/\OnRd N z:=λ j j0 j1=>by
  obtain⟨k,rfl⟩:=zcu j0
  have hk:k<ks.length:=⋯
  exact⟨ks[k],qea9 (by rw[zap,zaa hk];rfl),onk _ (zbi hk)⟩
 have em:=qet9 (cell/4) (show(0:Int)<((ks.map V.int).length:Int) by simp;omega)
 rw[zad] at em
 obtain⟨z,az,oz⟩:=at_ _ em.1 em.2
 refine⟨_,U,_,U,_,_,U,U,⟨by decide,by decide⟩,_,U,pk,_,U,.inl (SqL.of e2),_,_,U,U,(by simp;omega),pk,_,_,_,U,U,SqL.of e2,(by rw[zad];exact az),?_⟩
 refine⟨λ σ' H3=>H3=H2/\∃g:Int,σ'=[some (.ref pr),some (.int g),some (.int cell),some (.ref pk),v1,v2,v3,some (.int z),v5,v6]/\OnRd N g,?_,?_⟩
 ·refine⟨_,U,_,U,pk,_,U,.inl (SqL.of e2),U,qid9 _,?_⟩
  rw[qnn9]
  refine⟨_,U,ite2 (λ c=>?_) (λ c=>?_)⟩
  ·obtain⟨z0,a0,o0⟩:=at_ 0 ⋯ ⋯
   exact⟨_,U,pk,_,_,_,U,U,SqL.of e2,a0,U,_,U,o0⟩
  ·have c:goal∈ks:=by simpa using c
   exact⟨U,_,U,onk _ c⟩
 intro σ' H3 z9;obtain⟨rfl,g,rfl,og⟩ := z9
 refine⟨λ σ' H4=>H4=H3/\∃(p:Int)(v5 v6:Option V),σ'=[some (.ref pr),some (.int g),some (.int cell),some (.ref pk),v1,v2,v3,some (.int p),v5,v6]/\OnRd N p,?_,?_⟩
 ·refine⟨_,U,_,_,U,U,(by show(0:Int)<4;decide),_,_,U,U,_,U,ite2 (λ c=>?_) (λ c=>⟨U,_,_,_,U,oz⟩)⟩
  refine⟨_,U,pk,ks,U,SqL.of e2,kne,λ mx hmx hle=>?_⟩
  obtain⟨mm,hmm,hmx2⟩:=onk mx hmx
  have rm:=rng mm hmm
  refine⟨_,_,U,U,?_⟩
  have mp:0<mx+1:=⋯
  refine⟨_,U,mx+1,U,⋯,⋯,qgz9 (lo:=0) (n:=(mx+1).toNat)
   (λ i σ H4=>H4=H3/\∃(p:Int)(v6:Option V),σ=[some (.ref pr),some (.int g),some (.int cell),some (.ref pk),v1,v2,v3,some (.int p),some (.int (mx+1)),v6]/\OnRd N p) ⟨rfl,_,_,rfl,oz⟩ ?_ ?_⟩
  ·intro i σ H4 hi z9;obtain⟨rfl,p,v6,rfl,op⟩ := z9
   refine⟨λ b H5=>H5=H4/\(b=true->OnRd N ((g+1+(0+(i:Int)))%(mx+1))),?_,?_⟩
   ·refine⟨_,U,_,_,U,U,_,U,_,_,U,U,_,U,_,_,U,U,mp,_,U,pk,_,U,.inl (SqL.of e2),U,qid9 _,?_⟩
    rw[qnn9]
    refine⟨_,rfl,ite2 (λ c=>?_) (λ c=>⟨rfl,λ z=>by cases z⟩)⟩
    have c:(g+1+(0+(i:Int)))%(mx+1)∈ks:=by simpa using c
    exact⟨_,U,_,_,U,U,_,U,_,_,U,U,_,U,_,_,U,U,mp,_,U,U,_,U,U,λ _=>onk _ c⟩
   intro b H5 z9;obtain⟨rfl,hb⟩ := z9
   refine ite2 (λ c=>?_) (λ c=>⟨rfl,p,_,rfl,op⟩)
   exact⟨_,U,_,_,U,U,_,U,_,_,U,U,_,U,_,_,U,U,mp,U,_,_,U,hb c⟩
  ·intro σ H4 z9;obtain⟨rfl,p,v6,rfl,op⟩ := z9
   exact⟨U,p,_,_,U,op⟩
 intro σ' H4 z9;obtain⟨rfl,p,v5,v6,rfl,op⟩ := z9
 refine⟨_,U,_,U,z29,λ rr hrr=>?_⟩
 generalize hgH5:upd _ rr _=H5
 revert H5
 refine qbb9 hrr λ H5 s5 e5=>?_
 exact q rr p g H5 (s2.trans s5) e5 op og
theorem num_head{n:Int}(h:1<=n):∃c,(numT n).cps[0]?=some c/\c≠48:=by
 have e:=qjl9 (n:=n) ⋯
 have d:=qnm9 n.toNat ⋯
 have l:=qkc9 n.toNat
 cases hd:zcx 10 n.toNat with
 |nil=>rw[hd] at l;simp at l
 |cons a r =>
  rw[hd] at e d
  refine⟨a.toNat,?_,λ z=>d ?_⟩
  ·rw[<- zcc,e]
   rfl
  ·rw[List.head?_cons]
   congr 1
   exact Char.toNat_inj.mp (by rw[z];rfl)
theorem num_intN(h:t<0)(hl:(numT (-t)).length<=100):PySem.intText? (numT t)=some t:=by
 have e45:(("-":Str)).cps.toList=[45]:=by decide +kernel
 have ex:(numT t).cps.toList=45::(numT (-t)).cps.toList:=by rw[qha9 h,qiv9,e45];rfl
 have hne:(numT (-t)).cps.toList≠[]:=λ e=>by
  have:=qrx9 (n:=-t) ⋯
  have e':(numT (-t)).length=(numT (-t)).cps.toList.length:=by simp[zch]
  rw[e',e] at this
  exact absurd this (by decide)
 have ln:(numT t).length<=101:=by
  rw[qha9 h,zac,show(("-":Str)).length=1 by decide]
  omega
 have e:=intText_neg ex (λ c hc=>qhw9 ⋯ c hc) hne (zbb ln (by decide))
 rw[qjl9 ⋯,W.KIN.val_back] at e
 rw[e]
 congr 1
 omega
theorem pow40:(10:Int) ^ 40=10000000000000000000000000000000000000000:=by decide
theorem qgf9(h:0<=t)(h1:t.natAbs<10000000000000000000000000000000000000000):(numT t).length<=40:=qgc9 (n:=t) (m:=40) h (by decide) (by rw[pow40];omega)
theorem dash_not(h:0<=t)(hc:(numT t).cps[0]?=some c):(⟨#[c]⟩:Str)≠"-" := λ z=>by
 have e0:(("-":Str)).cps.toList=[45]:=by decide +kernel
 have:=congrArg (λ s:Str=>s.cps.toList) z
 rw[e0] at this
 have:c=45:=by simpa using this
 have:=qhw9 h c (zel.mpr (zfv hc))
 omega
theorem zero_not(h:c≠48):(⟨#[c]⟩:Str)≠"0" := λ z=>by
 have e0:(("0":Str)).cps.toList=[48]:=by decide +kernel
 have:=congrArg (λ s:Str=>s.cps.toList) z
 rw[e0] at this
 exact h (by simpa using this)
theorem qqt9(F:Fun K "_law_number" "_law_number" qcl9 f fd)(B:Bl mg):FnOk P w K mg base CX0 (n+1) f fd ["text"] spNumberB:=by
 refine F.okQ sc__law_number ?_ ?_
 walk_at "o"
 obtain⟨t,rfl,tb,q⟩:=h
 refine⟨_,(qab9 (qs_if (qfc9 (QW.pt (qw_or (qdv9 (qcb9 (qe_cb qch9 U B.isinstance qbc9 (qa_c (qv 0) (qa_c (qfh9 (v:=.ty "str") U B.str_ qeu9 U) qac9))))) (qew9 (qaj9 qbr9 (qv 0) qbe9 (qat9 _)))))) (qae9 (qal9 qes9)) qao9) (qab9 (qai9 (i:=1) sc__law_number.nd U (zaf U) (qv 0)) (qeq9 (qs_if (qaj9 qbr9 (qe_ix qjm9 (qv 0) qad9 Y9) qbe9 (qat9 _)) (qae9 (qai9 (i:=1) sc__law_number.nd U (zaf U) (qe_slA (qv 0) (qft9 qad9) qfz9))) qao9) (qab9 (qs_if (qfc9 (QW.pt (qw_or (qaj9 qbr9 (qv 1) qbe9 (qat9 _)) (qw_or (qaj9 qhb9 (qe_cb qhf9 U B.len qce9 (qa_c (qv 1) qac9)) qad9 (qat9 _)) (qew9 (QW.pt (qjc9 (qaj9 qbr9 (qe_ix qjm9 (qv 1) qad9 Y9) qbe9 (qat9 _)) (qgy9 (qaj9 qoo9 (qv 0) qbe9 (qat9 _)))))))))) (qae9 (qal9 qes9)) qao9) (qab9 (qfk9 PassesOwn.never U (qi_str (qv 1)) (qam9 (i:=2) sc__law_number.nd U (zaf U)) (qae9 (qs_if (qaj9 qse9 (qv 2) qbe9 U) (qae9 (qal9 qes9)) qao9))) (qae9 (qal9 (qe_ct qlj9 U B.int_ bt_int (qa_c (qv 0) qac9))))))))),?_⟩
 walk_at "d"
 have lt:(numT t).length<=41:=by
  by_cases c:t<0
  ·have:=qgf9 (t:=-t) ⋯ ⋯
   rw[qha9 c,zac,show(("-":Str)).length=1 by decide]
   omega
  ·have:=qgf9 (t:=t) ⋯ tb
   omega
 have l1:1<=(numT t).length:=by
  by_cases c:t<0
  ·rw[qha9 c,zac,show(("-":Str)).length=1 by decide]
   omega
  ·exact qrx9 ⋯
 have hz:=L.le (n:=(numT t).length) ⋯
 have ne0:numT t≠"" := λ z=>by rw[z] at l1;exact absurd l1 (by decide)
 refine⟨λ b H'=>b=false/\H'=H,?_,?_⟩
 ·refine⟨_,U,_,"str",_,_,U,.str _,U,_,U,iteF ?_⟩
  exact⟨_,U,U,_,U,decide_eq_false λ z=>ne0 (by injection z),U⟩
 intro b H' z9;obtain⟨rfl,rfl⟩ := z9
 refine iteF ?_
 refine⟨_,U,?_⟩
 have e45:(("-":Str)).cps.toList=[45]:=by decide +kernel
 refine⟨λ σ' H2=>H2=H'/\∃m:Int,σ'=[some (.str (numT t)),some (.str (numT m)),none]/\0<=m/\m.natAbs=t.natAbs,?_,?_⟩
 ·by_cases c:t<0
  ·have en:=qha9 c
   have a0:atI (numT t).cps.toList 0=some 45:=qea9 (j:=0) (by rw[en,qiv9,e45];rfl)
   refine⟨_,U,_,0,45,U,U,hz,a0,U,_,U,iteP (dT9 (by decide +kernel)) ?_⟩
   refine⟨_,U,_,U,_,U,hz,U,-t,?_,⋯,⋯⟩
   rw[en,qnu9 e45]
   rfl
  ·have l0:0<(numT t).cps.size:=l1
   have a0:(numT t).cps[0]?=some (numT t).cps[0]:=zds l0
   refine⟨_,U,_,0,_,U,U,hz,qea9 (j:=0) (by rw[zcc];exact a0),U,_,U,iteN (λ z=>?_) ⟨U,t,U,⋯,U⟩⟩
   have:=oT9 z
   injection this with this
   exact dash_not ⋯ a0 this
 intro σ' H2 z9;obtain⟨rfl,m,rfl,m0,mt⟩ := z9
 have lm:=qgf9 m0 ⋯
 have lm1:=qrx9 m0
 have hzm:=L.le (n:=(numT m).length) ⋯
 refine⟨λ b H3=>b=false/\H3=H2,?_,?_⟩
 ·refine⟨_,U,U,_,U,iteN (λ z=>?_) ?_⟩
  ·have:=oT9 z
   injection this with this
   rw[this] at lm1
   exact absurd lm1 (by decide)
  refine⟨_,U,_,U,hzm,_,_,U,U,_,U,iteN (by simp;omega) ?_⟩
  have l0:0<(numT m).cps.size:=lm1
  have a0:(numT m).cps[0]?=some (numT m).cps[0]:=zds l0
  refine⟨_,U,_,0,_,U,U,hzm,qea9 (j:=0) (by rw[zcc];exact a0),U,_,U,ite2 (λ z=>?_) (λ z=>⟨U,U⟩)⟩
  have em:m=0:=by
   rcases(by omega:m=0\/1<=m) with h|h
   ·exact h
   ·obtain⟨c,hc,n48⟩:=num_head h
    rw[a0] at hc
    cases hc
    have:=oT9 z
    injection this with this
    exact absurd this (zero_not n48)
  have et:t=0:=⋯
  refine⟨_,U,U,_,U,?_,U⟩
  rw[et]
  decide +kernel
 intro b H3 z9;obtain⟨rfl,rfl⟩ := z9
 refine iteF ?_
 refine⟨_,U,_,U,qmf9 (λ c hc=>by have:=qhw9 m0 c hc;omega),for_str (λ i σ H4=>H4=H3/\∃v:Option V,σ=[some (.str (numT t)),some (.str (numT m)),v]) ⟨U,_,U⟩ ?_ ?_⟩
 ·intro i c σ H4 hc z9;obtain⟨rfl,v,rfl⟩ := z9
  refine⟨_,U,c,_,U,U,_,U,iteN ?_ ⟨U,_,U⟩⟩
  have:=fig_in (qhw9 m0 c (zel.mpr (zfv hc)))
  simp only[Bool.not_eq_true',decide_eq_false_iff_not]
  exact λ z=>z this
 ·intro σ H4 z9;obtain⟨rfl,v,rfl⟩ := z9
  refine⟨_,U,_,t,U,?_,⋯,q⟩
  by_cases c:t<0
  ·exact num_intN c (by have:=qgf9 (t:=-t) ⋯ ⋯;omega)
  ·exact qrp9 ⋯ ⋯
end
theorem Jo.snoc:∀{k:Nat}{p t q y z:Int}{m:RdT},Jo d F k p t q y->m∈F->m.1=q->Ma.bt d m.2.2.2 y=some z->Jo d F (k+1) p t m.2.1 z
 |0,p,t,q,y,z,m,⟨e1,e2⟩,hm,e,hz=>.inr ⟨m,hm,e.trans e1.symm,z,by rw[e2];exact hz,rfl,rfl⟩
 |k+1,p,t,q,y,z,m,h,hm,e,hz=>by
  rcases h with h|⟨x,hx,ex,u,hu,h⟩
  ·exact(h.snoc hm e hz).up
  ·exact .inr ⟨x,hx,ex,u,hu,h.snoc hm e hz⟩
theorem bt_upW(hd:0<d){C:List T3}(W:Ma.Wins d C){t' z:Int}(h:Ma.bt d C t=some z)(l:t'<=t):∃z',Ma.bt d C t'=some z'/\z'<=z:=by
 have n0:C≠[]:=λ e=>by rw[e] at h;cases h
 have T:=Ma.tells_bf (d:=d) n0
 rw[T t] at h
 cases h
 exact⟨_,T t',(Ma.board_rise hd W T).mono _ _ l⟩
theorem addS_mem:x∈addS ys z↔x∈ys\/x=z:=by
 unfold addS
 split
 ·exact⟨.inl,λ h=>h.elim id λ e=>by rw[e];assumption⟩
 ·simp
theorem qlf9(h:ys.Nodup):(addS ys z).Nodup:=by
 unfold addS
 split
 ·exact h
 ·rename_i c
  refine zcb.mpr ⟨h,by simp,λ a ha b hb e=>c ?_⟩
  rw[zag] at hb
  rw[<- hb,<- e]
  exact ha
theorem qgv9(h:x∈ys):(addS ys z).idxOf x=ys.idxOf x:=by
 unfold addS
 split
 ·rfl
 ·rw[zff,if_pos h]
structure RdNb(L:List RoadS)(st:List Str×List (Int×Int×List T3)):Prop where
 nd:st.1.Nodup
 mem:∀x,x∈st.1↔∃q∈L,x=q.1\/x=q.2.1
 eq:st.2=L.map λ q=>(((st.1.idxOf q.1:Nat):Int),((st.1.idxOf q.2.1:Nat):Int),q.2.2)
theorem RdNb.step{L:List RoadS}{st:List Str×List (Int×Int×List T3)}{q:RoadS}(h:RdNb L st):RdNb (L++[q]) (qiz9 st q):=by
 have m1:∀x∈st.1,x∈addS st.1 q.1:=λ x hx=>addS_mem.mpr (.inl hx)
 have m2:q.1∈addS st.1 q.1:=addS_mem.mpr (.inr rfl)
 refine⟨qlf9 (qlf9 h.nd),λ x=>?_,?_⟩
 ·show x∈addS (addS st.1 q.1) q.2.1↔_
  rw[addS_mem,addS_mem,h.mem]
  constructor
  ·rintro((⟨r,hr,e⟩|e)|e)
   ·exact⟨r,zbf _ hr,e⟩
   ·exact⟨q,by simp,.inl e⟩
   ·exact⟨q,by simp,.inr e⟩
  ·intro z9;obtain⟨r,hr,e⟩ := z9
   rcases zav.mp hr with hr|hr
   ·exact .inl (.inl ⟨r,hr,e⟩)
   ·rw[zag] at hr
    subst hr
    exact e.elim (λ e=>.inl (.inr e)) .inr
 ·show st.2++_=_
  rw[zba,h.eq]
  congr 1
  ·refine zfy λ r hr=>?_
   have a1:r.1∈st.1:=(h.mem _).mpr ⟨r,hr,.inl rfl⟩
   have a2:r.2.1∈st.1:=(h.mem _).mpr ⟨r,hr,.inr rfl⟩
   show _=((((addS (addS st.1 q.1) q.2.1).idxOf r.1:Nat):Int),(((addS (addS st.1 q.1) q.2.1).idxOf r.2.1:Nat):Int),r.2.2)
   rw[qgv9 (m1 _ a1),qgv9 (m1 _ a2),qgv9 a1,qgv9 a2]
  ·show [_]=[((((addS (addS st.1 q.1) q.2.1).idxOf q.1:Nat):Int),(((addS (addS st.1 q.1) q.2.1).idxOf q.2.1:Nat):Int),q.2.2)]
   rw[qgv9 m2]
theorem rd_ok(L:List RoadS):RdNb L (rdAll L):=by
 have go:∀(L L0:List RoadS) (st:List Str×List (Int×Int×List T3)),RdNb L0 st->RdNb (L0++L) (L.foldl qiz9 st):=by
  intro L
  induction L with
  |nil=>intro L0 st h;simpa using h
  |cons q L ih =>
   intro L0 st h
   have:=ih (L0++[q]) (qiz9 st q) h.step
   rw[zdq,List.singleton_append] at this
   exact this
 exact go L [] ([],[]) ⟨by simp,by simp,rfl⟩
theorem idx_inj{ns:List Str}(hx:x∈ns)(h:ns.idxOf x=ns.idxOf y):x=y:=by
 have lx:=zdc hx
 have e1:ns[ns.idxOf x]=x:=zez lx
 have e2:ns[ns.idxOf y]'⋯=y:=zez ⋯
 rw[<- e1,<- e2]
 congr 1
theorem qjd9{i:Int}(h0:0<=i)(h1:i<names.length):nmT names i∈names:=by
 unfold nmT
 rw[zbn,zaa ⋯]
 exact zbi _
theorem nm_inj(nd:names.Nodup){i:Int}(i0:0<=i)(i1:i<names.length)(j0:0<=j)(j1:j<names.length)(h:nmT names i=nmT names j):i=j:=by
 unfold nmT at h
 rw[zbn,zaa ⋯,zbn,zaa ⋯] at h
 have h:names[i.toNat]'⋯=names[j.toNat]'⋯:=h
 have e:i.toNat=j.toNat:=(zgk ⋯ nd).mp (by rw[zaa ⋯,zaa ⋯,h])
 omega
structure Ren(names ns:List Str)(N M:List RdT):Prop where
 nd:names.Nodup
 rng:∀m∈N,(0<=m.1/\m.1<(names.length:Int))/\(0<=m.2.1/\m.2.1<(names.length:Int))
 n2:ns.Nodup
 mem:∀x,x∈ns↔∃m∈N,x=nmT names m.1\/x=nmT names m.2.1
 eq:M.map strip=N.map λ m=>(((ns.idxOf (nmT names m.1):Nat):Int),((ns.idxOf (nmT names m.2.1):Nat):Int),m.2.2.2)
theorem ren_of(nd:names.Nodup)(rng:∀m∈N,(0<=m.1/\m.1<(names.length:Int))/\(0<=m.2.1/\m.2.1<(names.length:Int)))(e:M.map strip=(rdAll (N.map (rdS names))).2):Ren names (rdAll (N.map (rdS names))).1 N M:=by
 have ok:=rd_ok (N.map (rdS names))
 refine⟨nd,rng,ok.nd,λ x=>?_,?_⟩
 ·rw[ok.mem]
  constructor
  ·intro z9;obtain⟨q,hq,e⟩ := z9
   obtain⟨m,hm,rfl⟩:=zat.mp hq
   exact⟨m,hm,e⟩
  ·intro z9;obtain⟨m,hm,e⟩ := z9
   exact⟨_,zat.mpr ⟨m,hm,U⟩,e⟩
 ·rw[e,ok.eq,zdz]
  rfl
section
variable {ns:List Str}
def Ren.f(_:Ren names ns N M)(x:Int):Nat:=ns.idxOf (nmT names x)
theorem Ren.on(h:Ren names ns N M){x:Int}(o:OnRd N x):nmT names x∈ns/\0<=x/\x<(names.length:Int):=by
 obtain⟨m,hm,e⟩:=o
 have r:=h.rng m hm
 rcases e with rfl|rfl
 ·exact⟨(h.mem _).mpr ⟨m,hm,.inl rfl⟩,r.1⟩
 ·exact⟨(h.mem _).mpr ⟨m,hm,.inr rfl⟩,r.2⟩
theorem Ren.lt(h:Ren names ns N M){x:Int}(o:OnRd N x):h.f x<ns.length:=zdc (h.on o).1
theorem Ren.inj(h:Ren names ns N M){x y:Int}(ox:OnRd N x)(oy:OnRd N y)(e:h.f x=h.f y):x=y:=by
 have a:=h.on ox
 have b:=h.on oy
 exact nm_inj h.nd a.2.1 a.2.2 b.2.1 b.2.2 (idx_inj a.1 e)
theorem Ren.len(h:Ren names ns N M):ns.length<=names.length:=by
 have sub:∀x∈ns,x∈names:=λ x hx=>by
  obtain⟨m,hm,e⟩:=(h.mem x).mp hx
  have r:=h.rng m hm
  rcases e with rfl|rfl
  ·exact qjd9 r.1.1 r.1.2
  ·exact qjd9 r.2.1 r.2.2
 have:=qhg9 names.length (L:=ns.map λ z=>((names.idxOf z:Nat):Int)) (by
  refine zfd.mpr (h.n2.imp_of_mem λ {a b} ha _ ne e=>ne (idx_inj (sub a ha) ?_))
  omega) (λ x hx=>by
  obtain⟨z,hz,rfl⟩:=zat.mp hx
  have:=zdc (sub z hz)
  omega)
 rw[zad] at this
 exact this
theorem Ren.to(h:Ren names ns N M)(hm:m∈N):∃m'∈M,m'.1=(h.f m.1:Int)/\m'.2.1=(h.f m.2.1:Int)/\m'.2.2.2=m.2.2.2:=by
 have:(((ns.idxOf (nmT names m.1):Nat):Int),((ns.idxOf (nmT names m.2.1):Nat):Int),m.2.2.2)∈M.map strip:=by
  rw[h.eq]
  exact zat.mpr ⟨m,hm,rfl⟩
 obtain⟨m',hm',e⟩:=zat.mp this
 simp only[strip,Prod.mk.injEq] at e
 exact⟨m',hm',e⟩
theorem Ren.of(h:Ren names ns N M){m':RdT}(hm:m'∈M):∃m∈N,m'.1=(h.f m.1:Int)/\m'.2.1=(h.f m.2.1:Int)/\m'.2.2.2=m.2.2.2:=by
 have:strip m'∈M.map strip:=zat.mpr ⟨m',hm,rfl⟩
 rw[h.eq] at this
 obtain⟨m,hm',e⟩:=zat.mp this
 simp only[strip,Prod.mk.injEq] at e
 exact⟨m,hm',e.1.symm,e.2.1.symm,e.2.2.symm⟩
theorem Ren.lenM(h:Ren names ns N M):M.length=N.length:=by
 have:=congrArg zfb h.eq
 rw[zad,zad] at this
 exact this
theorem Ren.jo(h:Ren names ns N M){d:Int}:∀{k:Nat}{p t q y:Int},Jo d N k p t q y->Jo d M k (h.f p) t (h.f q) y
 |0,p,t,q,y,⟨e,e'⟩=>⟨by rw[e],e'⟩
 |k+1,p,t,q,y,j=>by
  rcases j with j|⟨m,hm,e,z,hz,j⟩
  ·exact .inl (h.jo j)
  ·obtain⟨m',hm',e1,e2,e3⟩:=h.to hm
   exact .inr ⟨m',hm',by rw[e1,e],z,by rw[e3];exact hz,by rw[e2];exact h.jo j⟩
theorem Ren.oj(h:Ren names ns N M){d:Int}:∀{k:Nat}{p t q y:Int},OnRd N p->OnRd N q->Jo d M k (h.f p) t (h.f q) y->Jo d N k p t q y
 |0,p,t,q,y,op,oq,⟨e,e'⟩=>⟨h.inj op oq ⋯,e'⟩
 |k+1,p,t,q,y,op,oq,j=>by
  rcases j with j|⟨m',hm',e,z,hz,j⟩
  ·exact .inl (h.oj op oq j)
  ·obtain⟨m,hm,e1,e2,e3⟩:=h.of hm'
   have ep:m.1=p:=h.inj ⟨m,hm,.inl rfl⟩ op ⋯
   rw[e2] at j
   exact .inr ⟨m,hm,ep,z,by rw[<- e3];exact hz,h.oj ⟨m,hm,.inr rfl⟩ oq j⟩
end
structure LongAt(f:Int->Int)(d t w:Int):Prop where
 t0:0<=t
 t1:t<d
 at_:f t-t=w
 le:∀x,0<=x->x<d->f x-x<=w
 lt:∀x,0<=x->x<t->f x-x<w
theorem LongAt.all{f:Int->Int}{w:Int}(h:LongAt f d t w)(hd:0<d)(r:Ma.Rise d f)(x:Int):f x-x<=w:=by
 obtain⟨q,e,e0,e1⟩:=Ma.split d x hd
 have:=h.le _ e0 e1
 have m:=r.mul (x%d) q
 rw[show x%d+d*q=x by omega] at m
 omega
inductive spFirstWait(vs:List V)(H:Hp)(Q:VK)(z3q:XK):Prop
 |mk (r:Addr) (x:T4):vs=[.ref r]->H r=some (.tup (enc4 x))->Q (.int (Ma.ftold x-x.1)) H->spFirstWait vs H Q z3q
inductive spLongest(vs:List V)(H:Hp)(Q:VK)(z3q:XK):Prop
 |mk (day:Int) (p:Addr) (R:List T3):vs=[.int day,.ref p]->LA enc3 H p R->R.length<=1000000->Ma.CK day R->((R=[]->∀H',Same H H'->Q .non H'))->((R≠[]->∀(r:Addr)(t w:Int)(H':Hp),Same H H'->H' r=some (.tup [.int t,.int w])->LongAt (Ma.bf day R) day t w->Q (.ref r) H'))->spLongest vs H Q z3q
section
variable {f:Addr}
theorem qlp9(F:Fun K "first_wait" "first_wait" qdd9 f fd)(Ch0:Callee P w K mg base n "first_told" ["row"] spFirstTold):FnOk P w K mg base CX0 (n+1) f fd ["row"] spFirstWait:=by
 refine F.okQ qll9 ?_ ?_
 walk_at "o"
 obtain⟨r,x,rfl,hx,q⟩:=h
 refine⟨_,(qae9 (qal9 (qe_op qcc9 (qe_fn Ch0 hr U (qa_c (qv 0) qac9)) (qe_ix qan9 (qv 0) qad9 Y9)))),?_⟩
 walk_at "d"
 exact⟨_,U,r,x,U,hx,_,U,r,_,_,_,U,U,SqT.of hx,U,_,_,U,U,q⟩
theorem qpr9(F:Fun K "longest" "longest" qfb9 f fd)(Ce0:Callee P w K mg base n "stretches" ["day","clock"] spStretches)(Cf1:Callee P w K mg base n "first_wait" ["row"] spFirstWait):FnOk P w K mg base CX0 (n+1) f fd ["day","clock"] spLongest:=by
 refine F.okQ sc_longest ?_ ?_
 walk_at "o"
 obtain⟨day,p,R,rfl,hR,hl,ck,q0,q1⟩:=h
 refine⟨_,(qab9 (qai9 (i:=2) sc_longest.nd U (zaf U) qes9) (qab9 (qfk9 PassesOwn.never U (qcp9 (qe_fn Ce0 hr U (qa_c (qv 0) (qa_c (qv 1) qac9)))) (qam9 (i:=3) sc_longest.nd U (zaf U)) (qab9 (qai9 (i:=4) sc_longest.nd U (zaf U) (qe_fn Cf1 hr U (qa_c (qv 3) qac9))) (qae9 (qs_if (qfc9 (QW.pt (qw_or (qfq9 (qv 2)) (qew9 (qaj9 qhb9 (qv 4) (qe_ix qan9 (qv 2) qad9 Y9) (qat9 _)))))) (qae9 (qai9 (i:=2) sc_longest.nd U (zaf U) (qca9 (qa_c (qe_ix qan9 (qv 3) qad9 Y9) (qa_c (qv 4) qac9))))) qao9)))) (qae9 (qal9 (qv 2))))),?_⟩
 walk_at "d"
 refine⟨_,U,_,U,day,p,R,U,hR,⋯,λ l H1 s1 fl hS=>?_⟩
 obtain⟨ws,hw1,hw2,hw3⟩:=hS.lst
 by_cases n0:R=[]
 ·subst n0
  rw[Ma.strOf_nil] at hw2
  refine⟨l,U,⟨_,SqL.of hw1⟩,qdy9 (K:=K) (a:=l) (xs:=ws) (λ i σ H'=>H'=H1/\∃v1 v2:Option V,σ=[some (.int day),some (.ref p),some .non,v1,v2]) ⟨U,_,_,U⟩ (λ i σ H' _ h=>by rw[h.1];exact SqL.of hw1) ?_ ?_⟩
  ·rintro i y σ H' hi _
   have:=(zab.mp hi).1
   simp at hw2
   rw[hw2] at this
   simp at this
  ·intro σ H' z9;obtain⟨rfl,v1,v2,rfl⟩ := z9
   exact⟨_,U,q0 rfl _ s1⟩
 have q1:=q1 n0
 have T:=Ma.tells_bf (d:=day) n0
 have C:=Ma.str_cov ck T
 have hd:=ck.d0
 generalize Ma.bf day R=g at *
 generalize Ma.strOf day R=S at *
 have sn:0<S.length:=by
  rcases zbq S.length with e|e
  ·rw[zbe.mp e] at C
   have:(0:Int)=day:=C
   omega
  ·exact e
 refine⟨l,U,⟨_,SqL.of hw1⟩,qdy9 (K:=K) (a:=l) (xs:=ws)
  (λ i σ H'=>Same H1 H'/\∃(v:V)(at_:Int)(v1 v2:Option V),σ=[some (.int day),some (.ref p),some v,v1,v2]/\(∀r,S[i]?=some r->r.1=at_)/\(i=S.length->at_=day) /\
   ((i=0/\v=.non/\at_=0)\/∃(r:Addr)(t w:Int),v=.ref r/\H' r=some (.tup [.int t,.int w])/\LongAt g at_ t w))
  ⟨Same.refl _,.non,0,_,_,rfl,λ r e=>(C.get e).2.2.2.2.1 rfl,λ e=>⋯,.inl ⟨rfl,rfl,rfl⟩⟩ (λ i σ H' _ h=>SqL.of (h.1 _ _ hw1)) ?_ ?_⟩
 ·intro i y σ H2 hi z9;obtain⟨s2,v,at_,v1,v2,rfl,hat,_,hv⟩ := z9
  obtain⟨r,x,rfl,ex,er⟩:=hw3 i y hi
  have e1:=hat x ex
  obtain⟨g1,g2,g3,g4,g5,g6,g7⟩:=C.get ex
  have er2:=s2 _ _ er
  refine⟨_,U,r,x,U,er2,?_⟩
  have wt:Ma.ftold x-x.1=g x.1-x.1:=by rw[Ma.ftold_eq,<- g4 x.1 (zau _) g2]
  have wle:∀z,x.1<=z->z<=x.2.1->g z-z<=Ma.ftold x-x.1:=λ z z0 z1=>by
   rw[wt,g4 z z0 z1,g4 x.1 (zau _) g2]
   unfold Ma.tell
   split<;>omega
  generalize Ma.ftold x-x.1=wait at *
  have newt:(∀z,0<=z->z<at_->g z-z<wait)->LongAt g (x.2.1+1) x.1 wait:=λ hz=>by
   refine⟨g1,⋯,wt.symm,λ z z0 z1=>?_,λ z z0 z1=>hz z z0 ⋯⟩
   rcases(by omega:z<at_\/at_<=z) with y|y
   ·exact zec (hz z z0 y)
   ·exact wle z ⋯ ⋯
  refine⟨λ b H'=>H'=H2/\((b=true/\∀z,0<=z->z<at_->g z-z<wait)\/(b=false/\∃(r:Addr)(t w:Int),v=.ref r/\H2 r=some (.tup [.int t,.int w])/\LongAt g (x.2.1+1) t w)),?_,?_⟩
  ·rcases hv with⟨rfl,rfl,rfl⟩|⟨r0,t,w,rfl,e0,la⟩
   ·exact⟨_,U,_,U,iteP (by simp) ⟨U,.inl ⟨U,λ z z0 z1=>⋯⟩⟩⟩
   ·refine⟨_,U,_,U,iteN (by simp) ⟨_,U,_,U,r0,_,_,_,U,U,SqT.of e0,U,_,_,U,U,_,U,U,?_⟩⟩
    rcases(by omega:w<wait\/wait<=w) with y|y
    ·exact .inl ⟨dT9 y,λ z z0 z1=>by have:=la.le z z0 z1;omega⟩
    ·refine .inr ⟨decide_eq_false ⋯,r0,t,w,rfl,e0,la.t0,?_,la.at_,λ z z0 z1=>?_,la.lt⟩
     ·have:=la.t1
      omega
     ·rcases(by omega:z<at_\/at_<=z) with u|u
      ·exact la.le z z0 u
      ·have:=wle z ⋯ ⋯
       omega
  intro b H3 z9;obtain⟨rfl,hb⟩ := z9
  rcases hb with⟨rfl,hz⟩|⟨rfl,r0,t,w,rfl,e0,la⟩
  ·refine iteT ⟨_,rfl,r,_,_,_,rfl,rfl,SqT.of er2,rfl,_,rfl,z29,λ rn hrn=>?_⟩
   have s4:=qar9 hrn (.tup [.int x.1,.int wait])
   exact⟨s2.trans s4,_,x.2.1+1,_,_,U,λ r' e'=>g6 r' e',λ e=>g7 e,.inr ⟨rn,_,_,U,qaf9,newt hz⟩⟩
  ·exact iteF ⟨s2,_,x.2.1+1,_,_,rfl,λ r' e'=>g6 r' e',λ e=>g7 e,.inr ⟨r0,t,w,rfl,e0,la⟩⟩
 ·intro σ H2 z9;obtain⟨s2,v,at_,v1,v2,rfl,_,hend,hv⟩ := z9
  have e:=hend hw2
  subst e
  rcases hv with⟨z,_⟩|⟨r0,t,w,rfl,e0,la⟩
  ·omega
  ·exact⟨_,U,q1 r0 t w H2 (s1.trans s2) e0 la⟩
end
inductive spLeaveT(T:Hp->Prop)(vs:List V)(H:Hp)(Q:VK)(z3q:XK):Prop
 |mk (day:Int) (p:Addr) (s:Int) (R:List T3):vs=[.int day,.ref p,.int s]->LA enc3 H p R->T H->Ma.CK day R->((R=[]->Q .non H))->(∀(x:Int)(H':Hp),R≠[]->SameU H H'->T H'->(∀z y,Ma.bt day R z=some y->(y<=s↔z<=x))->Q (.int x) H')->spLeaveT T vs H Q z3q
theorem leave_T(C:Callee P w K mg base n "leave" ["day","clock","s"] (spLeave P0 pos))(h1:∀H,T H->TabOk H P0 pos (lamQ "leave"))
  (h2:∀H H',T H->SameT P0 H H'->TabOk H' P0 pos (lamQ "leave")->T H'):Callee P w K mg base n "leave" ["day","clock","s"] (spLeaveT T):=Callee.imp C λ vs H Q E h=>by
 obtain⟨day,p,t,R,rfl,hR,hT,ck,q0,q⟩:=h
 refine⟨day,p,t,R,U,hR.rows,h1 H hT,ck.clk,λ e=>q0 (zbe.mp e),λ n0 x H' hL sm tb=>?_⟩
 refine q x H' (λ e=>n0 (by rw[e];rfl)) (SameU.tab sm (h1 H hT) tb) (h2 H H' hT sm tb) λ z y hy=>?_
 obtain⟨x0,y0,hf,hb⟩:=Ma.clk_first ck.clk n0 z
 rw[hb] at hy
 cases hy
 exact Ma.leaveT ck.clk hL hf
theorem bt_some{C:List T3}(n0:C≠[])(t:Int):∃z,Ma.bt d C t=some z:=⟨_,Ma.tells_bf n0 t⟩
def Tn(d:Int)(R R':List T3):Prop:=(R=[]/\R'=[])\/∃f g:Int->Int,Ma.Gal f g/\Ma.Tells d R f/\Ma.Tells d R' λ t=>-(g (-t))
theorem Tn.symm{R':List T3}(h:Tn d R R'):Tn d R' R:=by
 rcases h with⟨a,b⟩|⟨f,g,G,T,T'⟩
 ·exact .inl ⟨b,a⟩
 ·refine .inr ⟨_,_,G.turn,T',λ t=>?_⟩
  rw[T t]
  simp
theorem Tn.ride{R':List T3}(h:Tn d R R'){y:Int}(e:Ma.bt d R t=some y):∃x,Ma.bt d R' (-y)=some x/\x<=-t:=by
 rcases h with⟨a,b⟩|⟨f,g,G,T,T'⟩
 ·rw[a] at e
  cases e
 ·rw[T t] at e
  cases e
  refine⟨_,T' _,?_⟩
  have:=(G t (f t)).mp (zau _)
  show -(g (-(-(f t))))<=-t
  rw[zep]
  omega
def Bk(d:Int)(F F':List RdT):Prop:=∀m∈F,∃m'∈F',m'.1=m.2.1/\m'.2.1=m.1/\Tn d m.2.2.2 m'.2.2.2
theorem tn_turn(hd:0<d)(W:Ma.Wins d R):Tn d R (Ma.turnB d R):=by
 by_cases n0:R=[]
 ·subst n0
  exact .inl ⟨rfl,rfl⟩
 ·have T:=Ma.tells_bf (d:=d) n0
  obtain⟨g,G,_⟩:=Ma.gal_of hd W T
  exact .inr ⟨_,g,G,T,Ma.turn_gal hd W T G⟩
theorem Jo.earlyW{d:Int}(hd:0<d){F:List RdT}(W:∀m∈F,Ma.Wins d m.2.2.2):∀{k:Nat}{p t t' q y:Int},Jo d F k p t q y->t'<=t->∃y',y'<=y/\Jo d F k p t' q y'
 |0,p,t,t',q,y,⟨a,b⟩,l=>⟨t',⋯,a,rfl⟩
 |k+1,p,t,t',q,y,j,l=>by
  rcases j with j|⟨m,hm,e,z,hz,j⟩
  ·obtain⟨y',ly,j'⟩:=j.earlyW hd W l
   exact⟨y',ly,.inl j'⟩
  ·obtain⟨z',hz',lz⟩:=bt_upW hd (W m hm) hz l
   obtain⟨y',ly,j'⟩:=j.earlyW hd W lz
   exact⟨y',ly,.inr ⟨m,hm,e,z',hz',j'⟩⟩
theorem Jo.turnW{d:Int}(hd:0<d){F F':List RdT}(W:∀m∈F',Ma.Wins d m.2.2.2)(h:Bk d F F'):∀{k:Nat}{p t q y:Int},Jo d F k p t q y->∃x,x<=-t/\Jo d F' k q (-y) p x
 |0,p,t,q,y,⟨a,b⟩=>⟨-t,zau _,a.symm,by rw[b]⟩
 |k+1,p,t,q,y,j=>by
  rcases j with j|⟨m,hm,e,z,hz,j⟩
  ·obtain⟨x,lx,j'⟩:=j.turnW hd W h
   exact⟨x,lx,j'.up⟩
  ·obtain⟨x,lx,j'⟩:=j.turnW hd W h
   obtain⟨m',hm',e1,e2,tn⟩:=h m hm
   obtain⟨u,hu,lu⟩:=tn.ride hz
   obtain⟨v,hv,lv⟩:=bt_upW hd (W m' hm') hu lx
   refine⟨v,⋯,?_⟩
   have:=j'.snoc hm' e1 hv
   rw[e2,e] at this
   exact this
structure Tw(d:Int)(F F':List RdT):Prop where
 hd:0<d
 w1:∀m∈F,Ma.Wins d m.2.2.2
 w2:∀m∈F',Ma.Wins d m.2.2.2
 b1:Bk d F F'
 b2:Bk d F' F
theorem Tw.symm(h:Tw d F F'):Tw d F' F:=⟨h.hd,h.w2,h.w1,h.b2,h.b1⟩
theorem Tw.jo(h:Tw d F F'){p x y s:Int}(j:Jo d F k p x q y)(l:y<=s):∃u,u<=-x/\Jo d F' k q (-s) p u:=by
 obtain⟨u,lu,j'⟩:=j.turnW h.hd h.w2 h.b1
 obtain⟨u',lu',j2⟩:=j'.earlyW h.hd h.w2 (t':=-s) ⋯
 exact⟨u',⋯,j2⟩
def LateJ(d:Int)(F:List RdT)(p q s:Int)(o:Option Int):Prop:=(∀x,o=some x->(∃k y,Jo d F k p x q y/\y<=s)/\∀x' k y,Jo d F k p x' q y->y<=s->x'<=x)/\(o=none->∀k x y,¬Jo d F k p x q y)
def WaitJ(d:Int)(F:List RdT)(p q:Int)(o:Option Int):Prop:=(∀w,o=some w->(∀x,∃k y,Jo d F k p x q y/\y<=x+w)/\∃x,∀k y,Jo d F k p x q y->x+w<=y)/\(o=none->∀k x y,¬Jo d F k p x q y)
def negO(o:Option Int):Option Int:=o.map λ x=>-x
theorem Tw.late(h:Tw d F F'){p s:Int}{o':Option Int}(a:LateJ d F p q s o)(b:Mn (λ y=>∃k,Jo d F' k q (-s) p y) o'):o'=negO o:=by
 cases o with
 |none =>
  cases o' with
  |none=>rfl
  |some u =>
   obtain⟨⟨k,j⟩,_⟩:=b.1 u rfl
   obtain⟨v,_,j'⟩:=h.symm.jo j (zau _)
   exact absurd j' (a.2 rfl _ _ _)
 |some x =>
  obtain⟨⟨k,y,j,ly⟩,mx⟩:=a.1 x rfl
  obtain⟨u0,lu0,j0⟩:=h.jo j ly
  cases o' with
  |none=>exact absurd ⟨k,j0⟩ (b.2 rfl u0)
  |some u =>
   obtain⟨⟨k',j'⟩,le⟩:=b.1 u rfl
   have l1:=le u0 ⟨k,j0⟩
   obtain⟨v,lv,j2⟩:=h.symm.jo j' (zau _)
   have l2:=mx (-u) k' v j2 ⋯
   show some u=some (-x)
   congr 1
   omega
theorem Tw.wait_le(h:Tw d F F'){p w w':Int}(a:WaitJ d F p q (some w))(b:WaitJ d F' q p (some w')):w'<=w:=by
 obtain⟨x',hx'⟩:=(b.1 w' rfl).2
 obtain⟨k,y,j,ly⟩:=(a.1 w rfl).1 (-x'-w)
 obtain⟨u,lu,j'⟩:=h.jo j (s:=-x') ⋯
 rw[zep] at j'
 have:=hx' k u j'
 omega
theorem Tw.wait(h:Tw d F F'){p:Int}{o':Option Int}(a:WaitJ d F p q o)(b:WaitJ d F' q p o'):o=o':=by
 cases o with
 |none =>
  cases o' with
  |none=>rfl
  |some w' =>
   obtain⟨k,y,j,_⟩:=(b.1 w' rfl).1 0
   obtain⟨v,_,j'⟩:=h.symm.jo j (zau _)
   exact absurd j' (a.2 rfl _ _ _)
 |some w =>
  cases o' with
  |none =>
   obtain⟨k,y,j,_⟩:=(a.1 w rfl).1 0
   obtain⟨v,_,j'⟩:=h.jo j (zau _)
   exact absurd j' (b.2 rfl _ _ _)
  |some w' =>
   have h1:=h.wait_le a b
   have h2:=h.symm.wait_le b a
   congr 1
   omega
theorem tw_of(hd:0<d){N':List RdT}(W:∀m∈N,Ma.Wins d m.2.2.2)(hN:N'.map strip=N.map λ m=>(m.2.1,m.1,Ma.turnB d m.2.2.2)):Tw d N N':=by
 have of:∀x'∈N',∃x∈N,x'.1=x.2.1/\x'.2.1=x.1/\x'.2.2.2=Ma.turnB d x.2.2.2:=λ x' hx'=>by
  have:strip x'∈N.map λ m=>(m.2.1,m.1,Ma.turnB d m.2.2.2):=by rw[<- hN];exact zat.mpr ⟨x',hx',rfl⟩
  obtain⟨x,hx,e⟩:=zat.mp this
  simp only[strip,Prod.mk.injEq] at e
  exact⟨x,hx,e.1.symm,e.2.1.symm,e.2.2.symm⟩
 refine⟨hd,W,λ m' hm'=>?_,λ x hx=>?_,λ x' hx'=>?_⟩
 ·obtain⟨x,hx,_,_,e⟩:=of m' hm'
  rw[e]
  exact Ma.turnB_win hd (W x hx)
 ·have:(x.2.1,x.1,Ma.turnB d x.2.2.2)∈N'.map strip:=by rw[hN];exact zat.mpr ⟨x,hx,rfl⟩
  obtain⟨x',hx',e⟩:=zat.mp this
  simp only[strip,Prod.mk.injEq] at e
  exact⟨x',hx',e.1,e.2.1,by rw[e.2.2];exact tn_turn hd (W x hx)⟩
 ·obtain⟨x,hx,e1,e2,e3⟩:=of x' hx'
  exact⟨x,hx,e2.symm,e1.symm,by rw[e3];exact(tn_turn hd (W x hx)).symm⟩
theorem LateJ.ren{ns:List Str}(h:Ren names ns N M){p s:Int}(op:OnRd N p)(oq:OnRd N q)(a:LateJ d M (h.f p) (h.f q) s o):LateJ d N p q s o:=⟨λ x e=>by
  obtain⟨⟨k,y,j,l⟩,m⟩:=a.1 x e
  exact⟨⟨k,y,h.oj op oq j,l⟩,λ x' k y j l=>m x' k y (h.jo j) l⟩,λ e k x y j=>a.2 e k x y (h.jo j)⟩
theorem WaitJ.ren{ns:List Str}(h:Ren names ns N M){p:Int}(op:OnRd N p)(oq:OnRd N q)(a:WaitJ d M (h.f p) (h.f q) o):WaitJ d N p q o:=⟨λ x e=>by
  obtain⟨m,y,l⟩:=a.1 x e
  refine⟨λ x=>?_,y,λ k z j=>l k z (h.jo j)⟩
  obtain⟨k,y,j,l⟩:=m x
  exact⟨k,y,h.oj op oq j,l⟩,λ e k x y j=>a.2 e k x y (h.jo j)⟩
inductive spLate(T:Hp->Prop)(C:Addr)(vs:List V)(H:Hp)(Q:VK)(z3q:XK):Prop
 |mk (x pl pv:Addr) (d:Int) (ns:List Str) (M:List RdT) (i j:Nat) (t:Int):vs=[.ref x,.ref pl,.ref pv]->BtIn T C H x pl d ns M i j->H pv=some (.lst [.int t])->(Part.moment t).ok 0->(∀(o:Option Int)(H':Hp),SameU H H'->T H'->LateJ d M i j t o->(∀y,o=some y->y.natAbs<10000000000000000000000000000000000000000)->Q (.str (qpc9 o)) H')->spLate T C vs H Q z3q
def longT:Option (Int×Int)->Str
 |none => "never"
 |some x=>zci " " [numT x.1,numT x.2]
inductive spLong(T:Hp->Prop)(C:Addr)(vs:List V)(H:Hp)(Q:VK)(z3q:XK):Prop
 |mk (x pl pv:Addr) (d:Int) (ns:List Str) (M:List RdT) (i j:Nat):vs=[.ref x,.ref pl,.ref pv]->BtIn T C H x pl d ns M i j->(∀(o:Option (Int×Int)) (H':Hp),SameU H H'->T H'->WaitJ d M i j (o.map (·.2))->(∀y,o=some y->(0<=y.1/\y.1<1000000000000000)/\0<=y.2/\y.2<=10000000000000000)->Q (.str (longT o)) H')->spLong T C vs H Q z3q
theorem SoonC.late{j:Nat}(h:SoonC d n M i j R){x:Int}(n0:R≠[])(g:∀z y,Ma.bt d R z=some y->(y<=t↔z<=x)):LateJ d M i j t (some x)/\x<=t/\t-10000000000000000<=x:=by
 obtain⟨y,hy⟩:=bt_some (d:=d) n0 x
 have ly:=(g x y hy).mpr (zau _)
 have b:=h.bd x y hy
 refine⟨⟨λ x' e=>?_,λ e=>(nomatch e)⟩,⋯,?_⟩
 ·cases e
  obtain⟨k,j'⟩:=((h.mn x).1 y hy).1
  refine⟨⟨k,y,j',ly⟩,λ z k y j l=>?_⟩
  have m:=h.mn z
  cases e:Ma.bt d R z with
  |none =>
   rw[e] at m
   exact absurd ⟨k,j⟩ (m.2 rfl y)
  |some y1 =>
   rw[e] at m
   have l1:=(m.1 y1 rfl).2 y ⟨k,j⟩
   exact(g z y1 e).mp ⋯
 ·obtain⟨y',hy'⟩:=bt_some (d:=d) n0 (t-10000000000000000)
  have b':=h.bd _ y' hy'
  exact(g _ y' hy').mp ⋯
theorem SoonC.none{j:Nat}(h:SoonC d n M i j R)(e:R=[]):∀k x y,¬Jo d M k i x j y:=λ k x y j=>by
 have:=h.mn x
 rw[e] at this
 exact this.2 rfl y ⟨k,j⟩
section
variable {f:Addr}
theorem ok_late(G:DkT K C)(F:Fun K "latest_row" "latest_row" qcd9 f fd)(Cy0:Callee P w K mg base n "shown" ["moment"] spShown)(Cn2:Callee P w K mg base n "leave" ["day","clock","s"] (spLeaveT T))(Cc0:Callee P w K mg base n "clock_between" ["desk","places"] (spBetw T C)):FnOk P w K mg base CX0 (n+1) f fd ["desk","places","values"] (spLate T C):=by
 refine F.okQ qks9 ?_ ?_
 walk_at "o"
 obtain⟨x,pl,pv,d,ns,M,i,j,t,rfl,b,hv,ht,q⟩:=h
 refine⟨_,(qae9 (qal9 (qe_fn Cy0 hr U (qa_c (qe_fn Cn2 hr U (qa_c (qiy9 (qv 0)) (qa_c (qe_fn Cc0 hr U (qa_c (qv 0) (qa_c (qv 1) qac9))) (qa_c (qe_ix qak9 (qv 2) qad9 Y9) qac9)))) qac9)))),?_⟩
 walk_at "d"
 obtain⟨dx,pn,pr,hx,hn,hM⟩:=b.dk.ex
 refine⟨_,U,x,C,dx,_,_,U,hx,G.cl,G.nd,U,_,U,_,U,x,pl,d,ns,M,i,j,U,b,λ rc R H1 u1 t1 la sc=>?_⟩
 refine⟨_,U,pv,_,_,_,U,U,SqL.of (u1.lst hv),(rfl:atI [V.int t] 0=_),d,rc,t,R,U,la,t1,sc.ck,λ e=>?_,λ x0 H2 n0 u2 t2 g=>?_⟩
 ·have nb:∀y,(none:Option Int)=some y->y.natAbs<10000000000000000000000000000000000000000:=λ y e=>(nomatch e)
  exact⟨none,rfl,nb,q none H1 u1 t1 ⟨λ x e=>(nomatch e),λ _=>sc.none e⟩ nb⟩
 ·obtain⟨l,l1,l2⟩:=sc.late n0 g
  have bd:∀y,some x0=some y->y.natAbs<10000000000000000000000000000000000000000:=λ y e=>by
   cases e
   have h1:=ht.1
   have h2:=ht.2
   omega
  exact⟨some x0,U,bd,q _ H2 (u1.trans u2) t2 l bd⟩
theorem qsc9(G:DkT K C)(hTB:TB T)(F:Fun K "longest_row" "longest_row" qbx9 f fd)(B:Bl mg)(Cc2:Callee P w K mg base n "longest" ["day","clock"] spLongest)(Cc0:Callee P w K mg base n "clock_between" ["desk","places"] (spBetw T C)):FnOk P w K mg base CX0 (n+1) f fd ["desk","places","values"] (spLong T C):=by
 refine F.okQ sc_longest_row ?_ ?_
 walk_at "o"
 obtain⟨x,pl,pv,d,ns,M,i,j,rfl,b,q⟩:=h
 refine⟨_,(qab9 (qai9 (i:=3) sc_longest_row.nd U (zaf U) (qe_fn Cc2 hr U (qa_c (qiy9 (qv 0)) (qa_c (qe_fn Cc0 hr U (qa_c (qv 0) (qa_c (qv 1) qac9))) qac9)))) (qae9 (qal9 (qbt9 (qfq9 (qv 3)) qbe9 (qpn9 qbe9 (qa_c (qdh9 (qa_c (qe_ct qbw9 U B.str_ qeu9 (qa_c (qe_ix qan9 (qv 3) qad9 Y9) qac9)) (qa_c (qe_ct qbw9 U B.str_ qeu9 (qa_c (qe_ix qan9 (qv 3) qad9 Y9) qac9)) qac9))) qac9)))))),?_⟩
 walk_at "d"
 obtain⟨dx,pn,pr,hx,hn,hM⟩:=b.dk.ex
 refine⟨_,U,x,C,dx,_,_,U,hx,G.cl,G.nd,U,_,U,_,U,x,pl,d,ns,M,i,j,U,b,λ rc R H1 u1 t1 la sc=>?_⟩
 refine⟨d,rc,R,U,la,sc.len,sc.ck,λ e H2 s2=>?_,λ n0 r t0 w0 H2 s2 er lg=>?_⟩
 ·exact⟨_,rfl,_,rfl,iteP (by rfl) (q none H2 (u1.trans (SameU.of s2)) (hTB.same _ _ t1 s2) ⟨λ x e=>(nomatch e),λ _=>sc.none e⟩ λ y e=>(nomatch e))⟩
 ·have d2:=b.d2
  have hd:0<d:=by have:=b.d1;omega
  have Te:=Ma.tells_bf (d:=d) n0
  have bd:=sc.bd t0 _ (Te t0)
  have a:=lg.at_
  have h0:=lg.t0
  have h1:=lg.t1
  have all:=lg.all hd (sc.ck.rise Te)
  have lt:=qmk9 (t:=t0) ⋯
  have lw:=qmk9 (t:=w0) ⋯
  have n1:=qgc9 (n:=t0) (m:=16) ⋯ (by decide) (by rw[show(10:Int) ^ 16=10000000000000000 by decide];omega)
  have n2:=qgc9 (n:=w0) (m:=17) ⋯ (by decide) (by rw[show(10:Int) ^ 17=100000000000000000 by decide];omega)
  refine⟨_,U,_,U,iteN (by simp) ?_⟩
  have a0:atI [V.int t0,V.int w0] 0=some (.int t0):=rfl
  have a1:atI [V.int t0,V.int w0] 1=some (.int w0):=rfl
  refine⟨U,_,U,r,_,_,_,U,U,SqT.of er,a0,t0,U,lt,_,U,r,_,_,_,U,U,SqT.of er,a1,w0,U,lw,z29,λ p hp=>?_⟩
  generalize hgH3:upd _ p _=H3
  revert H3
  refine qbb9 hp λ H3 s3 e3=>?_
  have e1:(" ":Str).length=1:=by decide
  refine⟨_,p,[numT t0,numT w0],U,U,SqL.of e3,qjr9 (B:=50) (λ y hy=>?_) (by rw[e1];show 2*50+2*1<=16777216;decide),?_⟩
  ·simp only[zah,zaw,or_false] at hy
   rcases hy with rfl|rfl<;>omega
  have ej:Txt.join " " [numT t0,numT w0]=longT (some (t0,w0)):=by
   unfold Txt.join
   rw[StrLaws.glued_eq_join]
   rfl
  rw[ej]
  refine q (some (t0,w0)) H3 (u1.trans (SameU.of (s2.trans s3))) (hTB.same _ _ t1 (s2.trans s3)) ⟨λ x e=>?_,λ e=>(nomatch e)⟩ λ y e=>?_
  ·cases e
   refine⟨λ x=>?_,t0,λ k y j=>?_⟩
   ·obtain⟨k,j⟩:=((sc.mn x).1 _ (Te x)).1
    have:=all x
    exact⟨k,_,j,by show _<=x+w0;omega⟩
   ·have:=((sc.mn t0).1 _ (Te t0)).2 y ⟨k,j⟩
    show t0+w0<=y
    omega
  ·cases e
   exact⟨⟨h0,by show t0<_;omega⟩,by show 0<=w0;omega,by show w0<=_;omega⟩
end
inductive spTurnK(vs:List V)(H:Hp)(Q:VK)(z3q:XK):Prop
 |mk (d:Int) (pr:Addr) (N:List RdT):vs=[.int d,.ref pr]->NA H pr N->1<=d->N.length<=16->((∀m∈N,m.2.2.2.length<=16))->(∀(r:Addr)(M:List RdT)(H':Hp),Same H H'->NA H' r M->M.map strip=N.map (λ m=>(m.2.1,m.1,Ma.turnB d m.2.2.2))->Q (.ref r) H')->spTurnK vs H Q z3q
theorem qsf9{x:T3}(h:R[i]?=some x):Ma.turnB d (R.take (i+1))=Ma.turnB d (R.take i)++Ma.turnW d x:=by
 rw[zbw,h]
 exact Ma.turnB_snoc d _ x
section
variable {f:Addr}
theorem ok_turnK(F:Fun K "_law_turned" "_law_turned" qcg9 f fd):FnOk P w K mg base CX0 (n+1) f fd ["day","roads"] spTurnK:=by
 refine F.okQ sc__law_turned ?_ ?_
 walk_at "o"
 obtain⟨d,pr,N,rfl,hN,d1,lN,lB,q⟩:=h
 refine⟨_,(qab9 (qai9 (i:=2) sc__law_turned.nd U (zaf U) (qdh9 qac9)) (qab9 (qfk9 PassesOwn.never U (qcp9 (qv 1)) (qgx9 U (qaq9 (qam9 (i:=3) sc__law_turned.nd U (zaf U)) (qaq9 (qam9 (i:=4) sc__law_turned.nd U (zaf U)) (qaq9 (qam9 (i:=5) sc__law_turned.nd U (zaf U)) qdz9)))) (qab9 (qai9 (i:=6) sc__law_turned.nd U (zaf U) (qdh9 qac9)) (qab9 (qfk9 PassesOwn.never U (qcp9 (qv 5)) (qgx9 U (qaq9 (qam9 (i:=7) sc__law_turned.nd U (zaf U)) (qaq9 (qam9 (i:=8) sc__law_turned.nd U (zaf U)) (qaq9 (qam9 (i:=9) sc__law_turned.nd U (zaf U)) qdz9)))) (qab9 (qai9 (i:=10) sc__law_turned.nd U (zaf U) (qe_op qay9 (qe_op qcc9 (qhi9 (qv 8)) (qv 9)) (qv 0))) (qab9 (qai9 (i:=11) sc__law_turned.nd U (zaf U) (qe_op qcc9 (qe_op qas9 (qv 10) (qv 8)) (qv 7))) (qae9 (qs_if (qaj9 qff9 (qv 11) (qv 0) (qat9 _)) (qae9 (qbm9 (qbh9 (qv 6) (qa_c (qca9 (qa_c (qv 10) (qa_c (qv 11) (qa_c (qv 9) qac9)))) qac9)))) (qab9 (qbm9 (qbh9 (qv 6) (qa_c (qca9 (qa_c (qv 10) (qa_c (qe_op qcc9 (qv 0) qad9) (qa_c (qv 9) qac9)))) qac9))) (qae9 (qbm9 (qbh9 (qv 6) (qa_c (qca9 (qa_c qad9 (qa_c (qe_op qcc9 (qv 11) (qv 0)) (qa_c (qv 9) qac9)))) qac9)))))))))) (qae9 (qbm9 (qbh9 (qv 2) (qa_c (qca9 (qa_c (qv 4) (qa_c (qv 3) (qa_c (qv 6) qac9)))) qac9))))))) (qae9 (qal9 (qv 2))))),?_⟩
 walk_at "d"
 refine⟨z09,λ pf hpf=>?_⟩
 have fpf:=hpf
 generalize hgH1:upd _ pf _=H1
 revert H1
 refine qbb9 hpf λ H1 s1 e1=>?_
 obtain⟨ws,hw1,hw2,hw3⟩:=hN.la.lst
 rw[zad] at hw2
 refine⟨_,U,pr,U,⟨_,SqL.of (s1 _ _ hw1)⟩,qdy9 (K:=K) (a:=pr) (xs:=ws) (λ i σ H'=>∃(M:List RdT)(v3 v4 v5 v6 v7 v8 v9 v10 v11:Option V),σ=[some (.int d),some (.ref pr),some (.ref pf),v3,v4,v5,v6,v7,v8,v9,v10,v11]/\Same H H'/\NA H' pf M/\M.length=i/\M.map strip=(N.take i).map (λ m=>(m.2.1,m.1,Ma.turnB d m.2.2.2)))
  ⟨[],_,_,_,_,_,_,_,_,_,rfl,s1,NA.nil e1,rfl,rfl⟩ (λ i σ H' _ h=>?_) ?_ ?_⟩
 ·obtain⟨_,_,_,_,_,_,_,_,_,_,_,s,_⟩:=h
  exact SqL.of (s _ _ hw1)
 ·intro i y σ H2 hi z9;obtain⟨M,v3,v4,v5,v6,v7,v8,v9,v10,v11,rfl,s2,hM,lM,eM⟩ := z9
  obtain⟨r,x,rfl,ex,er⟩:=hw3 i y hi
  have hi2:i<N.length:=by
   have:=(zab.mp hi).1
   omega
  have em:=zaa hi2
  rw[zap,em] at ex
  cases ex
  have hb:=(hN.bd _ (zbi hi2)).1
  have lb:=lB _ (zbi hi2)
  generalize hm:N[i]=m at *
  refine⟨r,_,U,SqT.of (s2 _ _ er),U,_,_,U,_,_,U,_,_,U,U,?_⟩
  refine⟨z09,λ pw hpw=>?_⟩
  have fb:=hM.fresh hpw
  have npf:pf≠pw:=fb.1.symm
  have fpw:=s2.free hpw
  obtain⟨bs,hb1,hb2,hb3⟩:=(hb.same s2).lst
  generalize hgH3:upd _ pw _=H3
  revert H3
  refine qbb9 hpw λ H3 s3 e3=>?_
  have nbw:m.2.2.1≠pw:=λ z=>by
   rw[z] at hb
   obtain⟨_,z1,_⟩:=hb.lst
   rw[fpw] at z1
   cases z1
  have hM3:=hM.same s3
  refine⟨_,U,m.2.2.1,U,⟨_,SqL.of (s3 _ _ hb1)⟩,qdy9 (K:=K) (a:=m.2.2.1) (xs:=bs) (λ j σ H'=>∃(v7 v8 v9 v10 v11:Option V),σ=[some (.int d),some (.ref pr),some (.ref pf),some (.int m.1),some (.int m.2.1),some (.ref m.2.2.1),some (.ref pw),v7,v8,v9,v10,v11]/\Same H2 H'/\LA enc3 H' pw (Ma.turnB d (m.2.2.2.take j)))
   ⟨_,_,_,_,_,rfl,s3,LA.nil e3⟩ (λ j σ H' _ h=>?_) ?_ ?_⟩
  ·obtain⟨_,_,_,_,_,_,s,_⟩:=h
   exact SqL.of (s _ _ hb1)
  ·intro j y σ H4 hj z9;obtain⟨v7,v8,v9,v10,v11,rfl,s4,hA⟩ := z9
   obtain⟨r2,x,rfl,ex,er2⟩:=hb3 j y hj
   have lj:=(zab.mp hj).1
   obtain⟨a,b,c⟩:=x
   refine⟨r2,_,U,SqT.of (s4 _ _ er2),U,_,_,U,_,_,U,_,_,U,U,?_⟩
   refine⟨_,U,_,U,_,U,_,_,U,U,_,U,_,_,U,U,(by show 0<d;omega),?_⟩
   refine⟨_,U,_,U,_,_,U,U,_,U,_,_,U,U,?_⟩
   refine⟨_,U,_,U,_,_,U,U,_,U,?_⟩
   obtain⟨zs,hz1,hz2,_⟩:=hA.lst
   have lz:=Ma.turnB_len d (m.2.2.2.take j)
   rw[zbc] at lz
   have et:=qsf9 (d:=d) ex
   refine ite2 (λ k=>?_) (λ k=>?_)
   ·have k:=oT9 k
    refine⟨_,U,.inl ⟨U,_,SqL.of hz1⟩,_,U,_,U,_,U,z39,λ r5 hr5=>?_⟩
    generalize hgH5:upd _ r5 _=H5
    revert H5
    refine qbb9 hr5 λ H5 s5 e5=>?_
    refine⟨pw,_,_,U,U,s5 _ _ hz1,qbf9 ⋯,_,_,_,_,_,U,qbl9 hpw (s4.trans s5),?_⟩
    rw[et,show Ma.turnW d (a,b,c)=[((-b-c)%d,(-b-c)%d+b-a,c)] by unfold Ma.turnW;exact if_pos k]
    exact(hA.same s5).append (s5 _ _ hz1) e5
   ·have k:¬((-b-c)%d+b-a<d):=λ z=>k (dT9 z)
    refine⟨_,U,.inl ⟨U,_,SqL.of hz1⟩,_,U,_,U,_,_,U,U,_,U,z39,λ r5 hr5=>?_⟩
    generalize hgH5:upd _ r5 _=H5
    revert H5
    refine qbb9 hr5 λ H5 s5 e5=>?_
    refine⟨pw,_,_,U,U,s5 _ _ hz1,qbf9 ⋯,?_⟩
    have hA6:=(hA.same s5).append (x:=((-b-c)%d,d-1,c)) (s5 _ _ hz1) e5
    have s6:Same H2 (upd H5 pw (.lst (zs++[.ref r5]))):=qbl9 hpw (s4.trans s5)
    have z6:upd H5 pw (.lst (zs++[.ref r5])) pw=some (.lst (zs++[.ref r5])):=qaf9
    generalize upd H5 pw (.lst (zs++[.ref r5]))=H6 at *
    refine⟨_,U,.inl ⟨U,_,SqL.of z6⟩,_,U,_,U,_,_,U,U,_,U,z39,λ r7 hr7=>?_⟩
    generalize hgH7:upd _ r7 _=H7
    revert H7
    refine qbb9 hr7 λ H7 s7 e7=>?_
    refine⟨pw,_,_,U,U,s7 _ _ z6,qbf9 (by simp;omega),_,_,_,_,_,U,qbl9 hpw (s6.trans s7),?_⟩
    rw[et,show Ma.turnW d (a,b,c)=[((-b-c)%d,d-1,c)]++[(0,(-b-c)%d+b-a-d,c)] by unfold Ma.turnW;exact if_neg k,<- zdq]
    exact(hA6.same s7).append (s7 _ _ z6) e7
  ·intro σ H4 z9;obtain⟨v7,v8,v9,v10,v11,rfl,s4,hA⟩ := z9
   rw[hb2,zbj] at hA
   have hM4:=hM.same s4
   obtain⟨us,hu1,hu2,_⟩:=hM4.la.lst
   rw[zad] at hu2
   refine⟨_,U,.inl ⟨U,_,SqL.of hu1⟩,_,U,_,U,_,U,z39,λ r5 hr5=>?_⟩
   generalize hgH5:upd _ r5 _=H5
   revert H5
   refine qbb9 hr5 λ H5 s5 e5=>?_
   refine⟨pf,_,_,U,U,s5 _ _ hu1,qbf9 ⋯,M++[(m.2.1,m.1,pw,Ma.turnB d m.2.2.2)],_,_,_,_,_,_,_,_,_,U,qbl9 fpf ((s2.trans s4).trans s5),(hM4.same s5).add fb (s5 _ _ hu1) (hA.same s5) e5,by simp[lM],?_⟩
   rw[zba,eM,qfj9 (λ m=>(m.2.1,m.1,Ma.turnB d m.2.2.2)) em]
   rfl
 ·intro σ H2 z9;obtain⟨M,v3,v4,v5,v6,v7,v8,v9,v10,v11,rfl,s2,hM,lM,eM⟩ := z9
  rw[hw2,zbj] at eM
  exact⟨_,U,q pf M H2 s2 hM eM⟩
inductive spMirror(vs:List V)(H:Hp)(Q:VK)(z3q:XK):Prop
 |mk (o:Option Int):vs=[.str (qpc9 o),.str (qpc9 (negO o))]->((∀y,o=some y->y.natAbs<10000000000000000000000000000000000000000))->Q (.bl true) H->spMirror vs H Q z3q
theorem num_never:numT t≠"never" := λ e=>by
 have:=qib9 (t:=t) (c:=110) ⟨.inr ⋯,⋯⟩
 rw[e] at this
 exact this (by decide +kernel)
theorem ok_mirror(F:Fun K "_law_mirrored" "_law_mirrored" qbs9 f fd)(B:Bl mg)(Ct0:Callee P w K mg base n "_law_number" ["text"] spNumberB):FnOk P w K mg base CX0 (n+1) f fd ["found","beside"] spMirror:=by
 refine F.okQ sc__law_mirrored ?_ ?_
 walk_at "o"
 obtain⟨o,rfl,hb,q⟩:=h
 refine⟨_,(qab9 (qs_if (qfc9 (QW.pt (qw_or (qaj9 qbr9 (qv 0) qbe9 (qat9 _)) (qew9 (qaj9 qbr9 (qv 1) qbe9 (qat9 _)))))) (qae9 (qal9 (qhl9 (qe_cb qch9 U B.isinstance qbc9 (qa_c (qv 0) (qa_c (qfh9 (v:=.ty "str") U B.str_ qeu9 U) qac9))) (qhl9 (qe_cb qch9 U B.isinstance qbc9 (qa_c (qv 1) (qa_c (qfh9 (v:=.ty "str") U B.str_ qeu9 U) qac9))) (qke9 (qfg9 qbr9 (qv 0) (qv 1) (qat9 _))))))) qao9) (qab9 (qai9 (i:=2) sc__law_mirrored.nd U (zaf U) (qe_fn Ct0 hr U (qa_c (qv 0) qac9))) (qab9 (qai9 (i:=3) sc__law_mirrored.nd U (zaf U) (qe_fn Ct0 hr U (qa_c (qv 1) qac9))) (qae9 (qal9 (qhl9 (qqv9 (qv 2)) (qhl9 (qqv9 (qv 3)) (qke9 (qfg9 qbr9 (qv 2) (qhi9 (qv 3)) (qat9 _)))))))))),?_⟩
 walk_at "d"
 cases o with
 |none =>
  refine⟨λ b H'=>b=true/\H'=H,⟨_,U,U,_,U,iteP (dT9 rfl) ⟨U,U⟩⟩,?_⟩
  intro b H1 z9;obtain⟨rfl,rfl⟩ := z9
  refine iteT ?_
  exact⟨_,U,_,"str",_,_,U,.str _,U,_,U,iteT ⟨_,U,_,"str",_,_,U,.str _,U,_,U,iteT ⟨_,U,_,U,U,q⟩⟩⟩
 |some y =>
  have ne:∀t:Int,decide (V.str (numT t)=V.str "never")=false:=λ t=>decide_eq_false λ e=>num_never (by injection e)
  refine⟨λ b H'=>b=false/\H'=H,⟨_,U,U,_,U,iteN (by rw[show qpc9 (some y)=numT y from rfl,ne];simp) ⟨_,U,U,_,U,ne (-y),U⟩⟩,?_⟩
  intro b H1 z9;obtain⟨rfl,rfl⟩ := z9
  refine iteF ?_
  have h1:=hb y rfl
  refine⟨_,U,y,U,h1,⟨_,U,-y,U,⋯,?_⟩⟩
  refine⟨_,U,_,U,iteT ⟨_,U,_,U,iteT ⟨_,U,_,U,_,U,U,?_⟩⟩⟩
  rw[dT9 (show V.int y=V.int (-(-y)) by rw[zep])]
  exact q
theorem qfs9{x:Int×Int}:Txt.split (longT (some x)) " "=[numT x.1,numT x.2]:=by
 refine qhe9 (c:=32) (cs:=[]) (by decide +kernel) (by simp) (by decide +kernel) (by simp) λ z hz=>?_
 simp only[zah,zaw,or_false] at hz
 rcases hz with rfl|rfl<;>exact qib9 ⟨⋯,⋯⟩
theorem qsj9{x:Int×Int}:longT (some x)≠"never" := λ e=>by
 have h:=qfs9 (x:=x)
 rw[e] at h
 have:Txt.split "never" " "=([("never":Str)]:List Str):=by decide +kernel
 rw[this] at h
 have:=congrArg zfb h
 exact absurd this (by show ¬1=2;decide)
inductive spWaitW(vs:List V)(H:Hp)(Q:VK)(z3q:XK):Prop
 |mk (o o':Option (Int×Int)):vs=[.str (longT o),.str (longT o')]->o.map (·.2)=o'.map (·.2)->((∀y,o=some y->(0<=y.1/\y.1<1000000000000000)/\0<=y.2/\y.2<=10000000000000000))->((∀y,o'=some y->(0<=y.1/\y.1<1000000000000000)/\0<=y.2/\y.2<=10000000000000000))->(∀H',Same H H'->Q (.bl true) H')->spWaitW vs H Q z3q
theorem qrq9{x:Int×Int}(h:(0<=x.1/\x.1<1000000000000000)/\0<=x.2/\x.2<=10000000000000000):(longT (some x)).length<=1000:=by
 have n1:=qgc9 (n:=x.1) (m:=16) ⋯ (by decide) (by rw[show(10:Int) ^ 16=10000000000000000 by decide];omega)
 have n2:=qgc9 (n:=x.2) (m:=17) ⋯ (by decide) (by rw[show(10:Int) ^ 17=100000000000000000 by decide];omega)
 have h1:=StrLaws.join_length_le " " [numT x.1,numT x.2]
 have h2:=StrLaws.sumLen_le (B:=20) [numT x.1,numT x.2] λ y hy=>by
  simp only[zah,zaw,or_false] at hy
  rcases hy with rfl|rfl<;>omega
 rw[show((" ":Str)).length=1 by decide] at h1
 have e:longT (some x)=zci " " [numT x.1,numT x.2]:=rfl
 have e2:[numT x.1,numT x.2].length=2:=rfl
 rw[e2] at h1 h2
 rw[e]
 omega
theorem ok_waits(F:Fun K "_law_waits" "_law_waits" qcu9 f fd)(B:Bl mg)(Ct0:Callee P w K mg base n "_law_number" ["text"] spNumberB):FnOk P w K mg base CX0 (n+1) f fd ["found","beside"] spWaitW:=by
 refine F.okQ sc__law_waits ?_ ?_
 walk_at "o"
 obtain⟨o,o',rfl,eo,h1,h2,q⟩:=h
 refine⟨_,(qab9 (qs_if (qfc9 (QW.pt (qw_or (qdv9 (qcb9 (qe_cb qch9 U B.isinstance qbc9 (qa_c (qv 0) (qa_c (qfh9 (v:=.ty "str") U B.str_ qeu9 U) qac9))))) (qew9 (qdv9 (qcb9 (qe_cb qch9 U B.isinstance qbc9 (qa_c (qv 1) (qa_c (qfh9 (v:=.ty "str") U B.str_ qeu9 U) qac9))))))))) (qae9 (qal9 qe_bl)) qao9) (qab9 (qs_if (qfc9 (QW.pt (qw_or (qaj9 qbr9 (qv 0) qbe9 (qat9 _)) (qew9 (qaj9 qbr9 (qv 1) qbe9 (qat9 _)))))) (qae9 (qal9 (qfg9 qbr9 (qv 0) (qv 1) (qat9 _)))) qao9) (qab9 (qai9 (i:=2) sc__law_waits.nd U (zaf U) (qir9 K U (qv 0) (qa_c qbe9 qac9))) (qab9 (qai9 (i:=3) sc__law_waits.nd U (zaf U) (qir9 K U (qv 1) (qa_c qbe9 qac9))) (qae9 (qal9 (qhl9 (qfg9 qbr9 (qe_cb qau9 U B.len qce9 (qa_c (qv 2) qac9)) qad9 (qat9 _)) (qhl9 (qfg9 qbr9 (qe_cb qau9 U B.len qce9 (qa_c (qv 3) qac9)) qad9 (qat9 _)) (qhl9 (qqv9 (qe_fn Ct0 hr U (qa_c (qe_ix qak9 (qv 2) qad9 Y9) qac9))) (qke9 (qfg9 qbr9 (qe_ix qak9 (qv 2) qad9 Y9) (qe_ix qak9 (qv 3) qad9 Y9) (qat9 _)))))))))))),?_⟩
 walk_at "d"
 refine⟨λ b H'=>b=false/\H'=H,⟨_,U,_,"str",_,_,U,.str _,U,_,U,iteF ⟨_,U,_,"str",_,_,U,.str _,U,_,U,U,U⟩⟩,?_⟩
 intro b H1 z9;obtain⟨rfl,rfl⟩ := z9
 refine iteF ?_
 cases o with
 |none =>
  cases o' with
  |some y=>cases eo
  |none =>
   refine⟨λ b H'=>b=true/\H'=H1,⟨_,U,U,_,U,iteP (dT9 rfl) ⟨U,U⟩⟩,?_⟩
   intro b H2 z9;obtain⟨rfl,rfl⟩ := z9
   exact iteT ⟨_,rfl,_,rfl,rfl,q _ (Same.refl _)⟩
 |some x =>
  cases o' with
  |none=>cases eo
  |some y =>
   have ne:∀t:Int×Int,decide (V.str (longT (some t))=V.str "never")=false:=λ t=>decide_eq_false λ e=>qsj9 (by injection e)
   refine⟨λ b H'=>b=false/\H'=H1,⟨_,U,U,_,U,iteN (by rw[ne];simp) ⟨_,U,U,_,U,ne y,U⟩⟩,?_⟩
   intro b H2 z9;obtain⟨rfl,rfl⟩ := z9
   refine iteF ?_
   have l1:=qrq9 (h1 x rfl)
   have l2:=qrq9 (h2 y rfl)
   refine⟨_,U,U,_,_,U,U,by decide,L.le ⋯,qfx9 ⋯,L.le (by rw[qfs9];show 2<=_;omega),λ p1 hp1=>?_⟩
   rw[qfs9]
   generalize hgH3:upd _ p1 _=H3
   revert H3
   refine qbb9 hp1 λ H3 s3 e3=>?_
   have e3:H3 p1=some (.lst [.str (numT x.1),.str (numT x.2)]):=e3
   refine⟨_,U,U,_,_,U,U,by decide,L.le ⋯,qfx9 ⋯,L.le (by rw[qfs9];show 2<=_;omega),λ p2 hp2=>?_⟩
   rw[qfs9]
   generalize hgH4:upd _ p2 _=H4
   revert H4
   refine qbb9 hp2 λ H4 s4 e4=>?_
   have e4:H4 p2=some (.lst [.str (numT y.1),.str (numT y.2)]):=e4
   have e34:=s4 _ _ e3
   have b:=h1 x rfl
   have ew:x.2=y.2:=Option.some.inj eo
   have a1:atI [V.str (numT x.1),V.str (numT x.2)] 1=some (.str (numT x.2)):=rfl
   have a2:atI [V.str (numT y.1),V.str (numT y.2)] 1=some (.str (numT y.2)):=rfl
   refine⟨_,U,p1,_,U,.inl (SqL.of e34),U,_,U,iteT ⟨_,U,p2,_,U,.inl (SqL.of e4),U,_,U,iteT ?_⟩⟩
   refine⟨_,U,p1,_,_,_,U,U,SqL.of e34,a1,x.2,U,⋯,_,U,iteT ⟨_,U,p1,_,_,_,U,U,SqL.of e34,a1,_,U,p2,_,_,_,U,U,SqL.of e4,a2,U,?_⟩⟩
   rw[ew,dT9 (rfl:V.str (numT y.2)=V.str (numT y.2))]
   exact q _ (s3.trans s4)
end
structure NetW(d:Int)(n:Nat)(N:List RdT):Prop where
 rng:∀m∈N,(0<=m.1/\m.1<(n:Int))/\(0<=m.2.1/\m.2.1<(n:Int))/\WinsR d m.2.2.2/\m.2.2.2.length<=16
 len:N.length<=16
section
variable {ns:List Str}{p g:Int}
theorem NetW.tx(h:NetW d n N)(d2:d<=1000000000000000)(hn:names.length=n)(low:∀x∈names,Low x):NetTx names N:=⟨by have:=h.len;omega,λ x hx=>by have:=(low x hx).l8;omega,λ m hm=>by
 obtain⟨⟨a,b⟩,⟨c,e⟩,w,l⟩:=h.rng m hm
 refine⟨a,⋯,c,⋯,λ x hx=>?_,⋯⟩
 obtain⟨x0,x1,x2,x3,x4⟩:=w x hx
 exact⟨⟨x0,⋯⟩,⟨⋯,⋯⟩,⟨⋯,⋯⟩⟩⟩
theorem NetW.told(h:NetW d n N)(d1:1<=d)(d2:d<=1000000000000000)(hn:names.length=n)(low:∀x∈names,Low x):Told d (N.map (rdS names)):=⟨d1,d2,by rw[zad];have:=h.len;omega,λ q hq=>by
 obtain⟨m,hm,rfl⟩:=zat.mp hq
 obtain⟨⟨a,b⟩,⟨c,e⟩,w,l⟩:=h.rng m hm
 exact⟨low _ (qjd9 a ⋯),low _ (qjd9 c ⋯),w,by show m.2.2.2.length<=20;omega⟩⟩
theorem NetW.wins(h:NetW d n N):∀m∈N,Ma.Wins d m.2.2.2:=λ m hm w hw=>by
 obtain⟨x0,x1,x2,x3,x4⟩:=(h.rng m hm).2.2.1 w hw
 exact⟨x0,x1,x2,⋯⟩
theorem NetW.ends(h:NetW d n N)(hn:names.length=n):∀m∈N,(0<=m.1/\m.1<(names.length:Int))/\(0<=m.2.1/\m.2.1<(names.length:Int)):=λ m hm=>by
 have:=h.rng m hm
 rw[hn]
 exact⟨this.1,this.2.1⟩
theorem NetW.btin{x pl:Addr}(h:NetW d n N)(ren:Ren names ns N M)(d1:1<=d)(d2:d<=1000000000000000)(n4:names.length<=4)(dk:DeskAt C H x d ns M)(hT:T H)(op:OnRd N p)(og:OnRd N g)(e:H pl=some (.lst [.int (ren.f p),.int (ren.f g)])):BtIn T C H x pl d ns M (ren.f p) (ren.f g):=by
 have lM:=ren.lenM
 have ll:=h.len
 have ln:=ren.len
 refine⟨dk,hT,d1,d2,λ m hm=>?_,⋯,⋯,e,ren.lt op,ren.lt og⟩
 obtain⟨m0,hm0,a1,a2,a3⟩:=ren.of hm
 have l1:=ren.lt ⟨m0,hm0,.inl rfl⟩
 have l2:=ren.lt ⟨m0,hm0,.inr rfl⟩
 rw[a3]
 exact⟨⋯,⋯,(h.rng m0 hm0).2.2⟩
theorem row3g{w w':Str}(np ng:Str)(t:Int)(e:w'=w++" "):w'++(np++" "++ng)++" "++numT t=rowS w [.name np,.name ng,.moment t]:=by
 unfold rowS
 rw[qhz9,e]
 show _=w++" "++np++" "++ng++" "++numT t
 simp only[zeg]
theorem row2g{w w':Str}(np ng:Str)(e:w'=w++" "):w'++(np++" "++ng)=rowS w [.name np,.name ng]:=by
 unfold rowS
 rw[qhz9,e]
 show _=w++" "++np++" "++ng
 simp only[zeg]
theorem say3{x:Addr}{R:List RowE}{e:RowE}{E:XK}{w:Str}{row:Str}(he:e∈R)(hw:e.w=w)(hk:e.ks=[("name":Str),("name":Str),("moment":Str)])(dk:DeskAt C H x d ns M)(ren:Ren names ns N M)(n4:names.length<=4)(low:∀x∈names,Low x)(op:OnRd N p)(og:OnRd N g)(tok:(Part.moment t).ok 0)(er:row=rowS w [.name (nmT names p),.name (nmT names g),.moment t])
  (k:∀(pl pv:Addr)(H':Hp),Same H H'->H' pl=some (.lst [.int (ren.f p),.int (ren.f g)])->H' pv=some (.lst [.int t])->e.sp [.ref x,.ref pl,.ref pv] H' Q E0):spSay C R [.ref x,.str row] H Q E:=by
 obtain⟨inP,p0,p1⟩:=ren.on op
 obtain⟨inG,g0,g1⟩:=ren.on og
 have ln:=ren.len
 refine⟨x,d,ns,M,e,[.name (nmT names p),.name (nmT names g),.moment t],by rw[hw,er],he,by rw[hk];rfl,λ q hq=>?_,(by show 3<=8;decide),dk,λ z hz=>?_,⋯,λ pl pv us H6 s6 ePl ePv vp=>?_⟩
 ·simp only[zah,zaw,or_false] at hq
  rcases hq with rfl|rfl|rfl
  ·exact low _ (qjd9 p0 p1)
  ·exact low _ (qjd9 g0 g1)
  ·exact tok
 ·have hz:z∈[nmT names p,nmT names g]:=hz
  simp only[zah,zaw,or_false] at hz
  rcases hz with rfl|rfl
  ·exact inP
  ·exact inG
 have eU:us=[.int t]:=by
  obtain⟨l,h⟩:=vp
  have l:us.length=1:=l
  match us,l with
  | [v],_ =>
   have:=h 0 v (.moment t) rfl rfl
   rw[show v=.int t from this]
 subst eU
 exact k pl pv H6 s6 ePl ePv
theorem say2{x:Addr}{R:List RowE}{e:RowE}{E:XK}{w:Str}{row:Str}(he:e∈R)(hw:e.w=w)(hk:e.ks=[("name":Str),("name":Str)])(dk:DeskAt C H x d ns M)(ren:Ren names ns N M)(n4:names.length<=4)(low:∀x∈names,Low x)(op:OnRd N p)(og:OnRd N g)(er:row=rowS w [.name (nmT names p),.name (nmT names g)])
  (k:∀(pl pv:Addr)(H':Hp),Same H H'->H' pl=some (.lst [.int (ren.f p),.int (ren.f g)])->e.sp [.ref x,.ref pl,.ref pv] H' Q E0):spSay C R [.ref x,.str row] H Q E:=by
 obtain⟨inP,p0,p1⟩:=ren.on op
 obtain⟨inG,g0,g1⟩:=ren.on og
 have ln:=ren.len
 refine⟨x,d,ns,M,e,[.name (nmT names p),.name (nmT names g)],by rw[hw,er],he,by rw[hk];rfl,λ q hq=>?_,(by show 2<=8;decide),dk,λ z hz=>?_,⋯,λ pl pv us H6 s6 ePl ePv vp=>k pl pv H6 s6 ePl⟩
 ·simp only[zah,zaw,or_false] at hq
  rcases hq with rfl|rfl
  ·exact low _ (qjd9 p0 p1)
  ·exact low _ (qjd9 g0 g1)
 ·have hz:z∈[nmT names p,nmT names g]:=hz
  simp only[zah,zaw,or_false] at hz
  rcases hz with rfl|rfl
  ·exact inP
  ·exact inG
theorem GNet.nw(h:GNet d n N):NetW d n N:=⟨λ m hm=>by
 obtain⟨a,b,w⟩:=h.rng m hm
 have:=qml9 hm
 have:=h.ws
 exact⟨a,b,w,⋯⟩,by have:=h.len;omega⟩
end
theorem qqq9{x dx:Addr}(fx:H x=none)(fdx:H dx=none):Same H (upd (upd H dx (.own x)) x (.ins C dx [])):=λ b o e=>by
 rw[qap9 (qaz9 e fx),qap9 (qaz9 e fdx)]
 exact e
theorem turn_nw{N2:List RdT}(hd:0<d)(h:GNet d n N)(e:N2.map strip=N.map λ m=>(m.2.1,m.1,Ma.turnB d m.2.2.2)):NetW d n N2:=by
 refine⟨λ m' hm'=>?_,?_⟩
 ·have:strip m'∈N.map λ m=>(m.2.1,m.1,Ma.turnB d m.2.2.2):=by rw[<- e];exact zat.mpr ⟨m',hm',rfl⟩
  obtain⟨m,hm,z⟩:=zat.mp this
  simp only[strip,Prod.mk.injEq] at z
  obtain⟨a,b,w⟩:=h.rng m hm
  have l1:=qml9 hm
  have l2:=h.ws
  have l3:=Ma.turnB_len d m.2.2.2
  rw[<- z.1,<- z.2.1,<- z.2.2]
  refine⟨b,a,λ x hx=>?_,⋯⟩
  obtain⟨⟨ua,ub,uc⟩,hu,hx⟩:=Ma.turnB_mem.mp hx
  obtain⟨u0,u1,u2,u3,u4⟩:=w _ hu
  obtain⟨x0,x1,x2,_,x4⟩:=Ma.turnW_win hd u1 u2 u0 (show 0<=uc by have:1<=uc:=u3;omega) x hx
  have u3:1<=uc:=u3
  have u4:uc<=1000000000000000:=u4
  exact⟨x0,x1,x2,⋯,⋯⟩
 ·have:=congrArg zfb e
  rw[zad,zad] at this
  have:=h.len
  omega
theorem qof9{N2:List RdT}{x:Int}(e:N2.map strip=N.map λ m=>(m.2.1,m.1,Ma.turnB d m.2.2.2))(h:OnRd N x):OnRd N2 x:=by
 obtain⟨m,hm,hx⟩:=h
 have:(m.2.1,m.1,Ma.turnB d m.2.2.2)∈N2.map strip:=by rw[e];exact zat.mpr ⟨m,hm,rfl⟩
 obtain⟨m',hm',z⟩:=zat.mp this
 simp only[strip,Prod.mk.injEq] at z
 exact⟨m',hm',hx.elim (λ a=>.inr (by rw[a,z.2.1])) λ a=>.inl (by rw[a,z.1])⟩
section
variable {f:Addr}{R:List RowE}{eS eL eW eN:RowE}
theorem ok_law{tabs:List (Addr×Addr)}(hTB:TB T)(h0:∀H:Hp,(∀t∈tabs,H t.2=some (.tbl #[]))->T H)(hS:eS∈R/\eS.w="soonest" /\ eS.ks=[("name":Str),("name":Str),("moment":Str)]/\eS.sp=spSoon T C)(hL:eL∈R/\eL.w="latest" /\ eL.ks=[("name":Str),("name":Str),("moment":Str)]/\eL.sp=spLate T C)(hW:eW∈R/\eW.w="longest" /\ eW.ks=[("name":Str),("name":Str)]/\eW.sp=spLong T C)(hNr:eN∈R/\eN.w="net" /\ eN.ks=[]/\eN.sp=spNetRow C)(F:Fun K "law" "law" qje9 f fd)(B:Bl mg)(Cf0:Callee P w K mg base (n+1) "_law_cell_at" ["script","k"] (spCell K))(Cd3:Callee P w K mg base (n+1) "_law_net" ["script","start"] (spNetG K))(Ct2:Callee P w K mg base (n+1) "_law_names" ["cell","size"] spNamesB)(Ck2:Callee P w K mg base (n+1) "_law_text" ["day","names","roads"] spTextB)(Cx2:Callee P w K mg base (n+1) "_law_ends" ["roads","goal","cell"] spEndsB)
  (Cp2:Callee P w K mg base (n+1) "_law_turned" ["day","roads"] spTurnK) (Cl1:Callee P w K mg base (n+1) "_law_mirrored" ["found","beside"] spMirror) (Cu2:Callee P w K mg base (n+1) "_law_waits" ["found","beside"] spWaitW) (K_Desk:KCal P w K mg base n "Desk" C ["self","text"] (spDInit T C)) (Cx0:MCal P w K mg base (n+1) C "say" ["self","row"] (spSay C R)):FnOk P w K mg base CX0 (n+2) f fd ["script"] (spLaw K tabs):=by
 refine F.okQ sc_law ?_ ?_
 walk_at "o"
 obtain⟨a,ns,rfl,hSc,h63,hT,q⟩:=h
 have t0:=h0 H hT
 refine⟨_,(qab9 (qqd9 (qe_fn Cd3 hr U (qa_c (qv 0) (qa_c qad9 qac9))) (qgx9 U (qaq9 (qam9 (i:=1) sc_law.nd U (zaf U)) (qaq9 (qam9 (i:=2) sc_law.nd U (zaf U)) (qaq9 (qam9 (i:=3) sc_law.nd U (zaf U)) (qaq9 (qam9 (i:=4) sc_law.nd U (zaf U)) qdz9)))))) (qab9 (qai9 (i:=5) sc_law.nd U (zaf U) (qe_fn Ct2 hr U (qa_c (qe_fn Cf0 hr U (qa_c (qv 0) (qa_c qad9 qac9))) (qa_c (qv 2) qac9)))) (qab9 (qs_if (qaj9 (qop_eqD hr.units) (qv 3) (qdh9 qac9) (qat9 _)) (qae9 (qal9 (qfg9 qbr9 (qiu9 Cx0 hr (qpi9 K_Desk hr U (qa_c (qe_op qav9 qbe9 (qe_ct qbw9 U B.str_ qeu9 (qa_c (qv 1) qac9))) qac9)) (qa_c qbe9 qac9)) (qe_op qav9 qbe9 (qe_ct qbw9 U B.str_ qeu9 (qa_c (qv 1) qac9))) (qat9 _)))) qao9) (qab9 (qai9 (i:=6) sc_law.nd U (zaf U) (qpi9 K_Desk hr U (qa_c (qe_fn Ck2 hr U (qa_c (qv 1) (qa_c (qv 5) (qa_c (qv 3) qac9)))) qac9))) (qab9 (qai9 (i:=7) sc_law.nd U (zaf U) (qpi9 K_Desk hr U (qa_c (qe_fn Ck2 hr U (qa_c (qv 1) (qa_c (qv 5) (qa_c (qe_fn Cp2 hr U (qa_c (qv 1) (qa_c (qv 3) qac9))) qac9)))) qac9))) (qab9 (qqd9 (qe_fn Cx2 hr U (qa_c (qv 3) (qa_c (qv 4) (qa_c (qe_fn Cf0 hr U (qa_c (qv 0) (qa_c qad9 qac9))) qac9)))) (qgx9 U (qaq9 (qam9 (i:=8) sc_law.nd U (zaf U)) (qaq9 (qam9 (i:=4) sc_law.nd U (zaf U)) qdz9)))) (qab9 (qai9 (i:=9) sc_law.nd U (zaf U) (qe_op qcc9 (qe_op qay9 (qe_fn Cf0 hr U (qa_c (qv 0) (qa_c qad9 qac9))) (qe_op qfy9 qad9 (qe_op qkt9 qad9 qad9))) (qe_op qkt9 qad9 qad9))) (qab9 (qai9 (i:=10) sc_law.nd U (zaf U) (qe_op qav9 (qe_op qav9 (qe_ix qak9 (qv 5) (qv 8) Y9) qbe9) (qe_ix qak9 (qv 5) (qv 4) Y9))) (qab9 (qai9 (i:=11) sc_law.nd U (zaf U) (qe_op qav9 (qe_op qav9 (qe_ix qak9 (qv 5) (qv 4) Y9) qbe9) (qe_ix qak9 (qv 5) (qv 8) Y9))) (qab9 (qs_if (qdv9 (qcb9 (qe_fn Cl1 hr U (qa_c (qiu9 Cx0 hr (qv 6) (qa_c (qe_op qav9 (qe_op qav9 (qe_op qav9 qbe9 (qv 10)) qbe9) (qe_ct qbw9 U B.str_ qeu9 (qa_c (qv 9) qac9))) qac9)) (qa_c (qiu9 Cx0 hr (qv 7) (qa_c (qe_op qav9 (qe_op qav9 (qe_op qav9 qbe9 (qv 11)) qbe9) (qe_ct qbw9 U B.str_ qeu9 (qa_c (qhi9 (qv 9)) qac9))) qac9)) qac9))))) (qae9 (qal9 qe_bl)) qao9) (qab9 (qs_if (qdv9 (qcb9 (qe_fn Cl1 hr U (qa_c (qiu9 Cx0 hr (qv 6) (qa_c (qe_op qav9 (qe_op qav9 (qe_op qav9 qbe9 (qv 10)) qbe9) (qe_ct qbw9 U B.str_ qeu9 (qa_c (qv 9) qac9))) qac9)) (qa_c (qiu9 Cx0 hr (qv 7) (qa_c (qe_op qav9 (qe_op qav9 (qe_op qav9 qbe9 (qv 11)) qbe9) (qe_ct qbw9 U B.str_ qeu9 (qa_c (qhi9 (qv 9)) qac9))) qac9)) qac9))))) (qae9 (qal9 qe_bl)) qao9) (qae9 (qal9 (qe_fn Cu2 hr U (qa_c (qiu9 Cx0 hr (qv 6) (qa_c (qe_op qav9 qbe9 (qv 10)) qac9)) (qa_c (qiu9 Cx0 hr (qv 7) (qa_c (qe_op qav9 qbe9 (qv 11)) qac9)) qac9)))))))))))))))),?_⟩
 walk_at "d"
 refine⟨_,U,a,ns,3,U,hSc,by decide,λ r pr d N goal Ns H1 s1 er hN d1 d2 n1 n4 g0' g1 gn hfr=>?_⟩
 have hd:0<d:=⋯
 refine⟨r,_,U,SqT.of er,U,_,_,U,_,_,U,_,_,U,_,_,U,U,?_⟩
 refine⟨_,U,a,ns,0,U,s1.seq hSc,by decide,λ c0=>⟨_,U,c0,N,U,n4,λ pn names H2 s2 en ln low nd=>?_⟩⟩
 have s02:=s1.trans s2
 have hN2:=hN.same s2
 have nw:=gn.nw
 have sd:Sm d:=⟨⋯,⋯⟩
 have h1':=sd.len
 have e4d:("day ":Str).length=4:=by decide
 refine⟨_,U,z09,λ pe hpe=>?_⟩
 generalize hgH4:upd _ pe _=H4
 revert H4
 refine qbb9 hpe λ H4 s4 e4=>?_
 have hN4:=hN2.same s4
 have s04:=s02.trans s4
 refine⟨_,_,hN4.rd,(NA.nil e4).rd,shapedN _,shapedN _,_,U,ite2 (λ c=>?_) (λ c=>?_)⟩
 ·have ed:"day "++numT d=netS d []:=rfl
  refine⟨_,U,_,U,sd.log,_,_,U,U,L.le (by rw[e4d];omega),λ x dx fx fdx nex=>?_⟩
  have sX:=qqq9 (C:=C) fx fdx
  refine⟨x,dx,d,[],H4,U,qaf9,fx,sX,hTB.same _ _ t0 (s04.trans sX),⟨d1,d2,by simp,by simp⟩,λ H5 M s5 t5 dk eM fM=>⟨U,?_⟩⟩
  obtain⟨dx',pn',pr',hx,hn',hM⟩:=dk.ex
  have M0:M=[]:=by
   have e:M.map strip=[]:=eM
   exact List.map_eq_nil_iff.mp e
  subst M0
  refine⟨x,dx',_,U,hx,U,x,d,_,[],eN,[],by rw[hNr.2.1];rfl,hNr.1,by rw[hNr.2.2.1];rfl,by simp,by simp,dk,by simp,by show 0<=100;omega,λ pl pv us H6 s6 _ _ _=>?_⟩
  rw[hNr.2.2.2]
  refine⟨x,pl,pv,d,_,[],rfl,dk.same s6,sd,⟨by simp,(by intro x hx;cases hx),by simp⟩,λ H7 s7=>?_⟩
  refine⟨_,U,_,U,sd.log,_,_,U,U,L.le (by rw[e4d];omega),U,?_⟩
  have e:∀zs:List Str,netT d zs []="day "++numT d:=λ zs=>by
   unfold netT Txt.join
   rw[StrLaws.glued_eq_join,zcy]
   rfl
  rw[e,dT9 (rfl:V.str ("day "++numT d)=V.str ("day "++numT d))]
  exact q _
 have n0:Ns≠[]:=λ z=>by
  rw[z] at c
  exact c rfl
 have n4':names.length<=4:=⋯
 have en4:=s4 _ _ en
 refine⟨_,U,_,U,_,U,d,pn,pr,names,Ns,U,sd,en4,hN4,nw.tx d2 ln low,λ m hm x hx=>((nw.rng m hm).2.2.1 x hx).2.1,λ x dx fx fdx nex=>?_⟩
 have sX:=qqq9 (C:=C) fx fdx
 refine⟨x,dx,d,_,H4,U,qaf9,fx,sX,hTB.same _ _ t0 (s04.trans sX),nw.told d1 d2 ln low,λ H5 M s5 t5 dk eM fM=>⟨U,?_⟩⟩
 have hN5:=hN4.same s5
 have ren:=ren_of nd (nw.ends ln) eM
 generalize (rdAll (Ns.map (rdS names))).1=nsD at ren dk
 refine⟨_,U,_,U,_,U,_,U,d,pr,Ns,U,hN5,d1,nw.len,λ m hm=>(nw.rng m hm).2.2.2,λ r6 N2 H6 s6 hN6 e6=>?_⟩
 have nw2:=turn_nw hd gn e6
 have s46:=s5.trans s6
 refine⟨d,pn,r6,names,N2,U,sd,s46 _ _ en4,hN6,nw2.tx d2 ln low,λ m hm x hx=>((nw2.rng m hm).2.2.1 x hx).2.1,λ x2 dx2 fx2 fdx2 nex2=>?_⟩
 have sX2:=qqq9 (C:=C) fx2 fdx2
 refine⟨x2,dx2,d,_,H6,U,qaf9,fx2,sX2,hTB.same _ _ t5 (s6.trans sX2),nw2.told d1 d2 ln low,λ H7 M2 s7 t7 dk2 eM2 fM2=>⟨U,?_⟩⟩
 have ren2:=ren_of nd (nw2.ends ln) eM2
 generalize (rdAll (N2.map (rdS names))).1=nsD2 at ren2 dk2
 have s67:=s6.trans s7
 have s07:=s04.trans (s5.trans s67)
 have dk7:=dk.same s67
 have hN7:=hN5.same s67
 have tw:=tw_of hd nw.wins e6
 refine⟨_,U,_,U,_,U,a,ns,1,U,s07.seq hSc,by decide,λ c1=>⟨pr,Ns,goal,c1,U,hN7,n0,by have:=nw.len;omega,λ m hm=>?_,λ r8 p g H8 s8 e8 op og=>?_⟩⟩
 ·have:=nw.rng m hm
  omega
 have op2:=qof9 e6 op
 have og2:=qof9 e6 og
 obtain⟨inP,p0,p1⟩:=ren.on op
 obtain⟨inG,g0,g1⟩:=ren.on og
 refine⟨r8,_,U,SqT.of e8,U,_,_,U,_,_,U,U,?_⟩
 refine⟨_,U,a,ns,2,U,(s07.trans s8).seq hSc,by decide,λ c2=>?_⟩
 refine⟨_,_,U,U,⟨by decide,by decide,by decide⟩,_,_,U,U,.inl ⟨by decide,by decide⟩,_,_,U,U,(by show(0:Int)<2*10 ^ (29:Int).toNat;decide),_,_,U,U,⟨by decide,by decide,by decide⟩,_,_,U,U,?_⟩
 dsimp only
 have tb:=qet9 c2 (show(0:Int)<2*10 ^ (29:Int).toNat by decide)
 have p29:(10:Int) ^ (29:Int).toNat=100000000000000000000000000000:=by decide
 rw[p29] at tb ⊢
 generalize ht:c2%(2*100000000000000000000000000000)-100000000000000000000000000000=t
 have en8:H8 pn=some (.lst (names.map V.str)):=s8 _ _ (s67 _ _ (s5 _ _ en4))
 have lowP:=low _ (qjd9 p0 p1)
 have lowG:=low _ (qjd9 g0 g1)
 have lp:=lowP.l8
 have lg:=lowG.l8
 have e1:(" ":Str).length=1:=by decide
 refine⟨_,U,_,U,pn,_,_,_,U,U,SqL.of en8,at_nm p0 p1,_,_,U,U,L.le (by rw[e1];omega),_,U,_,U,pn,_,_,_,U,U,SqL.of en8,at_nm g0 g1,_,_,U,U,L.le (by simp only[zac,e1];omega),?_⟩
 refine⟨_,U,_,U,pn,_,_,_,U,U,SqL.of en8,at_nm g0 g1,_,_,U,U,L.le (by rw[e1];omega),_,U,_,U,pn,_,_,_,U,U,SqL.of en8,at_nm p0 p1,_,_,U,U,L.le (by simp only[zac,e1];omega),?_⟩
 generalize hσ:List.set _ 10 (some (V.str _))=σ0
 have e0:σ0=[some (.ref a),some (.int d),some (.int N),some (.ref pr),some (.int g),some (.ref pn),some (.ref x),some (.ref x2),some (.int p),some (.int t),some (.str (nmT names p++" "++nmT names g)),none]:=by
  rw[<- hσ]
  rfl
 clear hσ
 subst e0
 have tabs:t.natAbs<10000000000000000000000000000000000000000:=⋯
 have tabs':(-t).natAbs<10000000000000000000000000000000000000000:=⋯
 have nl:∀u:Int,u.natAbs<10000000000000000000000000000000000000000->(numT u).length<=41:=λ u hu=>by
  by_cases c:u<0
  ·have:=qgf9 (t:=-u) ⋯ ⋯
   rw[qha9 c,zac,show(("-":Str)).length=1 by decide]
   omega
  ·have:=qgf9 (t:=u) ⋯ hu
   omega
 have l1:=nl t tabs
 have l2:=nl (-t) tabs'
 have tok:(Part.moment t).ok 0:=⟨⋯,⋯⟩
 have tok':(Part.moment (-t)).ok 0:=⟨⋯,⋯⟩
 have eS8:("soonest ":Str).length=8:=by decide
 have eL7:("latest ":Str).length=7:=by decide
 have eW8:("longest ":Str).length=8:=by decide
 have dk8:=dk7.same s8
 have dk28:=dk2.same s8
 have t8:=hTB.same _ _ t7 s8
 obtain⟨dxA,pnA,prA,hxA,_⟩:=dk8.ex
 refine⟨_,U,x,dxA,_,U,hxA,U,_,U,_,_,U,U,L.le (by simp only[zac,e1,eL7];omega),_,_,U,U,L.le (by simp only[zac,e1,eL7];omega),_,U,_,U,qmk9 tabs,_,_,U,U,L.le (by have:(zbo (toString t)).length<=41:=l1;simp only[zac,e1,eL7];omega),?_⟩
 refine say3 (E:=E0) hL.1 hL.2.1 hL.2.2.1 dk8 ren n4' low op og tok (row3g _ _ _ (by decide +kernel)) λ pl pv H9 s9 ePl ePv=>?_
 rw[hL.2.2.2]
 refine⟨x,pl,pv,d,nsD,M,ren.f p,ren.f g,t,U,nw.btin ren d1 d2 n4' (dk8.same s9) (hTB.same _ _ t8 s9) op og ePl,ePv,tok,λ o1 H10 u10 t10 lj1 bd1=>?_⟩
 have dkA:=(dk8.same s9).u u10
 have dkB:=(dk28.same s9).u u10
 obtain⟨dxB,pnB,prB,hxB,_⟩:=dkB.ex
 refine⟨_,U,x2,dxB,_,U,hxB,U,_,U,_,_,U,U,L.le (by simp only[zac,e1,eS8];omega),_,_,U,U,L.le (by simp only[zac,e1,eS8];omega),_,U,_,U,_,U,qmk9 tabs',_,_,U,U,L.le (by have:(zbo (toString (-t))).length<=41:=l2;simp only[zac,e1,eS8];omega),?_⟩
 refine say3 (E:=E0) hS.1 hS.2.1 hS.2.2.1 dkB ren2 n4' low og2 op2 tok' (row3g _ _ _ (by decide +kernel)) λ pl pv H11 s11 ePl ePv=>?_
 rw[hS.2.2.2]
 refine⟨x2,pl,pv,d,nsD2,M2,ren2.f g,ren2.f p,-t,U,nw2.btin ren2 d1 d2 n4' (dkB.same s11) (hTB.same _ _ t10 s11) og2 op2 ePl,ePv,tok',λ o1' H12 u12 t12 mn1 _ bd1'=>?_⟩
 have E1:o1'=negO o1:=tw.late (lj1.ren ren op og) (mn1.congr λ y=>⟨λ⟨k,j⟩=>⟨k,ren2.oj og2 op2 j⟩,λ⟨k,j⟩=>⟨k,ren2.jo j⟩⟩)
 subst E1
 refine⟨o1,U,bd1,_,U,iteF ?_⟩
 have dkC:=(dkA.same s11).u u12
 have dkD:=(dkB.same s11).u u12
 clear hxA hxB dkA dkB dk8 dk28
 obtain⟨dxC,pnC,prC,hxC,_⟩:=dkC.ex
 refine⟨_,U,x,dxC,_,U,hxC,U,_,U,_,_,U,U,L.le (by simp only[zac,e1,eS8];omega),_,_,U,U,L.le (by simp only[zac,e1,eS8];omega),_,U,_,U,qmk9 tabs,_,_,U,U,L.le (by have:(zbo (toString t)).length<=41:=l1;simp only[zac,e1,eS8];omega),?_⟩
 refine say3 (E:=E0) hS.1 hS.2.1 hS.2.2.1 dkC ren n4' low op og tok (row3g _ _ _ (by decide +kernel)) λ pl pv H13 s13 ePl ePv=>?_
 rw[hS.2.2.2]
 refine⟨x,pl,pv,d,nsD,M,ren.f p,ren.f g,t,U,nw.btin ren d1 d2 n4' (dkC.same s13) (hTB.same _ _ t12 s13) op og ePl,ePv,tok,λ o2 H14 u14 t14 mn2 _ bd2=>?_⟩
 have dkE:=(dkC.same s13).u u14
 have dkF:=(dkD.same s13).u u14
 obtain⟨dxD,pnD,prD,hxD,_⟩:=dkF.ex
 refine⟨_,U,x2,dxD,_,U,hxD,U,_,U,_,_,U,U,L.le (by simp only[zac,e1,eL7];omega),_,_,U,U,L.le (by simp only[zac,e1,eL7];omega),_,U,_,U,_,U,qmk9 tabs',_,_,U,U,L.le (by have:(zbo (toString (-t))).length<=41:=l2;simp only[zac,e1,eL7];omega),?_⟩
 refine say3 (E:=E0) hL.1 hL.2.1 hL.2.2.1 dkF ren2 n4' low og2 op2 tok' (row3g _ _ _ (by decide +kernel)) λ pl pv H15 s15 ePl ePv=>?_
 rw[hL.2.2.2]
 refine⟨x2,pl,pv,d,nsD2,M2,ren2.f g,ren2.f p,-t,U,nw2.btin ren2 d1 d2 n4' (dkF.same s15) (hTB.same _ _ t14 s15) og2 op2 ePl,ePv,tok',λ o2' H16 u16 t16 lj2 bd2'=>?_⟩
 have E2:o2=negO o2':=tw.symm.late (lj2.ren ren2 og2 op2) (by
  rw[zep]
  exact mn2.congr λ y=>⟨λ⟨k,j⟩=>⟨k,ren.oj op og j⟩,λ⟨k,j⟩=>⟨k,ren.jo j⟩⟩)
 have E3:o2'=negO o2:=by
  rw[E2]
  cases o2' with
  |none=>rfl
  |some y=>exact congrArg some (zep y).symm
 subst E3
 refine⟨o2,U,bd2,_,U,iteF ?_⟩
 have dkG:=(dkE.same s15).u u16
 have dkI:=(dkF.same s15).u u16
 obtain⟨dxE,pnE,prE,hxE,_⟩:=dkG.ex
 refine⟨_,U,x,dxE,_,U,hxE,U,_,U,_,_,U,U,L.le (by simp only[zac,e1,eW8];omega),?_⟩
 refine say2 (E:=E0) hW.1 hW.2.1 hW.2.2.1 dkG ren n4' low op og (row2g _ _ (by decide +kernel)) λ pl pv H17 s17 ePl=>?_
 rw[hW.2.2.2]
 refine⟨x,pl,pv,d,nsD,M,ren.f p,ren.f g,U,nw.btin ren d1 d2 n4' (dkG.same s17) (hTB.same _ _ t16 s17) op og ePl,λ o3 H18 u18 t18 wj3 bd3=>?_⟩
 have dkJ:=(dkI.same s17).u u18
 obtain⟨dxF,pnF,prF,hxF,_⟩:=dkJ.ex
 refine⟨_,U,x2,dxF,_,U,hxF,U,_,U,_,_,U,U,L.le (by simp only[zac,e1,eW8];omega),?_⟩
 refine say2 (E:=E0) hW.1 hW.2.1 hW.2.2.1 dkJ ren2 n4' low og2 op2 (row2g _ _ (by decide +kernel)) λ pl pv H19 s19 ePl=>?_
 rw[hW.2.2.2]
 refine⟨x2,pl,pv,d,nsD2,M2,ren2.f g,ren2.f p,U,nw2.btin ren2 d1 d2 n4' (dkJ.same s19) (hTB.same _ _ t18 s19) og2 op2 ePl,λ o4 H20 u20 t20 wj4 bd4=>?_⟩
 exact⟨o3,o4,U,tw.wait (wj3.ren ren op og) (wj4.ren ren2 og2 op2),bd3,bd4,λ H' _=>q H'⟩
end
def Rw(K:W.Frag)(x:Str)(st:Stmt):Prop:=∃(f:Addr)(oc:Value)(od:Option Addr)(kV dc pm:Value)(an:Option Addr)(cd ct:Value) (sl:Array (Option Value)),W.nsIn K mainGlobals x=some (some (.ref f))/\K.lookup f=some ⟨oc,od,.func (W.fnOf x x (qah9 st) (qag9 st) (qaa9 st) .none kV dc pm an cd ct),sl⟩/\W.codeIn K cd x=true/\W.keepIn K (.ref f)=true
theorem Rw.mk{K:W.Frag}{x:Str}{st:Stmt}{f:Addr}{oc:Value}{od:Option Addr}{kV dc pm:Value}{an:Option Addr}{cd ct:Value}{sl:Array (Option Value)}(a:W.nsIn K mainGlobals x=some (some (.ref f)))(l:K.lookup f=some ⟨oc,od,.func (W.fnOf x x (qah9 st) (qag9 st) (qaa9 st) .none kV dc pm an cd ct),sl⟩)(c:W.codeIn K cd x=true)(k:W.keepIn K (.ref f)=true):Rw K x st:=⟨f,oc,od,kV,dc,pm,an,cd,ct,sl,a,l,c,k⟩
structure Has(K:W.Frag)(mg:Str->Option Value)(x:Str)(st:Stmt)(ps:List Str):Prop where
 ex:∃(f:Addr)(fd:FuncData),Fun K x x st f fd/\Binds K fd ps []/\mg x=some (.ref f)
section
variable {P:Program}{w:World}{base h:Heap}{K:W.Frag}{mg:Str->Option Value}{n:Nat}{x:Str}{st:Stmt}{ps:List Str}{sp:Sp}
theorem Rw.has(r:Rw K x st)(X:K.In h/\h.Ns mainGlobals mg)(hb:∀(kV dc pm:Value)(an:Option Addr)(cd ct:Value)(us:List Value),us.length=ps.length->bindArgs (W.fnOf x x (qah9 st) (qag9 st) (qaa9 st) .none kV dc pm an cd ct) ⟨us,[]⟩=pure (ps.zip us)):Has K mg x st ps:=by
 obtain⟨f,oc,od,kV,dc,pm,an,cd,ct,sl,a,l,c,k⟩:=r
 have F:=qgl9 (st:=st) l c k
 exact⟨⟨f,_,F,F.binds hb,W.mg_of X.1 X.2 a⟩⟩
theorem Has.cal(H:Has K mg x st ps)(ok:∀{f:Addr}{fd:FuncData},Fun K x x st f fd->FnOk P w K mg base CX0 n f fd ps sp):Callee P w K mg base n x ps sp:=by
 obtain⟨f,fd,F,b,m⟩:=H.ex
 exact Callee.mk' (ok F) b F.kp m
theorem Rw.h1(r:Rw K x st)(p0:Str)(X:K.In h/\h.Ns mainGlobals mg)(hb:∀(kV dc pm:Value)(an:Option Addr)(cd ct a0:Value),bindArgs (W.fnOf x x (qah9 st) (qag9 st) (qaa9 st) .none kV dc pm an cd ct) ⟨[a0],[]⟩=pure [(p0,a0)]:=by intros;rfl):Has K mg x st [p0]:=r.has X λ _ _ _ _ _ _ us hl=>by
 obtain⟨_,rfl⟩:=bl_1 hl
 exact hb _ _ _ _ _ _ _
theorem Rw.h2(r:Rw K x st)(p0 p1:Str)(X:K.In h/\h.Ns mainGlobals mg)(hb:∀(kV dc pm:Value)(an:Option Addr)(cd ct a0 a1:Value),bindArgs (W.fnOf x x (qah9 st) (qag9 st) (qaa9 st) .none kV dc pm an cd ct) ⟨[a0,a1],[]⟩=pure [(p0,a0),(p1,a1)]:=by intros;rfl):Has K mg x st [p0,p1]:=r.has X λ _ _ _ _ _ _ us hl=>by
 obtain⟨_,_,rfl⟩:=bl_2 hl
 exact hb _ _ _ _ _ _ _ _
theorem Rw.h3(r:Rw K x st)(p0 p1 p2:Str)(X:K.In h/\h.Ns mainGlobals mg)(hb:∀(kV dc pm:Value)(an:Option Addr)(cd ct a0 a1 a2:Value),bindArgs (W.fnOf x x (qah9 st) (qag9 st) (qaa9 st) .none kV dc pm an cd ct) ⟨[a0,a1,a2],[]⟩=pure [(p0,a0),(p1,a1),(p2,a2)]:=by intros;rfl):Has K mg x st [p0,p1,p2]:=r.has X λ _ _ _ _ _ _ us hl=>by
 obtain⟨_,_,_,rfl⟩:=bl_3 hl
 exact hb _ _ _ _ _ _ _ _ _
theorem Rw.h4(r:Rw K x st)(p0 p1 p2 p3:Str)(X:K.In h/\h.Ns mainGlobals mg)(hb:∀(kV dc pm:Value)(an:Option Addr)(cd ct a0 a1 a2 a3:Value),bindArgs (W.fnOf x x (qah9 st) (qag9 st) (qaa9 st) .none kV dc pm an cd ct) ⟨[a0,a1,a2,a3],[]⟩=pure [(p0,a0),(p1,a1),(p2,a2),(p3,a3)]:=by intros;rfl):Has K mg x st [p0,p1,p2,p3]:=r.has X λ _ _ _ _ _ _ us hl=>by
 obtain⟨_,_,_,_,rfl⟩:=bl_4 hl
 exact hb _ _ _ _ _ _ _ _ _ _
theorem Rw.h5(r:Rw K x st)(p0 p1 p2 p3 p4:Str)(X:K.In h/\h.Ns mainGlobals mg)(hb:∀(kV dc pm:Value)(an:Option Addr)(cd ct a0 a1 a2 a3 a4:Value),bindArgs (W.fnOf x x (qah9 st) (qag9 st) (qaa9 st) .none kV dc pm an cd ct) ⟨[a0,a1,a2,a3,a4],[]⟩=pure [(p0,a0),(p1,a1),(p2,a2),(p3,a3),(p4,a4)]:=by intros;rfl):Has K mg x st [p0,p1,p2,p3,p4]:=r.has X λ _ _ _ _ _ _ us hl=>by
 obtain⟨_,_,_,_,_,rfl⟩:=bl_5 hl
 exact hb _ _ _ _ _ _ _ _ _ _ _
end
abbrev NI(K:W.Frag)(x:Str)(f:Addr):Prop:=W.nsIn K mainGlobals x=some (some (.ref f))
abbrev LK(K:W.Frag)(f:Addr)(x:Str)(st:Stmt)(oc:Value)(od:Option Addr)(kV dc pm:Value)(an:Option Addr)(cd ct:Value)(sl:Array (Option Value)):Prop:=K.lookup f=some ⟨oc,od,.func (W.fnOf x x (qah9 st) (qag9 st) (qaa9 st) .none kV dc pm an cd ct),sl⟩
abbrev CI(K:W.Frag)(cd:Value)(x:Str):Prop:=W.codeIn K cd x=true
abbrev KI(K:W.Frag)(f:Addr):Prop:=W.keepIn K (.ref f)=true
theorem all_mk{l:W.OpenLaw}{q:Program}{loose:List Str}{mean:ExcName->Option Value}{w:World}{K:W.Frag}{h:Heap}{mg mb:Str->Option Value}{fa:Addr}(X:K.In h)(G:PyProof.Rows.Top q (W.looseW q loose) mean mg mb h)(hfa:mg "law"=some (.ref fa))
  {f10 f11 f13 f24 f26 f31 f33 f36 f58 f59 f60 f61 f74 f75 f76 cDesk tc0 tp0 tc1 tp1 tc2 tp2 tc3 tp3:Addr} {dr0 dr1 dr2 dr3:DefRec} {od10 an10 od11 an11 od13 an13 od24 an24 od26 an26 od31 an31 od33 an33 od36 an36 od58 an58 od59 an59 od60 an60 od61 an61 od74 an74 od75 an75 od76 an76:Option Addr} {sl10 sl11 sl13 sl24 sl26 sl31 sl33 sl36 sl58 sl59 sl60 sl61 sl74 sl75 sl76:Array (Option Value)} {oc10 kV10 dc10 pm10 cd10 ct10 oc11 kV11 dc11 pm11 ct11 oc13 kV13 dc13 pm13 ct13 oc24 kV24 dc24 pm24 ct24 oc26 kV26 dc26 pm26 cd26 ct26 oc31 kV31 dc31 pm31 cd31 ct31 oc33 kV33 dc33 pm33 ct33 oc36 kV36 dc36 pm36 cd36 ct36 oc58 kV58 dc58 pm58 cd58 ct58 oc59 kV59 dc59 pm59 cd59 ct59 oc60 kV60 dc60 pm60 cd60 ct60 oc61 kV61 dc61 pm61 cd61 ct61 oc74 kV74 dc74 pm74 cd74 ct74 oc75 kV75 dc75 pm75 cd75 ct75 oc76 kV76 dc76 pm76 cd76 ct76:Value} {tk1 tk2 tk3 tk4 tk5 tk6 tk7 ks0 ks1 ks2 ks3 ks4 ks5 ks6 ks7 ks8 ka0 ka1 ka2 ka3 ka4 ka5 ka6 ka7 ka8 ka9:Tok} {aSh aAn ta0 ta1 ta2 ta3 ta4 ta5 ta6 ta7 ta8:Addr} {epS epA:Nat} {aw2 aw3 aw4 aw6 aw7 aw8:Addr}
  (r0_:Rw K "is_whole" qec9)
  (r1_:Rw K "is_window" qdm9)
  (r2_:Rw K "is_board" qeo9)
  (r3_:Rw K "next_open" qds9)
  (r4_:Rw K "last_open" qdl9)
  (r5_:Rw K "is_number" qdn9)
  (r6_:Rw K "is_road" qfa9)
  (r7_:Rw K "is_net" qgk9)
  (r8_:Rw K "need_net" qen9)
  (r9_:Rw K "need_place" qda9)
  (a10:NI K "first_where" f10) (l10:LK K f10 "first_where" qaw9 oc10 od10 kV10 dc10 pm10 an10 cd10 ct10 sl10) (c10:CI K cd10 "first_where") (k10:KI K f10)
  (a11:NI K "set_off" f11) (l11:LK K f11 "set_off" qbp9 oc11 od11 kV11 dc11 pm11 an11 (.ref tc0) ct11 sl11) (c11:CI K (.ref tc0) "set_off") (k11:KI K f11)
  (r12_:Rw K "come" qjj9)
  (a13:NI K "leave" f13) (l13:LK K f13 "leave" qdk9 oc13 od13 kV13 dc13 pm13 an13 (.ref tc1) ct13 sl13) (c13:CI K (.ref tc1) "leave") (k13:KI K f13)
  (r14_:Rw K "standing" qeh9)
  (r15_:Rw K "stretches" qdt9)
  (r16_:Rw K "first_told" qdb9)
  (r17_:Rw K "first_wait" qdd9)
  (r18_:Rw K "overlay" qfe9)
  (r19_:Rw K "put_window" qdc9)
  (r20_:Rw K "clock_from" qcz9)
  (r21_:Rw K "picked" qgj9)
  (r22_:Rw K "joined" qgh9)
  (r23_:Rw K "sooner" qge9)
  (a24:NI K "ridden" f24) (l24:LK K f24 "ridden" qco9 oc24 od24 kV24 dc24 pm24 an24 (.ref tc2) ct24 sl24) (c24:CI K (.ref tc2) "ridden") (k24:KI K f24)
  (r25_:Rw K "behind" qgg9)
  (a26:NI K "clock_within" f26) (l26:LK K f26 "clock_within" qbn9 oc26 od26 kV26 dc26 pm26 an26 cd26 ct26 sl26) (c26:CI K cd26 "clock_within") (k26:KI K f26)
  (r27_:Rw K "clock_of" qej9)
  (r28_:Rw K "fords_of" qeb9)
  (r29_:Rw K "staying" qfi9)
  (r30_:Rw K "copied_table" qby9)
  (a31:NI K "grown" f31) (l31:LK K f31 "grown" qfn9 oc31 od31 kV31 dc31 pm31 an31 cd31 ct31 sl31) (c31:CI K cd31 "grown") (k31:KI K f31)
  (r32_:Rw K "ride_first" qcy9)
  (a33:NI K "rounds_to" f33) (l33:LK K f33 "rounds_to" qbi9 oc33 od33 kV33 dc33 pm33 an33 (.ref tc3) ct33 sl33) (c33:CI K (.ref tc3) "rounds_to") (k33:KI K f33)
  (r34_:Rw K "rounds" qgd9)
  (r35_:Rw K "table" qhu9)
  (a36:NI K "read_number" f36) (l36:LK K f36 "read_number" qbu9 oc36 od36 kV36 dc36 pm36 an36 cd36 ct36 sl36) (c36:CI K cd36 "read_number") (k36:KI K f36)
  (r37_:Rw K "is_name" qfd9)
  (r38_:Rw K "read_ends" qdu9)
  (r39_:Rw K "read_span" qdi9)
  (r40_:Rw K "read_window" qck9)
  (r41_:Rw K "read_day" qem9)
  (r42_:Rw K "read_board" qcw9)
  (r43_:Rw K "number_of" qdr9)
  (r44_:Rw K "read_net" qef9)
  (r45_:Rw K "show_window" qcm9)
  (r46_:Rw K "show_board" qde9)
  (r47_:Rw K "show_road" qdj9)
  (r48_:Rw K "show_net" qek9)
  (r49_:Rw K "shape_of" qel9)
  (r50_:Rw K "read_moment" qcn9)
  (r51_:Rw K "read_turns" qct9)
  (r52_:Rw K "read_names" qcv9)
  (r53_:Rw K "read_value" qdf9)
  (r54_:Rw K "read_row" qed9)
  (r55_:Rw K "longest" qfb9)
  (r56_:Rw K "shown" qht9)
  (r57_:Rw K "clock_between" qbq9)
  (a58:NI K "soonest_row" f58) (l58:LK K f58 "soonest_row" qbv9 oc58 od58 kV58 dc58 pm58 an58 cd58 ct58 sl58) (c58:CI K cd58 "soonest_row") (k58:KI K f58)
  (a59:NI K "latest_row" f59) (l59:LK K f59 "latest_row" qcd9 oc59 od59 kV59 dc59 pm59 an59 cd59 ct59 sl59) (c59:CI K cd59 "latest_row") (k59:KI K f59)
  (a60:NI K "longest_row" f60) (l60:LK K f60 "longest_row" qbx9 oc60 od60 kV60 dc60 pm60 an60 cd60 ct60 sl60) (c60:CI K cd60 "longest_row") (k60:KI K f60)
  (a61:NI K "net_row" f61) (l61:LK K f61 "net_row" qep9 oc61 od61 kV61 dc61 pm61 an61 cd61 ct61 sl61) (c61:CI K cd61 "net_row") (k61:KI K f61)
  (r62_:Rw K "_law_cell_at" qbz9)
  (r63_:Rw K "_law_day" qee9)
  (r64_:Rw K "_law_way" qei9)
  (r65_:Rw K "_law_net" qeg9)
  (r66_:Rw K "_law_names" qcx9)
  (r67_:Rw K "_law_window_text" qbk9)
  (r68_:Rw K "_law_text" qdp9)
  (r69_:Rw K "_law_ends" qdq9)
  (r70_:Rw K "_law_number" qcl9)
  (r71_:Rw K "_law_turned" qcg9)
  (r72_:Rw K "_law_mirrored" qbs9)
  (r73_:Rw K "_law_waits" qcu9)
  (a74:NI K "law" f74) (l74:LK K f74 "law" qje9 oc74 od74 kV74 dc74 pm74 an74 cd74 ct74 sl74) (c74:CI K cd74 "law") (k74:KI K f74)
  (a75:W.findIn K (.ref cDesk) "__init__"=some (some (.ref f75))) (i75:W.isFn K (.ref f75)=true) (l75:K.lookup f75=some ⟨oc75,od75,.func (W.fnOf "__init__" "Desk.__init__" (qah9 qbg9) (qag9 qbg9) (qaa9 qbg9) .none kV75 dc75 pm75 an75 cd75 ct75),sl75⟩) (c75:W.codeIn K cd75 "Desk.__init__"=true) (k75:W.keepIn K (.ref f75)=true)
  (a76:W.findIn K (.ref cDesk) "say"=some (some (.ref f76))) (i76:W.isFn K (.ref f76)=true) (l76:K.lookup f76=some ⟨oc76,od76,.func (W.fnOf "say" "Desk.say" (qah9 qcj9) (qag9 qcj9) (qaa9 qcj9) .none kV76 dc76 pm76 an76 cd76 ct76),sl76⟩) (c76:W.codeIn K cd76 "Desk.say"=true) (k76:W.keepIn K (.ref f76)=true)
  (z0:W.nsIn K mainGlobals "len"=some none) (z1:W.nsIn K mainGlobals "max"=some none) (z2:W.nsIn K mainGlobals "min"=some none) (z3:W.nsIn K mainGlobals "all"=some none) (z4:W.nsIn K mainGlobals "any"=some none) (z5:W.nsIn K mainGlobals "zip"=some none) (z6:W.nsIn K mainGlobals "range"=some none) (z7:W.nsIn K mainGlobals "enumerate"=some none) (z8:W.nsIn K mainGlobals "isinstance"=some none) (z9:W.nsIn K mainGlobals "bool"=some none) (z10:W.nsIn K mainGlobals "int"=some none) (z11:W.nsIn K mainGlobals "tuple"=some none) (z12:W.nsIn K mainGlobals "list"=some none) (z13:W.nsIn K mainGlobals "str"=some none) (aCDesk:W.nsIn K mainGlobals "Desk"=some (some (.ref cDesk))) (pgDesk:W.plainGet K cDesk zcd=true) (hdDesk:W.hasDictIn K cDesk=true) (poDesk:W.plainOver K cDesk=true) (saDesk:W.findIn K (.ref cDesk) "__setattr__"=some (some (.builtin "object.__setattr__"))) (mkDesk:W.makesIn K cDesk=true) (kcDesk:W.keepIn K (.ref cDesk)=true) (nfDesk_day:W.findIn K (.ref cDesk) "day"=some none) (nfDesk_names:W.findIn K (.ref cDesk) "names"=some none) (nfDesk_roads:W.findIn K (.ref cDesk) "roads"=some none) (xg1:W.nsIn K mainGlobals "FIGURES"=some (some (.str "0123456789" tk1))) (xg2:W.nsIn K mainGlobals "LETTERS"=some (some (.str "abcdefghijklmnopqrstuvwxyz" tk2))) (xg3:W.nsIn K mainGlobals "MOST_FIGURES_texts"=some (some (.int 16 tk3))) (xg4:W.nsIn K mainGlobals "MOST"=some (some (.int 1000000000000000 tk4))) (xg5:W.nsIn K mainGlobals "MOST_FIGURES_rows"=some (some (.int 30 tk5))) (xg6:W.nsIn K mainGlobals "MOST_TURNS"=some (some (.int 3 tk6))) (xg7:W.nsIn K mainGlobals "MOST_PARTY"=some (some (.int 6 tk7))) (xa_S:W.nsIn K mainGlobals "SHAPES"=some (some (.ref aSh))) (xa_A:W.nsIn K mainGlobals "ANSWERS"=some (some (.ref aAn))) (xk_S:K.lookup aSh=some (kdObj w.params [("soonest",ks0,.ref ta0),("latest",ks1,.ref ta1),("kept",ks2,.ref ta2),("rides",ks3,.ref ta3),("board",ks4,.ref ta4),("longest",ks5,.ref ta5),("open",ks6,.ref ta6),("shut",ks7,.ref ta7),("net",ks8,.ref ta8)] epS)) (xn_S:(aSh==sysModules)=false) (xn_A:(aAn==sysModules)=false) (xk_A:K.lookup aAn=some (kdObj w.params [("soonest",ka0,.ref f58),("latest",ka1,.ref f59),("kept",ka2,.ref aw2),("rides",ka3,.ref aw3),("board",ka4,.ref aw4),("longest",ka5,.ref f60),("meet",ka6,.ref aw6),("open",ka7,.ref aw7),("shut",ka8,.ref aw8),("net",ka9,.ref f61)] epA)) (xy_0:tupB K ta0 ["name","name","moment"]=true) (xy_1:tupB K ta1 ["name","name","moment"]=true) (xy_5:tupB K ta5 ["name","name"]=true) (xy_8:tupB K ta8 []=true)
  (r0:(PyProof.Rows.recsOf q).find? (λ e=>e.name==zbo "set_off")=some dr0) (t0:W.tabIn K "set_off"=some (tc0,tp0)) (n0:K.lookup tp0=none) (r1:(PyProof.Rows.recsOf q).find? (λ e=>e.name==zbo "leave")=some dr1) (t1:W.tabIn K "leave"=some (tc1,tp1)) (n1:K.lookup tp1=none) (r2:(PyProof.Rows.recsOf q).find? (λ e=>e.name==zbo "ridden")=some dr2) (t2:W.tabIn K "ridden"=some (tc2,tp2)) (n2:K.lookup tp2=none) (r3:(PyProof.Rows.recsOf q).find? (λ e=>e.name==zbo "rounds_to")=some dr3) (t3:W.tabIn K "rounds_to"=some (tc3,tp3)) (n3:K.lookup tp3=none) (ne01:tp0≠tp1) (ne02:tp0≠tp2) (ne03:tp0≠tp3) (ne12:tp1≠tp2) (ne13:tp1≠tp3) (ne23:tp2≠tp3) :
  ∃(fd:FuncData) (tabs:List (Addr×Addr)),(∀(s:Shared)(v:Value),BindsTo s fd ⟨[v],[]⟩ [("script",v)])/\(∀t∈tabs,W.CodeHd h t.1 t.2/\h.get? t.2=some (W.tabObj #[])/\K.lookup t.2=none)/\∀base:Heap,K.In base->base.Ns mainGlobals mg->BMain mg base->(∀t∈tabs,W.CodeHd base t.1 t.2)->FnOk l.prog w K mg base CX0 27 fa fd ["script"] (spLaw K tabs):=by
 have e:=hfa.symm.trans (W.mg_of X G.g a74)
 cases e
 have XG:=And.intro X G.g
 have ClDesk:Cls K cDesk:=⟨pgDesk,hdDesk,poDesk,saDesk⟩
 have mCDesk:=W.mg_of X G.g aCDesk
 have H0:=r0_.h1 "thing" XG
 have H1:=r1_.h2 "day" "thing" XG
 have H2:=r2_.h2 "day" "thing" XG
 have H3:=r3_.h3 "day" "window" "t" XG
 have H4:=r4_.h3 "day" "window" "t" XG
 have H5:=r5_.h2 "count" "thing" XG
 have H6:=r6_.h3 "day" "size" "thing" XG
 have H7:=r7_.h3 "day" "size" "roads" XG
 have H8:=r8_.h3 "day" "size" "roads" XG
 have H9:=r9_.h2 "size" "thing" XG
 have F10:=qgl9 (st:=qaw9) l10 c10 k10
 have b10:=F10.binds (ps:=["clock","holds"]) λ _ _ _ _ _ _ us hl=>by
  obtain⟨_,_,rfl⟩:=bl_2 hl
  rfl
 have m10:=W.mg_of X G.g a10
 have F11:=qgl9 (st:=qbp9) l11 c11 k11
 have b11:=F11.binds (ps:=["day","clock","t"]) λ _ _ _ _ _ _ us hl=>by
  obtain⟨_,_,_,rfl⟩:=bl_3 hl
  rfl
 have m11:=W.mg_of X G.g a11
 have H12:=r12_.h3 "day" "clock" "t" XG
 have F13:=qgl9 (st:=qdk9) l13 c13 k13
 have b13:=F13.binds (ps:=["day","clock","s"]) λ _ _ _ _ _ _ us hl=>by
  obtain⟨_,_,_,rfl⟩:=bl_3 hl
  rfl
 have m13:=W.mg_of X G.g a13
 have H14:=r14_.h1 "day" XG
 have H15:=r15_.h2 "day" "clock" XG
 have H16:=r16_.h1 "row" XG
 have H17:=r17_.h1 "row" XG
 have H18:=r18_.h3 "day" "one" "other" XG
 have H19:=r19_.h4 "clock" "a" "b" "c" XG
 have H20:=r20_.h2 "day" "rows" XG
 have H21:=r21_.h5 "p" "q" "waiting" "riding" "late" XG
 have H22:=r22_.h4 "day" "one" "other" "late" XG
 have H23:=r23_.h3 "day" "one" "other" XG
 have F24:=qgl9 (st:=qco9) l24 c24 k24
 have b24:=F24.binds (ps:=["day","p","q","ride","others"]) λ _ _ _ _ _ _ us hl=>by
  obtain⟨_,_,_,_,_,rfl⟩:=bl_5 hl
  rfl
 have m24:=W.mg_of X G.g a24
 have H25:=r25_.h3 "day" "one" "other" XG
 have F26:=qgl9 (st:=qbn9) l26 c26 k26
 have b26:=F26.binds (ps:=["day","board"]) λ _ _ _ _ _ _ us hl=>by
  obtain⟨_,_,rfl⟩:=bl_2 hl
  rfl
 have m26:=W.mg_of X G.g a26
 have H27:=r27_.h2 "day" "board" XG
 have H28:=r28_.h2 "day" "roads" XG
 have H29:=r29_.h3 "day" "size" "place" XG
 have H30:=r30_.h1 "told" XG
 have F31:=qgl9 (st:=qfn9) l31 c31 k31
 have b31:=F31.binds (ps:=["day","size","place","step"]) λ _ _ _ _ _ _ us hl=>by
  obtain⟨_,_,_,_,rfl⟩:=bl_4 hl
  rfl
 have m31:=W.mg_of X G.g a31
 have H32:=r32_.h3 "day" "fords" "told" XG
 have F33:=qgl9 (st:=qbi9) l33 c33 k33
 have b33:=F33.binds (ps:=["day","size","roads","goal"]) λ _ _ _ _ _ _ us hl=>by
  obtain⟨_,_,_,_,rfl⟩:=bl_4 hl
  rfl
 have m33:=W.mg_of X G.g a33
 have H34:=r34_.h4 "day" "size" "roads" "goal" XG
 have H35:=r35_.h4 "day" "size" "roads" "goal" XG
 have F36:=qgl9 (st:=qbu9) l36 c36 k36
 have b36:=F36.binds (ps:=["text","most_figures"]) λ _ _ _ _ _ _ us hl=>by
  obtain⟨_,_,rfl⟩:=bl_2 hl
  rfl
 have m36:=W.mg_of X G.g a36
 have H37:=r37_.h1 "text" XG
 have H38:=r38_.h1 "text" XG
 have H39:=r39_.h1 "text" XG
 have H40:=r40_.h2 "day" "text" XG
 have H41:=r41_.h1 "text" XG
 have H42:=r42_.h2 "day" "words" XG
 have H43:=r43_.h2 "names" "name" XG
 have H44:=r44_.h1 "text" XG
 have H45:=r45_.h3 "a" "b" "c" XG
 have H46:=r46_.h1 "board" XG
 have H47:=r47_.h3 "start" "end" "board" XG
 have H48:=r48_.h3 "day" "names" "roads" XG
 have H49:=r49_.h1 "words" XG
 have H50:=r50_.h1 "word" XG
 have H51:=r51_.h1 "word" XG
 have H52:=r52_.h2 "kind" "word" XG
 have H53:=r53_.h3 "day" "kind" "word" XG
 have H54:=r54_.h2 "day" "row" XG
 have H55:=r55_.h2 "day" "clock" XG
 have H56:=r56_.h1 "moment" XG
 have H57:=r57_.h2 "desk" "places" XG
 have F58:=qgl9 (st:=qbv9) l58 c58 k58
 have b58:=F58.binds (ps:=["desk","places","values"]) λ _ _ _ _ _ _ us hl=>by
  obtain⟨_,_,_,rfl⟩:=bl_3 hl
  rfl
 have m58:=W.mg_of X G.g a58
 have F59:=qgl9 (st:=qcd9) l59 c59 k59
 have b59:=F59.binds (ps:=["desk","places","values"]) λ _ _ _ _ _ _ us hl=>by
  obtain⟨_,_,_,rfl⟩:=bl_3 hl
  rfl
 have m59:=W.mg_of X G.g a59
 have F60:=qgl9 (st:=qbx9) l60 c60 k60
 have b60:=F60.binds (ps:=["desk","places","values"]) λ _ _ _ _ _ _ us hl=>by
  obtain⟨_,_,_,rfl⟩:=bl_3 hl
  rfl
 have m60:=W.mg_of X G.g a60
 have F61:=qgl9 (st:=qep9) l61 c61 k61
 have b61:=F61.binds (ps:=["desk","places","values"]) λ _ _ _ _ _ _ us hl=>by
  obtain⟨_,_,_,rfl⟩:=bl_3 hl
  rfl
 have m61:=W.mg_of X G.g a61
 have H62:=r62_.h2 "script" "k" XG
 have H63:=r63_.h1 "cell" XG
 have H64:=r64_.h2 "day" "cell" XG
 have H65:=r65_.h2 "script" "start" XG
 have H66:=r66_.h2 "cell" "size" XG
 have H67:=r67_.h1 "window" XG
 have H68:=r68_.h3 "day" "names" "roads" XG
 have H69:=r69_.h3 "roads" "goal" "cell" XG
 have H70:=r70_.h1 "text" XG
 have H71:=r71_.h2 "day" "roads" XG
 have H72:=r72_.h2 "found" "beside" XG
 have H73:=r73_.h2 "found" "beside" XG
 have F74:=qgl9 (st:=qje9) l74 c74 k74
 have b74:=F74.binds (ps:=["script"]) λ _ _ _ _ _ _ us hl=>by
  obtain⟨_,rfl⟩:=bl_1 hl
  rfl
 have m74:=W.mg_of X G.g a74
 have F75:=qgl9 (st:=qbg9) l75 c75 k75
 have b75:=F75.binds (ps:=["self","text"]) λ _ _ _ _ _ _ us hl=>by
  obtain⟨_,_,rfl⟩:=bl_2 hl
  rfl
 have me75:Meth K cDesk "__init__" f75:=⟨a75,i75,k75⟩
 have F76:=qgl9 (st:=qcj9) l76 c76 k76
 have b76:=F76.binds (ps:=["self","row"]) λ _ _ _ _ _ _ us hl=>by
  obtain⟨_,_,rfl⟩:=bl_2 hl
  rfl
 have me76:Meth K cDesk "say" f76:=⟨a76,i76,k76⟩
 obtain⟨hd0,ho0⟩:=W.tab_of G X r0 t0
 obtain⟨hd1,ho1⟩:=W.tab_of G X r1 t1
 obtain⟨hd2,ho2⟩:=W.tab_of G X r2 t2
 obtain⟨hd3,ho3⟩:=W.tab_of G X r3 t3
 have B:Bl mg:=⟨W.mg_none_of X G.g z0,W.mg_none_of X G.g z1,W.mg_none_of X G.g z2,W.mg_none_of X G.g z3,W.mg_none_of X G.g z4,W.mg_none_of X G.g z5,W.mg_none_of X G.g z6,W.mg_none_of X G.g z7,W.mg_none_of X G.g z8,W.mg_none_of X G.g z9,W.mg_none_of X G.g z10,W.mg_none_of X G.g z11,W.mg_none_of X G.g z12,W.mg_none_of X G.g z13⟩
 refine⟨W.fnOf "law" "law" (qah9 qje9) (qag9 qje9) (qaa9 qje9) .none kV74 dc74 pm74 an74 cd74 ct74,[(tc0,tp0),(tc1,tp1),(tc2,tp2),(tc3,tp3)],λ s v=>.of_eq rfl,λ t ht=>?_,λ base _ _ hB hT=>?_⟩
 ·simp only[zah,zaw,or_false] at ht
  rcases ht with rfl|rfl|rfl|rfl
  ·exact⟨hd0,ho0,n0⟩
  ·exact⟨hd1,ho1,n1⟩
  ·exact⟨hd2,ho2,n2⟩
  ·exact⟨hd3,ho3,n3⟩
 have T0:=hT (tc0,tp0) (by simp)
 have T1:=hT (tc1,tp1) (by simp)
 have T2:=hT (tc2,tp2) (by simp)
 have T3:=hT (tc3,tp3) (by simp)
 have cal:=@Has.cal l.prog w base
 have Cg0:=cal H0 λ F=>qpb9 (n:=0) F B
 have Cl0:=cal H1 λ F=>qmm9 (n:=1) F B Cg0
 have Cr0:=cal H2 λ F=>qom9 (n:=2) F B Cl0
 have Cg1:=cal H3 λ F=>ok_next (n:=1) F B
 have Cz1:=Callee.mk' (P:=l.prog) (w:=w) (base:=base) (qsa9 l11 c11 B T0 hB F10 b10 m10 Cg1) b11 k11 m11
 have Ca2:=cal H12 λ F=>ok_come (n:=3) F Cz1
 have Ce0:=cal H15 λ F=>qlv9 (n:=3) F B
 have Ch0:=cal H16 λ F=>qli9 (n:=3) F
 have Cy1:=cal H18 λ F=>qqb9 (n:=4) F B Ce0
 have Cs0:=cal H19 λ F=>ok_put (n:=3) F B
 have Ck0:=cal H20 λ F=>qlq9 (n:=4) F B Ch0 Cs0
 have Cn1:=cal H21 λ F=>ok_picked (n:=4) F B
 have Cf2:=cal H22 λ F=>ok_joined (n:=5) F B Cy1 Cn1 Ck0
 have Cn0:=cal H23 λ F=>ok_sooner (n:=6) F B Cf2
 have Cd0:=Callee.mk' (P:=l.prog) (w:=w) (base:=base) (qnq9 F26 B b26 k26 m26 Cn0 10) b26 k26 m26
 have Co1:=cal H27 λ F=>qov9 (n:=18) F (Cr0.up (by decide)) Cd0
 have Ch1:=cal H4 λ F=>ok_last (n:=1) F B
 have Cn2:=Callee.mk' (P:=l.prog) (w:=w) (base:=base) (ok_leave l13 c13 B T1 hB F10 b10 m10 Ch1) b13 k13 m13
 have Cj0:=cal H5 λ F=>qmb9 (n:=1) F Cg0
 have Cb2:=cal H6 λ F=>qpm9 (n:=3) F B (Cj0.up (by decide)) Cr0
 have Ch2:=cal H7 λ F=>ok_is_net (n:=4) F B (Cg0.up (by decide)) Cb2
 have Cg2:=Callee.mk' (P:=l.prog) (w:=w) (base:=base) (ok_ridden l24 c24 B T2 hB F10 b10 m10) b24 k24 m24
 have TBx:TB λ H=>TabOk H tp0 ⟨77,32,77,64⟩ (lamQ "set_off")/\TabOk H tp1 ⟨91,32,91,75⟩ (lamQ "leave")/\TabOk H tp2 ⟨173,28,173,54⟩ (lamQ "ridden")/\TabOk H tp3 ⟨234,34,234,75⟩ (lamQ "rounds_to"):=(tb_one _ _ _).and ((tb_one _ _ _).and ((tb_one _ _ _).and (tb_one _ _ _)))
 have CT:=come_T (T:=λ H=>TabOk H tp0 ⟨77,32,77,64⟩ (lamQ "set_off")/\TabOk H tp1 ⟨91,32,91,75⟩ (lamQ "leave")/\TabOk H tp2 ⟨173,28,173,54⟩ (lamQ "ridden")/\TabOk H tp3 ⟨234,34,234,75⟩ (lamQ "rounds_to")) Ca2 (λ _ t=>t.1) (λ _ _ t s t'=>⟨t',qcs9 t.2.1 t.1 s ne01.symm,qcs9 t.2.2.1 t.1 s ne02.symm,qcs9 t.2.2.2 t.1 s ne03.symm⟩)
 have CL:=leave_T (T:=λ H=>TabOk H tp0 ⟨77,32,77,64⟩ (lamQ "set_off")/\TabOk H tp1 ⟨91,32,91,75⟩ (lamQ "leave")/\TabOk H tp2 ⟨173,28,173,54⟩ (lamQ "ridden")/\TabOk H tp3 ⟨234,34,234,75⟩ (lamQ "rounds_to")) Cn2 (λ _ t=>t.2.1) (λ _ _ t s t'=>⟨qcs9 t.1 t.2.1 s ne01,t',qcs9 t.2.2.1 t.2.1 s ne12.symm,qcs9 t.2.2.2 t.2.1 s ne13.symm⟩)
 have CR:=ridden_T (T:=λ H=>TabOk H tp0 ⟨77,32,77,64⟩ (lamQ "set_off")/\TabOk H tp1 ⟨91,32,91,75⟩ (lamQ "leave")/\TabOk H tp2 ⟨173,28,173,54⟩ (lamQ "ridden")/\TabOk H tp3 ⟨234,34,234,75⟩ (lamQ "rounds_to")) Cg2 (λ _ t=>t.2.2.1) (λ _ _ t s t'=>⟨qcs9 t.1 t.2.2.1 s ne02,qcs9 t.2.1 t.2.2.1 s ne12,t',qcs9 t.2.2.2 t.2.2.1 s ne23.symm⟩)
 have Ci2:=cal H25 λ F=>ok_behind (n:=5) TBx F B (Ce0.up (by decide)) (CT.up (by decide)) (CR.up (by decide)) Ck0
 have Cr1:=cal H8 λ F=>qow9 (n:=5) F Ch2
 have Cz0:=cal H9 λ F=>qkq9 (n:=2) F Cj0
 have Cp1:=cal H14 λ F=>ok_stand (n:=0) F
 have Cq1:=cal H28 λ F=>qou9 (n:=19) F Co1
 have Co0:=cal H29 λ F=>qrj9 (n:=1) F B Cp1
 have Cb0:=cal H30 λ F=>ok_copied (n:=0) F B
 have Cp0:=cal H32 λ F=>qkz9 (n:=7) TBx F (Cb0.up (by decide)) Cn0 (Ci2.up (by decide))
 have Ci1:=Callee.mk' (P:=l.prog) (w:=w) (base:=base) (qmw9 (n:=18) l33 c33 B T3 hB F31 b31 m31 TBx (λ _ t=>t.2.2.2) (λ _ _ t s t'=>⟨qcs9 t.1 t.2.2.2 s ne03,qcs9 t.2.1 t.2.2.2 s ne13,qcs9 t.2.2.1 t.2.2.2 s ne23,t'⟩) Cq1 (Co0.up (by decide)) (Cb0.up (by decide)) (Cp0.up (by decide))) b33 k33 m33
 have Cj2:=cal H34 λ F=>ok_rounds (n:=21) F TBx (Cr1.up (by decide)) (Cz0.up (by decide)) Ci1
 have Cm2:=cal H35 λ F=>ok_table (n:=22) F Cj2
 have gt:Gt mg tk1 tk2 tk3 tk4:=⟨W.mg_of X G.g xg1,W.mg_of X G.g xg2,W.mg_of X G.g xg3,W.mg_of X G.g xg4⟩
 have gr:Gr mg tk5 tk6 tk7:=⟨W.mg_of X G.g xg5,W.mg_of X G.g xg6,W.mg_of X G.g xg7⟩
 have Ca0:=Callee.mk' (P:=l.prog) (w:=w) (base:=base) (ok_numG (n:=0) gt F36 B) b36 k36 m36
 have Cq2:=Callee.mk' (P:=l.prog) (w:=w) (base:=base) ((ok_numG (n:=0) gt F36 B).imp num_of_R) b36 k36 m36
 have Cq0:=cal H37 λ F=>ok_nameR (n:=0) gt F B
 have Cm0:=cal H38 λ F=>ok_ends (n:=1) F Cq0
 have Ck1:=cal H39 λ F=>ok_span (n:=1) gt F Cq2
 have Ci0:=cal H40 λ F=>ok_winR (n:=2) gt F Ck1 (Cq2.up (by decide)) Cl0
 have Ct1:=cal H41 λ F=>ok_dayR (n:=1) gt F Cq2
 have Ce1:=cal H42 λ F=>ok_boardR (n:=3) F B Ci0
 have Cu0:=cal H43 λ F=>ok_numOf (n:=0) F
 have Cu1:=cal H44 λ F=>ok_readL (n:=4) F B (Ct1.up (by decide)) (Cm0.up (by decide)) Ce1 (Cu0.up (by decide))
 have Cv0:=cal H45 λ F=>ok_showw (n:=0) F
 have Ca1:=cal H46 λ F=>ok_showb (n:=1) F Cv0
 have Cj1:=cal H47 λ F=>ok_showr (n:=2) F B Ca1
 have Cw1:=cal H48 λ F=>ok_shown (n:=3) F Cj1
 have Cw0:=cal H50 λ F=>ok_momR (n:=1) gr F Ca0
 have Cb1:=cal H51 λ F=>ok_turR (n:=1) gr F Ca0
 have Cc1:=cal H52 λ F=>ok_namesR (n:=2) F Cm0 (Cq0.up (by decide))
 have Cd1:=cal H53 λ F=>ok_valR (n:=3) F (Cw0.up (by decide)) (Cb1.up (by decide)) Ci0
 have kS:KDict K w.params aSh _:=⟨⟨_,xk_S⟩,(by simp only[zcg,zen];decide +kernel),xn_S⟩
 have kA:KDict K w.params aAn _:=⟨⟨_,xk_A⟩,(by simp only[zcg,zen];decide +kernel),xn_A⟩
 have mS:=W.mg_of X G.g xa_S
 have mA:=W.mg_of X G.g xa_A
 have Cs1:=cal H49 λ F=>ok_shape (n:=0) gr kS mS F B
 have Cv1:=cal H54 λ F=>ok_rowR (n:=4) F B (Cs1.up (by decide)) (Cc1.up (by decide)) Cd1
 have DX:DkT K cDesk:=⟨ClDesk,nfDesk_day,nfDesk_names,nfDesk_roads⟩
 have TIx:TBI (λ H=>TabOk H tp0 ⟨77,32,77,64⟩ (lamQ "set_off")/\TabOk H tp1 ⟨91,32,91,75⟩ (lamQ "leave")/\TabOk H tp2 ⟨173,28,173,54⟩ (lamQ "ridden")/\TabOk H tp3 ⟨234,34,234,75⟩ (lamQ "rounds_to")):=(qns9 _ _ _).and ((qns9 _ _ _).and ((qns9 _ _ _).and (qns9 _ _ _)))
 have K_Desk:KCal l.prog w K mg base 25 "Desk" cDesk ["self","text"] (spDInit (λ H=>TabOk H tp0 ⟨77,32,77,64⟩ (lamQ "set_off")/\TabOk H tp1 ⟨91,32,91,75⟩ (lamQ "leave")/\TabOk H tp2 ⟨173,28,173,54⟩ (lamQ "ridden")/\TabOk H tp3 ⟨234,34,234,75⟩ (lamQ "rounds_to")) cDesk):=⟨⟨_,_,⟨mkDesk,a75,i75,kcDesk⟩,(ok_dinit (n:=5) DX TBx TIx ⟨⟨_,_,_,_,_,_,_,_,_,_,rfl,l75,c75⟩⟩ Cu1).mono (by decide),b75⟩,mCDesk⟩
 have Cy0:=cal H56 λ F=>ok_shownA (n:=0) F B
 have Cf1:=cal H17 λ F=>qlp9 (n:=4) F Ch0
 have Cc2:=cal H55 λ F=>qpr9 (n:=5) F (Ce0.up (by decide)) Cf1
 have Cc0:=cal H57 λ F=>ok_betw (n:=23) DX TBx F B Cm2
 have A0:Ans l.prog w K mg base CX0 25 ["desk","places","values"] f58 (spSoon (λ H=>TabOk H tp0 ⟨77,32,77,64⟩ (lamQ "set_off")/\TabOk H tp1 ⟨91,32,91,75⟩ (lamQ "leave")/\TabOk H tp2 ⟨173,28,173,54⟩ (lamQ "ridden")/\TabOk H tp3 ⟨234,34,234,75⟩ (lamQ "rounds_to")) cDesk):=⟨_,ok_soon (n:=24) DX F58 (Cy0.up (by decide)) (CT.up (by decide)) Cc0,b58,_,_,_,l58⟩
 have A1:Ans l.prog w K mg base CX0 25 ["desk","places","values"] f59 (spLate (λ H=>TabOk H tp0 ⟨77,32,77,64⟩ (lamQ "set_off")/\TabOk H tp1 ⟨91,32,91,75⟩ (lamQ "leave")/\TabOk H tp2 ⟨173,28,173,54⟩ (lamQ "ridden")/\TabOk H tp3 ⟨234,34,234,75⟩ (lamQ "rounds_to")) cDesk):=⟨_,ok_late (n:=24) DX F59 (Cy0.up (by decide)) (CL.up (by decide)) Cc0,b59,_,_,_,l59⟩
 have A2:Ans l.prog w K mg base CX0 25 ["desk","places","values"] f60 (spLong (λ H=>TabOk H tp0 ⟨77,32,77,64⟩ (lamQ "set_off")/\TabOk H tp1 ⟨91,32,91,75⟩ (lamQ "leave")/\TabOk H tp2 ⟨173,28,173,54⟩ (lamQ "ridden")/\TabOk H tp3 ⟨234,34,234,75⟩ (lamQ "rounds_to")) cDesk):=⟨_,qsc9 (n:=24) DX TBx F60 B (Cc2.up (by decide)) Cc0,b60,_,_,_,l60⟩
 have A3:Ans l.prog w K mg base CX0 25 ["desk","places","values"] f61 (spNetRow cDesk):=⟨_,(ok_netrow (n:=4) DX F61 Cw1).mono (by decide),b61,_,_,_,l61⟩
 have RO:=ro_of kS kA (R:=[⟨"soonest",ta0,["name","name","moment"],f58,spSoon (λ H=>TabOk H tp0 ⟨77,32,77,64⟩ (lamQ "set_off")/\TabOk H tp1 ⟨91,32,91,75⟩ (lamQ "leave")/\TabOk H tp2 ⟨173,28,173,54⟩ (lamQ "ridden")/\TabOk H tp3 ⟨234,34,234,75⟩ (lamQ "rounds_to")) cDesk⟩,⟨"latest",ta1,["name","name","moment"],f59,spLate (λ H=>TabOk H tp0 ⟨77,32,77,64⟩ (lamQ "set_off")/\TabOk H tp1 ⟨91,32,91,75⟩ (lamQ "leave")/\TabOk H tp2 ⟨173,28,173,54⟩ (lamQ "ridden")/\TabOk H tp3 ⟨234,34,234,75⟩ (lamQ "rounds_to")) cDesk⟩,⟨"longest",ta5,["name","name"],f60,spLong (λ H=>TabOk H tp0 ⟨77,32,77,64⟩ (lamQ "set_off")/\TabOk H tp1 ⟨91,32,91,75⟩ (lamQ "leave")/\TabOk H tp2 ⟨173,28,173,54⟩ (lamQ "ridden")/\TabOk H tp3 ⟨234,34,234,75⟩ (lamQ "rounds_to")) cDesk⟩,⟨"net",ta8,[],f61,spNetRow cDesk⟩]) ⟨λ e he=>by
  simp only[zah,zaw,or_false] at he
  rcases he with rfl|rfl|rfl|rfl
  ·exact qnt9 (by rfl) xy_0 (show wordB "soonest"=true by decide +kernel)
  ·exact qnt9 (by rfl) xy_1 (show wordB "latest"=true by decide +kernel)
  ·exact qnt9 (by rfl) xy_5 (show wordB "longest"=true by decide +kernel)
  ·exact qnt9 (by rfl) xy_8 (show wordB "net"=true by decide +kernel),λ e he=>by
  simp only[zah,zaw,or_false] at he
  rcases he with rfl|rfl|rfl|rfl<;>rfl⟩
 have Cx0:MCal l.prog w K mg base 26 cDesk "say" ["self","row"] (spSay cDesk _):=⟨⟨_,_,ok_say (n:=25) DX RO kA mA F76 B (Cv1.up (by decide)) (λ q hq=>by
  simp only[ansL,zcg,zen,zah,zaw,or_false] at hq
  rcases hq with rfl|rfl|rfl|rfl
  ·exact A0
  ·exact A1
  ·exact A2
  ·exact A3),b76,me76⟩,ClDesk⟩
 have Cm1:=cal H62 λ F=>ok_cell (n:=0) F B
 have Cy2:=cal H63 λ F=>ok_day (n:=0) F
 have Cz2:=cal H64 λ F=>ok_way (n:=0) F
 have Ca3:=cal H65 λ F=>ok_netG (n:=1) F B Cm1 Cy2 Cz2
 have Cr2:=cal H66 λ F=>ok_namesB (n:=0) F B
 have Cd2:=cal H67 λ F=>ok_winTx (n:=0) F B
 have Cv2:=cal H68 λ F=>ok_textB (n:=1) F B Cd2
 have Cw2:=cal H69 λ F=>ok_endsB (n:=0) F B
 have Cx1:=cal H70 λ F=>qqt9 (n:=0) F B
 have Co2:=cal H71 λ F=>ok_turnK (n:=0) F
 have Cl2:=cal H72 λ F=>ok_mirror (n:=1) F B Cx1
 have Cs2:=cal H73 λ F=>ok_waits (n:=1) F B Cx1
 exact ok_law (n:=25) TBx (λ H h=>⟨qnl9 (h (tc0,tp0) (by simp)),qnl9 (h (tc1,tp1) (by simp)),qnl9 (h (tc2,tp2) (by simp)),qnl9 (h (tc3,tp3) (by simp))⟩) ⟨zan,rfl,rfl,rfl⟩ ⟨zai _ zan,rfl,rfl,rfl⟩ ⟨zai _ (zai _ zan),rfl,rfl,rfl⟩ ⟨zai _ (zai _ (zai _ zan)),rfl,rfl,rfl⟩ F74 B (Cm1.up (by decide)) (Ca3.up (by decide)) (Cr2.up (by decide)) (Cv2.up (by decide)) (Cw2.up (by decide)) (Co2.up (by decide)) (Cl2.up (by decide)) (Cs2.up (by decide)) K_Desk Cx0
theorem walk{l:W.OpenLaw}{q:Program}{loose:List Str}{XP:(Str->Option Value)->Heap->Prop}{YP:World->Heap->Prop}{d:DefRec}{K:Params->W.Frag}(hn:l.most=some 63)(hdf:d.params.defaults=[])
  (hY:∀(w:World)(h:Heap),YP w h->(K w.params).In h)
  (F:∀(w:World)(mg mb:Str->Option Value)(mean:ExcName->Option Value)(fa:Addr)(h:Heap),(K w.params).In h->PyProof.Rows.Top q (W.looseW q loose) mean mg mb h->mg d.name=some (.ref fa) ->
   ∃(fd:FuncData) (tabs:List (Addr×Addr)),(∀(s:Shared)(u:Value),BindsTo s fd ⟨[u],[]⟩ [("script",u)])/\(∀t∈tabs,W.CodeHd h t.1 t.2/\h.get? t.2=some (W.tabObj #[])/\(K w.params).lookup t.2=none) /\
    ∀base:Heap,(K w.params).In base->base.Ns mainGlobals mg->BMain mg base->(∀t∈tabs,W.CodeHd base t.1 t.2)->FnOk l.prog w (K w.params) mg base CX0 27 fa fd ["script"] (spLaw (K w.params) tabs)) :
  W.WalkO q loose XP YP l.row.toRowW d [] (λ f vs=>PySem.call f vs) :=
 L2.walk_ofT (n:=63) (k:=27) (x := "script") (sp:=spLaw) hn (by decide) hdf ⟨rfl,by decide,by decide⟩ hY F (λ K tabs H a ns hl hT hS=>⟨a,ns,rfl,hS,hl,hT,λ _=>rfl⟩)
end My
open PySem PySem.W PyProof.Rows
set_option maxRecDepth 100000 in
set_option maxHeartbeats 0 in
theorem PySem.Challenge.cw_fordbook_k92_whole_time_turned_about_holds : PySem.Challenge.rw_fordbook_k92_whole_time_turned_about.Holds := by
 w_on
 refine W.holds_law My.k_ws λ said=>?_
 refine W.holds_open (q:=My.view) (loose:=My.lO) (Xt:=My.xT) (XP:=W.XL My.view []) (YP:=W.Hook.says (W.kmHook My.KK My.kAs My.k_as [375,403,208,290,354,194])) My.k_left (W.Hook.of My.hK) (W.Hook.keeps My.hK)
  (λ s e=>W.xl_of s (zfw.mp e).1) W.XL.keeps (by rfl) (by rfl) (by rfl) (λ s e=>W.recFacts_of (zfw.mp e).2) (by rfl) (by assumption) (by decide +kernel) ⟨rfl,rfl,rfl,rfl,rfl,by decide +kernel⟩ ?hw ?hc
 case hw=>w_witness2
 k_fill
 refine My.walk (l:=PySem.Challenge.rw_fordbook_k92_whole_time_turned_about) rfl rfl (λ w h Y=>W.km_in_of Y) ?F
 case F =>
  intro w mg mb mean fa h KX G hmg
  refine' My.all_mk KX G hmg ?r0_ ?r1_ ?r2_ ?r3_ ?r4_ ?r5_ ?r6_ ?r7_ ?r8_ ?r9_ ?a10 ?l10 ?c10 ?k10 ?a11 ?l11 ?c11 ?k11 ?r12_ ?a13 ?l13 ?c13 ?k13 ?r14_ ?r15_ ?r16_ ?r17_ ?r18_ ?r19_ ?r20_ ?r21_ ?r22_ ?r23_ ?a24 ?l24 ?c24 ?k24 ?r25_ ?a26 ?l26 ?c26 ?k26 ?r27_ ?r28_ ?r29_ ?r30_ ?a31 ?l31 ?c31 ?k31 ?r32_ ?a33 ?l33 ?c33 ?k33 ?r34_ ?r35_ ?a36 ?l36 ?c36 ?k36 ?r37_ ?r38_ ?r39_ ?r40_ ?r41_ ?r42_ ?r43_ ?r44_ ?r45_ ?r46_ ?r47_ ?r48_ ?r49_ ?r50_ ?r51_ ?r52_ ?r53_ ?r54_ ?r55_ ?r56_ ?r57_ ?a58 ?l58 ?c58 ?k58 ?a59 ?l59 ?c59 ?k59 ?a60 ?l60 ?c60 ?k60 ?a61 ?l61 ?c61 ?k61 ?r62_ ?r63_ ?r64_ ?r65_ ?r66_ ?r67_ ?r68_ ?r69_ ?r70_ ?r71_ ?r72_ ?r73_ ?a74 ?l74 ?c74 ?k74 ?a75 ?i75 ?l75 ?c75 ?k75 ?a76 ?i76 ?l76 ?c76 ?k76 ?z0 ?z1 ?z2 ?z3 ?z4 ?z5 ?z6 ?z7 ?z8 ?z9 ?z10 ?z11 ?z12 ?z13 ?aCDesk ?pgDesk ?hdDesk ?poDesk ?saDesk ?mkDesk ?kcDesk ?nfDesk_day ?nfDesk_names ?nfDesk_roads ?xg1 ?xg2 ?xg3 ?xg4 ?xg5 ?xg6 ?xg7 ?xa_S ?xa_A ?xk_S ?xn_S ?xn_A ?xk_A ?xy_0 ?xy_1 ?xy_5 ?xy_8 ?r0 ?t0 ?n0 ?r1 ?t1 ?n1 ?r2 ?t2 ?n2 ?r3 ?t3 ?n3 ?ne01 ?ne02 ?ne03 ?ne12 ?ne13 ?ne23
  (case aCDesk=>k_is)
  (case r0_|r1_|r2_|r3_|r4_|r5_|r6_|r7_|r8_|r9_=>(refine' My.Rw.mk ?a ?b ?c ?d;(case a=>k_is);(case b=>k_is);(case c=>k_is);(case d=>k_is)))
  (case a10|l10|c10|k10|a11|l11|c11|k11=>(try unfold My.NI);(try unfold My.LK);(try unfold My.CI);(try unfold My.KI);k_is)
  (case r12_=>(refine' My.Rw.mk ?a ?b ?c ?d;(case a=>k_is);(case b=>k_is);(case c=>k_is);(case d=>k_is)))
  (case a13|l13|c13|k13=>(try unfold My.NI);(try unfold My.LK);(try unfold My.CI);(try unfold My.KI);k_is)
  (case r14_|r15_|r16_|r17_|r18_|r19_|r20_|r21_|r22_|r23_=>(refine' My.Rw.mk ?a ?b ?c ?d;(case a=>k_is);(case b=>k_is);(case c=>k_is);(case d=>k_is)))
  (case a24|l24|c24|k24=>(try unfold My.NI);(try unfold My.LK);(try unfold My.CI);(try unfold My.KI);k_is)
  (case r25_=>(refine' My.Rw.mk ?a ?b ?c ?d;(case a=>k_is);(case b=>k_is);(case c=>k_is);(case d=>k_is)))
  (case a26|l26|c26|k26=>(try unfold My.NI);(try unfold My.LK);(try unfold My.CI);(try unfold My.KI);k_is)
  (case r27_|r28_|r29_|r30_=>(refine' My.Rw.mk ?a ?b ?c ?d;(case a=>k_is);(case b=>k_is);(case c=>k_is);(case d=>k_is)))
  (case a31|l31|c31|k31=>(try unfold My.NI);(try unfold My.LK);(try unfold My.CI);(try unfold My.KI);k_is)
  (case r32_=>(refine' My.Rw.mk ?a ?b ?c ?d;(case a=>k_is);(case b=>k_is);(case c=>k_is);(case d=>k_is)))
  (case a33|l33|c33|k33=>(try unfold My.NI);(try unfold My.LK);(try unfold My.CI);(try unfold My.KI);k_is)
  (case r34_|r35_=>(refine' My.Rw.mk ?a ?b ?c ?d;(case a=>k_is);(case b=>k_is);(case c=>k_is);(case d=>k_is)))
  (case a36|l36|c36|k36=>(try unfold My.NI);(try unfold My.LK);(try unfold My.CI);(try unfold My.KI);k_is)
  (case r37_|r38_|r39_|r40_|r41_|r42_|r43_|r44_|r45_|r46_|r47_|r48_|r49_|r50_|r51_|r52_|r53_|r54_|r55_|r56_|r57_=>(refine' My.Rw.mk ?a ?b ?c ?d;(case a=>k_is);(case b=>k_is);(case c=>k_is);(case d=>k_is)))
  (case a58|l58|c58|k58|a59|l59|c59|k59|a60|l60|c60|k60|a61|l61|c61|k61=>(try unfold My.NI);(try unfold My.LK);(try unfold My.CI);(try unfold My.KI);k_is)
  (case r62_|r63_|r64_|r65_|r66_|r67_|r68_|r69_|r70_|r71_|r72_|r73_=>(refine' My.Rw.mk ?a ?b ?c ?d;(case a=>k_is);(case b=>k_is);(case c=>k_is);(case d=>k_is)))
  (case a74|l74|c74|k74|a75=>(try unfold My.NI);(try unfold My.LK);(try unfold My.CI);(try unfold My.KI);k_is)
  (case i75=>k_is)
  (case l75|c75|k75|a76=>(try unfold My.NI);(try unfold My.LK);(try unfold My.CI);(try unfold My.KI);k_is)
  (case i76=>k_is)
  (case l76|c76|k76=>(try unfold My.NI);(try unfold My.LK);(try unfold My.CI);(try unfold My.KI);k_is)
  (case z0|z1|z2|z3|z4|z5|z6|z7|z8|z9|z10|z11|z12|z13|pgDesk|hdDesk|poDesk|saDesk|mkDesk|kcDesk|nfDesk_day|nfDesk_names|nfDesk_roads|xg1|xg2|xg3|xg4|xg5|xg6|xg7|xa_S|xa_A|xk_S=>k_is)
  (case xn_S|xn_A=>first|rfl|decide +kernel)
  (case xk_A=>k_is)
  (case xy_0|xy_1|xy_5|xy_8=>kernel_rfl)
  (case r0=>first|rfl|decide +kernel)
  (case t0=>first|k_is|rfl)
  (case n0|r1=>first|rfl|decide +kernel)
  (case t1=>first|k_is|rfl)
  (case n1|r2=>first|rfl|decide +kernel)
  (case t2=>first|k_is|rfl)
  (case n2|r3=>first|rfl|decide +kernel)
  (case t3=>first|k_is|rfl)
  (case n3|ne01|ne02|ne03|ne12|ne13|ne23=>first|rfl|decide +kernel)
