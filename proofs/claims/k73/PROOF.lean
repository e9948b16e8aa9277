import PyProof.Rows.All
import Wide.All
import OpenK.AllK
import Wide.FinOn
import PyProof.EqAt
import PyProof.EqKinds
import PyProof.TupleCall
import PySem.Challenge.RW_fordbook_k73_no_net_no_party
set_option Elab.async false
set_option linter.all false
set_option maxRecDepth 100000
open Array renaming length_toList→zfj,toList→zgx,mk→zha
open Bool renaming false_ne_true→zbc,eq_false_iff→zbj,and_eq_true→zbm,eq_iff_iff→zcb,true_and→zcp,false_eq_true→zcy,false_and→zda,and_eq_true_iff→zdv,and_false→zfi,not_true→zfp,false_or→zfq,or_eq_true→zgh,not_false→zgn
open Classical renaming byContradiction→zev
open PySem.Heap renaming get?_push_of_some→zad,lt_size→zaq,get?_push_size→zbb,get?_update_other→zeo,hide_ne→zgv,nsMap→zgy
open Int renaming le_refl→zax,emod_lt_of_pos→zbw,mul_le_mul_of_nonneg_left→zbx,emod_nonneg→zcg,emod_add_mul_ediv→zcv,lt_or_le→zdh,toNat_natCast→zdk,mul_one→zdr,le_of_lt→zeb,eq_ofNat_of_zero_le→zeh,mul_add→zfd,natCast_add→zfy,ediv_nonneg→zfz,le_total→zgp,zero_add→zgq,add_comm→zgr,le_of_eq→zgs,mul_neg→zgu
open List renaming getElem?_eq_getElem→zaa,getElem?_eq_some_iff→zab,mem_of_getElem?→zac,mem_cons→zae,getElem?_map→zaf,mem_singleton→zag,length_map→zah,mem_cons_self→zak,length_append→zal,mem_cons_of_mem→zam,getElem?_append_right→zan,getElem?_append_left→zao,mem_append_right→zap,size_toArray→zar,getD_eq_getElem?_getD→zas,mem_append→zau,not_mem_nil→zav,getElem?_of_mem→zaw,length_eq_zero_iff→zay,all_eq_true→zba,getElem?_set→zbd,length_take→zbf,mem_append_left→zbg,length_singleton→zbh,mem_map→zbi,replicate→zbk,nodup_cons→zbl,getElem?_eq_none→zbo,getElem?_zipWith→zbp,take_length→zbq,append_nil→zbr,map_append→zbs,mem_or_eq_of_mem_set→zbt,getElem_mem→zby,nil_append→zbz,append_assoc→zcd,ext_getElem?→zce,map_cons→zci,lookup_cons→zcj,getElem?_eraseIdx→zcl,eraseIdx_append_of_length_le→zcm,mem_iff_getElem?→zcn,filterMap_cons→zcq,replicate_succ→zcr,length_zipWith→zcs,getElem?_set_self→zcu,length_drop→zcw,pairwise_cons→zcx,mem_range→zcz,mem_iff_getElem→zdc,pairwise_append→zdd,find?_cons→zde,nodup_append→zdf,getElem?_take_of_lt→zdg,eraseIdx_append_of_lt_length→zdi,pairwise_singleton→zdj,take_of_length_le→zdl,sublist_cons_self→zdm,range→zdn,of_mem_zip→zdo,length_set→zdp,flatten_cons→zds,getElem?_set_ne→zdt,mem_of_mem_take→zdu,length_cons→zdw,any_eq_true→zdx,length_pos_iff→zdz,flatMap_append→zea,pairwise_iff_getElem→zec,getLast?_eq_some_iff→zed,getLast?_eq_none_iff→zee,getElem?_eq_none_iff→zef,mem_filterMap→zeg,eq_of_mem_replicate→zei,foldl_append→zek,flatMap_cons→zem,getElem_inj→zep,cons_append→zeq,mem_flatMap→zer,eraseIdx_sublist→zeu,mem_filter→zew,length→zex,dropLast_concat→zey,mem_of_mem_drop→zez,replicate_succ'→zfa,length_eraseIdx→zfb,mem_map_of_mem→zfe,map_map→zff,all_map→zfg,map_set→zfh,append_of_mem→zfk,getElem?_drop→zfl,map_inj_right→zfm,reverse_cons→zfr,pairwise_map→zft,take_add_one→zfu,any_cons→zfv,getElem?_inj→zfw,length_range→zfx,getElem_set→zgc,flatMap_nil→zgd,map_nil→zge,set_set→zgf,foldl_cons→zgg,range_succ→zgk,drop_zero→zgo,foldl→zgt
open Nat renaming le_refl→zaj,lt_of_lt_of_le→zat,ne_of_lt→zaz,le_trans→zbe,zero_le→zbn,le_of_lt→zbu,mul_le_mul_right→zbv,lt_or_ge→zca,lt_irrefl→zcc,eq_zero_or_pos→zch,sub_self→zck,add_le_add_left→zco,mul_le_mul→zdq,not_lt_zero→zdy,not_lt→zej,lt_succ_self→zel,add_mul→zen,succ_mul→zes,lt_of_le_of_lt→zfc,ne_of_gt→zfn,mul_comm→zfo,le_of_eq→zfs,min_eq_left→zga,add_le_add→zgi,one_mul→zgw
open Option renaming isSome_iff_exists→zcf,map_eq_some_iff→zdb,map_some→zet,isSome_some→zgb,isSome_map→zgj,getD_none→zgl,getD_some→zgm,none→zgz
open Or renaming inl→zai,inr→zct
local macro_rules|`(tactic|omega)=>`(tactic|first|lia|omega +splitNatSub)
local macro_rules|`(⋯)=>`(by omega)
local macro_rules|`(command|def $d:declId $s:optDeclSig $v:declVal)=>`(command|noncomputable def $d:declId $s:optDeclSig $v:declVal)
local macro_rules|`(command|abbrev $d:declId $s:optDeclSig $v:declVal)=>`(command|noncomputable abbrev $d:declId $s:optDeclSig $v:declVal)
local macro_rules|`(tactic|walk_at "d")=>`(tactic|try dsimp only [cx_k,cx_kn,as_nil,as_name,Nat.reduceAdd])
local macro_rules|`(tactic|obtain ⟨$p,$q,$r,*⟩:=$e)=>`(tactic|first|(refine Classical.byContradiction fun h=>?_;rcases $e:term with ⟨$p,$q,$r,*⟩<;>(refine h ?_;clear h))|rcases $e:term with ⟨$p,$q,$r,*⟩)
namespace L2
open PySem
def qah9(s:Stmt):Arguments:=match s with
 | .FunctionDef _ a _ _ _ _ _ _ _ _=>a
 |_=>{ posonlyargs:=[],args:=[],vararg:=none,kwonlyargs:=[],kw_defaults:=[],kwarg:=none,defaults:=[] }
def qag9(s:Stmt):List Stmt:=match s with
 | .FunctionDef _ _ b _ _ _ _ _ _ _=>b
 |_=>[]
def qad9(s:Stmt):Scope:=match s with
 | .FunctionDef _ _ _ _ _ _ sc _ _ _=>sc
 |_=>{ kind:=.function,names:=[],isGenerator:=false,isCoroutine:=false }
end L2
namespace My
open PySem L2
def top(i:Nat):Stmt:=PySem.Challenge.pw_fordbook_k73_no_net_no_party.main.body.getD i (.Pass ⟨0,0,0,0⟩)
abbrev qdq9:Stmt:=top 1
abbrev qcy9:Stmt:=top 2
abbrev qdm9:Stmt:=top 3
abbrev qcz9:Stmt:=top 4
abbrev qax9:Stmt:=top 6
abbrev qbr9:Stmt:=top 7
abbrev qho9:Stmt:=top 8
abbrev qdo9:Stmt:=top 9
abbrev qcw9:Stmt:=top 22
abbrev qeg9:Stmt:=top 23
abbrev qey9:Stmt:=top 24
abbrev qcs9:Stmt:=top 25
abbrev qbu9:Stmt:=top 26
abbrev qfc9:Stmt:=top 27
abbrev qcx9:Stmt:=top 29
abbrev qcn9:Stmt:=top 30
abbrev qeb9:Stmt:=top 31
abbrev qct9:Stmt:=top 32
abbrev qcq9:Stmt:=top 33
abbrev qez9:Stmt:=top 35
abbrev qfe9:Stmt:=top 36
abbrev qfb9:Stmt:=top 37
abbrev qfw9:Stmt:=top 38
abbrev qch9:Stmt:=top 39
abbrev qfj9:Stmt:=top 40
abbrev qbm9:Stmt:=top 41
abbrev qdn9:Stmt:=top 42
abbrev qby9:Stmt:=top 44
abbrev qcg9:Stmt:=top 45
abbrev qdp9:Stmt:=top 47
abbrev qec9:Stmt:=top 48
abbrev qbw9:Stmt:=top 49
abbrev qdu9:Stmt:=top 50
abbrev qcp9:Stmt:=top 51
abbrev qdc9:Stmt:=top 52
abbrev qbg9:Stmt:=top 53
abbrev qdx9:Stmt:=top 54
abbrev qeu9:Stmt:=top 55
abbrev qaz9:Stmt:=top 56
abbrev qca9:Stmt:=top 58
abbrev qbs9:Stmt:=top 59
abbrev qay9:Stmt:=top 60
abbrev qbp9:Stmt:=top 61
abbrev qdk9:Stmt:=top 62
abbrev qdg9:Stmt:=top 63
abbrev qef9:Stmt:=top 65
abbrev qdh9:Stmt:=top 66
abbrev qce9:Stmt:=top 67
abbrev qew9:Stmt:=top 68
abbrev qbx9:Stmt:=top 70
abbrev qdl9:Stmt:=top 71
abbrev qda9:Stmt:=top 72
abbrev qdd9:Stmt:=top 73
abbrev qco9:Stmt:=top 74
abbrev qcr9:Stmt:=top 76
abbrev qcm9:Stmt:=top 77
abbrev qbh9:Stmt:=top 78
abbrev qbn9:Stmt:=top 79
abbrev qbk9:Stmt:=top 80
abbrev qbl9:Stmt:=top 81
abbrev qbo9:Stmt:=top 82
abbrev qhd9:Stmt:=top 83
def fO9(a b:Str)(s:Stmt)(m:Str)(k c:Nat):Obj:=(Obj.mk (.type "function") none (.func (.mk a b (qah9 s) (.stmts (qag9 s)) (qad9 s) 3 [] .none .none .none (.str m k) none (.ref c) .none 0)) #[])
def dE9(P:Params)(x:Str)(n:Nat)(v:Value):DictEntry:=DictEntry.mk (PyData.keyHash P x) (.str x n) v
def eC9(x:Str)(b a d e f g:Nat):Obj:=(Obj.mk (.type "type") none (@PySem.Data.cls (@PySem.ClassData.mk x [(.ref b)] [(.ref a),(.ref b),(.type "ValueError"),(.type "Exception"),(.type "BaseException"),(.type "object")] d x @Bool.true [] [] @Bool.false none @Bool.false)) #[(@Option.some @PySem.Value (.ref e)),none,(@Option.some @PySem.Value (.str x f)),(@Option.some @PySem.Value (.str x g)),(@Option.some @PySem.Value (.builtin "ValueError.__new__")),(@Option.some @PySem.Value (.bool @Bool.true))])
def cod(x:Str)(a:Tok)(y:Str)(b c:Tok)(d e f g i:Int)(j:Addr)(k:Int)(l:Addr)(m n o:Value)(p:Addr)(q r:Int)(s:Tok):Obj:=⟨.type "code",none,.fields #[.str x a,.str y b,.str "/claim/cut.py" c,.int d 0,.int e 0,.int f 0,.int g 0,.int i 0,.ref j,.bool true,.int k 0,.ref l,m,n,o,.ref p,.int q 0,.int r 0,.str "/claim/cut.py" s],#[]⟩
def o_2:Obj:=(Obj.mk .none none (.dict #[] 0) #[])
def o_3(P:Params):Obj:=(Obj.mk (.type "dict") none (.dict #[(dE9 P "__name__" 165 (.str "law_fordbook_k73_no_net_no_party" 866)),(dE9 P "__doc__" 166 .none),(dE9 P "__package__" 167 .none),(dE9 P "__loader__" 168 (.builtin "__main__.__loader__#opaque")),(dE9 P "__spec__" 169 .none),(dE9 P "__annotations__" 170 (.ref 6)),(dE9 P "__builtins__" 171 (.ref 4)),(dE9 P "__file__" 173 (.str "/claim/cut.py" 172)),(dE9 P "__cached__" 174 .none),(dE9 P "is_whole" 195 (.ref 21)),(dE9 P "is_window" 201 (.ref 26)),(dE9 P "is_board" 207 (.ref 31)),(dE9 P "next_open" 218 (.ref 38)),(dE9 P "first_where" 231 (.ref 45)),(dE9 P "set_off" 244 (.ref 52)),(dE9 P "come" 254 (.ref 59)),(dE9 P "standing" 261 (.ref 66)),(dE9 P "FordError" 281 (.ref 76)),(dE9 P "NoBoard" 297 (.ref 89)),(dE9 P "NoNet" 313 (.ref 101)),(dE9 P "NoPlace" 329 (.ref 113)),(dE9 P "NoRoad" 345 (.ref 125)),(dE9 P "NoTurn" 361 (.ref 137)),(dE9 P "NoText" 377 (.ref 149)),(dE9 P "NoRow" 393 (.ref 161)),(dE9 P "NoName" 409 (.ref 173)),(dE9 P "NoWindow" 425 (.ref 185)),(dE9 P "is_number" 435 (.ref 194)),(dE9 P "is_road" 441 (.ref 199)),(dE9 P "is_net" 447 (.ref 204)),(dE9 P "need_net" 456 (.ref 211)),(dE9 P "need_place" 464 (.ref 218)),(dE9 P "copied" 470 (.ref 223)),(dE9 P "stretches" 485 (.ref 230)),(dE9 P "first_told" 492 (.ref 237)),(dE9 P "overlay" 508 (.ref 244)),(dE9 P "put_window" 518 (.ref 251)),(dE9 P "clock_from" 532 (.ref 258)),(dE9 P "picked" 540 (.ref 263)),(dE9 P "joined" 557 (.ref 270)),(dE9 P "sooner" 566 (.ref 277)),(dE9 P "later" 575 (.ref 284)),(dE9 P "ridden" 591 (.ref 291)),(dE9 P "behind" 606 (.ref 298)),(dE9 P "clock_within" 615 (.ref 305)),(dE9 P "clock_of" 623 (.ref 312)),(dE9 P "later_within" 636 (.ref 319)),(dE9 P "first_later" 647 (.ref 326)),(dE9 P "fords_of" 655 (.ref 331)),(dE9 P "staying" 661 (.ref 336)),(dE9 P "copied_table" 667 (.ref 341)),(dE9 P "grown" 678 (.ref 348)),(dE9 P "ride_first" 691 (.ref 355)),(dE9 P "ride_last" 704 (.ref 362)),(dE9 P "rounds_to" 716 (.ref 369)),(dE9 P "rounds" 726 (.ref 376)),(dE9 P "table" 736 (.ref 383)),(dE9 P "table_from" 748 (.ref 390)),(dE9 P "is_member" 758 (.ref 397)),(dE9 P "need_party" 764 (.ref 402)),(dE9 P "tables_by_start" 777 (.ref 409)),(dE9 P "meeting_there" 790 (.ref 416)),(dE9 P "meeting" 803 (.ref 423)),(dE9 P "meet_at" 809 (.ref 428)),(dE9 P "without" 821 (.ref 435)),(dE9 P "thinned" 836 (.ref 442)),(dE9 P "later_place" 848 (.ref 449)),(dE9 P "needs" 865 (.ref 456)),(dE9 P "_law_cell_at" 875 (.ref 463)),(dE9 P "_law_day" 882 (.ref 470)),(dE9 P "_law_stay" 890 (.ref 477)),(dE9 P "_law_ride" 898 (.ref 484)),(dE9 P "_law_roads" 904 (.ref 489)),(dE9 P "_law_copied" 910 (.ref 494)),(dE9 P "_law_party" 923 (.ref 501)),(dE9 P "_law_other" 930 (.ref 508)),(dE9 P "_law_refused" 943 (.ref 515)),(dE9 P "_law_odd_size" 950 (.ref 522)),(dE9 P "_law_odd_roads" 956 (.ref 527)),(dE9 P "_law_odd_party" 968 (.ref 534)),(dE9 P "_law_odd_goal" 976 (.ref 541)),(dE9 P "law" 992 (.ref 548))] 82) #[])
def o_20:Obj:=cod "is_whole" 189 "is_whole" 190 191 2 1 0 0 3 15 181 16 .none (.ref 17) (.ref 18) 19 193 2 194
def o_21:Obj:=fO9 "is_whole" "is_whole" qdq9 "fordbook.windows" 187 20
def o_25:Obj:=cod "is_window" 196 "is_window" 197 198 4 2 0 0 3 22 181 23 .none .none .none 24 199 4 200
def o_26:Obj:=fO9 "is_window" "is_window" qcy9 "fordbook.windows" 187 25
def o_30:Obj:=cod "is_board" 202 "is_board" 203 204 10 2 0 0 3 27 181 28 .none .none .none 29 205 10 206
def o_31:Obj:=fO9 "is_board" "is_board" qdm9 "fordbook.windows" 187 30
def o_37:Obj:=cod "next_open" 208 "next_open" 209 210 12 3 0 0 3 32 181 33 .none (.ref 34) (.ref 35) 36 216 12 217
def o_38:Obj:=fO9 "next_open" "next_open" qcz9 "fordbook.windows" 187 37
def o_44:Obj:=cod "first_where" 221 "first_where" 222 223 19 2 0 0 3 39 181 40 .none (.ref 41) (.ref 42) 43 229 19 230
def o_45:Obj:=fO9 "first_where" "first_where" qax9 "fordbook.clocks" 219 44
def o_51:Obj:=cod "set_off" 232 "set_off" 233 234 29 3 0 0 3 46 181 47 .none (.ref 48) (.ref 49) 50 242 29 243
def o_52:Obj:=fO9 "set_off" "set_off" qbr9 "fordbook.clocks" 219 51
def o_58:Obj:=cod "come" 245 "come" 246 247 37 3 0 0 3 53 181 54 .none (.ref 55) (.ref 56) 57 252 37 253
def o_59:Obj:=fO9 "come" "come" qho9 "fordbook.clocks" 219 58
def o_65:Obj:=cod "standing" 255 "standing" 256 257 42 1 0 0 3 60 181 61 .none (.ref 62) (.ref 63) 64 259 42 260
def o_66:Obj:=fO9 "standing" "standing" qdo9 "fordbook.clocks" 219 65
def o_67:Obj:=(Obj.mk (.type "tuple") none (.seq #[(.type "ValueError")] 0) #[])
def o_74:Obj:=(Obj.mk (.type "tuple") none (.seq #[] 0) #[])
def o_75(P:Params):Obj:=(Obj.mk (.type "dict") none (.dict #[(dE9 P "__module__" 271 (.str "fordbook.errors" 262)),(dE9 P "__firstlineno__" 275 (.int 45 274)),(dE9 P "__static_attributes__" 276 (.ref 74)),(dE9 P "__weakref__" 278 (.ref 77)),(dE9 P "__doc__" 279 .none)] 3) #[])
def o_76:Obj:=(Obj.mk (.type "type") none (@PySem.Data.cls (@PySem.ClassData.mk (.ofString "FordError") [(.type "ValueError")] [(.ref 76),(.type "ValueError"),(.type "Exception"),(.type "BaseException"),(.type "object")] 75 (.ofString "FordError") @Bool.true [] [(.ref 89),(.ref 101),(.ref 113),(.ref 125),(.ref 137),(.ref 149),(.ref 161),(.ref 173),(.ref 185)] @Bool.false none @Bool.false)) #[(@Option.some @PySem.Value (.ref 67)),none,(@Option.some @PySem.Value (.str "FordError" 264)),(@Option.some @PySem.Value (.str "FordError" 272)),(@Option.some @PySem.Value (.builtin "ValueError.__new__")),(@Option.some @PySem.Value (.bool @Bool.true))])
def o_77:Obj:=(Obj.mk (.type "getset_descriptor") none (.fields #[(.str "__weakref__" 277),(.ref 76),(.builtin "ExceptionGroup.__weakref__"),.none]) #[])
def o_80:Obj:=(Obj.mk (.type "tuple") none (.seq #[(.ref 76)] 0) #[])
def o_88(P:Params):Obj:=(Obj.mk (.type "dict") none (.dict #[(dE9 P "__module__" 289 (.str "fordbook.errors" 262)),(dE9 P "__firstlineno__" 293 (.int 47 292)),(dE9 P "__static_attributes__" 294 (.ref 87)),(dE9 P "__doc__" 295 .none)] 2) #[])
def o_89:Obj:=eC9 "NoBoard" 76 89 88 80 282 290
def o_100(P:Params):Obj:=(Obj.mk (.type "dict") none (.dict #[(dE9 P "__module__" 305 (.str "fordbook.errors" 262)),(dE9 P "__firstlineno__" 309 (.int 49 308)),(dE9 P "__static_attributes__" 310 (.ref 99)),(dE9 P "__doc__" 311 .none)] 2) #[])
def o_101:Obj:=eC9 "NoNet" 76 101 100 92 298 306
def o_112(P:Params):Obj:=(Obj.mk (.type "dict") none (.dict #[(dE9 P "__module__" 321 (.str "fordbook.errors" 262)),(dE9 P "__firstlineno__" 325 (.int 51 324)),(dE9 P "__static_attributes__" 326 (.ref 111)),(dE9 P "__doc__" 327 .none)] 2) #[])
def o_113:Obj:=eC9 "NoPlace" 76 113 112 104 314 322
def o_124(P:Params):Obj:=(Obj.mk (.type "dict") none (.dict #[(dE9 P "__module__" 337 (.str "fordbook.errors" 262)),(dE9 P "__firstlineno__" 341 (.int 53 340)),(dE9 P "__static_attributes__" 342 (.ref 123)),(dE9 P "__doc__" 343 .none)] 2) #[])
def o_125:Obj:=eC9 "NoRoad" 76 125 124 116 330 338
def o_136(P:Params):Obj:=(Obj.mk (.type "dict") none (.dict #[(dE9 P "__module__" 353 (.str "fordbook.errors" 262)),(dE9 P "__firstlineno__" 357 (.int 55 356)),(dE9 P "__static_attributes__" 358 (.ref 135)),(dE9 P "__doc__" 359 .none)] 2) #[])
def o_137:Obj:=eC9 "NoTurn" 76 137 136 128 346 354
def o_148(P:Params):Obj:=(Obj.mk (.type "dict") none (.dict #[(dE9 P "__module__" 369 (.str "fordbook.errors" 262)),(dE9 P "__firstlineno__" 373 (.int 57 372)),(dE9 P "__static_attributes__" 374 (.ref 147)),(dE9 P "__doc__" 375 .none)] 2) #[])
def o_149:Obj:=eC9 "NoText" 76 149 148 140 362 370
def o_160(P:Params):Obj:=(Obj.mk (.type "dict") none (.dict #[(dE9 P "__module__" 385 (.str "fordbook.errors" 262)),(dE9 P "__firstlineno__" 389 (.int 59 388)),(dE9 P "__static_attributes__" 390 (.ref 159)),(dE9 P "__doc__" 391 .none)] 2) #[])
def o_161:Obj:=eC9 "NoRow" 76 161 160 152 378 386
def o_172(P:Params):Obj:=(Obj.mk (.type "dict") none (.dict #[(dE9 P "__module__" 401 (.str "fordbook.errors" 262)),(dE9 P "__firstlineno__" 405 (.int 61 404)),(dE9 P "__static_attributes__" 406 (.ref 171)),(dE9 P "__doc__" 407 .none)] 2) #[])
def o_173:Obj:=eC9 "NoName" 76 173 172 164 394 402
def o_184(P:Params):Obj:=(Obj.mk (.type "dict") none (.dict #[(dE9 P "__module__" 417 (.str "fordbook.errors" 262)),(dE9 P "__firstlineno__" 421 (.int 63 420)),(dE9 P "__static_attributes__" 422 (.ref 183)),(dE9 P "__doc__" 423 .none)] 2) #[])
def o_185:Obj:=eC9 "NoWindow" 76 185 184 176 410 418
def o_193:Obj:=cod "is_number" 428 "is_number" 429 430 66 2 0 0 3 188 181 189 .none (.ref 190) (.ref 191) 192 433 66 434
def o_194:Obj:=fO9 "is_number" "is_number" qcw9 "fordbook.nets" 426 193
def o_198:Obj:=cod "is_road" 436 "is_road" 437 438 68 3 0 0 3 195 181 196 .none .none .none 197 439 68 440
def o_199:Obj:=fO9 "is_road" "is_road" qeg9 "fordbook.nets" 426 198
def o_203:Obj:=cod "is_net" 442 "is_net" 443 444 74 3 0 0 3 200 181 201 .none .none .none 202 445 74 446
def o_204:Obj:=fO9 "is_net" "is_net" qey9 "fordbook.nets" 426 203
def o_210:Obj:=cod "need_net" 448 "need_net" 449 450 78 3 0 0 3 205 181 206 .none (.ref 207) (.ref 208) 209 454 78 455
def o_211:Obj:=fO9 "need_net" "need_net" qcs9 "fordbook.nets" 426 210
def o_217:Obj:=cod "need_place" 457 "need_place" 458 459 81 2 0 0 3 212 181 213 .none (.ref 214) (.ref 215) 216 462 81 463
def o_218:Obj:=fO9 "need_place" "need_place" qbu9 "fordbook.nets" 426 217
def o_222:Obj:=cod "copied" 465 "copied" 466 467 84 1 0 0 3 219 181 220 .none .none .none 221 468 84 469
def o_223:Obj:=fO9 "copied" "copied" qfc9 "fordbook.nets" 426 222
def o_229:Obj:=cod "stretches" 473 "stretches" 474 475 87 2 0 0 3 224 181 225 .none (.ref 226) (.ref 227) 228 483 87 484
def o_230:Obj:=fO9 "stretches" "stretches" qcx9 "fordbook.stretches" 471 229
def o_236:Obj:=cod "first_told" 486 "first_told" 487 488 98 1 0 0 3 231 181 232 .none (.ref 233) (.ref 234) 235 490 98 491
def o_237:Obj:=fO9 "first_told" "first_told" qcn9 "fordbook.stretches" 471 236
def o_243:Obj:=cod "overlay" 493 "overlay" 494 495 100 3 0 0 3 238 181 239 .none (.ref 240) (.ref 241) 242 506 100 507
def o_244:Obj:=fO9 "overlay" "overlay" qeb9 "fordbook.stretches" 471 243
def o_250:Obj:=cod "put_window" 509 "put_window" 510 511 116 4 0 0 3 245 181 246 .none (.ref 247) (.ref 248) 249 516 116 517
def o_251:Obj:=fO9 "put_window" "put_window" qct9 "fordbook.stretches" 471 250
def o_257:Obj:=cod "clock_from" 519 "clock_from" 520 521 123 2 0 0 3 252 181 253 .none (.ref 254) (.ref 255) 256 530 123 531
def o_258:Obj:=fO9 "clock_from" "clock_from" qcq9 "fordbook.stretches" 471 257
def o_262:Obj:=cod "picked" 535 "picked" 536 537 135 5 0 0 3 259 181 260 .none .none .none 261 538 135 539
def o_263:Obj:=fO9 "picked" "picked" qez9 "fordbook.reckon" 533 262
def o_269:Obj:=cod "joined" 541 "joined" 542 543 140 4 0 0 3 264 181 265 .none (.ref 266) (.ref 267) 268 555 140 556
def o_270:Obj:=fO9 "joined" "joined" qfe9 "fordbook.reckon" 533 269
def o_276:Obj:=cod "sooner" 558 "sooner" 559 560 150 3 0 0 3 271 181 272 .none (.ref 273) (.ref 274) 275 564 150 565
def o_277:Obj:=fO9 "sooner" "sooner" qfb9 "fordbook.reckon" 533 276
def o_283:Obj:=cod "later" 567 "later" 568 569 154 3 0 0 3 278 181 279 .none (.ref 280) (.ref 281) 282 573 154 574
def o_284:Obj:=fO9 "later" "later" qfw9 "fordbook.reckon" 533 283
def o_290:Obj:=cod "ridden" 576 "ridden" 577 578 158 5 0 0 3 285 181 286 .none (.ref 287) (.ref 288) 289 589 158 590
def o_291:Obj:=fO9 "ridden" "ridden" qch9 "fordbook.reckon" 533 290
def o_297:Obj:=cod "behind" 592 "behind" 593 594 175 3 0 0 3 292 181 293 .none (.ref 294) (.ref 295) 296 604 175 605
def o_298:Obj:=fO9 "behind" "behind" qfj9 "fordbook.reckon" 533 297
def o_304:Obj:=cod "clock_within" 607 "clock_within" 608 609 186 2 0 0 3 299 181 300 .none (.ref 301) (.ref 302) 303 613 186 614
def o_305:Obj:=fO9 "clock_within" "clock_within" qbm9 "fordbook.reckon" 533 304
def o_311:Obj:=cod "clock_of" 616 "clock_of" 617 618 191 2 0 0 3 306 181 307 .none (.ref 308) (.ref 309) 310 621 191 622
def o_312:Obj:=fO9 "clock_of" "clock_of" qdn9 "fordbook.reckon" 533 311
def o_318:Obj:=cod "later_within" 626 "later_within" 627 628 196 1 0 0 3 313 181 314 .none (.ref 315) (.ref 316) 317 634 196 635
def o_319:Obj:=fO9 "later_within" "later_within" qby9 "fordbook.orders" 624 318
def o_325:Obj:=cod "first_later" 637 "first_later" 638 639 207 3 0 0 3 320 181 321 .none (.ref 322) (.ref 323) 324 645 207 646
def o_326:Obj:=fO9 "first_later" "first_later" qcg9 "fordbook.orders" 624 325
def o_330:Obj:=cod "fords_of" 650 "fords_of" 651 652 218 2 0 0 3 327 181 328 .none .none .none 329 653 218 654
def o_331:Obj:=fO9 "fords_of" "fords_of" qdp9 "fordbook.tables" 648 330
def o_335:Obj:=cod "staying" 656 "staying" 657 658 220 3 0 0 3 332 181 333 .none .none .none 334 659 220 660
def o_336:Obj:=fO9 "staying" "staying" qec9 "fordbook.tables" 648 335
def o_340:Obj:=cod "copied_table" 662 "copied_table" 663 664 222 1 0 0 3 337 181 338 .none .none .none 339 665 222 666
def o_341:Obj:=fO9 "copied_table" "copied_table" qbw9 "fordbook.tables" 648 340
def o_347:Obj:=cod "grown" 668 "grown" 669 670 224 4 0 0 3 342 181 343 .none (.ref 344) (.ref 345) 346 676 224 677
def o_348:Obj:=fO9 "grown" "grown" qdu9 "fordbook.tables" 648 347
def o_354:Obj:=cod "ride_first" 679 "ride_first" 680 681 232 3 0 0 3 349 181 350 .none (.ref 351) (.ref 352) 353 689 232 690
def o_355:Obj:=fO9 "ride_first" "ride_first" qcp9 "fordbook.tables" 648 354
def o_361:Obj:=cod "ride_last" 692 "ride_last" 693 694 237 3 0 0 3 356 181 357 .none (.ref 358) (.ref 359) 360 702 237 703
def o_362:Obj:=fO9 "ride_last" "ride_last" qdc9 "fordbook.tables" 648 361
def o_368:Obj:=cod "rounds_to" 705 "rounds_to" 706 707 242 4 0 0 3 363 181 364 .none (.ref 365) (.ref 366) 367 714 242 715
def o_369:Obj:=fO9 "rounds_to" "rounds_to" qbg9 "fordbook.tables" 648 368
def o_375:Obj:=cod "rounds" 717 "rounds" 718 719 245 4 0 0 3 370 181 371 .none (.ref 372) (.ref 373) 374 724 245 725
def o_376:Obj:=fO9 "rounds" "rounds" qdx9 "fordbook.tables" 648 375
def o_382:Obj:=cod "table" 727 "table" 728 729 249 4 0 0 3 377 181 378 .none (.ref 379) (.ref 380) 381 734 249 735
def o_383:Obj:=fO9 "table" "table" qeu9 "fordbook.tables" 648 382
def o_389:Obj:=cod "table_from" 737 "table_from" 738 739 251 4 0 0 3 384 181 385 .none (.ref 386) (.ref 387) 388 746 251 747
def o_390:Obj:=fO9 "table_from" "table_from" qaz9 "fordbook.tables" 648 389
def o_396:Obj:=cod "is_member" 751 "is_member" 752 753 257 2 0 0 3 391 181 392 .none (.ref 393) (.ref 394) 395 756 257 757
def o_397:Obj:=fO9 "is_member" "is_member" qca9 "fordbook.meetings" 749 396
def o_401:Obj:=cod "need_party" 759 "need_party" 760 761 261 2 0 0 3 398 181 399 .none .none .none 400 762 261 763
def o_402:Obj:=fO9 "need_party" "need_party" qbs9 "fordbook.meetings" 749 401
def o_408:Obj:=cod "tables_by_start" 765 "tables_by_start" 766 767 266 4 0 0 3 403 181 404 .none (.ref 405) (.ref 406) 407 775 266 776
def o_409:Obj:=fO9 "tables_by_start" "tables_by_start" qay9 "fordbook.meetings" 749 408
def o_415:Obj:=cod "meeting_there" 778 "meeting_there" 779 780 274 4 0 0 3 410 181 411 .none (.ref 412) (.ref 413) 414 788 274 789
def o_416:Obj:=fO9 "meeting_there" "meeting_there" qbp9 "fordbook.meetings" 749 415
def o_422:Obj:=cod "meeting" 791 "meeting" 792 793 279 4 0 0 3 417 181 418 .none (.ref 419) (.ref 420) 421 801 279 802
def o_423:Obj:=fO9 "meeting" "meeting" qdk9 "fordbook.meetings" 749 422
def o_427:Obj:=cod "meet_at" 804 "meet_at" 805 806 285 5 0 0 3 424 181 425 .none .none .none 426 807 285 808
def o_428:Obj:=fO9 "meet_at" "meet_at" qdg9 "fordbook.meetings" 749 427
def o_434:Obj:=cod "without" 812 "without" 813 814 296 3 0 0 3 429 181 430 .none (.ref 431) (.ref 432) 433 819 296 820
def o_435:Obj:=fO9 "without" "without" qef9 "fordbook.spare" 810 434
def o_441:Obj:=cod "thinned" 822 "thinned" 823 824 300 4 0 0 3 436 181 437 .none (.ref 438) (.ref 439) 440 834 300 835
def o_442:Obj:=fO9 "thinned" "thinned" qdh9 "fordbook.spare" 810 441
def o_448:Obj:=cod "later_place" 837 "later_place" 838 839 312 3 0 0 3 443 181 444 .none (.ref 445) (.ref 446) 447 846 312 847
def o_449:Obj:=fO9 "later_place" "later_place" qce9 "fordbook.spare" 810 448
def o_455:Obj:=cod "needs" 849 "needs" 850 851 318 4 0 0 3 450 181 451 .none (.ref 452) (.ref 453) 454 863 318 864
def o_456:Obj:=fO9 "needs" "needs" qew9 "fordbook.spare" 810 455
def o_462:Obj:=cod "_law_cell_at" 868 "_law_cell_at" 869 870 328 2 0 0 3 457 181 458 .none (.ref 459) (.ref 460) 461 873 328 874
def o_463:Obj:=fO9 "_law_cell_at" "_law_cell_at" qbx9 "law_fordbook_k73_no_net_no_party" 866 462
def o_469:Obj:=cod "_law_day" 876 "_law_day" 877 878 332 1 0 0 3 464 181 465 .none (.ref 466) (.ref 467) 468 880 332 881
def o_470:Obj:=fO9 "_law_day" "_law_day" qdl9 "law_fordbook_k73_no_net_no_party" 866 469
def o_476:Obj:=cod "_law_stay" 883 "_law_stay" 884 885 336 2 0 0 3 471 181 472 .none (.ref 473) (.ref 474) 475 888 336 889
def o_477:Obj:=fO9 "_law_stay" "_law_stay" qda9 "law_fordbook_k73_no_net_no_party" 866 476
def o_483:Obj:=cod "_law_ride" 891 "_law_ride" 892 893 342 2 0 0 3 478 181 479 .none (.ref 480) (.ref 481) 482 896 342 897
def o_484:Obj:=fO9 "_law_ride" "_law_ride" qdd9 "law_fordbook_k73_no_net_no_party" 866 483
def o_488:Obj:=cod "_law_roads" 899 "_law_roads" 900 901 344 5 0 0 3 485 181 486 .none .none .none 487 902 344 903
def o_489:Obj:=fO9 "_law_roads" "_law_roads" qco9 "law_fordbook_k73_no_net_no_party" 866 488
def o_500:Obj:=cod "_law_party" 911 "_law_party" 912 913 365 3 0 0 3 495 181 496 .none (.ref 497) (.ref 498) 499 921 365 922
def o_501:Obj:=fO9 "_law_party" "_law_party" qcr9 "law_fordbook_k73_no_net_no_party" 866 500
def o_507:Obj:=cod "_law_other" 924 "_law_other" 925 926 372 1 0 0 3 502 181 503 .none (.ref 504) (.ref 505) 506 928 372 929
def o_508:Obj:=fO9 "_law_other" "_law_other" qcm9 "law_fordbook_k73_no_net_no_party" 866 507
def o_514:Obj:=cod "_law_refused" 931 "_law_refused" 932 933 376 5 0 0 3 509 181 510 .none (.ref 511) (.ref 512) 513 941 376 942
def o_515:Obj:=fO9 "_law_refused" "_law_refused" qbh9 "law_fordbook_k73_no_net_no_party" 866 514
def o_521:Obj:=cod "_law_odd_size" 944 "_law_odd_size" 945 946 392 1 0 0 3 516 181 517 .none (.ref 518) (.ref 519) 520 948 392 949
def o_522:Obj:=fO9 "_law_odd_size" "_law_odd_size" qbn9 "law_fordbook_k73_no_net_no_party" 866 521
def o_526:Obj:=cod "_law_odd_roads" 951 "_law_odd_roads" 952 953 394 3 0 0 3 523 181 524 .none .none .none 525 954 394 955
def o_527:Obj:=fO9 "_law_odd_roads" "_law_odd_roads" qbk9 "law_fordbook_k73_no_net_no_party" 866 526
def o_533:Obj:=cod "_law_odd_party" 957 "_law_odd_party" 958 959 400 3 0 0 3 528 181 529 .none (.ref 530) (.ref 531) 532 966 400 967
def o_534:Obj:=fO9 "_law_odd_party" "_law_odd_party" qbl9 "law_fordbook_k73_no_net_no_party" 866 533
def o_540:Obj:=cod "_law_odd_goal" 969 "_law_odd_goal" 970 971 408 2 0 0 3 535 181 536 .none (.ref 537) (.ref 538) 539 974 408 975
def o_541:Obj:=fO9 "_law_odd_goal" "_law_odd_goal" qbo9 "law_fordbook_k73_no_net_no_party" 866 540
def o_547:Obj:=cod "law" 977 "law" 978 979 410 1 0 0 3 542 181 543 .none (.ref 544) (.ref 545) 546 990 410 991
def o_548:Obj:=fO9 "law" "law" qhd9 "law_fordbook_k73_no_net_no_party" 866 547
def KK:Params->W.Frag:=λ P =>
 (nat_lit 2,o_2)::
 (nat_lit 3,o_3 P)::
 (nat_lit 20,o_20)::
 (nat_lit 21,o_21)::
 (nat_lit 25,o_25)::
 (nat_lit 26,o_26)::
 (nat_lit 30,o_30)::
 (nat_lit 31,o_31)::
 (nat_lit 37,o_37)::
 (nat_lit 38,o_38)::
 (nat_lit 44,o_44)::
 (nat_lit 45,o_45)::
 (nat_lit 51,o_51)::
 (nat_lit 52,o_52)::
 (nat_lit 58,o_58)::
 (nat_lit 59,o_59)::
 (nat_lit 65,o_65)::
 (nat_lit 66,o_66)::
 (nat_lit 67,o_67)::
 (nat_lit 74,o_74)::
 (nat_lit 75,o_75 P)::
 (nat_lit 76,o_76)::
 (nat_lit 77,o_77)::
 (nat_lit 80,o_80)::
 (nat_lit 87,o_74)::
 (nat_lit 88,o_88 P)::
 (nat_lit 89,o_89)::
 (nat_lit 92,o_80)::
 (nat_lit 99,o_74)::
 (nat_lit 100,o_100 P)::
 (nat_lit 101,o_101)::
 (nat_lit 104,o_80)::
 (nat_lit 111,o_74)::
 (nat_lit 112,o_112 P)::
 (nat_lit 113,o_113)::
 (nat_lit 116,o_80)::
 (nat_lit 123,o_74)::
 (nat_lit 124,o_124 P)::
 (nat_lit 125,o_125)::
 (nat_lit 128,o_80)::
 (nat_lit 135,o_74)::
 (nat_lit 136,o_136 P)::
 (nat_lit 137,o_137)::
 (nat_lit 140,o_80)::
 (nat_lit 147,o_74)::
 (nat_lit 148,o_148 P)::
 (nat_lit 149,o_149)::
 (nat_lit 152,o_80)::
 (nat_lit 159,o_74)::
 (nat_lit 160,o_160 P)::
 (nat_lit 161,o_161)::
 (nat_lit 164,o_80)::
 (nat_lit 171,o_74)::
 (nat_lit 172,o_172 P)::
 (nat_lit 173,o_173)::
 (nat_lit 176,o_80)::
 (nat_lit 183,o_74)::
 (nat_lit 184,o_184 P)::
 (nat_lit 185,o_185)::
 (nat_lit 193,o_193)::
 (nat_lit 194,o_194)::
 (nat_lit 198,o_198)::
 (nat_lit 199,o_199)::
 (nat_lit 203,o_203)::
 (nat_lit 204,o_204)::
 (nat_lit 210,o_210)::
 (nat_lit 211,o_211)::
 (nat_lit 217,o_217)::
 (nat_lit 218,o_218)::
 (nat_lit 222,o_222)::
 (nat_lit 223,o_223)::
 (nat_lit 229,o_229)::
 (nat_lit 230,o_230)::
 (nat_lit 236,o_236)::
 (nat_lit 237,o_237)::
 (nat_lit 243,o_243)::
 (nat_lit 244,o_244)::
 (nat_lit 250,o_250)::
 (nat_lit 251,o_251)::
 (nat_lit 257,o_257)::
 (nat_lit 258,o_258)::
 (nat_lit 262,o_262)::
 (nat_lit 263,o_263)::
 (nat_lit 269,o_269)::
 (nat_lit 270,o_270)::
 (nat_lit 276,o_276)::
 (nat_lit 277,o_277)::
 (nat_lit 283,o_283)::
 (nat_lit 284,o_284)::
 (nat_lit 290,o_290)::
 (nat_lit 291,o_291)::
 (nat_lit 297,o_297)::
 (nat_lit 298,o_298)::
 (nat_lit 304,o_304)::
 (nat_lit 305,o_305)::
 (nat_lit 311,o_311)::
 (nat_lit 312,o_312)::
 (nat_lit 318,o_318)::
 (nat_lit 319,o_319)::
 (nat_lit 325,o_325)::
 (nat_lit 326,o_326)::
 (nat_lit 330,o_330)::
 (nat_lit 331,o_331)::
 (nat_lit 335,o_335)::
 (nat_lit 336,o_336)::
 (nat_lit 340,o_340)::
 (nat_lit 341,o_341)::
 (nat_lit 347,o_347)::
 (nat_lit 348,o_348)::
 (nat_lit 354,o_354)::
 (nat_lit 355,o_355)::
 (nat_lit 361,o_361)::
 (nat_lit 362,o_362)::
 (nat_lit 368,o_368)::
 (nat_lit 369,o_369)::
 (nat_lit 375,o_375)::
 (nat_lit 376,o_376)::
 (nat_lit 382,o_382)::
 (nat_lit 383,o_383)::
 (nat_lit 389,o_389)::
 (nat_lit 390,o_390)::
 (nat_lit 396,o_396)::
 (nat_lit 397,o_397)::
 (nat_lit 401,o_401)::
 (nat_lit 402,o_402)::
 (nat_lit 408,o_408)::
 (nat_lit 409,o_409)::
 (nat_lit 415,o_415)::
 (nat_lit 416,o_416)::
 (nat_lit 422,o_422)::
 (nat_lit 423,o_423)::
 (nat_lit 427,o_427)::
 (nat_lit 428,o_428)::
 (nat_lit 434,o_434)::
 (nat_lit 435,o_435)::
 (nat_lit 441,o_441)::
 (nat_lit 442,o_442)::
 (nat_lit 448,o_448)::
 (nat_lit 449,o_449)::
 (nat_lit 455,o_455)::
 (nat_lit 456,o_456)::
 (nat_lit 462,o_462)::
 (nat_lit 463,o_463)::
 (nat_lit 469,o_469)::
 (nat_lit 470,o_470)::
 (nat_lit 476,o_476)::
 (nat_lit 477,o_477)::
 (nat_lit 483,o_483)::
 (nat_lit 484,o_484)::
 (nat_lit 488,o_488)::
 (nat_lit 489,o_489)::
 (nat_lit 500,o_500)::
 (nat_lit 501,o_501)::
 (nat_lit 507,o_507)::
 (nat_lit 508,o_508)::
 (nat_lit 514,o_514)::
 (nat_lit 515,o_515)::
 (nat_lit 521,o_521)::
 (nat_lit 522,o_522)::
 (nat_lit 526,o_526)::
 (nat_lit 527,o_527)::
 (nat_lit 533,o_533)::
 (nat_lit 534,o_534)::
 (nat_lit 540,o_540)::
 (nat_lit 541,o_541)::
 (nat_lit 547,o_547)::
 (nat_lit 548,o_548)::
 []
def kAs:List Addr:=[2,3,20,21,25,26,30,31,37,38,44,45,51,52,58,59,65,66,67,74,75,76,77,80,87,88,89,92,99,100,101,104,111,112,113,116,123,124,125,128,135,136,137,140,147,148,149,152,159,160,161,164,171,172,173,176,183,184,185,193,194,198,199,203,204,210,211,217,218,222,223,229,230,236,237,243,244,250,251,257,258,262,263,269,270,276,277,283,284,290,291,297,298,304,305,311,312,318,319,325,326,330,331,335,336,340,341,347,348,354,355,361,362,368,369,375,376,382,383,389,390,396,397,401,402,408,409,415,416,422,423,427,428,434,435,441,442,448,449,455,456,462,463,469,470,476,477,483,484,488,489,500,501,507,508,514,515,521,522,526,527,533,534,540,541,547,548]
def view:Program:={ PySem.Challenge.pw_fordbook_k73_no_net_no_party with main:={ PySem.Challenge.pw_fordbook_k73_no_net_no_party.main with body:=[top 1,top 2,top 3,top 4,top 6,top 7,top 8,top 9,top 11,top 12,top 13,top 14,top 15,top 16,top 17,top 18,top 19,top 20,top 22,top 23,top 24,top 25,top 26,top 27,top 29,top 30,top 31,top 32,top 33,top 35,top 36,top 37,top 38,top 39,top 40,top 41,top 42,top 44,top 45,top 47,top 48,top 49,top 50,top 51,top 52,top 53,top 54,top 55,top 56,top 58,top 59,top 60,top 61,top 62,top 63,top 65,top 66,top 67,top 68,top 70,top 71,top 72,top 73,top 74,top 75,top 76,top 77,top 78,top 79,top 80,top 81,top 82,top 83] } }
theorem k_ws:PySem.Challenge.rw_fordbook_k73_no_net_no_party.wellSaid=true:=by
 kernel_rfl
theorem k_as(P:Params):kAs=(KK P).map (·.1):=by kernel_rfl
namespace Tt
open PySem PySem.W PySem.Calls PyProof.Rows
def qir9(tb:String->Option Builtin)(p:Program)(w:World)(n₀:Nat)(ann:Option Value):Nat->SharedT->Thread->Option SharedT
 |0,_,_=>none
 |n+1,s,t=>match through t with
  |true=>some s
  |false=>match stepOk n₀ ann t with
   |false=>none
   |true=>match stepT (denote tb) p w s t with
    |some (s',t')=>qir9 tb p w n₀ ann n s' t'
    |none=>none
theorem qld9{tb:String->Option Builtin}{p:Program}{w:World}{n₀:Nat}{ann:Option Value}:∀{n:Nat}{s s':SharedT}{t:Thread},qir9 tb p w n₀ ann n s t=some s'->topRun tb p w n₀ ann n s.abs t=some s'.abs
 |0,_,_,_,h=>by cases h
 |n+1,s,s',t,h=>by
  unfold qir9 at h
  unfold topRun
  cases he:through t with
  |true=>rw[he] at h;cases h;rfl
  |false =>
   rw[he] at h
   cases hk:stepOk n₀ ann t with
   |false=>rw[hk] at h;cases h
   |true =>
    rw[hk] at h
    cases hs:stepT (denote tb) p w s t with
    |none=>rw[hs] at h;cases h
    |some r=>obtain⟨s₂,t₂⟩:=r;rw[hs] at h;rw[stepT_spec hs];exact qld9 h
def grow:List Obj->Nat->BT->BT
 | [],_,t=>t
 |o::l,n,t=>grow l (n+1) (t.ins n o)
def s0T(P:Params)(os:OsState):SharedT:=⟨grow (boot_heap P).objs.toList 0 .nil,11,{},zha [],boot_drawn,boot_toks,os⟩
theorem s0_abs(P:Params)(os:OsState):(s0T P os).abs=⟨boot_heap P,zha [],boot_drawn,boot_toks,os⟩:=by kernel_rfl
def chk(p:Program)(h₀:Heap)(s:Shared):Bool:=staticsOk (importedModules p.main.body) h₀ s.heap&&namesBound p s.heap&&gensDone s&&laidKept h₀ s.heap
theorem qqd9(P:Params):((boot_heap P).isNs mainGlobals,(boot_heap P).objs.size,(boot_heap P).nsMap mainGlobals "__annotations__")=(true,11,some (.ref 6)):=by kernel_rfl
def qRun(p:Program)(w:World)(n₀:Nat)(ann:Option Value):Nat->SharedT->Thread->Option SharedT
 |0,_,_=>none
 |n+1,s,t=>match through t with
  |true=>some s
  |false=>match Fast.tw6613529449190102663 n₀ ann t with
   |false=>none
   |true=>match Fast.tw10156331382660048174 (Fast.tw11892475500146522536 Fast.tw14364793385576792824) p w s t with
    |some (s',t')=>qRun p w n₀ ann n s' t'
    |none=>none
theorem qRun_eq{p:Program}{w:World}{n₀:Nat}{ann:Option Value}:∀(n:Nat)(s:SharedT)(t:Thread),qir9 treeTable p w n₀ ann n s t=qRun p w n₀ ann n s t
 |0,_,_=>rfl
 |n+1,s,t=>by
  unfold qir9 qRun
  rw[<- Fast.te6613529449190102663,<- Fast.te10156331382660048174,<- Fast.te11892475500146522536,<- Fast.te14364793385576792824]
  simp only[qRun_eq n]
def endsT(p:Program)(N:Nat)(w:World)(os:OsState):Option SharedT:=qRun p w 11 (some (.ref 6)) N (s0T w.params os) (topStub p)
theorem left_of{p:Program}{N:Nat}{β:Type}{obs:Shared->β}{good:World->β}(hb:opening p=plainProg p.main.scope.names)(hN:Nat.ble 600 N=true)(hf:∀s,fenceModules? p s=some s)
  (h1:∀w os,(endsT p N w os).map (λ s=>chk p (boot_heap w.params) s.abs)=some true)
  (h2:∀w os,(endsT p N w os).map (λ s=>obs s.abs)=some (good w)):∀w,(openEnds treeTable p w N).map obs=some (good w):=by
 intro w
 obtain⟨⟨hp,gs,dr,tk,os⟩,e,e2⟩:=zdb.mp (boot_open (N:=N) hb hN hf w)
 simp only[Prod.mk.injEq] at e2
 obtain⟨rfl,rfl,rfl,rfl⟩:=e2
 obtain⟨f1,f2,f3⟩:_/\_/\_:=by simpa only[Prod.mk.injEq] using qqd9 w.params
 obtain⟨s,hs,h2'⟩:=zdb.mp (h2 w os)
 have h1':=h1 w os
 rw[hs] at h1'
 have h1':chk p (boot_heap w.params) s.abs=true:=Option.some.inj h1'
 have r:=qld9 ((qRun_eq _ _ _).trans hs)
 rw[s0_abs] at r
 unfold openEnds
 rw[e]
 show(topFrom treeTable p w N _).map obs=_
 have t:topFrom treeTable p w N ⟨boot_heap w.params,zha [],boot_drawn,boot_toks,os⟩=some s.abs:=by
  unfold topFrom
  dsimp only
  rw[f1,f2,f3,r]
  show(match chk p (boot_heap w.params) s.abs with|true=>_|false=>_)=_
  rw[h1']
 rw[t]
 exact congrArg some h2'
end Tt
theorem both{α β γ:Type}{o:Option α}{f:α->β}{g:α->γ}{b:β}{c:γ}(h1:o.map f=some b)(h2:o.map g=some c):o.map (λ s=>(f s,g s))=some (b,c):=by
 cases o with
 |none=>cases h1
 |some s =>
  cases h1
  cases h2
  rfl
open PySem PySem.W PySem.Spec PyProof.Rows in
theorem k_b:opening PySem.Challenge.rw_fordbook_k73_no_net_no_party.row.prog=plainProg PySem.Challenge.rw_fordbook_k73_no_net_no_party.row.prog.main.scope.names:=by kernel_rfl
open PySem PySem.W PySem.Spec PyProof.Rows in
theorem k_f(s:Shared):fenceModules? PySem.Challenge.rw_fordbook_k73_no_net_no_party.row.prog s=some s:=by kernel_rfl
open PySem PySem.W PySem.Spec PyProof.Rows in
theorem k_c(w:World)(os:OsState):(Tt.endsT PySem.Challenge.rw_fordbook_k73_no_net_no_party.row.prog 8490 w os).map (λ s=>Tt.chk PySem.Challenge.rw_fordbook_k73_no_net_no_party.row.prog (boot_heap w.params) s.abs)=some true:=by kernel_rfl
open PySem PySem.W PySem.Spec PyProof.Rows in
theorem k_l1a(w:World)(os:OsState):(Tt.endsT PySem.Challenge.rw_fordbook_k73_no_net_no_party.row.prog 8490 w os).map (λ s=>(Fast.tw4187177175401517315 My.view [] (importedModules PySem.Challenge.rw_fordbook_k73_no_net_no_party.row.prog.main.body) (λ s=>W.xlAt My.view [] s&&W.recOk (W.RowW.records (W.OpenRow.toRowW PySem.Challenge.rw_fordbook_k73_no_net_no_party.row)) s) true s.abs).1)=some (openGood My.view []).1:=by kernel_rfl
open PySem PySem.W PySem.Spec PyProof.Rows in
theorem k_l1b(w:World)(os:OsState):(Tt.endsT PySem.Challenge.rw_fordbook_k73_no_net_no_party.row.prog 8490 w os).map (λ s=>(Fast.tw4187177175401517315 My.view [] (importedModules PySem.Challenge.rw_fordbook_k73_no_net_no_party.row.prog.main.body) (λ s=>W.xlAt My.view [] s&&W.recOk (W.RowW.records (W.OpenRow.toRowW PySem.Challenge.rw_fordbook_k73_no_net_no_party.row)) s) true s.abs).2.1)=some (openGood My.view []).2.1:=by kernel_rfl
open PySem PySem.W PySem.Spec PyProof.Rows in
theorem k_l1c(w:World)(os:OsState):(Tt.endsT PySem.Challenge.rw_fordbook_k73_no_net_no_party.row.prog 8490 w os).map (λ s=>(Fast.tw4187177175401517315 My.view [] (importedModules PySem.Challenge.rw_fordbook_k73_no_net_no_party.row.prog.main.body) (λ s=>W.xlAt My.view [] s&&W.recOk (W.RowW.records (W.OpenRow.toRowW PySem.Challenge.rw_fordbook_k73_no_net_no_party.row)) s) true s.abs).2.2.1)=some (openGood My.view []).2.2.1:=by kernel_rfl
open PySem PySem.W PySem.Spec PyProof.Rows in
theorem k_l1d(w:World)(os:OsState):(Tt.endsT PySem.Challenge.rw_fordbook_k73_no_net_no_party.row.prog 8490 w os).map (λ s=>(Fast.tw4187177175401517315 My.view [] (importedModules PySem.Challenge.rw_fordbook_k73_no_net_no_party.row.prog.main.body) (λ s=>W.xlAt My.view [] s&&W.recOk (W.RowW.records (W.OpenRow.toRowW PySem.Challenge.rw_fordbook_k73_no_net_no_party.row)) s) true s.abs).2.2.2)=some (openGood My.view []).2.2.2:=by kernel_rfl
open PySem PySem.W PySem.Spec PyProof.Rows in
theorem k_l1(w:World)(os:OsState):(Tt.endsT PySem.Challenge.rw_fordbook_k73_no_net_no_party.row.prog 8490 w os).map (λ s=>openSeen My.view [] (importedModules PySem.Challenge.rw_fordbook_k73_no_net_no_party.row.prog.main.body) (λ s=>W.xlAt My.view [] s&&W.recOk (W.RowW.records (W.OpenRow.toRowW PySem.Challenge.rw_fordbook_k73_no_net_no_party.row)) s) true s.abs)=some (openGood My.view []):=by
 rw[Fast.te4187177175401517315]
 exact both (k_l1a w os) (both (k_l1b w os) (both (k_l1c w os) (k_l1d w os)))
open PySem PySem.W PySem.Spec PyProof.Rows in
theorem k_l2(w:World)(os:OsState):(Tt.endsT PySem.Challenge.rw_fordbook_k73_no_net_no_party.row.prog 8490 w os).map (λ s=>W.Hook.obs (W.kmHook My.KK My.kAs My.k_as [364,286,47,385]) s.abs)=some (W.Hook.val (W.kmHook My.KK My.kAs My.k_as [364,286,47,385]) w):=by kernel_rfl
theorem k_left:W.LeftO PySem.Challenge.rw_fordbook_k73_no_net_no_party.row.prog My.view [] (λ s=>W.xlAt My.view [] s&&W.recOk (W.RowW.records (W.OpenRow.toRowW PySem.Challenge.rw_fordbook_k73_no_net_no_party.row)) s) (W.Hook.obs (W.kmHook My.KK My.kAs My.k_as [364,286,47,385])) (W.Hook.val (W.kmHook My.KK My.kAs My.k_as [364,286,47,385])) 8490:=Tt.left_of k_b rfl k_f k_c λ w os=>both (k_l1 w os) (k_l2 w os)
end My
namespace L2
open PySem PySem.Spec PyProof.Rows
variable {C a b dx f:Addr}{A:Around}{op:CmpOp}{c e tg:Expr}{fd:FuncData}{base h h':Heap}{pins:List (Addr×Obj)}{ch fp:List Addr}{es:List Expr}{body:List Stmt}{ps:List Str}{us:List Value}{M:Model}{i n t':Nat}{p pos pos':Pos}{P:Program}{s:Shared}{x:Str}{mA mg:Str->Option Value}{E Q:Value->Shared->Prop}{K:W.Frag}{w:World}
abbrev Key:=Sum Int Str
def keyIs:Key->Value->Bool
 | .inl k,v=>Value.isInt k v
 | .inr x,v=>Value.isStrOf x v
def keyH(w:World):Key->Int
 | .inl k=>hashInt k
 | .inr x=>hashStr w x
theorem qcd9:∀{k:Key}{v:Value},keyIs k v=true->(∃i t,k=Sum.inl i/\v=Value.int i t)\/(∃x t,k=Sum.inr x/\v=Value.str x t)
 | .inl i,v,h=>by
  obtain⟨t,e⟩:=Value.isInt_shape (k:=i) (v:=v) h
  exact .inl ⟨i,t,rfl,e⟩
 | .inr x,v,h=>by
  obtain⟨t,e⟩:=Value.isStrOf_shape (x:=x) (v:=v) h
  exact .inr ⟨x,t,rfl,e⟩
theorem keyIs_int(i:Int)(t:Tok):keyIs (.inl i) (.int i t)=true:=by simp[keyIs,Value.isInt]
theorem keyIs_str(x:Str)(t:Tok):keyIs (.inr x) (.str x t)=true:=by simp[keyIs,Value.isStrOf]
theorem key_ll(a b:Int):decide ((Sum.inl a:Key)=Sum.inl b)=(a==b):=by
 by_cases e:a=b
 ·subst e;simp
 ·have h:¬(Sum.inl a:Key)=Sum.inl b:=λ q=>e (Sum.inl.inj q)
  rw[decide_eq_false h]
  exact(beq_eq_false_iff_ne.mpr e).symm
theorem key_rr(a b:Str):decide ((Sum.inr a:Key)=Sum.inr b)=decide (a=b):=by
 by_cases e:a=b
 ·subst e;simp
 ·have h:¬(Sum.inr a:Key)=Sum.inr b:=λ q=>e (Sum.inr.inj q)
  rw[decide_eq_false h,decide_eq_false e]
theorem key_lr(a:Int)(b:Str):decide ((Sum.inl a:Key)=Sum.inr b)=false:=decide_eq_false (λ q=>nomatch q)
theorem key_rl(a:Str)(b:Int):decide ((Sum.inr a:Key)=Sum.inl b)=false:=decide_eq_false (λ q=>nomatch q)
def qee9(prog:Program)(w:World):PySem.KeyKind prog w Key where
 is:=keyIs
 hash:=keyH w
 inj:=λ v a b ha hb=>by
  rcases qcd9 ha with⟨i,t,rfl,rfl⟩|⟨x,t,rfl,rfl⟩
  ·rcases qcd9 hb with⟨j,u,rfl,e⟩|⟨y,u,rfl,e⟩
   ·injection e with e1 _;rw[e1]
   ·exact nomatch e
  ·rcases qcd9 hb with⟨j,u,rfl,e⟩|⟨y,u,rfl,e⟩
   ·exact nomatch e
   ·injection e with e1 _;rw[e1]
 byValue:=λ k v h=>by
  rcases qcd9 h with⟨i,t,rfl,rfl⟩|⟨x,t,rfl,rfl⟩<;>rfl
 pyHash:=λ hv h=>by
  rcases qcd9 hv with⟨i,t,rfl,rfl⟩|⟨x,t,rfl,rfl⟩
  ·exact wpAny_pyHash_int h
  ·exact wpAny_pyHash_str h
 eqBool:=λ hu hv h=>by
  rcases qcd9 hu with⟨i,t,rfl,rfl⟩|⟨x,t,rfl,rfl⟩
  ·rcases qcd9 hv with⟨j,u,rfl,rfl⟩|⟨y,u,rfl,rfl⟩
   ·rw[key_ll] at h;exact wpAny_eqBool_int h
   ·rw[key_lr] at h;exact SeqAt.EqAt.int_str i t y u _ _ _ _ h
  ·rcases qcd9 hv with⟨j,u,rfl,rfl⟩|⟨y,u,rfl,rfl⟩
   ·rw[key_rl] at h;exact SeqAt.EqAt.str_int x t j u _ _ _ _ h
   ·rw[key_rr] at h;exact wpAny_eqBool_str h
 «strs»:=λ k x t v h=>by
  rcases qcd9 h with⟨i,u,rfl,e⟩|⟨y,u,rfl,e⟩
  ·exact nomatch e
  ·injection e with e1 _
   subst e1
   cases v<;>rfl
theorem qms9(prog:Program)(w:World)(i:Int)(t:Tok):(qee9 prog w).is (.inl i) (.int i t)=true:=keyIs_int i t
theorem qmk9(prog:Program)(w:World)(x:Str)(t:Tok):(qee9 prog w).is (.inr x) (.str x t)=true:=keyIs_str x t
inductive V where
 |non|bl (b:Bool)|int (i:Int)|str (x:Str)|byt (b:Array UInt8)|flt (b:UInt64)|ref (a:Addr)|ty (n:String)
 deriving DecidableEq
variable {v:V}
def RelV:V->Value->Prop
 | .non,u=>u=Value.none
 | .bl b,u=>u=Value.bool b
 | .int i,u=>∃t,u=Value.int i t
 | .str x,u=>∃t,u=Value.str x t
 | .byt b,u=>∃t,u=Value.bytes b t
 | .flt b,u=>∃t,u=Value.float b t
 | .ref a,u=>u=Value.ref a
 | .ty n,u=>u=Value.type n
abbrev Vals:List V->List Value->Prop:=Paired RelV
theorem Vals.length{xs:List V}{us:List Value}(r:Vals xs us):xs.length=us.length:=Paired.length r
theorem Vals.get:∀{xs:List V}{us:List Value}{i:Nat}{x:V},Vals xs us->xs[i]?=some x->∃u,us[i]?=some u/\RelV x u
 |_,_,_,_,.nil,e=>by simp at e
 |_,_,0,_,.cons r _,e=>by simp at e;subst e;exact⟨_,rfl,r⟩
 |_,_,i+1,x,.cons _ t,e=>by
  obtain⟨u,h1,h2⟩:=Vals.get (i:=i) (x:=x) t (by simpa using e)
  exact⟨u,by simpa using h1,h2⟩
theorem Vals.set{x:V}{u:Value}(r:RelV x u):∀{xs:List V}{us:List Value}(i:Nat),Vals xs us->Vals (xs.set i x) (us.set i u)
 |_,_,_,.nil=>.nil
 |_,_,0,.cons _ t=>.cons r t
 |_,_,i+1,.cons q t=>.cons q (Vals.set r i t)
theorem Vals.append:∀{xs ys:List V}{us ws:List Value},Vals xs us->Vals ys ws->Vals (xs++ys) (us++ws)
 |_,_,_,_,.nil,s=>s
 |_,_,_,_,.cons r t,s=>.cons r (Vals.append t s)
theorem Vals.take:∀{xs:List V}{us:List Value}(n:Nat),Vals xs us->Vals (xs.take n) (us.take n)
 |_,_,0,_=>.nil
 |_,_,_+1,.nil=>.nil
 |_,_,n+1,.cons r t=>.cons r (Vals.take n t)
theorem Vals.drop:∀{xs:List V}{us:List Value}(n:Nat),Vals xs us->Vals (xs.drop n) (us.drop n)
 |_,_,0,r=>r
 |_,_,_+1,.nil=>.nil
 |_,_,n+1,.cons _ t=>Vals.drop n t
def RelO:Option V->Option Value->Prop
 |some v,some u=>RelV v u
 |none,none=>True
 |_,_=>False
def KV{κ:Type}:List (κ×V)->List (κ×Value)->Prop:=Paired λ(p:κ×V) (q:κ×Value)=>p.1=q.1/\RelV p.2 q.2
def kV:Key->V
 | .inl i=>.int i
 | .inr x=>.str x
inductive HO where
  |lst (xs:List V)
  |tup (xs:List V)
  |dK (kvs:List (Key×V))|dT (kvs:List (List Key×V))
  |set (S:Int->Bool) (n:Nat)
  |ins (C dx:Addr) (fs:List (Str×V))
  |own (x:Addr)
  |xd (fs:List (Str×V))
  |met (f x:Addr)
  |rng (lo hi:Int)
  |frz (o:Obj) (u:HO)
  |tbl (ps:Array Value)
  |ext (φ:Heap->Prop)
variable {o:HO}
abbrev Hp:=Addr->Option HO
variable {H H':Hp}
def upd(H:Hp)(a:Addr)(o:HO):Hp:=λ b=>if b=a then some o else H b
theorem qaf9:upd H a o a=some o:=by unfold upd;rw[if_pos rfl]
theorem qaq9(h:b≠a):upd H a o b=H b:=by unfold upd;rw[if_neg h]
theorem ne_of{u:HO}(h:H a=some o)(h':H b=some u)(d:o≠u):a≠b:=by
 intro e;subst e;rw[h] at h';exact d (Option.some.inj h')
theorem qbc9(h:H a=some o)(h':H b=none):a≠b:=by
 intro e;subst e;rw[h] at h';cases h'
section
variable (P:Program)(w:World)
def ObjOk(H:Hp)(h:Heap)(a:Addr):HO->Prop
 | .lst xs=>xs.length<=sizeLine/\∃(its:List Value)(n:Nat),Vals xs its/\h.get? a=some { cls:=.type "list",data:=.seq its.toArray n }
 | .tup xs=>xs.length<=sizeLine/\∃its:List Value,Vals xs its/\IsTup h a its.toArray
 | .dK kvs=>kvs.length<=sizeLine/\(a==sysModules)=false/\∃vs,KV kvs vs/\h.DictOf (qee9 P w) a vs
 | .dT kvs=>kvs.length<=sizeLine/\(a==sysModules)=false/\∃xs:List (List Key×Addr×Value),
   Paired (λ(p:List Key×V) (q:List Key×Addr×Value)=>p.1=q.1/\H q.2.1=some (.tup (p.1.map kV))/\RelV p.2 q.2.2) kvs xs /\
   ∃o es ep,h.get? a=some o/\o.ExactDict/\o.data=.dict es ep/\es.toList=xs.map (entryOfKey (tupleKind (qee9 P w)))/\(xs.map (·.1)).Nodup
 | .set S n=>h.SetOf (intKind P w) a S n
 | .ins C dx fs=>H dx=some (.own a)/\fs.length<=1000/\dx≠a/\h.get? a=some (W.instObj C dx) /\
   ∃mA,h.Ns1 dx mA/\(∀f,RelO (fs.lookup f) (mA f))/\PySem.Within mA (fs.map (·.1))
 | .own _=>∃o,h.get? a=some o
 | .xd fs=>∃mA,h.Ns1 a mA/\∀f,RelO (fs.lookup f) (mA f)
 | .rng lo hi=>∃t u v,h.get? a=some { cls:=.type "range",data:=.fields #[.int lo t,.int hi u,.int 1 v] }
 | .frz o u=>h.get? a=some o/\ObjOk H h a u
 | .tbl ps=>h.get? a=some { cls:=.none,data:=.fields ps }
 | .met f x=>h.get? a=some (W.methodObj (.ref f) (.ref x))
 | .ext φ=>φ h/\(∃o,h.get? a=some o)/\∀h1 h2:Heap,φ h1->(∀o,h1.get? a=some o->h2.get? a=some o)->φ h2
def HOk(H:Hp)(h:Heap):Prop:=∀a o,H a=some o->ObjOk P w H h a o
end
theorem ObjOk.lt(x:ObjOk P w H h a o):a<h.objs.size:=by
 cases o with
 |lst xs=>obtain⟨_,_,_,_,e⟩:=x;exact zaq e
 |tup xs=>obtain⟨_,_,_,p⟩:=x;exact p.lt
 |dK kvs=>obtain⟨_,_,_,_,o,_,_,e,_⟩:=x;exact zaq e
 |dT kvs=>obtain⟨_,_,_,_,o,_,_,e,_⟩:=x;exact zaq e
 |set S n=>obtain⟨o,_,_,_,e,_⟩:=x;exact zaq e
 |ins C dx fs=>obtain⟨_,_,_,e,_⟩:=x;exact zaq e
 |own y=>obtain⟨_,e⟩:=x;exact zaq e
 |xd fs=>obtain⟨_,⟨_,_,_,e,_⟩,_⟩:=x;exact zaq e
 |rng lo hi=>obtain⟨_,_,_,e⟩:=x;exact zaq e
 |frz ob u=>obtain⟨e,_⟩:=x;exact zaq e
 |tbl ps=>exact zaq (show h.get? a=some _ from x)
 |met f y=>exact zaq (show h.get? a=some _ from x)
 |ext φ=>obtain⟨_,⟨_,e⟩,_⟩:=x;exact zaq e
theorem Paired.mapP{α β:Type}{F G:α->β->Prop}:∀{l₁:List α}{l₂:List β},Paired F l₁ l₂->(∀a b,F a b->G a b)->Paired G l₁ l₂
 |_,_,.nil,_=>.nil
 |_,_,.cons r t,f=>.cons (f _ _ r) (Paired.mapP t f)
theorem ObjOk.stay(x:ObjOk P w H h a o)(k:∀b u,(b=a\/H b=some (.own a))->h.get? b=some u->h'.get? b=some u)
  (ho:∀b,H b=some (.own a)->H' b=some (.own a)) (ht:∀b xs,H b=some (.tup xs)->H' b=some (.tup xs)):ObjOk P w H' h' a o:=by
 induction o with
 |lst xs=>obtain⟨z,its,n,r,e⟩:=x;exact⟨z,its,n,r,k _ _ (.inl rfl) e⟩
 |tup xs=>obtain⟨z,its,r,ob,e,c⟩:=x;exact⟨z,its,r,ob,k _ _ (.inl rfl) e,c⟩
 |dK kvs=>obtain⟨z,y,vs,r,ob,es,ep,e,c⟩:=x;exact⟨z,y,vs,r,ob,es,ep,k _ _ (.inl rfl) e,c⟩
 |dT kvs =>
  obtain⟨z,y,xs,r,ob,es,ep,e,c⟩:=x
  exact⟨z,y,xs,Paired.mapP r λ p q z=>⟨z.1,ht _ _ z.2.1,z.2.2⟩,ob,es,ep,k _ _ (.inl rfl) e,c⟩
 |set S n=>obtain⟨ob,es,ep,t,e,c⟩:=x;exact⟨ob,es,ep,t,k _ _ (.inl rfl) e,c⟩
 |ins C dx fs =>
  obtain⟨d,z,ne,e,mA,⟨od,es,ep,e2,c⟩,r⟩:=x
  exact⟨ho _ d,z,ne,k _ _ (.inl rfl) e,mA,⟨od,es,ep,k _ _ (.inr d) e2,c⟩,r⟩
 |own y=>obtain⟨ob,e⟩:=x;exact⟨ob,k _ _ (.inl rfl) e⟩
 |xd fs=>obtain⟨mA,⟨od,es,ep,e,c⟩,r⟩:=x;exact⟨mA,⟨od,es,ep,k _ _ (.inl rfl) e,c⟩,r⟩
 |rng lo hi=>obtain⟨t,u,v,e⟩:=x;exact⟨t,u,v,k _ _ (.inl rfl) e⟩
 |frz ob u ih=>obtain⟨e,q⟩:=x;exact⟨k _ _ (.inl rfl) e,ih q⟩
 |tbl ps =>
  have e:h.get? a=some { cls:=.none,data:=.fields ps }:=x
  show h'.get? a=some { cls:=.none,data:=.fields ps }
  exact k a _ (.inl rfl) e
 |met f y =>
  have e:h.get? a=some (W.methodObj (.ref f) (.ref y)):=x
  show h'.get? a=some (W.methodObj (.ref f) (.ref y))
  exact k a _ (.inl rfl) e
 |ext φ=>obtain⟨p,⟨o,e⟩,st⟩:=x;exact⟨st _ _ p λ o q=>k _ _ (.inl rfl) q,⟨o,k _ _ (.inl rfl) e⟩,st⟩
theorem HOk.lt(x:HOk P w H h)(e:H a=some o):a<h.objs.size:=(x a o e).lt
theorem HOk.fresh(x:HOk P w H h)(e:h.objs.size<=a):H a=none:=by
 cases q:H a with
 |none=>rfl
 |some u=>exact absurd (zat (x.lt q) e) (zcc _)
theorem HOk.kept(x:HOk P w H h)(k:∀b u,h.get? b=some u->h'.get? b=some u):HOk P w H h':=λ a o e =>
 (x a o e).stay (λ b u _ q=>k b u q) (λ _ q=>q) λ _ _ q=>q
theorem HOk.laid(x:HOk P w H h)(k:∀b u,h.get? b=some u->h'.get? b=some u)(hp:h.objs.size<=a)(new:ObjOk P w (upd H a o) h' a o):HOk P w (upd H a o) h':=λ b u e=>by
 have hn:=x.fresh hp
 by_cases hb:b=a
 ·subst hb;rw[qaf9] at e;cases e;exact new
 ·rw[qaq9 hb] at e
  exact(x b u e).stay (λ c v _ q=>k c v q) (λ c q=>by rw[qaq9 (qbc9 q hn)];exact q) λ c xs q=>by rw[qaq9 (qbc9 q hn)];exact q
def Rd(H:Hp)(a:Addr)(u:HO):Prop:=H a=some u\/∃o,H a=some (.frz o u)
theorem Rd.ok{u:HO}(r:Rd H a u)(x:HOk P w H h):ObjOk P w H h a u:=by
 rcases r with r|⟨o,r⟩
 ·exact x a u r
 ·obtain⟨_,q⟩:=x a _ r
  exact q
def Mut:Option HO->Prop
 |some (.lst _)=>True
 |some (.dK _)=>True
 |some (.dT _)=>True
 |some (.set _ _)=>True
 |some (.ins _ _ _)=>True
 |some (.ext _)=>True
 |_=>False
section
variable {x e:Addr}{o':HO}
theorem HOk.write(ok:HOk P w H h)(mu:Mut (H x))(he:e=x\/H e=some (.own x))(k:∀b u,b≠e->h.get? b=some u->h'.get? b=some u)(heo:∃u,h'.get? e=some u)
  (new:ObjOk P w (upd H x o') h' x o'):HOk P w (upd H x o') h':=λ b u q=>by
 have nown:∀c y,H c=some (.own y)->c≠x:=λ c y r z=>by subst z;rw[r] at mu;exact mu
 have ntup:∀c xs,H c=some (.tup xs)->c≠x:=λ c xs r z=>by subst z;rw[r] at mu;exact mu
 by_cases hb:b=x
 ·subst hb;rw[qaf9] at q;cases q;exact new
 ·rw[qaq9 hb] at q
  by_cases hbe:b=e
  ·have q':H b=some (.own x):=by
    rcases he with z|z
    ·exact absurd (hbe.trans z) hb
    ·rw[hbe];exact z
   rw[q] at q';cases q'
   obtain⟨v,hv⟩:=heo
   exact⟨v,by rw[hbe];exact hv⟩
  ·refine(ok b u q).stay (λ c v hc r=>k c v ?_ r) (λ c r=>by rw[qaq9 (nown c b r)];exact r) λ c xs r=>by rw[qaq9 (ntup c xs r)];exact r
   rcases hc with rfl|hc
   ·exact hbe
   ·rintro rfl
    rcases he with z|z
    ·exact nown c b hc z
    ·rw[hc] at z;cases z;exact hb rfl
end
structure Un(fs ex:List Addr)(H H':Hp)(h h':Heap):Prop where
 keep:∀b o,h.get? b=some o->H b=none->b∉fs->b∉ex->h'.get? b=some o
 slot:∀b o,h.get? b=some o->H b=none->b∈fs->b∉ex->∃sl,h'.get? b=some { o with slots:=sl }
 free:∀b o,h.get? b=some o->H b=none->b∉ex->H' b=none
 there:∀b o,h.get? b=some o->b∉ex->∃o',h'.get? b=some o'
 tups:∀b xs,H b=some (.tup xs)->H' b=some (.tup xs)
 frzs:∀b o u,H b=some (.frz o u)->H' b=some (.frz o u)
 tbls:∀b ps,H b=some (.tbl ps)->∃more,H' b=some (.tbl (ps++more))
section
variable {fs fs' ex ex':List Addr}{H1 H2:Hp}{h1 h2:Heap}{x e:Addr}
theorem Un.any(u:Un fs ex H H1 h h1){ob:Obj}(q:h.get? b=some ob)(n:H b=none)(hx:b∉ex):∃sl,h1.get? b=some { ob with slots:=sl }:=by
 by_cases hb:b∈fs
 ·exact u.slot b ob q n hb hx
 ·exact⟨ob.slots,u.keep b ob q n hb hx⟩
theorem Un.kept(k:∀b u,h.get? b=some u->h'.get? b=some u):Un fs ex H H h h' :=
 ⟨λ b ob q _ _ _=>k b ob q,λ b ob q _ _ _=>⟨ob.slots,k b ob q⟩,λ _ _ _ n _=>n,λ b ob q _=>⟨ob,k b ob q⟩,λ _ _ q=>q,λ _ _ _ q=>q,λ _ ps q=>⟨#[],by rw[q];simp⟩⟩
theorem Un.refl:Un fs ex H H h h:=Un.kept λ _ _ q=>q
theorem Un.laid(k:∀b u,h.get? b=some u->h'.get? b=some u)(hp:h.objs.size<=a)(hn:H a=none):Un fs ex H (upd H a o) h h' where
 keep:=λ b u q _ _ _=>k b u q
 slot:=λ b u q _ _ _=>⟨u.slots,k b u q⟩
 free:=λ b u q n _=>by rw[qaq9 (zaz (zat (zaq q) hp))];exact n
 there:=λ b u q _=>⟨u,k b u q⟩
 tups:=λ b xs q=>by rw[qaq9 (qbc9 q hn)];exact q
 frzs:=λ b u xs q=>by rw[qaq9 (qbc9 q hn)];exact q
 tbls:=λ b ps q=>⟨#[],by rw[qaq9 (qbc9 q hn),q];simp⟩
theorem Un.write(mu:Mut (H x))(he:e=x\/H e=some (.own x))(k:∀b u,b≠e->h.get? b=some u->h'.get? b=some u)(heo:∃u,h'.get? e=some u):Un fs ex H (upd H x o) h h':=by
 have hx:∀b,H b=none->b≠x:=λ b n z=>by subst z;rw[n] at mu;exact mu
 have hb:∀b,H b=none->b≠e:=λ b n z=>by
  subst z
  rcases he with r|r
  ·exact hx b n r
  ·rw[n] at r;cases r
 have hm:∀b u,H b=some u->¬Mut (some u)->b≠x:=λ b u q nm z=>by subst z;rw[q] at mu;exact nm mu
 refine⟨λ b u q n _ _=>k b u (hb b n) q,λ b u q n _ _=>⟨u.slots,k b u (hb b n) q⟩,λ b u q n _=>by rw[qaq9 (hx b n)];exact n,λ b u q _=>?_,
  λ b xs q=>by rw[qaq9 (hm b _ q λ z=>z)];exact q,λ b u xs q=>by rw[qaq9 (hm b _ q λ z=>z)];exact q,λ b ps q=>⟨#[],by rw[qaq9 (hm b _ q λ z=>z),q];simp⟩⟩
 by_cases hbe:b=e
 ·subst hbe;exact heo
 ·exact⟨u,k b u hbe q⟩
end
def trk(h:Heap)(H:Hp):List Addr:=(zdn h.objs.size).filter λ a=>(H a).isSome
def hidT(h:Heap)(H:Hp):Heap:=W.hideAll h (trk h H)
theorem hidT_size(h:Heap)(H:Hp):(hidT h H).objs.size=h.objs.size:=W.hideAll_size _ _
theorem hidT_get{o:Obj}(e:h.get? b=some o)(n:H b=none):(hidT h H).get? b=some o :=
 W.hideAll_get _ e λ hm=>by
  have q:(H b).isSome=true:=(zew.mp hm).2
  rw[n] at q;simp at q
theorem of_hidT{o:Obj}(e:(hidT h H).get? b=some o):h.get? b=some o/\H b=none:=by
 have e':h.get? b=some o:=W.of_hideAll (trk h H) e
 refine⟨e',?_⟩
 cases q:H b with
 |none=>rfl
 |some x =>
  have hm:b∈trk h H:=zew.mpr ⟨zcz.mpr (zaq e'),by simp[q]⟩
  have z:(hidT h H).get? b=none:=W.hideAll_none (trk h H) hm
  rw[z] at e;cases e
def allNews(g h:Heap)(L:Addr):List (Addr×Obj):=(zdn h.objs.size).filterMap λ a=>if a=L\/(g.get? a).isSome=true then none else(h.get? a).map λ o=>(a,o)
def rest(g h:Heap)(L d:Addr):List (Addr×Obj):=(allNews g h L).filter λ p=>decide (p.1≠d)
structure Mod(K:W.Frag)(mg:Str->Option Value)(base:Heap):Prop where
 kin:K.In base
 glob:base.Ns mainGlobals mg
 blt:∃mb,base.Ns builtinsNs mb/\∀x:Str,x≠"__name__" -> mb x=bootBuiltins x
 nolimit:base.NoLimit
structure Cx where
 prog:Program
 w:World
 K:W.Frag
 mg:Str->Option Value
 base:Heap
 A:Around
 N:List Str
 s₀:Shared
 H₀:Hp
 env:Env
 outer:List Env
 stack:List Env
 ex:List Addr
 fn:Str->Bool
 calm:Bool
 pn:List (Addr×Obj)
 xe:Value->Shared->Prop
variable {X:Cx}
def frs(l:List Env):List Addr:=l.filterMap (·.frame)
abbrev Cx.fs(X:Cx):List Addr:=frs X.outer
def Vis(sc:Scope)(x:Str):Prop:=sc.names.lookup x=some .local\/sc.names.lookup x=some .cell\/sc.names.lookup x=some .free
def Loc(sc:Scope)(x:Str):Prop:=sc.names.lookup x=some .local\/sc.names.lookup x=some .cell
def Look(env:Env)(h:Heap)(m:Str->Option Value)(x:Str)(u:Value):Prop :=
 (env.kindOf x=some .local/\m x=some u)\/((env.kindOf x=some .cell\/env.kindOf x=some .free)/\∃c,env.cells.lookup x=some c/\h.IsCell c (some u))
structure Cx.Ok(X:Cx):Prop where
 mod:Mod X.K X.mg X.base
 kind:X.env.scope.kind=.function
 glob:X.env.globals=mainGlobals
 blt:X.env.builtins=builtinsNs
 above:X.s₀.heap.objs.size<=X.env.locals
 inj:∀x y c,X.env.cells.lookup x=some c->X.env.cells.lookup y=some c->x=y
 has:∀x,(X.env.kindOf x=some .cell\/X.env.kindOf x=some .free)->∃c,X.env.cells.lookup x=some c
 cab:∀x c,X.fn x=true->X.env.cells.lookup x=some c->X.s₀.heap.objs.size<=c
 hd:X.calm=true->X.A.handled=none
 frames:X.A.frames=some X.stack
 stk:X.stack=X.outer\/(X.stack=X.env::X.outer/\X.env.frame=some X.env.locals)
 exf:∀b∈X.ex,b≠X.env.locals/\∀x c,X.env.cells.lookup x=some c->c≠b
 bs:∀b o,X.base.get? b=some o->X.s₀.heap.get? b=some o/\X.H₀ b=none
 bsz:X.base.objs.size<=X.s₀.heap.objs.size
 noex:∀b o,X.base.get? b=some o->b∉X.ex
 exfs:∀b∈X.ex,b∉X.fs
 funs:X.s₀.heap.FunFrames X.base X.outer
 frf:∀b∈X.fs,X.H₀ b=none
structure Inv(X:Cx)(pins:List (Addr×Obj))(σ:List (Option V))(H:Hp)(s:Shared):Prop where
 ok:X.Ok
 os:s.os=X.s₀.os
 bare:AllBare s.gens
 base:Un X.fs X.ex X.H₀ H X.s₀.heap s.heap
 loc:∃m,s.heap.Ns X.env.locals m/\∀(i:Nat)(x:Str)(v:V),X.N[i]?=some x->σ[i]?=some (some v)->Vis X.env.scope x->∃u,RelV v u/\Look X.env s.heap m x u
 cell:∀x c,X.env.cells.lookup x=some c->∃v,s.heap.IsCell c v
 free:H X.env.locals=none
 freeC:∀x c,X.env.cells.lookup x=some c->H c=none
 pin:∀p∈X.pn++pins,s.heap.get? p.1=some p.2/\H p.1=none/\p.1≠X.env.locals/\p.1∉X.fs/\∀v,p.2.data ≠ .cell v
 hok:HOk X.prog X.w H s.heap
 len:σ.length=X.N.length
section
variable {σ:List (Option V)}
theorem Cx.Ok.nofr(ok:X.Ok){o:Obj}(e:X.base.get? b=some o):b∉X.fs:=λ hb=>by
 have:=(ok.funs.mem hb).1
 rw[e] at this;cases this
theorem Inv.bs(I:Inv X pins σ H s):∀b o,X.base.get? b=some o->s.heap.get? b=some o/\H b=none:=λ b o e =>
 ⟨I.base.keep b o (I.ok.bs b o e).1 (I.ok.bs b o e).2 (I.ok.nofr e) (I.ok.noex b o e),I.base.free b o (I.ok.bs b o e).1 (I.ok.bs b o e).2 (I.ok.noex b o e)⟩
theorem Inv.bk(I:Inv X pins σ H s):∀b o,X.base.get? b=some o->s.heap.get? b=some o:=λ b o e=>(I.bs b o e).1
theorem Inv.mod(I:Inv X pins σ H s):Mod X.K X.mg X.base:=I.ok.mod
theorem Inv.kIn(I:Inv X pins σ H s):X.K.In s.heap:=I.ok.mod.kin.keeps I.bk
theorem Inv.lt(I:Inv X pins σ H s):X.env.locals<s.heap.objs.size:=let ⟨_,hn,_⟩:=I.loc;hn.lt
theorem Inv.sz(I:Inv X pins σ H s):X.s₀.heap.objs.size<=s.heap.objs.size:=zbe I.ok.above (zbu I.lt)
theorem Inv.nofs(I:Inv X pins σ H s)(h:s.heap.objs.size<=a):a∉X.fs:=λ hb=>by
 obtain⟨_,o,ho,_⟩:=I.ok.funs.mem hb
 exact absurd (zat (zaq ho) (zbe I.sz h)) (zcc _)
theorem Inv.cne(I:Inv X pins σ H s):∀x c,X.env.cells.lookup x=some c->c≠X.env.locals:=λ x c e z=>by
 obtain⟨v,o,ho,hd⟩:=I.cell x c e
 obtain⟨m,⟨o',es,ep,ho',hd',_⟩,_⟩:=I.loc
 rw[z,ho'] at ho;cases ho;rw[hd'] at hd;cases hd
theorem Inv.funs(I:Inv X pins σ H s):s.heap.FunFrames X.base X.outer:=by
 have all:∀(l:List Env),(∀b∈frs l,b∈X.fs)->X.s₀.heap.FunFrames X.base l->s.heap.FunFrames X.base l:=by
  intro l
  induction l with
  |nil=>intro _ _;trivial
  |cons env r ih =>
   intro hs hl
   obtain⟨hk,⟨L,o,hf,hn,ho,hd⟩,hr⟩:=hl
   have hL:L∈X.fs:=hs L (by unfold frs;rw[zcq,hf];exact zak)
   obtain⟨sl,e⟩:=I.base.slot L o ho (I.ok.frf L hL) hL λ z=>I.ok.exfs L z hL
   exact⟨hk,⟨L,_,hf,hn,e,hd⟩,ih (λ b hb=>hs b (by unfold frs;rw[zcq,hf];exact zam _ hb)) hr⟩
 exact all X.outer (λ _ hb=>hb) I.ok.funs
theorem Inv.stack(I:Inv X pins σ H s):s.heap.FunFrames X.base X.stack:=by
 rcases I.ok.stk with e|⟨e,hf⟩
 ·rw[e];exact I.funs
 ·rw[e]
  obtain⟨m,hn,_⟩:=I.loc
  refine .cons (by rw[I.ok.kind];decide) hf hn ?_ I.funs
  exact Heap.get?_none_of_le (zbe I.ok.bsz I.ok.above)
theorem Inv.stkSub(I:Inv X pins σ H s):∀b∈frs X.stack,b∈X.env.locals::X.fs:=λ b hb=>by
 rcases I.ok.stk with e|⟨e,hf⟩
 ·rw[e] at hb;exact zam _ hb
 ·rw[e] at hb
  unfold frs at hb
  rw[zcq,hf] at hb
  exact hb
theorem Inv.stkFree(I:Inv X pins σ H s):∀b∈frs X.stack,H b=none:=λ b hb=>by
 rcases zae.mp (I.stkSub b hb) with e|hb
 ·rw[e];exact I.free
 ·obtain⟨_,o,ho,_⟩:=I.ok.funs.mem hb
  exact I.base.free b o ho (I.ok.frf b hb) λ z=>I.ok.exfs b z hb
theorem Inv.step{g':Array GenState}{t':Nat}{d':Drawn}(I:Inv X pins σ H s)
  (hch:∀b∈ch,(b∈X.ex\/X.s₀.heap.objs.size<=b)/\b≠X.env.locals/\(∀x c,X.env.cells.lookup x=some c->c≠b)/\∀p∈X.pn++pins,p.1≠b)
  (keep:∀b o,b≠X.env.locals->b∉X.fs->b∉ch->s.heap.get? b=some o->H b=none->h'.get? b=some o)
  (slot:∀b o,b≠X.env.locals->b∈X.fs->b∉ch->s.heap.get? b=some o->H b=none->∃sl,h'.get? b=some { o with slots:=sl }) (free:∀b o,b∉ch->s.heap.get? b=some o->H b=none->H' b=none)
  (there:∀b o,b∉ch->s.heap.get? b=some o->∃o',h'.get? b=some o')
  (tups:∀b xs,H b=some (.tup xs)->H' b=some (.tup xs)) (frzs:∀b o u,H b=some (.frz o u)->H' b=some (.frz o u)) (tbls:∀b ps,H b=some (.tbl ps)->∃more,H' b=some (.tbl (ps++more)))
  (ns:∀m,s.heap.Ns X.env.locals m->h'.Ns X.env.locals m) (hok:HOk X.prog X.w H' h') (hg:AllBare g') :
  Inv X pins σ H' { s with heap:=h',gens:=g',drawn:=d',toks:=t' }:=by
 have neL:∀b o,X.s₀.heap.get? b=some o->b≠X.env.locals:=λ b o e=>zaz (zat (zaq e) I.ok.above)
 have neC:∀b o,X.s₀.heap.get? b=some o->b∉X.ex->b∉ch:=λ b o e hx hb=>by
  rcases(hch b hb).1 with z|z
  ·exact hx z
  ·exact absurd (zat (zaq e) z) (zcc _)
 have cellK:∀x c,X.env.cells.lookup x=some c->∀v,s.heap.IsCell c v->h'.IsCell c v:=λ x c e v ⟨o,ho,hd⟩=>by
  have nch:c∉ch:=λ z=>(hch c z).2.2.1 x c e rfl
  by_cases hc:c∈X.fs
  ·obtain⟨sl,q⟩:=slot c o (I.cne x c e) hc nch ho (I.freeC x c e)
   exact⟨_,q,hd⟩
  ·exact⟨o,keep c o (I.cne x c e) hc nch ho (I.freeC x c e),hd⟩
 refine⟨I.ok,I.os,hg,⟨λ b o e n hb hx=>?_,λ b o e n hb hx=>?_,λ b o e n hx=>?_,λ b o e hx=>?_,λ b xs e=>tups b xs (I.base.tups b xs e),λ b o xs e=>frzs b o xs (I.base.frzs b o xs e),λ b ps e=>?_⟩,?_,λ x c e=>?_,?_,λ x c e=>?_,λ p hp=>?_,hok,I.len⟩
 ·exact keep b o (neL b o e) hb (neC b o e hx) (I.base.keep b o e n hb hx) (I.base.free b o e n hx)
 ·obtain⟨sl,e1⟩:=I.base.slot b o e n hb hx
  obtain⟨sl',e2⟩:=slot b _ (neL b o e) hb (neC b o e hx) e1 (I.base.free b o e n hx)
  exact⟨sl',e2⟩
 ·obtain⟨o',e1⟩:=I.base.there b o e hx
  exact free b o' (neC b o e hx) e1 (I.base.free b o e n hx)
 ·obtain⟨o',e1⟩:=I.base.there b o e hx
  exact there b o' (neC b o e hx) e1
 ·obtain⟨m1,e1⟩:=I.base.tbls b ps e
  obtain⟨m2,e2⟩:=tbls b _ e1
  exact⟨m1++m2,by rw[e2,Array.append_assoc]⟩
 ·obtain⟨m,hn,hl⟩:=I.loc
  refine⟨m,ns m hn,λ i x v e1 e2 e3=>?_⟩
  obtain⟨u,r,l⟩:=hl i x v e1 e2 e3
  refine⟨u,r,?_⟩
  rcases l with l|⟨k,c,e,z⟩
  ·exact .inl l
  ·exact .inr ⟨k,c,e,cellK x c e _ z⟩
 ·obtain⟨v,z⟩:=I.cell x c e
  exact⟨v,cellK x c e v z⟩
 ·obtain⟨m,⟨o,_,_,ho,_⟩,_⟩:=I.loc
  exact free _ o (λ z=>(hch _ z).2.1 rfl) ho I.free
 ·obtain⟨v,o,ho,hd⟩:=I.cell x c e
  exact free c o (λ z=>(hch c z).2.2.1 x c e rfl) ho (I.freeC x c e)
 ·obtain⟨e,n,ne,nf,d⟩:=I.pin p hp
  have nch:p.1∉ch:=λ z=>(hch p.1 z).2.2.2 p hp rfl
  exact⟨keep p.1 p.2 ne nf nch e n,free p.1 p.2 nch e n,ne,nf,d⟩
theorem Inv.un(I:Inv X pins σ H s)(u:Un X.fs [] H H' s.heap h')(hok:HOk X.prog X.w H' h'):Inv X pins σ H' { s with heap:=h',toks:=t' }:=by
 obtain⟨m,⟨o,es,ep,ho,r⟩,_⟩:=id I.loc
 obtain⟨sl,hL⟩:=u.any ho I.free (by simp)
 exact I.step (g':=s.gens) (d':=s.drawn) (ch:=[]) (λ _ z=>nomatch z) (λ b o _ hb _ e n=>u.keep b o e n hb (by simp)) (λ b o _ hb _ e n=>u.slot b o e n hb (by simp)) (λ b o _ e n=>u.free b o e n (by simp)) (λ b o _ e=>u.there b o e (by simp)) u.tups u.frzs u.tbls (λ m' hm=>by
  obtain⟨o',es',ep',ho',r'⟩:=hm
  rw[ho] at ho';cases ho'
  exact⟨_,es',ep',hL,r'⟩) hok I.bare
theorem Inv.call{g':Array GenState}{d':Drawn}(I:Inv X pins σ H s)(u:Un (frs X.stack) ch H H' s.heap h')(hok:HOk X.prog X.w H' h')(hg:AllBare g')
  (hch:∀b∈ch,(b∈X.ex\/X.s₀.heap.objs.size<=b)/\b≠X.env.locals/\(∀x c,X.env.cells.lookup x=some c->c≠b)/\∀p∈X.pn++pins,p.1≠b) :
  Inv X pins σ H' { s with heap:=h',gens:=g',drawn:=d',toks:=t' }:=by
 obtain⟨m,⟨o,es,ep,ho,r⟩,_⟩:=id I.loc
 obtain⟨sl,hL⟩:=u.any ho I.free λ z=>(hch _ z).2.1 rfl
 exact I.step (ch:=ch) hch (λ b o hL hb hc e n=>u.keep b o e n (λ z=>(zae.mp (I.stkSub b z)).elim hL hb) hc) (λ b o _ _ hc e n=>u.any e n hc) (λ b o hc e n=>u.free b o e n hc) (λ b o hc e=>u.there b o e hc) u.tups u.frzs u.tbls (λ m' hm=>by
  obtain⟨o',es',ep',ho',r'⟩:=hm
  rw[ho] at ho';cases ho'
  exact⟨_,es',ep',hL,r'⟩) hok hg
theorem Inv.turned{it:Addr}(I:Inv X pins σ H s)(k:∀b o,b≠it->s.heap.get? b=some o->h'.get? b=some o)(hn:H it=none)(hL:it≠X.env.locals)
  (h1:it∈X.ex\/X.s₀.heap.objs.size<=it) (h2:∀x c,X.env.cells.lookup x=some c->c≠it) (h3:∀p∈X.pn++pins,p.1≠it):Inv X pins σ H { s with heap:=h',toks:=t' }:=by
 have nit:∀b u,H b=some u->b≠it:=λ b u e z=>by rw[z,hn] at e;cases e
 refine I.step (g':=s.gens) (d':=s.drawn) (ch:=[it]) (λ b hb=>?_) (λ b o _ _ hc e _=>k b o (λ z=>hc (by simp[z])) e) (λ b o _ _ hc e _=>⟨o.slots,k b o (λ z=>hc (by simp[z])) e⟩) (λ _ _ _ _ n=>n)
  (λ b o hc e=>⟨o,k b o (λ z=>hc (by simp[z])) e⟩) (λ _ _ e=>e) (λ _ _ _ e=>e) (λ b ps e=>⟨#[],by rw[e];simp⟩) (λ m hm=>?_) (λ b u e=>?_) I.bare
 ·have e:b=it:=by simpa using hb
  subst e
  exact⟨h1,hL,h2,h3⟩
 ·obtain⟨o,es,ep,ho,r⟩:=hm
  exact⟨o,es,ep,k _ o (Ne.symm hL) ho,r⟩
 ·refine(I.hok b u e).stay (λ c v hc q=>k c v ?_ q) (λ _ q=>q) λ _ _ q=>q
  rcases hc with z|z
  ·rw[z];exact nit b u e
  ·exact nit c _ z
theorem Inv.tok(I:Inv X pins σ H s)(t:Nat):Inv X pins σ H { s with toks:=t }:=I.un (h':=s.heap) (t':=t) Un.refl I.hok
theorem Inv.kept{t':Nat}(I:Inv X pins σ H s)(k:∀b u,s.heap.get? b=some u->h'.get? b=some u):Inv X pins σ H { s with heap:=h',toks:=t' }:=I.un (Un.kept k) (I.hok.kept k)
theorem Inv.laid{a:Addr}{o:HO}{t':Nat}(I:Inv X pins σ H s)(k:∀b u,s.heap.get? b=some u->h'.get? b=some u)(hp:s.heap.objs.size<=a)(new:ObjOk X.prog X.w (upd H a o) h' a o) :
  Inv X pins σ (upd H a o) { s with heap:=h',toks:=t' }:=I.un (Un.laid k hp (I.hok.fresh hp)) (I.hok.laid k hp new)
theorem Inv.write{x e:Addr}{o:HO}{t':Nat}(I:Inv X pins σ H s)(mu:Mut (H x))(he:e=x\/H e=some (.own x))(k:∀b u,b≠e->s.heap.get? b=some u->h'.get? b=some u)(heo:∃u,h'.get? e=some u)
  (new:ObjOk X.prog X.w (upd H x o) h' x o):Inv X pins σ (upd H x o) { s with heap:=h',toks:=t' }:=I.un (Un.write mu he k heo) (I.hok.write mu he k heo new)
theorem Inv.weak{σ':List (Option V)}(I:Inv X pins σ H s)(hl:σ'.length=σ.length)(w:∀(i:Nat) v,σ'[i]?=some (some v)->σ[i]?=some (some v)):Inv X pins σ' H s :=
 ⟨I.ok,I.os,I.bare,I.base,let ⟨m,hn,hl'⟩:=I.loc;⟨m,hn,λ i x v e1 e2 e3=>hl' i x v e1 (w i v e2) e3⟩,I.cell,I.free,I.freeC,I.pin,I.hok,hl.trans I.len⟩
theorem Inv.pins_of{pins':List (Addr×Obj)}(I:Inv X pins σ H s)(h:∀p∈pins',s.heap.get? p.1=some p.2/\H p.1=none/\p.1≠X.env.locals/\p.1∉X.fs/\∀v,p.2.data ≠ .cell v):Inv X pins' σ H s :=
 ⟨I.ok,I.os,I.bare,I.base,I.loc,I.cell,I.free,I.freeC,λ p hp=>(zau.mp hp).elim (λ z=>I.pin p (zbg _ z)) (h p),I.hok,I.len⟩
theorem qkr9{N:List Str}(hN:N.Nodup){j:Nat}(a:N[i]?=some x)(b:N[j]?=some x):i=j:=by
 obtain⟨h1,e1⟩:=zab.mp a
 obtain⟨h2,e2⟩:=zab.mp b
 exact(zep hN).mp (e1.trans e2.symm)
theorem store_ok2{M:Model}{A:Around}{E:Value->Shared->Prop}{u:Value}{Q:Unit->Shared->Prop}(I:Inv X pins σ H s)(hN:X.N.Nodup)(hi:X.N[i]?=some x)(hx:Loc X.env.scope x)(r:RelV v u)
  (h:∀s',Inv X pins (σ.set i (some v)) H s'->(∃a,Heap.SameBut a s.heap s'.heap/\(a=X.env.locals\/X.env.cells.lookup x=some a))->Q () s') (hf:X.fn x=true\/X.env.scope.names.lookup x=some .local:=by first|exact .inl rfl|exact .inr rfl|assumption):wpAny M A (storeName X.env x u) Q E s:=by
 obtain⟨m,hn,hl⟩:=id I.loc
 have hcls:(X.env.scope.kind == .class||(X.env.scope.kind == .module&&X.env.locals != X.env.globals))=false:=by rw[I.ok.kind];rfl
 have hiσ:i<σ.length:=by rw[I.len];exact(zab.mp hi).1
 have cne:=I.cne
 have tracked:∀{a:Addr}{h':Heap},(∃o,s.heap.get? a=some o/\H a=none)->Heap.SameBut a s.heap h'->HOk X.prog X.w H h':=λ {a h'} ha hs b ob e=>by
  obtain⟨_,_,hfree⟩:=ha
  refine(I.hok b ob e).stay (λ c w' hc q=>(hs.2 c ?_).trans q) (λ _ q=>q) λ _ _ q=>q
  rintro rfl
  rcases hc with rfl|hc
  ·rw[hfree] at e;cases e
  ·rw[hfree] at hc;cases hc
 rcases hx with hk|hk
 ·refine wpAny_storeName_local hk hn (λ h' hn' hs=>?_) hcls
  obtain⟨oL,_,_,hoL,_⟩:=id hn
  refine h _ ⟨I.ok,I.os,I.bare,⟨λ b o e n hb hx=>?_,λ b o e n hb hx=>?_,I.base.free,λ b o e hx=>?_,I.base.tups,I.base.frzs,I.base.tbls⟩,⟨_,hn',λ j y v' e1 e2 e3=>?_⟩,λ y c e=>?_,I.free,I.freeC,λ p hp=>?_,tracked ⟨oL,hoL,I.free⟩ hs,by simpa using I.len⟩ ⟨_,hs,.inl rfl⟩
  ·exact(hs.2 b (zaz (zat (zaq e) I.ok.above))).trans (I.base.keep b o e n hb hx)
  ·obtain⟨sl,e1⟩:=I.base.slot b o e n hb hx
   exact⟨sl,(hs.2 b (zaz (zat (zaq e) I.ok.above))).trans e1⟩
  ·obtain⟨o',e1⟩:=I.base.there b o e hx
   exact⟨o',(hs.2 b (zaz (zat (zaq e) I.ok.above))).trans e1⟩
  ·by_cases hj:j=i
   ·subst hj
    rw[hi] at e1;cases e1
    rw[zcu hiσ] at e2
    cases e2
    exact⟨u,r,.inl ⟨hk,by simp⟩⟩
   ·rw[zdt (Ne.symm hj)] at e2
    obtain⟨u',r',q⟩:=hl j y v' e1 e2 e3
    refine⟨u',r',?_⟩
    rcases q with⟨k,e⟩|⟨k,c,e,z⟩
    ·refine .inl ⟨k,?_⟩
     have:y≠x:=λ e=>hj (qkr9 hN e1 (e ▸ hi))
     simp[this,e]
    ·exact .inr ⟨k,c,e,z.sameBut hs (cne y c e)⟩
  ·obtain⟨w',z⟩:=I.cell y c e
   exact⟨w',z.sameBut hs (cne y c e)⟩
  ·obtain⟨e,n,ne,nf,d⟩:=I.pin p hp
   exact⟨(hs.2 p.1 ne).trans e,n,ne,nf,d⟩
 ·have hfn:X.fn x=true:=by
   rcases hf with z|z
   ·exact z
   ·rw[z] at hk;cases hk
  obtain⟨c,hc⟩:=I.ok.has x (.inl hk)
  obtain⟨w',z⟩:=I.cell x c hc
  refine wpAny_storeName_cell I.ok.kind hk hc z (λ h' hc' hs=>?_)
  obtain⟨oc,hoc,hocd⟩:=id z
  refine h { s with heap:=h' } ⟨I.ok,I.os,I.bare,⟨λ b o e n hb hx=>?_,λ b o e n hb hx=>?_,I.base.free,λ b o e hx=>?_,I.base.tups,I.base.frzs,I.base.tbls⟩,⟨m,hn.sameBut hs (Ne.symm (cne x c hc)),λ j y v' e1 e2 e3=>?_⟩,λ y c' e=>?_,I.free,I.freeC,λ p hp=>?_,tracked ⟨oc,hoc,I.freeC x c hc⟩ hs,by simpa using I.len⟩ ⟨c,hs,.inr hc⟩
  ·exact(hs.2 b (zaz (zat (zaq e) (I.ok.cab x c hfn hc)))).trans (I.base.keep b o e n hb hx)
  ·obtain⟨sl,e1⟩:=I.base.slot b o e n hb hx
   exact⟨sl,(hs.2 b (zaz (zat (zaq e) (I.ok.cab x c hfn hc)))).trans e1⟩
  ·obtain⟨o',e1⟩:=I.base.there b o e hx
   exact⟨o',(hs.2 b (zaz (zat (zaq e) (I.ok.cab x c hfn hc)))).trans e1⟩
  ·by_cases hj:j=i
   ·subst hj
    rw[hi] at e1;cases e1
    rw[zcu hiσ] at e2
    cases e2
    exact⟨u,r,.inr ⟨.inl hk,c,hc,hc'⟩⟩
   ·rw[zdt (Ne.symm hj)] at e2
    obtain⟨u',r',q⟩:=hl j y v' e1 e2 e3
    refine⟨u',r',?_⟩
    rcases q with q|⟨k,c',e,z'⟩
    ·exact .inl q
    ·refine .inr ⟨k,c',e,z'.sameBut hs ?_⟩
     rintro rfl
     exact hj (qkr9 hN e1 (I.ok.inj _ _ _ e hc ▸ hi))
  ·by_cases hcc:c'=c
   ·subst hcc;exact⟨_,hc'⟩
   ·obtain⟨w2,z2⟩:=I.cell y c' e
    exact⟨w2,z2.sameBut hs hcc⟩
  ·obtain⟨e,n,ne,nf,d⟩:=I.pin p hp
   refine⟨(hs.2 p.1 ?_).trans e,n,ne,nf,d⟩
   intro q
   rw[q,hoc] at e
   have q':oc=p.2:=Option.some.inj e
   exact d w' (by rw[<- q'];exact hocd)
theorem qgr9{M:Model}{A:Around}{E:Value->Shared->Prop}{u:Value}{Q:Unit->Shared->Prop}(I:Inv X pins σ H s)(hN:X.N.Nodup)(hi:X.N[i]?=some x)(hx:Loc X.env.scope x)(r:RelV v u)
  (h:∀s',Inv X pins (σ.set i (some v)) H s'->Q () s') (hf:X.fn x=true\/X.env.scope.names.lookup x=some .local:=by first|exact .inl rfl|exact .inr rfl|assumption):wpAny M A (storeName X.env x u) Q E s :=
 store_ok2 I hN hi hx r (λ s' I' _=>h s' I') hf
theorem Inv.call'{s':Shared}(I:Inv X pins σ H s)(ho:s'.os=s.os)(u:Un (frs X.stack) ch H H' s.heap s'.heap)(hok:HOk X.prog X.w H' s'.heap)(hg:AllBare s'.gens)
  (hch:∀b∈ch,(b∈X.ex\/X.s₀.heap.objs.size<=b)/\b≠X.env.locals/\(∀x c,X.env.cells.lookup x=some c->c≠b)/\∀p∈X.pn++pins,p.1≠b):Inv X pins σ H' s':=by
 obtain⟨h',g',d',t',o'⟩:=s'
 have e:o'=s.os:=ho
 subst e
 exact I.call (g':=g') (t':=t') (d':=d') u hok hg hch
end
abbrev XK:=Value->Option Addr->Hp->Prop
abbrev St:=List (Option V)
variable {σ:St}
abbrev VK:=V->Hp->Prop
abbrev TE:=St->Hp->VK->Prop
variable {t ta te:TE}
abbrev TT:=St->Hp->(Bool->Hp->Prop)->Prop
abbrev TA:=St->Hp->(List V->Hp->Prop)->Prop
structure Ends where
 nx:St->Hp->Prop
 rt:VK
 bk:St->Hp->Prop:=λ _ _=>False
 ct:St->Hp->Prop:=λ _ _=>False
variable {D:Ends}
abbrev TS:=Ends->St->Hp->Prop
variable {tb:TS}
def EP(X:Cx)(pins:List (Addr×Obj))(σ:St)(Q:VK)(u:Value)(s':Shared):Prop:=∃v H',Inv X pins σ H' s'/\RelV v u/\Q v H'
def TP(X:Cx)(pins:List (Addr×Obj))(σ:St)(Q:Bool->Hp->Prop)(b:Bool)(s':Shared):Prop:=∃H',Inv X pins σ H' s'/\Q b H'
def AP(X:Cx)(pins:List (Addr×Obj))(σ:St)(Q:List V->Hp->Prop)(us:List Value)(s':Shared):Prop:=∃vs H',Inv X pins σ H' s'/\Vals vs us/\Q vs H'
def SP(X:Cx)(pins:List (Addr×Obj))(D:Ends)(f:Flow)(s':Shared):Prop :=
 match f with
 | .next=>∃σ' H',Inv X pins σ' H' s'/\D.nx σ' H'
 | .brk=>∃σ' H',Inv X pins σ' H' s'/\D.bk σ' H'
 | .cont=>∃σ' H',Inv X pins σ' H' s'/\D.ct σ' H'
 | .ret u=>∃v σ' H',Inv X pins σ' H' s'/\RelV v u/\D.rt v H'
def PE(X:Cx)(e:Expr)(t:TE):Prop :=
 ∀(pins:List (Addr×Obj)) (s:Shared) (σ:St) (H:Hp) (Q:VK),Inv X pins σ H s->t σ H Q->wpAny (model X.prog X.w) X.A (eval e X.env) (EP X pins σ Q) X.xe s
def PT(X:Cx)(e:Expr)(t:TT):Prop :=
 ∀(pins:List (Addr×Obj)) (s:Shared) (σ:St) (H:Hp) (Q:Bool->Hp->Prop),Inv X pins σ H s->t σ H Q->wpAny (model X.prog X.w) X.A (isTrue e X.env (eval e X.env)) (TP X pins σ Q) X.xe s
def PW(X:Cx)(e:Expr)(t:TT):Prop :=
 ∀(whole:Sem Value) (pins:List (Addr×Obj)) (s:Shared) (σ:St) (H:Hp) (Q:Bool->Hp->Prop),Inv X pins σ H s->t σ H Q->wpAny (model X.prog X.w) X.A (isTrue e X.env whole) (TP X pins σ Q) X.xe s
theorem PW.pt{t:TT}(h:PW X e t):PT X e t:=h _
def PA(X:Cx)(es:List Expr)(t:TA):Prop :=
 ∀(pos:Pos) (pins:List (Addr×Obj)) (s:Shared) (σ:St) (H:Hp) (Q:List V->Hp->Prop),Inv X pins σ H s->t σ H Q->wpAny (model X.prog X.w) X.A (spliced (backTo pos (starEach es X.env))) (AP X pins σ Q) X.xe s
def PS(X:Cx)(st:Stmt)(t:TS):Prop :=
 ∀(pins:List (Addr×Obj)) (s:Shared) (σ:St) (H:Hp) (D:Ends),Inv X pins σ H s->t D σ H->wpAny (model X.prog X.w) X.A (exec st X.env) (SP X pins D) X.xe s
def PSs(X:Cx)(st:List Stmt)(t:TS):Prop :=
 ∀(pins:List (Addr×Obj)) (s:Shared) (σ:St) (H:Hp) (D:Ends),Inv X pins σ H s->t D σ H->wpAny (model X.prog X.w) X.A (execs st X.env) (SP X pins D) X.xe s
theorem thn{α:Type}{t:Sem α}{Q Q':α->Shared->Prop}(h:wpAny M A t Q E s)(hQ:∀a s,Q a s->Q' a s):wpAny M A t Q' E s:=wpAny_mono h hQ λ _ _ x=>x
section
inductive tVar(i:Nat)(σ:St)(H:Hp)(Q:VK):Prop
 |mk (v:_):σ[i]?=some (some v)->Q v H->tVar i σ H Q
def tC(v:V):TE:=λ _ H Q=>Q v H
theorem pe_var{pos:Pos}(hN:X.N[i]?=some x)(hv:Vis X.env.scope x)(hd:(x==("__debug__":Str))=false:=by decide)(hcd:(x==("__classdict__":Str))=false:=by decide):PE X (.Name x pos) (tVar i):=by
 intro pins s σ H Q I h
 obtain⟨v,e,h⟩:=h
 obtain⟨m,hn,hl⟩:=I.loc
 obtain⟨u,r,l⟩:=hl i x v hN e hv
 have fin:EP X pins σ Q u s:=⟨v,H,I,r,h⟩
 rcases l with⟨hk,hm⟩|⟨hk,c,hc,hcell⟩
 ·exact wpAny_Name (wpAny_loadName_local I.ok.kind hk hn hm fin) hd
 ·rcases hk with hk|hk
  ·exact wpAny_Name (wpAny_loadName_cell I.ok.kind hk hc hcell fin) hd
  ·exact wpAny_Name (wpAny_loadName_free I.ok.kind hk hc hcell fin hcd) hd
theorem pe_int{i j pos}:PE X (.Constant (.int i) j pos) (tC (.int i)):=λ _ _ _ H _ I h=>wpAny_Constant_int ⟨.int i,H,I.tok _,⟨_,rfl⟩,h⟩
theorem pe_bl{b j pos}:PE X (.Constant (.bool b) j pos) (tC (.bl b)):=λ _ _ _ H _ I h=>Constant_bool ⟨.bl b,H,I,rfl,h⟩
theorem pe_non{j pos}:PE X (.Constant .none j pos) (tC .non):=λ _ _ _ H _ I h=>Constant_none ⟨.non,H,I,rfl,h⟩
theorem pe_str{x j pos}:PE X (.Constant (.str x) j pos) (tC (.str x)):=λ _ _ _ H _ I h=>Calls.Constant_str ⟨.str x,H,I.tok _,⟨_,rfl⟩,h⟩
def Gl(X:Cx)(x:Str):Prop:=X.env.kindOf x=some .globalImplicit
theorem qhq9{E:Value->Shared->Prop}{u:Value}{pos:Pos}(I:Inv X pins σ H s)(hg:Gl X x)(hm:X.mg x=some u)(h:Q u s)
  (hd:(x==("__debug__":Str))=false:=by decide):wpAny (model X.prog X.w) X.A (eval (.Name x pos) X.env) Q E s :=
 Calls.Name_function_global I.ok.kind hg (Calls.loadGlobal_global (by rw[I.ok.glob];exact I.mod.glob.keeps I.bk) hm h) hd
theorem qmt9{E:Value->Shared->Prop}{u:Value}{pos:Pos}(I:Inv X pins σ H s)(hg:Gl X x)(hm:X.mg x=none)(hv:bootBuiltins x=some u)(h:Q u s)
  (hn:x≠"__name__" := by decide) (hd:(x==("__debug__":Str))=false:=by decide):wpAny (model X.prog X.w) X.A (eval (.Name x pos) X.env) Q E s:=by
 obtain⟨mb,h1,h2⟩:=I.mod.blt
 exact Calls.Name_function_global I.ok.kind hg (Calls.loadGlobal_builtin (by rw[I.ok.glob];exact I.mod.glob.keeps I.bk) hm (by rw[I.ok.blt];exact h1.keeps I.bk) ((h2 x hn).trans hv) h) hd
theorem pe_glob{u:Value}{pos:Pos}(hg:Gl X x)(hm:X.mg x=some u)(r:RelV v u)(hd:(x==("__debug__":Str))=false:=by decide):PE X (.Name x pos) (tC v) :=
 λ _ _ _ H _ I h=>qhq9 I hg hm ⟨v,H,I,r,h⟩ hd
theorem pe_bltn{u:Value}{pos:Pos}(hg:Gl X x)(hm:X.mg x=none)(hv:bootBuiltins x=some u)(r:RelV v u)(hn:x≠"__name__" := by decide)(hd:(x==("__debug__":Str))=false:=by decide):PE X (.Name x pos) (tC v) :=
 λ _ _ _ H _ I h=>qmt9 I hg hm hv ⟨v,H,I,r,h⟩ hn hd
variable {a b:Expr}{tb:TE}
def PC(X:Cx)(op:CmpOp)(a b:Expr)(t:TE):Prop :=
 ∀(pins:List (Addr×Obj)) (s:Shared) (σ:St) (H:Hp) (Q:VK),Inv X pins σ H s->t σ H Q ->
  wpAny (model X.prog X.w) X.A (eval a X.env) (λ v s₁=>wpAny (model X.prog X.w) X.A (eval b X.env) (λ u s₂=>wpAny (model X.prog X.w) X.A (compareOp op v u) (EP X pins σ Q) X.xe s₂) X.xe s₁) X.xe s
theorem qpg9(b:Expr)(h:op ≠ .In)(h2:op ≠ .NotIn):behindInMarks op b=false:=by
 have e1:(op==CmpOp.In)=false:=by cases op<;>first|rfl|exact absurd rfl h
 have e2:(op==CmpOp.NotIn)=false:=by cases op<;>first|rfl|exact absurd rfl h2
 cases b<;>simp[behindInMarks,e1,e2]
def tIsN(ta:TE):TE:=λ σ H Q=>ta σ H λ x H1=>Q (.bl (decide (x=.non))) H1
def tNotN(ta:TE):TE:=λ σ H Q=>ta σ H λ x H1=>Q (.bl (!decide (x=.non))) H1
theorem RelV.none_iff{x:V}{v:Value}(r:RelV x v):(v==Value.none)=decide (x=.non):=by
 cases x with
 |non=>cases r;rfl
 |bl _=>cases r;rfl
 |int _=>obtain⟨t,rfl⟩:=r;rfl
 |str _=>obtain⟨t,rfl⟩:=r;rfl
 |byt _=>obtain⟨t,rfl⟩:=r;rfl
 |flt _=>obtain⟨t,rfl⟩:=r;rfl
 |ref _=>cases r;rfl
 |ty _=>cases r;rfl
theorem pc_isN{j pos'}(ha:PE X a ta):PC X .Is a (.Constant .none j pos') (tIsN ta):=by
 intro pins s σ H Q I h
 refine thn (ha pins s σ H _ I h) λ v s1 z9=>?_
 obtain⟨x,H1,I1,r1,q1⟩ := z9
 exact Constant_none (is_none_gen ⟨.bl _,H1,I1,by rw[r1.none_iff];rfl,q1⟩)
theorem pc_notN{j pos'}(ha:PE X a ta):PC X .IsNot a (.Constant .none j pos') (tNotN ta):=by
 intro pins s σ H Q I h
 refine thn (ha pins s σ H _ I h) λ v s1 z9=>?_
 obtain⟨x,H1,I1,r1,q1⟩ := z9
 exact Constant_none (isnot_none_gen ⟨.bl _,H1,I1,by rw[r1.none_iff];rfl,q1⟩)
def tB(t:TE):TT:=λ σ H Q=>t σ H λ x H1=>∃c,x=.bl c/\Q c H1
theorem pe_cmp(h:PC X op a b t)(h1:behindInMarks op b=false:=by first|exact qpg9 _ (by decide) (by decide)|rfl):PE X (.Compare a [op] [b] pos) t:=λ pins s σ H Q I hw=>wpAny_Compare1 (h pins s σ H Q I hw) h1
theorem pt_cmp(h:PC X op a b t)(h1:behindInMarks op b=false:=by first|exact qpg9 _ (by decide) (by decide)|rfl):PT X (.Compare a [op] [b] pos) (tB t):=by
 intro pins s σ H Q I hw
 refine wpAny_isTrue_Compare1 (thn (h pins s σ H _ I hw) λ v s1 h1=>thn h1 λ u s2 h2=>thn h2 λ c s3 z9=>?_) h1
 obtain⟨x,H1,I1,r1,q1⟩ := z9
 obtain⟨d,rfl,q⟩:=q1
 cases r1
 exact wpAny_truthy_bool ⟨H1,I1,q⟩
theorem pt_val(h:PE X e t)(he:∀whole,isTrue e X.env whole=(do let v <- whole;standAt e.pos;holding [v] (truthy v)):=by intro _;rfl):PT X e (tB t):=by
 intro pins s σ H Q I hw
 refine isTrue_plain (thn (h pins s σ H _ I hw) λ v s1 z9=>?_) (he _)
 obtain⟨x,H1,I1,r1,q1⟩ := z9
 obtain⟨d,rfl,q⟩:=q1
 cases r1
 exact wpAny_truthy_bool ⟨H1,I1,q⟩
variable {tA tB':TT}{rest:List Expr}
def tAnd(t u:TT):TT:=λ σ H Q=>t σ H λ c H1=>if c=true then u σ H1 Q else Q false H1
def tOr(t u:TT):TT:=λ σ H Q=>t σ H λ c H1=>if c=true then Q true H1 else u σ H1 Q
def tNot(t:TT):TT:=λ σ H Q=>t σ H λ c H1=>Q (!c) H1
theorem pw_and1(ha:PT X a tA):PW X (.BoolOp .And [a] pos) tA:=by
 intro wh pins s σ H Q I h
 refine isTrue_and (thn (ha pins s σ H Q I h) λ c s1 e=>?_)
 cases c with
 |true=>exact isTrue_and_nil e
 |false=>exact e
theorem pw_or1(ha:PT X a tA):PW X (.BoolOp .Or [a] pos) tA:=by
 intro wh pins s σ H Q I h
 refine isTrue_or (thn (ha pins s σ H Q I h) λ c s1 e=>?_)
 cases c with
 |false=>exact isTrue_or_nil e
 |true=>exact e
theorem pw_and(ha:PT X a tA)(hb:PW X (.BoolOp .And (b::rest) pos) tB'):PW X (.BoolOp .And (a::b::rest) pos) (tAnd tA tB'):=by
 intro wh pins s σ H Q I h
 refine isTrue_and (thn (ha pins s σ H _ I h) λ c s1 z9=>?_)
 obtain⟨H1,I1,q1⟩ := z9
 cases c with
 |true=>exact hb wh pins s1 σ H1 Q I1 q1
 |false=>exact⟨H1,I1,q1⟩
theorem pw_or(ha:PT X a tA)(hb:PW X (.BoolOp .Or (b::rest) pos) tB'):PW X (.BoolOp .Or (a::b::rest) pos) (tOr tA tB'):=by
 intro wh pins s σ H Q I h
 refine isTrue_or (thn (ha pins s σ H _ I h) λ c s1 z9=>?_)
 obtain⟨H1,I1,q1⟩ := z9
 cases c with
 |true=>exact⟨H1,I1,q1⟩
 |false=>exact hb wh pins s1 σ H1 Q I1 q1
theorem pt_not(ha:PT X a tA):PT X (.UnaryOp .Not a pos) (tNot tA):=by
 intro pins s σ H Q I h
 exact isTrue_not (ha pins s σ H (λ c H1=>Q (!c) H1) I h)
def tAndV(ta tb:TE):TE:=λ σ H Q=>ta σ H λ x H1=>∃c,x=.bl c/\if c=true then tb σ H1 Q else Q (.bl false) H1
def tOrV(ta tb:TE):TE:=λ σ H Q=>ta σ H λ x H1=>∃c,x=.bl c/\if c=true then Q (.bl true) H1 else tb σ H1 Q
def tNotV(ta:TE):TE:=λ σ H Q=>ta σ H λ x H1=>∃c,x=.bl c/\Q (.bl (!c)) H1
theorem pe_one{op}(h:PE X a t):PE X (.BoolOp op [a] pos) t:=λ pins s σ H Q I hw=>BoolOp_one (h pins s σ H Q I hw)
theorem pe_and(ha:PE X a ta)(hb:PE X (.BoolOp .And (b::rest) pos) tb):PE X (.BoolOp .And (a::b::rest) pos) (tAndV ta tb):=by
 intro pins s σ H Q I h
 refine BoolOp_and (thn (ha pins s σ H _ I h) λ v s1 z9=>?_)
 obtain⟨x,H1,I1,r1,q1⟩ := z9
 obtain⟨c,rfl,q1⟩:=q1
 cases r1
 refine wpAny_truthy_bool ?_
 cases c with
 |true=>exact hb pins s1 σ H1 Q I1 q1
 |false=>exact⟨.bl false,H1,I1,rfl,q1⟩
theorem pe_or(ha:PE X a ta)(hb:PE X (.BoolOp .Or (b::rest) pos) tb):PE X (.BoolOp .Or (a::b::rest) pos) (tOrV ta tb):=by
 intro pins s σ H Q I h
 refine BoolOp_or (thn (ha pins s σ H _ I h) λ v s1 z9=>?_)
 obtain⟨x,H1,I1,r1,q1⟩ := z9
 obtain⟨c,rfl,q1⟩:=q1
 cases r1
 refine wpAny_truthy_bool ?_
 cases c with
 |false=>exact hb pins s1 σ H1 Q I1 q1
 |true=>exact⟨.bl true,H1,I1,rfl,q1⟩
theorem pe_not(ha:PE X a ta):PE X (.UnaryOp .Not a pos) (tNotV ta):=by
 intro pins s σ H Q I h
 refine UnaryOp_ (thn (ha pins s σ H _ I h) λ v s1 z9=>?_)
 obtain⟨x,H1,I1,r1,q1⟩ := z9
 obtain⟨c,rfl,q1⟩:=q1
 cases r1
 exact not_of (wpAny_truthy_bool ⟨.bl (!c),H1,I1,rfl,q1⟩)
def tIf(t:TT)(ta tb:TE):TE:=λ σ H Q=>t σ H λ c H1=>if c=true then ta σ H1 Q else tb σ H1 Q
theorem pe_ifExp(hc:PT X c tA)(ha:PE X a ta)(hb:PE X b tb):PE X (.IfExp c a b pos) (tIf tA ta tb):=by
 intro pins s σ H Q I h
 refine wpAny_IfExp (thn (hc pins s σ H _ I h) λ d s1 z9=>?_)
 obtain⟨H1,I1,q1⟩ := z9
 cases d with
 |true=>exact ha pins s1 σ H1 Q I1 q1
 |false=>exact hb pins s1 σ H1 Q I1 q1
end
def SqL(K:W.Frag)(H:Hp)(a:Addr)(xs:List V):Prop :=
 Rd H a (.lst xs) \/
  ∃(o:Obj)(its:Array Value)(n:Nat),K.lookup a=some o/\o.cls=.type "list" /\ o.dict=none/\o.data=.seq its n/\its.size<=sizeLine/\Vals xs its.toList
def SqT(K:W.Frag)(H:Hp)(a:Addr)(xs:List V):Prop :=
 Rd H a (.tup xs) \/
  ∃(o:Obj)(its:Array Value)(n:Nat),K.lookup a=some o/\o.cls=.type "tuple" /\ o.data=.seq its n/\its.size<=sizeLine/\Vals xs its.toList
def absV:Value->Option V
 | .none=>some .non
 | .bool b=>some (.bl b)
 | .int i _=>some (.int i)
 | .str x _=>some (.str x)
 | .bytes b _=>some (.byt b)
 | .float b _=>some (.flt b)
 | .ref a=>some (.ref a)
 | .type n=>some (.ty n)
 |_=>none
theorem RelV.abs{x:V}{u:Value}(r:RelV x u):absV u=some x:=by
 cases x with
 |non=>cases r;rfl
 |bl _=>cases r;rfl
 |int _=>obtain⟨t,rfl⟩:=r;rfl
 |str _=>obtain⟨t,rfl⟩:=r;rfl
 |byt _=>obtain⟨t,rfl⟩:=r;rfl
 |flt _=>obtain⟨t,rfl⟩:=r;rfl
 |ref _=>cases r;rfl
 |ty _=>cases r;rfl
theorem RelV.inj{x y:V}{u:Value}(r:RelV x u)(q:RelV y u):x=y:=Option.some.inj (r.abs.symm.trans q.abs)
theorem Vals.inj:∀{xs ys:List V}{us:List Value},Vals xs us->Vals ys us->xs=ys
 |_,_,_,.nil,.nil=>rfl
 |_,_,_,.cons r t,.cons r' t'=>by rw[r.inj r',Vals.inj t t']
section
variable {xs ys:List V}
theorem SqL.of(h:H a=some (.lst xs)):SqL K H a xs:=.inl (.inl h)
theorem SqT.of(h:H a=some (.tup xs)):SqT K H a xs:=.inl (.inl h)
theorem Inv.list(I:Inv X pins σ H s)(h:SqL X.K H a xs):∃its:List Value,Vals xs its/\PlainL s.heap a its.toArray/\xs.length<=sizeLine:=by
 rcases h with h|⟨o,its,n,hk,hc,hd,hs,hz,r⟩
 ·obtain⟨z,its,n,r,e⟩:=h.ok I.hok
  exact⟨its,r,⟨_,n,e,rfl,rfl,rfl⟩,z⟩
 ·refine⟨its.toList,r,⟨o,n,I.kIn a o hk,hc,hd,by simpa using hs⟩,?_⟩
  have e:=r.length
  simp only[zfj] at e
  omega
theorem Inv.tuple(I:Inv X pins σ H s)(h:SqT X.K H a xs):∃its:List Value,Vals xs its/\IsTup s.heap a its.toArray/\xs.length<=sizeLine:=by
 rcases h with h|⟨o,its,n,hk,hc,hs,hz,r⟩
 ·obtain⟨z,its,r,p⟩:=h.ok I.hok
  exact⟨its,r,p,z⟩
 ·refine⟨its.toList,r,⟨o,I.kIn a o hk,hc,n,by simpa using hs⟩,?_⟩
  have e:=r.length
  simp only[zfj] at e
  omega
theorem Inv.list_inj(I:Inv X pins σ H s)(h:SqL X.K H a xs)(h':SqL X.K H a ys):xs=ys:=by
 obtain⟨its,r,⟨o,n,e,_,_,d⟩,_⟩:=I.list h
 obtain⟨its',r',⟨o',n',e',_,_,d'⟩,_⟩:=I.list h'
 rw[e] at e';cases e'
 rw[d] at d'
 injection d' with d1 _
 have:its=its':=by simpa using congrArg zgx d1
 subst this
 exact r.inj r'
theorem Inv.tuple_inj(I:Inv X pins σ H s)(h:SqT X.K H a xs)(h':SqT X.K H a ys):xs=ys:=by
 obtain⟨its,r,⟨o,e,_,n,d⟩,_⟩:=I.tuple h
 obtain⟨its',r',⟨o',e',_,n',d'⟩,_⟩:=I.tuple h'
 rw[e] at e';cases e'
 rw[d] at d'
 injection d' with d1 _
 have:its=its':=by simpa using congrArg zgx d1
 subst this
 exact r.inj r'
end
abbrev Cx.wish(X:Cx)(E:Value->Shared->Prop):Cx:={ X with xe:=E }
abbrev Cx.nox(X:Cx):Cx:=X.wish λ _ _=>False
theorem Cx.Ok.wish{X:Cx}(ok:X.Ok)(E:Value->Shared->Prop):(X.wish E).Ok :=
 ⟨ok.mod,ok.kind,ok.glob,ok.blt,ok.above,ok.inj,ok.has,ok.cab,ok.hd,ok.frames,ok.stk,ok.exf,ok.bs,ok.bsz,ok.noex,ok.exfs,ok.funs,ok.frf⟩
theorem Cx.Ok.unwish(ok:(X.wish E).Ok):X.Ok :=
 ⟨ok.mod,ok.kind,ok.glob,ok.blt,ok.above,ok.inj,ok.has,ok.cab,ok.hd,ok.frames,ok.stk,ok.exf,ok.bs,ok.bsz,ok.noex,ok.exfs,ok.funs,ok.frf⟩
theorem Inv.wish(I:Inv X pins σ H s)(E:Value->Shared->Prop):Inv (X.wish E) pins σ H s:=⟨I.ok.wish E,I.os,I.bare,I.base,I.loc,I.cell,I.free,I.freeC,I.pin,I.hok,I.len⟩
theorem Inv.unwish(I:Inv (X.wish E) pins σ H s):Inv X pins σ H s:=⟨I.ok.unwish,I.os,I.bare,I.base,I.loc,I.cell,I.free,I.freeC,I.pin,I.hok,I.len⟩
theorem SP.unwish{D:Ends}{f:Flow}{s':Shared}(h:SP (X.wish E) pins D f s'):SP X pins D f s':=by
 cases f with
 |next=>obtain⟨σ',H',I,q⟩:=h;exact⟨σ',H',I.unwish,q⟩
 |brk=>obtain⟨σ',H',I,q⟩:=h;exact⟨σ',H',I.unwish,q⟩
 |cont=>obtain⟨σ',H',I,q⟩:=h;exact⟨σ',H',I.unwish,q⟩
 |ret u=>obtain⟨v,σ',H',I,r,q⟩:=h;exact⟨v,σ',H',I.unwish,r,q⟩
theorem PSs.nox{st:List Stmt}{t:TS}(h:PSs X.nox st t):PSs X st t:=λ pins s σ H D I hw =>
 wpAny_mono (h pins s σ H D (I.wish _) hw) (λ _ _ q=>q.unwish) λ _ _ z=>False.elim z
section
variable {st:Stmt}{rest:List Stmt}{t u:TS}
def tNext:TS:=λ D σ H=>D.nx σ H
def tSeq(t u:TS):TS:=λ D σ H=>t { D with nx:=u D } σ H
theorem pss_nil:PSs X [] tNext:=λ _ _ σ H _ I h=>wpAny_execs_nil ⟨σ,H,I,h⟩
theorem pss_cons(h1:PS X st t)(h2:PSs X rest u):PSs X (st::rest) (tSeq t u):=by
 intro pins s σ H D I h
 refine wpAny_execs_cons (thn (h1 pins s σ H { D with nx:=u D } I h) λ f s1 q=>?_)
 cases f with
 |next =>
  obtain⟨σ',H',I',q⟩:=q
  exact h2 pins s1 σ' H' D I' q
 |ret v=>exact q
 |brk=>exact q
 |cont=>exact q
theorem pss_one(h1:PS X st t):PSs X [st] t:=by
 intro pins s σ H D I h
 refine wpAny_execs_cons (thn (h1 pins s σ H D I h) λ f s1 q=>?_)
 cases f with
 |next=>exact wpAny_execs_nil q
 |ret v=>exact q
 |brk=>exact q
 |cont=>exact q
def tCont:TS:=λ D σ H=>D.ct σ H
theorem qmj9:PS X (.Continue pos) tCont:=λ _ _ σ H _ I h=>wpAny_Continue ⟨σ,H,I,h⟩
theorem Inv.quiet(I:Inv X pins σ H s):interactive X.env=false:=by simp[interactive,I.ok.kind]
def tDrop(te:TE):TS:=λ D σ H=>te σ H λ _ H1=>D.nx σ H1
theorem ps_expr(he:PE X e te)(hs:swapsWith e none pos.line X.env=pure false:=by rfl):PS X (.Expr e pos) (tDrop te):=by
 intro pins s σ H D I h
 exact wpAny_Expr_any (thn (he pins s σ H _ I h) λ v s1 ⟨x,H1,I1,r1,q1⟩=>⟨σ,H1,I1,q1⟩) I.quiet hs
def tRet(te:TE):TS:=λ D σ H=>te σ H D.rt
theorem ps_ret(he:PE X e te):PS X (.Return (some e) pos) (tRet te):=by
 intro pins s σ H D I h
 exact wpAny_Return_some (thn (he pins s σ H _ I h) λ v s1 ⟨x,H1,I1,r1,q1⟩=>⟨x,σ,H1,I1,r1,q1⟩)
def tRetN:TS:=λ D _ H=>D.rt .non H
theorem ps_retN:PS X (.Return none pos) tRetN:=λ _ _ σ H _ I h=>wpAny_Return_none ⟨.non,σ,H,I,rfl,h⟩
def tIfS(c:TT)(t u:TS):TS:=λ D σ H=>c σ H λ b H1=>if b=true then t D σ H1 else u D σ H1
theorem ps_if{a b:List Stmt}{tc:TT}(hc:PT X c tc)(ha:PSs X a t)(hb:PSs X b u):PS X (.If c a b pos) (tIfS tc t u):=by
 intro pins s σ H D I h
 refine wpAny_If (thn (hc pins s σ H _ I h) λ d s1 z9=>?_)
 obtain⟨H1,I1,q1⟩ := z9
 cases d with
 |true=>exact ha pins s1 σ H1 D I1 q1
 |false=>exact hb pins s1 σ H1 D I1 q1
def tNever:TS:=λ _ _ _=>False
theorem ps_never:PS X st tNever:=λ _ _ _ _ _ _ h=>h.elim
theorem pss_never{sts:List Stmt}:PSs X sts tNever:=λ _ _ _ _ _ _ h=>h.elim
end
abbrev TG:=V->St->Hp->(St->Hp->Prop)->Prop
variable {g:TG}
abbrev TGs:=List V->St->Hp->(St->Hp->Prop)->Prop
def PG(X:Cx)(target:Expr)(t:TG):Prop :=
 ∀(pins:List (Addr×Obj)) (s:Shared) (σ:St) (H:Hp) (v:V) (u:Value) (Q:St->Hp->Prop),Inv X pins σ H s->RelV v u->t v σ H Q ->
  wpAny (model X.prog X.w) X.A (assign target X.env u) (λ _ s'=>∃σ' H',Inv X pins σ' H' s'/\Q σ' H') X.xe s
def PGs(X:Cx)(ts:List Expr)(t:TGs):Prop :=
 ∀(pins:List (Addr×Obj)) (s:Shared) (σ:St) (H:Hp) (vs:List V) (us:List Value) (Q:St->Hp->Prop),Inv X pins σ H s->Vals vs us->t vs σ H Q ->
  wpAny (model X.prog X.w) X.A (assignInOrder ((assignEach ts X.env).map (·.2)) us) (λ _ s'=>∃σ' H',Inv X pins σ' H' s'/\Q σ' H') X.xe s
abbrev TSet:=V->V->V->Hp->(Hp->Prop)->Prop
def PSet(X:Cx)(t:TSet):Prop :=
 ∀(pins:List (Addr×Obj)) (s:Shared) (σ:St) (H:Hp) (o i v:V) (ov iv u:Value) (Q:Hp->Prop),Inv X pins σ H s->RelV o ov->RelV i iv->RelV v u->t o i v H Q ->
  wpAny (model X.prog X.w) X.A (setItem ov iv u) (λ _ s'=>∃H',Inv X pins σ H' s'/\Q H') X.xe s
abbrev TIp:=V->V->Hp->VK->Prop
def PIp(X:Cx)(op:Operator)(t:TIp):Prop :=
 ∀(pins:List (Addr×Obj)) (s:Shared) (σ:St) (H:Hp) (x y:V) (v u:Value) (Q:VK),Inv X pins σ H s->RelV x v->RelV y u->t x y H Q ->
  wpAny (model X.prog X.w) X.A (inplaceOp op v u) (EP X pins σ Q) X.xe s
def gName(i:Nat):TG:=λ v σ H Q=>Q (σ.set i (some v)) H
theorem pg_name(hN:X.N.Nodup)(hi:X.N[i]?=some x)(hx:Loc X.env.scope x)(hf:X.fn x=true\/X.env.scope.names.lookup x=some .local:=by first|exact .inl rfl|exact .inr rfl|assumption):PG X (.Name x pos) (gName i):=by
 intro pins s σ H v u Q I r h
 exact wpAny_assign_Name (qgr9 I hN hi hx r (λ s' I'=>⟨_,H,I',h⟩) hf)
inductive gNil(vs:List V)(σ:St)(H:Hp)(Q:St->Hp->Prop):Prop
 |mk  : vs=[]->Q σ H->gNil vs σ H Q
inductive gCons(t:TG)(u:TGs)(vs:List V)(σ:St)(H:Hp)(Q:St->Hp->Prop):Prop
 |mk (v:_) (r:_):(vs=v::r)->(t v σ H λ σ' H'=>u r σ' H' Q)->gCons t u vs σ H Q
theorem pgs_nil:PGs X [] gNil:=by
 intro pins s σ H vs us Q I r h
 obtain⟨e,h⟩:=h
 subst e
 cases r
 exact assignInOrder_nil ⟨σ,H,I,h⟩
theorem pgs_cons{t:TG}{u:TGs}(h1:PG X e t)(h2:PGs X es u)
  (hs:(assignEach (e::es) X.env).map (·.2)=assign e X.env::(assignEach es X.env).map (·.2):=by rfl):PGs X (e::es) (gCons t u):=by
 intro pins s σ H vs us Q I r h
 obtain⟨v,vr,e1,h⟩:=h
 subst e1
 cases r with
 |cons r rr =>
  rw[hs]
  refine assignInOrder_cons (thn (h1 pins s σ H _ _ _ I r h) λ _ s1 z9=>?_)
  obtain⟨σ1,H1,I1,q1⟩ := z9
  exact h2 pins s1 σ1 H1 _ _ Q I1 rr q1
inductive gTup(K:W.Frag)(n:Nat)(t:TGs)(v:V)(σ:St)(H:Hp)(Q:St->Hp->Prop):Prop
 |mk (a:_) (xs:_):v=.ref a->SqT K H a xs->xs.length=n->t xs σ H Q->gTup K n t v σ H Q
theorem pg_tup{k:Nat}{t:TGs}(hc:X.calm=true)(h:PGs X es t)
  (hn:(assignEach es X.env).length=n:=by rfl) (hst:(assignEach es X.env).findIdx? (·.1)=none:=by rfl):PG X (.Tuple es k pos) (gTup X.K n t):=by
 intro pins s σ H v u Q I r hw
 obtain⟨a,xs,e1,hq,hl,hw⟩:=hw
 subst e1
 cases r
 obtain⟨its,rv,ht,hz⟩:=I.tuple hq
 refine assign_Tuple_tuple (I.ok.hd hc) ht (by simp[hn,<- hl,rv.length]) hst λ h' hx=>?_
 have I1:Inv X pins σ H { s with heap:=h' }:=I.kept (t':=s.toks) λ b o e=>hx b o (zaz (zaq e)) e
 exact h pins _ σ H xs _ Q I1 (by simpa using rv) hw
def gSub(to ti:TE)(t:TSet):TG:=λ v σ H Q=>to σ H λ o H1=>ti σ H1 λ i H2=>t o i v H2 λ H3=>Q σ H3
theorem pg_sub{o i:Expr}{to ti:TE}{t:TSet}(ho:PE X o to)(hi:PE X i ti)(hs:PSet X t)
  (ha:∀v,assign (.Subscript o i pos) X.env v=(do
   let ov <- holding [v] (eval o X.env)
   let iv <- holding [v,ov] (eval i X.env)
   standAt pos
   holding [v,ov,iv] (setItem ov iv v)
   release [v,ov,iv] []):=by intro _;rfl):PG X (.Subscript o i pos) (gSub to ti t):=by
 intro pins s σ H v u Q I r h
 rw[ha]
 refine wpAny_bind (wpAny_holding (thn (ho pins s σ H _ I h) λ ov s1 z9=>?_))
 obtain⟨x,H1,I1,r1,q1⟩ := z9
 refine wpAny_bind (wpAny_holding (thn (hi pins s1 σ H1 _ I1 q1) λ iv s2 z9=>?_))
 obtain⟨y,H2,I2,r2,q2⟩ := z9
 refine wpAny_bind (wpAny_standAt (wpAny_bind (wpAny_holding (thn (hs pins s2 σ H2 x y v ov iv u _ I2 r1 r2 r q2) λ _ s3 z9=>?_))))
 obtain⟨H3,I3,q3⟩ := z9
 exact wpAny_release ⟨σ,H3,I3,q3⟩
def tAsg(te:TE)(g:TG):TS:=λ D σ H=>te σ H λ x H1=>g x σ H1 D.nx
theorem ps_asg(he:PE X e te)(hg:PG X tg g)(hs:swapsWithSole [tg] e pos.line X.env=pure false:=by rfl)(hw:swappedStores [tg] e X.env=pure none:=by rfl)
  (h1:(assignEach [tg] X.env).map (·.2)=[assign tg X.env]:=by rfl):PS X (.Assign [tg] e pos) (tAsg te g):=by
 intro pins s σ H D I h
 refine wpAny_Assign_stores (thn (he pins s σ H _ I h) λ v s1 z9=>?_) hs hw
 obtain⟨x,H1,I1,r1,q1⟩ := z9
 rw[h1]
 exact thn (hg pins s1 σ H1 x v _ I1 r1 q1) λ _ s2 q=>q
theorem ps_set(hN:X.N.Nodup)(hi:X.N[i]?=some x)(hx:Loc X.env.scope x)(he:PE X e te)(hs:swapsWith e (some (.Name x pos')) pos.line X.env=pure false:=by rfl)(hf:X.fn x=true\/X.env.scope.names.lookup x=some .local:=by first|exact .inl rfl|exact .inr rfl|assumption) :
  PS X (.Assign [.Name x pos'] e pos) (tAsg te (gName i)):=by
 intro pins s σ H D I h
 refine wpAny_Assign_Name (thn (he pins s σ H _ I h) λ v s1 z9=>?_) hs
 obtain⟨y,H1,I1,r1,q1⟩ := z9
 exact qgr9 I1 hN hi hx r1 (λ s2 I2=>⟨_,H1,I2,q1⟩) hf
inductive tAug(i:Nat)(te:TE)(ti:TIp)(D:Ends)(σ:St)(H:Hp):Prop
 |mk (x:_):σ[i]?=some (some x)->(te σ H λ y H1=>ti x y H1 λ z H2=>D.nx (σ.set i (some z)) H2)->tAug i te ti D σ H
theorem ps_aug{op:Operator}{ti:TIp}{pos':Pos}(hN:X.N.Nodup)(hi:X.N[i]?=some x)(hx:Loc X.env.scope x)(he:PE X e te)(ho:PIp X op ti)(hf:X.fn x=true\/X.env.scope.names.lookup x=some .local:=by first|exact .inl rfl|exact .inr rfl|assumption) :
  PS X (.AugAssign (.Name x pos') op e pos) (tAug i te ti):=by
 intro pins s σ H D I h
 obtain⟨v,e1,h⟩:=h
 obtain⟨m,hn,hl⟩:=I.loc
 have vis:Vis X.env.scope x:=by rcases hx with k|k;exact .inl k;exact .inr (.inl k)
 obtain⟨u,r,l⟩:=hl i x v hi e1 vis
 refine wpAny_AugAssign_Name ?_
 have go:wpAny (model X.prog X.w) X.A (eval e X.env) (λ w s₂=>wpAny (model X.prog X.w) X.A (inplaceOp op u w) (λ r s₃=>wpAny (model X.prog X.w) X.A (storeName X.env x r) (λ _=>SP X pins D .next) X.xe s₃) X.xe s₂) X.xe s:=by
  refine thn (he pins s σ H _ I h) λ w s1 z9=>?_
  obtain⟨y,H1,I1,r1,q1⟩ := z9
  refine thn (ho pins s1 σ H1 v y u w _ I1 r r1 q1) λ z s2 z9=>?_
  obtain⟨zv,H2,I2,r2,q2⟩ := z9
  exact qgr9 I2 hN hi hx r2 (λ s3 I3=>⟨_,H2,I3,q2⟩) hf
 rcases l with⟨hk,hm⟩|⟨hk,c,hc,hcell⟩
 ·exact wpAny_loadName_local I.ok.kind hk hn hm go
 ·rcases hk with hk|hk
  ·exact wpAny_loadName_cell I.ok.kind hk hc hcell go
  ·rcases hx with k|k
   ·have:X.env.scope.names.lookup x=some .free:=hk
    rw[k] at this;cases this
   ·have:X.env.scope.names.lookup x=some .free:=hk
    rw[k] at this;cases this
def ipI(f:Int->Int->Int):TIp:=λ x y H Q=>∃i j,x=.int i/\y=.int j/\Q (.int (f i j)) H
theorem qoy9:PIp X .Add (ipI λ i j=>i+j):=by
 intro pins s σ H x y v u Q I r1 r2 h
 obtain⟨i,j,e1,e2,q⟩:=h
 subst e1;subst e2
 obtain⟨t,rfl⟩:=r1
 obtain⟨t',rfl⟩:=r2
 exact iadd_int ⟨.int _,H,I.tok _,⟨_,rfl⟩,q⟩
inductive tWhile(c:TT)(tb:TS)(D:Ends)(σ:St)(H:Hp):Prop
 |mk (W:Nat->St->Hp->Prop):((∃m,W m σ H))->(∀m σ H,W m σ H->c σ H λ b H1=>if b=true then ∃N:St->Hp->Prop,(∀σ' H',N σ' H'->∃m',m'<m/\W m' σ' H')/\tb { D with nx:=N,ct:=N,bk:=D.nx } σ H1 else D.nx σ H1)->tWhile c tb D σ H
theorem ps_while{tc:TT}(hp:PassesOwn (model X.prog X.w) X.A X.env X.xe)(hc:PT X c tc)(hb:PSs X body tb):PS X (.While c body [] pos) (tWhile tc tb):=by
 intro pins s σ H D I h
 obtain⟨W,⟨m0,w0⟩,turn⟩:=h
 refine wpAny_While (codeAny_whileLoop (λ n s'=>∃σ' H',Inv X pins σ' H' s'/\W n σ' H') ?_ m0 ⟨σ,H,I,w0⟩)
 intro n s1 z9;obtain⟨σ1,H1,I1,w1⟩ := z9
 refine wpAny_passesOwn hp (thn (hc pins s1 σ1 H1 _ I1 (turn n σ1 H1 w1)) λ b s2 z9=>?_)
 obtain⟨H2,I2,q2⟩ := z9
 cases b with
 |true =>
  obtain⟨N,hN,q2⟩:=q2
  rw[if_pos rfl]
  refine wpAny_passesOwn hp (thn (hb pins s2 σ1 H2 _ I2 q2) λ f s3 q3=>?_)
  cases f with
  |next =>
   obtain⟨σ3,H3,I3,n3⟩:=q3
   obtain⟨m',hm,w3⟩:=hN σ3 H3 n3
   exact⟨m',hm,σ3,H3,I3,w3⟩
  |cont =>
   obtain⟨σ3,H3,I3,n3⟩:=q3
   obtain⟨m',hm,w3⟩:=hN σ3 H3 n3
   exact⟨m',hm,σ3,H3,I3,w3⟩
  |brk=>exact q3
  |ret v=>exact q3
 |false =>
  rw[if_neg zbc]
  exact wpAny_execs_nil ⟨σ1,H2,I2,q2⟩
structure It where
 go:Nat->Hp->Prop
 yld:Nat->Hp->V->Hp->Prop
 stop:Nat->Hp->Prop
def FpOk(X:Cx)(pins:List (Addr×Obj))(H:Hp)(b:Addr):Prop :=
 H b=none/\b≠X.env.locals/\b∉X.fs/\(b∈X.ex\/X.s₀.heap.objs.size<=b)/\(∀x c,X.env.cells.lookup x=some c->c≠b)/\∀p∈X.pn++pins,p.1≠b
theorem Inv.fpOk(I:Inv X pins σ H s)(hb:s.heap.objs.size<=b)(hn:H' b=none):FpOk X pins H' b:=by
 refine⟨hn,zfn (zat I.lt hb),I.nofs hb,.inr (zbe I.sz hb),λ x c e z=>?_,λ p hp z=>?_⟩
 ·obtain⟨v,q⟩:=I.cell x c e
  exact absurd (zat q.lt (by rw[z];exact hb)) (zcc _)
 ·exact absurd (zat (zaq (I.pin p hp).1) (by rw[z];exact hb)) (zcc _)
structure Turn(P:Program)(w:World)(K:W.Frag)(tg:Expr)(J:It)(fp:List Addr)(it:Addr)(tn:Nat->Heap->Prop):Prop where
 mem:it∈fp
 obj:∀i h,tn i h->∀b∈fp,∃o,h.get? b=some o/\∀v,o.data ≠ .cell v
 keep:∀i h h',tn i h->(∀b∈fp,∀o,h.get? b=some o->h'.get? b=some o)->tn i h'
 item:∀(X:Cx),X.prog=P->X.w=w->X.K=K->X.calm=true->∀(i:Nat) (pins:List (Addr×Obj)) (s:Shared) (σ:St) (H:Hp) (E:Value->Shared->Prop),Inv X pins σ H s->(∀b∈fp,FpOk X pins H b)->tn i s.heap->J.go i H ->
  wpAny (model P w) X.A (pyNext (.ref it)) (λ r s1=>∃u,r=some u /\
   wpAny (model P w) X.A (letOwnedTupleGo tg (.ref it) u) (λ _ s2=>∃x H',Inv X pins σ H' s2/\RelV x u/\J.yld i H x H'/\tn (i+1) s2.heap/\∀b∈fp,H' b=none) E s1) E s
 done:∀(X:Cx),X.prog=P->X.w=w->X.K=K->X.calm=true->∀(i:Nat) (pins:List (Addr×Obj)) (s:Shared) (σ:St) (H:Hp) (E:Value->Shared->Prop),Inv X pins σ H s->(∀b∈fp,FpOk X pins H b)->tn i s.heap->J.stop i H ->
  wpAny (model P w) X.A (pyNext (.ref it)) (λ r s1=>r=none/\Inv X pins σ H s1) E s
 self:∀(A:Around)(i:Nat)(s:Shared)(Q:Value->Shared->Prop)(E:Value->Shared->Prop),tn i s.heap->Q (.ref it) s->wpAny (model P w) A (pyIter (.ref it)) Q E s
abbrev TI:=St->Hp->(It->Hp->Prop)->Prop
def PIE(X:Cx)(pins:List (Addr×Obj))(σ:St)(tg:Expr)(R:It->Hp->Prop)(itv:Value)(s2:Shared):Prop :=
 ∃(it:Addr)(fp:List Addr)(tn:Nat->Heap->Prop)(J:It)(H':Hp),itv=.ref it/\Inv X pins σ H' s2/\Turn X.prog X.w X.K tg J fp it tn/\tn 0 s2.heap/\(∀b∈fp,FpOk X pins H' b)/\R J H'
def PI(X:Cx)(tg iter:Expr)(wi:TI):Prop :=
 ∀(pins:List (Addr×Obj)) (s:Shared) (σ:St) (H:Hp) (R:It->Hp->Prop),Inv X pins σ H s->wi σ H R ->
  wpAny (model X.prog X.w) X.A (eval iter X.env) (λ v s1=>wpAny (model X.prog X.w) X.A (pyIter v) (PIE X pins σ tg R) X.xe s1) X.xe s
theorem go_of{it:Addr}{u:Value}{o:Obj}{n:String}{vs:Array Value}{Q:Unit->Shared->Prop}(ho:s.heap.get? it=some o)(hc:o.cls=.type n)(hd:o.data=.fields vs)
  (hn:["enumerate","zip","dict_itemiterator","dict_reverseitemiterator","odict_iterator","itertools.zip_longest","itertools.pairwise"].contains n=false) (hQ:Q () s):wpAny M A (letOwnedTupleGo tg (.ref it) u) Q E s:=by
 unfold letOwnedTupleGo
 cases tg<;>first
  |exact wpAny_pure hQ
  | (cases u<;>first
    |exact wpAny_pure hQ
    | (refine wpAny_bind (wpAny_load ho ?_)
       rw[hc,hd]
       show wpAny M A (if(["enumerate","zip","dict_itemiterator","dict_reverseitemiterator","odict_iterator","itertools.zip_longest","itertools.pairwise"].contains n&&vs[0]? == some (rawInt _))=true then _ else _) Q E s
       rw[if_neg (by intro h;rw[hn,zda] at h;cases h)]
       exact wpAny_pure hQ))
def Itl(K:W.Frag)(a:Addr):It :=
 ⟨λ i H=>∃xs x,SqL K H a xs/\xs[i]?=some x,λ i H x H'=>H'=H/\∀xs,SqL K H a xs->xs[i]?=some x,λ i H=>∃xs,SqL K H a xs/\xs.length<=i⟩
def Itt(K:W.Frag)(a:Addr):It :=
 ⟨λ i H=>∃xs x,SqT K H a xs/\xs[i]?=some x,λ i H x H'=>H'=H/\∀xs,SqT K H a xs->xs[i]?=some x,λ i H=>∃xs,SqT K H a xs/\xs.length<=i⟩
def Itr(lo:Int)(n:Nat):It:=⟨λ i _=>i<n,λ i H x H'=>H'=H/\x=.int (lo+i),λ i _=>n<=i⟩
theorem turn_list(a it:Addr):Turn P w K tg (Itl K a) [it] it (λ i h=>h.IsListIter it a i) where
 mem:=by simp
 obj:=λ i h st b hb=>by
  have e:b=it:=by simpa using hb
  subst e
  obtain⟨o,e,c,d⟩:=st
  exact⟨o,e,λ v z=>by rw[d] at z;cases z⟩
 keep:=λ i h h' st k=>st.at λ o e=>k it (by simp) o e
 item:=by
  intro X hP hw hK hc i pins s σ H E I hf st hg
  subst hP hw hK
  obtain⟨xs,x,hq,hx⟩:=hg
  obtain⟨its,rv,p,hz⟩:=I.list hq
  obtain⟨u,hu,ru⟩:=rv.get hx
  obtain⟨f0,f1,f2,f3,f4,f5⟩:=hf it (by simp)
  refine wpAny_pyNext_list_item st p.isList (x:=u) (by simpa using hu) λ h' st' sb=>?_
  have I1:Inv X pins σ H { s with heap:=h' }:=I.turned (t':=s.toks) (λ b o hb e=>(sb.2 b hb).trans e) f0 f1 f3 f4 f5
  obtain⟨o,e,c,d⟩:=id st'
  exact⟨u,rfl,go_of (s:={ s with heap:=h' }) e c d (by decide) ⟨x,H,I1,ru,⟨rfl,λ ys hy=>by rw[I.list_inj hy hq];exact hx⟩,st',λ b hb=>(hf b hb).1⟩⟩
 done:=by
  intro X hP hw hK hc i pins s σ H E I hf st hg
  subst hP hw hK
  obtain⟨xs,hq,hx⟩:=hg
  obtain⟨its,rv,p,hz⟩:=I.list hq
  obtain⟨f0,f1,f2,f3,f4,f5⟩:=hf it (by simp)
  have hl:=rv.length
  exact wpAny_pyNext_list_end (I.ok.hd hc) st p.isList (by simp;omega) λ h' eb=>⟨rfl,I.turned (t':=s.toks) (λ b o hb e=>eb b o hb e) f0 f1 f3 f4 f5⟩
 self:=λ _ _ _ _ _ st h=>wpAny_pyIter_listiter st h
theorem qob9(a it:Addr):Turn P w K tg (Itt K a) [it] it (λ i h=>h.IsTupleIter it a i) where
 mem:=by simp
 obj:=λ i h st b hb=>by
  have e:b=it:=by simpa using hb
  subst e
  obtain⟨o,e,c,d⟩:=st
  exact⟨o,e,λ v z=>by rw[d] at z;cases z⟩
 keep:=λ i h h' st k=>st.at λ o e=>k it (by simp) o e
 item:=by
  intro X hP hw hK hc i pins s σ H E I hf st hg
  subst hP hw hK
  obtain⟨xs,x,hq,hx⟩:=hg
  obtain⟨its,rv,p,hz⟩:=I.tuple hq
  obtain⟨u,hu,ru⟩:=rv.get hx
  obtain⟨f0,f1,f2,f3,f4,f5⟩:=hf it (by simp)
  refine wpAny_pyNext_tuple_item st (show s.heap.IsTuple a its.toArray from p) (x:=u) (by simpa using hu) λ h' st' sb=>?_
  have I1:Inv X pins σ H { s with heap:=h' }:=I.turned (t':=s.toks) (λ b o hb e=>(sb.2 b hb).trans e) f0 f1 f3 f4 f5
  obtain⟨o,e,c,d⟩:=id st'
  exact⟨u,rfl,go_of (s:={ s with heap:=h' }) e c d (by decide) ⟨x,H,I1,ru,⟨rfl,λ ys hy=>by rw[I.tuple_inj hy hq];exact hx⟩,st',λ b hb=>(hf b hb).1⟩⟩
 done:=by
  intro X hP hw hK hc i pins s σ H E I hf st hg
  subst hP hw hK
  obtain⟨xs,hq,hx⟩:=hg
  obtain⟨its,rv,p,hz⟩:=I.tuple hq
  obtain⟨f0,f1,f2,f3,f4,f5⟩:=hf it (by simp)
  have hl:=rv.length
  exact wpAny_pyNext_tuple_end (I.ok.hd hc) st (show s.heap.IsTuple a its.toArray from p) (by simp;omega) λ h' eb=>⟨rfl,I.turned (t':=s.toks) (λ b o hb e=>eb b o hb e) f0 f1 f3 f4 f5⟩
 self:=λ _ _ _ _ _ st h=>wpAny_pyIter_tupleiter st h
theorem qpq9(it:Addr)(lo:Int)(n:Nat):Turn P w K tg (Itr lo n) [it] it (λ i h=>IsRangeIter h it (lo+(i:Nat)*1) ((n:Int)-(i:Nat)) 1) where
 mem:=by simp
 obj:=λ i h st b hb=>by
  have e:b=it:=by simpa using hb
  subst e
  exact⟨_,st,λ v z=>by
   have z':Data.fields _=Data.cell v:=z
   cases z'⟩
 keep:=λ i h h' st k=>k it (by simp) _ st
 item:=by
  intro X hP hw hK hc i pins s σ H E I hf st hg
  subst hP hw hK
  obtain⟨f0,f1,f2,f3,f4,f5⟩:=hf it (by simp)
  have W:=Walks.range (prog:=X.prog) (w:=X.w) (I.ok.hd hc) it lo 1 n
  refine W.item i s _ _ hg st λ v h' tk hv st' kk=>?_
  obtain⟨t,rfl⟩:=hv
  have I1:Inv X pins σ H { s with heap:=h',toks:=tk }:=I.turned (λ b o hb e=>kk b o (by simpa using hb) e) f0 f1 f3 f4 f5
  refine⟨_,rfl,go_of (s:={ s with heap:=h',toks:=tk }) (n := "range_iterator") st' rfl rfl (by decide) ⟨.int (lo+i),H,I1,⟨t,?_⟩,⟨rfl,rfl⟩,st',λ b hb=>(hf b hb).1⟩⟩
  rw[zdr]
 done:=by
  intro X hP hw hK hc i pins s σ H E I hf st hg
  subst hP hw hK
  obtain⟨f0,f1,f2,f3,f4,f5⟩:=hf it (by simp)
  exact wpAny_pyNext_range_end (I.ok.hd hc) st (by have:n<=i:=hg;omega) λ h' eb=>⟨rfl,I.turned (t':=s.toks) (λ b o hb e=>eb b o hb e) f0 f1 f3 f4 f5⟩
 self:=λ _ _ _ _ _ st h=>wpAny_pyIter_rangeiter st h
def iList(K:W.Frag)(tl:TE):TI:=λ σ H R=>tl σ H λ x H1=>∃a,x=.ref a/\(∃xs,SqL K H1 a xs)/\R (Itl K a) H1
def iTup(K:W.Frag)(tl:TE):TI:=λ σ H R=>tl σ H λ x H1=>∃a,x=.ref a/\(∃xs,SqT K H1 a xs)/\R (Itt K a) H1
theorem pi_list{l:Expr}{tl:TE}(hl:PE X l tl):PI X tg l (iList X.K tl):=by
 intro pins s σ H R I h
 refine thn (hl pins s σ H _ I h) λ v s1 z9=>?_
 obtain⟨x,H1,I1,r1,q1⟩ := z9
 obtain⟨a,e,⟨xs,hq⟩,q⟩:=q1
 subst e
 cases r1
 obtain⟨its,rv,p,hz⟩:=I1.list hq
 refine wpAny_pyIter_list p.isList ?_
 refine⟨s1.heap.objs.size,[s1.heap.objs.size],_,_,H1,rfl,I1.kept (t':=s1.toks) λ b o e=>zad _ e,turn_list a _,⟨_,zbb _ rfl,rfl,rfl⟩,λ b hb=>?_,q⟩
 have e:b=s1.heap.objs.size:=by simpa using hb
 subst e
 exact I1.fpOk (zaj _) (I1.hok.fresh (zaj _))
theorem pi_tup{l:Expr}{tl:TE}(hl:PE X l tl):PI X tg l (iTup X.K tl):=by
 intro pins s σ H R I h
 refine thn (hl pins s σ H _ I h) λ v s1 z9=>?_
 obtain⟨x,H1,I1,r1,q1⟩ := z9
 obtain⟨a,e,⟨xs,hq⟩,q⟩:=q1
 subst e
 cases r1
 obtain⟨its,rv,p,hz⟩:=I1.tuple hq
 refine wpAny_pyIter_tuple (show s1.heap.IsTuple a its.toArray from p) ?_
 refine⟨s1.heap.objs.size,[s1.heap.objs.size],_,_,H1,rfl,I1.kept (t':=s1.toks) λ b o e=>zad _ e,qob9 a _,⟨_,zbb _ rfl,rfl,rfl⟩,λ b hb=>?_,q⟩
 have e:b=s1.heap.objs.size:=by simpa using hb
 subst e
 exact I1.fpOk (zaj _) (I1.hok.fresh (zaj _))
theorem range_it{R:It->Hp->Prop}{lo hi:Int}{t u v:Tok}{tk:Nat}(I:Inv X pins σ H s)(h1:-(2 ^ 62)<=lo)(h2:lo<2 ^ 62)(h3:-(2 ^ 62)<=hi)(h4:hi<2 ^ 62)
  (q:R (Itr lo (hi-lo).toNat) H):wpAny (model X.prog X.w) X.A (pyIter (.ref s.heap.objs.size)) (PIE X pins σ tg R) E { s with heap:=s.heap.push { cls:=.type "range",data:=.fields #[.int lo t,.int hi u,.int 1 v] },toks:=tk }:=by
 refine wpAny_pyIter_range (IsRange.new ..) (small_one h1 h2 h3 h4) ?_
 have I1:Inv X pins σ H { s with heap:=s.heap.push { cls:=.type "range",data:=.fields #[.int lo t,.int hi u,.int 1 v] },toks:=tk }:=I.kept λ b o e=>zad _ e
 refine⟨(s.heap.push { cls:=.type "range",data:=.fields #[.int lo t,.int hi u,.int 1 v] }).objs.size,[(s.heap.push { cls:=.type "range",data:=.fields #[.int lo t,.int hi u,.int 1 v] }).objs.size],_,_,H,rfl,
  I1.kept (t':=tk) λ b o e=>zad _ e,qpq9 _ lo (hi-lo).toNat,?_,λ b hb=>?_,q⟩
 ·have e1:lo+((0:Nat):Int)*1=lo:=by simp
  have e2:(((hi-lo).toNat:Nat):Int)-((0:Nat):Int)=Builtin.Range.rangeSize lo hi 1:=by rw[rangeSize_one];split<;>omega
  show IsRangeIter _ _ (lo+((0:Nat):Int)*1) ((((hi-lo).toNat:Nat):Int)-((0:Nat):Int)) 1
  rw[e1,e2]
  exact zbb _ rfl
 ·have e:b=(s.heap.push { cls:=.type "range",data:=.fields #[.int lo t,.int hi u,.int 1 v] }).objs.size:=by simpa using hb
  subst e
  exact I1.fpOk (zaj _) (I1.hok.fresh (zaj _))
def iRng1(ta:TA):TI:=λ σ H R=>ta σ H λ vs H1=>∃j:Int,vs=[.int j]/\-(2 ^ 62)<=j/\j<2 ^ 62/\R (Itr 0 j.toNat) H1
theorem pi_range1{a:Expr}{ta:TA}{p pos:Pos}(hg:Gl X "range")(hm:X.mg "range"=none)(ha:PA X [a] ta)(hs:starEach [a] X.env=[(false,eval a X.env)]:=by rfl):PI X tg (.Call (.Name "range" p) [a] [] pos) (iRng1 ta):=by
 intro pins s σ H R I h
 refine Call_ (qmt9 I hg hm boot_range (PyProof.Rows.callWith_type1 (thn (ha pos pins s σ H _ I h) λ us s1 z9=>?_) hs rfl))
 obtain⟨vs,H1,I1,r1,q1⟩ := z9
 obtain⟨j,e,q1,q2,q⟩:=q1
 subst e
 cases r1 with
 |cons r rr =>
  cases rr
  obtain⟨t,rfl⟩:=r
  exact call_range_1 (range_it I1 ⋯ ⋯ q1 q2 (by simpa using q))
def tFor(wi:TI)(g:TG)(tb:TS):TS:=λ D σ H=>wi σ H λ J H1=>∃W:Nat->Nat->St->Hp->Prop,(∃m,W 0 m σ H1)/\∀i m σ H,W i m σ H ->
 (J.stop i H/\D.nx σ H)\/(J.go i H/\∃N:St->Hp->Prop,(∀σ' H',N σ' H'->∃m',m'<m/\W (i+1) m' σ' H')/\∀x H',J.yld i H x H'->g x σ H' λ σ2 H2=>tb { D with nx:=N,ct:=N,bk:=D.nx } σ2 H2)
def qoo9(fp:List Addr)(h:Heap):List (Addr×Obj):=fp.filterMap λ b=>(h.get? b).map λ o=>(b,o)
theorem qet9{o:Obj}(hb:b∈fp)(e:h.get? b=some o):(b,o)∈qoo9 fp h:=zeg.mpr ⟨b,hb,by rw[e];rfl⟩
theorem of_pinsAt{p:Addr×Obj}(hp:p∈qoo9 fp h):p.1∈fp/\h.get? p.1=some p.2:=by
 obtain⟨b,hb,e⟩:=zeg.mp hp
 cases q:h.get? b with
 |none=>rw[q] at e;cases e
 |some o =>
  rw[q] at e
  have e':(b,o)=p:=Option.some.inj e
  subst e'
  exact⟨hb,q⟩
theorem Inv.pinned(I:Inv X pins σ H s)(hf:∀b∈fp,FpOk X pins H b)(ho:∀b∈fp,∃o,s.heap.get? b=some o/\∀v,o.data ≠ .cell v):Inv X (pins++qoo9 fp s.heap) σ H s :=
 I.pins_of λ p hp=>(zau.mp hp).elim (λ z=>I.pin p (zap _ z)) λ z=>by
  obtain⟨hb,e⟩:=of_pinsAt z
  obtain⟨f0,f1,f2,_⟩:=hf p.1 hb
  obtain⟨o,e',d⟩:=ho p.1 hb
  rw[e] at e';cases e'
  exact⟨e,f0,f1,f2,d⟩
theorem Inv.unpinned{pl:List (Addr×Obj)}(I:Inv X (pins++pl) σ H s):Inv X pins σ H s:=I.pins_of λ p hp=>I.pin p (zap _ (zbg _ hp))
theorem ps_for{iter:Expr}{wi:TI}{pos:Pos}(hp:PassesOwn (model X.prog X.w) X.A X.env X.xe)(hc:X.calm=true)(hi:PI X tg iter wi)(hg:PG X tg g)(hb:PSs X body tb)
  (hs:∀x,foldedSetIterable iter X.env x=pure x:=by intro _;rfl):PS X (.For tg iter body [] pos) (tFor wi g tb):=by
 intro pins s σ H D I h
 refine wpAny_For (thn (hi pins s σ H _ I h) λ v s1 h1=>thn h1 λ itv s2 h2=>?_) hs
 obtain⟨it,fp,tn,J,H2,e,I2,T,st2,f2,W,⟨m0,w0⟩,turn⟩:=h2
 subst e
 have stat:∀{H':Hp},(∀b∈fp,H' b=none)->∀b∈fp,FpOk X pins H' b:=λ hn b hb=>⟨hn b hb,(f2 b hb).2⟩
 refine codeAny_forLoop_any (λ n s'=>∃i σ' H',Inv X pins σ' H' s'/\tn i s'.heap/\(∀b∈fp,H' b=none)/\W i n σ' H') ?_ m0 ⟨0,σ,H2,I2,st2,λ b hb=>(f2 b hb).1,w0⟩
 intro n s3 z9;obtain⟨i,σ3,H3,I3,st3,fr3,w3⟩ := z9
 rcases turn i n σ3 H3 w3 with⟨stop,qn⟩|⟨go,N,hN,step⟩
 ·refine wpAny_passesOwn hp (thn (T.done X rfl rfl rfl hc i pins s3 σ3 H3 X.xe I3 (stat fr3) st3 stop) λ r s4 z9=>?_)
  obtain⟨hr,I4⟩ := z9
  subst hr
  exact wpAny_execs_nil ⟨σ3,H3,I4,qn⟩
 ·refine wpAny_passesOwn hp (thn (T.item X rfl rfl rfl hc i pins s3 σ3 H3 X.xe I3 (stat fr3) st3 go) λ r s4 z9=>?_)
  obtain⟨u,hr,h4⟩ := z9
  subst hr
  refine wpAny_passesOwn hp (thn h4 λ _ s5 z9=>?_)
  obtain⟨x,H5,I5,r5,y5,st5,fr5⟩ := z9
  have I5':=I5.pinned (stat fr5) (T.obj _ _ st5)
  refine wpAny_passesOwn hp (thn (hg _ s5 σ3 H5 x u _ I5' r5 (step x H5 y5)) λ _ s6 z9=>?_)
  obtain⟨σ6,H6,I6,q6⟩ := z9
  refine wpAny_passesOwn hp (thn (hb _ s6 σ6 H6 _ I6 q6) λ f s7 q7=>?_)
  have again:∀{σ7:St}{H7:Hp},Inv X (pins++qoo9 fp s5.heap) σ7 H7 s7->N σ7 H7->∃m,m<n/\∃i σ' H',Inv X pins σ' H' s7/\tn i s7.heap/\(∀b∈fp,H' b=none)/\W i m σ' H':=λ {σ7 H7} I7 n7=>by
   obtain⟨m',hm,w7⟩:=hN σ7 H7 n7
   refine⟨m',hm,i+1,σ7,H7,I7.unpinned,T.keep _ _ _ st5 λ b hb o e=>(I7.pin (b,o) (zap _ (zap _ (qet9 hb e)))).1,λ b hb=>?_,w7⟩
   obtain⟨o,e,d⟩:=T.obj _ _ st5 b hb
   exact(I7.pin (b,o) (zap _ (zap _ (qet9 hb e)))).2.1
  cases f with
  |next=>obtain⟨σ7,H7,I7,n7⟩:=q7;exact again I7 n7
  |cont=>obtain⟨σ7,H7,I7,n7⟩:=q7;exact again I7 n7
  |brk=>obtain⟨σ7,H7,I7,q7⟩:=q7;exact⟨σ7,H7,I7.unpinned,q7⟩
  |ret v=>obtain⟨x7,σ7,H7,I7,r7,q7⟩:=q7;exact⟨x7,σ7,H7,I7.unpinned,r7,q7⟩
theorem qex9{xs:List V}(Pv:Nat->St->Hp->Prop)(h0:Pv 0 σ H)(hl:∀i σ H,i<=xs.length->Pv i σ H->SqL K H a xs)
  (hs:∀i x σ H,xs[i]?=some x->Pv i σ H->g x σ H λ σ2 H2=>tb { D with nx:=Pv (i+1),ct:=Pv (i+1),bk:=D.nx } σ2 H2) (hd:∀σ H,Pv xs.length σ H->D.nx σ H) :
  ∃W:Nat->Nat->St->Hp->Prop,(∃m,W 0 m σ H)/\∀i m σ H,W i m σ H ->
   ((Itl K a).stop i H/\D.nx σ H)\/((Itl K a).go i H/\∃N:St->Hp->Prop,(∀σ' H',N σ' H'->∃m',m'<m/\W (i+1) m' σ' H')/\∀x H',(Itl K a).yld i H x H'->g x σ H' λ σ2 H2=>tb { D with nx:=N,ct:=N,bk:=D.nx } σ2 H2):=by
 refine⟨λ i m σ H=>m=xs.length-i/\i<=xs.length/\Pv i σ H,⟨xs.length,by simp,zbn _,h0⟩,?_⟩
 intro i m σ H z9;obtain⟨rfl,hi,p⟩ := z9
 have q:=hl i σ H hi p
 by_cases hlt:i<xs.length
 ·refine .inr ⟨⟨xs,xs[i],q,by simp[hlt]⟩,Pv (i+1),λ σ' H' p'=>⟨xs.length-(i+1),⋯,rfl,hlt,p'⟩,λ x H' y=>?_⟩
  obtain⟨e,y⟩:=y
  subst e
  exact hs i x σ _ (y xs q) p
 ·have e:i=xs.length:=⋯
  subst e
  exact .inl ⟨⟨xs,q,zaj _⟩,hd σ H p⟩
theorem qfg9{lo:Int}(Pv:Nat->St->Hp->Prop)(h0:Pv 0 σ H)
  (hs:∀i σ H,i<n->Pv i σ H->g (.int (lo+i)) σ H λ σ2 H2=>tb { D with nx:=Pv (i+1),ct:=Pv (i+1),bk:=D.nx } σ2 H2) (hd:∀σ H,Pv n σ H->D.nx σ H) :
  ∃W:Nat->Nat->St->Hp->Prop,(∃m,W 0 m σ H)/\∀i m σ H,W i m σ H ->
   ((Itr lo n).stop i H/\D.nx σ H)\/((Itr lo n).go i H/\∃N:St->Hp->Prop,(∀σ' H',N σ' H'->∃m',m'<m/\W (i+1) m' σ' H')/\∀x H',(Itr lo n).yld i H x H'->g x σ H' λ σ2 H2=>tb { D with nx:=N,ct:=N,bk:=D.nx } σ2 H2):=by
 refine⟨λ i m σ H=>m=n-i/\i<=n/\Pv i σ H,⟨n,by simp,zbn _,h0⟩,?_⟩
 intro i m σ H z9;obtain⟨rfl,hi,p⟩ := z9
 by_cases hlt:i<n
 ·refine .inr ⟨hlt,Pv (i+1),λ σ' H' p'=>⟨n-(i+1),⋯,rfl,hlt,p'⟩,λ x H' y=>?_⟩
  obtain⟨e,y⟩:=y
  subst e y
  exact hs i σ _ hlt p
 ·have e:i=n:=⋯
  subst e
  exact .inl ⟨zaj _,hd σ H p⟩
theorem qfu9{c:TT}(Pv:St->Hp->Prop)(μ:St->Hp->Nat)(h0:Pv σ H)
  (hs:∀σ H,Pv σ H->c σ H λ b H1=>if b=true then tb { D with nx:=λ σ' H'=>Pv σ' H'/\μ σ' H'<μ σ H,ct:=λ σ' H'=>Pv σ' H'/\μ σ' H'<μ σ H,bk:=D.nx } σ H1 else D.nx σ H1)
  (mono:∀σ H Q Q',(∀b H1,Q b H1->Q' b H1)->c σ H Q->c σ H Q'):tWhile c tb D σ H:=by
 refine⟨λ m σ H=>m=μ σ H/\Pv σ H,⟨_,rfl,h0⟩,?_⟩
 intro m σ H z9;obtain⟨rfl,p⟩ := z9
 refine mono σ H _ _ (λ b H1 q=>?_) (hs σ H p)
 cases b with
 |true=>exact⟨_,λ σ' H' ⟨p',l⟩=>⟨_,l,rfl,p'⟩,q⟩
 |false=>exact q
abbrev R2:=V->V->Hp->VK->Prop
variable {r:R2}
def OpR(X:Cx)(f:Value->Value->Sem Value)(r:R2):Prop :=
 ∀(pins:List (Addr×Obj)) (s:Shared) (σ:St) (H:Hp) (x y:V) (v u:Value) (Q:VK),Inv X pins σ H s->RelV x v->RelV y u->r x y H Q ->
  wpAny (model X.prog X.w) X.A (f v u) (EP X pins σ Q) X.xe s
def UnR(X:Cx)(f:Value->Sem Value)(r:V->Hp->VK->Prop):Prop :=
 ∀(pins:List (Addr×Obj)) (s:Shared) (σ:St) (H:Hp) (x:V) (v:Value) (Q:VK),Inv X pins σ H s->RelV x v->r x H Q ->
  wpAny (model X.prog X.w) X.A (f v) (EP X pins σ Q) X.xe s
def CallR(X:Cx)(f:Value)(r:List V->Hp->VK->Prop):Prop :=
 ∀(pins:List (Addr×Obj)) (s:Shared) (σ:St) (H:Hp) (xs:List V) (us:List Value) (Q:VK),Inv X pins σ H s->Vals xs us->r xs H Q ->
  wpAny (model X.prog X.w) X.A (call f us) (EP X pins σ Q) X.xe s
def tOp(r:R2)(ta tb:TE):TE:=λ σ H Q=>ta σ H λ x H1=>tb σ H1 λ y H2=>r x y H2 Q
def tUn(r:V->Hp->VK->Prop)(ta:TE):TE:=λ σ H Q=>ta σ H λ x H1=>r x H1 Q
inductive rI(C:Int->Int->Prop)(g:Int->Int->V)(x:V)(y:V)(H:Hp)(Q:VK):Prop
 |mk (i:_) (j:_):x=.int i->y=.int j->C i j->Q (g i j) H->rI C g x y H Q
inductive rI0(g:Int->Int->V)(x:V)(y:V)(H:Hp)(Q:VK):Prop
 |mk (i:_) (j:_):x=.int i->y=.int j->Q (g i j) H->rI0 g x y H Q
inductive rU(g:Int->V)(x:V)(H:Hp)(Q:VK):Prop
 |mk (i:_):x=.int i->Q (g i) H->rU g x H Q
section
variable {a b:Expr}{tb tc:TE}
theorem binT(ha:PE X a ta)(hb:PE X b tb){R:V->V->Hp->Prop}(I:Inv X pins σ H s)
  (h:ta σ H λ x H1=>tb σ H1 λ y H2=>R x y H2) {Q:Value->Shared->Prop} {f:Value->Value->Sem Value}
  (hf:∀v u s2 x y H2,Inv X pins σ H2 s2->RelV x v->RelV y u->R x y H2->wpAny (model X.prog X.w) X.A (f v u) Q X.xe s2) :
  wpAny (model X.prog X.w) X.A (eval a X.env) (λ v s₁=>wpAny (model X.prog X.w) X.A (eval b X.env) (λ u s₂=>wpAny (model X.prog X.w) X.A (f v u) Q X.xe s₂) X.xe s₁) X.xe s:=by
 refine thn (ha pins s σ H _ I h) λ v s1 z9=>?_
 obtain⟨x,H1,I1,r1,q1⟩ := z9
 refine thn (hb pins s1 σ H1 _ I1 q1) λ u s2 z9=>?_
 obtain⟨y,H2,I2,r2,q2⟩ := z9
 exact hf v u s2 x y H2 I2 r1 r2 q2
theorem pe_op{op:Operator}(ho:OpR X (binaryOp op) r)(ha:PE X a ta)(hb:PE X b tb):PE X (.BinOp a op b pos) (tOp r ta tb):=by
 intro pins s σ H Q I h
 exact wpAny_BinOp (binT ha hb I h λ v u s2 x y H2 I2 rx ry q=>ho pins s2 σ H2 x y v u Q I2 rx ry q)
theorem pe_un{op:UnaryOp}{r:V->Hp->VK->Prop}(ho:UnR X (unaryOp op) r)(ha:PE X a ta):PE X (.UnaryOp op a pos) (tUn r ta):=by
 intro pins s σ H Q I h
 exact UnaryOp_ (thn (ha pins s σ H _ I h) λ v s1 ⟨x,H1,I1,r1,q1⟩=>ho pins s1 σ H1 x v Q I1 r1 q1)
theorem opI{f:Value->Value->Sem Value}{C:Int->Int->Prop}{g:Int->Int->Int}
  (rule:∀(i j:Int)(t u:Tok)(s:Shared)(Q:Value->Shared->Prop)(E:Value->Shared->Prop),C i j->Q (.int (g i j) s.toks) { s with toks:=s.toks+1 }->wpAny (model X.prog X.w) X.A (f (.int i t) (.int j u)) Q E s) :
  OpR X f (rI C λ i j=>.int (g i j)):=by
 intro pins s σ H x y v u Q I rx ry h
 obtain⟨i,j,rfl,rfl,hc,q⟩:=h
 obtain⟨t,rfl⟩:=rx
 obtain⟨t',rfl⟩:=ry
 exact rule i j t t' s _ _ hc ⟨.int (g i j),H,I.tok _,⟨_,rfl⟩,q⟩
theorem opI0{f:Value->Value->Sem Value}{g:Int->Int->Int}
  (rule:∀(i j:Int)(t u:Tok)(s:Shared)(Q:Value->Shared->Prop)(E:Value->Shared->Prop),Q (.int (g i j) s.toks) { s with toks:=s.toks+1 }->wpAny (model X.prog X.w) X.A (f (.int i t) (.int j u)) Q E s) :
  OpR X f (rI0 λ i j=>.int (g i j)):=by
 intro pins s σ H x y v u Q I rx ry h
 obtain⟨i,j,rfl,rfl,q⟩:=h
 obtain⟨t,rfl⟩:=rx
 obtain⟨t',rfl⟩:=ry
 exact rule i j t t' s _ _ ⟨.int (g i j),H,I.tok _,⟨_,rfl⟩,q⟩
theorem opB0{f:Value->Value->Sem Value}{g:Int->Int->Bool}
  (rule:∀(i j:Int)(t u:Tok)(s:Shared)(Q:Value->Shared->Prop)(E:Value->Shared->Prop),Q (.bool (g i j)) s->wpAny (model X.prog X.w) X.A (f (.int i t) (.int j u)) Q E s) :
  OpR X f (rI0 λ i j=>.bl (g i j)):=by
 intro pins s σ H x y v u Q I rx ry h
 obtain⟨i,j,rfl,rfl,q⟩:=h
 obtain⟨t,rfl⟩:=rx
 obtain⟨t',rfl⟩:=ry
 exact rule i j t t' s _ _ ⟨.bl (g i j),H,I,rfl,q⟩
def CPow(i j:Int):Prop:=0<=j/\j<=1000000/\i.natAbs<2 ^ 64
def CMul(i j:Int):Prop:=(-(2 ^ 64)<i/\i<2 ^ 64)\/(-(2 ^ 64)<j/\j<2 ^ 64)
theorem CMul.ok{i j:Int}(h:CMul i j):IntMulOk i j:=by
 rcases h with⟨h1,h2⟩|⟨h1,h2⟩
 ·exact .of_left (intBits_le_64 h1 h2)
 ·exact .of_right (intBits_le_64 h1 h2)
theorem op_add:OpR X (binaryOp .Add) (rI0 λ i j=>.int (i+j)):=opI0 λ _ _ _ _ _ _ _ q=>add_int q
theorem op_sub:OpR X (binaryOp .Sub) (rI0 λ i j=>.int (i-j)):=opI0 λ _ _ _ _ _ _ _ q=>sub_int q
theorem op_mul:OpR X (binaryOp .Mult) (rI CMul λ i j=>.int (i*j)):=opI λ _ _ _ _ _ _ _ hc q=>mul_int q hc.ok
theorem op_mod:OpR X (binaryOp .Mod) (rI (λ _ j=>0<j) λ i j=>.int (i%j)):=opI λ i j _ _ _ _ _ hc q=>by
 have h1:(0:Int)<j:=hc
 exact mod_int' ⋯ (by rw[Int.fmod_eq_emod_of_nonneg i ⋯];exact q)
theorem op_pow:OpR X (binaryOp .Pow) (rI CPow λ i j=>.int (i ^ j.toNat)):=opI λ _ _ _ _ _ _ _ hc q=>pow_int_small hc.1 hc.2.1 hc.2.2 q
theorem unI{f:Value->Sem Value}{g:Int->Int}
  (rule:∀(i:Int)(t:Tok)(s:Shared)(Q:Value->Shared->Prop)(E:Value->Shared->Prop),Q (.int (g i) s.toks) { s with toks:=s.toks+1 }->wpAny (model X.prog X.w) X.A (f (.int i t)) Q E s) :
  UnR X f (rU λ i=>.int (g i)):=by
 intro pins s σ H x v Q I rx h
 obtain⟨i,rfl,q⟩:=h
 obtain⟨t,rfl⟩:=rx
 exact rule i t s _ _ ⟨.int (g i),H,I.tok _,⟨_,rfl⟩,q⟩
theorem un_neg:UnR X (unaryOp .USub) (rU λ i=>.int (-i)):=unI λ _ _ _ _ _ q=>neg_int q
def scal:V->V->Bool
 | .non,.non=>true | .non,.int _=>true | .int _,.non=>true | .non,.bl _=>true | .bl _,.non=>true | .non,.str _=>true | .str _,.non=>true
 | .int _,.int _=>true | .bl _,.bl _=>true | .str _,.str _=>true | .byt _,.byt _=>true
 | .int _,.str _=>true | .str _,.int _=>true | .bl _,.str _=>true | .str _,.bl _=>true
 |_,_=>false
inductive rEq(x:V)(y:V)(H:Hp)(Q:VK):Prop
 |mk  : scal x y=true->Q (.bl (decide (x=y))) H->rEq x y H Q
inductive rNe(x:V)(y:V)(H:Hp)(Q:VK):Prop
 |mk  : scal x y=true->Q (.bl (!decide (x=y))) H->rNe x y H Q
theorem dec_int{i j:Int}:decide (V.int i=V.int j)=(i==j):=by
 rw[zcb]
 simp
theorem dec_bl{i j:Bool}:decide (V.bl i=V.bl j)=(i==j):=by
 rw[zcb]
 simp
theorem dec_str{i j:Str}:decide (V.str i=V.str j)=(i==j):=by
 rw[zcb]
 simp
theorem dec_byt{i j:Array UInt8}:decide (V.byt i=V.byt j)=(i.toList==j.toList):=by
 rw[zcb]
 cases i
 cases j
 simp
theorem qcu9{Q:VK}{k k':Bool}(I:Inv X pins σ H s)(q:Q (.bl k) H)(e:k=k'):EP X pins σ Q (.bool k') s:=by
 subst e
 exact⟨.bl k,H,I,rfl,q⟩
theorem op_eq:OpR X (compareOp .Eq) rEq:=by
 intro pins s σ H x y v u Q I rx ry h
 obtain⟨hs,q⟩:=h
 cases x with
 |non =>
  cases rx
  cases y with
  |non=>cases ry;exact PySem.EqNone.eq_none_none (qcu9 I q (by simp))
  |bl j=>cases ry;exact PySem.EqNone.eq_none_bool (qcu9 I q (by simp))
  |int j=>obtain⟨t',rfl⟩:=ry;exact PySem.EqNone.eq_none_int (qcu9 I q (by simp))
  |str j=>obtain⟨t',rfl⟩:=ry;exact PySem.EqNone.eq_none_str (qcu9 I q (by simp))
  |_=>exact absurd (show false=true from hs) zbc
 |bl i =>
  cases rx
  cases y with
  |non=>cases ry;exact PySem.EqNone.eq_bool_none (qcu9 I q (by simp))
  |bl j=>cases ry;exact eq_bool (qcu9 I q dec_bl)
  |str j=>obtain⟨t',rfl⟩:=ry;exact PySem.EqMixed.eq_bool_str (qcu9 I q (by simp))
  |_=>exact absurd (show false=true from hs) zbc
 |int i =>
  obtain⟨t,rfl⟩:=rx
  cases y with
  |non=>cases ry;exact PySem.EqNone.eq_int_none (qcu9 I q (by simp))
  |int j=>obtain⟨t',rfl⟩:=ry;exact eq_int (qcu9 I q dec_int)
  |str j=>obtain⟨t',rfl⟩:=ry;exact PySem.EqMixed.eq_int_str (qcu9 I q (by simp))
  |_=>exact absurd (show false=true from hs) zbc
 |str i =>
  obtain⟨t,rfl⟩:=rx
  cases y with
  |non=>cases ry;exact PySem.EqNone.eq_str_none (qcu9 I q (by simp))
  |bl j=>cases ry;exact PySem.EqMixed.eq_str_bool (qcu9 I q (by simp))
  |int j=>obtain⟨t',rfl⟩:=ry;exact PySem.EqMixed.eq_str_int (qcu9 I q (by simp))
  |str j=>obtain⟨t',rfl⟩:=ry;exact eq_str (qcu9 I q dec_str)
  |_=>exact absurd (show false=true from hs) zbc
 |byt i =>
  obtain⟨t,rfl⟩:=rx
  cases y with
  |byt j=>obtain⟨t',rfl⟩:=ry;exact W.eq_bytes (qcu9 I q dec_byt)
  |_=>exact absurd (show false=true from hs) zbc
 |_=>cases y<;>exact absurd (show false=true from hs) zbc
theorem op_ne:OpR X (compareOp .NotEq) rNe:=by
 intro pins s σ H x y v u Q I rx ry h
 obtain⟨hs,q⟩:=h
 cases x with
 |non =>
  cases rx
  cases y with
  |non=>cases ry;exact PySem.EqNone.ne_none_none (qcu9 I q (by simp))
  |bl j=>cases ry;exact PySem.EqNone.ne_none_bool (qcu9 I q (by simp))
  |int j=>obtain⟨t',rfl⟩:=ry;exact PySem.EqNone.ne_none_int (qcu9 I q (by simp))
  |str j=>obtain⟨t',rfl⟩:=ry;exact PySem.EqNone.ne_none_str (qcu9 I q (by simp))
  |_=>exact absurd (show false=true from hs) zbc
 |bl i =>
  cases rx
  cases y with
  |non=>cases ry;exact PySem.EqNone.ne_bool_none (qcu9 I q (by simp))
  |bl j=>cases ry;exact ne_bool (qcu9 I q (congrArg not dec_bl))
  |str j=>obtain⟨t',rfl⟩:=ry;exact PySem.EqMixed.ne_bool_str (qcu9 I q (by simp))
  |_=>exact absurd (show false=true from hs) zbc
 |int i =>
  obtain⟨t,rfl⟩:=rx
  cases y with
  |non=>cases ry;exact PySem.EqNone.ne_int_none (qcu9 I q (by simp))
  |int j=>obtain⟨t',rfl⟩:=ry;exact ne_int (qcu9 I q (congrArg not dec_int))
  |str j=>obtain⟨t',rfl⟩:=ry;exact PySem.EqMixed.ne_int_str (qcu9 I q (by simp))
  |_=>exact absurd (show false=true from hs) zbc
 |str i =>
  obtain⟨t,rfl⟩:=rx
  cases y with
  |non=>cases ry;exact PySem.EqNone.ne_str_none (qcu9 I q (by simp))
  |bl j=>cases ry;exact PySem.EqMixed.ne_str_bool (qcu9 I q (by simp))
  |int j=>obtain⟨t',rfl⟩:=ry;exact PySem.EqMixed.ne_str_int (qcu9 I q (by simp))
  |str j=>obtain⟨t',rfl⟩:=ry;exact ne_str (qcu9 I q (congrArg not dec_str))
  |_=>exact absurd (show false=true from hs) zbc
 |byt i =>
  obtain⟨t,rfl⟩:=rx
  cases y with
  |byt j=>obtain⟨t',rfl⟩:=ry;exact W.ne_bytes (qcu9 I q (congrArg not dec_byt))
  |_=>exact absurd (show false=true from hs) zbc
 |_=>cases y<;>exact absurd (show false=true from hs) zbc
theorem op_lt:OpR X (compareOp .Lt) (rI0 λ i j=>.bl (decide (i<j))):=opB0 λ _ _ _ _ _ _ _ q=>lt_int q
theorem op_le:OpR X (compareOp .LtE) (rI0 λ i j=>.bl (decide (i<=j))):=opB0 λ _ _ _ _ _ _ _ q=>le_int q
theorem op_gt:OpR X (compareOp .Gt) (rI0 λ i j=>.bl (decide (j<i))):=opB0 λ _ _ _ _ _ _ _ q=>gt_int q
theorem op_ge:OpR X (compareOp .GtE) (rI0 λ i j=>.bl (decide (j<=i))):=opB0 λ _ _ _ _ _ _ _ q=>ge_int q
theorem qau9(b:Expr)(h:op ≠ .In:=by decide)(h2:op ≠ .NotIn:=by decide):behindInMarks op b=false:=by
 have e1:(op==CmpOp.In)=false:=by cases op<;>first|rfl|exact absurd rfl h
 have e2:(op==CmpOp.NotIn)=false:=by cases op<;>first|rfl|exact absurd rfl h2
 cases b<;>simp[behindInMarks,e1,e2]
theorem qnk9(ho:OpR X (compareOp op) r)(ha:PE X a ta)(hb:PE X b tb)(hm:behindInMarks op b=false):PE X (.Compare a [op] [b] pos) (tOp r ta tb):=by
 intro pins s σ H Q I h
 exact wpAny_Compare1 (binT ha hb I h λ v u s2 x y H2 I2 rx ry q=>ho pins s2 σ H2 x y v u Q I2 rx ry q) hm
def tTest(t:TE):TT:=λ σ H Q=>t σ H λ x H'=>∃k,x=.bl k/\Q k H'
theorem pt_cmpR(ho:OpR X (compareOp op) r)(ha:PE X a ta)(hb:PE X b tb)(hm:behindInMarks op b=false):PT X (.Compare a [op] [b] pos) (tTest (tOp r ta tb)):=by
 intro pins s σ H Q I h
 refine wpAny_isTrue_Compare1 (thn (ha pins s σ H _ I h) λ v s1 ⟨x,H1,I1,r1,q1⟩=>thn (hb pins s1 σ H1 _ I1 q1) λ u s2 ⟨y,H2,I2,r2,q2⟩ =>
  thn (ho pins s2 σ H2 x y v u _ I2 r1 r2 q2) λ c s3 ⟨z,H3,I3,r3,k,e,q3⟩=>?_) hm
 subst e
 cases r3
 exact wpAny_truthy_bool ⟨H3,I3,q3⟩
def tChain(r r':R2)(ta tb tc:TE):TE:=λ σ H Q=>ta σ H λ x H1=>tb σ H1 λ y H2=>r x y H2 λ z H3=>∃k,z=.bl k /\
 (if k=true then tc σ H3 λ w' H4=>r' y w' H4 Q else Q (.bl false) H3)
theorem pe_chain{op':CmpOp}{r':R2}(ho:OpR X (compareOp op) r)(ho':OpR X (compareOp op') r')(ha:PE X a ta)(hb:PE X b tb)(hc:PE X c tc)
  (hm:lastMarks [op,op'] [b,c]=false:=by with_unfolding_all rfl):PE X (.Compare a [op,op'] [b,c] pos) (tChain r r' ta tb tc):=by
 intro pins s σ H Q I h
 refine Compare_chain (thn (ha pins s σ H _ I h) λ v s1 ⟨x,H1,I1,r1,q1⟩=>chain_link (thn (hb pins s1 σ H1 _ I1 q1) λ u s2 ⟨y,H2,I2,r2,q2⟩ =>
  thn (ho pins s2 σ H2 x y v u _ I2 r1 r2 q2) λ d s3 ⟨z,H3,I3,r3,k,e,q3⟩=>?_)) hm
 subst e
 cases r3
 refine wpAny_truthy_bool ?_
 cases k with
 |false=>exact ite_ff ⟨.bl false,H3,I3,rfl,q3⟩
 |true=>exact ite_tt (chain_last (thn (hc pins s3 σ H3 _ I3 q3) λ w' s4 ⟨z',H4,I4,r4,q4⟩=>ho' pins s4 σ H4 y z' u w' Q I4 r2 r4 q4))
theorem pt_chain{op':CmpOp}{r':R2}(ho:OpR X (compareOp op) r)(ho':OpR X (compareOp op') r')(ha:PE X a ta)(hb:PE X b tb)(hc:PE X c tc)
  (hm:lastMarks [op,op'] [b,c]=false:=by with_unfolding_all rfl):PT X (.Compare a [op,op'] [b,c] pos) (tTest (tChain r r' ta tb tc)):=by
 intro pins s σ H Q I h
 refine isTrue_chain (thn (ha pins s σ H _ I h) λ v s1 ⟨x,H1,I1,r1,q1⟩=>test_link (thn (hb pins s1 σ H1 _ I1 q1) λ u s2 ⟨y,H2,I2,r2,q2⟩ =>
  thn (ho pins s2 σ H2 x y v u _ I2 r1 r2 q2) λ d s3 ⟨z,H3,I3,r3,k,e,q3⟩=>?_)) hm
 subst e
 cases r3
 refine wpAny_truthy_bool ?_
 cases k with
 |false =>
  obtain⟨k',e',q'⟩:=q3
  cases e'
  exact ite_ff ⟨H3,I3,q'⟩
 |true =>
  refine ite_tt (test_last (thn (hc pins s3 σ H3 _ I3 q3) λ w' s4 ⟨z',H4,I4,r4,q4⟩=>thn (ho' pins s4 σ H4 y z' u w' _ I4 r2 r4 q4) λ d' s5 z9=>?_))
  obtain⟨z2,H5,I5,r5,k2,e2,q5⟩ := z9
  subst e2
  cases r5
  exact wpAny_truthy_bool ⟨H5,I5,q5⟩
theorem line63:(sizeLine:Nat)<2 ^ 63:=by rw[sizeLine_eq];decide
theorem vals1{x:V}(r:Vals [x] us):∃u,us=[u]/\RelV x u:=by
 cases r with
 |cons r1 r2=>cases r2;exact⟨_,rfl,r1⟩
theorem vals2{x y:V}(r:Vals [x,y] us):∃u w',us=[u,w']/\RelV x u/\RelV y w':=by
 cases r with
 |cons r1 r2 =>
  cases r2 with
  |cons r3 r4=>cases r4;exact⟨_,_,rfl,r1,r3⟩
theorem call_max2(hc:X.calm=true):CallR X (.builtin "max") (λ xs H Q=>∃i j,xs=[.int i,.int j]/\Q (.int (if j>i then j else i)) H):=by
 intro pins s σ H xs us Q I r h
 obtain⟨i,j,rfl,q⟩:=h
 obtain⟨u,w',rfl,⟨t,rfl⟩,⟨t',rfl⟩⟩:=vals2 r
 refine max_two_ints (I.ok.hd hc) λ h' tk k=>⟨_,H,I.kept k,?_,q⟩
 by_cases hj:j>i
 ·rw[if_pos hj,if_pos hj];exact⟨_,rfl⟩
 ·rw[if_neg hj,if_neg hj];exact⟨_,rfl⟩
theorem call_min2(hc:X.calm=true):CallR X (.builtin "min") (λ xs H Q=>∃i j,xs=[.int i,.int j]/\Q (.int (if j<i then j else i)) H):=by
 intro pins s σ H xs us Q I r h
 obtain⟨i,j,rfl,q⟩:=h
 obtain⟨u,w',rfl,⟨t,rfl⟩,⟨t',rfl⟩⟩:=vals2 r
 refine min_two_ints (I.ok.hd hc) λ h' tk k=>⟨_,H,I.kept k,?_,q⟩
 by_cases hj:j<i
 ·rw[if_pos hj,if_pos hj];exact⟨_,rfl⟩
 ·rw[if_neg hj,if_neg hj];exact⟨_,rfl⟩
end
structure ObjM(h:Heap)(x dx C:Addr)(mA:Str->Option Value):Prop where
 obj:h.get? x=some (W.instObj C dx)
 ns:h.Ns1 dx mA
 ne:dx≠x
theorem lookIn_ns(n:h.Ns1 dx mA):∃od,h.get? dx=some od/\∀name,W.lookIn name od=some (mA name):=by
 obtain⟨o,es,ep,ho,hd,hk,_,hm⟩:=n
 refine⟨o,ho,λ name=>?_⟩
 have e:=hm name
 unfold nsFind findBy at e
 rw[<- Array.find?_toList] at e
 unfold W.lookIn
 rw[hd]
 dsimp only
 split
 ·rename_i y q
  rw[q] at e
  exact congrArg some e
 ·rename_i q
  rw[q] at e
  have a:es.toList.any (·.refKey)=false:=by
   rw[List.any_eq_false]
   intro y hy
   obtain⟨z,t,hkey⟩:=hk y (Array.mem_toList_iff.mp hy)
   simp[DictEntry.refKey,hkey]
  have a':¬es.toList.any (·.refKey)=true:=by rw[a];exact zbc
  rw[if_neg a']
  exact congrArg some e
theorem ObjM.look{x:Addr}(I:ObjM h x dx C mA):∃od,W.InstAt h x (W.instObj C dx) C (some od)/\∀name,W.lookIn name od=some (mA name) :=
 let ⟨od,ho,hl⟩:=lookIn_ns I.ns
 ⟨od,⟨I.obj,rfl,rfl,ho⟩,hl⟩
section
variable {prog:Program}{x:Addr}{name:Str}{v:Value}
end
theorem RelO.some_of{o:Option Value}(r:RelO (some v) o):∃u,o=some u/\RelV v u:=by
 cases o with
 |none=>exact(show False from r).elim
 |some u=>exact⟨u,rfl,r⟩
section
variable {fs fs':List (Str×V)}
theorem ins_get(hok:HOk P w H h)(e:H a=some (.ins C dx fs)):∃mA,ObjM h a dx C mA/\(∀f,RelO (fs.lookup f) (mA f))/\PySem.Within mA (fs.map (·.1))/\fs.length<=1000/\H dx=some (.own a):=by
 obtain⟨d,z,ne,ob,mA,n,r,q⟩:=(show ObjOk P w H h a (.ins C dx fs) from hok a _ e)
 exact⟨mA,⟨ob,n,ne⟩,r,q,z,d⟩
end
structure Cls(K:W.Frag)(C:Addr):Prop where
 pg:W.plainGet K C Str.empty=true
 hd:W.hasDictIn K C=true
 po:W.plainOver K C=true
 sa:W.findIn K (.ref C) "__setattr__"=some (some (.builtin "object.__setattr__"))
theorem Cls.get(c:Cls K C)(f:Str):W.plainGet K C f=true:=c.pg
section
variable {fs:List (Str×V)}{f:Str}
end
section
variable {o value:Expr}{f:Str}{tpos:Pos}{tv:TE}
end
section
variable {c:Value}{b:Bool}
inductive TyOf(K:W.Frag)(H:Hp):V->Value->Prop where
 |non:TyOf K H .non (.type "NoneType")
 |bl (x:Bool):TyOf K H (.bl x) (.type "bool")
 |int (i:Int):TyOf K H (.int i) (.type "int")
 |str (x:Str):TyOf K H (.str x) (.type "str")
 |flt (x:UInt64):TyOf K H (.flt x) (.type "float")
 |lst {a:Addr} {xs:List V} (e:H a=some (.lst xs)):TyOf K H (.ref a) (.type "list")
 |frz {a:Addr} {o:Obj} {xs:List V} (e:H a=some (.frz o (.lst xs))):TyOf K H (.ref a) (.type "list")
 |tup {a:Addr} {xs:List V} (e:H a=some (.tup xs)):TyOf K H (.ref a) (.type "tuple")
 |dK {a:Addr} {kvs:List (Key×V)} (e:H a=some (.dK kvs)):TyOf K H (.ref a) (.type "dict")
 |dT {a:Addr} {kvs:List (List Key×V)} (e:H a=some (.dT kvs)):TyOf K H (.ref a) (.type "dict")
 | ins {a C dx:Addr} {fs:List (Str×V)} (e:H a=some (.ins C dx fs)) (cl:Cls K C) (ha:W.findIn K (.ref C) "__class__"=some (some (.builtin "object.__class__")))
   (hn:W.specialIn K (.builtin "object.__class__") "__get__"=some (some (.builtin "getset_descriptor.__get__"))) (htk:W.takesIn K (.builtin "object.__class__")=some true)
   (hm:W.mroIn K C (.type "object")=some true):TyOf K H (.ref a) (.ref C)
theorem isinst_ok{x:V}{u t:Value}(I:Inv X pins σ H s)(rx:RelV x u)(ty:TyOf X.K H x t)(e:W.kitOne X.K t c=some b)(h:∀tk,Q (.bool b) { s with toks:=tk }) :
  wpAny (model X.prog X.w) A (call (.builtin "isinstance") [u,c]) Q E s:=by
 cases ty with
 |non=>cases (show u=Value.none from rx);exact W.kia_one W.kitx_none I.kIn True.intro e (λ z=>nomatch z) h
 |bl y=>cases (show u=Value.bool y from rx);exact W.kia_one W.kitx_bool I.kIn True.intro e (λ z=>nomatch z) h
 |int i=>obtain⟨t,q⟩:=(show ∃t,u=Value.int i t from rx);cases q;exact W.kia_one W.kitx_int I.kIn True.intro e (λ z=>nomatch z) h
 |str y=>obtain⟨t,q⟩:=(show ∃t,u=Value.str y t from rx);cases q;exact W.kia_one W.kitx_str I.kIn True.intro e (λ z=>nomatch z) h
 |flt y=>obtain⟨t,q⟩:=(show ∃t,u=Value.float y t from rx);cases q;exact W.kia_one W.kitx_float I.kIn True.intro e (λ z=>nomatch z) h
 | @lst a xs ea =>
  cases (show u=Value.ref a from rx)
  obtain⟨_,_,n,_,h1⟩:=(show ObjOk X.prog X.w H s.heap a (.lst xs) from I.hok a _ ea)
  exact W.kia_one W.kitx_list I.kIn ⟨_,h1,rfl⟩ e (λ z=>nomatch z) h
 | @frz a ob xs ea =>
  cases (show u=Value.ref a from rx)
  obtain⟨_,_,_,n,_,h1⟩:=(show ObjOk X.prog X.w H s.heap a (.frz ob (.lst xs)) from I.hok a _ ea)
  exact W.kia_one W.kitx_list I.kIn ⟨_,h1,rfl⟩ e (λ z=>nomatch z) h
 | @tup a xs ea =>
  cases (show u=Value.ref a from rx)
  obtain⟨_,_,_,p⟩:=(show ObjOk X.prog X.w H s.heap a (.tup xs) from I.hok a _ ea)
  obtain⟨o,h1,h2,_⟩:=p
  exact W.kia_one W.kitx_tuple I.kIn ⟨o,h1,h2⟩ e (λ z=>nomatch z) h
 | @dK a kvs ea =>
  cases (show u=Value.ref a from rx)
  obtain⟨_,_,vs,_,p⟩:=(show ObjOk X.prog X.w H s.heap a (.dK kvs) from I.hok a _ ea)
  obtain⟨o,es,ep,h1,h2,_⟩:=p
  exact W.kia_one W.kitx_dict I.kIn ⟨o,h1,h2.1⟩ e (λ z=>nomatch z) h
 | @dT a kvs ea =>
  cases (show u=Value.ref a from rx)
  obtain⟨_,_,xs,_,o,es,ep,h1,h2,_⟩:=(show ObjOk X.prog X.w H s.heap a (.dT kvs) from I.hok a _ ea)
  exact W.kia_one W.kitx_dict I.kIn ⟨o,h1,h2.1⟩ e (λ z=>nomatch z) h
 | @ins a C dx fs ea cl ha hn htk hm =>
  cases (show u=Value.ref a from rx)
  obtain⟨mA,O,_⟩:=ins_get I.hok ea
  obtain⟨od,J,_⟩:=O.look
  exact W.kia_one (W.kitx_own (cl.get _) cl.hd ha hn htk hm) I.kIn J e (λ z=>nomatch z) h
end
structure Room(k:Nat)(A:Around):Prop where
 hd:A.handled=none
 dp:A.depth+3*k+5<recursionLimit
 un:A.units+16*k+200<cLine
theorem Room.mono{j k:Nat}(r:Room k A)(h:j<=k):Room j A:=⟨r.hd,by have:=r.dp;omega,by have:=r.un;omega⟩
theorem Room.deeper{k:Nat}{A:Around}(r:Room (k+1) A)(env:Env):Room k (A.deeper env) :=
 ⟨r.hd,by have:=r.dp;show A.depth+1+3*k+5<_;omega,by have:=r.un;show A.units+3+16*k+200<_;omega⟩
theorem Room.depth{k:Nat}{A:Around}(r:Room k A):A.depth<recursionLimit:=by have:=r.dp;omega
theorem Room.units{k:Nat}{A:Around}(r:Room k A):A.units+64<cLine:=by have:=r.un;omega
def tNil:TA:=λ _ H Q=>Q [] H
def tCons(ta:TE)(tr:TA):TA:=λ σ H Q=>ta σ H λ x H1=>tr σ H1 λ xs H2=>Q (x::xs) H2
section
variable {t:TA}
theorem pa_nil:PA X [] tNil:=λ _ _ _ _ H Q I h=>Calls.spliced_nil ⟨[],H,I,.nil,h⟩
theorem pa_cons(ha:PE X e te)(hr:PA X es t)(hs:starEach (e::es) X.env=(false,eval e X.env)::starEach es X.env:=by rfl):PA X (e::es) (tCons te t):=by
 intro pos pins s σ H Q I h
 rw[hs]
 show wpAny _ _ (spliced ((false,eval e X.env)::backTo pos (starEach es X.env))) _ _ s
 refine Calls.spliced_cons (thn (ha pins s σ H _ I h) λ u s1 z9=>?_)
 obtain⟨x,H1,I1,r1,q1⟩ := z9
 exact thn (hr pos pins s1 σ H1 _ I1 q1) λ us s2 ⟨xs,H2,I2,r2,q2⟩=>⟨x::xs,H2,I2,.cons r1 r2,q2⟩
def tTup(t:TA):TE:=λ σ H Q=>t σ H λ xs H1=>xs.length<=sizeLine/\∀p,H1 p=none->Q (.ref p) (upd H1 p (.tup xs))
def tLst(t:TA):TE:=λ σ H Q=>t σ H λ xs H1=>xs.length<=sizeLine/\∀p,H1 p=none->Q (.ref p) (upd H1 p (.lst xs))
theorem pe_tup{x1}(h:PA X es t):PE X (.Tuple es x1 pos) (tTup t):=by
 intro pins s σ H Q I hq
 refine wpAny_Tuple_spliced (thn (h pos pins s σ H _ I hq) λ us s1 ⟨xs,H1,I1,r,z,q⟩=>⟨by rw[<- r.length];exact z,?_⟩)
 have hf:H1 s1.heap.objs.size=none:=I1.hok.fresh (zaj _)
 refine⟨.ref s1.heap.objs.size,upd H1 s1.heap.objs.size (.tup xs),I1.laid (t':=s1.toks) (λ b u e=>zad _ e) (zaj _) ?_,rfl,q _ hf⟩
 exact⟨z,us,r,⟨_,zbb _ rfl,rfl,_,rfl⟩⟩
theorem pe_lst(h:PA X es t):PE X (.List es pos) (tLst t):=by
 intro pins s σ H Q I hq
 refine wpAny_List_spliced (thn (h pos pins s σ H _ I hq) λ us s1 ⟨xs,H1,I1,r,z,q⟩=>⟨by rw[<- r.length];exact z,?_⟩)
 have hf:H1 s1.heap.objs.size=none:=I1.hok.fresh (zaj _)
 refine⟨.ref s1.heap.objs.size,upd H1 s1.heap.objs.size (.lst xs),I1.laid (t':=s1.toks) (λ b u e=>zad _ e) (zaj _) ?_,rfl,q _ hf⟩
 exact⟨z,us,0,r,zbb _ rfl⟩
end
abbrev Sp:=List V->Hp->VK->XK->Prop
variable {sp:Sp}
abbrev CXT:=List Env->Hp->Shared->XK->Value->Shared->Prop
structure Env0(P:Program)(w:World)(K:W.Frag)(mg:Str->Option Value)(base:Heap)(A:Around)(outer:List Env)(s:Shared)(H:Hp):Prop where
 frames:A.frames=some outer
 mod:Mod K mg base
 bs:∀b o,base.get? b=some o->s.heap.get? b=some o/\H b=none
 bsz:base.objs.size<=s.heap.objs.size
 funs:s.heap.FunFrames base outer
 frf:∀b∈frs outer,H b=none
 hok:HOk P w H s.heap
 bare:AllBare s.gens
variable {CX:CXT}
def CE(outer:List Env)(P:Program)(w:World)(H:Hp)(s:Shared)(Q:VK)(u:Value)(s':Shared):Prop :=
 ∃v H',s'.os=s.os/\AllBare s'.gens/\Un (frs outer) [] H H' s.heap s'.heap/\HOk P w H' s'.heap/\RelV v u/\Q v H'
def CR(CX:CXT)(outer:List Env)(P:Program)(w:World)(H:Hp)(s:Shared)(Q:VK)(E:XK)(r:Result)(s':Shared):Prop :=
 match r with
 | .ok (.ret u)=>CE outer P w H s Q u s'
 | .ok _=>False
 | .error e=>CX outer H s E e s'
structure FnOk(P:Program)(w:World)(K:W.Frag)(mg:Str->Option Value)(base:Heap)(CX:CXT)(k:Nat)(f:Addr)(fd:FuncData)(ps:List Str)(sp:Sp):Prop where
 len:∀vs H Q E,sp vs H Q E->vs.length=ps.length
 run:∀(A:Around)(outer:List Env)(s:Shared)(H:Hp)(args:Args)(us:List Value)(vs:List V)(Q:VK)(E:XK),Room k A->Env0 P w K mg base A outer s H->BindsTo s fd args (ps.zip us)->Vals vs us->sp vs H Q E ->
  codeAny (model P w) A (.call (.ref f) args) (CR CX outer P w H s Q E) s
theorem FnOk.mono{P:Program}{w:World}{K:W.Frag}{mg:Str->Option Value}{base:Heap}{CX:CXT}{j k:Nat}{f:Addr}{fd:FuncData}{ps:List Str}{sp:Sp}(F:FnOk P w K mg base CX j f fd ps sp)(h:j<=k) :
  FnOk P w K mg base CX k f fd ps sp:=⟨F.len,λ A outer s H args us vs Q E hr=>F.run A outer s H args us vs Q E (hr.mono h)⟩
theorem FnOk.imp{k:Nat}{sp':Sp}(F:FnOk P w K mg base CX k f fd ps sp)
  (h:∀vs H Q E,sp' vs H Q E->sp vs H Q E):FnOk P w K mg base CX k f fd ps sp' :=
 ⟨λ vs H Q E q=>F.len vs H Q E (h _ _ _ _ q),λ A outer s H args us vs Q E hr he hb hv hs=>F.run A outer s H args us vs Q E hr he hb hv (h _ _ _ _ hs)⟩
section
variable {s':Shared}
theorem Inv.env0(I:Inv X pins σ H s):Env0 X.prog X.w X.K X.mg X.base X.A X.stack s H :=
 ⟨I.ok.frames,I.ok.mod,I.bs,zbe I.ok.bsz I.sz,I.stack,I.stkFree,I.hok,I.bare⟩
theorem Inv.after{Q:VK}{u:Value}(I:Inv X pins σ H s)(h:CE X.stack X.prog X.w H s Q u s'):EP X pins σ Q u s':=by
 obtain⟨v,H',os,bare,un,hok,r,q⟩:=h
 obtain⟨hh,g,d,t,os'⟩:=s'
 obtain rfl:os'=s.os:=os
 exact⟨v,H',I.call (h':=hh) (g':=g) (d':=d) (t':=t) (ch:=[]) un hok bare (λ b z=>absurd z (by simp)),r,q⟩
end
def tCall(sp:Sp)(dvs:List V)(E:XK)(t:TA):TE:=λ σ H Q=>t σ H λ vs H1=>sp (vs++dvs) H1 Q E
def Binds(K:W.Frag)(fd:FuncData)(ps:List Str)(ds:List Value):Prop :=
 ∀(s:Shared)(us:List Value),K.In s.heap->(us++ds).length=ps.length->BindsTo s fd ⟨us,[]⟩ (ps.zip (us++ds))
theorem Binds.all(h:∀us:List Value,us.length=ps.length->bindArgs fd ⟨us,[]⟩=pure (ps.zip us)):Binds K fd ps []:=λ s us _ hl=>by
 rw[zbr] at hl ⊢
 exact .of_eq (h us hl)
def qmc9(CX:CXT)(X:Cx)(E:XK):Prop:=∀(pins:List (Addr×Obj)) (σ:St) (H:Hp) (s:Shared) (e:Value) (s':Shared),Inv X pins σ H s->CX X.stack H s E e s'->X.xe e s'
section
variable {k:Nat}{dvs:List V}{ds:List Value}{E:XK}{m:Str}{apos:Pos}{o:Expr}{t:TA}
theorem run_fn{Q:VK}{vs:List V}(F:FnOk X.prog X.w X.K X.mg X.base CX k f fd ps sp)(hr:Room k X.A)(hb:Binds X.K fd ps ds)(hd:Vals dvs ds)(hx:qmc9 CX X E)
  (I:Inv X pins σ H s) (r:Vals vs us) (h:sp (vs++dvs) H Q E):wpAny (model X.prog X.w) X.A (call (.ref f) us) (EP X pins σ Q) X.xe s:=by
 have r2:Vals (vs++dvs) (us++ds):=r.append hd
 have hl:(us++ds).length=ps.length:=by rw[<- r2.length];exact F.len _ _ _ _ h
 refine wpAny_call (codeAny_mono (F.run X.A X.stack s H ⟨us,[]⟩ (us++ds) (vs++dvs) Q E hr I.env0 (hb s us I.kIn hl) r2 h) λ r s' hq=>?_)
 cases r with
 |error e=>exact hx pins σ H s e s' I hq
 |ok fl =>
  cases fl with
  |ret u=>exact I.after hq
  |next=>exact False.elim hq
  |brk=>exact False.elim hq
  |cont=>exact False.elim hq
theorem pe_call(F:FnOk X.prog X.w X.K X.mg X.base CX k f fd ps sp)(hr:Room k X.A)(hg:Gl X x)(hm:X.mg x=some (.ref f))(hk:W.keepIn X.K (.ref f)=true)(hb:Binds X.K fd ps ds)(hd:Vals dvs ds)(hx:qmc9 CX X E)
  (ha:PA X (e::es) t) (hdb:(x==("__debug__":Str))=false:=by decide) (he:starEach (e::es) X.env=(false,eval e X.env)::starEach es X.env:=by rfl) (hpl:(backTo pos (starEach es X.env)).any (·.1)=false:=by rfl) :
  PE X (.Call (.Name x p) (e::es) [] pos) (tCall sp dvs E t):=by
 intro pins s σ H Q I h
 refine wpAny_Call_Name_kw (qhq9 I hg hm ?_ hdb)
 refine W.callWith_K (h₀:=X.base) I.ok.mod.kin hk (thn (ha pos pins s σ H _ I h) λ us s1 ⟨vs,H1,I1,r,q⟩=>⟨I1.kIn,?_⟩) he hpl
 exact run_fn F hr hb hd hx I1 r q
end
section
variable {k:Nat}{ks:List Str}{E:XK}{m:Str}{apos kpos:Pos}{o:Expr}{kws:List Keyword}{t tk:TA}{nm:Option Str}
variable {g:List Value->List Value->List Value}{gV:List V->List V->List V}
end
structure FnScope(N P:List Str)(sc:Scope):Prop where
 kind:sc.kind=.function
 co:sc.isCoroutine=false
 gen:sc.isGenerator=false
 nd:N.Nodup
 pre:N.take P.length=P
 par:∀x∈P,sc.names.lookup x=some .local\/sc.names.lookup x=some .cell
 nofree:∀y∈sc.names,y.2 ≠ .free
theorem qll9{kindOf:Str->Option NameKind}{x:Str}:∀{binds:List (Str×Value)} {m:Str->Option Value},(∀v,(x,v)∉binds)->bindL kindOf binds m x=m x
 | [],_,_=>rfl
 | (n,v)::r,m,h=>by
  unfold bindL
  rw[qll9 λ w hw=>h w (zam _ hw)]
  split
  ·have:x≠n:=by rintro rfl;exact h v zak
   simp[this]
  ·rfl
theorem qlt9{kindOf:Str->Option NameKind}{x:Str}:∀{binds:List (Str×Value)} {m:Str->Option Value},(∀v,(x,v)∉binds)->bindC kindOf binds m x=m x
 | [],_,_=>rfl
 | (n,v)::r,m,h=>by
  unfold bindC
  rw[qlt9 λ w hw=>h w (zam _ hw)]
  split
  ·rfl
  ·have:x≠n:=by rintro rfl;exact h v zak
   simp[this]
theorem qla9{kindOf:Str->Option NameKind}{x:Str}{v:Value}:∀{P:List Str}{vs:List Value}{i:Nat}{m:Str->Option Value},P.Nodup->P[i]?=some x->vs[i]?=some v->kindOf x=some .local ->
  bindL kindOf (P.zip vs) m x=some v
 | [],_,_,_,_,h,_,_=>by simp at h
 |_::_,[],_,_,_,_,h,_=>by simp at h
 |p::P,w::vs,0,m,nd,h1,h2,hk=>by
  simp at h1 h2;subst h1;subst h2
  show bindL kindOf ((p,w)::P.zip vs) m p=_
  unfold bindL
  rw[qll9 λ v hv=>(zbl.mp nd).1 (zdo hv).1,if_pos hk]
  simp
 |p::P,w::vs,i+1,m,nd,h1,h2,hk=>by
  show bindL kindOf ((p,w)::P.zip vs) m x=_
  unfold bindL
  exact qla9 (i:=i) (zbl.mp nd).2 (by simpa using h1) (by simpa using h2) hk
theorem qlf9{kindOf:Str->Option NameKind}{x:Str}{v:Value}:∀{P:List Str}{vs:List Value}{i:Nat}{m:Str->Option Value},P.Nodup->P[i]?=some x->vs[i]?=some v->kindOf x≠some .local ->
  bindC kindOf (P.zip vs) m x=some v
 | [],_,_,_,_,h,_,_=>by simp at h
 |_::_,[],_,_,_,_,h,_=>by simp at h
 |p::P,w::vs,0,m,nd,h1,h2,hk=>by
  simp at h1 h2;subst h1;subst h2
  show bindC kindOf ((p,w)::P.zip vs) m p=_
  unfold bindC
  rw[qlt9 λ v hv=>(zbl.mp nd).1 (zdo hv).1,if_neg hk]
  simp
 |p::P,w::vs,i+1,m,nd,h1,h2,hk=>by
  show bindC kindOf ((p,w)::P.zip vs) m x=_
  unfold bindC
  exact qlf9 (i:=i) (zbl.mp nd).2 (by simpa using h1) (by simpa using h2) hk
def start(N:List Str)(vs:List V):St:=vs.map some++zbk (N.length-vs.length) none
def cxOf(CX:CXT)(P:Program)(w:World)(K:W.Frag)(mg:Str->Option Value)(base:Heap)(N:List Str)(qual:Str)(scope:Scope)(f:Addr)(cd:Value)(A:Around)(outer:List Env)(s:Shared)(H:Hp)(E:XK):Cx where
 prog:=P
 w:=w
 K:=K
 mg:=mg
 base:=base
 A:=A.deeper (envOfC qual scope s.heap.objs.size f cd)
 N:=N
 s₀:=s
 H₀:=H
 env:=envOfC qual scope s.heap.objs.size f cd
 outer:=outer
 stack:=envOfC qual scope s.heap.objs.size f cd::outer
 ex:=[]
 calm:=true
 fn:=λ _=>true
 pn:=[]
 xe:=λ e s'=>wpAny (model P w) (A.deeper (envOfC qual scope s.heap.objs.size f cd)) (leaving (envOfC qual scope s.heap.objs.size f cd) e) (λ _ s''=>CX outer H s E e s'') (λ e' s''=>CX outer H s E e' s'') s'
theorem qox9{sc:Scope}(h:sc.names.lookup x=some .cell):∃c,(cellsFrom n sc.names []).lookup x=some c:=by
 have q:=W.cellsFrom_some sc.names n [] (.inl h)
 exact zcf.mp q
theorem inv_start{N:List Str}{qual:Str}{scope:Scope}{cd:Value}{outer:List Env}{s1:Shared}{E:XK}{vs:List V}
  (S:FnScope N ps scope) (hd:A.handled=none) (e0:Env0 P w K mg base A outer s H) (hl:vs.length=ps.length) (r:Vals vs us)
  (x:InCallC s s.heap.objs.size (bindL (envOfC qual scope s.heap.objs.size f cd).kindOf (ps.zip us) λ _=>none) (cellsFrom (s.heap.objs.size+1) scope.names []) (bindC (envOfC qual scope s.heap.objs.size f cd).kindOf (ps.zip us) λ _=>none) s1) :
  Inv (cxOf CX P w K mg base N qual scope f cd A outer s H E) [] (start N vs) H s1:=by
 have hpl:ps.length<=N.length:=by have:=congrArg zex S.pre;rw[zbf] at this;omega
 obtain⟨h1,tk,rfl,hk⟩:=x.done
 have noA:∀b:Addr,b∉(cxOf CX P w K mg base N qual scope f cd A outer s H E).ex:=λ b z=>absurd (show b∈([]:List Addr) from z) (by simp)
 refine⟨⟨e0.mod,S.kind,rfl,rfl,zaj _,λ y z c h1 h2=>?_,λ y hy=>?_,λ y c _ h=>?_,λ _=>hd,Around.frames_deeper e0.frames,.inr ⟨rfl,rfl⟩,λ b z=>absurd z (noA b),e0.bs,e0.bsz,λ b _ _=>noA b,λ b z=>absurd z (noA b),e0.funs,e0.frf⟩,
  rfl,e0.bare,Un.kept hk,⟨_,x.toInCall.ns,λ i y v h1 h2 h3=>?_⟩,λ y c h=>⟨_,x.cell y c h⟩,e0.hok.fresh (zaj _),λ y c h=>?_,λ p hp=>absurd (show p∈([]:List (Addr×Obj)) from hp) (by simp),e0.hok.kept hk,?_⟩
 ·exact name_of_addr x.apart (PySem.mem_of_lookup h1) (PySem.mem_of_lookup h2)
 ·have hy:scope.names.lookup y=some .cell\/scope.names.lookup y=some .free:=hy
  rcases hy with hy|hy
  ·exact qox9 hy
  ·exact absurd rfl (S.nofree _ (PySem.mem_of_lookup hy))
 ·exact zbu (x.above y c (PySem.mem_of_lookup h))
 ·have hi:i<vs.length:=by
   unfold start at h2
   by_cases hi:i<vs.length
   ·exact hi
   ·rw[zan (by simpa using hi)] at h2
    rw[List.getElem?_replicate] at h2
    split at h2<;>cases h2
  have ha:vs[i]?=some v:=by
   unfold start at h2
   rw[zao (by simpa using hi),zaf] at h2
   cases e:vs[i]? with
   |none=>rw[e] at h2;cases h2
   |some a=>rw[e] at h2;cases h2;rfl
  obtain⟨u,hu,rv⟩:=r.get ha
  have hp:ps[i]?=some y:=by
   rw[<- S.pre,zdg ⋯];exact h1
  have ndP:ps.Nodup:=by rw[<- S.pre];exact S.nd.sublist (List.take_sublist _ _)
  refine⟨u,rv,?_⟩
  rcases S.par y (zac hp) with k|k
  ·exact .inl ⟨k,qla9 ndP hp hu k⟩
  ·obtain⟨c,e⟩:=qox9 (n:=s.heap.objs.size+1) k
   refine .inr ⟨.inl k,c,e,?_⟩
   have q:=x.cell y c e
   rw[qlf9 ndP hp hu (by show scope.names.lookup y≠_;rw[k];decide)] at q
   exact q
 ·exact e0.hok.fresh (zbu (x.above y c (PySem.mem_of_lookup h)))
 ·unfold start
  show _=N.length
  rw[zal,zah,List.length_replicate]
  omega
theorem fn_of{k:Nat}{name qual:Str}{params:Arguments}{scope:Scope}{dV kV doc pm cdv ct oc:Value}{an od:Option Addr}
  {osl:Array (Option Value)} {N ps:List Str} {sp:Sp} (lk:K.lookup f=some ⟨oc,od,.func (W.fnOf name qual params body scope dV kV doc pm an cdv ct),osl⟩) (hcd:W.codeIn K cdv qual=true) (S:FnScope N ps scope)
  (len:∀vs H Q E,sp vs H Q E->vs.length=ps.length)
  (hbody:∀(A:Around)(outer:List Env)(s:Shared)(H:Hp)(vs:List V)(Q:VK)(E:XK),Room k (A.deeper (envOfC qual scope s.heap.objs.size f cdv))->sp vs H Q E ->
   ∃t,PSs (cxOf CX P w K mg base N qual scope f cdv A outer s H E) body t/\t { nx:=λ _ H'=>Q .non H',rt:=Q } (start N vs) H) :
  FnOk P w K mg base CX (k+1) f (W.fnOf name qual params body scope dV kV doc pm an cdv ct) ps sp:=by
 refine⟨len,λ A outer s H args us vs Q E hr e0 hb r hsp=>?_⟩
 have hl:=len _ _ _ _ hsp
 have KX:K.In s.heap:=e0.mod.kin.keeps λ b o e=>(e0.bs b o e).1
 have lim:s.heap.NoLimit:=e0.mod.nolimit.keeps λ b o e=>(e0.bs b o e).1
 have hkind:∀y∈ps.zip us,scope.names.lookup y.1=some .local\/(scope.names.lookup y.1=some .cell/\((cellsFrom (s.heap.objs.size+1) scope.names []).lookup y.1).isSome=true):=λ⟨n,v⟩ hy=>by
  rcases S.par n (zdo hy).1 with q|q
  ·exact .inl q
  ·exact .inr ⟨q,W.cellsFrom_some _ _ _ (.inl q)⟩
 refine codeAny_call_function hr.depth (KX _ _ lk) rfl S.co S.gen rfl (W.codeRec_of KX hcd) (hb _ _ _ _ ?_)
 refine wpAny_newFunctionEnv_cells S.kind hkind λ env he s1 x=>?_
 subst he
 refine⟨lim.keeps x.toInCall.keep,codeAny_func ?_⟩
 obtain⟨t,ht,hq⟩:=hbody A outer s H vs Q E (hr.deeper _) hsp
 have I:Inv (cxOf CX P w K mg base N qual scope f cdv A outer s H E) [] (start N vs) H s1:=inv_start S hr.hd e0 hl r x
 refine wpAny_mono (ht [] s1 (start N vs) H _ I hq) (λ fl s' hs=>?_) λ e s' hs=>hs
 have fin:∀{σ':St}{H':Hp}{v:V}{u:Value},Inv (cxOf CX P w K mg base N qual scope f cdv A outer s H E) [] σ' H' s'->RelV v u->Q v H'->CE outer P w H s Q u s' :=
  λ {σ' H' v u} J rv q=>⟨v,H',J.os,J.bare,J.base,J.hok,rv,q⟩
 cases fl with
 |ret u =>
  obtain⟨v,σ',H',J,rv,q⟩:=hs
  exact fin J rv q
 |next =>
  obtain⟨σ',H',J,q⟩:=hs
  exact fin (v:=V.non) (u:=Value.none) J rfl q
 |brk =>
  obtain⟨_,_,_,q⟩:=hs
  exact False.elim q
 |cont =>
  obtain⟨_,_,_,q⟩:=hs
  exact False.elim q
section
variable {t:TA}{id T:String}{r:List V->Hp->VK->Prop}
def tCB(r:List V->Hp->VK->Prop)(t:TA):TE:=λ σ H Q=>t σ H λ vs H1=>r vs H1 Q
theorem pe_callB(hc:CallR X (.builtin id) r)(hg:Gl X x)(hm:X.mg x=none)(hv:bootBuiltins x=some (.builtin id))(ha:PA X (e::es) t)(hn:x≠"__name__" := by decide)(hdb:(x==("__debug__":Str))=false:=by decide)
  (he:starEach (e::es) X.env=(false,eval e X.env)::starEach es X.env:=by rfl) (hpl:(backTo pos (starEach es X.env)).any (·.1)=false:=by rfl):PE X (.Call (.Name x p) (e::es) [] pos) (tCB r t):=by
 intro pins s σ H Q I h
 refine wpAny_Call_Name_kw (qmt9 I hg hm hv ?_ hn hdb)
 exact PyProof.Rows.callWith_builtin1 (thn (ha pos pins s σ H _ I h) λ us s1 ⟨vs,H1,I1,r1,q1⟩=>hc pins s1 σ H1 vs us Q I1 r1 q1) he hpl
theorem pe_callTy(hc:CallR X (.type T) r)(hg:Gl X x)(hm:X.mg x=none)(hv:bootBuiltins x=some (.type T))(ha:PA X (e::es) t)(hn:x≠"__name__" := by decide)(hdb:(x==("__debug__":Str))=false:=by decide)
  (he:starEach (e::es) X.env=(false,eval e X.env)::starEach es X.env:=by rfl) (hpl:(backTo pos (starEach es X.env)).any (·.1)=false:=by rfl):PE X (.Call (.Name x p) (e::es) [] pos) (tCB r t):=by
 intro pins s σ H Q I h
 refine wpAny_Call_Name_kw (qmt9 I hg hm hv ?_ hn hdb)
 exact PyProof.Rows.callWith_type1 (thn (ha pos pins s σ H _ I h) λ us s1 ⟨vs,H1,I1,r1,q1⟩=>hc pins s1 σ H1 vs us Q I1 r1 q1) he hpl
end
end L2
namespace HT
open PySem PyProof.Rows
section
open PySem.SeqAt
open PySem.AutoSeq1 (wpAny_loadPart')
open PySem.MeetsSeq PySem.MeetsSeq2 PySem.MeetsSeq3
end
section
variable {prog:Program}{w:World}{A:Around}{E:Value->Shared->Prop}{s:Shared}
theorem cat_tup{t b:Addr}{vs ws:List Value}{Q:Value->Shared->Prop}(ht:IsTup s.heap t vs.toArray)(hb:IsTup s.heap b ws.toArray)(hv:vs≠[])
  (h1:ws=[]->Q (.ref t) s) (h2:ws≠[]->Q (.ref s.heap.objs.size) { s with heap:=s.heap.push { cls:=.type "tuple",data:=.seq (vs++ws).toArray } })
  (hsz:vs.length+ws.length<=sizeLine):wpAny (model prog w) A (binaryOp .Add (.ref t) (.ref b)) Q E s:=by
 obtain⟨⟨cls,dd,data,sl⟩,ho,hc,n,hd⟩:=id ht
 obtain⟨⟨cls2,dd2,data2,sl2⟩,ho2,hc2,n2,hd2⟩:=id hb
 simp only at hc hd hc2 hd2
 subst hc hd hc2 hd2
 have e:vs.toArray++ws.toArray=(vs++ws).toArray:=by simp
 by_cases hw:ws=[]
 ·exact concat_meets ⟨_,ho,rfl⟩ ⟨_,ho2,rfl⟩ noFill_tuple_add seq_tuple_add PySem.F.slot_tuple_add PySem.F.entry_tuple_add (PySem.F.args_tuple_add_2 _ _)
   (tuple_addW1 t b vs.toArray ws.toArray n n2 dd dd2 sl sl2 (by simpa using hv) (by simp[hw])) ⟨ho,ho2,h1 hw⟩
 ·refine concat_meets ⟨_,ho,rfl⟩ ⟨_,ho2,rfl⟩ noFill_tuple_add seq_tuple_add PySem.F.slot_tuple_add PySem.F.entry_tuple_add (PySem.F.args_tuple_add_2 _ _)
   (tuple_addW2 t b vs.toArray ws.toArray n n2 dd dd2 sl sl2 (by simpa using hv) (by simpa using hw) (by rw[zar,zar];exact hsz)) ⟨ho,ho2,?_⟩
  rw[e]
  exact h2 hw
def sIx(n d:Nat):Option Int->Nat
 |none=>d
 |some v=>if v<0 then(v+(n:Int)).toNat else min v.toNat n
end
end HT
namespace L2
open PySem PySem.Spec PyProof.Rows
variable {X:Cx}{H:Hp}{pins:List (Addr×Obj)}{xs:List V}{its:List Value}{n:Nat}{s:Shared}{σ:St}
abbrev TO:=St->Hp->(Option Int->Hp->Prop)->Prop
def PO(X:Cx)(e:Option Expr)(t:TO):Prop :=
 ∀(pins:List (Addr×Obj)) (s:Shared) (σ:St) (H:Hp) (Q:Option Int->Hp->Prop),Inv X pins σ H s->t σ H Q ->
  wpAny (model X.prog X.w) X.A (evalPart e X.env) (λ u s'=>∃o H',Inv X pins σ H' s'/\IsPart u o/\Q o H') X.xe s
def tNoPart:TO:=λ _ H Q=>Q none H
def tPart(t:TE):TO:=λ σ H Q=>t σ H λ x H1=>∃i,x=.int i/\Q (some i) H1
section
variable {e:Expr}{te:TE}{lo hi:Option Expr}{tl th:TO}{pos p2:Pos}
theorem po_none:PO X none tNoPart:=by
 intro pins s σ H Q I h
 rw[evalPart_none]
 exact wpAny_pure ⟨none,H,I,.none,h⟩
theorem po_some(h:PE X e te):PO X (some e) (tPart te):=by
 intro pins s σ H Q I hw
 rw[evalPart_some]
 refine thn (h pins s σ H _ I hw) λ u s1 z9=>?_
 obtain⟨x,H1,I1,r1,q1⟩ := z9
 obtain⟨i,rfl,q⟩:=q1
 obtain⟨t,rfl⟩:=r1
 exact⟨some i,H1,I1,.int i t,q⟩
def SlR(X:Cx)(r:V->Option Int->Option Int->Hp->VK->Prop):Prop :=
 ∀(pins:List (Addr×Obj)) (s:Shared) (σ:St) (H:Hp) (x:V) (v vl vu:Value) (lo hi:Option Int) (sl:Addr) (Q:VK),Inv X pins σ H s->RelV x v->s.heap.IsSliceOf sl vl vu .none->IsPart vl lo->IsPart vu hi->r x lo hi H Q ->
  ∃T id,typeLookup (.type T) "__getitem__"=pure (some (.builtin id))/\s.TypeIs v T/\wpAny (model X.prog X.w) X.A (getItem v (.ref sl)) (EP X pins σ Q) X.xe s
def tSl(r:V->Option Int->Option Int->Hp->VK->Prop)(te:TE)(tl th:TO):TE:=λ σ H Q=>te σ H λ x H1=>tl σ H1 λ l H2=>th σ H2 λ u H3=>r x l u H3 Q
theorem pe_slice{r:V->Option Int->Option Int->Hp->VK->Prop}(hr:SlR X r)(he:PE X e te)(hl:PO X lo tl)(hu:PO X hi th):PE X (.Subscript e (.Slice lo hi none p2) pos) (tSl r te tl th):=by
 intro pins s σ H Q I h
 refine Subscript_ (thn (he pins s σ H _ I h) λ v s1 z9=>?_)
 obtain⟨x,H1,I1,r1,q1⟩ := z9
 refine wpAny_Slice (thn (hl pins s1 σ H1 _ I1 q1) λ vl s2 ⟨l,H2,I2,pl,q2⟩=>thn (hu pins s2 σ H2 _ I2 q2) λ vu s3 z9=>?_)
 obtain⟨u,H3,I3,pu,q3⟩ := z9
 rw[evalPart_none]
 refine wpAny_pure ?_
 have I4:Inv X pins σ H3 { s3 with heap:=s3.heap.push { cls:=.type "slice",data:=.fields #[vl,vu,.none] } }:=I3.kept (t':=s3.toks) λ b ob q=>zad _ q
 obtain⟨T,id,hT,ht,hg⟩:=hr pins { s3 with heap:=s3.heap.push { cls:=.type "slice",data:=.fields #[vl,vu,.none] } } σ H3 x v vl vu l u s3.heap.objs.size Q I4 r1 (Heap.IsSliceOf.new ..) pl pu q3
 show wpAny (model X.prog X.w) X.A (subscriptTail e (.Slice lo hi none p2) v (.ref s3.heap.objs.size)) (EP X pins σ Q) X.xe { s3 with heap:=s3.heap.push { cls:=.type "slice",data:=.fields #[vl,vu,.none] } }
 exact tail_any (ops:=[.ref s3.heap.objs.size,v]) ht hT hg (by with_unfolding_all rfl)
def cutV(xs:List V)(lo hi:Option Int):List V:=(xs.drop (HT.sIx xs.length 0 lo)).take (HT.sIx xs.length xs.length hi-HT.sIx xs.length 0 lo)
theorem qfd9(xs:List V)(lo hi:Option Int):(cutV xs lo hi).length<=xs.length:=by
 unfold cutV
 rw[zbf,zcw]
 omega
inductive rCatT(K:W.Frag)(x:V)(y:V)(H:Hp)(Q:VK):Prop
 |mk (a:_) (b:_) (xs:_) (ys:_):x=.ref a->y=.ref b->SqT K H a xs->SqT K H b ys->xs≠[]->xs.length+ys.length<=sizeLine->((ys=[]->Q (.ref a) H))->((ys≠[]->∀p,H p=none->Q (.ref p) (upd H p (.tup (xs++ys)))))->rCatT K x y H Q
theorem Vals.nil_iff{us:List Value}(r:Vals xs us):us=[]↔xs=[]:=by
 cases r with
 |nil=>simp
 |cons _ _=>simp
theorem op_catT:OpR X (binaryOp .Add) (rCatT X.K):=by
 intro pins s σ H x y v u Q I rx ry h
 obtain⟨a,b,xs,ys,rfl,rfl,ha,hb,hx,hz,q1,q2⟩:=h
 cases rx
 cases ry
 obtain⟨its,r1,p1,_⟩:=I.tuple ha
 obtain⟨its2,r2,p2,_⟩:=I.tuple hb
 refine HT.cat_tup p1 p2 (λ z=>hx (r1.nil_iff.mp z)) (λ z=>⟨.ref a,H,I,rfl,q1 (r2.nil_iff.mp z)⟩) (λ z=>?_) (by rw[<- r1.length,<- r2.length];exact hz)
 refine⟨.ref s.heap.objs.size,_,I.laid (t':=s.toks) (o:=.tup (xs++ys)) (λ b ob q=>zad _ q) (zaj _) ?_,rfl,q2 (λ w=>z (r2.nil_iff.mpr w)) _ (I.hok.fresh (zaj _))⟩
 exact⟨by rw[zal];exact hz,_,r1.append r2,IsTup.new _ _⟩
end
def ixN(n:Nat)(i:Int):Option Nat:=if 0<=i then(if i<n then some i.toNat else none) else if -(n:Int)<=i then some (i+n).toNat else none
def atI{α:Type}(xs:List α)(i:Int):Option α:=(ixN xs.length i).bind λ j=>xs[j]?
theorem qot9{i:Int}{j:Nat}(h:ixN n i=some j):seqIndex? i n=some j/\j<n/\-(n:Int)<=i/\i<n:=by
 unfold ixN at h
 by_cases h0:0<=i
 ·rw[if_pos h0] at h
  by_cases h1:i<n
  ·rw[if_pos h1] at h
   have e:i.toNat=j:=Option.some.inj h
   exact⟨by rw[seqIndex_of h0 h1,e],⋯,⋯,h1⟩
  ·rw[if_neg h1] at h;cases h
 ·rw[if_neg h0] at h
  by_cases h1:-(n:Int)<=i
  ·rw[if_pos h1] at h
   have e:(i+n).toNat=j:=Option.some.inj h
   exact⟨by rw[seqIndex_neg ⋯ h1,e],⋯,h1,⋯⟩
  ·rw[if_neg h1] at h;cases h
theorem atI_get{α:Type}{xs:List α}{i:Int}{v:α}(h:atI xs i=some v):∃j,seqIndex? i xs.length=some j/\xs[j]?=some v/\j<xs.length/\-(xs.length:Int)<=i/\i<xs.length:=by
 unfold atI at h
 cases e:ixN xs.length i with
 |none=>rw[e] at h;cases h
 |some j =>
  rw[e] at h
  obtain⟨h1,h2,h3,h4⟩:=qot9 e
  exact⟨j,h1,h,h2,h3,h4⟩
theorem qgh9{α:Type}{xs:List α}{j:Nat}{v:α}(h:xs[j]?=some v):atI xs (j:Int)=some v:=by
 have hj:j<xs.length:=(zab.mp h).1
 have e:ixN xs.length (j:Int)=some j:=by
  unfold ixN
  rw[if_pos ⋯,if_pos ⋯];simp
 unfold atI;rw[e];exact h
theorem qpm9{α:Type}(xs:List α)(v:α):atI (xs++[v]) (-1)=some v:=by
 have hl:(xs++[v]).length=xs.length+1:=by simp
 have e:ixN (xs++[v]).length (-1)=some xs.length:=by
  unfold ixN
  rw[hl,if_neg (by decide),if_pos ⋯]
  congr 1
  omega
 unfold atI
 rw[e]
 show(xs++[v])[xs.length]?=some v
 simp
def PlainIx(b:Expr):Prop:=∀o i,subscripted b false o i=operate [o,i] (getItem o i)
def IxR(X:Cx)(r:R2):Prop :=
 ∀(value slice:Expr) (pins:List (Addr×Obj)) (s:Shared) (σ:St) (H:Hp) (x y:V) (v u:Value) (Q:VK),Inv X pins σ H s->RelV x v->RelV y u->r x y H Q ->
  subscripted slice false v u=operate [v,u] (getItem v u)->wpAny (model X.prog X.w) X.A (subscriptTail value slice v u) (EP X pins σ Q) X.xe s
def MtR(X:Cx)(id:String)(r:V->List V->Hp->VK->Prop):Prop :=
 ∀(pins:List (Addr×Obj)) (s:Shared) (σ:St) (H:Hp) (x:V) (xs:List V) (v:Value) (us:List Value) (Q:VK),Inv X pins σ H s->RelV x v->Vals xs us->r x xs H Q ->
  wpAny (model X.prog X.w) X.A (call (.builtin id) (v::us)) (EP X pins σ Q) X.xe s
section
variable {X:Cx}{a b:Expr}{ta tb:TE}{pos:Pos}
theorem pe_ix{r:R2}(hr:IxR X r)(ha:PE X a ta)(hb:PE X b tb)(hs:PlainIx b):PE X (.Subscript a b pos) (tOp r ta tb):=by
 intro pins s σ H Q I h
 exact Subscript_ (binT ha hb I h λ v u s2 x y H2 I2 rx ry q=>hr a b pins s2 σ H2 x y v u Q I2 rx ry q (hs _ _))
inductive rIxL(K:W.Frag)(x:V)(y:V)(H:Hp)(Q:VK):Prop
 |mk (p:_) (xs:_) (i:_) (v:_):x=.ref p->y=.int i->SqL K H p xs->atI xs i=some v->Q v H->rIxL K x y H Q
inductive rIxT(K:W.Frag)(x:V)(y:V)(H:Hp)(Q:VK):Prop
 |mk (p:_) (xs:_) (i:_) (v:_):x=.ref p->y=.int i->SqT K H p xs->atI xs i=some v->Q v H->rIxT K x y H Q
theorem ix_list:IxR X (rIxL X.K):=by
 intro value slice pins s σ H x y v u Q I rx ry h hs
 obtain⟨p,xs,i,z,rfl,rfl,hq,he,q⟩:=h
 cases rx
 obtain⟨t,rfl⟩:=ry
 obtain⟨its,r,pl,hz⟩:=I.list hq
 obtain⟨j,h1,h2,h3,h4,h5⟩:=atI_get he
 obtain⟨w,ew,rw'⟩:=r.get h2
 have hl:=r.length
 have hn:=line63
 have fin:EP X pins σ Q w s:=⟨z,H,I,rw',q⟩
 by_cases h0:0<=i
 ·have hj:i.toNat=j:=by
   rw[seqIndex_of h0 h5] at h1
   exact Option.some.inj h1
  exact item_listR pl.isList h0 ⋯ (by rw[hj];simpa using ew) fin hs
 ·have hj:(i+(its.toArray.size:Int)).toNat=j:=by
   rw[seqIndex_neg ⋯ h4] at h1
   rw[zar,<- hl]
   exact Option.some.inj h1
  exact subscriptTail_builtinR (x:=w) pl.isList.typeIs slot_list_getitem.lookup
   (wpAny_getItem_list_neg (Q:=λ r s'=>r=w/\EP X pins σ Q r s') pl.isList ⋯ (by rw[zar]<;>omega) ⋯ (by rw[hj];simpa using ew) ⟨rfl,fin⟩) hs
theorem ix_tup:IxR X (rIxT X.K):=by
 intro value slice pins s σ H x y v u Q I rx ry h hs
 obtain⟨p,xs,i,z,rfl,rfl,hq,he,q⟩:=h
 cases rx
 obtain⟨t,rfl⟩:=ry
 obtain⟨its,r,pl,hz⟩:=I.tuple hq
 obtain⟨j,h1,h2,h3,h4,h5⟩:=atI_get he
 obtain⟨w,ew,rw'⟩:=r.get h2
 have hl:=r.length
 have hn:=line63
 have fin:EP X pins σ Q w s:=⟨z,H,I,rw',q⟩
 exact subscriptTail_builtinR (x:=w) pl.typeIs slot_tuple_getitem.lookup
  (getItem_tuple (j:=j) (Q:=λ r s'=>r=w/\EP X pins σ Q r s') pl ⋯ ⋯ (by rw[zar,<- hl];exact h1) (by simpa using ew) ⟨rfl,fin⟩) hs
theorem qno9(its:List Value)(n j:Nat)(u:Value):Obj.mapSeq (·.setIfInBounds j u) { cls:=.type "list",data:=.seq its.toArray n }={ cls:=.type "list",data:=.seq (its.set j u).toArray n }:=by
 simp[Obj.mapSeq]
theorem Inv.lst{pins:List (Addr×Obj)}{σ:St}{H:Hp}{s:Shared}{p:Addr}{xs:List V}(I:Inv X pins σ H s)(h:H p=some (.lst xs)) :
  ∃(its:List Value)(n:Nat),Vals xs its/\s.heap.get? p=some { cls:=.type "list",data:=.seq its.toArray n }/\xs.length<=sizeLine:=by
 obtain⟨z,its,n,r,e⟩:=I.hok p _ h
 exact⟨its,n,r,e,z⟩
theorem Inv.lstUpd{p:Addr}{ys:List V}{its':List Value}{n':Nat}{f:Obj->Obj}(I:Inv X pins σ H s)(h:H p=some (.lst xs))
  (ho:s.heap.get? p=some { cls:=.type "list",data:=.seq its.toArray n }) (hf:f { cls:=.type "list",data:=.seq its.toArray n }={ cls:=.type "list",data:=.seq its'.toArray n' }) (r:Vals ys its') (hz:ys.length<=sizeLine) (t:Nat) :
  Inv X pins σ (upd H p (.lst ys)) { s with heap:=s.heap.update p f,toks:=t }:=by
 have e:(s.heap.update p f).get? p=some { cls:=.type "list",data:=.seq its'.toArray n' }:=by
  rw[Heap.get?_update_self f ho (by rw[hf]<;>rfl),hf]
 refine I.write (x:=p) (e:=p) (by rw[h];trivial) (.inl rfl) (λ b u hb q=>(zeo _ _ (Ne.symm hb)).trans q) ⟨_,e⟩ ?_
 exact⟨hz,its',n',r,e⟩
def rSetL:V->V->V->Hp->(Hp->Prop)->Prop:=λ o i v H Q=>∃p xs k j,o=.ref p/\i=.int k/\H p=some (.lst xs)/\ixN xs.length k=some j/\Q (upd H p (.lst (xs.set j v)))
theorem qkh9:PSet X rSetL:=by
 intro pins s σ H o i v ov iv u Q I ro ri rv h
 obtain⟨p,xs,k,j,rfl,rfl,hp,hj,q⟩:=h
 cases ro
 obtain⟨t,rfl⟩:=ri
 obtain⟨its,n,r,ho,hz⟩:=I.lst hp
 obtain⟨h1,h2,h3,h4⟩:=qot9 hj
 have hl:=r.length
 have hn:=line63
 have I':Inv X pins σ (upd H p (.lst (xs.set j v))) { s with heap:=s.heap.update p (Obj.mapSeq (·.setIfInBounds j u)) } :=
  I.lstUpd hp ho (qno9 its n j u) (r.set rv j) (by rw[zdp];exact hz) s.toks
 by_cases h0:0<=k
 ·have hk:k.toNat=j:=by
   rw[seqIndex_of h0 h4] at h1
   exact Option.some.inj h1
  exact W.ki_setAt ho h0 ⋯ (by rw[zar,<- hl];exact h4) (by rw[hk];exact⟨_,I',q⟩)
 ·have hk:(k+(its.toArray.size:Int)).toNat=j:=by
   rw[seqIndex_neg ⋯ h3] at h1
   rw[zar,<- hl]
   exact Option.some.inj h1
  exact W.ki_setBack ho ⋯ (by rw[zar,<- hl];exact h3) ⋯ (by rw[hk];exact⟨_,I',q⟩)
theorem qke9(lo hi:Option Int)(n:Nat):(sliceBounds lo hi none n).1=((HT.sIx n 0 lo:Nat):Int)/\(sliceBounds lo hi none n).2.1=((HT.sIx n n hi:Nat):Int)/\(sliceBounds lo hi none n).2.2=1:=by
 refine⟨?_,?_,rfl⟩
 ·cases lo with
  |none=>simp[sliceBounds,HT.sIx]
  |some i =>
   simp only[sliceBounds,HT.sIx,zgl,show(1:Int)>0 by decide,if_true]
   by_cases h:i<0
   ·simp only[h,if_true]<;>omega
   ·simp only[h,if_false]<;>omega
 ·cases hi with
  |none=>simp[sliceBounds,HT.sIx]
  |some i =>
   simp only[sliceBounds,HT.sIx,zgl,show(1:Int)>0 by decide,if_true]
   by_cases h:i<0
   ·simp only[h,if_true]<;>omega
   ·simp only[h,if_false]<;>omega
theorem qji9(its:List Value)(lo hi:Option Int):slicePick its.toArray lo hi none=((its.drop (HT.sIx its.length 0 lo)).take (HT.sIx its.length its.length hi-HT.sIx its.length 0 lo)).toArray:=by
 obtain⟨h1,h2,h3⟩:=qke9 lo hi its.toArray.size
 unfold slicePick
 rw[h1,h2,h3]
 simp only[sliceRange_one,pick_run,zar]<;>rfl
inductive rSlL(K:W.Frag)(x:V)(lo:Option Int)(hi:Option Int)(H:Hp)(Q:VK):Prop
 |mk (a:_) (xs:_):x=.ref a->SqL K H a xs->(∀p,H p=none->Q (.ref p) (upd H p (.lst (cutV xs lo hi))))->rSlL K x lo hi H Q
theorem sl_list:SlR X (rSlL X.K):=by
 intro pins s σ H x v vl vu lo hi sl Q I rx hs pl pu h
 obtain⟨a,xs,rfl,hx,q⟩:=h
 cases rx
 obtain⟨its,r,ht,hz⟩:=I.list hx
 have hlen:=r.length
 refine⟨"list",_,slot_list_getitem.lookup,ht.isList.typeIs,?_⟩
 refine wpAny_getItem_list_slice ht.isList hs pl pu .none (by simp) ?_ (by rw[zar]<;>omega)
 rw[qji9,<- hlen]
 refine⟨.ref s.heap.objs.size,_,I.laid (t':=s.toks) (o:=.lst (cutV xs lo hi)) (λ b ob q=>zad _ q) (zaj _) ?_,rfl,q _ (I.hok.fresh (zaj _))⟩
 exact⟨zbe (qfd9 xs lo hi) hz,_,0,(r.drop (HT.sIx xs.length 0 lo)).take (HT.sIx xs.length xs.length hi-HT.sIx xs.length 0 lo),zbb _ rfl⟩
theorem qko9:CallR X (.builtin "len") (λ xs H Q=>∃p ys,xs=[.ref p]/\(SqL X.K H p ys\/SqT X.K H p ys)/\Q (.int ys.length) H):=by
 intro pins s σ H xs us Q I r h
 obtain⟨p,ys,rfl,hq,q⟩:=h
 obtain⟨u,rfl,rx⟩:=vals1 r
 cases rx
 have hn:=line63
 rcases hq with hq|hq
 ·obtain⟨its,r',pl,hz⟩:=I.list hq
  have hlen:=r'.length
  exact Calls.call_len_list pl.isList (by simp only[zar]<;>omega) ⟨.int ys.length,H,I.tok _,⟨s.toks+1,by rw[zar,hlen]⟩,q⟩
 ·obtain⟨its,r',pl,hz⟩:=I.tuple hq
  have hlen:=r'.length
  exact len_tuple pl (by simp only[zar]<;>omega) ⟨.int ys.length,H,I.tok _,⟨s.toks+1,by rw[zar,hlen]⟩,q⟩
theorem qjs9:CallR X (.type "list") (λ xs H Q=>∃p ys,xs=[.ref p]/\(SqL X.K H p ys\/SqT X.K H p ys)/\∀l,H l=none->Q (.ref l) (upd H l (.lst ys))):=by
 intro pins s σ H xs us Q I r h
 obtain⟨p,ys,rfl,hq,q⟩:=h
 obtain⟨u,rfl,rx⟩:=vals1 r
 cases rx
 have fin:∀(its:List Value),Vals ys its->ys.length<=sizeLine->∀(h':Heap)(c':Nat),(∀b o',s.heap.get? b=some o'->h'.get? b=some o') ->
   h'.get? s.heap.objs.size=some { cls:=.type "list",dict:=none,data:=.seq its.toArray c',slots:=#[] }->EP X pins σ Q (.ref s.heap.objs.size) { s with heap:=h' }:=λ its r' hz h' c' kp e =>
  ⟨.ref s.heap.objs.size,_,I.laid (t':=s.toks) kp (zaj _) (show ObjOk X.prog X.w _ h' _ (.lst ys) from⟨hz,its,c',r',e⟩),rfl,q _ (I.hok.fresh (zaj _))⟩
 rcases hq with hq|hq
 ·obtain⟨its,r',pl,hz⟩:=I.list hq
  have hlen:=r'.length
  obtain⟨o,ho,hc,n,hd⟩:=pl.isList
  exact call_list_seq p (.inl rfl) ho hc hd (λ h' c' kp e=>fin its r' hz h' c' kp e) (by simp only[zar]<;>omega)
 ·obtain⟨its,r',pl,hz⟩:=I.tuple hq
  have hlen:=r'.length
  obtain⟨o,ho,hc,n,hd⟩:=pl
  exact call_list_seq p (.inr rfl) ho hc hd (λ h' c' kp e=>fin its r' hz h' c' kp e) (by simp only[zar]<;>omega)
theorem qjg9:CallR X (.type "tuple") (λ xs H Q=>∃p ys,xs=[.ref p]/\((SqL X.K H p ys/\∀l,H l=none->Q (.ref l) (upd H l (.tup ys)))\/(SqT X.K H p ys/\Q (.ref p) H))):=by
 intro pins s σ H xs us Q I r h
 obtain⟨p,ys,rfl,h⟩:=h
 obtain⟨u,rfl,rx⟩:=vals1 r
 cases rx
 rcases h with⟨hq,q⟩|⟨hq,q⟩
 ·obtain⟨its,r',pl,hz⟩:=I.list hq
  have hlen:=r'.length
  refine call_tuple_list pl.isList (λ h' kp=>?_) (by simp only[zar]<;>omega)
  have I1:Inv X pins σ H { s with heap:=h' }:=I.kept (t':=s.toks) kp
  have I2:Inv X pins σ (upd H h'.objs.size (.tup ys)) { s with heap:=h'.push { cls:=.type "tuple",data:=.seq its.toArray } } :=
   I1.laid (t':=s.toks) (λ b o e=>zad _ e) (zaj _) (show ObjOk X.prog X.w _ _ _ (.tup ys) from⟨hz,its,r',IsTup.new _ _⟩)
  exact⟨.ref h'.objs.size,_,I2,rfl,q _ (I1.hok.fresh (zaj _))⟩
 ·obtain⟨its,r',pl,hz⟩:=I.tuple hq
  exact call_tuple_same pl ⟨.ref p,H,I,rfl,q⟩
def tyV(K:W.Frag)(T:String)(x:V)(H:Hp):Prop:=match x with
 | .str _=>T="str"
 | .int _=>T="int"
 | .ref p=>(T="list" /\ ∃xs,SqL K H p xs)\/(T="tuple" /\ ∃o,K.lookup p=some o/\o.cls=.type "tuple" /\ o.dict=none) \/
   (T="dict" /\ ((∃kvs,H p=some (.dK kvs))\/∃kvs,H p=some (.dT kvs)))\/(T="set" /\ ∃S n,H p=some (.set S n))
 |_=>False
theorem tyV_is{T:String}{x:V}{v:Value}(I:Inv X pins σ H s)(r:RelV x v)(ty:tyV X.K T x H) :
  s.TypeIs v T/\∀a,v=.ref a->∃ob,s.heap.get? a=some ob/\ob.dict=none:=by
 cases x with
 |str z =>
  obtain⟨t,rfl⟩:=r
  cases (show T="str" from ty)
  exact⟨typeIs_str s z t,λ _ e=>nomatch e⟩
 |int i =>
  obtain⟨t,rfl⟩:=r
  cases (show T="int" from ty)
  exact⟨typeIs_int s i t,λ _ e=>nomatch e⟩
 |ref p =>
  cases r
  rcases ty with⟨rfl,xs,hq⟩|⟨rfl,o,hk,hc,hd⟩|⟨rfl,hk⟩|⟨rfl,S,n,hk⟩
  ·obtain⟨its,_,pl,_⟩:=I.list hq
   refine⟨pl.isList.typeIs,λ a e=>?_⟩
   cases e
   obtain⟨o,n,e,c,hd,_⟩:=pl
   exact⟨o,e,hd⟩
  ·refine⟨⟨o,I.kIn p o hk,hc⟩,λ a e=>?_⟩
   cases e
   exact⟨o,I.kIn _ o hk,hd⟩
  ·have z:∃o,s.heap.get? p=some o/\o.ExactDict:=by
    rcases hk with⟨kvs,hk⟩|⟨kvs,hk⟩
    ·obtain⟨_,_,_,_,o,_,_,e,ex,_⟩:=I.hok p _ hk
     exact⟨o,e,ex⟩
    ·obtain⟨_,_,_,_,o,_,_,e,ex,_⟩:=I.hok p _ hk
     exact⟨o,e,ex⟩
   obtain⟨o,e,ex⟩:=z
   refine⟨⟨o,e,ex.1⟩,λ a e2=>?_⟩
   cases e2
   exact⟨o,e,ex.2.1⟩
  ·obtain⟨o,_,_,_,e,ex,_⟩:=I.hok p _ hk
   refine⟨⟨o,e,ex.1⟩,λ a e2=>?_⟩
   cases e2
   exact⟨o,e,ex.2.1⟩
 |_=>exact False.elim ty
def tBM(K:W.Frag)(T:String)(r:V->List V->Hp->VK->Prop)(to:TE)(t:TA):TE:=λ σ H Q=>to σ H λ x H1=>tyV K T x H1/\t σ H1 λ xs H2=>r x xs H2 Q
variable {o e:Expr}{es:List Expr}{to:TE}{t:TA}{name:Str}{apos cpos:Pos}{T id:String}{r:V->List V->Hp->VK->Prop}
theorem pe_bm(pa:PlainAttrs T)(slot:Slot T name id)(hty:typeOf (.builtin id)=pure (.type "method_descriptor"))(hm:MtR X id r)(ho:PE X o to)(ha:PA X (e::es) t)
  (hbase:attributeBase o name X.env (eval o X.env)=eval o X.env:=by rfl)
  (hfew:((backTo cpos (starEach (e::es) X.env)).all (λ x=>!x.1)&&(backToKw cpos (keywordEach [] X.env)).all (λ x=>x.1.isSome)
   && decide ((e::es).length+([]:List Keyword).length+(if([]:List Keyword).isEmpty then 0 else 1)<30))=true:=by rfl)
  (hline:(apos.endLine==cpos.line)=true:=by rfl) (hs:starEach (e::es) X.env=(false,eval e X.env)::starEach es X.env:=by rfl) (hplain:(backTo cpos (starEach es X.env)).any (·.1)=false:=by rfl) :
  PE X (.Call (.Attribute o name apos) (e::es) [] cpos) (tBM X.K T r to t):=by
 intro pins s σ H Q I h
 refine wpAny_Call_method_late hbase hfew hline rfl (thn (ho pins s σ H _ I h) λ v s1 z9=>?_)
 obtain⟨x,H1,I1,r1,ty,q1⟩ := z9
 obtain⟨h1,h2⟩:=tyV_is I1 r1 ty
 refine⟨T,id,pa,slot,hty,h1,h2,?_⟩
 have hA:=ha cpos pins s1 σ H1 _ I1 q1
 rw[hs] at hA ⊢
 refine Calls.callWith_builtin (by show(false||(backTo cpos (starEach es X.env)).any (·.1))=false;rw[hplain]<;>rfl) (Calls.evalArgs_plain ?_)
 exact thn hA λ us s2 ⟨vs,H2,I2,r2,q2⟩=>hm pins s2 σ H2 x vs v us Q I2 r1 r2 q2
end
def MtM(X:Cx)(id:String)(r:V->List V->Hp->VK->Prop):Prop :=
 ∀(pins:List (Addr×Obj)) (s:Shared) (σ:St) (H:Hp) (x:V) (xs:List V) (v:Value) (us:List Value) (Q:VK),Inv X pins σ H s->RelV x v->Vals xs us->r x xs H Q ->
  wpAny (model X.prog X.w) X.A (call (.builtin id) (v::us)) (EP X pins σ Q) X.xe s
theorem Vals.one:∀{x:V}{us:List Value},Vals [x] us->∃u,us=[u]/\RelV x u
 |_,_,.cons r .nil=>⟨_,rfl,r⟩
theorem Vals.two:∀{x y:V}{us:List Value},Vals [x,y] us->∃u v,us=[u,v]/\RelV x u/\RelV y v
 |_,_,_,.cons r (.cons q .nil)=>⟨_,_,rfl,r,q⟩
theorem Vals.eraseIdx:∀{xs:List V}{us:List Value}(i:Nat),Vals xs us->Vals (xs.eraseIdx i) (us.eraseIdx i)
 |_,_,_,.nil=>.nil
 |_,_,0,.cons _ t=>t
 |_,_,i+1,.cons r t=>.cons r (Vals.eraseIdx i t)
theorem Vals.rep{xs:List V}{us:List Value}(h:Vals xs us):∀k:Nat,Vals (zbk k xs).flatten (zbk k us).flatten
 |0=>.nil
 |k+1=>by
  rw[zcr,zcr,zds,zds]
  exact Vals.append h (Vals.rep h k)
theorem qlu9{α:Type}:∀(l:List α)(i:Nat),(l.eraseIdx i).length<=l.length
 | [],_=>zaj _
 |_::_,0=>Nat.le_succ _
 |_::r,i+1=>Nat.succ_le_succ (qlu9 r i)
theorem qlc9(its:List Value):∀(k:Nat)(acc:List Value),
  zgt (λ x1 x2=>x1++x2) acc.toArray (zbk k its.toArray)=(acc++(zbk k its).flatten).toArray
 |0,acc=>by simp
 |k+1,acc=>by
  have e:acc.toArray++its.toArray=(acc++its).toArray:=by simp
  have e2:(acc++its)++(zbk k its).flatten=acc++(zbk (k+1) its).flatten:=by
   rw[zcr,zds,zcd]
  rw[<- e2,<- qlc9 its k (acc++its),<- e,zcr,zgg]
section
variable {l b:Addr}{ys zs:List V}
theorem Inv.lset{its':List Value}{f:Array Value->Array Value}{t':Nat}(I:Inv X pins σ H s)(hH:H l=some (.lst xs))
  (e:s.heap.get? l=some { cls:=.type "list",data:=.seq its.toArray n }) (hf:f its.toArray=its'.toArray) (hv:Vals ys its') (hz:ys.length<=sizeLine) :
  Inv X pins σ (upd H l (.lst ys)) { s with heap:=s.heap.update l (Obj.mapSeq f),toks:=t' }:=by
 have q:=PySem.IsL.update e f
 rw[hf] at q
 refine I.write (x:=l) (e:=l) (by rw[hH];exact trivial) (.inl rfl) (λ b' u hb hu=>(zeo s.heap (Obj.mapSeq f) (Ne.symm hb)).trans hu) ⟨_,q⟩ ?_
 exact⟨hz,its',_,hv,q⟩
theorem Inv.lnew{t':Nat}(I:Inv X pins σ H s)(hv:Vals ys its)(hz:ys.length<=sizeLine) :
  Inv X pins σ (upd H s.heap.objs.size (.lst ys)) { s with heap:=s.heap.push { cls:=.type "list",data:=.seq its.toArray },toks:=t' } :=
 I.laid (λ _ _ q=>zad _ q) (zaj _) ⟨hz,its,0,hv,zbb _ rfl⟩
theorem Inv.fresh(I:Inv X pins σ H s):H s.heap.objs.size=none:=I.hok.fresh (zaj _)
theorem Inv.lstM(I:Inv X pins σ H s)(hH:H l=some (.lst xs)):xs.length<=sizeLine/\∃(its:List Value)(n:Nat),Vals xs its/\xs.length=its.length/\s.heap.get? l=some { cls:=.type "list",data:=.seq its.toArray n }:=by
 obtain⟨z,its,n,r,e⟩:=I.hok l _ hH
 exact⟨z,its,n,r,r.length,e⟩
theorem qnt9(h:n<=sizeLine):Builtin.List.listTooLong n=false:=by
 unfold Builtin.List.listTooLong
 exact decide_eq_false ⋯
end
def rAppend:V->List V->Hp->VK->Prop:=λ x vs H Q=>∃l xs y,x=.ref l/\vs=[y]/\H l=some (.lst xs)/\xs.length<sizeLine/\Q .non (upd H l (.lst (xs++[y])))
theorem qgj9:MtM X "list.append" rAppend:=by
 intro pins s σ H x vs v us Q I rx rv h
 obtain⟨l,xs,y,rfl,rfl,hH,hz,q⟩:=h
 cases rx
 obtain⟨u,rfl,ru⟩:=rv.one
 obtain⟨z,its,n,r,hl,e⟩:=I.lstM hH
 refine call_meets F.slot_list_append ⟨_,e,rfl⟩ F.entry_list_append (F.args_list_append_2 _ _) (PySem.list_append l its.toArray n u (by rw[zar];omega)) ⟨e,?_⟩
 refine⟨.non,_,I.lset (its':=its++[u]) hH e (by simp) (r.append (.cons ru .nil)) ?_,rfl,q⟩
 rw[zal,zbh]
 omega
def rExtend:V->List V->Hp->VK->Prop:=λ x vs H Q=>∃l b xs zs,x=.ref l/\vs=[.ref b]/\H l=some (.lst xs)/\H b=some (.lst zs)/\xs.length+zs.length<=sizeLine/\Q .non (upd H l (.lst (xs++zs)))
theorem mt_extend:MtM X "list.extend" rExtend:=by
 intro pins s σ H x vs v us Q I rx rv h
 obtain⟨l,b,xs,zs,rfl,rfl,hH,hB,hz,q⟩:=h
 cases rx
 obtain⟨u,rfl,ru⟩:=rv.one
 cases ru
 obtain⟨z,its,n,r,hl,e⟩:=I.lstM hH
 obtain⟨z2,its2,n2,r2,hl2,e2⟩:=I.lstM hB
 have hsz:its.toArray.size+its2.toArray.size<=sizeLine:=by rw[zar,zar];omega
 have hlong:¬(!its.toArray.isEmpty&&Builtin.List.listTooLong (its.toArray.size+its2.toArray.size))=true:=by
  rw[qnt9 hsz,zfi]
  exact zbc
 refine call_meets F.slot_list_extend ⟨_,e,rfl⟩ F.entry_list_extend (F.args_list_extend_2 _ _)
  (AutoSeq1.list_extend_list_list_0 l its.toArray n b its2.toArray n2 hlong (by rw[zar];omega) ⋯) ⟨e,e2,?_⟩
 refine⟨.non,_,I.lset (its':=its++its2) hH e (by simp) (r.append r2) ?_,rfl,q⟩
 rw[zal]
 omega
inductive rPopAt(x:V)(vs:List V)(H:Hp)(Q:VK):Prop
 |mk (l:_) (xs:_) (i:_) (k:_) (y:_):x=.ref l->vs=[.int i]->H l=some (.lst xs)->-(2 ^ 63)<=i->i<2 ^ 63->seqIndex? i xs.length=some k->xs[k]?=some y->Q y (upd H l (.lst (xs.eraseIdx k)))->rPopAt x vs H Q
theorem mt_popAt:MtM X "list.pop" rPopAt:=by
 intro pins s σ H x vs v us Q I rx rv h
 obtain⟨l,xs,i,k,y,rfl,rfl,hH,h1,h2,hk,hy,q⟩:=h
 cases rx
 obtain⟨u,rfl,ru⟩:=rv.one
 obtain⟨t,rfl⟩:=ru
 obtain⟨z,its,n,r,hl,e⟩:=I.lstM hH
 obtain⟨w,hw,rw'⟩:=r.get hy
 refine call_meets F.slot_list_pop ⟨_,e,rfl⟩ F.entry_list_pop (F.args_list_pop_2 _ _)
  (MeetsSeq.list_pop_at l its.toArray n i t k w (fitsIndex_both h1 h2) (by rw[zar,<- hl];exact hk) (by rw[<- Array.getElem?_toList];exact hw) (by rw[zar];omega)) ⟨e,?_⟩
 refine⟨y,_,I.lset (its':=its.eraseIdx k) hH e ?_ (r.eraseIdx k) ?_,rw',q⟩
 ·show its.toArray.eraseIdxIfInBounds k=(its.eraseIdx k).toArray
  rw[List.eraseIdxIfInBounds_toArray]
 ·have:=qlu9 xs k
  omega
inductive rCat(x:V)(y:V)(H:Hp)(Q:VK):Prop
 |mk (l:_) (b:_) (xs:_) (zs:_):x=.ref l->y=.ref b->H l=some (.lst xs)->H b=some (.lst zs)->xs.length+zs.length<=sizeLine->(∀p,H p=none->Q (.ref p) (upd H p (.lst (xs++zs))))->rCat x y H Q
theorem op_cat:OpR X (binaryOp .Add) rCat:=by
 intro pins s σ H x y v u Q I rx ry h
 obtain⟨l,b,xs,zs,rfl,rfl,hH,hB,hz,q⟩:=h
 cases rx
 cases ry
 obtain⟨z,its,n,r,hl,e⟩:=I.lstM hH
 obtain⟨z2,its2,n2,r2,hl2,e2⟩:=I.lstM hB
 refine PySem.P.add_list e e2 ?_ (by rw[zar,zar];omega)
 have ea:its.toArray++its2.toArray=(its++its2).toArray:=by simp
 rw[ea]
 exact⟨.ref _,_,I.lnew (t':=s.toks) (r.append r2) (by rw[zal];omega),rfl,q _ I.fresh⟩
inductive rRep(x:V)(y:V)(H:Hp)(Q:VK):Prop
 |mk (l:_) (k:_) (xs:_):x=.ref l->y=.int k->H l=some (.lst xs)->-(2 ^ 63)<=k->k<2 ^ 63->xs.length*k.toNat<=sizeLine->(∀p,H p=none->Q (.ref p) (upd H p (.lst (zbk k.toNat xs).flatten)))->rRep x y H Q
theorem len_rep{α:Type}(xs:List α)(k:Nat):(zbk k xs).flatten.length=k*xs.length:=by
 induction k with
 |zero=>simp
 |succ k ih=>rw[zcr,zds,zal,ih,zes,Nat.add_comm]
theorem op_rep:OpR X (binaryOp .Mult) rRep:=by
 intro pins s σ H x y v u Q I rx ry h
 obtain⟨l,k,xs,rfl,rfl,hH,h1,h2,hz,q⟩:=h
 cases rx
 obtain⟨t,rfl⟩:=ry
 obtain⟨z,its,n,r,hl,e⟩:=I.lstM hH
 have hlen:its.toArray.size*k.toNat<=sizeLine:=by rw[zar,<- hl];exact hz
 have hcap:¬its.toArray.size*k.toNat>(2 ^ 63-1)/8:=by
  have:(sizeLine:Nat)<=(2 ^ 63-1)/8:=by decide
  omega
 have hfit:¬(!Builtin.List.listFitsIndex k)=true:=by
  rw[fitsIndex_both h1 h2]
  exact zbc
 have hlong:¬Builtin.List.listTooLong (its.toArray.size*k.toNat)=true:=by
  rw[qnt9 hlen]
  exact zbc
 have hnew:zgt (λ x1 x2=>x1++x2) #[] (zbk (if its.toArray.isEmpty=true then 0 else k.toNat) its.toArray)=(zbk k.toNat its).flatten.toArray:=by
  have f0:∀m:Nat,zgt (λ x1 x2=>x1++x2) #[] (zbk m its.toArray)=(zbk m its).flatten.toArray:=λ m=>by
   have:=qlc9 its m []
   rw[zbz] at this
   exact this
  rw[f0]
  cases its with
  |nil=>simp
  |cons a r'=>rw[if_neg (by simp)]
 refine wpAny_binaryOp_repeat_ref (T := "list") (U := "int") (by decide) ⟨_,e,rfl⟩ (λ s'=>typeIs_int s' k t) noFill_list_mul F.fills_int_mul F.slot_int_rmul repeat_list F.slot_int_index.lookup
  (call_meets F.slot_int_rmul (typeIs_int s k t) F.entry_int_rmul (F.args_int_rmul_2 _ _) (int___rmul___int_list k t l its.toArray n)
   ⟨e,rfl,⟨_,e,rfl⟩,call_meets F.slot_list_mul ⟨_,e,rfl⟩ F.entry_list_mul (F.args_list_mul_2 _ _) (AutoListH.list___mul___list_int_3 l its.toArray n k t hfit hcap hlong) ⟨e,?_⟩⟩)
 rw[hnew]
 exact⟨.ref _,_,I.lnew (t':=s.toks) (r.rep k.toNat) (by rw[len_rep,zfo];exact hz),rfl,q _ I.fresh⟩
section
variable {prog:Program}{w:World}{A:Around}{E:Value->Shared->Prop}
end
end L2
namespace Att
open PySem PySem.W PySem.Calls PyProof.Rows
theorem qhj9{P:Params}{h:Heap}:∀(ns:List Int)(vs:List Value),WellAll P h vs (ns.map WData.int)->IntsAre vs ns:=by
 intro ns
 induction ns with
 |nil =>
  intro vs w
  rw[zge] at w
  cases w
  exact .nil
 |cons n ns ih =>
  intro vs w
  rw[zci] at w
  cases w with
  |cons a b =>
   cases a
   exact .cons _ _ (ih _ b)
theorem script_of{l:OpenLaw}{n:Nat}(hn:l.most=some n){P:Params}{h:Heap}{args:List WData}{vals:List Value}
  (hpre:l.row.toRowW.claim.pre args=true) (hwl:WellAll P h vals args) :
  ∃a vs ns,vals=[Value.ref a]/\args=[WData.list (ns.map WData.int)]/\h.get? a=some { cls:=.type "list",data:=.seq vs.toArray }/\IntsAre vs ns/\ns.length<=n:=by
 have hsh:WShape.hasAll [] args [.list .int]=true:=(pre_splitW hpre).1
 have hc:l.pre.holds [] { args:=args }=true:=(pre_splitW hpre).2
 obtain⟨d,r,rfl,h1,h2⟩:=hasAllW_cons hsh
 obtain rfl:=hasAllW_nil h2
 obtain⟨xs,rfl,h3⟩:=hasW_list h1
 obtain⟨ns,rfl⟩:=items_int h3
 have hlen:ns.length<=n:=by
  unfold OpenLaw.pre at hc
  have h4:(WTm.not (.lt (.lit (.int (n:Int))) (.len (.arg 0)))).holds [] { args:=[.list (ns.map .int)] }=true:=by
   have h4:=(holds_andW hc).1
   rw[hn] at h4
   exact h4
  have h5:=condW_of h4 (w_not (w_lt w_lit (w_len_list (w_arg rfl))))
  rw[zah] at h5
  refine Nat.le_of_not_lt λ q=>?_
  have q':(n:Int)<((ns.length:Nat):Int):=⋯
  first
   | (rw[decide_eq_true q'] at h5;exact absurd h5 (by decide))
   | (simp at h5;omega)
 cases hwl with
 |cons w1 w2 =>
  cases w2
  cases w1 with
  |list ho hall=>exact⟨_,_,ns,rfl,rfl,ho,qhj9 ns _ hall,hlen⟩
theorem post_true(l:OpenLaw)(args:List WData):l.row.toRowW.claim.post args (.bool true) args=true :=
 postW_of (r:=l.row.toRowW) (X:=(true==true))
  (show WShape.has [] (.bool true) .bool=true by first|rfl|decide|simp[WShape.has,WShape.arms,WShape.armsAll])
  (show(WTm.eq .res (.lit (.bool true))).value [] { args:=args,res:=some (.bool true),after:=args }=some (.bool (true==true)) from w_eq_bool (w_res rfl) w_lit) rfl
theorem attach_call{l:OpenLaw}{n:Nat}{q:Program}{loose:List Str}{XP:(Str->Option Value)->Heap->Prop}{YP:World->Heap->Prop}{d:DefRec}
  (hn:l.most=some n) (hdf:d.params.defaults=[])
  (call:∀(w:World)(s₀ s₁:Shared)(mg mb:Str->Option Value)(fa:Addr)(o:Obj)(pm cd doc:Value)(a:Addr)(vs:List Value)(ns:List Int),
   Ground q loose [] XP w s₀ mg mb s₁.heap->YP w s₁.heap ->
   s₁.heap.get? fa=some o->o.data=.func (docDef d.name d.params d.body d.scope pm cd doc)->s₁.heap.CodeRec cd d.name->mg d.name=some (.ref fa) ->
   s₁.heap.get? a=some { cls:=.type "list",data:=.seq vs.toArray }->IntsAre vs ns->ns.length<=n->s₁.gens=#[] ->
   codeAny (model l.prog w) callerA (.call (.ref fa) ⟨[.ref a],[]⟩) (λ r s'=>r=.ok (.ret (.bool true))/\OldK s₁.heap s'.heap/\s'.os=s₁.os/\AllBare s'.gens) s₁) :
  WalkO q loose XP YP l.row.toRowW d [] (λ f vs=>PySem.call f vs):=by
 intro w s₀ s₁ mg mb G Y fa o pm cd doc dV kV ho hd hcd hD hmg hg args vals as hpre hlay hrd hwl hlo
 obtain rfl:dV=.none:=Dflts.none hD hdf
 obtain rfl:kV=.none:=Dflts.noKw hD
 obtain⟨a,vs,ns,rfl,rfl,hobj,hints,hlen⟩:=script_of hn hpre hwl
 refine enter_call (codeAny_mono (call w s₀ s₁ mg mb fa o pm cd doc a vs ns G Y ho (fd_plain hd) hcd hmg hobj hints hlen hg) λ r s' hq=>?_)
 obtain⟨rfl,h2,h3,h4⟩:=hq
 exact⟨.inl ⟨.bool true,.bool true,[],rfl,λ _=>rfl,.bool true,post_true l _,λ _=>⟨List.Pairwise.nil,λ _ hm=>(nomatch hm)⟩⟩,h2,h3,h4⟩
section
variable {prog:Program}{w:World}{A:Around}{E:Value->Shared->Prop}{s:Shared}{K:Frag}
end
end Att
namespace L2
open PySem PySem.Spec PyProof.Rows
variable {f:Addr}{H:Hp}{A B:Prop}{st:Stmt}{qual x:Str}
theorem qkv9:∀{vs:List Value}{ns:List Int},IntsAre vs ns->Vals (ns.map V.int) vs
 |_,_,.nil=>.nil
 |_,_,.cons n t h=>.cons ⟨t,rfl⟩ (qkv9 h)
abbrev CX0:CXT:=λ _ _ _ _ _ _=>False
abbrev E0:XK:=λ _ _ _=>False
theorem pass0{X:Cx}:qmc9 CX0 X E0:=λ _ _ _ _ _ _ _ h=>h.elim
structure Fun(K:W.Frag)(x qual:Str)(st:Stmt)(f:Addr)(fd:FuncData):Prop where
 ex:∃(oc:Value)(od:Option Addr)(kV doc pm:Value)(an:Option Addr)(cdv ct:Value) (osl:Array (Option Value)),
  fd=W.fnOf x qual (qah9 st) (qag9 st) (qad9 st) .none kV doc pm an cdv ct/\K.lookup f=some ⟨oc,od,.func fd,osl⟩/\W.codeIn K cdv qual=true
 kp:W.keepIn K (.ref f)=true
section
variable {P:Program}{w:World}{K:W.Frag}{mg:Str->Option Value}{base:Heap}
theorem Fun.ok{fd:FuncData}{N ps:List Str}{k:Nat}{sp:Sp}(F:Fun K x qual st f fd)(S:FnScope N ps (qad9 st))(len:∀vs H Q E,sp vs H Q E->vs.length=ps.length)
  (hbody:∀(cdv:Value)(A:Around)(outer:List Env)(s:Shared)(H:Hp)(vs:List V)(Q:VK)(E:XK),Room k (A.deeper (envOfC qual (qad9 st) s.heap.objs.size f cdv))->sp vs H Q E ->
   ∃t,PSs (cxOf CX0 P w K mg base N qual (qad9 st) f cdv A outer s H E).nox (qag9 st) t/\t { nx:=λ _ H'=>Q .non H',rt:=Q } (start N vs) H):FnOk P w K mg base CX0 (k+1) f fd ps sp:=by
 obtain⟨oc,od,kV,doc,pm,an,cdv,ct,osl,rfl,lk,hcd⟩:=F.ex
 refine fn_of lk hcd S len λ A outer s H vs Q E hr hsp=>?_
 obtain⟨t,h,q⟩:=hbody cdv A outer s H vs Q E hr hsp
 exact⟨t,h.nox,q⟩
theorem Fun.binds{fd:FuncData}{ps:List Str}(F:Fun K x qual st f fd)
  (h:∀(kV doc pm:Value)(an:Option Addr)(cdv ct:Value)(us:List Value),us.length=ps.length->bindArgs (W.fnOf x qual (qah9 st) (qag9 st) (qad9 st) .none kV doc pm an cdv ct) ⟨us,[]⟩=pure (ps.zip us)):Binds K fd ps []:=by
 obtain⟨oc,od,kV,doc,pm,an,cdv,ct,osl,rfl,lk,hcd⟩:=F.ex
 exact .all (h kV doc pm an cdv ct)
theorem qdz9{oc:Value}{od an:Option Addr}{osl:Array (Option Value)}{kV doc pm cdv ct:Value}(l:K.lookup f=some ⟨oc,od,.func (W.fnOf x qual (qah9 st) (qag9 st) (qad9 st) .none kV doc pm an cdv ct),osl⟩)
  (c:W.codeIn K cdv qual=true) (k:W.keepIn K (.ref f)=true):Fun K x qual st f (W.fnOf x qual (qah9 st) (qag9 st) (qad9 st) .none kV doc pm an cdv ct):=⟨⟨oc,od,kV,doc,pm,an,cdv,ct,osl,rfl,l,c⟩,k⟩
end
theorem hu_of{A:Around}{k:Nat}(hr:Room k A):A.units+1<cLine:=zfc (zco (by decide:1<=64) _) hr.units
theorem qgl9{n:Nat}(h:n<=1000):n<sizeLine:=zfc h (by decide)
section
variable {X:Cx}
theorem pv(i:Nat){pos:Pos}(hN:X.N[i]?=some x:=by rfl)(hv:Vis X.env.scope x:=by first|exact zai rfl|exact zct (zai rfl)|exact zct (zct rfl))(hd:(x==("__debug__":Str))=false:=by decide)
  (hcd:(x==("__classdict__":Str))=false:=by decide):PE X (.Name x pos) (tVar i):=pe_var hN hv hd hcd
end
theorem iteF(h:B):if false=true then A else B:=by
 rw[if_neg zbc]
 exact h
theorem iteT(h:A):if true=true then A else B:=by
 rw[if_pos rfl]
 exact h
theorem ite2{c:Prop} [Decidable c](h1:c->A)(h2:¬c->B):if c then A else B:=by
 by_cases h:c
 ·rw[if_pos h]
  exact h1 h
 ·rw[if_neg h]
  exact h2 h
def Same(H H':Hp):Prop:=∀b o,H b=some o->H' b=some o
theorem Same.refl(H:Hp):Same H H:=λ _ _ h=>h
theorem Same.trans{H1 H2:Hp}(a:Same H H1)(b:Same H1 H2):Same H H2:=λ c o h=>b c o (a c o h)
theorem Same.free{H':Hp}(e:Same H H'){l:Addr}(h:H' l=zgz):H l=zgz:=by
 cases q:H l with
 |none=>rfl
 |some o =>
  rw[e l o q] at h
  cases h
theorem Same.seq{K:W.Frag}{H':Hp}{a:Addr}{xs:List V}(e:Same H H')(h:SqL K H a xs):SqL K H' a xs:=by
 rcases h with(h|⟨o,h⟩)|h
 ·exact .inl (.inl (e _ _ h))
 ·exact .inl (.inr ⟨o,e _ _ h⟩)
 ·exact .inr h
end L2
set_option maxHeartbeats 4000000
namespace Ma
variable {d t x y y':Int}
theorem split(d x:Int)(hd:0<d):∃q,x=d*q+x%d/\0<=x%d/\x%d<d :=
 ⟨x/d,by have:=Int.mul_ediv_add_emod x d;omega,zcg x ⋯,zbw x hd⟩
theorem qbf9{k m:Int}(hd:0<d)(h:k<m):d*k+d<=d*m:=by
 have:=zbx (show k+1<=m by omega) (zeb hd)
 rw[zfd,zdr] at this
 exact this
def nextO(d a b t:Int):Int:=if b<t%d then t-t%d+d+a else t-t%d+(if a>t%d then a else t%d)
section
variable {a b:Int}
theorem qcj9(hd:0<d)(h0:0<=a)(h1:a<=b)(h2:b<d) :
  ∃k,d*k+a<=nextO d a b t/\nextO d a b t<=d*k+b/\t<=nextO d a b t/\nextO d a b t<t+d /\
   ∀k' x,d*k'+a<=x->x<=d*k'+b->t<=x->nextO d a b t<=x:=by
 obtain⟨q,hq,r0,r1⟩:=split d t hd
 unfold nextO
 generalize t%d=r at *
 split
 ·refine⟨q+1,?_⟩
  have e:d*(q+1)=d*q+d:=by rw[zfd,zdr]
  refine⟨⋯,⋯,⋯,⋯,λ k' x x1 x2 x3=>?_⟩
  rcases zdh q k' with hk|hk
  ·have:=qbf9 hd hk
   omega
  ·have:=zbx hk (zeb hd)
   omega
 ·refine⟨q,?_⟩
  refine⟨by split<;>omega,by split<;>omega,by split<;>omega,by split<;>omega,λ k' x x1 x2 x3=>?_⟩
  rcases(by omega:q<k'\/q=k'\/k'<q) with hk|hk|hk
  ·have:=qbf9 hd hk
   split<;>omega
  ·subst hk
   split<;>omega
  ·have:=qbf9 hd hk
   omega
end
structure Clk(d:Int)(n:Nat)(A B C:Nat->Int):Prop where
 d0:0<d
 a0:∀i,i<n->0<=A i
 ab:∀i,i<n->A i<=B i
 bd:∀i,i<n->B i<d
 c0:∀i,i<n->0<=C i
 lt:∀i j,i<j->j<n->B i<A j
 yl:∀i j,i<j->j<n->B i+C i<A j+C j
 wr:∀i j,i<n->j<n->B i+C i<d+(A j+C j)
def Dep(d:Int)(n:Nat)(A B C:Nat->Int)(x y:Int):Prop:=∃i k,i<n/\d*k+A i<=x/\x<=d*k+B i/\y=x+C i
section
variable {n:Nat}{A B C:Nat->Int}
theorem qpk9(K:Clk d n A B C){x':Int}(h:Dep d n A B C x y)(h':Dep d n A B C x' y')(l:x<x'):y<y':=by
 obtain⟨i,k,hi,x1,x2,rfl⟩:=h
 obtain⟨j,m,hj,z1,z2,rfl⟩:=h'
 have d0:=K.d0
 have wr:=K.wr i j hi hj
 have a1:=K.a0 i hi
 have a2:=K.a0 j hj
 have b1:=K.bd i hi
 have b2:=K.bd j hj
 rcases(by omega:k<m\/k=m\/m<k) with hk|hk|hk
 ·have:=qbf9 d0 hk
  omega
 ·subst hk
  rcases(by omega:i<j\/i=j\/j<i) with e|e|e
  ·have:=K.yl i j e hj
   omega
  ·subst e
   omega
  ·have:=K.lt j i e hi
   omega
 ·have:=qbf9 d0 hk
  omega
theorem qpa9(K:Clk d n A B C)(h:Dep d n A B C x y)(h':Dep d n A B C x y'):y=y':=by
 obtain⟨i,k,hi,x1,x2,rfl⟩:=h
 obtain⟨j,m,hj,z1,z2,rfl⟩:=h'
 have d0:=K.d0
 have a1:=K.a0 i hi
 have a2:=K.a0 j hj
 have b1:=K.bd i hi
 have b2:=K.bd j hj
 rcases(by omega:k<m\/k=m\/m<k) with hk|hk|hk
 ·have:=qbf9 d0 hk
  omega
 ·subst hk
  rcases(by omega:i<j\/i=j\/j<i) with e|e|e
  ·have:=K.lt i j e hj
   omega
  ·rw[e]
  ·have:=K.lt j i e hi
   omega
 ·have:=qbf9 d0 hk
  omega
structure First(d:Int)(n:Nat)(A B C:Nat->Int)(t x y:Int):Prop where
 dep:Dep d n A B C x y
 le:t<=x
 least:∀x' y',Dep d n A B C x' y'->t<=x'->x<=x'
theorem first_of(K:Clk d n A B C)(hn:0<n){m:Nat}(hm:m<=n)(h1:∀i,i<m->¬t%d<=B i)(h2:m<n->t%d<=B m){i:Nat}(hi:i=m%n) :
  First d n A B C t (nextO d (A i) (B i) t) (nextO d (A i) (B i) t+C i):=by
 have hin:i<n:=by rw[hi];exact Nat.mod_lt _ hn
 obtain⟨k,k1,k2,k3,k4,k5⟩:=qcj9 (t:=t) K.d0 (K.a0 i hin) (K.ab i hin) (K.bd i hin)
 refine⟨⟨i,k,hin,k1,k2,rfl⟩,k3,?_⟩
 intro x' y' z9 hx;obtain⟨j,k',hj,x1,x2,rfl⟩ := z9
 obtain⟨q,hq,r0,r1⟩:=split d t K.d0
 have d0:=K.d0
 have aj:=K.a0 j hj
 have bj:=K.bd j hj
 have abj:=K.ab j hj
 have ai:=K.a0 i hin
 have bi:=K.bd i hin
 have abi:=K.ab i hin
 by_cases hmn:m<n
 ·have ei:i=m:=by rw[hi,Nat.mod_eq_of_lt hmn]
  subst ei
  have hb:=h2 hmn
  have en:nextO d (A i) (B i) t=t-t%d+(if A i>t%d then A i else t%d):=by
   unfold nextO
   rw[if_neg ⋯]
  rw[en]
  rcases(by omega:j=i\/j<i\/i<j) with e|e|e
  ·subst e
   have:=k5 k' x' x1 x2 hx
   rw[en] at this
   exact this
  ·have hjb:=h1 j e
   rcases(by omega:k'<=q\/q<k') with hk|hk
   ·have:=zbx hk (zeb d0)
    omega
   ·have:=qbf9 d0 hk
    split<;>omega
  ·have:=K.lt i j e hj
   rcases(by omega:k'<q\/k'=q\/q<k') with hk|hk|hk
   ·have:=qbf9 d0 hk
    omega
   ·subst hk
    split<;>omega
   ·have:=qbf9 d0 hk
    split<;>omega
 ·have em:m=n:=⋯
  have ei:i=0:=by rw[hi,em,Nat.mod_self]
  subst ei
  have hb:=h1 0 ⋯
  have en:nextO d (A 0) (B 0) t=t-t%d+d+A 0:=by
   unfold nextO
   rw[if_pos ⋯]
  rw[en]
  have hjb:=h1 j ⋯
  have a0j:A 0<=A j:=by
   rcases zch j with e|e
   ·rw[e]
    exact zax _
   ·have:=K.lt 0 j e hj
    omega
  rcases(by omega:k'<=q\/q<k') with hk|hk
  ·have:=zbx hk (zeb d0)
   omega
  ·have:=qbf9 d0 hk
   omega
theorem First.uniq(K:Clk d n A B C){x':Int}(h:First d n A B C t x y)(h':First d n A B C t x' y'):x=x'/\y=y':=by
 have a:=h.least _ _ h'.dep h'.le
 have b:=h'.least _ _ h.dep h.le
 have e:x=x':=⋯
 subst e
 exact⟨rfl,qpa9 K h.dep h'.dep⟩
end
end Ma
namespace Ma
abbrev T3:=Int×Int×Int
structure Rw(R:List T3)(at_ ride:Int):Prop where
 at0:0<=at_
 r0:0<=ride
 atb:at_<=3000000000000*(R.length:Int)
 rb:ride<=2000000000000*(R.length:Int)
 row:∀(i:Nat)(a b c:Int),R[i]?=some (a,b,c)->0<=a/\a<=b/\b<at_/\0<=c/\c<=2000000000000*(R.length:Int)
 adj:∀(i:Nat)(a b c a' b' c':Int),R[i]?=some (a,b,c)->R[i+1]?=some (a',b',c')->b<a'/\b+c<a'+c'
 last:∀(a b c:Int),R[R.length-1]?=some (a,b,c)->b=at_-1/\c=ride
 tch:∀(i:Nat)(a b c a' b' c':Int),R[i]?=some (a,b,c)->R[i+1]?=some (a',b',c')->b+1=a'->c≠c'
def rA(R:List T3)(i:Nat):Int:=(R.getD i (0,0,0)).1
def rB(R:List T3)(i:Nat):Int:=(R.getD i (0,0,0)).2.1
def rC(R:List T3)(i:Nat):Int:=(R.getD i (0,0,0)).2.2
theorem r_at{R:List T3}{i:Nat}(h:i<R.length):R[i]?=some (rA R i,rB R i,rC R i):=by
 unfold rA rB rC
 rw[zas,zaa h]
 rfl
theorem r_of{R:List T3}{i:Nat}{a b c:Int}(h:R[i]?=some (a,b,c)):rA R i=a/\rB R i=b/\rC R i=c:=by
 unfold rA rB rC
 rw[zas,h]
 exact⟨rfl,rfl,rfl⟩
section
variable {d:Int}{n:Nat}{A B C:Nat->Int}
theorem first_min(K:Clk d n A B C){t:Int}{j:Nat}(hj:j<n)(hm:∀i,i<n->nextO d (A j) (B j) t<=nextO d (A i) (B i) t):First d n A B C t (nextO d (A j) (B j) t) (nextO d (A j) (B j) t+C j):=by
 obtain⟨k,k1,k2,k3,k4,k5⟩:=qcj9 (t:=t) K.d0 (K.a0 j hj) (K.ab j hj) (K.bd j hj)
 refine⟨⟨j,k,hj,k1,k2,rfl⟩,k3,?_⟩
 intro x' y' z9 hx;obtain⟨i,k',hi,x1,x2,rfl⟩ := z9
 obtain⟨k',a1,a2,a3,a4,a5⟩:=qcj9 (t:=t) K.d0 (K.a0 i hi) (K.ab i hi) (K.bd i hi)
 have:=a5 _ x' x1 x2 hx
 have:=hm i hi
 omega
end
end Ma
namespace L2
open PySem PySem.Spec PyProof.Rows
variable {a b f:Addr}{op op':CmpOp}{X:Cx}{c e iter tg:Expr}{fd:FuncData}{base h':Heap}{H:Hp}{pins:List (Addr×Obj)}{caps:List (Option Nat)}{es:List Expr}{N ps:List Str}{i j n:Nat}{o:Obj}{p pos pos':Pos}{P:Program}{r r':R2}{scope:Scope}{s:Shared}{sp:Sp}{σ:St}{st:Stmt}{x:Str}{mg:Str->Option Value}{t:TA}{te:TE}{g:TG}{wi:TI}{tt:TT}{Q:VK}{K:W.Frag}{w:World}
theorem qmn9:bootBuiltins "max"=some (.builtin "max"):=by decide +kernel
theorem bt_min:bootBuiltins "min"=some (.builtin "min"):=by decide +kernel
theorem qcc9:bootBuiltins "len"=some (.builtin "len"):=by decide +kernel
theorem qmd9:bootBuiltins "all"=some (.builtin "all"):=by decide +kernel
theorem qak9:bootBuiltins "isinstance"=some (.builtin "isinstance"):=by decide +kernel
theorem bt_int:bootBuiltins "int"=some (.type "int"):=by decide +kernel
theorem bt_bool:bootBuiltins "bool"=some (.type "bool"):=by decide +kernel
theorem qft9:bootBuiltins "tuple"=some (.type "tuple"):=by decide +kernel
theorem qfy9:bootBuiltins "list"=some (.type "list"):=by decide +kernel
def qbt9:Expr->Bool
 | .Starred ..=>false
 |_=>true
theorem se_of{env:Env}(h:qbt9 e=true):starEach (e::es) env=(false,eval e env)::starEach es env:=by
 cases e<;>first|rfl|cases h
theorem qoz9{pos:Pos}{env:Env}:∀{es:List Expr},es.all qbt9=true->(backTo pos (starEach es env)).any (·.1)=false
 | [],_=>rfl
 |e::es,h=>by
  rw[List.all_cons,zbm] at h
  rw[se_of h.1]
  show(false||(backTo pos (starEach es env)).any (·.1))=false
  rw[qoz9 h.2]
  rfl
theorem pa_c(ha:PE X e te)(hr:PA X es t)(h:qbt9 e=true:=by rfl):PA X (e::es) (tCons te t):=pa_cons ha hr (se_of h)
section
variable {id T:String}{r:List V->Hp->VK->Prop}
theorem pe_cb(hc:CallR X (.builtin id) r)(hg:Gl X x)(hm:X.mg x=none)(hv:bootBuiltins x=some (.builtin id))(ha:PA X (e::es) t)(hn:x≠"__name__" := by decide)(hdb:(x==("__debug__":Str))=false:=by decide)
  (he:qbt9 e=true:=by rfl) (hpl:es.all qbt9=true:=by rfl):PE X (.Call (.Name x p) (e::es) [] pos) (tCB r t):=pe_callB hc hg hm hv ha hn hdb (se_of he) (qoz9 hpl)
theorem pe_ct(hc:CallR X (.type T) r)(hg:Gl X x)(hm:X.mg x=none)(hv:bootBuiltins x=some (.type T))(ha:PA X (e::es) t)(hn:x≠"__name__" := by decide)(hdb:(x==("__debug__":Str))=false:=by decide)
  (he:qbt9 e=true:=by rfl) (hpl:es.all qbt9=true:=by rfl):PE X (.Call (.Name x p) (e::es) [] pos) (tCB r t):=pe_callTy hc hg hm hv ha hn hdb (se_of he) (qoz9 hpl)
end
structure Callee(P:Program)(w:World)(K:W.Frag)(mg:Str->Option Value)(base:Heap)(k:Nat)(x:Str)(ps:List Str)(sp:Sp):Prop where
 ex:∃(f:Addr)(fd:FuncData),FnOk P w K mg base CX0 k f fd ps sp/\Binds K fd ps []/\W.keepIn K (.ref f)=true/\mg x=some (.ref f)
theorem Callee.up{k:Nat}(C:Callee P w K mg base j x ps sp)(h:j<=k):Callee P w K mg base k x ps sp:=by
 obtain⟨f,fd,G,b,kp,m⟩:=C.ex
 exact⟨f,fd,G.mono h,b,kp,m⟩
theorem Callee.mk'{k:Nat}(G:FnOk P w K mg base CX0 k f fd ps sp)(b:Binds K fd ps [])(kp:W.keepIn K (.ref f)=true)(m:mg x=some (.ref f)):Callee P w K mg base k x ps sp:=⟨f,fd,G,b,kp,m⟩
section
variable {k:Nat}
theorem pe_fn(C:Callee X.prog X.w X.K X.mg X.base k x ps sp)(hr:Room k X.A)(hg:Gl X x)(ha:PA X (e::es) t)(hdb:(x==("__debug__":Str))=false:=by decide)
  (he:qbt9 e=true:=by rfl) (hpl:es.all qbt9=true:=by rfl) :
  PE X (.Call (.Name x p) (e::es) [] pos) (tCall sp [] E0 t):=by
 obtain⟨f,fd,G,b,kp,m⟩:=C.ex
 exact pe_call G hr hg m kp b .nil pass0 ha hdb (se_of he) (qoz9 hpl)
end
def CDivB(_ j:Int):Prop:=0<j/\j<1606938044258990275541962092341162602522202993782792835301376
theorem op_fdivB:OpR X (binaryOp .FloorDiv) (rI CDivB λ i j=>.int (i/j)):=opI λ i j _ _ _ _ _ hc q=>by
 have h1:(0:Int)<j:=hc.1
 have h2:=hc.2
 refine floordiv_int ⋯ (by rw[Int.fdiv_eq_ediv_of_nonneg i ⋯];exact q) (.inl (PyProof.noPylong_of_log2 ?_))
 have h0:j.natAbs≠0:=⋯
 have h3:j.natAbs<2 ^ 200:=by
  have e:(2:Nat) ^ 200=1606938044258990275541962092341162602522202993782792835301376:=by decide +kernel
  rw[e]
  omega
 have:=(Nat.log2_lt h0).mpr h3
 omega
theorem call_isi:CallR X (.builtin "isinstance") (λ xs H Q=>∃x T t b,xs=[x,.ty T]/\TyOf X.K H x t/\W.kitOne X.K t (.type T)=some b/\Q (.bl b) H):=by
 intro pins s σ H xs us Q I r h
 obtain⟨x,T,t,b,rfl,ty,hk,q⟩:=h
 obtain⟨u,v,rfl,r1,r2⟩:=Vals.two r
 cases (show v=Value.type T from r2)
 exact isinst_ok I r1 ty hk λ tk=>⟨.bl b,H,I.tok tk,rfl,q⟩
def blk(X:Cx)(N':List Str)(scope:Scope)(cl:List (Str×Addr))(C:Addr)(s0:Shared)(H0:Hp)(fp:List Addr):Cx :=
 { X with N:=N',s₀:=s0,H₀:=H0,env:=compEnvC scope cl C X.env,outer:=X.stack,ex:=fp,fn:=λ _=>false,pn:=[],xe:=λ _ _=>False }
def seen(caps:List (Option Nat))(σ:St):St:=caps.map λ o=>o.bind λ j=>(σ[j]?).join
structure BlkOk(X:Cx)(N':List Str)(scope:Scope)(cl:List (Str×Addr))(caps:List (Option Nat)):Prop where
 clos:closureFor scope X.env=pure cl
 nocell:∀y∈scope.names,y.2 ≠ .cell
 kind:scope.kind=.function
 names:∀y∈scope.names,y.2=.local->scope.names.lookup y.1=some .local
 sub:∀x c,cl.lookup x=some c->X.env.cells.lookup x=some c
 has:∀x,((relabel scope X.env).names.lookup x=some .cell\/(relabel scope X.env).names.lookup x=some .free)->∃c,cl.lookup x=some c
 len:caps.length=N'.length
 cap:∀(i j:Nat)(x:Str),caps[i]?=some (some j)->N'[i]?=some x->X.N[j]?=some x/\(X.env.kindOf x=some .cell\/X.env.kindOf x=some .free)/\((relabel scope X.env).names.lookup x=some .cell\/(relabel scope X.env).names.lookup x=some .free)
theorem qfp9{h:Heap}(x:Heap.SameBut a h h')(n:b≠a)(e:h.get? b=some o):h'.get? b=some o:=x.extBut b o n e
section
variable {N':List Str}{cl:List (Str×Addr)}{fp:List Addr}
theorem qoc9(B:BlkOk X N' scope cl caps)(I:Inv X pins σ H s)(hf:∀b∈fp,FpOk X pins H b){h1:Heap}{m:Str->Option Value}(hn:h1.Ns s.heap.objs.size m)(hk:∀b o,s.heap.get? b=some o->h1.get? b=some o){tk:Nat}
  (hfp:∀b∈fp,b<s.heap.objs.size):Inv (blk X N' scope cl s.heap.objs.size s H fp) [] (seen caps σ) H { s with heap:=h1,toks:=tk }:=by
 have bsz:X.base.objs.size<=s.heap.objs.size:=zbe I.ok.bsz I.sz
 refine⟨⟨I.ok.mod,B.kind,I.ok.glob,I.ok.blt,zaj _,λ x y c e1 e2=>I.ok.inj x y c (B.sub x c e1) (B.sub y c e2),B.has,λ _ _ z=>(nomatch z),I.ok.hd,I.ok.frames,.inl rfl,λ b hb=>⟨zaz (hfp b hb),λ x c e=>(hf b hb).2.2.2.2.1 x c (B.sub x c e)⟩,
   I.bs,bsz,λ b o e hb=>?_,λ b hb z=>?_,I.stack,I.stkFree⟩,rfl,I.bare,Un.kept hk,⟨m,hn,λ i x v e1 e2 _=>?_⟩,λ x c e=>?_,I.hok.fresh (zaj _),λ x c e=>I.freeC x c (B.sub x c e),λ p hp=>absurd (show p∈([]:List (Addr×Obj)) from hp) (by simp),I.hok.kept hk,?_⟩
 ·obtain⟨_,_,_,z,_⟩:=hf b hb
  rcases z with z|z
  ·exact I.ok.noex b o e z
  ·exact absurd (zat (zaq e) (zbe I.ok.bsz z)) (zcc _)
 ·obtain⟨_,z1,z2,_⟩:=hf b hb
  rcases zae.mp (I.stkSub b z) with e|e
  ·exact z1 e
  ·exact z2 e
 ·have e2':(seen caps σ)[i]?=some (some v):=e2
  unfold seen at e2'
  rw[zaf] at e2'
  cases ec:caps[i]? with
  |none=>rw[ec] at e2';cases e2'
  |some oj =>
   rw[ec] at e2'
   have e3:(oj.bind λ j=>(σ[j]?).join)=some v:=Option.some.inj e2'
   cases oj with
   |none=>cases e3
   |some j =>
    obtain⟨c1,c2,c3⟩:=B.cap i j x ec e1
    have e4:σ[j]?=some (some v):=by
     have e5:(σ[j]?).join=some v:=e3
     cases ej:σ[j]? with
     |none=>rw[ej] at e5;cases e5
     |some ov =>
      rw[ej] at e5
      cases ov with
      |none=>cases e5
      |some v'=>exact congrArg some e5
    obtain⟨m0,hn0,hl⟩:=I.loc
    obtain⟨u,ru,lk⟩:=hl j x v c1 e4 (by
     rcases c2 with z|z
     ·exact .inr (.inl z)
     ·exact .inr (.inr z))
    refine⟨u,ru,.inr ⟨c3,?_⟩⟩
    obtain⟨c,ecl⟩:=B.has x c3
    refine⟨c,ecl,?_⟩
    rcases lk with⟨z,_⟩|⟨_,c',e',⟨oc,q1,q2⟩⟩
    ·rcases c2 with y|y
     ·rw[y] at z;cases z
     ·rw[y] at z;cases z
    ·have ee:c'=c:=Option.some.inj (e'.symm.trans (B.sub x c ecl))
     subst ee
     exact⟨oc,hk _ _ q1,q2⟩
 ·obtain⟨v,o,q1,q2⟩:=I.cell x c (B.sub x c e)
  exact⟨v,o,hk _ _ q1,q2⟩
 ·show(seen caps σ).length=N'.length
  unfold seen
  rw[zah]
  exact B.len
theorem qnw9(I:Inv X pins σ H s)(hf:∀b∈fp,FpOk X pins H b)(hfp:∀b∈fp,b<s.heap.objs.size){σ':St}{H':Hp}{s':Shared}(J:Inv (blk X N' scope cl s.heap.objs.size s H fp) [] σ' H' s')
  (sb:Heap.SameBut s.heap.objs.size s'.heap h'):Inv X pins σ H' { s' with heap:=h' }:=by
 have hC:∀b o,s.heap.get? b=some o->b≠s.heap.objs.size:=λ b o e=>zaz (zaq e)
 have u:=J.base
 have u':Un (frs X.stack) fp H H' s.heap h':=by
  refine⟨λ b o e n hb hx=>qfp9 sb (hC b o e) (u.keep b o e n hb hx),λ b o e n hb hx=>?_,u.free,λ b o e hx=>?_,u.tups,u.frzs,u.tbls⟩
  ·obtain⟨sl,q⟩:=u.slot b o e n hb hx
   exact⟨sl,qfp9 sb (hC b o e) q⟩
  ·obtain⟨o',q⟩:=u.there b o e hx
   exact⟨o',qfp9 sb (hC b o e) q⟩
 have nC:H' s.heap.objs.size=none:=J.free
 have hok:HOk X.prog X.w H' h':=λ b o e=>by
  refine(J.hok b o e).stay (λ c v hc q=>qfp9 sb ?_ q) (λ _ q=>q) λ _ _ q=>q
  rcases hc with z|z
  ·intro z'
   rw[z] at z'
   rw[z',nC] at e
   cases e
  ·intro z'
   rw[z',nC] at z
   cases z
 obtain⟨hh,g,d,t,os'⟩:=s'
 obtain rfl:os'=s.os:=J.os
 show Inv X pins σ H' { s with heap:=h',gens:=g,drawn:=d,toks:=t }
 refine Inv.call (s:=s) (h':=h') (g':=g) (d':=d) (t':=t) (ch:=fp) I u' hok J.bare λ b hb=>?_
 obtain⟨_,z1,_,z3,z4,z5⟩:=hf b hb
 exact⟨z3,z1,z4,z5⟩
def cBody(caps:List (Option Nat))(g:TG)(tt:TT)(te:TE)(σ:St)(Q:VK)(J:It)(H1:Hp):Prop:=∀D,H1 D=none->∃W:Nat->Nat->Hp->Prop,(∃m,W 0 m (upd H1 D (.lst [])))/\∀i m H2,W i m H2 ->
 (J.stop i H2/\Q (.ref D) H2)\/(J.go i H2/\∃N:Hp->Prop,(∀H',N H'->∃m',m'<m/\W (i+1) m' H')/\∀x H3,J.yld i H2 x H3->g x (seen caps σ) H3 λ σ4 H4=>(∀(k:Nat) v,(seen caps σ)[k]?=some (some v)->σ4[k]?=some (some v))/\tt σ4 H4 λ b H5 =>
  if b=true then te σ4 H5 λ y H6=>∃ys,H6 D=some (.lst ys)/\ys.length<sizeLine/\N (upd H6 D (.lst (ys++[y]))) else N H5)
def tComp(wi:TI)(caps:List (Option Nat))(g:TG)(tt:TT)(te:TE):TE:=λ σ H Q=>wi σ H (cBody caps g tt te σ Q)
def tTrue:TT:=λ _ H Q=>Q true H
section
variable {elt:Expr}
theorem qfr9{J:It}{it:Addr}{tn:Nat->Heap->Prop}{H0:Hp}{C:Addr}(T:Turn X.prog X.w X.K tg J fp it tn){s7 s9:Shared}{W:Nat->Nat->Hp->Prop}{N:Hp->Prop}(hN:∀H',N H'->∃m',m'<n/\W (i+1) m' H')
  (st7:tn (i+1) s7.heap) {σ8:St} {H9:Hp} (I9:Inv (blk X N' scope cl C s H0 fp) ([]++qoo9 fp s7.heap) σ8 H9 s9) (kp:∀(k:Nat) v,(seen caps σ)[k]?=some (some v)->σ8[k]?=some (some v)) (hl:(seen caps σ).length=σ8.length) (n9:N H9) :
  ∃m,m<n/\∃j H',Inv (blk X N' scope cl C s H0 fp) [] (seen caps σ) H' s9/\tn j s9.heap/\(∀b∈fp,H' b=none)/\W j m H':=by
 obtain⟨m',hm,w7⟩:=hN H9 n9
 refine⟨m',hm,i+1,H9,(I9.unpinned).weak hl kp,T.keep _ _ _ st7 λ b hb o e=>(I9.pin (b,o) (zap _ (zap _ (qet9 hb e)))).1,λ b hb=>?_,w7⟩
 obtain⟨o,e,d⟩:=T.obj _ _ st7 b hb
 exact(I9.pin (b,o) (zap _ (zap _ (qet9 hb e)))).2.1
theorem pe_comp(B:BlkOk X N' scope cl caps)(hc:X.calm=true)(hi:PI X tg iter wi)(hg:∀C s0 H0 fp,PG (blk X N' scope cl C s0 H0 fp) tg g)(he:∀C s0 H0 fp,PE (blk X N' scope cl C s0 H0 fp) elt te)
  (hs:∀x,foldedSetIterable iter X.env x=pure x:=by intro _;rfl):PE X (.ListComp elt [⟨tg,iter,[],0⟩] scope pos) (tComp wi caps g tTrue te):=by
 intro pins s σ H Q I h
 rw[eval_ListComp]
 refine wpAny_comprehension_free (use:=none) rfl hs B.clos B.kind B.names ?_
 refine thn (hi pins s σ H _ I h) λ v s1 h1=>thn h1 λ itv s2 h2=>?_
 obtain⟨it,fp,tn,J,H2,rfl,I2,T,st2,f2,q2⟩:=h2
 have fpl:∀b∈fp,b<s2.heap.objs.size:=λ b hb=>by
  obtain⟨o,e,_⟩:=T.obj _ _ st2 b hb
  exact zaq e
 obtain⟨W,⟨m0,w0⟩,turn⟩:=q2 s2.heap.objs.size (I2.hok.fresh (zaj _))
 refine wpAny_newObj_type ?_
 have I3:Inv X pins σ (upd H2 s2.heap.objs.size (.lst [])) { s2 with heap:=s2.heap.push { cls:=.type "list",data:=.seq ([]:List Value).toArray } } :=
  I2.laid (t':=s2.toks) (λ b u e=>zad _ e) (zaj _) ⟨zbn _,[],0,.nil,zbb _ rfl⟩
 generalize hs3:({ s2 with heap:=s2.heap.push { cls:=.type "list",data:=.seq ([]:List Value).toArray } }:Shared)=s3 at I3
 have k23:∀b o,s2.heap.get? b=some o->s3.heap.get? b=some o:=λ b o e=>by rw[<- hs3];exact zad _ e
 have fpl3:∀b∈fp,b<s3.heap.objs.size:=λ b hb=>by
  obtain⟨o,e,_⟩:=T.obj _ _ st2 b hb
  exact zaq (k23 b o e)
 have f3:∀b∈fp,FpOk X pins (upd H2 s2.heap.objs.size (.lst [])) b:=λ b hb=>⟨by rw[qaq9 (zaz (fpl b hb))];exact(f2 b hb).1,(f2 b hb).2⟩
 refine wpAny_newFunctionEnv B.nocell (by intro y hy;simp at hy) (λ h1 hn1 sb1=>?_) B.kind
 have k31:∀b o,s3.heap.get? b=some o->h1.get? b=some o:=λ b o e=>sb1.extBut b o (zaz (zaq e)) (zad _ e)
 have J0:=qoc9 (fp:=fp) (tk:=s3.toks+([]:List (Str×Value)).length) B I3 f3 hn1 k31 fpl3
 have st1:tn 0 h1:=T.keep _ _ _ st2 λ b _ o e=>k31 b o (k23 b o e)
 have loop:codeAny (model X.prog X.w) X.A (.compLoop (.ListComp elt [⟨tg,iter,[],0⟩] scope pos) 0 (.ref it) (.ref s2.heap.objs.size) (blk X N' scope cl s3.heap.objs.size s3 (upd H2 s2.heap.objs.size (.lst [])) fp).env)
   (compPost (model X.prog X.w) X.A X.xe none (EP X pins σ Q) (.ref s2.heap.objs.size) s3.heap.objs.size) { s3 with heap:=h1,toks:=s3.toks+([]:List (Str×Value)).length }:=by
  refine codeAny_loop rfl (λ n s'=>∃i H',Inv (blk X N' scope cl s3.heap.objs.size s3 (upd H2 s2.heap.objs.size (.lst [])) fp) [] (seen caps σ) H' s'/\tn i s'.heap/\(∀b∈fp,H' b=none)/\W i n H') (λ n s5 hI=>?_) m0
   ⟨0,_,J0,st1,λ b hb=>(f3 b hb).1,w0⟩
  obtain⟨i,H5,I5,st5,fr5,w5⟩:=hI
  show wpAny _ _ ((compTurn (.ListComp elt [⟨tg,iter,[],0⟩] scope pos) 0 (.ref it) (.ref s2.heap.objs.size) (blk X N' scope cl s3.heap.objs.size s3 (upd H2 s2.heap.objs.size (.lst [])) fp).env).onRaise (λ x=>do noteFrame x (blk X N' scope cl s3.heap.objs.size s3 (upd H2 s2.heap.objs.size (.lst [])) fp).env;theTreesLotGoes x)) _ _ s5
  refine wpAny_noted ?_
  rw[compTurn_list1]
  have ff:∀{H':Hp},(∀b∈fp,H' b=none)->∀b∈fp,FpOk (blk X N' scope cl s3.heap.objs.size s3 (upd H2 s2.heap.objs.size (.lst [])) fp) [] H' b:=λ {H'} hn b hb =>
   ⟨hn b hb,(J0.ok.exf b hb).1,J0.ok.exfs b hb,.inl hb,λ x c e=>(J0.ok.exf b hb).2 x c e,λ p hp=>absurd (show p∈([]:List (Addr×Obj)) from hp) (by simp)⟩
  rcases turn i n H5 w5 with⟨stop,qn⟩|⟨go,N,hN,step⟩
  ·refine wpAny_bind (wpAny_standAt (wpAny_bind (thn (T.done (blk X N' scope cl s3.heap.objs.size s3 (upd H2 s2.heap.objs.size (.lst [])) fp) rfl rfl rfl hc i [] s5 _ H5 _ I5 (ff fr5) st5 stop) λ r s6 z9=>?_)))
   obtain⟨hr,I6⟩ := z9
   subst hr
   refine wpAny_pure ?_
   obtain⟨m,hn,_⟩:=id I6.loc
   exact⟨m,hn,λ h' sb=>⟨.ref s2.heap.objs.size,H5,qnw9 I3 f3 fpl3 I6 sb,rfl,qn⟩⟩
  ·refine wpAny_bind (wpAny_standAt (wpAny_bind (thn (T.item (blk X N' scope cl s3.heap.objs.size s3 (upd H2 s2.heap.objs.size (.lst [])) fp) rfl rfl rfl hc i [] s5 _ H5 _ I5 (ff fr5) st5 go) λ r s6 z9=>?_)))
   obtain⟨u,hr,h6⟩ := z9
   subst hr
   refine wpAny_bind (thn h6 λ _ s7 z9=>?_)
   obtain⟨x,H7,I7,r7,y7,st7,fr7⟩ := z9
   have I7':=I7.pinned (ff fr7) (T.obj _ _ st7)
   refine wpAny_bind (wpAny_mono (hg _ _ _ _ _ s7 _ H7 x u _ I7' r7 (step x H7 y7)) (λ _ s8 z9=>?_) λ _ _ f=>f.elim)
   obtain⟨σ8,H8,I8,kp,q8⟩ := z9
   have q8':te σ8 H8 λ y H6=>∃ys,H6 s2.heap.objs.size=some (.lst ys)/\ys.length<sizeLine/\N (upd H6 s2.heap.objs.size (.lst (ys++[y]))):=by
    have z:=q8
    unfold tTrue at z
    dsimp only at z
    rw[if_pos rfl] at z
    exact z
   refine wpAny_bind (wpAny_bind (wpAny_mono (he _ _ _ _ _ s8 σ8 H8 _ I8 q8') (λ y s9 z9=>?_) λ _ _ f=>f.elim))
   obtain⟨y',H9,I9,r9,ys,hD,hl,n9⟩ := z9
   refine wpAny_bind (wpAny_mono (qgj9 (X:=blk X N' scope cl s3.heap.objs.size s3 (upd H2 s2.heap.objs.size (.lst [])) fp) _ s9 σ8 H9 (.ref s2.heap.objs.size) [y'] (.ref s2.heap.objs.size) [y] (λ _ H'=>N H') I9 rfl (.cons r9 .nil) ⟨_,ys,y',rfl,rfl,hD,hl,n9⟩) (λ _ s10 z9=>?_) λ _ _ f=>f.elim)
   obtain⟨_,H10,I10,_,n10⟩ := z9
   exact wpAny_pure (wpAny_pure ⟨rfl,qfr9 T hN st7 I10 kp (I5.len.trans I10.len.symm) n10⟩)
 exact codeAny_compStart_list loop (T.self X.A 0 _ _ _ st1 loop)
theorem pe_compIf(B:BlkOk X N' scope cl caps)(hc:X.calm=true)(hi:PI X tg iter wi)(hg:∀C s0 H0 fp,PG (blk X N' scope cl C s0 H0 fp) tg g)(ht:∀C s0 H0 fp,PT (blk X N' scope cl C s0 H0 fp) c tt)
  (he:∀C s0 H0 fp,PE (blk X N' scope cl C s0 H0 fp) elt te) (hs:∀x,foldedSetIterable iter X.env x=pure x:=by intro _;rfl):PE X (.ListComp elt [⟨tg,iter,[c],0⟩] scope pos) (tComp wi caps g tt te):=by
 intro pins s σ H Q I h
 rw[eval_ListComp]
 refine wpAny_comprehension_free (use:=none) rfl hs B.clos B.kind B.names ?_
 refine thn (hi pins s σ H _ I h) λ v s1 h1=>thn h1 λ itv s2 h2=>?_
 obtain⟨it,fp,tn,J,H2,rfl,I2,T,st2,f2,q2⟩:=h2
 have fpl:∀b∈fp,b<s2.heap.objs.size:=λ b hb=>by
  obtain⟨o,e,_⟩:=T.obj _ _ st2 b hb
  exact zaq e
 obtain⟨W,⟨m0,w0⟩,turn⟩:=q2 s2.heap.objs.size (I2.hok.fresh (zaj _))
 refine wpAny_newObj_type ?_
 have I3:Inv X pins σ (upd H2 s2.heap.objs.size (.lst [])) { s2 with heap:=s2.heap.push { cls:=.type "list",data:=.seq ([]:List Value).toArray } } :=
  I2.laid (t':=s2.toks) (λ b u e=>zad _ e) (zaj _) ⟨zbn _,[],0,.nil,zbb _ rfl⟩
 generalize hs3:({ s2 with heap:=s2.heap.push { cls:=.type "list",data:=.seq ([]:List Value).toArray } }:Shared)=s3 at I3
 have k23:∀b o,s2.heap.get? b=some o->s3.heap.get? b=some o:=λ b o e=>by rw[<- hs3];exact zad _ e
 have fpl3:∀b∈fp,b<s3.heap.objs.size:=λ b hb=>by
  obtain⟨o,e,_⟩:=T.obj _ _ st2 b hb
  exact zaq (k23 b o e)
 have f3:∀b∈fp,FpOk X pins (upd H2 s2.heap.objs.size (.lst [])) b:=λ b hb=>⟨by rw[qaq9 (zaz (fpl b hb))];exact(f2 b hb).1,(f2 b hb).2⟩
 refine wpAny_newFunctionEnv B.nocell (by intro y hy;simp at hy) (λ h1 hn1 sb1=>?_) B.kind
 have k31:∀b o,s3.heap.get? b=some o->h1.get? b=some o:=λ b o e=>sb1.extBut b o (zaz (zaq e)) (zad _ e)
 have J0:=qoc9 (fp:=fp) (tk:=s3.toks+([]:List (Str×Value)).length) B I3 f3 hn1 k31 fpl3
 have st1:tn 0 h1:=T.keep _ _ _ st2 λ b _ o e=>k31 b o (k23 b o e)
 have loop:codeAny (model X.prog X.w) X.A (.compLoop (.ListComp elt [⟨tg,iter,[c],0⟩] scope pos) 0 (.ref it) (.ref s2.heap.objs.size) (blk X N' scope cl s3.heap.objs.size s3 (upd H2 s2.heap.objs.size (.lst [])) fp).env)
   (compPost (model X.prog X.w) X.A X.xe none (EP X pins σ Q) (.ref s2.heap.objs.size) s3.heap.objs.size) { s3 with heap:=h1,toks:=s3.toks+([]:List (Str×Value)).length }:=by
  refine codeAny_loop rfl (λ n s'=>∃i H',Inv (blk X N' scope cl s3.heap.objs.size s3 (upd H2 s2.heap.objs.size (.lst [])) fp) [] (seen caps σ) H' s'/\tn i s'.heap/\(∀b∈fp,H' b=none)/\W i n H') (λ n s5 hI=>?_) m0
   ⟨0,_,J0,st1,λ b hb=>(f3 b hb).1,w0⟩
  obtain⟨i,H5,I5,st5,fr5,w5⟩:=hI
  show wpAny _ _ ((compTurn (.ListComp elt [⟨tg,iter,[c],0⟩] scope pos) 0 (.ref it) (.ref s2.heap.objs.size) (blk X N' scope cl s3.heap.objs.size s3 (upd H2 s2.heap.objs.size (.lst [])) fp).env).onRaise (λ x=>do noteFrame x (blk X N' scope cl s3.heap.objs.size s3 (upd H2 s2.heap.objs.size (.lst [])) fp).env;theTreesLotGoes x)) _ _ s5
  refine wpAny_noted ?_
  rw[compTurn_list]
  have ff:∀{H':Hp},(∀b∈fp,H' b=none)->∀b∈fp,FpOk (blk X N' scope cl s3.heap.objs.size s3 (upd H2 s2.heap.objs.size (.lst [])) fp) [] H' b:=λ {H'} hn b hb =>
   ⟨hn b hb,(J0.ok.exf b hb).1,J0.ok.exfs b hb,.inl hb,λ x c e=>(J0.ok.exf b hb).2 x c e,λ p hp=>absurd (show p∈([]:List (Addr×Obj)) from hp) (by simp)⟩
  rcases turn i n H5 w5 with⟨stop,qn⟩|⟨go,N,hN,step⟩
  ·refine wpAny_bind (wpAny_standAt (wpAny_bind (thn (T.done (blk X N' scope cl s3.heap.objs.size s3 (upd H2 s2.heap.objs.size (.lst [])) fp) rfl rfl rfl hc i [] s5 _ H5 _ I5 (ff fr5) st5 stop) λ r s6 z9=>?_)))
   obtain⟨hr,I6⟩ := z9
   subst hr
   refine wpAny_pure ?_
   obtain⟨m,hn,_⟩:=id I6.loc
   exact⟨m,hn,λ h' sb=>⟨.ref s2.heap.objs.size,H5,qnw9 I3 f3 fpl3 I6 sb,rfl,qn⟩⟩
  ·refine wpAny_bind (wpAny_standAt (wpAny_bind (thn (T.item (blk X N' scope cl s3.heap.objs.size s3 (upd H2 s2.heap.objs.size (.lst [])) fp) rfl rfl rfl hc i [] s5 _ H5 _ I5 (ff fr5) st5 go) λ r s6 z9=>?_)))
   obtain⟨u,hr,h6⟩ := z9
   subst hr
   refine wpAny_bind (thn h6 λ _ s7 z9=>?_)
   obtain⟨x,H7,I7,r7,y7,st7,fr7⟩ := z9
   have I7':=I7.pinned (ff fr7) (T.obj _ _ st7)
   refine wpAny_bind (wpAny_mono (hg _ _ _ _ _ s7 _ H7 x u _ I7' r7 (step x H7 y7)) (λ _ s8 z9=>?_) λ _ _ f=>f.elim)
   obtain⟨σ8,H8,I8,kp,q8⟩ := z9
   refine wpAny_bind (wpAny_tests_one (wpAny_mono (ht _ _ _ _ _ s8 σ8 H8 _ I8 q8) (λ b s9 z9=>?_) λ _ _ f=>f.elim))
   obtain⟨H9,I9,q9⟩ := z9
   cases b with
   |false =>
    rw[if_neg zbc] at q9
    exact wpAny_pure ⟨rfl,qfr9 T hN st7 I9 kp (I5.len.trans I9.len.symm) q9⟩
   |true =>
    rw[if_pos rfl] at q9
    refine wpAny_bind (wpAny_bind (wpAny_mono (he _ _ _ _ _ s9 σ8 H9 _ I9 q9) (λ y s10 z9=>?_) λ _ _ f=>f.elim))
    obtain⟨y',H10,I10,r10,ys,hD,hl,n10⟩ := z9
    refine wpAny_bind (wpAny_mono (qgj9 (X:=blk X N' scope cl s3.heap.objs.size s3 (upd H2 s2.heap.objs.size (.lst [])) fp) _ s10 σ8 H10 (.ref s2.heap.objs.size) [y'] (.ref s2.heap.objs.size) [y] (λ _ H'=>N H') I10 rfl (.cons r10 .nil) ⟨_,ys,y',rfl,rfl,hD,hl,n10⟩) (λ _ s11 z9=>?_) λ _ _ f=>f.elim)
    obtain⟨_,H11,I11,_,n11⟩ := z9
    exact wpAny_pure (wpAny_pure ⟨rfl,qfr9 T hN st7 I11 kp (I5.len.trans I11.len.symm) n11⟩)
 exact codeAny_compStart_list loop (T.self X.A 0 _ _ _ st1 loop)
end
end
section
variable {a b d:Expr}{ta tb tc td:TE}
def tChain3(r r' r'':R2)(ta tb tc td:TE):TE:=λ σ H Q=>ta σ H λ x H1=>tb σ H1 λ y H2=>r x y H2 λ z H3=>∃k,z=.bl k /\
 (if k=true then tc σ H3 λ w' H4=>r' y w' H4 λ z' H5=>∃k',z'=.bl k'/\(if k'=true then td σ H5 λ w2 H6=>r'' w' w2 H6 Q else Q (.bl false) H5) else Q (.bl false) H3)
theorem pe_chain3{op'':CmpOp}{r'':R2}(ho:OpR X (compareOp op) r)(ho':OpR X (compareOp op') r')(ho'':OpR X (compareOp op'') r'')(ha:PE X a ta)(hb:PE X b tb)(hc:PE X c tc)(hd:PE X d td)
  (hm:lastMarks [op,op',op''] [b,c,d]=false:=by with_unfolding_all rfl):PE X (.Compare a [op,op',op''] [b,c,d] pos) (tChain3 r r' r'' ta tb tc td):=by
 intro pins s σ H Q I h
 refine Compare_chain (thn (ha pins s σ H _ I h) λ v s1 ⟨x,H1,I1,r1,q1⟩=>chain_link (thn (hb pins s1 σ H1 _ I1 q1) λ u s2 ⟨y,H2,I2,r2,q2⟩ =>
  thn (ho pins s2 σ H2 x y v u _ I2 r1 r2 q2) λ d s3 ⟨z,H3,I3,r3,k,e,q3⟩=>?_)) hm
 subst e
 cases r3
 refine wpAny_truthy_bool ?_
 cases k with
 |false=>exact ite_ff ⟨.bl false,H3,I3,rfl,q3⟩
 |true =>
  refine ite_tt (chain_link (thn (hc pins s3 σ H3 _ I3 q3) λ w' s4 ⟨z',H4,I4,r4,q4⟩=>thn (ho' pins s4 σ H4 y z' u w' _ I4 r2 r4 q4) λ d' s5 z9=>?_))
  obtain⟨z2,H5,I5,r5,k2,e2,q5⟩ := z9
  subst e2
  cases r5
  refine wpAny_truthy_bool ?_
  cases k2 with
  |false=>exact ite_ff ⟨.bl false,H5,I5,rfl,q5⟩
  |true=>exact ite_tt (chain_last (thn (hd pins s5 σ H5 _ I5 q5) λ w2 s6 ⟨z3,H6,I6,r6,q6⟩=>ho'' pins s6 σ H6 z' z3 w' w2 Q I6 r4 r6 q6))
theorem vals_bl{bs:List Bool}{its:List Value}(r:Vals (bs.map V.bl) its){v:Value}(h:its[i]?=some v):∃k,bs[i]?=some k/\v=.bool k:=by
 have hl:=r.length
 rw[zah] at hl
 have hi:i<bs.length:=by
  have:=(zab.mp h).1
  omega
 obtain⟨u,hu,ru⟩:=r.get (i:=i) (x:=.bl bs[i]) (by rw[zaf,zaa hi];rfl)
 rw[h] at hu
 cases hu
 exact⟨bs[i],zaa hi,ru⟩
theorem all_range(bs:List Bool):((zdn bs.length).all λ i=>(bs[i]?).getD true)=bs.all id:=by
 rw[zcb,zba,zba]
 constructor
 ·intro h x hx
  obtain⟨i,hi,e⟩:=zdc.mp hx
  have:=h i (zcz.mpr hi)
  rw[zaa hi,e] at this
  exact this
 ·intro h i hi
  have hi':=zcz.mp hi
  rw[zaa hi']
  exact h _ (zby hi')
theorem call_all(hc:X.calm=true):CallR X (.builtin "all") (λ xs H Q=>∃(p:Addr)(bs:List Bool),xs=[.ref p]/\SqL X.K H p (bs.map V.bl)/\Q (.bl (bs.all id)) H):=by
 intro pins s σ H xs us Q I r h
 obtain⟨p,bs,rfl,hS,q⟩:=h
 obtain⟨u,rfl,ru⟩:=vals1 r
 cases ru
 obtain⟨its,rv,pl,hz⟩:=I.list hS
 have hl:=pl.isList
 have hlt:p<s.heap.objs.size:=by obtain⟨_,e,_⟩:=hl;exact zaq e
 refine call_all_walk (wpAny_pyIter_list hl ?_)
 refine⟨s.heap.objs.size,[s.heap.objs.size,p],[s.heap.objs.size],its.toArray.size,_,_,λ i=>(bs[i]?).getD true,rfl,Walks.list (A:=X.A.in1) (I.ok.hd hc) _ p (zaz hlt) its.toArray,
  ⟨⟨_,zbb _ rfl,rfl,rfl⟩,hl.push _⟩,λ i v s' Q' E' hP hQ=>?_,λ h' tk hk=>?_⟩
 ·obtain⟨k,e,rfl⟩:=vals_bl rv (i:=i) (v:=v) (by simpa using hP)
  simp only[e,zgm] at hQ
  exact wpAny_truthy_bool hQ
 ·have e:((zdn its.toArray.size).all λ i=>(bs[i]?).getD true)=bs.all id:=by
   have hl2:=rv.length
   rw[zah] at hl2
   rw[zar,<- hl2]
   exact all_range bs
  rw[e]
  have keep:∀b x,s.heap.get? b=some x->h'.get? b=some x:=λ b x e=>hk b x (λ hm=>by rw[zag.mp hm] at e;exact zcc _ (zaq e)) (zad _ e)
  exact⟨.bl (bs.all id),H,I.kept (t':=tk) keep,rfl,q⟩
end
section
variable {rest:List Stmt}{t u:TS}
inductive tCut(t u:TS)(D:Ends)(σ:St)(H:Hp):Prop
 |mk (M:St->Hp->Prop):(t { D with nx:=M } σ H)->(∀σ' H',M σ' H'->u D σ' H')->tCut t u D σ H
theorem pss_cut(h1:PS X st t)(h2:PSs X rest u):PSs X (st::rest) (tCut t u):=by
 intro pins s σ H D I h
 obtain⟨M,h,hM⟩:=h
 refine wpAny_execs_cons (thn (h1 pins s σ H { D with nx:=M } I h) λ f s1 q=>?_)
 cases f with
 |next =>
  obtain⟨σ',H',I',q⟩:=q
  exact h2 pins s1 σ' H' D I' (hM σ' H' q)
 |ret v=>exact q
 |brk=>exact q
 |cont=>exact q
inductive tCutE(t:TE)(σ:St)(H:Hp)(Q:VK):Prop
 |mk (M:V->Hp->Prop):t σ H M->(∀v H',M v H'->Q v H')->tCutE t σ H Q
theorem pe_cut(h:PE X e te):PE X e (tCutE te):=by
 intro pins s σ H Q I q
 obtain⟨M,q,hM⟩:=q
 exact thn (h pins s σ H M I q) λ u s1 ⟨v,H1,I1,r1,q1⟩=>⟨v,H1,I1,r1,hM v H1 q1⟩
inductive tCutT(t:TT)(σ:St)(H:Hp)(Q:Bool->Hp->Prop):Prop
 |mk (M:Bool->Hp->Prop):t σ H M->(∀b H',M b H'->Q b H')->tCutT t σ H Q
theorem pt_cut(h:PT X e tt):PT X e (tCutT tt):=by
 intro pins s σ H Q I q
 obtain⟨M,q,hM⟩:=q
 exact thn (h pins s σ H M I q) λ b s1 ⟨H1,I1,q1⟩=>⟨H1,I1,hM b H1 q1⟩
end
def qpj9(X:Cx)(N':List Str)(scope:Scope)(cl:List (Str×Addr))(caps:List (Option Nat)):Bool :=
 (scope.names.all λ y=>y.2 != .cell)&&(scope.names.all λ y=>y.2 != .local||scope.names.lookup y.1==some .local) &&
 ((relabel scope X.env).names.all λ y=>!(y.2 == .cell||y.2 == .free)||(cl.lookup y.1).isSome)&&(caps.length==N'.length) &&
 ((zdn caps.length).all λ i=>match caps[i]?,N'[i]? with
  |some (some j),some x=>(X.N[j]? == some x)&&(X.env.kindOf x==some .cell||X.env.kindOf x==some .free)&&((relabel scope X.env).names.lookup x==some .cell||(relabel scope X.env).names.lookup x==some .free)
  |_,_=>true)
theorem BlkOk.of{N':List Str}{cl:List (Str×Addr)}(clos:closureFor scope X.env=pure cl)(kind:scope.kind=.function)(sub:∀x c,cl.lookup x=some c->X.env.cells.lookup x=some c)
  (h:qpj9 X N' scope cl caps=true):BlkOk X N' scope cl caps:=by
 unfold qpj9 at h
 simp only[zbm] at h
 obtain⟨⟨⟨⟨h1,h2⟩,h3⟩,h4⟩,h5⟩:=h
 have ok3:∀x k,(relabel scope X.env).names.lookup x=some k->(k=.cell\/k=.free)->∃c,cl.lookup x=some c:=λ x k e hk=>by
  have:=zba.mp h3 _ (PySem.mem_of_lookup e)
  have hb:(k==NameKind.cell||k==NameKind.free)=true:=by
   rcases hk with rfl|rfl<;>rfl
  simp only[hb,zfp,zfq] at this
  exact zcf.mp this
 refine⟨clos,λ y hy=>?_,kind,λ y hy e=>?_,sub,λ x hx=>?_,by simpa using h4,λ i j x e1 e2=>?_⟩
 ·have:=zba.mp h1 y hy
  simpa using this
 ·have:=zba.mp h2 y hy
  rw[e] at this
  simpa using this
 ·rcases hx with hx|hx
  ·exact ok3 x _ hx (.inl rfl)
  ·exact ok3 x _ hx (.inr rfl)
 ·have hi:i<caps.length:=(zab.mp e1).1
  have:=zba.mp h5 i (zcz.mpr hi)
  rw[e1,e2] at this
  simp only[zbm,zgh,beq_iff_eq] at this
  exact⟨this.1.1,this.1.2,this.2⟩
section
variable {xs:List V}
theorem comp_list(Pv:Addr->Nat->Hp->Prop)(h0:∀D,H D=none->Pv D 0 (upd H D (.lst [])))(hl:∀D i H',H D=none->i<=xs.length->Pv D i H'->SqL K H' a xs)
  (hs:∀D i x H',H D=none->xs[i]?=some x->Pv D i H'->g x (seen caps σ) H' λ σ4 H4=>(∀(k:Nat) v,(seen caps σ)[k]?=some (some v)->σ4[k]?=some (some v))/\tt σ4 H4 λ b H5 =>
   if b=true then te σ4 H5 λ y H6=>∃ys,H6 D=some (.lst ys)/\ys.length<sizeLine/\Pv D (i+1) (upd H6 D (.lst (ys++[y]))) else Pv D (i+1) H5)
  (hd:∀D H',H D=none->Pv D xs.length H'->Q (.ref D) H'):cBody caps g tt te σ Q (Itl K a) H:=by
 intro D hD
 refine⟨λ i m H'=>m=xs.length-i/\i<=xs.length/\Pv D i H',⟨xs.length,by simp,zbn _,h0 D hD⟩,?_⟩
 intro i m H2 z9;obtain⟨rfl,hi,p⟩ := z9
 have q:=hl D i H2 hD hi p
 by_cases hlt:i<xs.length
 ·refine .inr ⟨⟨xs,xs[i],q,by simp[hlt]⟩,Pv D (i+1),λ H' p'=>⟨xs.length-(i+1),⋯,rfl,hlt,p'⟩,λ x H3 y=>?_⟩
  obtain⟨e,y⟩:=y
  subst e
  exact hs D i x _ hD (y xs q) p
 ·have e:i=xs.length:=⋯
  subst e
  exact .inl ⟨⟨xs,q,zaj _⟩,hd D H2 hD p⟩
theorem qbz9(Pv:Addr->Nat->Hp->Prop)(h0:∀D,H D=none->Pv D 0 (upd H D (.lst [])))(hl:∀D i H',H D=none->i<=xs.length->Pv D i H'->SqL K H' a xs)
  (hs:∀D i x H',H D=none->xs[i]?=some x->Pv D i H'->g x (seen caps σ) H' λ σ4 H4=>(∀(k:Nat) v,(seen caps σ)[k]?=some (some v)->σ4[k]?=some (some v)) /\
   te σ4 H4 λ y H6=>∃ys,H6 D=some (.lst ys)/\ys.length<sizeLine/\Pv D (i+1) (upd H6 D (.lst (ys++[y]))))
  (hd:∀D H',H D=none->Pv D xs.length H'->Q (.ref D) H'):cBody caps g tTrue te σ Q (Itl K a) H:=comp_list Pv h0 hl hs hd
theorem qqa9(Pv:Addr->Nat->Hp->Prop)(h0:∀D,H D=none->Pv D 0 (upd H D (.lst [])))(hl:∀D i H',H D=none->i<=xs.length->Pv D i H'->SqT K H' a xs)
  (hs:∀D i x H',H D=none->xs[i]?=some x->Pv D i H'->g x (seen caps σ) H' λ σ4 H4=>(∀(k:Nat) v,(seen caps σ)[k]?=some (some v)->σ4[k]?=some (some v))/\tt σ4 H4 λ b H5 =>
   if b=true then te σ4 H5 λ y H6=>∃ys,H6 D=some (.lst ys)/\ys.length<sizeLine/\Pv D (i+1) (upd H6 D (.lst (ys++[y]))) else Pv D (i+1) H5)
  (hd:∀D H',H D=none->Pv D xs.length H'->Q (.ref D) H'):cBody caps g tt te σ Q (Itt K a) H:=by
 intro D hD
 refine⟨λ i m H'=>m=xs.length-i/\i<=xs.length/\Pv D i H',⟨xs.length,by simp,zbn _,h0 D hD⟩,?_⟩
 intro i m H2 z9;obtain⟨rfl,hi,p⟩ := z9
 have q:=hl D i H2 hD hi p
 by_cases hlt:i<xs.length
 ·refine .inr ⟨⟨xs,xs[i],q,by simp[hlt]⟩,Pv D (i+1),λ H' p'=>⟨xs.length-(i+1),⋯,rfl,hlt,p'⟩,λ x H3 y=>?_⟩
  obtain⟨e,y⟩:=y
  subst e
  exact hs D i x _ hD (y xs q) p
 ·have e:i=xs.length:=⋯
  subst e
  exact .inl ⟨⟨xs,q,zaj _⟩,hd D H2 hD p⟩
theorem comp_tup0(Pv:Addr->Nat->Hp->Prop)(h0:∀D,H D=none->Pv D 0 (upd H D (.lst [])))(hl:∀D i H',H D=none->i<=xs.length->Pv D i H'->SqT K H' a xs)
  (hs:∀D i x H',H D=none->xs[i]?=some x->Pv D i H'->g x (seen caps σ) H' λ σ4 H4=>(∀(k:Nat) v,(seen caps σ)[k]?=some (some v)->σ4[k]?=some (some v)) /\
   te σ4 H4 λ y H6=>∃ys,H6 D=some (.lst ys)/\ys.length<sizeLine/\Pv D (i+1) (upd H6 D (.lst (ys++[y]))))
  (hd:∀D H',H D=none->Pv D xs.length H'->Q (.ref D) H'):cBody caps g tTrue te σ Q (Itt K a) H:=qqa9 Pv h0 hl hs hd
end
mutual
inductive RdV(K:W.Frag)(H:Hp):V->PyData->Prop
 |non:RdV K H .non .none
 |bl (b:Bool):RdV K H (.bl b) (.bool b)
 |int (i:Int):RdV K H (.int i) (.int i)
 |str (x:Str):RdV K H (.str x) (.str x)
 |lst {a:Addr} {xs:List V} {ds:List PyData}:SqL K H a xs->RdAll K H xs ds->RdV K H (.ref a) (.list ds)
 |tup {a:Addr} {xs:List V} {ds:List PyData}:SqT K H a xs->RdAll K H xs ds->RdV K H (.ref a) (.tuple ds)
inductive RdAll(K:W.Frag)(H:Hp):List V->List PyData->Prop
 |nil:RdAll K H [] []
 |cons {x:V} {d:PyData} {xs:List V} {ds:List PyData}:RdV K H x d->RdAll K H xs ds->RdAll K H (x::xs) (d::ds)
end
mutual
theorem Inv.rd(I:Inv X pins σ H s):∀{x:V}{d:PyData},RdV X.K H x d->∀u,RelV x u->∃as,Reads s.heap u d as
 |_,_,.non,u,r=>by cases (show u=Value.none from r);exact⟨_,.none⟩
 |_,_,.bl b,u,r=>by cases (show u=Value.bool b from r);exact⟨_,.bool b⟩
 |_,_,.int i,u,r=>by obtain⟨t,q⟩:=(show ∃t,u=Value.int i t from r);cases q;exact⟨_,.int i t⟩
 |_,_,.str x,u,r=>by obtain⟨t,q⟩:=(show ∃t,u=Value.str x t from r);cases q;exact⟨_,.str x t⟩
 |_,_,.lst (a:=a) hS hA,u,r=>by
  cases (show u=Value.ref a from r)
  obtain⟨its,rv,p,hz⟩:=I.list hS
  obtain⟨as,q⟩:=Inv.rdAll I hA its rv
  obtain⟨o,e,hc,n,hd⟩:=p.isList
  exact⟨_,.list e hc hd (by simpa using q)⟩
 |_,_,.tup (a:=a) hS hA,u,r=>by
  cases (show u=Value.ref a from r)
  obtain⟨its,rv,p,hz⟩:=I.tuple hS
  obtain⟨as,q⟩:=Inv.rdAll I hA its rv
  obtain⟨o,e,hc,n,hd⟩:=p
  exact⟨_,.tuple e hc hd (by simpa using q)⟩
theorem Inv.rdAll(I:Inv X pins σ H s):∀{xs:List V}{ds:List PyData},RdAll X.K H xs ds->∀us,Vals xs us->∃as,ReadsAll s.heap us ds as
 |_,_,.nil,us,r=>by cases r;exact⟨_,.nil⟩
 |_,_,.cons h1 h2,us,r=>by
  cases r with
  |cons r1 r2 =>
   obtain⟨as,q1⟩:=Inv.rd I h1 _ r1
   obtain⟨bs,q2⟩:=Inv.rdAll I h2 _ r2
   exact⟨_,.cons q1 q2⟩
end
inductive rEqD(K:W.Frag)(x:V)(y:V)(H:Hp)(Q:VK):Prop
 |mk (d:_) (e:_):RdV K H x d->RdV K H y e->SeqAt.shaped d=true->SeqAt.shaped e=true->Q (.bl (PyData.eqv d e)) H->rEqD K x y H Q
theorem op_eqD(hu:X.A.units+64<cLine):OpR X (compareOp .Eq) (rEqD X.K):=by
 intro pins s σ H x y v u Q I rx ry h
 obtain⟨d,e,hd,he,sd,se,q⟩:=h
 obtain⟨as,ra⟩:=I.rd hd v rx
 obtain⟨bs,rb⟩:=I.rd he u ry
 exact eq_dataH ra rb sd se hu ⟨.bl _,H,I,rfl,q⟩
structure QE(X:Cx)(e:Expr)(t:TE):Prop where
 run:PE X e t
structure QT(X:Cx)(e:Expr)(t:TT):Prop where
 run:PT X e t
structure QW(X:Cx)(e:Expr)(t:TT):Prop where
 run:PW X e t
structure QA(X:Cx)(es:List Expr)(t:TA):Prop where
 run:PA X es t
structure QS(X:Cx)(st:Stmt)(t:TS):Prop where
 run:PS X st t
structure QSs(X:Cx)(st:List Stmt)(t:TS):Prop where
 run:PSs X st t
structure QG(X:Cx)(e:Expr)(t:TG):Prop where
 run:PG X e t
structure QGs(X:Cx)(es:List Expr)(t:TGs):Prop where
 run:PGs X es t
structure QI(X:Cx)(tg it:Expr)(w:TI):Prop where
 run:PI X tg it w
structure QO(X:Cx)(e:Option Expr)(t:TO):Prop where
 run:PO X e t
structure QOp(X:Cx)(f:Value->Value->Sem Value)(r:R2):Prop where
 run:OpR X f r
structure QCall(X:Cx)(f:Value)(r:List V->Hp->VK->Prop):Prop where
 run:CallR X f r
structure QIx(X:Cx)(r:R2):Prop where
 run:IxR X r
section
variable {rest:List Stmt}{t u:TS}{a b d:Expr}{ta tb tc td:TE}{tA tB':TT}
theorem qat9:QSs X [] tNext:=⟨pss_nil⟩
theorem qae9(h1:QS X st t):QSs X [st] t:=⟨pss_one h1.run⟩
theorem qab9(h1:QS X st t)(h2:QSs X rest u):QSs X (st::rest) (tSeq t u):=⟨pss_cons h1.run h2.run⟩
theorem qek9(h1:QS X st t)(h2:QSs X rest u):QSs X (st::rest) (tCut t u):=⟨pss_cut h1.run h2.run⟩
theorem qai9(hN:X.N.Nodup)(hi:X.N[i]?=some x)(hx:Loc X.env.scope x)(he:QE X e te)(hs:swapsWith e (some (.Name x pos')) pos.line X.env=pure false:=by rfl)(hf:X.fn x=true\/X.env.scope.names.lookup x=some .local:=by first|exact .inl rfl|exact .inr rfl|assumption) :
  QS X (.Assign [.Name x pos'] e pos) (tAsg te (gName i)):=⟨ps_set hN hi hx he.run hs hf⟩
theorem qs_asg(he:QE X e te)(hg:QG X tg g)(hs:swapsWithSole [tg] e pos.line X.env=pure false:=by rfl)(hw:swappedStores [tg] e X.env=pure none:=by rfl)
  (h1:(assignEach [tg] X.env).map (·.2)=[assign tg X.env]:=by rfl):QS X (.Assign [tg] e pos) (tAsg te g):=⟨ps_asg he.run hg.run hs hw h1⟩
theorem qs_if{a b:List Stmt}{tc:TT}(hc:QT X c tc)(ha:QSs X a t)(hb:QSs X b u):QS X (.If c a b pos) (tIfS tc t u):=⟨ps_if hc.run ha.run hb.run⟩
theorem qao9(he:QE X e te):QS X (.Return (some e) pos) (tRet te):=⟨ps_ret he.run⟩
theorem qs_retN:QS X (.Return none pos) tRetN:=⟨ps_retN⟩
theorem qbi9(he:QE X e te)(hs:swapsWith e none pos.line X.env=pure false:=by rfl):QS X (.Expr e pos) (tDrop te):=⟨ps_expr he.run hs⟩
theorem qfv9{body:List Stmt}{tb:TS}(hp:PassesOwn (model X.prog X.w) X.A X.env X.xe)(hc:QT X c tt)(hb:QSs X body tb):QS X (.While c body [] pos) (tWhile tt tb):=⟨ps_while hp hc.run hb.run⟩
theorem qeo9{body:List Stmt}{tb:TS}(hp:PassesOwn (model X.prog X.w) X.A X.env X.xe)(hc:X.calm=true)(hi:QI X tg iter wi)(hg:QG X tg g)(hb:QSs X body tb)
  (hs:∀x,foldedSetIterable iter X.env x=pure x:=by intro _;rfl):QS X (.For tg iter body [] pos) (tFor wi g tb):=⟨ps_for hp hc hi.run hg.run hb.run hs⟩
theorem qar9(hN:X.N.Nodup)(hi:X.N[i]?=some x)(hx:Loc X.env.scope x)(hf:X.fn x=true\/X.env.scope.names.lookup x=some .local:=by first|exact .inl rfl|exact .inr rfl|assumption):QG X (.Name x pos) (gName i):=⟨pg_name hN hi hx hf⟩
theorem qed9:QGs X [] gNil:=⟨pgs_nil⟩
theorem qaw9{t:TG}{u:TGs}(h1:QG X e t)(h2:QGs X es u)(hs:(assignEach (e::es) X.env).map (·.2)=assign e X.env::(assignEach es X.env).map (·.2):=by rfl):QGs X (e::es) (gCons t u):=⟨pgs_cons h1.run h2.run hs⟩
theorem qgw9{k:Nat}{t:TGs}(hc:X.calm=true)(h:QGs X es t)
  (hn:(assignEach es X.env).length=n:=by rfl) (hst:(assignEach es X.env).findIdx? (·.1)=none:=by rfl):QG X (.Tuple es k pos) (gTup X.K n t):=⟨pg_tup hc h.run hn hst⟩
theorem qg_sub{o i:Expr}{to ti:TE}{t:TSet}(ho:QE X o to)(hi:QE X i ti)(hs:PSet X t)
  (ha:∀v,assign (.Subscript o i pos) X.env v=(do
   let ov <- holding [v] (eval o X.env)
   let iv <- holding [v,ov] (eval i X.env)
   standAt pos
   holding [v,ov,iv] (setItem ov iv v)
   release [v,ov,iv] []):=by intro _;rfl):QG X (.Subscript o i pos) (gSub to ti t):=⟨pg_sub ho.run hi.run hs ha⟩
theorem qcv9{l:Expr}{tl:TE}(hl:QE X l tl):QI X tg l (iList X.K tl):=⟨pi_list hl.run⟩
theorem qi_tup{l:Expr}{tl:TE}(hl:QE X l tl):QI X tg l (iTup X.K tl):=⟨pi_tup hl.run⟩
theorem qdy9{tg:Expr}{ta:TA}(hg:Gl X "range")(hm:X.mg "range"=none)(ha:QA X [a] ta)(h:qbt9 a=true:=by rfl):QI X tg (.Call (.Name "range" p) [a] [] pos) (iRng1 ta):=⟨pi_range1 hg hm ha.run (se_of h)⟩
theorem qaa9:QA X [] tNil:=⟨pa_nil⟩
theorem qa_c{t:TA}(ha:QE X e te)(hr:QA X es t)(h:qbt9 e=true:=by rfl):QA X (e::es) (tCons te t):=⟨pa_c ha.run hr.run h⟩
theorem qv(i:Nat)(hN:X.N[i]?=some x:=by rfl)(hv:Vis X.env.scope x:=by first|exact zai rfl|exact zct (zai rfl)|exact zct (zct rfl))(hd:(x==("__debug__":Str))=false:=by decide)
  (hcd:(x==("__classdict__":Str))=false:=by decide):QE X (.Name x pos) (tVar i):=⟨pe_var hN hv hd hcd⟩
theorem qfk9{v:V}{u:Value}(hg:Gl X x)(hm:X.mg x=none)(hv:bootBuiltins x=some u)(r:RelV v u)(hn:x≠"__name__" := by decide)(hd:(x==("__debug__":Str))=false:=by decide):QE X (.Name x pos) (tC v):=⟨pe_bltn hg hm hv r hn hd⟩
theorem qac9{i:Int}:QE X (.Constant (.int i) j pos) (tC (.int i)):=⟨pe_int⟩
theorem qe_bl{b:Bool}:QE X (.Constant (.bool b) j pos) (tC (.bl b)):=⟨pe_bl⟩
theorem qen9:QE X (.Constant .none j pos) (tC .non):=⟨pe_non⟩
theorem qkb9:QE X (.Constant (.str x) j pos) (tC (.str x)):=⟨pe_str⟩
theorem qe_op{op:Operator}(ho:QOp X (binaryOp op) r)(ha:QE X a ta)(hb:QE X b tb):QE X (.BinOp a op b pos) (tOp r ta tb):=⟨pe_op ho.run ha.run hb.run⟩
theorem qem9(ha:QE X a ta):QE X (.UnaryOp .USub a pos) (tUn (rU λ i=>.int (-i)) ta):=⟨pe_un un_neg ha.run⟩
theorem qe_not(ha:QE X a ta):QE X (.UnaryOp .Not a pos) (tNotV ta):=⟨pe_not ha.run⟩
theorem qe_isN(ha:QE X a ta):QE X (.Compare a [.Is] [.Constant .none j pos'] pos) (tIsN ta):=⟨pe_cmp (pc_isN ha.run)⟩
theorem qt_isN(ha:QE X a ta):QT X (.Compare a [.Is] [.Constant .none j pos'] pos) (tB (tIsN ta)):=⟨pt_cmp (pc_isN ha.run)⟩
theorem qpo9(ha:QE X a ta):QT X (.Compare a [.IsNot] [.Constant .none j pos'] pos) (tB (tNotN ta)):=⟨pt_cmp (pc_notN ha.run)⟩
theorem qja9(ho:QOp X (compareOp op) r)(ha:QE X a ta)(hb:QE X b tb)(hm:behindInMarks op b=false):QE X (.Compare a [op] [b] pos) (tOp r ta tb):=⟨qnk9 ho.run ha.run hb.run hm⟩
theorem qam9(ho:QOp X (compareOp op) r)(ha:QE X a ta)(hb:QE X b tb)(hm:behindInMarks op b=false):QT X (.Compare a [op] [b] pos) (tTest (tOp r ta tb)):=⟨pt_cmpR ho.run ha.run hb.run hm⟩
theorem qe_chain(ho:QOp X (compareOp op) r)(ho':QOp X (compareOp op') r')(ha:QE X a ta)(hb:QE X b tb)(hc:QE X c tc)(hm:lastMarks [op,op'] [b,c]=false:=by with_unfolding_all rfl) :
  QE X (.Compare a [op,op'] [b,c] pos) (tChain r r' ta tb tc):=⟨pe_chain ho.run ho'.run ha.run hb.run hc.run hm⟩
theorem qnr9(ho:QOp X (compareOp op) r)(ho':QOp X (compareOp op') r')(ha:QE X a ta)(hb:QE X b tb)(hc:QE X c tc)(hm:lastMarks [op,op'] [b,c]=false:=by with_unfolding_all rfl) :
  QT X (.Compare a [op,op'] [b,c] pos) (tTest (tChain r r' ta tb tc)):=⟨pt_chain ho.run ho'.run ha.run hb.run hc.run hm⟩
theorem qe_chain3{op'':CmpOp}{r'':R2}(ho:QOp X (compareOp op) r)(ho':QOp X (compareOp op') r')(ho'':QOp X (compareOp op'') r'')(ha:QE X a ta)(hb:QE X b tb)(hc:QE X c tc)(hd:QE X d td)(hm:lastMarks [op,op',op''] [b,c,d]=false:=by with_unfolding_all rfl) :
  QE X (.Compare a [op,op',op''] [b,c,d] pos) (tChain3 r r' r'' ta tb tc td):=⟨pe_chain3 ho.run ho'.run ho''.run ha.run hb.run hc.run hd.run hm⟩
theorem qiz9{op:BoolOp}(h:QE X a ta):QE X (.BoolOp op [a] pos) ta:=⟨pe_one h.run⟩
theorem qie9{rest:List Expr}(ha:QE X a ta)(hb:QE X (.BoolOp .And (b::rest) pos) tb):QE X (.BoolOp .And (a::b::rest) pos) (tAndV ta tb):=⟨pe_and ha.run hb.run⟩
theorem qe_or{rest:List Expr}(ha:QE X a ta)(hb:QE X (.BoolOp .Or (b::rest) pos) tb):QE X (.BoolOp .Or (a::b::rest) pos) (tOrV ta tb):=⟨pe_or ha.run hb.run⟩
theorem qlo9(ha:QT X a tA):QW X (.BoolOp .And [a] pos) tA:=⟨pw_and1 ha.run⟩
theorem qer9(ha:QT X a tA):QW X (.BoolOp .Or [a] pos) tA:=⟨pw_or1 ha.run⟩
theorem qnj9{rest:List Expr}(ha:QT X a tA)(hb:QW X (.BoolOp .And (b::rest) pos) tB'):QW X (.BoolOp .And (a::b::rest) pos) (tAnd tA tB'):=⟨pw_and ha.run hb.run⟩
theorem qw_or{rest:List Expr}(ha:QT X a tA)(hb:QW X (.BoolOp .Or (b::rest) pos) tB'):QW X (.BoolOp .Or (a::b::rest) pos) (tOr tA tB'):=⟨pw_or ha.run hb.run⟩
theorem QW.pt(h:QW X e tt):QT X e tt:=⟨h.run.pt⟩
theorem qea9(ha:QT X a tA):QT X (.UnaryOp .Not a pos) (tNot tA):=⟨pt_not ha.run⟩
theorem qcb9(h:QE X e te)(he:∀whole,isTrue e X.env whole=(do let v <- whole;standAt e.pos;holding [v] (truthy v)):=by intro _;rfl):QT X e (tB te):=⟨pt_val h.run he⟩
theorem qhb9(h:QT X e tt):QT X e (tCutT tt):=⟨pt_cut h.run⟩
theorem qkt9(h:QE X e te):QE X e (tCutE te):=⟨pe_cut h.run⟩
theorem qdt9(hc:QT X c tA)(ha:QE X a ta)(hb:QE X b tb):QE X (.IfExp c a b pos) (tIf tA ta tb):=⟨pe_ifExp hc.run ha.run hb.run⟩
theorem qbd9{t:TA}{x1:Nat}(h:QA X es t):QE X (.Tuple es x1 pos) (tTup t):=⟨pe_tup h.run⟩
theorem qbj9{t:TA}(h:QA X es t):QE X (.List es pos) (tLst t):=⟨pe_lst h.run⟩
theorem qe_ix(hr:QIx X r)(ha:QE X a ta)(hb:QE X b tb)(hs:PlainIx b):QE X (.Subscript a b pos) (tOp r ta tb):=⟨pe_ix hr.run ha.run hb.run hs⟩
theorem qgb9:QO X none tNoPart:=⟨po_none⟩
theorem qga9(h:QE X e te):QO X (some e) (tPart te):=⟨po_some h.run⟩
theorem qjh9{lo hi:Option Expr}{tl th:TO}{p2:Pos}(he:QE X e te)(hl:QO X lo tl)(hu:QO X hi th):QE X (.Subscript e (.Slice lo hi none p2) pos) (tSl (rSlL X.K) te tl th):=⟨pe_slice sl_list he.run hl.run hu.run⟩
theorem qe_cb{t:TA}{id:String}{r:List V->Hp->VK->Prop}(hc:QCall X (.builtin id) r)(hg:Gl X x)(hm:X.mg x=none)(hv:bootBuiltins x=some (.builtin id))(ha:QA X (e::es) t)(hn:x≠"__name__" := by decide)(hdb:(x==("__debug__":Str))=false:=by decide)
  (he:qbt9 e=true:=by rfl) (hpl:es.all qbt9=true:=by rfl):QE X (.Call (.Name x p) (e::es) [] pos) (tCB r t):=⟨pe_cb hc.run hg hm hv ha.run hn hdb he hpl⟩
theorem qe_ct{t:TA}{T:String}{r:List V->Hp->VK->Prop}(hc:QCall X (.type T) r)(hg:Gl X x)(hm:X.mg x=none)(hv:bootBuiltins x=some (.type T))(ha:QA X (e::es) t)(hn:x≠"__name__" := by decide)(hdb:(x==("__debug__":Str))=false:=by decide)
  (he:qbt9 e=true:=by rfl) (hpl:es.all qbt9=true:=by rfl):QE X (.Call (.Name x p) (e::es) [] pos) (tCB r t):=⟨pe_ct hc.run hg hm hv ha.run hn hdb he hpl⟩
theorem qe_fn{k:Nat}{t:TA}(C:Callee X.prog X.w X.K X.mg X.base k x ps sp)(hr:Room k X.A)(hg:Gl X x)(ha:QA X (e::es) t)(hdb:(x==("__debug__":Str))=false:=by decide)
  (he:qbt9 e=true:=by rfl) (hpl:es.all qbt9=true:=by rfl):QE X (.Call (.Name x p) (e::es) [] pos) (tCall sp [] E0 t):=⟨pe_fn C hr hg ha.run hdb he hpl⟩
theorem qbv9{o:Expr}{to:TE}{t:TA}{apos:Pos}(ho:QE X o to)(ha:QA X [e] t)(h:qbt9 e=true:=by rfl)(hbase:attributeBase o "append" X.env (eval o X.env)=eval o X.env:=by rfl)(hline:(apos.endLine==pos.line)=true:=by rfl) :
  QE X (.Call (.Attribute o "append" apos) [e] [] pos) (tBM X.K "list" rAppend to t) :=
 ⟨pe_bm PySem.F.plainAttrs_list PySem.F.slot_list_append PySem.F.type_list_append qgj9 ho.run ha.run hbase (by rw[se_of h];rfl) hline (se_of h) rfl⟩
end
theorem qav9:QOp X (binaryOp .Add) (rI0 λ i j=>.int (i+j)):=⟨op_add⟩
theorem qdf9:QOp X (binaryOp .Sub) (rI0 λ i j=>.int (i-j)):=⟨op_sub⟩
theorem qlm9:QOp X (binaryOp .Mult) (rI CMul λ i j=>.int (i*j)):=⟨op_mul⟩
theorem qbb9:QOp X (binaryOp .FloorDiv) (rI CDivB λ i j=>.int (i/j)):=⟨op_fdivB⟩
theorem qba9:QOp X (binaryOp .Mod) (rI (λ _ j=>0<j) λ i j=>.int (i%j)):=⟨op_mod⟩
theorem qfm9:QOp X (binaryOp .Pow) (rI CPow λ i j=>.int (i ^ j.toNat)):=⟨op_pow⟩
theorem qcf9:QOp X (compareOp .Eq) rEq:=⟨op_eq⟩
theorem qop_ne:QOp X (compareOp .NotEq) rNe:=⟨op_ne⟩
theorem qel9:QOp X (compareOp .Lt) (rI0 λ i j=>.bl (decide (i<j))):=⟨op_lt⟩
theorem qhe9:QOp X (compareOp .LtE) (rI0 λ i j=>.bl (decide (i<=j))):=⟨op_le⟩
theorem qgs9:QOp X (compareOp .Gt) (rI0 λ i j=>.bl (decide (j<i))):=⟨op_gt⟩
theorem qop_ge:QOp X (compareOp .GtE) (rI0 λ i j=>.bl (decide (j<=i))):=⟨op_ge⟩
theorem qpd9(hu:X.A.units+64<cLine):QOp X (compareOp .Eq) (rEqD X.K):=⟨op_eqD hu⟩
theorem qaj9:QIx X (rIxL X.K):=⟨ix_list⟩
theorem qas9:QIx X (rIxT X.K):=⟨ix_tup⟩
theorem qap9:QCall X (.builtin "len") (λ xs H Q=>∃p ys,xs=[.ref p]/\(SqL X.K H p ys\/SqT X.K H p ys)/\Q (.int ys.length) H):=⟨qko9⟩
theorem qgn9(hc:X.calm=true):QCall X (.builtin "max") (λ xs H Q=>∃i j,xs=[.int i,.int j]/\Q (.int (if j>i then j else i)) H):=⟨call_max2 hc⟩
theorem qdw9(hc:X.calm=true):QCall X (.builtin "min") (λ xs H Q=>∃i j,xs=[.int i,.int j]/\Q (.int (if j<i then j else i)) H):=⟨call_min2 hc⟩
theorem qde9:QCall X (.builtin "isinstance") (λ xs H Q=>∃x T t b,xs=[x,.ty T]/\TyOf X.K H x t/\W.kitOne X.K t (.type T)=some b/\Q (.bl b) H):=⟨call_isi⟩
theorem qfa9(hc:X.calm=true):QCall X (.builtin "all") (λ xs H Q=>∃(p:Addr)(bs:List Bool),xs=[.ref p]/\SqL X.K H p (bs.map V.bl)/\Q (.bl (bs.all id)) H):=⟨call_all hc⟩
theorem qgv9:QCall X (.type "list") (λ xs H Q=>∃p ys,xs=[.ref p]/\(SqL X.K H p ys\/SqT X.K H p ys)/\∀l,H l=none->Q (.ref l) (upd H l (.lst ys))):=⟨qjs9⟩
theorem qhu9:QCall X (.type "tuple") (λ xs H Q=>∃p ys,xs=[.ref p]/\((SqL X.K H p ys/\∀l,H l=none->Q (.ref l) (upd H l (.tup ys)))\/(SqT X.K H p ys/\Q (.ref p) H))):=⟨qjg9⟩
theorem Fun.okQ{qual:Str}{k:Nat}(F:Fun K x qual st f fd)(S:FnScope N ps (qad9 st))(len:∀vs H Q E,sp vs H Q E->vs.length=ps.length)
  (hbody:∀(cdv:Value)(A:Around)(outer:List Env)(s:Shared)(H:Hp)(vs:List V)(Q:VK)(E:XK),Room k (A.deeper (envOfC qual (qad9 st) s.heap.objs.size f cdv))->sp vs H Q E ->
   ∃t,QSs (cxOf CX0 P w K mg base N qual (qad9 st) f cdv A outer s H E).nox (qag9 st) t/\t { nx:=λ _ H'=>Q .non H',rt:=Q } (start N vs) H):FnOk P w K mg base CX0 (k+1) f fd ps sp:=by
 refine F.ok S len λ cdv A outer s H vs Q E hr h=>?_
 obtain⟨t,h1,h2⟩:=hbody cdv A outer s H vs Q E hr h
 exact⟨t,h1.run,h2⟩
structure SubL(cl cells:List (Str×Addr)):Prop where
 to:∀x c,cl.lookup x=some c->cells.lookup x=some c
theorem subN{cells:List (Str×Addr)}:SubL [] cells:=⟨λ _ _ e=>nomatch e⟩
theorem subC{c:Addr}{cl cells:List (Str×Addr)}(h:cells.lookup x=some c)(r:SubL cl cells):SubL ((x,c)::cl) cells:=⟨λ y d e=>by
 rw[zcj] at e
 cases q:y==x with
 |true=>rw[q] at e;cases e;rw[eq_of_beq q];exact h
 |false=>rw[q] at e;exact r.to y d e⟩
section
variable {cl:List (Str×Addr)}{elt:Expr}
theorem qej9(N':List Str)(caps:List (Option Nat))(B:BlkOk X N' scope cl caps)(hc:X.calm=true)(hi:QI X tg iter wi)(hg:∀C s0 H0 fp,QG (blk X N' scope cl C s0 H0 fp) tg g)(he:∀C s0 H0 fp,QE (blk X N' scope cl C s0 H0 fp) elt te)
  (hs:∀x,foldedSetIterable iter X.env x=pure x:=by intro _;rfl):QE X (.ListComp elt [⟨tg,iter,[],0⟩] scope pos) (tComp wi caps g tTrue te):=⟨pe_comp B hc hi.run (λ C s0 H0 fp=>(hg C s0 H0 fp).run) (λ C s0 H0 fp=>(he C s0 H0 fp).run) hs⟩
theorem qe_compIf(N':List Str)(caps:List (Option Nat))(B:BlkOk X N' scope cl caps)(hc:X.calm=true)(hi:QI X tg iter wi)(hg:∀C s0 H0 fp,QG (blk X N' scope cl C s0 H0 fp) tg g)(ht:∀C s0 H0 fp,QT (blk X N' scope cl C s0 H0 fp) c tt)
  (he:∀C s0 H0 fp,QE (blk X N' scope cl C s0 H0 fp) elt te) (hs:∀x,foldedSetIterable iter X.env x=pure x:=by intro _;rfl):QE X (.ListComp elt [⟨tg,iter,[c],0⟩] scope pos) (tComp wi caps g tt te) :=
 ⟨pe_compIf B hc hi.run (λ C s0 H0 fp=>(hg C s0 H0 fp).run) (λ C s0 H0 fp=>(ht C s0 H0 fp).run) (λ C s0 H0 fp=>(he C s0 H0 fp).run) hs⟩
end
theorem qpl9(K:W.Frag)(hK:X.K=K){k:Nat}{t:TGs}(hc:X.calm=true)(h:QGs X es t)
  (hn:(assignEach es X.env).length=n:=by rfl) (hst:(assignEach es X.env).findIdx? (·.1)=none:=by rfl):QG X (.Tuple es k pos) (gTup K n t):=by
 subst hK
 exact qgw9 hc h hn hst
theorem qix_listK(K:W.Frag)(hK:X.K=K):QIx X (rIxL K):=by subst hK;exact qaj9
theorem qkc9(K:W.Frag)(hK:X.K=K):QIx X (rIxT K):=by subst hK;exact qas9
inductive tClo(i:Nat)(f:Addr)(sp:Sp)(t:TA)(σ:St)(H:Hp)(Q:VK):Prop
 |mk  : σ[i]?=some (some (.ref f))->(t σ H λ vs H1=>sp (vs++[]) H1 Q E0)->tClo i f sp t σ H Q
section
variable {k:Nat}
theorem pe_clo(i:Nat)(G:FnOk X.prog X.w X.K X.mg X.base CX0 k f fd ps sp)(hr:Room k X.A)(hb:Binds X.K fd ps [])(ho:W.FnAt f X.base)(ha:PA X (e::es) t)(hN:X.N[i]?=some x:=by rfl)
  (hv:Vis X.env.scope x:=by first|exact zai rfl|exact zct (zai rfl)|exact zct (zct rfl)) (hd:(x==("__debug__":Str))=false:=by decide) (hcd:(x==("__classdict__":Str))=false:=by decide)
  (he:starEach (e::es) X.env=(false,eval e X.env)::starEach es X.env:=by rfl) (hpl:(backTo pos (starEach es X.env)).any (·.1)=false:=by rfl) :
  PE X (.Call (.Name x p) (e::es) [] pos) (tClo i f sp t):=by
 intro pins s σ H Q I h
 obtain⟨hσ,h⟩:=h
 have fa:∀{H':Hp}{s':Shared},Inv X pins σ H' s'->W.FnAt f s'.heap:=λ {H' s'} J=>by
  obtain⟨oc,od,fd',sl,e0⟩:=ho
  exact⟨oc,od,fd',sl,J.bk _ _ e0⟩
 refine wpAny_Call_Name_kw (thn (pe_var (pos:=p) hN hv hd hcd pins s σ H (λ v H'=>v=.ref f/\H'=H) I ⟨_,hσ,rfl,rfl⟩) λ u s1 z9=>?_)
 obtain⟨v,H',I1,r,e1,e2⟩ := z9
 subst e1 e2
 cases r
 refine W.callWith_F (fa I1) (thn (ha pos pins s1 σ H' _ I1 h) λ us s2 ⟨vs,H2,I2,r2,q⟩=>⟨fa I2,?_⟩) he hpl
 exact run_fn G hr hb .nil pass0 I2 r2 q
end
def CodeQ(c:Addr)(qual:Str):Heap->Prop:=λ h=>h.CodeRec (.ref c) qual
def cxLam(P:Program)(w:World)(K:W.Frag)(mg:Str->Option Value)(base:Heap)(N:List Str)(qual:Str)(scope:Scope)(f:Addr)(cd:Value)(clos:List (Str×Addr))(A:Around)(outer:List Env)(s:Shared)(H:Hp):Cx where
 prog:=P
 w:=w
 K:=K
 mg:=mg
 base:=base
 A:=A.deeper (W.envX qual scope s.heap.objs.size f cd clos)
 N:=N
 s₀:=s
 H₀:=H
 env:=W.envX qual scope s.heap.objs.size f cd clos
 outer:=outer
 stack:=W.envX qual scope s.heap.objs.size f cd clos::outer
 ex:=[]
 calm:=true
 fn:=λ _=>false
 pn:=[]
 xe:=λ _ _=>False
structure LamScope(N ps:List Str)(sc:Scope)(clos:List (Str×Addr)):Prop where
 kind:sc.kind=.function
 co:sc.isCoroutine=false
 gen:sc.isGenerator=false
 nd:ps.Nodup
 pre:N.take ps.length=ps
 par:∀x∈ps,sc.names.lookup x=some .local
 nocell:∀y∈sc.names,y.2 ≠ .cell
 has:∀x,sc.names.lookup x=some .free->∃c,clos.lookup x=some c
 inj:∀x y c,clos.lookup x=some c->clos.lookup y=some c->x=y
def qim9(base:Heap)(sc:Scope)(clos:List (Str×Addr))(N ps:List Str)(cs:List V):Prop :=
 N.length=ps.length+cs.length/\(∀x c,clos.lookup x=some c->∃v,base.IsCell c v) /\
 ∀i x v,N[ps.length+i]?=some x->cs[i]?=some v->sc.names.lookup x=some .free/\∃c u,clos.lookup x=some c/\base.IsCell c (some u)/\RelV v u
theorem qil9:∀{ps:List Str}{us:List Value}{i:Nat}{x:Str}{u:Value},ps.Nodup->ps[i]?=some x->us[i]?=some u->((ps.zip us).reverse.lookup x)=some u:=by
 intro ps
 induction ps with
 |nil=>intro us i x u _ h;cases i<;>cases h
 |cons p ps ih =>
  intro us i x u nd h1 h2
  cases us with
  |nil=>cases i<;>cases h2
  |cons w us =>
   rw[List.zip_cons_cons,zfr,List.lookup_append]
   cases i with
   |zero =>
    have e1:p=x:=Option.some.inj h1
    have e2:w=u:=Option.some.inj h2
    subst e1 e2
    have hn:(ps.zip us).reverse.lookup p=none:=by
     rw[List.lookup_eq_none_iff]
     intro q hq
     have hq':=List.mem_reverse.mp hq
     have:=(zdo (a:=q.1) (b:=q.2) hq').1
     exact bne_iff_ne.mpr λ e=>(zbl.mp nd).1 (by rw[e];exact this)
    rw[hn]
    simp
   |succ i =>
    have q:=ih (zbl.mp nd).2 (by simpa using h1) (by simpa using h2)
    rw[q]
    rfl
theorem lam_ok{k:Nat}{name qual:Str}{params:Arguments}{body:Expr}{sc:Scope}{clos:List (Str×Addr)}{pm ctv:Value}{c':Addr}{cs:List V}
  (ho:base.get? f=some (W.kla_obj name qual params body sc clos pm c' ctv)) (hcd:∀vs H Q E,sp vs H Q E->H c'=some (.ext (CodeQ c' qual))) (S:LamScope N ps sc clos) (C:qim9 base sc clos N ps cs) (len:∀vs H Q E,sp vs H Q E->vs.length=ps.length)
  (hbody:∀(A:Around)(outer:List Env)(s:Shared)(H:Hp)(vs:List V)(Q:VK)(E:XK),Room k (A.deeper (W.envX qual sc s.heap.objs.size f (.ref c') clos))->sp vs H Q E ->
   ∃t,PE (cxLam P w K mg base N qual sc f (.ref c') clos A outer s H) body t/\t (vs.map some++cs.map some) H Q) :
  FnOk P w K mg base CX0 (k+1) f (W.kla_fn name qual params body sc clos pm (.ref c') ctv) ps sp:=by
 refine⟨len,λ A outer s H args us vs Q E hr e0 hb r hsp=>?_⟩
 have hl:=len _ _ _ _ hsp
 have bk:∀b o,base.get? b=some o->s.heap.get? b=some o:=λ b o e=>(e0.bs b o e).1
 have lim:s.heap.NoLimit:=e0.mod.nolimit.keeps bk
 refine W.kla_callFunE hr.depth (bk _ _ ho) rfl S.co S.gen rfl (e0.hok c' _ (hcd _ _ _ _ hsp)).1 (hb _ _ _ _ ?_)
 refine wpAny_newFunctionEnv S.nocell (λ y hy=>S.par y.1 (zdo (a:=y.1) (b:=y.2) hy).1) (λ h1 hn1 sb1=>?_) S.kind
 have k1:∀b o,s.heap.get? b=some o->h1.get? b=some o:=λ b o e=>sb1.extBut b o (zaz (zaq e)) (zad _ e)
 refine⟨lim.keeps k1,W.kla_codeExpr ?_⟩
 obtain⟨t,ht,hq⟩:=hbody A outer s H vs Q E (hr.deeper _) hsp
 have ul:us.length=ps.length:=by rw[<- r.length];exact hl
 have I:Inv (cxLam P w K mg base N qual sc f (.ref c') clos A outer s H) [] (vs.map some++cs.map some) H { s with heap:=h1,toks:=s.toks+(ps.zip us).length }:=by
  have noA:∀b:Addr,b∉(cxLam P w K mg base N qual sc f (.ref c') clos A outer s H).ex:=λ b z=>absurd (show b∈([]:List Addr) from z) (by simp)
  have cl:∀x c,clos.lookup x=some c->∃v,base.IsCell c v:=C.2.1
  refine⟨⟨e0.mod,S.kind,rfl,rfl,zaj _,S.inj,λ y hy=>?_,λ _ _ z=>(nomatch z),λ _=>hr.hd,Around.frames_deeper e0.frames,.inr ⟨rfl,rfl⟩,λ b z=>absurd z (noA b),e0.bs,e0.bsz,λ b _ _=>noA b,λ b z=>absurd z (noA b),e0.funs,e0.frf⟩,
   rfl,e0.bare,Un.kept k1,⟨_,hn1,λ i y v h1' h2 h3=>?_⟩,λ y c h=>?_,e0.hok.fresh (zaj _),λ y c h=>?_,λ p hp=>absurd (show p∈([]:List (Addr×Obj)) from hp) (by simp),e0.hok.kept k1,?_⟩
  ·have hy:sc.names.lookup y=some .cell\/sc.names.lookup y=some .free:=hy
   rcases hy with hy|hy
   ·exact absurd rfl (S.nocell _ (PySem.mem_of_lookup hy))
   ·exact S.has y hy
  ·by_cases hi:i<vs.length
   ·rw[zao (by simpa using hi),zaf] at h2
    have ha:vs[i]?=some v:=by
     cases e:vs[i]? with
     |none=>rw[e] at h2;cases h2
     |some a=>rw[e] at h2;cases h2;rfl
    obtain⟨u,hu,rv⟩:=r.get ha
    have hp:ps[i]?=some y:=by
     rw[<- S.pre,zdg ⋯]
     exact h1'
    exact⟨u,rv,.inl ⟨S.par y (zac hp),qil9 S.nd hp hu⟩⟩
   ·rw[zan (by simpa using hi),zaf,zah] at h2
    have ha:cs[i-vs.length]?=some v:=by
     cases e:cs[i-vs.length]? with
     |none=>rw[e] at h2;cases h2
     |some a=>rw[e] at h2;cases h2;rfl
    have hN:N[ps.length+(i-vs.length)]?=some y:=by
     rw[<- hl,show vs.length+(i-vs.length)=i by omega]
     exact h1'
    obtain⟨fr,c,u,e1,e2,rv⟩:=C.2.2 _ y v hN ha
    exact⟨u,rv,.inr ⟨.inr fr,c,e1,(e2.keeps bk).keeps k1⟩⟩
  ·obtain⟨v,q⟩:=cl y c h
   exact⟨v,(q.keeps bk).keeps k1⟩
  ·obtain⟨v,o,q,_⟩:=cl y c h
   exact(e0.bs _ _ q).2
  ·show(vs.map some++cs.map some).length=N.length
   rw[zal,zah,zah,C.1,hl]
 refine wpAny_mono (ht [] _ _ H Q I hq) (λ u s' hs=>?_) λ _ _ z=>z.elim
 obtain⟨v,H',J,rv,q⟩:=hs
 exact⟨v,H',J.os,J.bare,J.base,J.hok,rv,q⟩
def TabOk(H:Hp)(P:Addr)(pos:Pos)(qual:Str):Prop :=
 ∃ps:Array Value,H P=some (.tbl ps)/\TriplesOk ps.toList/\(codeAmong pos ps.toList=none\/∃c,codeAmong pos ps.toList=some (.ref c)/\H c=some (.ext (CodeQ c qual)))
def SameT(P:Addr)(H H':Hp):Prop:=∀b o,H b=some o->b≠P->H' b=some o
def BMain(mg:Str->Option Value)(base:Heap):Prop:=∃bm ob,mg "__builtins__"=some (.ref bm)/\bm≠builtinsNs/\base.get? bm=some ob/\ob.cls=.type "module" /\ ob.dict=some builtinsNs/\ob.data=.plain
def fixed(X:Cx)(H:Hp)(h:Heap):Heap:=W.hideAll h (trk h H++frs X.stack)
theorem mem_trk{h:Heap}:b∈trk h H↔b<h.objs.size/\(H b).isSome=true:=by
 unfold trk
 rw[zew,zcz]
theorem qfi9(e:s.heap.get? b=some o)(n:H b=none)(nf:b∉frs X.stack):(fixed X H s.heap).get? b=some o :=
 W.hideAll_get _ e λ z=>by
  rcases zau.mp z with z|z
  ·have:=(mem_trk.mp z).2
   rw[n] at this
   cases this
  ·exact nf z
theorem of_fixed(e:(fixed X H s.heap).get? b=some o):s.heap.get? b=some o/\H b=none:=by
 have e1:=W.of_hideAll _ e
 refine⟨e1,?_⟩
 cases q:H b with
 |none=>rfl
 |some u =>
  have:(fixed X H s.heap).get? b=none:=W.hideAll_none _ (zbg _ (mem_trk.mpr ⟨zaq e1,by rw[q];rfl⟩))
  rw[this] at e
  cases e
theorem Inv.base_fixed(I:Inv X pins σ H s):∀b o,X.base.get? b=some o->(fixed X H s.heap).get? b=some o:=λ b o e=>by
 obtain⟨e1,n⟩:=I.bs b o e
 refine qfi9 e1 n λ z=>?_
 have:=(I.stack.mem z).1
 rw[this] at e
 cases e
theorem Inv.env_fixed(I:Inv X pins σ H s):Env0 X.prog X.w X.K X.mg (fixed X H s.heap) X.A X.stack s H:=by
 have k:=I.base_fixed
 obtain⟨mb,h1,h2⟩:=I.mod.blt
 refine⟨I.ok.frames,⟨I.mod.kin.keeps k,I.mod.glob.keeps k,⟨mb,h1.keeps k,h2⟩,I.mod.nolimit.keeps k⟩,λ b o e=>of_fixed e,zfs (W.hideAll_size _ _),?_,I.stkFree,I.hok,I.bare⟩
 refine W.funFrames_hide I.stack λ env he a ha=>zap _ ?_
 exact zeg.mpr ⟨env,he,ha⟩
inductive tLam(i:Nat)(P:Addr)(pos:Pos)(qual:Str)(te:TE)(spG:V->Addr->Addr->Sp)(σ:St)(H:Hp)(Q:VK):Prop
 |mk (v:_):σ[i]?=some (some v)->(te σ H λ w H1=>TabOk H1 P pos qual/\∀fl c' H2,SameT P H1 H2->TabOk H2 P pos qual->H2 c'=some (.ext (CodeQ c' qual))->spG v fl c' [w,.ref fl] H2 Q E0)->tLam i P pos qual te spG σ H Q
section
variable {k:Nat}{y:Str}{g c P cy:Addr}{gd:FuncData}{ps2:List Str}{spG:V->Addr->Addr->Sp}{e1 body:Expr}{params:Arguments}{sc:Scope}{lpos:Pos}{clos:List (Str×Addr)}
theorem qjf9(i:Nat)(hr:Room k X.A)(hg:Gl X x)(hm:X.mg x=some (.ref g))(hk:W.keepIn X.K (.ref g)=true)(hbG:Binds X.K gd ps2 [])(hl2:ps2.length=2)(hcode:X.env.code=.ref c)(hC:W.CodeHd X.base c P)(hB:BMain X.mg X.base)
  (hcl:closureFor sc X.env=pure clos) (hN:X.N[i]?=some y) (hky:X.env.kindOf y=some .cell) (hvy:Vis X.env.scope y) (hcy:X.env.cells.lookup y=some cy) (hfy:X.fn y=true) (hcly:clos.lookup y=some cy) (honly:∀z d,clos.lookup z=some d->z=y/\d=cy) (hNp:N=ps++[y]) (hsy:sc.names.lookup y=some .free)
  (h1:PE X e1 te)
  (G:∀(base':Heap)(fl c':Addr)(v:V)(pm ctv:Value),base'.get? fl=some (W.kla_obj "<lambda>" (X.env.qual++"<lambda>") params body sc clos pm c' ctv)->qim9 base' sc clos N ps [v]->FnOk X.prog X.w X.K X.mg base' CX0 k g gd ps2 (spG v fl c'))
  (hdb:(x==("__debug__":Str))=false:=by decide) (hdef:defaultsOf params X.env=([],[]):=by rfl)
  (he:starEach [e1,.Lambda params body sc lpos] X.env=(false,eval e1 X.env)::starEach [.Lambda params body sc lpos] X.env:=by rfl) (he2:starEach [.Lambda params body sc lpos] X.env=(false,eval (.Lambda params body sc lpos) X.env)::starEach [] X.env:=by rfl)
  (hpl:(backTo pos (starEach [.Lambda params body sc lpos] X.env)).any (·.1)=false:=by rfl) :
  PE X (.Call (.Name x p) [e1,.Lambda params body sc lpos] [] pos) (tLam i P lpos (X.env.qual++"<lambda>") te spG):=by
 intro pins s σ H Q I h
 obtain⟨v,hv,h⟩:=h
 refine wpAny_Call_Name_kw (qhq9 I hg hm ?_ hdb)
 refine W.callWith_K (h₀:=X.base) I.ok.mod.kin hk ?_ he hpl
 rw[he]
 show wpAny _ _ (spliced ((false,eval e1 X.env)::backTo pos (starEach [.Lambda params body sc lpos] X.env))) _ _ s
 refine Calls.spliced_cons (thn (h1 pins s σ H _ I h) λ u1 s1 z9=>?_)
 obtain⟨w1,H1,I1,r1,tab,q1⟩ := z9
 rw[he2]
 show wpAny _ _ (spliced ((false,eval (.Lambda params body sc lpos) X.env)::backTo pos (starEach [] X.env))) _ _ s1
 refine Calls.spliced_cons (W.kla_eval hdef ?_)
 have cellAt:∀{H2:Hp}{s2:Shared},Inv X pins σ H2 s2->∃u,RelV v u/\s2.heap.IsCell cy (some u):=λ {H2 s2} J=>by
  obtain⟨m,_,hl⟩:=J.loc
  obtain⟨u,ru,lk⟩:=hl i y v hN hv hvy
  rcases lk with⟨z,_⟩|⟨_,d,e',q⟩
  ·rw[hky] at z;cases z
  ·rw[hcy] at e'
   cases e'
   exact⟨u,ru,q⟩
 have fin:∀(fl c':Addr)(pm ctv:Value)(H2:Hp)(s2:Shared),Inv X pins σ H2 s2->SameT P H1 H2->TabOk H2 P lpos (X.env.qual++"<lambda>")->H2 c'=some (.ext (CodeQ c' (X.env.qual++"<lambda>"))) ->
   s2.heap.get? fl=some (W.kla_obj "<lambda>" (X.env.qual++"<lambda>") params body sc clos pm c' ctv)->H2 fl=none->fl∉frs X.stack ->
   wpAny (model X.prog X.w) X.A (spliced (backTo pos (starEach [] X.env))) (λ vs s3=>X.K.In s3.heap/\wpAny (model X.prog X.w) X.A (call (.ref g) ([]++(u1 :: .ref fl::vs))) (EP X pins σ Q) X.xe s3) X.xe s2:=by
  intro fl c' pm ctv H2 s2 I2 sm tb hc' hfl nfl nfs
  refine Calls.spliced_nil ⟨I2.kIn,?_⟩
  have hb1:=qfi9 (X:=X) hfl nfl nfs
  obtain⟨u,ru,oc,q1c,q2c⟩:=cellAt I2
  have nc:cy∉frs X.stack:=λ z=>by
   rcases zae.mp (I2.stkSub cy z) with e|e
   ·exact I2.cne y cy hcy e
   ·have lo:=I2.ok.cab y cy hfy hcy
    obtain⟨_,o,eo,_⟩:=I2.ok.funs.mem e
    exact absurd (zat (zaq eo) lo) (zcc _)
  have hb2:=qfi9 (X:=X) q1c (I2.freeC y cy hcy) nc
  have ca:qim9 (fixed X H2 s2.heap) sc clos N ps [v]:=by
   refine⟨by rw[hNp,zal];rfl,λ z d e=>?_,λ j z v' e1 e2=>?_⟩
   ·obtain⟨rfl,rfl⟩:=honly z d e
    exact⟨some u,oc,hb2,q2c⟩
   ·cases j with
    |zero =>
     have e3:v=v':=Option.some.inj e2
     subst e3
     have e4:y=z:=by
      rw[hNp,Nat.add_zero,zan (zaj _),zck] at e1
      exact Option.some.inj e1
     subst e4
     exact⟨hsy,cy,u,hcly,⟨oc,hb2,q2c⟩,ru⟩
    |succ j=>cases e2
  have F:=G _ fl c' v pm ctv hb1 ca
  have hsp:=q1 fl c' H2 sm tb hc'
  have bnd:BindsTo s2 gd ⟨[u1,.ref fl],[]⟩ (ps2.zip [u1,.ref fl]):=by
   have:=hbG s2 [u1,.ref fl] I2.kIn (by rw[hl2];rfl)
   simpa using this
  refine wpAny_call (codeAny_mono (F.run X.A X.stack s2 H2 ⟨[u1,.ref fl],[]⟩ [u1,.ref fl] [w1,.ref fl] Q E0 hr I2.env_fixed bnd (.cons r1 (.cons rfl .nil)) hsp) λ r s' hq=>?_)
  cases r with
  |error e=>exact False.elim hq
  |ok fl' =>
   cases fl' with
   |ret u=>exact I2.after hq
   |next=>exact False.elim hq
   |brk=>exact False.elim hq
   |cont=>exact False.elim hq
 obtain⟨bm,ob,b1,b2,b3,b4,b5,b6⟩:=hB
 obtain⟨ps0,hP,ht,hor⟩:=tab
 have hPo:s1.heap.get? P=some (W.tabObj ps0):=I1.hok P _ hP
 have notP:∀b o,X.base.get? b=some o->b≠P:=λ b o e z=>by
  have:=(I1.bs b o e).2
  rw[z,hP] at this
  cases this
 obtain⟨og,esg,epg,eg,dg,rg⟩:=I1.mod.glob
 have hbA:s1.heap.BuiltinsAt X.mg P:=⟨bm,ob,b1,b2,(λ z=>by rw[z,eg] at b3;cases b3;rw[b6] at dg;cases dg),notP _ _ b3,I1.bk _ _ b3,b4,b5,b6⟩
 have gl:s1.heap.Ns mainGlobals X.mg:=I1.mod.glob.keeps I1.bk
 rcases hor with hnf|⟨c',hf,hc'⟩
 ·refine W.kla_makeFunction (mg:=X.mg) hcl I1.ok.glob gl hcode (hC.keeps I1.bk) hPo ht hnf (notP _ _ eg) hbA λ c' ctv h' tk hx hge hlt hrec htb=>?_
  have ltP:P<s1.heap.objs.size:=zaq hPo
  have neP:P≠c':=zaz (zat ltP hge)
  have nc':H1 c'=none:=I1.hok.fresh hge
  have old:∀b o,b≠P->s1.heap.get? b=some o->(h'.push (W.kla_obj "<lambda>" (X.env.qual++"<lambda>") params body sc clos ((X.mg "__name__").getD .none) c' ctv)).get? b=some o:=λ b o n e=>zad _ (hx b o n e)
  have kP:∀b o,H1 b=some o->(∀z,o ≠ .tbl z)->b≠P:=λ b o e n z=>by rw[z,hP] at e;exact n ps0 (Option.some.inj e).symm
  have up:∀b o,H1 b=some o->b≠P->upd (upd H1 c' (.ext (CodeQ c' (X.env.qual++"<lambda>")))) P (.tbl (ps0 ++ #[rawInt lpos.line,rawInt lpos.col,.ref c'])) b=some o:=λ b o e n=>by
   rw[qaq9 n,qaq9 (qbc9 e nc')]
   exact e
  have upN:∀b,H1 b=none->b≠c'->upd (upd H1 c' (.ext (CodeQ c' (X.env.qual++"<lambda>")))) P (.tbl (ps0 ++ #[rawInt lpos.line,rawInt lpos.col,.ref c'])) b=none:=λ b e n=>by
   rw[qaq9 (λ z=>by rw[z,hP] at e;cases e),qaq9 n]
   exact e
  have u:Un X.fs [] H1 (upd (upd H1 c' (.ext (CodeQ c' (X.env.qual++"<lambda>")))) P (.tbl (ps0 ++ #[rawInt lpos.line,rawInt lpos.col,.ref c']))) s1.heap (h'.push (W.kla_obj "<lambda>" (X.env.qual++"<lambda>") params body sc clos ((X.mg "__name__").getD .none) c' ctv)):=by
   have nP:∀b,H1 b=none->b≠P:=λ b n z=>by rw[z,hP] at n;cases n
   refine⟨λ b o e n _ _=>old b o (nP b n) e,λ b o e n _ _=>⟨o.slots,old b o (nP b n) e⟩,λ b o e n _=>upN b n (zaz (zat (zaq e) hge)),λ b o e _=>?_,λ b xs e=>up b _ e (kP b _ e λ _ z=>nomatch z),λ b o w e=>up b _ e (kP b _ e λ _ z=>nomatch z),λ b pz e=>?_⟩
   ·by_cases hb:b=P
    ·rw[hb]
     exact⟨_,zad _ htb⟩
    ·exact⟨o,old b o hb e⟩
   ·by_cases hb:b=P
    ·rw[hb] at e ⊢
     rw[hP] at e
     cases e
     exact⟨_,qaf9⟩
    ·exact⟨#[],by rw[up b _ e hb];simp⟩
  have hok:HOk X.prog X.w (upd (upd H1 c' (.ext (CodeQ c' (X.env.qual++"<lambda>")))) P (.tbl (ps0 ++ #[rawInt lpos.line,rawInt lpos.col,.ref c']))) (h'.push (W.kla_obj "<lambda>" (X.env.qual++"<lambda>") params body sc clos ((X.mg "__name__").getD .none) c' ctv)):=by
   intro b o e
   by_cases hb:b=P
   ·rw[hb,qaf9] at e
    cases e
    rw[hb]
    exact zad _ htb
   ·rw[qaq9 hb] at e
    by_cases hb2:b=c'
    ·rw[hb2,qaf9] at e
     cases e
     rw[hb2]
     obtain⟨c2,oc,vs,tq,ee,hoc,rest⟩:=hrec
     cases ee
     refine⟨⟨_,oc,vs,tq,rfl,zad _ hoc,rest⟩,⟨oc,zad _ hoc⟩,λ h1 h2 hq hk=>?_⟩
     obtain⟨c3,o3,v3,t3,e3,g3,r3⟩:=hq
     cases e3
     exact⟨_,o3,v3,t3,rfl,hk _ g3,r3⟩
    ·rw[qaq9 hb2] at e
     refine(I1.hok b o e).stay (λ d z hd q=>old d z ?_ q) (λ d q=>up d _ q (kP d _ q λ _ z=>nomatch z)) λ d xs q=>up d _ q (kP d _ q λ _ z=>nomatch z)
     rcases hd with hd|hd
     ·rw[hd];exact hb
     ·exact kP d _ hd λ _ z=>nomatch z
  have I2:=I1.un (t':=tk) u hok
  refine fin h'.objs.size c' _ ctv _ _ I2 (λ b o e n=>up b o e n) ⟨_,qaf9,?_,.inr ⟨c',?_,?_⟩⟩ ?_ (zbb _ rfl) ?_ ?_
  ·have:=TriplesOk_snoc lpos.line lpos.col (.ref c') ps0.toList ht
   simpa using this
  ·have:=codeAmong_snoc (pos:=lpos) (c:=.ref c') ps0.toList ht hnf
   simpa using this
  ·rw[qaq9 neP.symm,qaf9]
  ·rw[qaq9 neP.symm,qaf9]
  ·refine upN _ (I1.hok.fresh (zbe hge (zbu hlt))) (zfn hlt)
  ·exact λ z=>by
    rcases zae.mp (I1.stkSub _ z) with e|e
    ·exact absurd (I1.lt) (by rw[<- e];exact zej.mpr (zbe hge (zbu hlt)))
    ·exact I1.nofs (zbe hge (zbu hlt)) e
 ·refine W.kla_makeFunctionHit (mg:=X.mg) hcl I1.ok.glob gl hcode (hC.keeps I1.bk) hPo ht hf hbA λ ctv h' tk hk hsz=>?_
  have I2:Inv X pins σ H1 { s1 with heap:=h'.push { cls:=.type "function",data:=.func (W.kla_fn "<lambda>" (X.env.qual++"<lambda>") params body sc clos ((X.mg "__name__").getD .none) (.ref c') ctv) },toks:=tk }:=I1.kept (t':=tk) λ b o e=>zad _ (hk b o e)
  refine fin h'.objs.size c' _ ctv H1 _ I2 (λ b o e _=>e) ⟨ps0,hP,ht,.inr ⟨c',hf,hc'⟩⟩ hc' (zbb _ rfl) (I1.hok.fresh hsz) ?_
  exact λ z=>by
   rcases zae.mp (I1.stkSub _ z) with e|e
   ·exact absurd (I1.lt) (by rw[<- e];exact zej.mpr hsz)
   ·exact I1.nofs hsz e
end
theorem law_callT{mb:Str->Option Value}{k:Nat}{fa:Addr}{s₁:Shared}{vs:List Value}{ns:List Int}{tabs:List (Addr×Addr)}
  (KX:K.In s₁.heap) (hns:s₁.heap.Ns mainGlobals mg) (hb:s₁.heap.Ns builtinsNs mb) (hbb:∀x:Str,x≠"__name__" -> mb x=bootBuiltins x) (hlim:s₁.heap.NoLimit) (hg:s₁.gens=#[])
  (ha:s₁.heap.get? a=some { cls:=.type "list",data:=.seq vs.toArray }) (hi:IntsAre vs ns) (hl:ns.length<=sizeLine) (hr:Room k callerA) (hBM:BMain mg s₁.heap)
  (hT:∀q∈tabs,W.CodeHd s₁.heap q.1 q.2/\s₁.heap.get? q.2=some (W.tabObj #[])/\K.lookup q.2=none)
  (F:∀base:Heap,K.In base->base.Ns mainGlobals mg->BMain mg base->(∀q∈tabs,W.CodeHd base q.1 q.2)->FnOk P w K mg base CX0 k fa fd [x] sp) (hbind:∀(s:Shared)(u:Value),BindsTo s fd ⟨[u],[]⟩ [(x,u)])
  (hsp:∀H:Hp,(∀q∈tabs,H q.2=some (.tbl #[]))->SqL K H a (ns.map V.int)->sp [.ref a] H (λ v _=>v=.bl true) λ _ _ _=>False) :
  codeAny (model P w) callerA (.call (.ref fa) ⟨[.ref a],[]⟩) (λ r s'=>r=.ok (.ret (.bool true))/\OldK s₁.heap s'.heap/\s'.os=s₁.os/\AllBare s'.gens) s₁:=by
 have rv:=qkv9 hi
 have lenV:=hi.length
 have aT:∀q∈tabs,q.2≠a:=λ q hq z=>by
  have:=(hT q hq).2.1
  rw[z,ha] at this
  cases this
 have core:∀H:Hp,(∀b,H b=none\/(b=a/\K.lookup a=none/\H b=some (.frz { cls:=.type "list",data:=.seq vs.toArray } (.lst (ns.map V.int))))\/∃q∈tabs,b=q.2/\H b=some (.tbl #[]))->(∀q∈tabs,H q.2=some (.tbl #[]))->SqL K H a (ns.map V.int) ->
   codeAny (model P w) callerA (.call (.ref fa) ⟨[.ref a],[]⟩) (λ r s'=>r=.ok (.ret (.bool true))/\OldK s₁.heap s'.heap/\s'.os=s₁.os/\AllBare s'.gens) s₁:=by
  intro H hO hTb hS
  have hok:HOk P w H s₁.heap:=λ b u z=>by
   rcases hO b with e|⟨e,_,e2⟩|⟨q,hq,e,e2⟩
   ·rw[e] at z;cases z
   ·rw[e2] at z
    cases z
    subst e
    exact⟨ha,by rw[zah];exact hl,vs,_,rv,ha⟩
   ·rw[e2] at z
    cases z
    rw[e]
    exact(hT q hq).2.1
  have base_of:∀{b:Addr}{o:Obj},s₁.heap.get? b=some o->H b=none->(hidT s₁.heap H).get? b=some o:=λ e n=>hidT_get e n
  have unt:∀{b:Addr}{o:Obj},s₁.heap.get? b=some o->o.cls ≠ .type "list" -> o.cls ≠ .none->H b=none:=λ {b o} e n1 n2=>by
   rcases hO b with z|⟨z,_,_⟩|⟨q,hq,z,_⟩
   ·exact z
   ·rw[z,ha] at e;cases e;exact absurd rfl n1
   ·rw[z,(hT q hq).2.1] at e;cases e;exact absurd rfl n2
  have noA:∀{b:Addr}{o:Obj}{es:Array DictEntry}{ep:Nat},s₁.heap.get? b=some o->o.data=.dict es ep->H b=none:=λ {b o es ep} e d=>by
   rcases hO b with z|⟨z,_,_⟩|⟨q,hq,z,_⟩
   ·exact z
   ·rw[z,ha] at e;cases e;cases (show Data.seq vs.toArray _=Data.dict es ep from d)
   ·rw[z,(hT q hq).2.1] at e;cases e;cases (show Data.fields _=Data.dict es ep from d)
  have nsK:∀{b:Addr}{m:Str->Option Value},s₁.heap.Ns b m->(hidT s₁.heap H).Ns b m:=λ {b m} ⟨o,es,ep,e,d,r⟩=>⟨o,es,ep,base_of e (noA e d),d,r⟩
  have hKb:K.In (hidT s₁.heap H):=λ b o e=>base_of (KX b o e) (by
   rcases hO b with z|⟨z,zk,_⟩|⟨q,hq,z,_⟩
   ·exact z
   ·rw[z,zk] at e;cases e
   ·rw[z,(hT q hq).2.2] at e;cases e)
  have hM:Mod K mg (hidT s₁.heap H):=⟨hKb,nsK hns,⟨mb,nsK hb,hbb⟩,let ⟨mc,h1,h2⟩:=hlim;⟨mc,nsK h1,h2⟩⟩
  have hB2:BMain mg (hidT s₁.heap H):=by
   obtain⟨bm,ob,b1,b2,b3,b4,b5,b6⟩:=hBM
   exact⟨bm,ob,b1,b2,base_of b3 (unt b3 (by rw[b4];decide) (by rw[b4];intro z;cases z)),b4,b5,b6⟩
  have hC2:∀q∈tabs,W.CodeHd (hidT s₁.heap H) q.1 q.2:=λ q hq=>by
   obtain⟨o,vs',file,tf,flags,tg,inF,text,tt,e1,r1,r⟩:=(hT q hq).1
   exact⟨o,vs',file,tf,flags,tg,inF,text,tt,base_of e1 (unt e1 (by rw[r1];decide) (by rw[r1];intro z;cases z)),r1,r⟩
  have e0:Env0 P w K mg (hidT s₁.heap H) callerA [] s₁ H:=⟨rfl,hM,λ b o e=>of_hidT e,zfs (hidT_size _ _),trivial,λ b hb=>absurd (show b∈([]:List Addr) from hb) (by simp),hok,.of_eq hg⟩
  refine codeAny_mono ((F _ hKb (nsK hns) hB2 hC2).run callerA [] s₁ H ⟨[.ref a],[]⟩ [.ref a] [.ref a] _ _ hr e0 (hbind s₁ (.ref a)) (.cons rfl .nil) (hsp H hTb hS)) λ r s' h=>?_
  cases r with
  |error e=>exact False.elim h
  |ok fl =>
   cases fl with
   |next=>exact False.elim h
   |brk=>exact False.elim h
   |cont=>exact False.elim h
   |ret u =>
    obtain⟨v,H',os,bare,un,hok',r',q⟩:=h
    have q':v=.bl true:=q
    subst q'
    obtain rfl:u=Value.bool true:=r'
    have at_:∀b o,s₁.heap.get? b=some o->s'.heap.get? b=some o\/∃q∈tabs,b=q.2/\∃more,s'.heap.get? b=some (W.tabObj (#[]++more)):=λ b o e=>by
     rcases hO b with z|⟨z,_,z2⟩|⟨q,hq,z,z2⟩
     ·exact .inl (un.keep b o e z (by intro z;exact absurd (show b∈([]:List Addr) from z) (by simp)) (by simp))
     ·have z3:=un.frzs b _ _ z2
      obtain⟨e2,_⟩:=hok' b _ z3
      rw[z,ha] at e
      cases e
      exact .inl e2
     ·obtain⟨more,z3⟩:=un.tbls b _ z2
      exact .inr ⟨q,hq,z,more,hok' b _ z3⟩
    refine⟨rfl,⟨λ b o e=>?_,λ b o e=>?_⟩,os,bare⟩
    ·rcases at_ b o e with z|⟨q,hq,z,more,z2⟩
     ·exact .inl z
     ·have e2:=(hT q hq).2.1
      rw[<- z,e] at e2
      cases e2
      refine .inr (.inl ⟨?_,rfl,#[],more,rfl,z2⟩)
      rw[z]
      exact((hT q hq).1.tab (hT q hq).2.1).isCodeTable
    ·rcases at_ b o e with z|⟨q,hq,z,more,z2⟩
     ·exact⟨_,z⟩
     ·exact⟨_,z2⟩
 cases hk:K.lookup a with
 |some o =>
  have e:=KX a o hk
  rw[ha] at e
  cases e
  refine core (λ b=>if b∈tabs.map (·.2) then some (.tbl #[]) else none) (λ b=>?_) (λ q hq=>if_pos (zfe hq)) (.inr ⟨_,vs.toArray,_,hk,rfl,rfl,rfl,by rw[zar,lenV];exact hl,by simpa using rv⟩)
  by_cases hb:b∈tabs.map (·.2)
  ·obtain⟨q,hq,e⟩:=zbi.mp hb
   exact .inr (.inr ⟨q,hq,e.symm,if_pos hb⟩)
  ·exact .inl (if_neg hb)
 |none =>
  have na:a∉tabs.map (·.2):=λ z=>by
   obtain⟨q,hq,e⟩:=zbi.mp z
   exact aT q hq e
  refine core (λ b=>if b∈tabs.map (·.2) then some (.tbl #[]) else if b=a then some (.frz { cls:=.type "list",data:=.seq vs.toArray } (.lst (ns.map V.int))) else none) (λ b=>?_) (λ q hq=>if_pos (zfe hq)) (.inl (.inr ⟨{ cls:=.type "list",data:=.seq vs.toArray },?_⟩))
  ·by_cases hb:b∈tabs.map (·.2)
   ·obtain⟨q,hq,e⟩:=zbi.mp hb
    exact .inr (.inr ⟨q,hq,e.symm,if_pos hb⟩)
   ·by_cases hb2:b=a
    ·exact .inr (.inl ⟨hb2,hk,by rw[if_neg hb,if_pos hb2]⟩)
    ·exact .inl (by rw[if_neg hb,if_neg hb2])
  ·show(if a∈tabs.map (·.2) then _ else _)=_
   rw[if_neg na,if_pos rfl]
theorem walk_ofT{l:W.OpenLaw}{k:Nat}{q:Program}{loose:List Str}{XP:(Str->Option Value)->Heap->Prop}{YP:World->Heap->Prop}{d:DefRec}{K:Params->W.Frag}{sp:W.Frag->List (Addr×Addr)->Sp}
  (hn:l.most=some n) (hn2:n<=sizeLine) (hdf:d.params.defaults=[]) (hr:Room k callerA)
  (hY:∀(w:World)(h:Heap),YP w h->(K w.params).In h)
  (F:∀(w:World)(mg mb:Str->Option Value)(mean:ExcName->Option Value)(fa:Addr)(h:Heap),(K w.params).In h->Top q (W.looseW q loose) mean mg mb h->mg d.name=some (.ref fa) ->
   ∃(fd:FuncData) (tabs:List (Addr×Addr)),(∀(s:Shared)(u:Value),BindsTo s fd ⟨[u],[]⟩ [(x,u)])/\(∀t∈tabs,W.CodeHd h t.1 t.2/\h.get? t.2=some (W.tabObj #[])/\(K w.params).lookup t.2=none) /\
    ∀base:Heap,(K w.params).In base->base.Ns mainGlobals mg->BMain mg base->(∀t∈tabs,W.CodeHd base t.1 t.2)->FnOk l.prog w (K w.params) mg base CX0 k fa fd [x] (sp (K w.params) tabs))
  (hsp:∀(K:W.Frag) (tabs:List (Addr×Addr)) (H:Hp) (a:Addr) (ns:List Int),ns.length<=n->(∀t∈tabs,H t.2=some (.tbl #[]))->SqL K H a (ns.map V.int)->sp K tabs [.ref a] H (λ v _=>v=.bl true) λ _ _ _=>False) :
  W.WalkO q loose XP YP l.row.toRowW d [] (λ f vs=>PySem.call f vs):=by
 refine Att.attach_call hn hdf λ w s₀ s₁ mg mb fa o pm cd doc a vs ns G Y ho hd hcd hmg hobj hints hlen hg=>?_
 have KX:=hY w _ Y
 obtain⟨fd,tabs,hb,hT,hF⟩:=F w mg mb _ fa _ KX G.T hmg
 obtain⟨bm,ob,b1,b2,b3,b4,b5,b6⟩:=G.T.bmain
 exact law_callT KX G.T.g G.T.b G.T.builtins G.T.nolimit hg hobj hints (zbe hlen hn2) hr ⟨bm,ob,b1,b2,b3,b4,b5,b6⟩ hT hF hb (λ H hTb hS=>hsp _ _ H a ns hlen hTb hS)
theorem Inv.turnedL{H':Hp}{ch:List Addr}(I:Inv X pins σ H s)(hf:∀b∈ch,FpOk X pins H b)(k:∀b o,b∉ch->s.heap.get? b=some o->h'.get? b=some o)
  (up:∀b o,H b=some o->H' b=some o) (no:∀b o,s.heap.get? b=some o->H b=none->H' b=none) (new:∀b o,H b=none->H' b=some o->ObjOk X.prog X.w H' h' b o):Inv X pins σ H' { s with heap:=h' }:=by
 have tr:∀b o,H b=some o->b∉ch:=λ b o e z=>by rw[(hf b z).1] at e;cases e
 refine I.call (s:=s) (h':=h') (g':=s.gens) (d':=s.drawn) (t':=s.toks) (ch:=ch) ⟨λ b o e _ _ hx=>k b o hx e,λ b o e _ _ hx=>⟨o.slots,k b o hx e⟩,λ b o e n _=>no b o e n,λ b o e hx=>⟨o,k b o hx e⟩,λ b xs e=>up b _ e,λ b o u e=>up b _ e,λ b ps e=>⟨#[],by rw[up b _ e];simp⟩⟩ (λ b o e=>?_) I.bare λ b hb=>?_
 ·cases q:H b with
  |none=>exact new b o q e
  |some o2 =>
   have e2:=up b o2 q
   rw[e] at e2
   cases e2
   refine(I.hok b o q).stay (λ c v hc q2=>k c v ?_ q2) (λ c q2=>up c _ q2) λ c xs q2=>up c _ q2
   rcases hc with hc|hc
   ·rw[hc];exact tr b o q
   ·exact tr c _ hc
 ·obtain⟨_,f1,_,f3,f4,f5⟩:=hf b hb
  exact⟨f3,f1,f4,f5⟩
section
variable {xs ys:List V}
end
section
variable {o a:Expr}{to:TE}{apos:Pos}
theorem qe_popAt(ho:QE X o to)(ha:QA X [e] t)(h:qbt9 e=true:=by rfl)(hbase:attributeBase o "pop" X.env (eval o X.env)=eval o X.env:=by rfl)(hline:(apos.endLine==pos.line)=true:=by rfl) :
  QE X (.Call (.Attribute o "pop" apos) [e] [] pos) (tBM X.K "list" rPopAt to t) :=
 ⟨pe_bm PySem.F.plainAttrs_list PySem.F.slot_list_pop PySem.F.type_list_pop mt_popAt ho.run ha.run hbase (by rw[se_of h];rfl) hline (se_of h) rfl⟩
end
end L2
namespace Ma
variable {P d lo t x y:Int}{f:Int->Int}{R:List T3}{w:T3}
abbrev T4:=Int×Int×Bool×Int
def btS(d t:Int)(best:Option Int)(w:T3):Option Int :=
 match best with
 |none=>some (nextO d w.1 w.2.1 t+w.2.2)
 |some b=>if nextO d w.1 w.2.1 t+w.2.2<b then some (nextO d w.1 w.2.1 t+w.2.2) else some b
def bt(d:Int)(R:List T3)(t:Int):Option Int:=R.foldl (btS d t) none
theorem bt_nil(d t:Int):bt d [] t=none:=rfl
theorem bt_snoc(d:Int)(R:List T3)(w:T3)(t:Int):bt d (R++[w]) t=btS d t (bt d R t) w:=by
 unfold bt
 rw[zek]
 rfl
structure IsMin(d t:Int)(R:List T3)(y:Int):Prop where
 at_:∃w∈R,y=nextO d w.1 w.2.1 t+w.2.2
 le:∀w∈R,y<=nextO d w.1 w.2.1 t+w.2.2
theorem IsMin.uniq{y':Int}(h:IsMin d t R y)(h':IsMin d t R y'):y=y':=by
 obtain⟨w,hw,e⟩:=h.at_
 obtain⟨w',hw',e'⟩:=h'.at_
 have:=h.le w' hw'
 have:=h'.le w hw
 omega
theorem fold_bt(d t:Int):∀(R:List T3)(best:Option Int),(best=none/\R=[]/\R.foldl (btS d t) best=none) \/
  ∃y,R.foldl (btS d t) best=some y/\(best=some y\/∃w∈R,y=nextO d w.1 w.2.1 t+w.2.2)/\(∀b,best=some b->y<=b)/\∀w∈R,y<=nextO d w.1 w.2.1 t+w.2.2
 | [],none=>.inl ⟨rfl,rfl,rfl⟩
 | [],some b=>.inr ⟨b,rfl,.inl rfl,λ b' e=>by cases e;exact zax _,λ w hw=>by cases hw⟩
 |w::R,best=>by
  rw[zgg]
  rcases fold_bt d t R (btS d t best w) with⟨e,_⟩|⟨y,e1,e2,e3,e4⟩
  ·cases best with
   |none=>cases e
   |some b =>
    simp only[btS] at e
    split at e<;>cases e
  ·refine .inr ⟨y,e1,?_,λ b hb=>?_,λ u hu=>?_⟩
   ·rcases e2 with e2|⟨u,hu,e2⟩
    ·cases best with
     |none =>
      cases e2
      exact .inr ⟨w,zak ..,rfl⟩
     |some b =>
      simp only[btS] at e2
      split at e2
      ·cases e2
       exact .inr ⟨w,zak ..,rfl⟩
      ·cases e2
       exact .inl rfl
    ·exact .inr ⟨u,zam _ hu,e2⟩
   ·subst hb
    by_cases c:nextO d w.1 w.2.1 t+w.2.2<b
    ·have:=e3 _ (by simp only[btS];rw[if_pos c])
     omega
    ·exact e3 _ (by simp only[btS];rw[if_neg c])
   ·rcases zae.mp hu with rfl|hu
    ·cases best with
     |none=>exact e3 _ rfl
     |some b =>
      by_cases c:nextO d u.1 u.2.1 t+u.2.2<b
      ·exact e3 _ (by simp only[btS];rw[if_pos c])
      ·have:=e3 b (by simp only[btS];rw[if_neg c])
       omega
    ·exact e4 u hu
theorem bt_spec(d t:Int)(R:List T3):(R=[]/\bt d R t=none)\/∃y,bt d R t=some y/\IsMin d t R y:=by
 rcases fold_bt d t R none with⟨_,e,e2⟩|⟨y,e1,e2,_,e4⟩
 ·exact .inl ⟨e,e2⟩
 ·refine .inr ⟨y,e1,?_,e4⟩
  rcases e2 with e2|e2
  ·cases e2
  ·exact e2
theorem IsMin.bt(h:IsMin d t R y):bt d R t=some y:=by
 rcases bt_spec d t R with⟨rfl,_⟩|⟨y',e,h'⟩
 ·obtain⟨w,hw,_⟩:=h.at_
  cases hw
 ·rw[e,h.uniq h']
theorem bt_min(h:bt d R t=some y):IsMin d t R y:=by
 rcases bt_spec d t R with⟨rfl,e⟩|⟨y',e,h'⟩
 ·rw[e] at h;cases h
 ·rw[e] at h
  cases h
  exact h'
def Tells(d:Int)(R:List T3)(f:Int->Int):Prop:=∀t,bt d R t=some (f t)
def bf(d:Int)(R:List T3)(t:Int):Int:=(bt d R t).getD 0
theorem tells_bf(h:R≠[]):Tells d R (bf d R):=λ t=>by
 unfold bf
 rcases bt_spec d t R with⟨e,_⟩|⟨y,e,_⟩
 ·exact absurd e h
 ·rw[e];rfl
theorem Tells.ne(h:Tells d R f):R≠[]:=λ e=>by
 have:=h 0
 rw[e,bt_nil] at this
 cases this
structure Rise(d:Int)(f:Int->Int):Prop where
 ge:∀t,t<=f t
 mono:∀t u,t<=u->f t<=f u
 per:∀t,f (t+d)=f t+d
theorem Rise.mul(r:Rise d f)(t:Int):∀k:Int,f (t+d*k)=f t+d*k:=by
 have up:∀(t:Int)(n:Nat),f (t+d*(n:Int))=f t+d*(n:Int):=λ t n=>by
  induction n with
  |zero=>simp
  |succ n ih =>
   have e:d*((n+1:Nat):Int)=d*(n:Int)+d:=by
    rw[zfy,zfd]
    simp
   rw[e,<- Int.add_assoc,r.per,ih]
   omega
 intro k
 rcases zgp 0 k with h|h
 ·have e:k=((k.toNat:Nat):Int):=⋯
  rw[e]
  exact up t _
 ·obtain⟨m,e⟩:∃m:Nat,k=-(m:Int):=⟨(-k).toNat,⋯⟩
  subst e
  have:=up (t+d * -(m:Int)) m
  rw[zgu] at this ⊢
  have e2:t+-(d*(m:Int))+d*(m:Int)=t:=⋯
  rw[e2] at this
  omega
def Wins(d:Int)(R:List T3):Prop:=∀w∈R,0<=w.1/\w.1<=w.2.1/\w.2.1<d/\0<=w.2.2
theorem next_mono{a b u:Int}(hd:0<d)(h0:0<=a)(h1:a<=b)(h2:b<d)(l:t<=u):nextO d a b t<=nextO d a b u:=by
 obtain⟨k,k1,k2,k3,k4,k5⟩:=qcj9 (t:=u) hd h0 h1 h2
 obtain⟨k',_,_,_,_,m5⟩:=qcj9 (t:=t) hd h0 h1 h2
 exact m5 k _ k1 k2 ⋯
theorem qos9{a b:Int}:nextO d a b (t+d)=nextO d a b t+d:=by
 unfold nextO
 rw[Int.add_emod_right]
 split<;>omega
theorem board_rise(hd:0<d)(W:Wins d R)(T:Tells d R f):Rise d f:=by
 have m:∀t,IsMin d t R (f t):=λ t=>bt_min (T t)
 refine⟨λ t=>?_,λ t u l=>?_,λ t=>?_⟩
 ·obtain⟨w,hw,e⟩:=(m t).at_
  obtain⟨w0,w1,w2,w3⟩:=W w hw
  obtain⟨_,_,_,k3,_⟩:=qcj9 (t:=t) hd w0 w1 w2
  omega
 ·obtain⟨w,hw,e⟩:=(m u).at_
  obtain⟨w0,w1,w2,w3⟩:=W w hw
  have:=(m t).le w hw
  have:=next_mono hd w0 w1 w2 l
  omega
 ·refine IsMin.uniq (m (t+d)) ⟨?_,λ w hw=>?_⟩
  ·obtain⟨w,hw,e⟩:=(m t).at_
   exact⟨w,hw,by rw[qos9];omega⟩
  ·have:=(m t).le w hw
   rw[qos9]
   omega
structure CK(d:Int)(R:List T3):Prop where
 d0:0<d
 win:Wins d R
 srt:R.Pairwise λ u v=>u.2.1<v.1/\u.2.1+u.2.2<v.1+v.2.2/\(u.2.1+1=v.1->u.2.2≠v.2.2)
 wr:∀u∈R,∀v∈R,u.2.1+u.2.2<d+(v.1+v.2.2)
theorem ck_nil(h:0<d):CK d []:=⟨h,(λ w hw=>by cases hw),List.Pairwise.nil,(λ w hw=>by cases hw)⟩
theorem qfs9{i:Nat}(h:i<R.length):(rA R i,rB R i,rC R i)∈R:=zac (r_at h)
theorem qgt9(h:w∈R):∃i,i<R.length/\rA R i=w.1/\rB R i=w.2.1/\rC R i=w.2.2:=by
 obtain⟨i,hi,e⟩:=zdc.mp h
 have e2:R[i]?=some (w.1,w.2.1,w.2.2):=by rw[zaa hi,e]
 exact⟨i,hi,r_of e2⟩
theorem qkg9{p:T3->T3->Prop}(h:R.Pairwise p){i j:Nat}(hij:i<j)(hj:j<R.length):p (rA R i,rB R i,rC R i) (rA R j,rB R j,rC R j):=by
 have e1:=r_at (R:=R) (i:=i) ⋯
 have e2:=r_at (R:=R) hj
 rw[zaa ⋯] at e1
 rw[zaa hj] at e2
 have:=zec.mp h i j ⋯ hj hij
 rw[Option.some.inj e1,Option.some.inj e2] at this
 exact this
theorem CK.clk(h:CK d R):Clk d R.length (rA R) (rB R) (rC R) :=
 ⟨h.d0,λ i hi=>(h.win _ (qfs9 hi)).1,λ i hi=>(h.win _ (qfs9 hi)).2.1,λ i hi=>(h.win _ (qfs9 hi)).2.2.1,λ i hi=>(h.win _ (qfs9 hi)).2.2.2,
  λ i j hij hj=>(qkg9 h.srt hij hj).1,λ i j hij hj=>(qkg9 h.srt hij hj).2.1,λ i j hi hj=>h.wr _ (qfs9 hi) _ (qfs9 hj)⟩
theorem ex_min(g:Nat->Int):∀n:Nat,0<n->∃j,j<n/\∀i,i<n->g j<=g i
 |0,h=>absurd h (zcc _)
 |1,_=>⟨0,⋯,λ i hi=>by have:i=0:=⋯;rw[this];exact zax _⟩
 |n+2,_=>by
  obtain⟨j,hj,h⟩:=ex_min g (n+1) ⋯
  rcases zgp (g j) (g (n+1)) with c|c
  ·refine⟨j,⋯,λ i hi=>?_⟩
   rcases(by omega:i<n+1\/i=n+1) with z|z
   ·exact h i z
   ·rw[z];exact c
  ·refine⟨n+1,⋯,λ i hi=>?_⟩
   rcases(by omega:i<n+1\/i=n+1) with z|z
   ·have:=h i z
    omega
   ·rw[z];exact zax _
theorem qkx9(K:Clk d R.length (rA R) (rB R) (rC R))(n0:R.length≠0)(t:Int):∃x y,First d R.length (rA R) (rB R) (rC R) t x y/\bt d R t=some y:=by
 obtain⟨j,hj,hm⟩:=ex_min (λ i=>nextO d (rA R i) (rB R i) t) R.length ⋯
 have F:=first_min K hj hm
 refine⟨_,_,F,IsMin.bt ⟨⟨_,qfs9 hj,rfl⟩,λ w hw=>?_⟩⟩
 obtain⟨i,hi,e1,e2,e3⟩:=qgt9 hw
 obtain⟨k,k1,k2,k3,k4,k5⟩:=qcj9 (t:=t) K.d0 (K.a0 i hi) (K.ab i hi) (K.bd i hi)
 have D:Dep d R.length (rA R) (rB R) (rC R) (nextO d (rA R i) (rB R i) t) (nextO d (rA R i) (rB R i) t+rC R i):=⟨i,k,hi,k1,k2,rfl⟩
 have le:=F.least _ _ D k3
 rw[<- e1,<- e2,<- e3]
 rcases(by omega:nextO d (rA R j) (rB R j) t<nextO d (rA R i) (rB R i) t\/nextO d (rA R j) (rB R j) t=nextO d (rA R i) (rB R i) t) with z|z
 ·have:=qpk9 K F.dep D z
  omega
 ·rw[<- z] at D
  have:=qpa9 K F.dep D
  omega
theorem first_bt(K:Clk d R.length (rA R) (rB R) (rC R))(h:First d R.length (rA R) (rB R) (rC R) t x y):bt d R t=some y:=by
 have n0:R.length≠0:=by
  obtain⟨i,_,hi,_⟩:=h.dep
  omega
 obtain⟨x',y',h',e⟩:=qkx9 K n0 t
 rw[e,(h.uniq K h').2]
structure Can(lo P:Int)(f:Int->Int)(R:List T3):Prop where
 srt:R.Pairwise λ u v=>u.2.1<v.1/\(u.2.1+1=v.1->u.2.2≠v.2.2)
 mem:∀w∈R,lo<=w.1/\w.1<=w.2.1/\w.2.1<P/\∀x,w.1<=x->x<=w.2.1->f x=x+w.2.2/\f x<f (x+1)
 cov:∀x,lo<=x->x<P->f x<f (x+1)->∃w∈R,w.1<=x/\x<=w.2.1
theorem Can.tail(h:Can lo P f (w::R)):Can (w.2.1+1) P f R:=by
 have s:=zcx.mp h.srt
 have hw:=h.mem w (zak ..)
 refine⟨s.2,λ u hu=>?_,λ x x0 x1 x2=>?_⟩
 ·have a:=h.mem u (zam _ hu)
  have b:=(s.1 u hu).1
  exact⟨⋯,a.2⟩
 ·obtain⟨u,hu,u1,u2⟩:=h.cov x ⋯ x1 x2
  rcases zae.mp hu with rfl|hu
  ·omega
  ·exact⟨u,hu,u1,u2⟩
theorem Can.head_le(h:Can lo P f (w::R))(x0:lo<=x)(x1:x<P)(x2:f x<f (x+1)):w.1<=x:=by
 have s:=zcx.mp h.srt
 obtain⟨u,hu,u1,u2⟩:=h.cov x x0 x1 x2
 rcases zae.mp hu with rfl|hu
 ·exact u1
 ·have:=(s.1 u hu).1
  have:=(h.mem w (zak ..)).2.1
  omega
theorem Can.end_le{w':T3}{R':List T3}(h:Can lo P f (w::R))(h':Can lo P f (w'::R'))(ea:w.1=w'.1)(ec:w.2.2=w'.2.2):w'.2.1<=w.2.1:=by
 rcases zdh w.2.1 w'.2.1 with z|z
 ·exfalso
  have m:=h.mem w (zak ..)
  have m':=h'.mem w' (zak ..)
  have q:=m'.2.2.2 (w.2.1+1) ⋯ ⋯
  obtain⟨u,hu,u1,u2⟩:=h.cov (w.2.1+1) ⋯ ⋯ q.2
  rcases zae.mp hu with rfl|hu
  ·omega
  ·have s:=(zcx.mp h.srt).1 u hu
   have r:=((h.mem u (zam _ hu)).2.2.2 (w.2.1+1) u1 u2).1
   exact s.2 ⋯ ⋯
 ·exact z
theorem Can.uniq{P:Int}{f:Int->Int}:∀{R R':List T3}{lo:Int},Can lo P f R->Can lo P f R'->R=R'
 | [],[],_,_,_=>rfl
 | [],w::R,lo,h,h'=>by
  have m:=h'.mem w (zak ..)
  obtain⟨u,hu,_⟩:=h.cov w.1 m.1 ⋯ (m.2.2.2 w.1 (zax _) m.2.1).2
  cases hu
 |w::R,[],lo,h,h'=>by
  have m:=h.mem w (zak ..)
  obtain⟨u,hu,_⟩:=h'.cov w.1 m.1 ⋯ (m.2.2.2 w.1 (zax _) m.2.1).2
  cases hu
 |w::R,w'::R',lo,h,h'=>by
  have m:=h.mem w (zak ..)
  have m':=h'.mem w' (zak ..)
  have q:=m.2.2.2 w.1 (zax _) m.2.1
  have q':=m'.2.2.2 w'.1 (zax _) m'.2.1
  have l1:=h.head_le (x:=w'.1) m'.1 ⋯ q'.2
  have l2:=h'.head_le (x:=w.1) m.1 ⋯ q.2
  have ea:w.1=w'.1:=⋯
  have ec:w.2.2=w'.2.2:=by
   have:=q.1
   have:=q'.1
   rw[ea] at *
   omega
  have b1:=h.end_le h' ea ec
  have b2:=h'.end_le h ea.symm ec.symm
  have eb:w.2.1=w'.2.1:=⋯
  have ew:w=w':=by
   obtain⟨x,y,z⟩:=w
   obtain⟨x',y',z'⟩:=w'
   cases ea
   cases eb
   cases ec
   rfl
  subst ew
  rw[Can.uniq h.tail h'.tail]
theorem qns9{f:Int->Int}(mono:∀t u,t<=u->f t<=f u){x:Int}:∀(n:Nat),(∀y,x<=y->y<x+n->¬f y<f (y+1))->f x=f (x+n)
 |0,_=>by simp
 |n+1,h=>by
  have e:=qns9 mono (x:=x) n λ y y0 y1=>h y y0 ⋯
  have a:=h (x+n) ⋯ ⋯
  have b:=mono (x+n) (x+n+1) ⋯
  have e2:x+((n+1:Nat):Int)=x+n+1:=⋯
  rw[e2]
  omega
theorem qjy9(mono:∀t u,t<=u->f t<=f u){z:Int}(hz:x<=z)(h:∀y,x<=y->y<z->¬f y<f (y+1)):f x=f z:=by
 have e:z=x+((z-x).toNat:Int):=⋯
 have:=qns9 mono (x:=x) (z-x).toNat λ y y0 y1=>h y y0 ⋯
 rw[<- e] at this
 exact this
theorem qop9(hd:0<d)(r:Rise d f)(t:Int):∃x,t<=x/\x<t+d/\f x=f t/\f x<f (x+1):=by
 have go:∀n:Nat,f t<f (t+n)->∃x,t<=x/\x<t+n/\f x=f t/\f x<f (x+1):=by
  intro n
  induction n with
  |zero=>intro h;simp at h
  |succ n ih =>
   intro h
   by_cases c:f t<f (t+n)
   ·obtain⟨x,x1,x2,x3,x4⟩:=ih c
    exact⟨x,x1,⋯,x3,x4⟩
   ·have b:=r.mono t (t+n) ⋯
    have e:t+((n+1:Nat):Int)=t+n+1:=⋯
    rw[e] at h
    exact⟨t+n,⋯,⋯,⋯,⋯⟩
 have e:d=((d.toNat:Nat):Int):=⋯
 have:=go d.toNat (by rw[<- e,r.per];omega)
 rw[<- e] at this
 exact this
theorem Can.tells(hd:0<d)(r:Rise d f)(h:Can 0 d f R):Tells d R f:=by
 intro t
 have lo:∀w∈R,f t<=nextO d w.1 w.2.1 t+w.2.2:=λ w hw=>by
  obtain⟨m0,m1,m2,m3⟩:=h.mem w hw
  obtain⟨k,k1,k2,k3,k4,k5⟩:=qcj9 (t:=t) hd m0 m1 m2
  generalize nextO d w.1 w.2.1 t=x at *
  have q:=(m3 (x-d*k) ⋯ ⋯).1
  have q2:=r.mul (x-d*k) k
  have e:x-d*k+d*k=x:=⋯
  rw[e] at q2
  have:=r.mono t x k3
  omega
 refine IsMin.bt ⟨?_,lo⟩
 obtain⟨x,x1,x2,x3,x4⟩:=qop9 hd r t
 obtain⟨q,e,e0,e1⟩:=split d x hd
 have p0:=r.mul (x%d) q
 have p1:=r.mul (x%d+1) q
 have e2:x%d+d*q=x:=⋯
 have e3:x%d+1+d*q=x+1:=⋯
 rw[e2] at p0
 rw[e3] at p1
 obtain⟨w,hw,w1,w2⟩:=h.cov (x%d) e0 e1 ⋯
 obtain⟨m0,m1,m2,m3⟩:=h.mem w hw
 have c:=(m3 (x%d) w1 w2).1
 obtain⟨k,k1,k2,k3,k4,k5⟩:=qcj9 (t:=t) hd m0 m1 m2
 have u:=k5 q x ⋯ ⋯ x1
 have v:=lo w hw
 exact⟨w,hw,⋯⟩
theorem Can.ck(hd:0<d)(r:Rise d f)(h:Can 0 d f R):CK d R:=by
 have at_:∀w∈R,f w.1=w.1+w.2.2/\f w.2.1=w.2.1+w.2.2/\f w.2.1<f (w.2.1+1):=λ w hw=>by
  obtain⟨m0,m1,m2,m3⟩:=h.mem w hw
  exact⟨(m3 _ (zax _) m1).1,m3 _ m1 (zax _)⟩
 refine⟨hd,λ w hw=>?_,?_,λ u hu v hv=>?_⟩
 ·obtain⟨m0,m1,m2,m3⟩:=h.mem w hw
  have:=at_ w hw
  have:=r.ge w.1
  exact⟨m0,m1,m2,⋯⟩
 ·refine List.Pairwise.imp_of_mem (λ {u v} hu hv p=>?_) h.srt
  refine⟨p.1,?_,p.2⟩
  have a:=at_ u hu
  have b:=at_ v hv
  have:=r.mono (u.2.1+1) v.1 ⋯
  omega
 ·have a:=at_ u hu
  have b:=at_ v hv
  obtain⟨m0,m1,m2,m3⟩:=h.mem u hu
  obtain⟨n0,_⟩:=h.mem v hv
  have:=r.mono (u.2.1+1) (v.1+d) ⋯
  have:=r.per v.1
  omega
theorem CK.can(h:CK d R)(T:Tells d R f):Can 0 d f R:=by
 have K:=h.clk
 have n0:R.length≠0:=λ e=>T.ne (zay.mp e)
 have F:∀t,∃x,First d R.length (rA R) (rB R) (rC R) t x (f t):=λ t=>by
  obtain⟨x,y,h1,h2⟩:=qkx9 K n0 t
  rw[T t] at h2
  cases h2
  exact⟨x,h1⟩
 refine⟨h.srt.imp λ p=>⟨p.1,p.2.2⟩,λ w hw=>?_,λ x x0 x1 x2=>?_⟩
 ·obtain⟨w0,w1,w2,w3⟩:=h.win w hw
  refine⟨w0,w1,w2,λ x a b=>?_⟩
  obtain⟨i,hi,e1,e2,e3⟩:=qgt9 hw
  have D:Dep d R.length (rA R) (rB R) (rC R) x (x+w.2.2):=⟨i,0,hi,⋯,⋯,⋯⟩
  obtain⟨x',F1⟩:=F x
  have l:=F1.least _ _ D (zax _)
  have l2:=F1.le
  have e:x'=x:=⋯
  subst e
  have ey:=qpa9 K F1.dep D
  obtain⟨x2,F2⟩:=F (x'+1)
  have:=qpk9 K F1.dep F2.dep (by have:=F2.le;omega)
  exact⟨ey,this⟩
 ·obtain⟨x',F1⟩:=F x
  rcases(by have:=F1.le;omega:x'=x\/x+1<=x') with e|e
  ·subst e
   obtain⟨i,k,hi,k1,k2,_⟩:=F1.dep
   have a0:=K.a0 i hi
   have bd:=K.bd i hi
   have d0:=K.d0
   have:k=0:=by
    rcases(by omega:k<0\/k=0\/0<k) with z|z|z
    ·have:=qbf9 d0 z
     omega
    ·exact z
    ·have:=qbf9 d0 z
     omega
   subst this
   exact⟨_,qfs9 hi,by simpa using k1,by simpa using k2⟩
  ·obtain⟨x2',F2⟩:=F (x+1)
   have F3:First d R.length (rA R) (rB R) (rC R) (x+1) x' (f x):=⟨F1.dep,e,λ u v h1 h2=>F1.least u v h1 ⋯⟩
   have:=(F2.uniq K F3).2
   omega
theorem CK.uniq{d:Int}{R R':List T3}(h:CK d R)(h':CK d R')(e:∀t,bt d R t=bt d R' t):R=R':=by
 by_cases n:R=[]
 ·subst n
  by_cases n':R'=[]
  ·exact n'.symm
  ·have:=e 0
   rw[bt_nil,tells_bf n' 0] at this
   cases this
 ·have T:=tells_bf (d:=d) n
  have T':Tells d R' (bf d R):=λ t=>by rw[<- e t];exact T t
  exact Can.uniq (h.can T) (h'.can T')
theorem CK.rise(h:CK d R)(T:Tells d R f):Rise d f:=board_rise h.d0 h.win T
end Ma
namespace Ma
variable {f:Int->Int}{R:List T3}
theorem qpe9{α:Type}{p:List α->Prop}(h0:p [])(hs:∀l x,p l->p (l++[x]))(l:List α):p l:=by
 rw[<- List.reverse_reverse l]
 induction l.reverse with
 |nil=>exact h0
 |cons x r ih =>
  rw[zfr]
  exact hs _ _ ih
def putW(R:List T3)(a b c:Int):List T3 :=
 if b<a then R else match R.getLast? with
  |some l=>if l.2.1+1=a/\l.2.2=c then R.dropLast++[(l.1,b,c)] else R++[(a,b,c)]
  |none=>R++[(a,b,c)]
theorem putW_len(R:List T3)(a b c:Int):(putW R a b c).length<=R.length+1:=by
 unfold putW
 split
 ·omega
 ·split
  ·split
   ·rw[zal,List.length_dropLast,zbh];omega
   ·simp
  ·simp
section
variable {lo P P':Int}{a b c:Int}
theorem Can.app(h:Can lo P f R)(l0:lo<=P)(pa:P<=a)(ab:a<=b)(bp:b<P')(dep:∀x,P<=x->x<P'->(f x<f (x+1)↔a<=x/\x<=b))(ride:∀x,a<=x->x<=b->f x=x+c)
  (un:∀u∈R,u.2.1+1=a->u.2.2≠c):Can lo P' f (R++[(a,b,c)]):=by
 refine⟨zdd.mpr ⟨h.srt,zdj _ _,λ u hu v hv=>?_⟩,λ w hw=>?_,λ x x0 x1 x2=>?_⟩
 ·rw[zag] at hv
  subst hv
  have m:=h.mem u hu
  exact⟨by show u.2.1<a;omega,un u hu⟩
 ·rcases zau.mp hw with hw|hw
  ·obtain⟨m0,m1,m2,m3⟩:=h.mem w hw
   exact⟨m0,m1,⋯,m3⟩
  ·rw[zag] at hw
   subst hw
   exact⟨by show lo<=a;omega,ab,bp,λ x x1 x2=>by
    have x1':a<=x:=x1
    have x2':x<=b:=x2
    exact⟨ride x x1 x2,(dep x ⋯ ⋯).mpr ⟨x1,x2⟩⟩⟩
 ·rcases zdh x P with z|z
  ·obtain⟨w,hw,w1⟩:=h.cov x x0 z x2
   exact⟨w,zbg _ hw,w1⟩
  ·exact⟨(a,b,c),zap _ (zag.mpr rfl),(dep x z x1).mp x2⟩
theorem Can.step(h:Can lo P f R)(l0:lo<=P)(pa:P<=a)(bp:b<P')(hp:P<=P')(dep:∀x,P<=x->x<P'->(f x<f (x+1)↔a<=x/\x<=b))(ride:∀x,a<=x->x<=b->f x=x+c):Can lo P' f (putW R a b c):=by
 unfold putW
 split
 ·rename_i ba
  refine⟨h.srt,λ w hw=>?_,λ x x0 x1 x2=>?_⟩
  ·obtain⟨m0,m1,m2,m3⟩:=h.mem w hw
   exact⟨m0,m1,⋯,m3⟩
  ·rcases zdh x P with z|z
   ·exact h.cov x x0 z x2
   ·have:=(dep x z x1).mp x2
    omega
 ·rename_i ab
  split
  ·rename_i l hl
   obtain⟨R0,rfl⟩:∃R0,R=R0++[l]:=by
    obtain⟨R0,e⟩:=zed.mp hl
    exact⟨R0,e⟩
   have s:=zdd.mp h.srt
   split
   ·rename_i tc
    rw[zey]
    have ml:=h.mem l (zap _ (zag.mpr rfl))
    refine⟨zdd.mpr ⟨s.1,zdj _ _,λ u hu v hv=>?_⟩,λ w hw=>?_,λ x x0 x1 x2=>?_⟩
    ·rw[zag] at hv
     subst hv
     have q:=s.2.2 u hu l (zag.mpr rfl)
     rw[<- tc.2]
     exact q
    ·rcases zau.mp hw with hw|hw
     ·obtain⟨m0,m1,m2,m3⟩:=h.mem w (zbg _ hw)
      exact⟨m0,m1,⋯,m3⟩
     ·rw[zag] at hw
      subst hw
      obtain⟨m0,m1,m2,m3⟩:=ml
      refine⟨m0,by show l.1<=b;omega,bp,λ x x1 x2=>?_⟩
      have x1':l.1<=x:=x1
      have x2':x<=b:=x2
      show f x=x+c/\f x<f (x+1)
      rcases zdh l.2.1 x with z|z
      ·exact⟨ride x ⋯ x2',(dep x ⋯ ⋯).mpr ⟨⋯,x2'⟩⟩
      ·rw[<- tc.2]
       exact m3 x x1' z
    ·rcases zdh x P with z|z
     ·obtain⟨w,hw,w1,w2⟩:=h.cov x x0 z x2
      rcases zau.mp hw with hw|hw
      ·exact⟨w,zbg _ hw,w1,w2⟩
      ·rw[zag] at hw
       subst hw
       exact⟨_,zap _ (zag.mpr rfl),w1,by show x<=b;omega⟩
     ·have q:=(dep x z x1).mp x2
      exact⟨_,zap _ (zag.mpr rfl),by show l.1<=x;have:=ml.2.1;omega,q.2⟩
   ·rename_i tc
    refine h.app l0 pa ⋯ bp dep ride λ u hu e=>?_
    rcases zau.mp hu with hu|hu
    ·have q:=s.2.2 u hu l (zag.mpr rfl)
     have ml:=h.mem l (zap _ (zag.mpr rfl))
     omega
    ·rw[zag] at hu
     subst hu
     exact λ e2=>tc ⟨e,e2⟩
  ·rename_i hl
   have e:=zee.mp hl
   subst e
   exact h.app l0 pa ⋯ bp dep ride λ u hu=>by cases hu
end
def tell(r:T4)(x:Int):Int:=if r.2.2.1=true then r.2.2.2 else x+r.2.2.2
def ftold(r:T4):Int:=if r.2.2.1=true then r.2.2.2 else r.1+r.2.2.2
theorem qnf9(r:T4):ftold r=tell r r.1:=rfl
def cfStep(fo:Int)(r:T4)(R:List T3):List T3 :=
 if r.2.2.1=true then putW R r.2.1 (if r.2.2.2<fo then r.2.1 else r.2.1-1) (r.2.2.2-r.2.1)
 else putW R r.1 (if r.2.1+r.2.2.2<fo then r.2.1 else r.2.1-1) r.2.2.2
theorem cfStep_len(fo:Int)(r:T4)(R:List T3):(cfStep fo r R).length<=R.length+1:=by
 unfold cfStep
 split<;>exact putW_len ..
theorem Can.row{lo P:Int}(h:Can lo P f R)(l0:lo<=P)(r:T4)(e:r.1=P)(le:r.1<=r.2.1)(tl:∀x,r.1<=x->x<=r.2.1->f x=tell r x) :
  Can lo (r.2.1+1) f (cfStep (f (r.2.1+1)) r R):=by
 obtain⟨p,q,s,v⟩:=r
 have e':p=P:=e
 subst e'
 have le':p<=q:=le
 have tl':∀x,p<=x->x<=q->f x=if s=true then v else x+v:=tl
 unfold cfStep
 show Can lo (q+1) f (if s=true then putW R q (if v<f (q+1) then q else q-1) (v-q) else putW R p (if q+v<f (q+1) then q else q-1) v)
 cases s with
 |true =>
  rw[if_pos rfl]
  have t0:∀x,p<=x->x<=q->f x=v:=λ x h1 h2=>by have:=tl' x h1 h2;rw[if_pos rfl] at this;exact this
  refine h.step l0 le' (by split<;>omega) ⋯ (λ x x0 x1=>?_) λ x x0 x1=>?_
  ·rcases(by omega:x<q\/x=q) with z|z
   ·have:=t0 x x0 ⋯
    have:=t0 (x+1) ⋯ ⋯
    constructor
    ·intro;omega
    ·rintro⟨h1,h2⟩;omega
   ·subst z
    rw[t0 x x0 (zax _)]
    constructor
    ·intro z
     rw[if_pos z]
     exact⟨zax _,zax _⟩
    ·intro z9;obtain⟨_,z⟩ := z9
     split at z
     ·assumption
     ·omega
  ·have x1':x<=q:=by split at x1<;>omega
   have:=t0 x ⋯ x1'
   omega
 |false =>
  rw[if_neg (by decide)]
  have t0:∀x,p<=x->x<=q->f x=x+v:=λ x h1 h2=>by have:=tl' x h1 h2;rw[if_neg (by decide)] at this;exact this
  refine h.step l0 (zax _) (by split<;>omega) ⋯ (λ x x0 x1=>?_) λ x x0 x1=>?_
  ·rcases(by omega:x<q\/x=q) with z|z
   ·have:=t0 x x0 ⋯
    have:=t0 (x+1) ⋯ ⋯
    constructor
    ·intro
     refine⟨x0,?_⟩
     split<;>omega
    ·intro;omega
   ·subst z
    rw[t0 x x0 (zax _)]
    constructor
    ·intro z
     rw[if_pos z]
     exact⟨x0,zax _⟩
    ·intro z9;obtain⟨_,z⟩ := z9
     split at z
     ·assumption
     ·omega
  ·exact t0 x x0 (by split at x1<;>omega)
def Cov(f:Int->Int):Int->List T4->Int->Prop
 |lo,[],hi=>lo=hi
 |lo,r::S,hi=>r.1=lo/\r.1<=r.2.1/\(∀x,r.1<=x->x<=r.2.1->f x=tell r x)/\Cov f (r.2.1+1) S hi
theorem Cov.le{f:Int->Int}:∀{S:List T4}{lo hi:Int},Cov f lo S hi->lo<=hi
 | [],lo,hi,h=>by have:lo=hi:=h;omega
 |r::S,lo,hi,⟨h1,h2,_,h4⟩=>by have:=Cov.le h4;omega
theorem Cov.append{f:Int->Int}:∀{S S':List T4}{lo mid hi:Int},Cov f lo S mid->Cov f mid S' hi->Cov f lo (S++S') hi
 | [],S',lo,mid,hi,h,h'=>by
  have:lo=mid:=h
  subst this
  exact h'
 |r::S,S',lo,mid,hi,⟨h1,h2,h3,h4⟩,h'=>⟨h1,h2,h3,Cov.append h4 h'⟩
theorem Cov.one{r:T4}(h:r.1<=r.2.1)(t:∀x,r.1<=x->x<=r.2.1->f x=tell r x):Cov f r.1 [r] (r.2.1+1):=⟨rfl,h,t,rfl⟩
theorem Cov.get{f:Int->Int}:∀{S:List T4}{lo hi:Int}{k:Nat}{r:T4},Cov f lo S hi->S[k]?=some r->lo<=r.1/\r.1<=r.2.1/\r.2.1<hi/\(∀x,r.1<=x->x<=r.2.1->f x=tell r x) /\
  (k=0->r.1=lo)/\(∀r',S[k+1]?=some r'->r'.1=r.2.1+1)/\(k+1=S.length->r.2.1+1=hi)
 | [],_,_,_,_,_,e=>by simp at e
 |r0::S,lo,hi,0,r,⟨h1,h2,h3,h4⟩,e=>by
  have e':r0=r:=by simpa using e
  subst e'
  have l:=Cov.le h4
  refine⟨⋯,h2,⋯,h3,λ _=>h1,λ r' e'=>?_,λ e'=>?_⟩
  ·have e2:S[0]?=some r':=by simpa using e'
   exact(Cov.get h4 e2).2.2.2.2.1 rfl
  ·have:S=[]:=by
    simp at e'
    exact e'
   subst this
   exact h4
 |r0::S,lo,hi,k+1,r,⟨h1,h2,h3,h4⟩,e=>by
  have e2:S[k]?=some r:=by simpa using e
  obtain⟨g1,g2,g3,g4,g5,g6,g7⟩:=Cov.get h4 e2
  refine⟨⋯,g2,g3,g4,λ z=>⋯,λ r' e'=>g6 r' (by simpa using e'),λ e'=>g7 (by simp at e';omega)⟩
theorem Cov.find{f:Int->Int}:∀{S:List T4}{lo hi x:Int},Cov f lo S hi->lo<=x->x<hi->∃(k:Nat)(r:T4),S[k]?=some r/\r.1<=x/\x<=r.2.1
 | [],lo,hi,x,h,h1,h2=>by have:lo=hi:=h;omega
 |r::S,lo,hi,x,⟨h1,h2,h3,h4⟩,x0,x1=>by
  rcases zdh r.2.1 x with z|z
  ·obtain⟨k,r',e,e1⟩:=Cov.find h4 ⋯ x1
   exact⟨k+1,r',by simpa using e,e1⟩
  ·exact⟨0,r,rfl,⋯,z⟩
def cfo(d:Int)(S:List T4)(k:Nat):Int:=match S[k+1]? with
 |some r=>ftold r
 |none=>d+(match S[0]? with
  |some r=>ftold r
  |none=>0)
theorem cfo_eq{d:Int}{S:List T4}{k:Nat}{r:T4}(h:Cov f 0 S d)(per:∀t,f (t+d)=f t+d)(e:S[k]?=some r):cfo d S k=f (r.2.1+1):=by
 obtain⟨g1,g2,g3,g4,g5,g6,g7⟩:=h.get e
 have hk:=(zab.mp e).1
 unfold cfo
 cases e1:S[k+1]? with
 |some r' =>
  have q:=g6 r' e1
  obtain⟨_,g2',_,g4',_⟩:=h.get e1
  show ftold r'=_
  rw[qnf9,<- g4' r'.1 (zax _) g2',q]
 |none =>
  have el:k+1=S.length:=by
   have:=zef.mp e1
   omega
  have q:=g7 el
  have h0:0<S.length:=⋯
  obtain⟨_,g2',_,g4',g5',_⟩:=h.get (zaa h0)
  rw[zaa h0]
  show d+ftold S[0]=_
  rw[qnf9,<- g4' _ (zax _) g2',g5' rfl,q]
  have:=per 0
  rw[zgq] at this
  omega
def stStep(acc:List T4×Int)(w:T3):List T4×Int:=((if acc.2<w.1 then acc.1++[(acc.2,w.1-1,true,w.1+w.2.2)] else acc.1)++[(w.1,w.2.1,false,w.2.2)],w.2.1+1)
def stPre(R:List T3):List T4×Int:=R.foldl stStep ([],0)
theorem stPre_snoc(R:List T3)(w:T3):stPre (R++[w])=stStep (stPre R) w:=by
 unfold stPre
 rw[zek]
 rfl
def strOf(d:Int)(R:List T3):List T4:=if 0<(stPre R).1.length/\(stPre R).2<d then(stPre R).1++[((stPre R).2,d-1,true,d+rA R 0+rC R 0)] else(stPre R).1
theorem stPre_len(R:List T3):(stPre R).1.length<=2*R.length/\(R≠[]->0<(stPre R).1.length):=by
 refine qpe9 (p:=λ R=>(stPre R).1.length<=2*R.length/\(R≠[]->0<(stPre R).1.length)) ⟨by simp[stPre],λ h=>absurd rfl h⟩ (λ R w ih=>?_) R
 rw[stPre_snoc]
 unfold stStep
 refine⟨?_,λ _=>by simp⟩
 simp only[zal,zbh]
 split
 ·simp only[zal,zbh];omega
 ·omega
theorem strOf_len(d:Int)(R:List T3):(strOf d R).length<=2*R.length+1:=by
 have:=(stPre_len R).1
 unfold strOf
 split
 ·simp only[zal,zbh];omega
 ·omega
section
variable {d:Int}
theorem st_cov(h:CK d R)(T:Tells d R f):∀R1 R2,R=R1++R2->Cov f 0 (stPre R1).1 (stPre R1).2/\0<=(stPre R1).2/\(stPre R1).2<=d/\(∀u∈R1,u.2.1<(stPre R1).2)/\(∀v∈R2,(stPre R1).2<=v.1):=by
 have C:=h.can T
 have r:=h.rise T
 have d0:=h.d0
 refine qpe9 (p:=λ R1=>∀R2,R=R1++R2->Cov f 0 (stPre R1).1 (stPre R1).2/\0<=(stPre R1).2/\(stPre R1).2<=d/\(∀u∈R1,u.2.1<(stPre R1).2)/\(∀v∈R2,(stPre R1).2<=v.1)) (λ R2 e=>?_) λ R1 w ih R2 e=>?_
 ·refine⟨rfl,zax _,by show(0:Int)<=d;omega,(λ u hu=>by cases hu),λ v hv=>?_⟩
  exact(h.win v (by rw[e];exact hv)).1
 ·have e':R=R1++(w::R2):=by rw[e];simp
  obtain⟨c,p0,pd,pu,pv⟩:=ih (w::R2) e'
  have hw:w∈R:=by rw[e'];simp
  obtain⟨w0,w1,w2,w3⟩:=h.win w hw
  have pw:=pv w (zak ..)
  have srt:=h.srt
  rw[e'] at srt
  have s2:=zcx.mp (zdd.mp srt).2.1
  rw[stPre_snoc]
  unfold stStep
  generalize (stPre R1).1=S at *
  generalize (stPre R1).2=p at *
  have mw:=(C.mem w hw).2.2.2
  have fa:=(mw w.1 (zax _) w1).1
  refine⟨?_,by show 0<=w.2.1+1;omega,by show w.2.1+1<=d;omega,λ u hu=>?_,λ v hv=>?_⟩
  ·have last:Cov f w.1 [(w.1,w.2.1,false,w.2.2)] (w.2.1+1):=Cov.one (r:=(w.1,w.2.1,false,w.2.2)) w1 λ x x0 x1=>by
    rw[(mw x x0 x1).1]
    rfl
   show Cov f 0 ((if p<w.1 then S++[(p,w.1-1,true,w.1+w.2.2)] else S)++[(w.1,w.2.1,false,w.2.2)]) (w.2.1+1)
   split
   ·rename_i z
    refine Cov.append (Cov.append c (mid:=p) (hi:=w.1) ?_) last
    have e1:w.1-1+1=w.1:=⋯
    have:=Cov.one (f:=f) (r:=(p,w.1-1,true,w.1+w.2.2)) (by show p<=w.1-1;omega) λ x x0 x1=>?_
    ·rw[e1] at this
     exact this
    ·have x0':p<=x:=x0
     have x1':x<=w.1-1:=x1
     show f x=w.1+w.2.2
     rw[<- fa]
     refine qjy9 r.mono ⋯ λ y y0 y1 yd=>?_
     obtain⟨u,hu,u1,u2⟩:=C.cov y ⋯ ⋯ yd
     rw[e'] at hu
     rcases zau.mp hu with hu|hu
     ·have:=pu u hu
      omega
     ·rcases zae.mp hu with rfl|hu
      ·omega
      ·have:=(s2.1 u hu).1
       omega
   ·rename_i z
    have:p=w.1:=⋯
    subst this
    exact Cov.append c last
  ·show u.2.1<w.2.1+1
   rcases zau.mp hu with hu|hu
   ·have:=pu u hu
    omega
   ·rw[zag] at hu
    subst hu
    omega
  ·have:=(s2.1 v hv).1
   show w.2.1+1<=v.1
   omega
theorem str_cov(h:CK d R)(T:Tells d R f):Cov f 0 (strOf d R) d:=by
 obtain⟨c,p0,pd,pu,pv⟩:=st_cov h T R [] (by simp)
 have C:=h.can T
 have r:=h.rise T
 have ne:=(stPre_len R).2 T.ne
 unfold strOf
 generalize (stPre R).1=S at *
 generalize (stPre R).2=p at *
 split
 ·rename_i z
  refine Cov.append c ?_
  have e1:d-1+1=d:=⋯
  have:=Cov.one (f:=f) (r:=(p,d-1,true,d+rA R 0+rC R 0)) (by show p<=d-1;omega) λ x x0 x1=>?_
  ·rw[e1] at this
   exact this
  ·have x0':p<=x:=x0
   have x1':x<=d-1:=x1
   show f x=d+rA R 0+rC R 0
   have hn:0<R.length:=zdz.mpr T.ne
   have m0:=C.mem _ (qfs9 hn)
   have f0:f (rA R 0)=rA R 0+rC R 0:=(m0.2.2.2 (rA R 0) (zax _) m0.2.1).1
   have a0:(0:Int)<=rA R 0:=m0.1
   have z0:f 0=f (rA R 0):=qjy9 r.mono a0 λ y y0 y1 yd=>by
    have q:=m0.2.2.1
    have q1:=m0.2.1
    obtain⟨u,hu,u1,u2⟩:=C.cov y y0 ⋯ yd
    obtain⟨i,hi,e1,e2,e3⟩:=qgt9 hu
    rcases zch i with e|e
    ·subst e;omega
    ·have:=(qkg9 h.srt e hi).1
     omega
   have z1:f x=f d:=qjy9 r.mono ⋯ λ y y0 y1 yd=>by
    obtain⟨u,hu,u1,u2⟩:=C.cov y ⋯ y1 yd
    have:=pu u hu
    omega
   have:=r.per 0
   rw[zgq] at this
   omega
 ·rename_i z
  have:p=d:=⋯
  subst this
  exact c
end
end Ma
namespace Ma
variable {d:Int}{f g:Int->Int}
abbrev T6:=Int×Int×Bool×Int×Bool×Int
def tl(s:Bool)(v x:Int):Int:=if s=true then v else x+v
def Cov2(f g:Int->Int):Int->List T6->Int->Prop
 |lo,[],hi=>lo=hi
 |lo,r::S,hi=>r.1=lo/\r.1<=r.2.1/\(∀x,r.1<=x->x<=r.2.1->f x=tl r.2.2.1 r.2.2.2.1 x/\g x=tl r.2.2.2.2.1 r.2.2.2.2.2 x)/\Cov2 f g (r.2.1+1) S hi
theorem Cov2.le{f g:Int->Int}:∀{S:List T6}{lo hi:Int},Cov2 f g lo S hi->lo<=hi
 | [],lo,hi,h=>by have:lo=hi:=h;omega
 |r::S,lo,hi,⟨h1,h2,_,h4⟩=>by have:=Cov2.le h4;omega
theorem Cov2.snoc{f g:Int->Int}{r:T6}(h2:r.1<=r.2.1)(h3:∀x,r.1<=x->x<=r.2.1->f x=tl r.2.2.1 r.2.2.2.1 x/\g x=tl r.2.2.2.2.1 r.2.2.2.2.2 x):∀{S:List T6}{lo:Int},Cov2 f g lo S r.1->Cov2 f g lo (S++[r]) (r.2.1+1)
 | [],lo,h=>by
  have:lo=r.1:=h
  subst this
  exact⟨rfl,h2,h3,rfl⟩
 |r0::S,lo,⟨a1,a2,a3,a4⟩=>⟨a1,a2,a3,Cov2.snoc h2 h3 a4⟩
theorem Cov2.get{f g:Int->Int}:∀{S:List T6}{lo hi:Int}{k:Nat}{r:T6},Cov2 f g lo S hi->S[k]?=some r->lo<=r.1/\r.1<=r.2.1/\r.2.1<hi/\(∀x,r.1<=x->x<=r.2.1->f x=tl r.2.2.1 r.2.2.2.1 x/\g x=tl r.2.2.2.2.1 r.2.2.2.2.2 x) /\
  (k=0->r.1=lo)/\(∀r',S[k+1]?=some r'->r'.1=r.2.1+1)/\(k+1=S.length->r.2.1+1=hi)
 | [],_,_,_,_,_,e=>by simp at e
 |r0::S,lo,hi,0,r,⟨h1,h2,h3,h4⟩,e=>by
  have e':r0=r:=by simpa using e
  subst e'
  have l:=Cov2.le h4
  refine⟨⋯,h2,⋯,h3,λ _=>h1,λ r' e'=>?_,λ e'=>?_⟩
  ·have e2:S[0]?=some r':=by simpa using e'
   exact(Cov2.get h4 e2).2.2.2.2.1 rfl
  ·have:S=[]:=by
    simp at e'
    exact e'
   subst this
   exact h4
 |r0::S,lo,hi,k+1,r,⟨h1,h2,h3,h4⟩,e=>by
  have e2:S[k]?=some r:=by simpa using e
  obtain⟨g1,g2,g3,g4,g5,g6,g7⟩:=Cov2.get h4 e2
  refine⟨⋯,g2,g3,g4,λ z=>⋯,λ r' e'=>g6 r' (by simpa using e'),λ e'=>g7 (by simp at e';omega)⟩
def jn(late:Bool)(x y:Int):Int:=if late=true then(if y>x then y else x) else(if y<x then y else x)
theorem jn_comm(late:Bool)(x y:Int):jn late x y=jn late y x:=by
 unfold jn
 split
 ·split<;>split<;>omega
 ·split<;>split<;>omega
theorem jn_add(late:Bool)(x y d:Int):jn late (x+d) (y+d)=jn late x y+d:=by
 unfold jn
 split
 ·split<;>split<;>omega
 ·split<;>split<;>omega
theorem rise_jn(late:Bool)(rf:Rise d f)(rg:Rise d g):Rise d λ x=>jn late (f x) (g x):=by
 refine⟨λ t=>?_,λ t u l=>?_,λ t=>?_⟩
 ·have:=rf.ge t
  have:=rg.ge t
  unfold jn
  split<;>split<;>omega
 ·have:=rf.mono t u l
  have:=rg.mono t u l
  unfold jn
  split
  ·split<;>split<;>omega
  ·split<;>split<;>omega
 ·show jn late (f (t+d)) (g (t+d))=_
  rw[rf.per,rg.per,jn_add]
def pickL(p q wt rd:Int)(late:Bool):List T4 :=
 (if p<=(if wt-rd<q then wt-rd else q) then [(p,(if wt-rd<q then wt-rd else q),late,if late=true then wt else rd)] else []) ++
 (if(if wt-rd+1>p then wt-rd+1 else p)<=q then [((if wt-rd+1>p then wt-rd+1 else p),q,!late,if late=true then rd else wt)] else [])
theorem qoe9{p q wt rd:Int}{late:Bool}{h:Int->Int}(pq:p<=q)(hh:∀x,p<=x->x<=q->h x=jn late wt (x+rd)):Cov h p (pickL p q wt rd late) (q+1):=by
 have lo:∀x,p<=x->x<=q->x<=wt-rd->h x=tl late (if late=true then wt else rd) x:=λ x x0 x1 x2=>by
  rw[hh x x0 x1]
  unfold jn tl
  cases late
  ·simp only[zcy,if_false];split<;>omega
  ·simp only[if_true];split<;>omega
 have hi:∀x,p<=x->x<=q->wt-rd<x->h x=tl (!late) (if late=true then rd else wt) x:=λ x x0 x1 x2=>by
  rw[hh x x0 x1]
  unfold jn tl
  cases late
  ·simp only[zcy,if_false,zgn,if_true];split<;>omega
  ·simp only[if_true,zfp,zcy,if_false];split<;>omega
 unfold pickL
 rcases(by omega:wt-rd<p\/(p<=wt-rd/\wt-rd<q)\/q<=wt-rd) with z|z|z
 ·rw[if_pos (show wt-rd<q by omega),if_neg (show ¬p<=wt-rd by omega),if_neg (show ¬wt-rd+1>p by omega),if_pos pq,zbz]
  exact Cov.one (r:=(p,q,!late,if late=true then rd else wt)) pq λ x x0 x1=>hi x x0 x1 (by have:p<=x:=x0;omega)
 ·rw[if_pos z.2,if_pos z.1]
  have hm:(if wt-rd+1>p then wt-rd+1 else p)=wt-rd+1:=if_pos ⋯
  rw[hm,if_pos (show wt-rd+1<=q by omega)]
  refine Cov.append (mid:=wt-rd+1) ?_ ?_
  ·exact Cov.one (r:=(p,wt-rd,late,if late=true then wt else rd)) z.1 λ x x0 x1=>lo x x0 (by have:x<=wt-rd:=x1;omega) x1
  ·exact Cov.one (r:=(wt-rd+1,q,!late,if late=true then rd else wt)) (by show wt-rd+1<=q;omega) λ x x0 x1=>hi x (by have:wt-rd+1<=x:=x0;omega) x1 (by have:wt-rd+1<=x:=x0;omega)
 ·rw[if_neg (show ¬wt-rd<q by omega),if_pos pq]
  have hm:¬(if wt-rd+1>p then wt-rd+1 else p)<=q:=by split<;>omega
  rw[if_neg hm,zbr]
  exact Cov.one (r:=(p,q,late,if late=true then wt else rd)) pq λ x x0 x1=>lo x x0 x1 (by have:x<=q:=x1;omega)
theorem pick_len(p q wt rd:Int)(late:Bool):(pickL p q wt rd late).length<=2:=by
 unfold pickL
 rw[zal]
 have one:∀(c:Prop) [Decidable c] (x:T4),(if c then [x] else []).length<=1:=λ c _ x=>by split<;>simp
 exact zgi (one _ _) (one _ _)
def joinRow(late:Bool)(r:T6):List T4 :=
 if r.2.2.1=r.2.2.2.2.1 then [(r.1,r.2.1,r.2.2.1,jn late r.2.2.2.1 r.2.2.2.2.2)]
 else if r.2.2.1=true then pickL r.1 r.2.1 r.2.2.2.1 r.2.2.2.2.2 late else pickL r.1 r.2.1 r.2.2.2.2.2 r.2.2.2.1 late
theorem joinRow_len(late:Bool)(r:T6):(joinRow late r).length<=2:=by
 unfold joinRow
 split
 ·simp
 ·split<;>exact pick_len ..
theorem joinRow_cov{late:Bool}{r:T6}(pq:r.1<=r.2.1)(h:∀x,r.1<=x->x<=r.2.1->f x=tl r.2.2.1 r.2.2.2.1 x/\g x=tl r.2.2.2.2.1 r.2.2.2.2.2 x) :
  Cov (λ x=>jn late (f x) (g x)) r.1 (joinRow late r) (r.2.1+1):=by
 obtain⟨p,q,s,v,s',v'⟩:=r
 have h':∀x,p<=x->x<=q->f x=tl s v x/\g x=tl s' v' x:=h
 unfold joinRow
 show Cov _ p (if s=s' then [(p,q,s,jn late v v')] else if s=true then pickL p q v v' late else pickL p q v' v late) (q+1)
 by_cases e:s=s'
 ·rw[if_pos e]
  subst e
  refine Cov.one (r:=(p,q,s,jn late v v')) pq λ x x0 x1=>?_
  obtain⟨e1,e2⟩:=h' x x0 x1
  show jn late (f x) (g x)=tl s (jn late v v') x
  rw[e1,e2]
  unfold tl
  cases s
  ·simp only[zcy,if_false]
   have:=jn_add late v v' x
   rw[zgr v x,zgr v' x] at this
   omega
  ·simp
 ·rw[if_neg e]
  cases s with
  |true =>
   have e':s'=false:=by cases s' with|true=>exact absurd rfl e|false=>rfl
   subst e'
   rw[if_pos rfl]
   refine qoe9 pq λ x x0 x1=>?_
   obtain⟨e1,e2⟩:=h' x x0 x1
   show jn late (f x) (g x)=_
   rw[e1,e2]
   rfl
  |false =>
   have e':s'=true:=by cases s' with|false=>exact absurd rfl e|true=>rfl
   subst e'
   rw[if_neg (by decide)]
   refine qoe9 pq λ x x0 x1=>?_
   obtain⟨e1,e2⟩:=h' x x0 x1
   show jn late (f x) (g x)=_
   rw[e1,e2,jn_comm]
   rfl
def omin:Option Int->Option Int->Option Int
 |none,b=>b
 |a,none=>a
 |some x,some y=>some (jn false x y)
def omax:Option Int->Option Int->Option Int
 |some x,some y=>some (jn true x y)
 |_,_=>none
theorem bt_append(d:Int)(R R':List T3)(t:Int):bt d (R++R') t=omin (bt d R t) (bt d R' t):=by
 rcases bt_spec d t R with⟨rfl,e⟩|⟨y,e,m⟩
 ·rw[e,zbz]
  cases bt d R' t<;>rfl
 ·rcases bt_spec d t R' with⟨rfl,e'⟩|⟨y',e',m'⟩
  ·rw[e',e,zbr,e]
   rfl
  ·rw[e,e']
   show _=some (jn false y y')
   refine IsMin.bt ⟨?_,λ w hw=>?_⟩
   ·unfold jn
    rw[if_neg (by decide)]
    split
    ·obtain⟨w,hw,q⟩:=m'.at_
     exact⟨w,zap _ hw,q⟩
    ·obtain⟨w,hw,q⟩:=m.at_
     exact⟨w,zbg _ hw,q⟩
   ·unfold jn
    rw[if_neg (by decide)]
    rcases zau.mp hw with hw|hw
    ·have:=m.le w hw
     split<;>omega
    ·have:=m'.le w hw
     split<;>omega
theorem Tells.min{R R':List T3}(h:Tells d R f)(h':Tells d R' g)(t:Int):omin (bt d R t) (bt d R' t)=some (jn false (f t) (g t)):=by rw[h t,h' t];rfl
theorem Tells.max{R R':List T3}(h:Tells d R f)(h':Tells d R' g)(t:Int):omax (bt d R t) (bt d R' t)=some (jn true (f t) (g t)):=by rw[h t,h' t];rfl
theorem ck_one(hd:0<d){w:T3}(h:0<=w.1/\w.1<=w.2.1/\w.2.1<d/\0<=w.2.2):CK d [w]:=by
 refine⟨hd,λ u hu=>?_,zdj _ _,λ u hu v hv=>?_⟩
 ·rw[zag] at hu
  subst hu
  exact h
 ·rw[zag] at hu hv
  subst hu hv
  omega
end Ma
namespace Ma
theorem qkp9{α:Type} [DecidableEq α]:∀{l L:List α},l.Nodup->(∀x∈l,x∈L)->l.length<=L.length
 | [],_,_,_=>zbn _
 |x::l,L,h,s=>by
  obtain⟨L1,L2,rfl⟩:=zfk (s x (zak ..))
  have h':=zbl.mp h
  have:=qkp9 (L:=L1++L2) h'.2 λ y hy=>by
   have q:=s y (zam _ hy)
   rcases zau.mp q with q|q
   ·exact zbg _ q
   ·rcases zae.mp q with rfl|q
    ·exact absurd hy h'.1
    ·exact zap _ q
  simp only[zdw,zal] at *
  omega
theorem CK.starts{d:Int}{R:List T3}(h:CK d R):(R.map (·.1)).Nodup:=by
 refine zft.mpr (h.srt.imp_of_mem λ {u v} hu hv p=>?_)
 have:=(h.win u hu).2.1
 omega
section
variable {d:Int}{R R':List T3}
theorem at_open{f:Int->Int}{t:Int}(hd:0<d)(W:Wins d R)(T:Tells d R f)(t0:0<=t)(t1:t<d)(lt:f t<f (t+1)):∃u∈R,u.1<=t/\t<=u.2.1/\f t=t+u.2.2:=by
 obtain⟨u,hu,e⟩:=(bt_min (T t)).at_
 obtain⟨w0,w1,w2,w3⟩:=W u hu
 obtain⟨k,k1,k2,k3,k4,k5⟩:=qcj9 (t:=t) hd w0 w1 w2
 obtain⟨k',m1,m2,m3,m4,m5⟩:=qcj9 (t:=t+1) hd w0 w1 w2
 have le:=(bt_min (T (t+1))).le u hu
 rcases(by omega:nextO d u.1 u.2.1 t=t\/t+1<=nextO d u.1 u.2.1 t) with z|z
 ·rw[z] at k1 k2 e
  have:k=0:=by
   rcases(by omega:k<0\/k=0\/0<k) with y|y|y
   ·have:=qbf9 hd y
    omega
   ·exact y
   ·have:=qbf9 hd y
    omega
  subst this
  exact⟨u,hu,⋯,⋯,e⟩
 ·have:=m5 k _ k1 k2 z
  omega
theorem start_at(h:CK d R')(W:Wins d R){f:Int->Int}(T:Tells d R f)(T':Tells d R' f):∀w∈R',w.1∈0::(R.map (·.1)++R.map (·.2.1+1)):=by
 intro w hw
 have C:=h.can T'
 obtain⟨m0,m1,m2,m3⟩:=C.mem w hw
 have d0:=h.d0
 by_cases z:w.1=0
 ·rw[z];exact zak ..
 refine zam _ ?_
 obtain⟨fa,fl⟩:=m3 w.1 (zax _) m1
 obtain⟨u,hu,u1,u2,u3⟩:=at_open d0 W T m0 ⋯ fl
 by_cases ea:w.1=u.1
 ·exact zbg _ (zbi.mpr ⟨u,hu,ea.symm⟩)
 refine zap _ ?_
 have r:=h.rise T'
 have open_le:∀v∈R,∀x,v.1<=x->x<=v.2.1->f x<=x+v.2.2:=λ v hv x x1 x2=>by
  obtain⟨w0,w1,w2,w3⟩:=W v hv
  obtain⟨k,k1,k2,k3,k4,k5⟩:=qcj9 (t:=x) d0 w0 w1 w2
  have:=k5 0 x ⋯ ⋯ (zax _)
  have:=(bt_min (T x)).le v hv
  omega
 have l1:=open_le u hu (w.1-1) ⋯ ⋯
 have e1:w.1-1+1=w.1:=⋯
 have lt:f (w.1-1)<f (w.1-1+1):=by rw[e1];omega
 have ne:f (w.1-1)≠w.1-1+u.2.2:=λ e=>by
  obtain⟨w',hw',y1,y2⟩:=C.cov (w.1-1) ⋯ ⋯ lt
  obtain⟨n0,n1,n2,n3⟩:=C.mem w' hw'
  have c':=(n3 _ y1 y2).1
  have apart:w'.2.1<w.1:=by
   rcases(by omega:w'.2.1<w.1\/w.1<=w'.2.1) with y|y
   ·exact y
   ·exfalso
    obtain⟨i,hi,a1,a2,a3⟩:=qgt9 hw
    obtain⟨j,hj,b1,b2,b3⟩:=qgt9 hw'
    rcases(by omega:i<j\/i=j\/j<i) with q|q|q
    ·have:rB R' i<rA R' j:=(qkg9 h.srt q hj).1
     omega
    ·subst q
     omega
    ·have:rB R' j<rA R' i:=(qkg9 h.srt q hi).1
     omega
  obtain⟨i,hi,a1,a2,a3⟩:=qgt9 hw
  obtain⟨j,hj,b1,b2,b3⟩:=qgt9 hw'
  rcases(by omega:i<j\/i=j\/j<i) with q|q|q
  ·have:rB R' i<rA R' j:=(qkg9 h.srt q hj).1
   omega
  ·subst q
   omega
  ·have:=(qkg9 h.srt q hi).2.2
   exact this (by show rB R' j+1=rA R' i;omega) (by show rC R' j=rC R' i;omega)
 obtain⟨v,hv,v1,v2,v3⟩:=at_open d0 W T ⋯ ⋯ lt
 rcases(by omega:v.2.1=w.1-1\/w.1<=v.2.1) with y|y
 ·exact zbi.mpr ⟨v,hv,⋯⟩
 ·have:=open_le v hv w.1 ⋯ y
  omega
theorem ck_len(h:CK d R')(W:Wins d R)(e:∀t,bt d R' t=bt d R t):R'.length<=2*R.length+1:=by
 by_cases n:R'=[]
 ·rw[n];simp
 ·have T':=tells_bf (d:=d) n
  have T:Tells d R (bf d R'):=λ t=>by rw[<- e t];exact T' t
  have:=qkp9 h.starts (L:=0::(R.map (·.1)++R.map (·.2.1+1))) λ x hx=>by
   obtain⟨w,hw,rfl⟩:=zbi.mp hx
   exact start_at h W T T' w hw
  simp only[zah,zdw,zal] at this
  omega
end
end Ma
namespace Ma
theorem Cov.lt{f:Int->Int}:∀{S:List T4}{lo hi:Int}{i j:Nat}{r r':T4},Cov f lo S hi->S[i]?=some r->S[j]?=some r'->i<j->r.2.1<r'.1
 | [],_,_,_,_,_,_,_,e,_,_=>by simp at e
 |r0::S,lo,hi,0,j+1,r,r',⟨_,h2,h3,h4⟩,e,e',_=>by
  have e1:r0=r:=by simpa using e
  subst e1
  have e2:S[j]?=some r':=by simpa using e'
  have:=(Cov.get h4 e2).1
  omega
 |r0::S,lo,hi,i+1,j+1,r,r',⟨_,h2,h3,h4⟩,e,e',l=>Cov.lt h4 (by simpa using e) (by simpa using e') ⋯
 |r0::S,lo,hi,i,0,r,r',_,_,_,l=>⋯
theorem Cov.congr{f g:Int->Int}:∀{S:List T4}{lo hi:Int},(∀x,lo<=x->x<hi->f x=g x)->Cov f lo S hi->Cov g lo S hi
 | [],_,_,_,h=>h
 |r::S,lo,hi,e,⟨h1,h2,h3,h4⟩=>⟨h1,h2,λ x a b=>by
  have:=Cov.le h4
  rw[<- e x ⋯ ⋯];exact h3 x a b,Cov.congr (λ x a b=>e x ⋯ b) h4⟩
theorem rise_comp{d:Int}{f g:Int->Int}(rf:Rise d f)(rg:Rise d g):Rise d λ x=>g (f x):=by
 refine⟨λ t=>?_,λ t u l=>rg.mono _ _ (rf.mono t u l),λ t=>?_⟩
 ·have:=rf.ge t
  have:=rg.ge (f t)
  show t<=g (f t)
  omega
 ·show g (f (t+d))=g (f t)+d
  rw[rf.per,rg.per]
def rideRow(p e m ride:Int)(r:T4):T4:=if r.2.2.1=true then(p,e,true,m+r.2.2.2) else(p,e,false,ride+r.2.2.2)
theorem ride_cov{d:Int}{g:Int->Int}(rg:Rise d g){r:T4}{p e m k ride:Int}(hm:m=d*k)(pe:p<=e)(h1:m+r.1<=p+ride)(h2:e+ride<=m+r.2.1)(t:∀x,r.1<=x->x<=r.2.1->g x=tell r x) :
  Cov (λ x=>g (x+ride)) p [rideRow p e m ride r] (e+1):=by
 have gx:∀x,p<=x->x<=e->g (x+ride)=m+tell r (x+ride-m):=λ x x0 x1=>by
  have q:=rg.mul (x+ride-m) k
  rw[<- hm] at q
  have e1:x+ride-m+m=x+ride:=⋯
  rw[e1] at q
  rw[q,t _ ⋯ ⋯]
  omega
 unfold rideRow
 unfold tell at gx
 by_cases s:r.2.2.1=true
 ·rw[if_pos s]
  refine Cov.one (r:=(p,e,true,m+r.2.2.2)) pe λ x x0 x1=>?_
  show g (x+ride)=m+r.2.2.2
  rw[gx x x0 x1,if_pos s]
 ·rw[if_neg s]
  refine Cov.one (r:=(p,e,false,ride+r.2.2.2)) pe λ x x0 x1=>?_
  show g (x+ride)=x+(ride+r.2.2.2)
  rw[gx x x0 x1,if_neg s]
  omega
def obind(a b:Int->Option Int)(t:Int):Option Int:=(a t).bind b
end Ma
namespace Ma
end Ma
namespace Ma
section
variable {d a b c:Int}
end
section
variable {d:Int}{R:List T3}{f:Int->Int}
end
end Ma
namespace Ma
section
variable {f g:Int->Int}
end
end Ma
namespace Ma
theorem nextO_eq(d a b t:Int)(h1:a<=b):nextO d a b t=if b<t%d then t+d+a-t%d else if t%d<a then t+a-t%d else t:=by
 unfold nextO
 split
 ·omega
 ·split<;>omega
end Ma
namespace L2
open PySem PySem.Spec PyProof.Rows
variable {X:Cx}{a tg:Expr}{H:Hp}{b c:Int}{es:List Expr}{ns:List Int}{i kk:Nat}{cpos p pos pos' tp:Pos}{σ:St}{x:Str}{ta:TA}{te:TE}{g:TG}{K:W.Frag}
def Ite(K:W.Frag)(a:Addr):It :=
 ⟨λ i H=>∃xs x,SqL K H a xs/\xs[i]?=some x,
  λ i H v H'=>∃p x,v=.ref p/\H p=none/\H'=upd H p (.tup [.int i,x])/\(∀xs,SqL K H a xs->xs[i]?=some x),
  λ i H=>∃xs,SqL K H a xs/\xs.length<=i⟩
theorem turn_enum{P:Program}{w:World}{e it a:Addr}(D:e≠it):Turn P w K (.Tuple es kk tp) (Ite K a) [e,it] e
  (λ i h=>(∃old,IsEnum h e it (i:Int) old)/\h.IsListIter it a i) where
 mem:=by simp
 obj:=λ i h st c hc=>by
  obtain⟨⟨old,he⟩,⟨o1,e1,c1,d1⟩⟩:=st
  simp only[zae,zav,or_false] at hc
  rcases hc with rfl|rfl
  ·exact⟨_,he,λ v q=>by cases (show Data.fields _=Data.cell v from q)⟩
  ·exact⟨o1,e1,λ v q=>by rw[d1] at q;cases q⟩
 keep:=λ i h h' st k=>by
  obtain⟨⟨old,he⟩,h1⟩:=st
  exact⟨⟨old,k e (by simp) _ he⟩,h1.at λ o e=>k it (by simp) o e⟩
 item:=by
  intro X hP hw hK hc i pins s σ H E I hf st hg
  subst hP hw hK
  obtain⟨xs,x,hq1,hx⟩:=hg
  obtain⟨t1,rv1,p1,hz1⟩:=I.list hq1
  obtain⟨u,hu,ru⟩:=rv1.get hx
  obtain⟨⟨old,he⟩,h1⟩:=st
  refine wpAny_pyNext_enum_item he h1 p1.isList (x:=u) (by simpa using hu) D λ h' a1 a3 a5 a6 k=>?_
  have fresh:H s.heap.objs.size=none:=I.hok.fresh (zaj _)
  have szn:∀c o,s.heap.get? c=some o->c≠s.heap.objs.size:=λ c o e=>zaz (zaq e)
  have I1:Inv X pins σ (upd H s.heap.objs.size (.tup [.int i,x])) { s with heap:=h' }:=by
   refine I.turnedL (ch:=[e,it]) (λ c hc=>hf c hc) (λ c o hc e=>?_) (λ c o e=>by rw[qaq9 (qbc9 e fresh)];exact e) (λ c o e n=>by rw[qaq9 (szn c o e)];exact n) λ c o n e=>?_
   ·simp only[zae,zav,or_false,not_or] at hc
    exact k c o hc.1 hc.2 e
   ·by_cases ec:c=s.heap.objs.size
    ·rw[ec,qaf9] at e
     cases e
     rw[ec]
     exact⟨by show 2<=sizeLine;decide,[.int i s.toks,u],.cons ⟨_,rfl⟩ (.cons ru .nil),_,a5,rfl,_,rfl⟩
    ·rw[qaq9 ec,n] at e
     cases e
  have I1':Inv X pins σ (upd H s.heap.objs.size (.tup [.int i,x])) { s with heap:=h',toks:=s.toks+1 }:=I1.tok _
  refine⟨_,rfl,wpAny_letOwnedTupleGo_enum a1 λ h'' hz'' sb=>?_⟩
  have zf:=hf e (by simp)
  have zs:e≠s.heap.objs.size:=szn e _ he
  have I2:Inv X pins σ (upd H s.heap.objs.size (.tup [.int i,x])) { s with heap:=h'',toks:=s.toks+1 }:=Inv.turned (s:={ s with heap:=h',toks:=s.toks+1 }) (h':=h'') (t':=s.toks+1) (it:=e) I1' (λ c o hc e=>sb.extBut c o hc e) (by rw[qaq9 zs];exact zf.1) zf.2.1 zf.2.2.2.1 zf.2.2.2.2.1 zf.2.2.2.2.2
  refine⟨.ref s.heap.objs.size,_,I2,rfl,⟨_,x,rfl,fresh,rfl,λ xs' h=>by rw[I.list_inj h hq1];exact hx⟩,?_,λ c hc=>?_⟩
  ·exact⟨⟨_,hz''⟩,a3.extBut sb.extBut D.symm⟩
  ·have q:c≠s.heap.objs.size:=by
    obtain⟨o1,e1,_⟩:=h1
    simp only[zae,zav,or_false] at hc
    rcases hc with rfl|rfl
    ·exact zs
    ·exact szn _ _ e1
   rw[qaq9 q]
   exact(hf c hc).1
 done:=by
  intro X hP hw hK hc i pins s σ H E I hf st hg
  subst hP hw hK
  obtain⟨xs,hq1,hl⟩:=hg
  obtain⟨t1,rv1,p1,hz1⟩:=I.list hq1
  have l1:=rv1.length
  obtain⟨⟨old,he⟩,h1⟩:=st
  refine wpAny_pyNext_enum_end (I.ok.hd hc) he h1 p1.isList (by simp;omega) λ h' k=>⟨rfl,?_⟩
  refine I.turnedL (ch:=[e,it]) (λ c hc=>hf c hc) (λ c o hc e=>?_) (λ c o e=>e) (λ c o e n=>n) λ c o n e=>by rw[n] at e;cases e
  simp only[zae,zav,or_false,not_or] at hc
  exact k c o hc.2 e
 self:=λ _ _ _ _ _ st h=>by
  obtain⟨⟨old,he⟩,_⟩:=st
  exact wpAny_pyIter_enum he h
def iEnum(K:W.Frag)(ta:TA):TI:=λ σ H R=>ta σ H λ vs H1=>∃l1,vs=[.ref l1]/\(∃xs,SqL K H1 l1 xs)/\R (Ite K l1) H1
theorem boot_enum:bootBuiltins "enumerate"=some (.type "enumerate"):=by decide +kernel
theorem pi_enum(hg:Gl X "enumerate")(hm:X.mg "enumerate"=none)(ha:PA X [a] ta)(hs:starEach [a] X.env=[(false,eval a X.env)]) :
  PI X (.Tuple es kk tp) (.Call (.Name "enumerate" p) [a] [] pos) (iEnum X.K ta):=by
 intro pins s σ H R I h
 refine Call_ (qmt9 I hg hm boot_enum (PyProof.Rows.callWith_type1 (thn (ha pos pins s σ H _ I h) λ us s1 ⟨vs,H1,I1,r1,q1⟩=>?_) (by rw[hs];rfl) (by rfl)))
 obtain⟨l1,e,⟨xs,hq1⟩,q⟩:=q1
 subst e
 cases r1 with
 |cons r rr =>
  cases rr
  cases r
  obtain⟨t1,rv1,p1,hz1⟩:=I1.list hq1
  refine call_enumerate_list p1.isList λ h' hz hit1 hsz k=>wpAny_pyIter_enum hz ?_
  refine⟨s1.heap.objs.size+1,[s1.heap.objs.size+1,s1.heap.objs.size],_,_,H1,rfl,I1.kept (t':=s1.toks) k,turn_enum (Nat.succ_ne_self _),⟨⟨_,hz⟩,hit1⟩,λ c hc=>?_,q⟩
  have ge:s1.heap.objs.size<=c:=by
   simp only[zae,zav,or_false] at hc
   rcases hc with rfl|rfl<;>omega
  exact I1.fpOk ge (I1.hok.fresh ge)
theorem qpc9{p pos tp:Pos}{es:List Expr}{kk:Nat}(hg:Gl X "enumerate")(hm:X.mg "enumerate"=none)(ha:QA X [a] ta)(h:qbt9 a=true:=by rfl) :
  QI X (.Tuple es kk tp) (.Call (.Name "enumerate" p) [a] [] pos) (iEnum X.K ta):=⟨pi_enum hg hm ha.run (by rw[se_of h];rfl)⟩
theorem qkf9{a:Addr}{xs:List V}{tb:TS}{D:Ends}(Pv:Nat->St->Hp->Prop)(h0:Pv 0 σ H)(hl:∀i σ H,i<=xs.length->Pv i σ H->SqL K H a xs)
  (hs:∀i x p σ H,xs[i]?=some x->Pv i σ H->H p=none->g (.ref p) σ (upd H p (.tup [.int i,x])) λ σ2 H2=>tb { D with nx:=Pv (i+1),ct:=Pv (i+1),bk:=D.nx } σ2 H2) (hd:∀σ H,Pv xs.length σ H->D.nx σ H) :
  ∃W:Nat->Nat->St->Hp->Prop,(∃m,W 0 m σ H)/\∀i m σ H,W i m σ H ->
   ((Ite K a).stop i H/\D.nx σ H)\/((Ite K a).go i H/\∃N:St->Hp->Prop,(∀σ' H',N σ' H'->∃m',m'<m/\W (i+1) m' σ' H')/\∀x H',(Ite K a).yld i H x H'->g x σ H' λ σ2 H2=>tb { D with nx:=N,ct:=N,bk:=D.nx } σ2 H2):=by
 refine⟨λ i m σ H=>m=xs.length-i/\i<=xs.length/\Pv i σ H,⟨xs.length,by simp,zbn _,h0⟩,?_⟩
 intro i m σ H z9;obtain⟨rfl,hi,p⟩ := z9
 have q:=hl i σ H hi p
 by_cases hlt:i<xs.length
 ·refine .inr ⟨⟨xs,xs[i],q,by simp[hlt]⟩,Pv (i+1),λ σ' H' p'=>⟨xs.length-(i+1),⋯,rfl,hlt,p'⟩,λ x H' y=>?_⟩
  obtain⟨c,x,e,fr,e2,y⟩:=y
  subst e e2
  exact hs i x c σ _ (y xs q) p fr
 ·have e:i=xs.length:=⋯
  subst e
  exact .inl ⟨⟨xs,q,zaj _⟩,hd σ H p⟩
section
variable {e o:Expr}{to:TE}{t:TA}{apos:Pos}
theorem qpf9{op:Operator}{ti:TIp}{pos':Pos}(hN:X.N.Nodup)(hi:X.N[i]?=some x)(hx:Loc X.env.scope x)(ho:PIp X op ti)(he:QE X e te)(hf:X.fn x=true\/X.env.scope.names.lookup x=some .local:=by first|exact .inl rfl|exact .inr rfl|assumption) :
  QS X (.AugAssign (.Name x pos') op e pos) (tAug i te ti):=⟨ps_aug hN hi hx he.run ho hf⟩
theorem qgx9{st:Stmt}:QS X st tNever:=⟨ps_never⟩
theorem qff9{sts:List Stmt}:QSs X sts tNever:=⟨pss_never⟩
theorem qna9:QS X (.Continue pos) tCont:=⟨qmj9⟩
theorem qge9:QOp X (binaryOp .Add) rCat:=⟨op_cat⟩
theorem qop_catT:QOp X (binaryOp .Add) (rCatT X.K):=⟨op_catT⟩
theorem qif9(ho:QE X o to)(ha:QA X [e] t)(h:qbt9 e=true:=by rfl)(hbase:attributeBase o "extend" X.env (eval o X.env)=eval o X.env:=by rfl)(hline:(apos.endLine==pos.line)=true:=by rfl) :
  QE X (.Call (.Attribute o "extend" apos) [e] [] pos) (tBM X.K "list" rExtend to t) :=
 ⟨pe_bm PySem.F.plainAttrs_list PySem.F.slot_list_extend PySem.F.type_list_extend mt_extend ho.run ha.run hbase (by rw[se_of h];rfl) hline (se_of h) rfl⟩
end
section
variable {lo:Int}{n:Nat}{caps:List (Option Nat)}{tt:TT}{Q:VK}
theorem qps9(Pv:Addr->Nat->Hp->Prop)(h0:∀D,H D=none->Pv D 0 (upd H D (.lst [])))
  (hs:∀D i H',H D=none->i<n->Pv D i H'->g (.int (lo+(i:Nat))) (seen caps σ) H' λ σ4 H4=>(∀(k:Nat) v,(seen caps σ)[k]?=some (some v)->σ4[k]?=some (some v))/\tt σ4 H4 λ b H5 =>
   if b=true then te σ4 H5 λ y H6=>∃ys,H6 D=some (.lst ys)/\ys.length<sizeLine/\Pv D (i+1) (upd H6 D (.lst (ys++[y]))) else Pv D (i+1) H5)
  (hd:∀D H',H D=none->Pv D n H'->Q (.ref D) H'):cBody caps g tt te σ Q (Itr lo n) H:=by
 intro D hD
 refine⟨λ i m H'=>m=n-i/\i<=n/\Pv D i H',⟨n,by simp,zbn _,h0 D hD⟩,?_⟩
 intro i m H2 z9;obtain⟨rfl,hi,p⟩ := z9
 by_cases hlt:i<n
 ·refine .inr ⟨hlt,Pv D (i+1),λ H' p'=>⟨n-(i+1),⋯,rfl,hlt,p'⟩,λ x H3 y=>?_⟩
  obtain⟨e,y⟩:=y
  subst e y
  exact hs D i _ hD hlt p
 ·have e:i=n:=⋯
  subst e
  exact .inl ⟨zaj _,hd D H2 hD p⟩
theorem qhk9(Pv:Addr->Nat->Hp->Prop)(h0:∀D,H D=none->Pv D 0 (upd H D (.lst [])))
  (hs:∀D i H',H D=none->i<n->Pv D i H'->g (.int (lo+(i:Nat))) (seen caps σ) H' λ σ4 H4=>(∀(k:Nat) v,(seen caps σ)[k]?=some (some v)->σ4[k]?=some (some v)) /\
   te σ4 H4 λ y H6=>∃ys,H6 D=some (.lst ys)/\ys.length<sizeLine/\Pv D (i+1) (upd H6 D (.lst (ys++[y]))))
  (hd:∀D H',H D=none->Pv D n H'->Q (.ref D) H'):cBody caps g tTrue te σ Q (Itr lo n) H:=qps9 Pv h0 hs hd
end
def It3(lo st:Int)(n:Nat):It:=⟨λ i _=>i<n,λ i H x H'=>H'=H/\x=.int (lo+(i:Nat)*st),λ i _=>n<=i⟩
theorem qly9{P:Program}{w:World}(it:Addr)(lo stp:Int)(n:Nat):Turn P w K tg (It3 lo stp n) [it] it (λ i h=>IsRangeIter h it (lo+(i:Nat)*stp) ((n:Int)-(i:Nat)) stp) where
 mem:=by simp
 obj:=λ i h st b hb=>by
  have e:b=it:=by simpa using hb
  subst e
  exact⟨_,st,λ v z=>by
   have z':Data.fields _=Data.cell v:=z
   cases z'⟩
 keep:=λ i h h' st k=>k it (by simp) _ st
 item:=by
  intro X hP hw hK hc i pins s σ H E I hf st hg
  subst hP hw hK
  obtain⟨f0,f1,f2,f3,f4,f5⟩:=hf it (by simp)
  have hg':i<n:=hg
  refine wpAny_pyNext_range_item st ⋯ λ h' st' sb=>?_
  have I1:Inv X pins σ H { s with heap:=h',toks:=s.toks+1 }:=I.turned (λ b o hb e=>sb.extBut b o hb e) f0 f1 f3 f4 f5
  refine⟨_,rfl,go_of (s:={ s with heap:=h',toks:=s.toks+1 }) (n := "range_iterator") st' rfl rfl (by decide) ⟨.int _,H,I1,⟨_,rfl⟩,⟨rfl,rfl⟩,?_,λ b hb=>(hf b hb).1⟩⟩
  show IsRangeIter h' it (lo+((i+1:Nat):Int)*stp) ((n:Int)-((i+1:Nat):Int)) stp
  have e1:lo+((i+1:Nat):Int)*stp=lo+(i:Int)*stp+stp:=by
   rw[zfy,Int.add_mul]
   simp
   omega
  have e2:(n:Int)-((i+1:Nat):Int)=(n:Int)-(i:Int)-1:=⋯
  rw[e1,e2]
  exact st'
 done:=by
  intro X hP hw hK hc i pins s σ H E I hf st hg
  subst hP hw hK
  obtain⟨f0,f1,f2,f3,f4,f5⟩:=hf it (by simp)
  exact wpAny_pyNext_range_end (I.ok.hd hc) st (by have:n<=i:=hg;omega) λ h' eb=>⟨rfl,I.turned (t':=s.toks) (λ b o hb e=>eb b o hb e) f0 f1 f3 f4 f5⟩
 self:=λ _ _ _ _ _ st h=>wpAny_pyIter_rangeiter st h
def cnt3(a b c:Int):Nat:=if a<b then((b-a-1)/c+1).toNat else 0
theorem size3{a:Int}(hc:0<c):Builtin.Range.rangeSize a b c=((cnt3 a b c:Nat):Int):=by
 unfold Builtin.Range.rangeSize cnt3
 rw[if_pos ⋯]
 split
 ·have:0<=(b-a-1)/c:=zfz ⋯ ⋯
  omega
 ·rfl
theorem cnt3_lt{a:Int}(hc:0<c)(h:i<cnt3 a b c):a+(i:Int)*c<b:=by
 unfold cnt3 at h
 split at h
 ·have h1:(i:Int)<=(b-a-1)/c:=⋯
  have h2:=Int.mul_le_mul_of_nonneg_right h1 (zeb hc)
  have h3:=Int.ediv_mul_le (b-a-1) (b:=c) ⋯
  omega
 ·omega
theorem small3{a:Int}(ha:-(2 ^ 60)<=a)(ha':a<2 ^ 60)(hb:-(2 ^ 60)<=b)(hb':b<2 ^ 60)(hc:0<c)(hc':c<1000):Builtin.Range.small a b c=true:=by
 have hn:0<=Builtin.Range.rangeSize a b c/\Builtin.Range.rangeSize a b c<2 ^ 62:=by
  unfold Builtin.Range.rangeSize
  rw[if_pos ⋯]
  split
  ·have h1:0<=(b-a-1)/c:=zfz ⋯ ⋯
   have h2:(b-a-1)/c<=b-a-1:=Int.ediv_le_self _ ⋯
   omega
  ·omega
 unfold Builtin.Range.small Builtin.Range.rangeFitsLong
 generalize Builtin.Range.rangeSize a b c=k at *
 simp only[zbm,zgh,decide_eq_true_eq,beq_iff_eq]
 refine⟨⟨⟨⟨?_,?_⟩,?_⟩,?_⟩,.inr ?_⟩
 ·omega
 ·omega
 ·omega
 ·omega
 ·rw[if_pos ⋯]
  simp only[zbm,decide_eq_true_eq]
  omega
def iRng3(ta:TA):TI:=λ σ H R=>ta σ H λ vs H1=>∃i j c:Int,vs=[.int i,.int j,.int c]/\(-(2 ^ 60)<=i/\i<2 ^ 60/\-(2 ^ 60)<=j/\j<2 ^ 60/\0<c/\c<1000)/\R (It3 i c (cnt3 i j c)) H1
theorem pi_range3{b c:Expr}(hg:Gl X "range")(hm:X.mg "range"=none)(ha:PA X [a,b,c] ta)(hs:starEach [a,b,c] X.env=(false,eval a X.env)::starEach [b,c] X.env)(hs2:(backTo pos (starEach [b,c] X.env)).any (·.1)=false) :
  PI X tg (.Call (.Name "range" p) [a,b,c] [] pos) (iRng3 ta):=by
 intro pins s σ H R I h
 refine Call_ (qmt9 I hg hm boot_range (PyProof.Rows.callWith_type1 (thn (ha pos pins s σ H _ I h) λ us s1 z9=>?_) hs hs2))
 obtain⟨vs,H1,I1,r1,q1⟩ := z9
 obtain⟨i,j,k,e,⟨q1,q2,q3,q4,q5,q6⟩,q⟩:=q1
 subst e
 cases r1 with
 |cons r rr =>
  cases rr with
  |cons r' rr =>
   cases rr with
   |cons r'' rr =>
    cases rr
    obtain⟨t,rfl⟩:=r
    obtain⟨t',rfl⟩:=r'
    obtain⟨t'',rfl⟩:=r''
    refine call_range_3 ⋯ ?_ (.inl (PyProof.noPylong_small ⋯))
    refine wpAny_pyIter_range (IsRange.new ..) (small3 q1 q2 q3 q4 q5 q6) ?_
    have I2:Inv X pins σ H1 { s1 with heap:=s1.heap.push { cls:=.type "range",data:=.fields #[.int i t,.int j t',.int k t''] } }:=I1.kept (t':=s1.toks) λ b o e=>zad _ e
    refine⟨(s1.heap.push { cls:=.type "range",data:=.fields #[.int i t,.int j t',.int k t''] }).objs.size,[(s1.heap.push { cls:=.type "range",data:=.fields #[.int i t,.int j t',.int k t''] }).objs.size],_,_,H1,rfl,
     I2.kept (t':=s1.toks) λ b o e=>zad _ e,qly9 _ i k (cnt3 i j k),?_,λ b hb=>?_,q⟩
    ·show IsRangeIter _ _ (i+((0:Nat):Int)*k) (((cnt3 i j k:Nat):Int)-((0:Nat):Int)) k
     have e1:i+((0:Nat):Int)*k=i:=by simp
     have e2:((cnt3 i j k:Nat):Int)-((0:Nat):Int)=Builtin.Range.rangeSize i j k:=by rw[size3 q5];simp
     rw[e1,e2]
     exact zbb _ rfl
    ·have e:b=(s1.heap.push { cls:=.type "range",data:=.fields #[.int i t,.int j t',.int k t''] }).objs.size:=by simpa using hb
     subst e
     exact I2.fpOk (zaj _) (I2.hok.fresh (zaj _))
theorem qi_range3{b c:Expr}{p pos:Pos}(hg:Gl X "range")(hm:X.mg "range"=none)(ha:QA X [a,b,c] ta)(h:qbt9 a=true:=by rfl)(h2:[b,c].all qbt9=true:=by rfl):QI X tg (.Call (.Name "range" p) [a,b,c] [] pos) (iRng3 ta) :=
 ⟨pi_range3 hg hm ha.run (se_of h) (qoz9 h2)⟩
theorem qpp9{lo st:Int}{n:Nat}{tb:TS}{D:Ends}(Pv:Nat->St->Hp->Prop)(h0:Pv 0 σ H)
  (hs:∀i σ H,i<n->Pv i σ H->g (.int (lo+(i:Nat)*st)) σ H λ σ2 H2=>tb { D with nx:=Pv (i+1),ct:=Pv (i+1),bk:=D.nx } σ2 H2) (hd:∀σ H,Pv n σ H->D.nx σ H) :
  ∃W:Nat->Nat->St->Hp->Prop,(∃m,W 0 m σ H)/\∀i m σ H,W i m σ H ->
   ((It3 lo st n).stop i H/\D.nx σ H)\/((It3 lo st n).go i H/\∃N:St->Hp->Prop,(∀σ' H',N σ' H'->∃m',m'<m/\W (i+1) m' σ' H')/\∀x H',(It3 lo st n).yld i H x H'->g x σ H' λ σ2 H2=>tb { D with nx:=N,ct:=N,bk:=D.nx } σ2 H2):=by
 refine⟨λ i m σ H=>m=n-i/\i<=n/\Pv i σ H,⟨n,by simp,zbn _,h0⟩,?_⟩
 intro i m σ H z9;obtain⟨rfl,hi,p⟩ := z9
 by_cases hlt:i<n
 ·refine .inr ⟨hlt,Pv (i+1),λ σ' H' p'=>⟨n-(i+1),⋯,rfl,hlt,p'⟩,λ x H' y=>?_⟩
  obtain⟨e,y⟩:=y
  subst e y
  exact hs i σ _ hlt p
 ·have e:i=n:=⋯
  subst e
  exact .inl ⟨zaj _,hd σ H p⟩
section
variable {N':List Str}{scope:Scope}{cl:List (Str×Addr)}{caps:List (Option Nat)}{iter elt:Expr}{wi:TI}{tt:TT}
theorem comp_gen{use:Option (Value->Sem Unit)}{QQ:Value->Shared->Prop}{pins:List (Addr×Obj)}{s:Shared}{σ:St}{H:Hp}{Q:VK}{cpos:Pos}(B:BlkOk X N' scope cl caps)(hc:X.calm=true)(hi:PI X tg iter wi)(hg:∀C s0 H0 fp,PG (blk X N' scope cl C s0 H0 fp) tg g)(he:∀C s0 H0 fp,PE (blk X N' scope cl C s0 H0 fp) elt te)
  (hs:∀x,foldedSetIterable iter X.env x=pure x:=by intro _;rfl) (I:Inv X pins σ H s) (h:(tComp wi caps g tTrue te) σ H Q)
  (fin:∀(D C:Addr)(s6:Shared)(H5:Hp),Inv X pins σ H5 s6->FpOk X pins H5 C->(∃m,s6.heap.Ns C m)->Q (.ref D) H5->compPost (model X.prog X.w) X.A X.xe use QQ (.ref D) C (.ok .next) s6) :
  wpAny (model X.prog X.w) X.A (comprehension (.ListComp elt [⟨tg,iter,[],0⟩] scope pos) scope X.env cpos (newList []) false (eval iter X.env) use) QQ X.xe s:=by
 refine wpAny_comprehension_free (use:=use) rfl hs B.clos B.kind B.names ?_
 refine thn (hi pins s σ H _ I h) λ v s1 h1=>thn h1 λ itv s2 h2=>?_
 obtain⟨it,fp,tn,J,H2,rfl,I2,T,st2,f2,q2⟩:=h2
 have fpl:∀b∈fp,b<s2.heap.objs.size:=λ b hb=>by
  obtain⟨o,e,_⟩:=T.obj _ _ st2 b hb
  exact zaq e
 obtain⟨W,⟨m0,w0⟩,turn⟩:=q2 s2.heap.objs.size (I2.hok.fresh (zaj _))
 refine wpAny_newObj_type ?_
 have I3:Inv X pins σ (upd H2 s2.heap.objs.size (.lst [])) { s2 with heap:=s2.heap.push { cls:=.type "list",data:=.seq ([]:List Value).toArray } } :=
  I2.laid (t':=s2.toks) (λ b u e=>zad _ e) (zaj _) ⟨zbn _,[],0,.nil,zbb _ rfl⟩
 generalize hs3:({ s2 with heap:=s2.heap.push { cls:=.type "list",data:=.seq ([]:List Value).toArray } }:Shared)=s3 at I3
 have k23:∀b o,s2.heap.get? b=some o->s3.heap.get? b=some o:=λ b o e=>by rw[<- hs3];exact zad _ e
 have fpl3:∀b∈fp,b<s3.heap.objs.size:=λ b hb=>by
  obtain⟨o,e,_⟩:=T.obj _ _ st2 b hb
  exact zaq (k23 b o e)
 have f3:∀b∈fp,FpOk X pins (upd H2 s2.heap.objs.size (.lst [])) b:=λ b hb=>⟨by rw[qaq9 (zaz (fpl b hb))];exact(f2 b hb).1,(f2 b hb).2⟩
 refine wpAny_newFunctionEnv B.nocell (by intro y hy;simp at hy) (λ h1 hn1 sb1=>?_) B.kind
 have k31:∀b o,s3.heap.get? b=some o->h1.get? b=some o:=λ b o e=>sb1.extBut b o (zaz (zaq e)) (zad _ e)
 have J0:=qoc9 (fp:=fp) (tk:=s3.toks+([]:List (Str×Value)).length) B I3 f3 hn1 k31 fpl3
 have st1:tn 0 h1:=T.keep _ _ _ st2 λ b _ o e=>k31 b o (k23 b o e)
 have loop:codeAny (model X.prog X.w) X.A (.compLoop (.ListComp elt [⟨tg,iter,[],0⟩] scope pos) 0 (.ref it) (.ref s2.heap.objs.size) (blk X N' scope cl s3.heap.objs.size s3 (upd H2 s2.heap.objs.size (.lst [])) fp).env)
   (compPost (model X.prog X.w) X.A X.xe use QQ (.ref s2.heap.objs.size) s3.heap.objs.size) { s3 with heap:=h1,toks:=s3.toks+([]:List (Str×Value)).length }:=by
  refine codeAny_loop rfl (λ n s'=>∃i H',Inv (blk X N' scope cl s3.heap.objs.size s3 (upd H2 s2.heap.objs.size (.lst [])) fp) [] (seen caps σ) H' s'/\tn i s'.heap/\(∀b∈fp,H' b=none)/\W i n H') (λ n s5 hI=>?_) m0
   ⟨0,_,J0,st1,λ b hb=>(f3 b hb).1,w0⟩
  obtain⟨i,H5,I5,st5,fr5,w5⟩:=hI
  show wpAny _ _ ((compTurn (.ListComp elt [⟨tg,iter,[],0⟩] scope pos) 0 (.ref it) (.ref s2.heap.objs.size) (blk X N' scope cl s3.heap.objs.size s3 (upd H2 s2.heap.objs.size (.lst [])) fp).env).onRaise (λ x=>do noteFrame x (blk X N' scope cl s3.heap.objs.size s3 (upd H2 s2.heap.objs.size (.lst [])) fp).env;theTreesLotGoes x)) _ _ s5
  refine wpAny_noted ?_
  rw[compTurn_list1]
  have ff:∀{H':Hp},(∀b∈fp,H' b=none)->∀b∈fp,FpOk (blk X N' scope cl s3.heap.objs.size s3 (upd H2 s2.heap.objs.size (.lst [])) fp) [] H' b:=λ {H'} hn b hb =>
   ⟨hn b hb,(J0.ok.exf b hb).1,J0.ok.exfs b hb,.inl hb,λ x c e=>(J0.ok.exf b hb).2 x c e,λ p hp=>absurd (show p∈([]:List (Addr×Obj)) from hp) (by simp)⟩
  rcases turn i n H5 w5 with⟨stop,qn⟩|⟨go,N,hN,step⟩
  ·refine wpAny_bind (wpAny_standAt (wpAny_bind (thn (T.done (blk X N' scope cl s3.heap.objs.size s3 (upd H2 s2.heap.objs.size (.lst [])) fp) rfl rfl rfl hc i [] s5 _ H5 _ I5 (ff fr5) st5 stop) λ r s6 z9=>?_)))
   obtain⟨hr,I6⟩ := z9
   subst hr
   refine wpAny_pure ?_
   obtain⟨m,hn,_⟩:=id I6.loc
   exact fin _ _ _ _ (qnw9 I3 f3 fpl3 I6 (Heap.SameBut.refl _ _)) (I3.fpOk (zaj _) I6.free) ⟨m,hn⟩ qn
  ·refine wpAny_bind (wpAny_standAt (wpAny_bind (thn (T.item (blk X N' scope cl s3.heap.objs.size s3 (upd H2 s2.heap.objs.size (.lst [])) fp) rfl rfl rfl hc i [] s5 _ H5 _ I5 (ff fr5) st5 go) λ r s6 z9=>?_)))
   obtain⟨u,hr,h6⟩ := z9
   subst hr
   refine wpAny_bind (thn h6 λ _ s7 z9=>?_)
   obtain⟨x,H7,I7,r7,y7,st7,fr7⟩ := z9
   have I7':=I7.pinned (ff fr7) (T.obj _ _ st7)
   refine wpAny_bind (wpAny_mono (hg _ _ _ _ _ s7 _ H7 x u _ I7' r7 (step x H7 y7)) (λ _ s8 z9=>?_) λ _ _ f=>f.elim)
   obtain⟨σ8,H8,I8,kp,q8⟩ := z9
   have q8':te σ8 H8 λ y H6=>∃ys,H6 s2.heap.objs.size=some (.lst ys)/\ys.length<sizeLine/\N (upd H6 s2.heap.objs.size (.lst (ys++[y]))):=by
    have z:=q8
    unfold tTrue at z
    dsimp only at z
    rw[if_pos rfl] at z
    exact z
   refine wpAny_bind (wpAny_bind (wpAny_mono (he _ _ _ _ _ s8 σ8 H8 _ I8 q8') (λ y s9 z9=>?_) λ _ _ f=>f.elim))
   obtain⟨y',H9,I9,r9,ys,hD,hl,n9⟩ := z9
   refine wpAny_bind (wpAny_mono (qgj9 (X:=blk X N' scope cl s3.heap.objs.size s3 (upd H2 s2.heap.objs.size (.lst [])) fp) _ s9 σ8 H9 (.ref s2.heap.objs.size) [y'] (.ref s2.heap.objs.size) [y] (λ _ H'=>N H') I9 rfl (.cons r9 .nil) ⟨_,ys,y',rfl,rfl,hD,hl,n9⟩) (λ _ s10 z9=>?_) λ _ _ f=>f.elim)
   obtain⟨_,H10,I10,_,n10⟩ := z9
   exact wpAny_pure (wpAny_pure ⟨rfl,qfr9 T hN st7 I10 kp (I5.len.trans I10.len.symm) n10⟩)
 exact codeAny_compStart_list loop (T.self X.A 0 _ _ _ st1 loop)
theorem qoq9{pos' cpos:Pos}{c:Expr}(hN:X.N.Nodup)(hix:X.N[i]?=some x)(hx:Loc X.env.scope x)(B:BlkOk X N' scope cl caps)(hc:X.calm=true)(hi:PI X tg iter wi)(hg:∀C s0 H0 fp,PG (blk X N' scope cl C s0 H0 fp) tg g)(he:∀C s0 H0 fp,PE (blk X N' scope cl C s0 H0 fp) elt te)
  (hs:∀x,foldedSetIterable iter X.env x=pure x:=by intro _;rfl) (hsw:swapsWith (.ListComp elt [⟨tg,iter,[],0⟩] scope cpos) (some (.Name x pos')) pos.line X.env=pure true:=by rfl) (hf:X.fn x=true\/X.env.scope.names.lookup x=some .local:=by first|exact .inl rfl|exact .inr rfl|assumption) :
  PS X (.Assign [.Name x pos'] (.ListComp elt [⟨tg,iter,[],0⟩] scope cpos) pos) (tAsg (tComp wi caps g tTrue te) (gName i)):=by
 intro pins s σ H D I h
 rw[exec_Assign_Name_used _ _ _ _ hsw]
 refine wpAny_bind (wpAny_standAt (wpAny_bind ?_))
 refine wpAny_bind (thn (comp_gen (use:=some (assign (.Name x pos') X.env)) (QQ:=λ _ s'=>SP X pins D .next s') B hc hi hg he hs I h ?_) λ _ s' q=>wpAny_pure (wpAny_pure q))
 intro Da C s6 H5 I6 fC z9 q;obtain⟨m,hn⟩ := z9
 show wpAny _ _ (assign (.Name x pos') X.env (.ref Da)) _ _ s6
 obtain⟨o,es,ep,eo,ed,k1,k2⟩:=hn
 have I6':=I6.pinned (fp:=[C]) (λ b hb=>by rw[zag.mp hb];exact fC) (λ b hb=>⟨o,by rw[zag.mp hb];exact eo,λ v z=>by rw[ed] at z;cases z⟩)
 refine thn (pg_name (pos:=pos') hN hix hx hf _ s6 σ H5 (.ref Da) (.ref Da) D.nx I6' rfl q) λ _ s7 z9=>?_
 obtain⟨σ7,H7,I7,q7⟩ := z9
 have e7:=I7.pin (C,o) (zap _ (zap _ (qet9 (by simp) eo)))
 exact⟨m,⟨o,es,ep,e7.1,ed,k1,k2⟩,λ h' sb=>⟨σ7,H7,Inv.turned (t':=s7.toks) (it:=C) I7.unpinned (λ b o hb e=>sb.extBut b o hb e) e7.2.1 fC.2.1 fC.2.2.2.1 fC.2.2.2.2.1 fC.2.2.2.2.2,q7⟩⟩
theorem qjc9{pos' cpos:Pos}(N':List Str)(caps:List (Option Nat))(hN:X.N.Nodup)(hix:X.N[i]?=some x)(hx:Loc X.env.scope x)(B:BlkOk X N' scope cl caps)(hc:X.calm=true)(hi:QI X tg iter wi)(hg:∀C s0 H0 fp,QG (blk X N' scope cl C s0 H0 fp) tg g)(he:∀C s0 H0 fp,QE (blk X N' scope cl C s0 H0 fp) elt te)
  (hs:∀x,foldedSetIterable iter X.env x=pure x:=by intro _;rfl) (hsw:swapsWith (.ListComp elt [⟨tg,iter,[],0⟩] scope cpos) (some (.Name x pos')) pos.line X.env=pure true:=by rfl) (hf:X.fn x=true\/X.env.scope.names.lookup x=some .local:=by first|exact .inl rfl|exact .inr rfl|assumption) :
  QS X (.Assign [.Name x pos'] (.ListComp elt [⟨tg,iter,[],0⟩] scope cpos) pos) (tAsg (tComp wi caps g tTrue te) (gName i)) :=
 ⟨qoq9 (c:=elt) hN hix hx B hc hi.run (λ C s0 H0 fp=>(hg C s0 H0 fp).run) (λ C s0 H0 fp=>(he C s0 H0 fp).run) hs hsw hf⟩
end
def valI(ns:List Int)(i:Nat):Int:=(ns[i]?).getD 0
theorem qpn9{its:List Value}(r:Vals (ns.map V.int) its){v:Value}(h:its[i]?=some v):∃t,v=.int (valI ns i) t:=by
 have hl:=r.length
 rw[zah] at hl
 have hi:i<ns.length:=by
  have:=(zab.mp h).1
  omega
 obtain⟨u,hu,ru⟩:=r.get (i:=i) (x:=.int ns[i]) (by rw[zaf,zaa hi];rfl)
 rw[h] at hu
 cases hu
 obtain⟨t,e⟩:=ru
 exact⟨t,by rw[e];unfold valI;rw[zaa hi];rfl⟩
theorem best_ge(f:Nat->Int):∀k,argBest (λ i j=>decide (f i>f j)) k<=k/\∀i,i<=k->f i<=f (argBest (λ i j=>decide (f i>f j)) k)
 |0=>⟨zaj _,λ i hi=>by
  have:i=0:=⋯
  subst this
  exact zax _⟩
 |k+1=>by
  obtain⟨h1,h2⟩:=best_ge f k
  simp only[argBest]
  by_cases c:f (k+1)>f (argBest (λ i j=>decide (f i>f j)) k)
  ·rw[if_pos (decide_eq_true c)]
   refine⟨zaj _,λ i hi=>?_⟩
   rcases(by omega:i<=k\/i=k+1) with z|z
   ·have:=h2 i z
    omega
   ·rw[z];exact zax _
  ·rw[if_neg (λ z=>c (of_decide_eq_true z))]
   refine⟨⋯,λ i hi=>?_⟩
   rcases(by omega:i<=k\/i=k+1) with z|z
   ·exact h2 i z
   ·rw[z];omega
theorem valI_mem(h:i<ns.length):valI ns i∈ns:=by
 unfold valI
 rw[zaa h]
 exact zby h
theorem mem_valI{x:Int}(h:x∈ns):∃i,i<ns.length/\valI ns i=x:=by
 obtain⟨i,hi,e⟩:=zdc.mp h
 exact⟨i,hi,by unfold valI;rw[zaa hi,e];rfl⟩
theorem call_maxL(hc:X.calm=true):CallR X (.builtin "max") (λ xs H Q=>∃(p:Addr)(ns:List Int),xs=[.ref p]/\SqL X.K H p (ns.map V.int)/\ns≠[]/\∀m,m∈ns->(∀x∈ns,x<=m)->Q (.int m) H):=by
 intro pins s σ H xs us Q I r h
 obtain⟨p,ns,rfl,hS,n0,q⟩:=h
 obtain⟨u,rfl,ru⟩:=vals1 r
 cases ru
 obtain⟨its,rv,pl,hz⟩:=I.list hS
 have hl:=pl.isList
 have hlt:p<s.heap.objs.size:=by obtain⟨_,e,_⟩:=hl;exact zaq e
 have hl2:=rv.length
 rw[zah] at hl2
 have hn:0<ns.length:=zdz.mpr n0
 have hsz:its.toArray.size=ns.length:=by rw[zar,hl2]
 refine call_max_walk (wpAny_pyIter_list hl ?_)
 refine⟨s.heap.objs.size,[s.heap.objs.size,p],[s.heap.objs.size],its.toArray.size,_,_,_,rfl,Walks.list (A:=X.A.in1) (I.ok.hd hc) _ p (zaz hlt) its.toArray,
  ⟨⟨_,zbb _ rfl,rfl,rfl⟩,hl.push _⟩,λ b hb=>?_,⋯,CmpOf.ints_gt (valI ns) (λ i v hP=>qpn9 rv (by simpa using hP)),λ v h' tk hP hk=>?_⟩
 ·simp only[zae,zav,or_false] at hb
  show b<(s.heap.push _).objs.size
  rw[Heap.size_push]
  rcases hb with rfl|rfl
  ·exact zel _
  ·exact Nat.lt_succ_of_lt hlt
 ·obtain⟨t,rfl⟩:=qpn9 rv (i:=argBest (λ i j=>decide (valI ns i>valI ns j)) (its.toArray.size-1)) (v:=v) (by simpa using hP)
  obtain⟨b1,b2⟩:=best_ge (valI ns) (its.toArray.size-1)
  have keep:∀b x,s.heap.get? b=some x->h'.get? b=some x:=λ b x e=>hk b x (λ hm=>by rw[zag.mp hm] at e;exact zcc _ (zaq e)) (zad _ e)
  refine⟨.int _,H,I.kept (t':=tk) keep,⟨_,rfl⟩,q _ (valI_mem ⋯) λ x hx=>?_⟩
  obtain⟨i,hi,e⟩:=mem_valI hx
  rw[<- e]
  exact b2 i ⋯
theorem qje9(hc:X.calm=true):QCall X (.builtin "max") (λ xs H Q=>∃(p:Addr)(ns:List Int),xs=[.ref p]/\SqL X.K H p (ns.map V.int)/\ns≠[]/\∀m,m∈ns->(∀x∈ns,x<=m)->Q (.int m) H):=⟨call_maxL hc⟩
end L2
namespace My
open PySem L2
variable {P a l p:Addr}{o:HO}{H H' H1:Hp}{R:List T3}{vs xs zs:List V}{n:Nat}{x:V}{K:W.Frag}
def Tup3(H:Hp)(r:Addr)(a b c:Int):Prop:=H r=some (.tup [.int a,.int b,.int c])
theorem qan9(h:H p=none)(o:HO):Same H (upd H p o):=λ b u q=>by rw[qaq9 (qbc9 q h)];exact q
theorem qnu9(hp:H p=none)(hg:upd H p o=H'):Same H H'/\H' p=some o:=by
 subst hg
 exact⟨qan9 hp o,qaf9⟩
theorem at_int{ns:List Int}{k:Int}(h0:0<=k)(h:k<(ns.length:Int)):∃v:Int,atI (ns.map V.int) k=some (.int v):=by
 have hk:k.toNat<ns.length:=⋯
 have ek:k=((k.toNat:Nat):Int):=⋯
 have q:atI (ns.map V.int) ((k.toNat:Nat):Int)=some (.int ns[k.toNat]):=qgh9 (by rw[zaf,zaa hk]<;>rfl)
 rw[<- ek] at q
 exact⟨_,q⟩
theorem iteP{c A B:Prop} [Decidable c](h:c)(x:A):if c then A else B:=by
 rw[if_pos h]
 exact x
theorem iteN{c A B:Prop} [Decidable c](h:¬c)(x:B):if c then A else B:=by
 rw[if_neg h]
 exact x
theorem pow15:((10:Int) ^ (15:Int).toNat)=1000000000000000:=by decide +kernel
inductive spCell(K:W.Frag)(vs:List V)(H:Hp)(Q:VK)(z3q:XK):Prop
 |mk (a:Addr) (ns:List Int) (k:Int):vs=[.ref a,.int k]->SqL K H a (ns.map V.int)->0<=k->(∀c:Int,Q (.int c) H)->spCell K vs H Q z3q
inductive spDay(vs:List V)(H:Hp)(Q:VK)(z3q:XK):Prop
 |mk (c:Int):vs=[.int c]->(∀(d:Int)(H':Hp),1<=d->d<=1000000000000000->Same H H'->Q (.int d) H')->spDay vs H Q z3q
open Ma (T3 rA rB rC)
def tup3(R:List T3)(i:Nat):HO:=.tup [.int (rA R i),.int (rB R i),.int (rC R i)]
structure RowsAt(H:Hp)(p:Addr)(R:List T3):Prop where
 ex:∃rs:List Addr,H p=some (.lst (rs.map V.ref))/\rs.length=R.length/\∀(i:Nat) r,rs[i]?=some r->H r=some (tup3 R i)
theorem RowsAt.mono(h:RowsAt H p R)(s:∀b o,H b=some o->(∀z,o ≠ .tbl z)->H' b=some o):RowsAt H' p R:=by
 obtain⟨rs,h1,h2,h3⟩:=h.ex
 exact⟨rs,s _ _ h1 (λ _ z=>nomatch z),h2,λ i r e=>s _ _ (h3 i r e) (λ _ z=>nomatch z)⟩
theorem RowsAt.at(h:RowsAt H p R):∃xs:List V,SqL K H p xs/\xs.length=R.length/\∀k:Int,0<=k->k<(R.length:Int)->∃r,atI xs k=some (.ref r)/\H r=some (tup3 R k.toNat):=by
 obtain⟨rs,h1,h2,h3⟩:=h.ex
 refine⟨rs.map V.ref,SqL.of h1,by rw[zah,h2],λ k k0 k1=>?_⟩
 have hk:k.toNat<rs.length:=⋯
 have ek:k=((k.toNat:Nat):Int):=⋯
 have q:atI (rs.map V.ref) ((k.toNat:Nat):Int)=some (.ref rs[k.toNat]):=qgh9 (by rw[zaf];simp[hk])
 rw[<- ek] at q
 exact⟨rs[k.toNat],q,h3 _ _ (zaa hk)⟩
theorem map_ref{rs:List Addr}{i:Nat}{y:V}(h:(rs.map V.ref)[i]?=some y):∃r,y=V.ref r/\rs[i]?=some r:=by
 rw[zaf] at h
 cases e:rs[i]? with
 |none=>rw[e] at h;cases h
 |some z=>rw[e] at h;exact⟨z,(Option.some.inj h).symm,rfl⟩
theorem qkz9{pos:Pos}{q:Str}(h:H P=some (.tbl #[])):TabOk H P pos q:=⟨#[],h,trivial,.inl rfl⟩
structure LA{α:Type}(enc:α->List V)(H:Hp)(p:Addr)(xs:List α):Prop where
 ex:∃rs:List Addr,H p=some (.lst (rs.map V.ref))/\rs.length=xs.length/\∀(i:Nat) r x,rs[i]?=some r->xs[i]?=some x->H r=some (.tup (enc x))
section
variable {α:Type}{enc:α->List V}{H H':Hp}{p q r:Addr}{xs ys:List α}{vs ws:List V}
theorem LA.nil(h:H p=some (.lst [])):LA enc H p []:=⟨[],h,rfl,λ i r x e=>by cases i<;>cases e⟩
theorem LA.mono(h:LA enc H p xs)(s:∀b o,H b=some o->(∀z,o ≠ .tbl z)->H' b=some o):LA enc H' p xs:=by
 obtain⟨rs,h1,h2,h3⟩:=h.ex
 exact⟨rs,s _ _ h1 (λ _ z=>nomatch z),h2,λ i r x e e'=>s _ _ (h3 i r x e e') (λ _ z=>nomatch z)⟩
theorem LA.same(h:LA enc H p xs)(s:Same H H'):LA enc H' p xs:=h.mono λ b o e _=>s b o e
theorem LA.lst(h:LA enc H p xs):∃vs,H p=some (.lst vs)/\vs.length=xs.length/\∀(i:Nat) y,vs[i]?=some y->∃r x,y=.ref r/\xs[i]?=some x/\H r=some (.tup (enc x)):=by
 obtain⟨rs,h1,h2,h3⟩:=h.ex
 refine⟨_,h1,by rw[zah,h2],λ i y e=>?_⟩
 obtain⟨r,rfl,er⟩:=map_ref e
 have hi:i<xs.length:=by
  have:=(zab.mp er).1
  omega
 exact⟨r,xs[i],rfl,zaa hi,h3 i r _ er (zaa hi)⟩
theorem LA.of(h:H p=some (.lst vs))(l:vs.length=xs.length)(g:∀(i:Nat) y,vs[i]?=some y->∃r,y=.ref r/\∀x,xs[i]?=some x->H r=some (.tup (enc x))):LA enc H p xs:=by
 have go:∀(vs:List V),(∀(i:Nat) y,vs[i]?=some y->∃r,y=V.ref r)->∃rs:List Addr,vs=rs.map V.ref:=by
  intro vs
  induction vs with
  |nil=>intro _;exact⟨[],rfl⟩
  |cons v vs ih =>
   intro g
   obtain⟨r,e⟩:=g 0 v rfl
   obtain⟨rs,e2⟩:=ih λ i y e=>g (i+1) y (by simpa using e)
   exact⟨r::rs,by rw[e,e2];rfl⟩
 obtain⟨rs,e⟩:=go vs λ i y e=>by
  obtain⟨r,e1,_⟩:=g i y e
  exact⟨r,e1⟩
 subst e
 refine⟨rs,h,by rw[zah] at l;exact l,λ i r x e1 e2=>?_⟩
 obtain⟨r',e3,e4⟩:=g i (.ref r) (by rw[zaf,e1];rfl)
 cases e3
 exact e4 x e2
theorem LA.append{x:α}(h:LA enc H p xs)(hx:H p=some (.lst vs))(hr:H r=some (.tup (enc x))):LA enc (upd H p (.lst (vs++[.ref r]))) p (xs++[x]):=by
 obtain⟨vs',h1,h2,h3⟩:=h.lst
 rw[h1] at hx
 cases hx
 have ne:∀q (ys:List V),H q=some (.tup ys)->q≠p:=λ q ys e z=>by rw[z,h1] at e;cases e
 refine LA.of qaf9 (by simp[h2]) λ i y e=>?_
 rcases(by omega:i<vs.length\/vs.length<=i) with hi|hi
 ·rw[zao hi] at e
  obtain⟨r',x',e1,e2,e3⟩:=h3 i y e
  refine⟨r',e1,λ x2 e4=>?_⟩
  rw[zao ⋯,e2] at e4
  cases e4
  rw[qaq9 (ne r' _ e3)]
  exact e3
 ·rw[zan hi] at e
  have ei:i-vs.length=0:=by
   have:=(zab.mp e).1
   simp at this
   omega
  rw[ei] at e
  have e':V.ref r=y:=by simpa using e
  refine⟨r,e'.symm,λ x2 e4=>?_⟩
  rw[zan ⋯,show i-xs.length=0 by omega] at e4
  have e5:x=x2:=by simpa using e4
  subst e5
  rw[qaq9 (ne r _ hr)]
  exact hr
theorem LA.extend(h:LA enc H p xs)(h':LA enc H q ys)(hx:H p=some (.lst vs))(hy:H q=some (.lst ws)):LA enc (upd H p (.lst (vs++ws))) p (xs++ys):=by
 obtain⟨vs',h1,h2,h3⟩:=h.lst
 obtain⟨ws',k1,k2,k3⟩:=h'.lst
 rw[h1] at hx
 cases hx
 rw[k1] at hy
 cases hy
 have ne:∀q (ys:List V),H q=some (.tup ys)->q≠p:=λ q ys e z=>by rw[z,h1] at e;cases e
 refine LA.of qaf9 (by simp[h2,k2]) λ i y e=>?_
 rcases(by omega:i<vs.length\/vs.length<=i) with hi|hi
 ·rw[zao hi] at e
  obtain⟨r',x',e1,e2,e3⟩:=h3 i y e
  refine⟨r',e1,λ x2 e4=>?_⟩
  rw[zao ⋯,e2] at e4
  cases e4
  rw[qaq9 (ne r' _ e3)]
  exact e3
 ·rw[zan hi] at e
  obtain⟨r',x',e1,e2,e3⟩:=k3 _ y e
  refine⟨r',e1,λ x2 e4=>?_⟩
  rw[zan ⋯,show i-xs.length=i-vs.length by omega,e2] at e4
  cases e4
  rw[qaq9 (ne r' _ e3)]
  exact e3
theorem LA.cat(h:LA enc H p xs)(h':LA enc H q ys)(hx:H p=some (.lst vs))(hy:H q=some (.lst ws))(hr:H r=none):LA enc (upd H r (.lst (vs++ws))) r (xs++ys):=by
 obtain⟨vs',h1,h2,h3⟩:=h.lst
 obtain⟨ws',k1,k2,k3⟩:=h'.lst
 rw[h1] at hx
 cases hx
 rw[k1] at hy
 cases hy
 have ne:∀q o,H q=some o->q≠r:=λ q o e=>qbc9 e hr
 refine LA.of qaf9 (by simp[h2,k2]) λ i y e=>?_
 rcases(by omega:i<vs.length\/vs.length<=i) with hi|hi
 ·rw[zao hi] at e
  obtain⟨r',x',e1,e2,e3⟩:=h3 i y e
  refine⟨r',e1,λ x2 e4=>?_⟩
  rw[zao ⋯,e2] at e4
  cases e4
  rw[qaq9 (ne r' _ e3)]
  exact e3
 ·rw[zan hi] at e
  obtain⟨r',x',e1,e2,e3⟩:=k3 _ y e
  refine⟨r',e1,λ x2 e4=>?_⟩
  rw[zan ⋯,show i-xs.length=i-vs.length by omega,e2] at e4
  cases e4
  rw[qaq9 (ne r' _ e3)]
  exact e3
theorem LA.setAt{x:α}{j:Nat}(h:LA enc H p xs)(hx:H p=some (.lst vs))(hr:H r=some (.tup (enc x))):LA enc (upd H p (.lst (vs.set j (.ref r)))) p (xs.set j x):=by
 obtain⟨vs',h1,h2,h3⟩:=h.lst
 rw[h1] at hx
 cases hx
 have ne:∀q (ys:List V),H q=some (.tup ys)->q≠p:=λ q ys e z=>by rw[z,h1] at e;cases e
 refine LA.of qaf9 (by simp[h2]) λ i y e=>?_
 rw[zbd] at e
 by_cases c:j=i
 ·rw[if_pos c] at e
  split at e
  ·have e':V.ref r=y:=by simpa using e
   refine⟨r,e'.symm,λ x2 e4=>?_⟩
   rw[zbd,if_pos c] at e4
   split at e4
   ·have e5:x=x2:=by simpa using e4
    subst e5
    rw[qaq9 (ne r _ hr)]
    exact hr
   ·cases e4
  ·cases e
 ·rw[if_neg c] at e
  obtain⟨r',x',e1,e2,e3⟩:=h3 i y e
  refine⟨r',e1,λ x2 e4=>?_⟩
  rw[zbd,if_neg c,e2] at e4
  cases e4
  rw[qaq9 (ne r' _ e3)]
  exact e3
theorem LA.copy(h:LA enc H p xs)(s:Same H H')(hx:H p=some (.lst vs))(e:H' q=some (.lst vs)):LA enc H' q xs:=by
 obtain⟨rs,h1,h2,h3⟩:=h.ex
 rw[h1] at hx
 cases hx
 exact⟨rs,e,h2,λ i r x e1 e2=>s _ _ (h3 i r x e1 e2)⟩
theorem LA.at{K:W.Frag}(h:LA enc H p xs):∃vs:List V,H p=some (.lst vs)/\vs.length=xs.length/\∀(k:Nat) x,xs[k]?=some x->∃r,atI vs (k:Int)=some (.ref r)/\H r=some (.tup (enc x)):=by
 obtain⟨vs,h1,h2,h3⟩:=h.lst
 refine⟨vs,h1,h2,λ k x e=>?_⟩
 have hk:k<vs.length:=by
  have:=(zab.mp e).1
  omega
 obtain⟨r,x',e1,e2,e3⟩:=h3 k _ (zaa hk)
 rw[e] at e2
 cases e2
 exact⟨r,qgh9 (by rw[zaa hk,e1]),e3⟩
end
theorem qpm9(h:vs≠[]):atI vs (-1)=vs[vs.length-1]?:=by
 have hl:0<vs.length:=zdz.mpr h
 unfold atI ixN
 rw[if_neg ⋯,if_pos ⋯]
 show vs[(-1+(vs.length:Int)).toNat]?=_
 congr 1
 omega
section
variable {α:Type}{D:α->PyData}
theorem qjl9 [DecidableEq α](hD:∀x y,PyData.eqv (D x) (D y)=decide (x=y)):∀xs ys:List α,PyData.eqvAll (xs.map D) (ys.map D)=decide (xs=ys)
 | [],[]=>by simp[PyData.eqvAll]
 | [],y::ys=>by simp[PyData.eqvAll]
 |x::xs,[]=>by simp[PyData.eqvAll]
 |x::xs,y::ys=>by
  have ih:=qjl9 hD xs ys
  simp only[zci,PyData.eqvAll,ih,hD]
  by_cases c:x=y<;>by_cases c':xs=ys<;>simp[c,c']
theorem qia9 [DecidableEq α](hD:∀x y,PyData.eqv (D x) (D y)=decide (x=y))(xs ys:List α):PyData.eqv (.list (xs.map D)) (.list (ys.map D))=decide (xs=ys):=by
 simp only[PyData.eqv]
 exact qjl9 hD xs ys
theorem qgz9(h:∀x,PyData.canLay0 (D x)=true):∀xs:List α,PyData.canLayAll0 (xs.map D)=true
 | []=>by simp[PyData.canLayAll0]
 |x::xs=>by
  have:=qgz9 h xs
  simp[PyData.canLayAll0,h,this]
theorem qij9{n:Nat}(h:∀x,PyData.depth (D x)<=n):∀xs:List α,PyData.depthAll (xs.map D)<=n
 | []=>by simp[PyData.depthAll]
 |x::xs=>by
  have:=qij9 h xs
  have:=h x
  simp only[zci,PyData.depthAll]
  omega
theorem qix9(h:∀x,PyData.canLay0 (D x)=true)(h2:∀x,PyData.depth (D x)<=n)(hn:n<=60)(xs:List α):SeqAt.shaped (.list (xs.map D))=true:=by
 have h3:=qij9 h2 xs
 show(PyData.canLay0 (.list (xs.map D))&&decide (PyData.depth (.list (xs.map D))<=64))=true
 rw[zbm]
 exact⟨by simp only[PyData.canLay0];exact qgz9 h xs,decide_eq_true (by simp only[PyData.depth];omega)⟩
theorem LA.rd{enc:α->List V}{ds:α->List PyData}{xs:List α}(h:LA enc H p xs)(hd:∀x,RdAll K H (enc x) (ds x)):RdV K H (.ref p) (.list (xs.map λ x=>.tuple (ds x))):=by
 obtain⟨rs,h1,h2,h3⟩:=h.ex
 refine .lst (SqL.of h1) ?_
 have go:∀(rs:List Addr)(xs:List α),rs.length=xs.length->(∀(i:Nat) r x,rs[i]?=some r->xs[i]?=some x->H r=some (.tup (enc x)))->RdAll K H (rs.map V.ref) (xs.map λ x=>.tuple (ds x)):=by
  intro rs
  induction rs with
  |nil =>
   intro xs hl _
   cases xs with
   |nil=>exact .nil
   |cons x xs=>cases hl
  |cons r rs ih =>
   intro xs hl g
   cases xs with
   |nil=>cases hl
   |cons x xs=>exact .cons (.tup (SqT.of (g 0 r x rfl rfl)) (hd x)) (ih xs (by simpa using hl) λ i r' x' e1 e2=>g (i+1) r' x' (by simpa using e1) (by simpa using e2))
 exact go rs xs h2 h3
end
open Ma (T4)
def enc3(t:T3):List V:=[.int t.1,.int t.2.1,.int t.2.2]
def enc4(t:T4):List V:=[.int t.1,.int t.2.1,.bl t.2.2.1,.int t.2.2.2]
def dat3(t:T3):PyData:=.tuple [.int t.1,.int t.2.1,.int t.2.2]
theorem eqv3(x y:T3):PyData.eqv (dat3 x) (dat3 y)=decide (x=y):=by
 obtain⟨a,b,c⟩:=x
 obtain⟨a',b',c'⟩:=y
 simp only[dat3,PyData.eqv,PyData.eqvAll,Prod.mk.injEq]
 by_cases c1:a=a'<;>by_cases c2:b=b'<;>by_cases c3:c=c'<;>simp[c1,c2,c3]
theorem rd3(h:LA enc3 H p R):RdV K H (.ref p) (.list (R.map dat3)):=h.rd λ x=>.cons (.int _) (.cons (.int _) (.cons (.int _) .nil))
theorem LA.rows(h:LA enc3 H p R):RowsAt H p R:=by
 obtain⟨rs,h1,h2,h3⟩:=h.ex
 refine⟨rs,h1,h2,λ i r e1=>?_⟩
 have hi:i<R.length:=by
  have:=(zab.mp e1).1
  omega
 exact h3 i r _ e1 (Ma.r_at hi)
inductive Dv(H:Hp):V->Prop
 |non:Dv H .non
 |bl (b:Bool):Dv H (.bl b)
 |int (i:Int):Dv H (.int i)
 |str (x:Str):Dv H (.str x)
 |lst {a:Addr} {xs:List V}:H a=some (.lst xs)->Dv H (.ref a)
 |tup {a:Addr} {xs:List V}:H a=some (.tup xs)->Dv H (.ref a)
def isWh:V->Bool
 | .int _=>true
 |_=>false
def tupV(H:Hp):V->Option (List V)
 | .ref a=>match H a with
  |some (.tup xs)=>some xs
  |_=>none
 |_=>none
def lstV(H:Hp):V->Option (List V)
 | .ref a=>match H a with
  |some (.lst xs)=>some xs
  |_=>none
 |_=>none
theorem qhn9(h:H a=some (.tup xs)):tupV H (.ref a)=some xs:=by simp[tupV,h]
theorem qgd9(h:H a=some (.lst xs)):lstV H (.ref a)=some xs:=by simp[lstV,h]
theorem qhw9(h:tupV H x=some xs):∃a,x=.ref a/\H a=some (.tup xs):=by
 unfold tupV at h
 split at h
 ·rename_i a
  split at h
  ·rename_i ys e
   cases h
   exact⟨a,rfl,e⟩
  ·cases h
 ·cases h
theorem qhm9(h:lstV H x=some xs):∃a,x=.ref a/\H a=some (.lst xs):=by
 unfold lstV at h
 split at h
 ·rename_i a
  split at h
  ·rename_i ys e
   cases h
   exact⟨a,rfl,e⟩
  ·cases h
 ·cases h
theorem Dv.same(h:Dv H x)(s:Same H H'):Dv H' x:=by
 cases h with
 |non=>exact .non
 |bl b=>exact .bl b
 |int i=>exact .int i
 |str x=>exact .str x
 |lst e=>exact .lst (s _ _ e)
 |tup e=>exact .tup (s _ _ e)
theorem Dv.tupV_same(h:Dv H x)(s:Same H H'):tupV H' x=tupV H x:=by
 cases h with
 |non=>rfl
 |bl b=>rfl
 |int i=>rfl
 |str x=>rfl
 |lst e=>simp[tupV,e,s _ _ e]
 |tup e=>simp[tupV,e,s _ _ e]
theorem Dv.lstV_same(h:Dv H x)(s:Same H H'):lstV H' x=lstV H x:=by
 cases h with
 |non=>rfl
 |bl b=>rfl
 |int i=>rfl
 |str x=>rfl
 |lst e=>simp[lstV,e,s _ _ e]
 |tup e=>simp[lstV,e,s _ _ e]
theorem Dv.isTup(h:Dv H x):∃t,TyOf K H x t/\W.kitOne K t (.type "tuple")=some (tupV H x).isSome:=by
 cases h with
 |non=>exact⟨_,.non,rfl⟩
 |bl b=>exact⟨_,.bl b,rfl⟩
 |int i=>exact⟨_,.int i,rfl⟩
 |str x=>exact⟨_,.str x,rfl⟩
 |lst e=>exact⟨_,.lst e,by simp only[tupV,e];rfl⟩
 |tup e=>exact⟨_,.tup e,by simp only[tupV,e];rfl⟩
theorem Dv.isLst(h:Dv H x):∃t,TyOf K H x t/\W.kitOne K t (.type "list")=some (lstV H x).isSome:=by
 cases h with
 |non=>exact⟨_,.non,rfl⟩
 |bl b=>exact⟨_,.bl b,rfl⟩
 |int i=>exact⟨_,.int i,rfl⟩
 |str x=>exact⟨_,.str x,rfl⟩
 |lst e=>exact⟨_,.lst e,by simp only[lstV,e];rfl⟩
 |tup e=>exact⟨_,.tup e,by simp only[lstV,e];rfl⟩
def Dv2(H:Hp)(x:V):Prop:=Dv H x/\∀zs,tupV H x=some zs->∀z∈zs,Dv H z
theorem Dv2.same{H H':Hp}{x:V}(h:Dv2 H x)(s:Same H H'):Dv2 H' x:=⟨h.1.same s,λ zs e z hz=>(h.2 zs (by rw[<- h.1.tupV_same s];exact e) z hz).same s⟩
def winL(day:Int):List V->Bool
 | [.int a,.int b,.int c]=>decide (0<=a)&&(decide (a<=b)&&(decide (b<day)&&decide (0<=c)))
 |_=>false
def winV(H:Hp)(day:Int)(x:V):Bool:=match tupV H x with
 |some xs=>winL day xs
 |none=>false
theorem Dv.winV_same(h:Dv H x)(s:Same H H')(day:Int):winV H' day x=winV H day x:=by
 unfold winV
 rw[h.tupV_same s]
def qev9(H:Hp)(day:Int)(x:V):Bool:=match lstV H x with
 |some xs=>xs.all (winV H day)
 |none=>false
inductive spIsWhole(vs:List V)(H:Hp)(Q:VK)(z3q:XK):Prop
 |mk (x:V):vs=[x]->Dv H x->Q (.bl (isWh x)) H->spIsWhole vs H Q z3q
inductive spWindow(vs:List V)(H:Hp)(Q:VK)(z3q:XK):Prop
 |mk (day:Int) (x:V):vs=[.int day,x]->Dv2 H x->(∀H',Same H H'->Q (.bl (winV H day x)) H')->spWindow vs H Q z3q
def Dv3(H:Hp)(x:V):Prop:=Dv H x/\∀xs,lstV H x=some xs->xs.length<=1000/\∀y∈xs,Dv2 H y
inductive spBoard(vs:List V)(H:Hp)(Q:VK)(z3q:XK):Prop
 |mk (day:Int) (x:V):vs=[.int day,x]->Dv3 H x->(∀H',Same H H'->Q (.bl (qev9 H day x)) H')->spBoard vs H Q z3q
theorem qei9{α β:Type}{xs:List α}{i:Nat}{y:α}(f:α->β)(h:xs[i]?=some y):(xs.take (i+1)).map f=(xs.take i).map f++[f y]:=by
 rw[zfu,h,zbs]
 rfl
theorem three{α:Type}:∀{xs:List α},xs.length=3->∃u v w,xs=[u,v,w]
 | [u,v,w],_=>⟨u,v,w,rfl⟩
theorem qgu9(h:isWh x=true):∃i,x=.int i:=by
 cases x<;>first|exact⟨_,rfl⟩|cases h
inductive Ev(H:Hp):Nat->V->Prop
 |non {n:Nat}:Ev H n .non
 |bl {n:Nat} (b:Bool):Ev H n (.bl b)
 |int {n:Nat} (i:Int):Ev H n (.int i)
 |str {n:Nat} {x:Str}:PyData.strOk x=true->Ev H n (.str x)
 |lst {n:Nat} {a:Addr} {xs:List V}:H a=some (.lst xs)->(∀y∈xs,Ev H n y)->Ev H (n+1) (.ref a)
 |tup {n:Nat} {a:Addr} {xs:List V}:H a=some (.tup xs)->(∀y∈xs,Ev H n y)->Ev H (n+1) (.ref a)
theorem Ev.dv(h:Ev H n x):Dv H x:=by
 cases h with
 |non=>exact .non
 |bl b=>exact .bl b
 |int i=>exact .int i
 |str h=>exact .str _
 |lst e _=>exact .lst e
 |tup e _=>exact .tup e
theorem Ev.parts(h:Ev H (n+1) x)(e:tupV H x=some zs):∀z∈zs,Ev H n z:=by
 obtain⟨a,rfl,ea⟩:=qhw9 e
 cases h with
 |lst e2 _=>rw[ea] at e2;cases e2
 |tup e2 p=>rw[ea] at e2;cases e2;exact p
theorem Ev.items(h:Ev H (n+1) x)(e:lstV H x=some zs):∀z∈zs,Ev H n z:=by
 obtain⟨a,rfl,ea⟩:=qhm9 e
 cases h with
 |tup e2 _=>rw[ea] at e2;cases e2
 |lst e2 p=>rw[ea] at e2;cases e2;exact p
theorem Ev.d2(h:Ev H (n+1) x):Dv2 H x:=⟨h.dv,λ zs e z hz=>(h.parts e z hz).dv⟩
theorem Ev.d3(h:Ev H (n+2) x)(l:∀zs,lstV H x=some zs->zs.length<=1000):Dv3 H x:=⟨h.dv,λ zs e=>⟨l zs e,λ z hz=>(h.items e z hz).d2⟩⟩
theorem Same.seqT(e:Same H H')(h:SqT K H a xs):SqT K H' a xs:=by
 rcases h with(h|⟨o,h⟩)|h
 ·exact .inl (.inl (e _ _ h))
 ·exact .inl (.inr ⟨o,e _ _ h⟩)
 ·exact .inr h
mutual
theorem rdv_same{K:W.Frag}{H H':Hp}(s:Same H H'):∀{x:V}{d:PyData},RdV K H x d->RdV K H' x d
 |_,_,.non=>.non
 |_,_,.bl b=>.bl b
 |_,_,.int i=>.int i
 |_,_,.str x=>.str x
 |_,_,.lst h a=>.lst (s.seq h) (qjt9 s a)
 |_,_,.tup h a=>.tup (Same.seqT s h) (qjt9 s a)
theorem qjt9{K:W.Frag}{H H':Hp}(s:Same H H'):∀{xs:List V}{ds:List PyData},RdAll K H xs ds->RdAll K H' xs ds
 |_,_,.nil=>.nil
 |_,_,.cons h1 h2=>.cons (rdv_same s h1) (qjt9 s h2)
end
def optV:Option Int->V
 |none=>.non
 |some y=>.int y
theorem qbe9(h:n<=16000000):n<sizeLine:=by
 have e:sizeLine=16777216:=by decide +kernel
 omega
theorem qci9(hp:H p=none)(s:Same H H1):Same H (upd H1 p o):=λ b u e=>by
 rw[qaq9 (qbc9 e hp)]
 exact s _ _ e
theorem SameT.trans{H2:Hp}(a:SameT P H H1)(b:SameT P H1 H2):SameT P H H2:=λ c o e n=>b c o (a c o e n) n
theorem SameT.same(a:Same H H1):SameT P H H1:=λ c o e _=>a c o e
def SameU(H H':Hp):Prop:=(∀b o,H b=some o->(∀z,o ≠ .tbl z)->H' b=some o)/\∀b o,H b=some o->∃o',H' b=some o'
theorem SameU.refl(H:Hp):SameU H H:=⟨λ _ _ e _=>e,λ _ o e=>⟨o,e⟩⟩
theorem SameU.trans{H2:Hp}(a:SameU H H1)(b:SameU H1 H2):SameU H H2:=⟨λ c o e n=>b.1 c o (a.1 c o e n) n,λ c o e=>by
 obtain⟨o1,e1⟩:=a.2 c o e
 exact b.2 c o1 e1⟩
theorem SameU.of(a:Same H H1):SameU H H1:=⟨λ c o e _=>a c o e,λ c o e=>⟨o,a c o e⟩⟩
theorem SameU.tab{pos pos':Pos}{q q':Str}(a:SameT P H H1)(t:TabOk H P pos q)(t':TabOk H1 P pos' q'):SameU H H1:=⟨λ c o e n=>a c o e λ z=>by
 obtain⟨ps,hp,_⟩:=t
 rw[z,hp] at e
 exact n ps (Option.some.inj e).symm,λ c o e=>by
 by_cases z:c=P
 ·obtain⟨ps,hp,_⟩:=t'
  exact⟨_,by rw[z];exact hp⟩
 ·exact⟨o,a c o e z⟩⟩
theorem SameU.free(a:SameU H H1)(h:H1 p=none):H p=none:=by
 cases e:H p with
 |none=>rfl
 |some o =>
  obtain⟨o',e'⟩:=a.2 p o e
  rw[h] at e'
  cases e'
theorem SameU.lst{H H1:Hp}{p:Addr}{xs:List V}(a:SameU H H1)(e:H p=some (.lst xs)):H1 p=some (.lst xs):=a.1 _ _ e λ _ z=>nomatch z
theorem SameU.tup{H H1:Hp}{p:Addr}{xs:List V}(a:SameU H H1)(e:H p=some (.tup xs)):H1 p=some (.tup xs):=a.1 _ _ e λ _ z=>nomatch z
theorem SameU.wr(hp:H p=none)(s:SameU H H1):SameU H (upd H1 p o):=⟨λ b u e n=>by
 rw[qaq9 (qbc9 e hp)]
 exact s.1 _ _ e n,λ b u e=>by
 rw[qaq9 (qbc9 e hp)]
 exact s.2 _ _ e⟩
theorem LA.u{α:Type}{enc:α->List V}{xs:List α}(h:LA enc H p xs)(s:SameU H H'):LA enc H' p xs:=h.mono s.1
theorem Callee.imp{P:Program}{w:World}{K:W.Frag}{mg:Str->Option Value}{base:Heap}{k:Nat}{x:Str}{ps:List Str}{sp sp':Sp}(C:Callee P w K mg base k x ps sp)(h:∀vs H Q E,sp' vs H Q E->sp vs H Q E):Callee P w K mg base k x ps sp':=by
 obtain⟨f,fd,G,b,kp,m⟩:=C.ex
 exact⟨f,fd,G.imp h,b,kp,m⟩
structure TB(T:Hp->Prop):Prop where
 same:∀H H',T H->Same H H'->T H'
 wr:∀H p xs ys,T H->H p=some (.lst xs)->T (upd H p (.lst ys))
section
variable {d:Int}
theorem la_mem{y:V}(h:LA enc3 H p R)(hv:H p=some (.lst vs))(hy:y∈vs):∃r x,y=.ref r/\x∈R/\H r=some (.tup (enc3 x)):=by
 obtain⟨vs',h1,h2,h3⟩:=h.lst
 rw[h1] at hv
 cases hv
 obtain⟨i,hi⟩:=zaw hy
 obtain⟨r,x,e1,e2,e3⟩:=h3 i y hi
 exact⟨r,x,e1,zac e2,e3⟩
theorem la_ev(h:LA enc3 H p R):Ev H 3 (.ref p):=by
 obtain⟨vs,h1,h2,h3⟩:=h.lst
 refine .lst h1 λ y hy=>?_
 obtain⟨r,x,rfl,_,e⟩:=la_mem h h1 hy
 refine .tup e λ z hz=>?_
 simp only[enc3,zae,zav,or_false] at hz
 rcases hz with rfl|rfl|rfl<;>exact .int _
theorem la_lst(h:LA enc3 H p R)(e:lstV H (.ref p)=some vs):vs.length=R.length:=by
 obtain⟨ws,h1,h2,h3⟩:=h.lst
 rw[qgd9 h1] at e
 cases e
 exact h2
theorem la_dv3(h:LA enc3 H p R)(hl:R.length<=1000):Dv3 H (.ref p):=Ev.d3 (n:=1) (la_ev h) λ zs e=>by rw[la_lst h e];exact hl
theorem qou9(h:LA enc3 H p R)(W:Ma.Wins d R):qev9 H d (.ref p)=true:=by
 obtain⟨vs,h1,h2,h3⟩:=h.lst
 unfold qev9
 rw[qgd9 h1]
 refine zba.mpr λ y hy=>?_
 obtain⟨r,x,rfl,hx,e⟩:=la_mem h h1 hy
 obtain⟨w0,w1,w2,w3⟩:=W x hx
 unfold winV
 rw[qhn9 e]
 simp[enc3,winL,w0,w1,w2,w3]
end
theorem cut_take(vs:List V)(h:Nat)(hh:h<=vs.length):cutV vs none (some (h:Int))=vs.take h:=by
 unfold cutV HT.sIx
 have h0:¬(h:Int)<0:=⋯
 simp only[if_neg h0,zdk,zgo,Nat.sub_zero]
 rw[zga hh]
theorem cut_drop(vs:List V)(h:Nat)(hh:h<=vs.length):cutV vs (some (h:Int)) none=vs.drop h:=by
 unfold cutV HT.sIx
 have h0:¬(h:Int)<0:=⋯
 simp only[if_neg h0,zdk]
 rw[zga hh,zdl]
 rw[zcw]
 exact zaj _
theorem LA.part{α:Type}{enc:α->List V}{xs:List α}(h:LA enc H p xs)(s:Same H H')(hv:H p=some (.lst vs))(lo hi:Nat)(e:H' l=some (.lst ((vs.drop lo).take hi))):LA enc H' l ((xs.drop lo).take hi):=by
 obtain⟨rs,h1,h2,h3⟩:=h.ex
 rw[h1] at hv
 cases hv
 refine⟨(rs.drop lo).take hi,by rw[e,<- List.map_drop,<- List.map_take],by simp[h2],λ i r x e1 e2=>?_⟩
 rw[List.getElem?_take] at e1 e2
 split at e1
 ·rw[zfl] at e1
  rename_i c
  rw[if_pos c,zfl] at e2
  exact s _ _ (h3 _ r x e1 e2)
 ·cases e1
def datB(R:List T3):PyData:=.list (R.map dat3)
theorem eqvB(x y:List T3):PyData.eqv (datB x) (datB y)=decide (x=y):=qia9 eqv3 x y
theorem canB(R:List T3):PyData.canLay0 (datB R)=true:=by
 simp only[datB,PyData.canLay0]
 exact qgz9 (λ x=>by simp[dat3,PyData.canLay0,PyData.canLayAll0]) R
theorem depB(R:List T3):PyData.depth (datB R)<=3:=by
 have:=qij9 (D:=dat3) (n:=2) (λ x=>by simp[dat3,PyData.depth,PyData.depthAll]) R
 simp only[datB,PyData.depth]
 omega
theorem qln9(xs:List (List T3)):SeqAt.shaped (.list (xs.map datB))=true:=qix9 (n:=3) canB depB (by decide) xs
theorem qdb9{α:Type}{enc:α->List V}{q:Addr}{xs:List α}{ys:List V}(h:LA enc H q xs)(hz:H l=some (.lst zs))(nq:q≠l):LA enc (upd H l (.lst ys)) q xs:=by
 obtain⟨rs,h1,h2,h3⟩:=h.ex
 refine⟨rs,by rw[qaq9 nq];exact h1,h2,λ i r x e e'=>?_⟩
 have h4:=h3 i r x e e'
 have nr:r≠l:=λ z=>by rw[z,hz] at h4;cases h4
 rw[qaq9 nr]
 exact h4
theorem la_ne{α β:Type}{enc:α->List V}{enc':β->List V}{xs:List α}(h:LA enc H p xs)(hl:H l=none):p≠l:=λ e=>by
 obtain⟨vs,h1,_⟩:=h.lst
 rw[e,hl] at h1
 cases h1
end My
namespace L2
open PySem PySem.Spec PyProof.Rows
variable {C a f:Addr}{A:Around}{X:Cx}{e value:Expr}{base h h':Heap}{H H':Hp}{pins:List (Addr×Obj)}{kvs:List (Key×V)}{xs:List (List Key×Addr×Value)}{o:Option V}{pos pos':Pos}{P:Program}{s s':Shared}{σ:St}{x:Str}{mg:Str->Option Value}{td ty:TE}{y:V}{E E' Q:Value->Shared->Prop}{K:W.Frag}{w:World}
section
variable {κ:Type} [DecidableEq κ]
def valV(kvs:List (κ×V))(k:κ):Option V:=(kvs.find? λ kv=>decide (kv.1=k)).map (·.2)
def putK(kvs:List (κ×V))(k:κ)(v:V):List (κ×V) :=
 if(kvs.any λ kv=>decide (kv.1=k))=true then kvs.map (λ kv=>if kv.1=k then(kv.1,v) else kv) else kvs++[(k,v)]
theorem qdr9{p:κ×V}{r:List (κ×V)}{k:κ}(e:p.1=k):valV (p::r) k=some p.2:=by simp[valV,zde,e]
theorem qdv9{p:κ×V}{r:List (κ×V)}{k:κ}(e:¬p.1=k):valV (p::r) k=valV r k:=by simp[valV,zde,e]
theorem qip9(k:κ):∀kvs:List (κ×V),(kvs.any λ kv=>decide (kv.1=k))=(valV kvs k).isSome
 | []=>rfl
 |p::r=>by
  rw[zfv]
  by_cases e:p.1=k
  ·simp only[qdr9 e,decide_eq_true e,Bool.true_or,zgb]
  ·rw[qdv9 e,decide_eq_false e,zfq];exact qip9 k r
theorem qnx9(k j:κ)(y:V):∀kvs:List (κ×V),valV (kvs.map λ kv=>if kv.1=k then(kv.1,y) else kv) j=(valV kvs j).map λ x=>if j=k then y else x
 | []=>rfl
 |p::r=>by
  have ih:=qnx9 k j y r
  rw[zci]
  by_cases h:p.1=k
  ·rw[if_pos h]
   by_cases e:p.1=j
   ·rw[qdr9 (p:=(p.1,y)) e,qdr9 e,zet,if_pos (e.symm.trans h)]
   ·rw[qdv9 (p:=(p.1,y)) e,qdv9 e,ih]
  ·rw[if_neg h]
   by_cases e:p.1=j
   ·rw[qdr9 (p:=p) e,qdr9 e,zet,if_neg (λ z=>h (e.trans z))]
   ·rw[qdv9 (p:=p) e,qdv9 e,ih]
theorem qlk9(k j:κ)(y:V):∀kvs:List (κ×V),valV kvs k=none->valV (kvs++[(k,y)]) j=if j=k then some y else valV kvs j
 | [],_=>by
  by_cases e:k=j
  ·rw[if_pos e.symm];exact qdr9 (p:=(k,y)) e
  ·rw[if_neg (λ z=>e z.symm)];exact qdv9 (p:=(k,y)) e
 |p::r,hn=>by
  rw[zeq]
  have hk:¬p.1=k:=λ z=>by rw[qdr9 z] at hn;cases hn
  rw[qdv9 hk] at hn
  have ih:=qlk9 k j y r hn
  by_cases e:p.1=j
  ·rw[qdr9 e,qdr9 e,if_neg (λ z=>hk (e.trans z))]
  ·rw[qdv9 e,qdv9 e,ih]
theorem qpb9(kvs:List (κ×V))(k j:κ)(y:V):valV (putK kvs k y) j=if j=k then some y else valV kvs j:=by
 unfold putK
 by_cases a:(kvs.any λ kv=>decide (kv.1=k))=true
 ·rw[if_pos a,qnx9]
  rw[qip9] at a
  by_cases e:j=k
  ·obtain⟨x,hx⟩:=zcf.mp a
   rw[if_pos e,e,hx,zet,if_pos rfl]
  ·rw[if_neg e]
   cases valV kvs j with
   |none=>rfl
   |some x=>rw[zet,if_neg e]
 ·rw[if_neg a]
  refine qlk9 k j y kvs ?_
  rw[qip9] at a
  cases q:valV kvs k with
  |none=>rfl
  |some x=>rw[q] at a;exact(a rfl).elim
theorem qfx9(kvs:List (κ×V))(k:κ)(v:V):(putK kvs k v).length<=kvs.length+1:=by
 unfold putK
 split
 ·rw[zah];omega
 ·rw[zal,zdw,List.length_nil];omega
theorem RelO.isSome_eq{u:Option Value}(r:RelO o u):o.isSome=u.isSome:=by
 cases o with
 |none=>cases u with
  |none=>rfl
  |some _=>exact(show False from r).elim
 |some _=>cases u with
  |none=>exact(show False from r).elim
  |some _=>rfl
theorem KV.val{kvs:List (κ×V)}{vs:List (κ×Value)}(r:KV kvs vs)(k:κ):RelO (valV kvs k) (valueAt vs k):=by
 unfold KV at r
 induction r with
 |nil=>exact True.intro
 | @cons p q ps qs h t ih =>
  obtain⟨h1,h2⟩:=h
  by_cases e:p.1=k
  ·have e':q.1=k:=h1.symm.trans e
   have b:valueAt (q::qs) k=some q.2:=by simp[valueAt,zde,e']
   rw[qdr9 e,b];exact h2
  ·have e':¬q.1=k:=λ z=>e (h1.trans z)
   have b:valueAt (q::qs) k=valueAt qs k:=by simp[valueAt,zde,e']
   rw[qdv9 e,b];exact ih
theorem KV.any{kvs:List (κ×V)}{vs:List (κ×Value)}(r:KV kvs vs)(k:κ):(kvs.any λ kv=>decide (kv.1=k))=vs.any λ kv=>decide (kv.1=k):=by
 unfold KV at r
 induction r with
 |nil=>rfl
 |cons h t ih=>rw[zfv,zfv,ih,h.1]
theorem KV.repl{kvs:List (κ×V)}{vs:List (κ×Value)}(r:KV kvs vs)(k:κ){u:Value}(ry:RelV y u) :
  KV (kvs.map λ kv=>if kv.1=k then(kv.1,y) else kv) (vs.map λ kv=>if kv.1=k then(kv.1,u) else kv):=by
 unfold KV at r ⊢
 induction r with
 |nil=>exact .nil
 | @cons p q ps qs h t ih =>
  rw[zci,zci]
  refine .cons ?_ ih
  obtain⟨h1,h2⟩:=h
  by_cases e:p.1=k
  ·rw[if_pos e,if_pos (h1.symm.trans e)];exact⟨h1,ry⟩
  ·rw[if_neg e,if_neg (λ z=>e (h1.trans z))];exact⟨h1,h2⟩
theorem KV.put{kvs:List (κ×V)}{vs:List (κ×Value)}(r:KV kvs vs)(k:κ){u:Value}(ry:RelV y u):KV (putK kvs k y) (stored vs k u):=by
 unfold putK stored
 rw[r.any k]
 by_cases e:(vs.any λ kv=>decide (kv.1=k))=true
 ·rw[if_pos e,if_pos e];exact r.repl k ry
 ·rw[if_neg e,if_neg e];exact Paired.snoc r ⟨rfl,ry⟩
theorem KV.length{kvs:List (κ×V)}{vs:List (κ×Value)}(r:KV kvs vs):kvs.length=vs.length:=Paired.length r
end
theorem kV_is{k:Key}{u:Value}(r:RelV (kV k) u):(qee9 P w).is k u=true:=by
 cases k with
 |inl i=>obtain⟨t,e⟩:=(show ∃t,u=Value.int i t from r);subst e;exact qms9 P w i t
 |inr x=>obtain⟨t,e⟩:=(show ∃t,u=Value.str x t from r);subst e;exact qmk9 P w x t
theorem qlp9{P:Program}{w:World}:∀{ks:List Key}{us:List Value},Vals (ks.map kV) us->ItemsAre (qee9 P w) ks us
 | [],_,r=>by rw[zge] at r;cases r;exact .nil
 |k::ks,_,r=>by
  rw[zci] at r
  cases r with
  |cons h t=>exact .cons (kV_is h) (qlp9 t)
abbrev KT(H:Hp):List (List Key×V)->List (List Key×Addr×Value)->Prop:=Paired λ p q=>p.1=q.1/\H q.2.1=some (.tup (p.1.map kV))/\RelV p.2 q.2.2
theorem KT.val{kvs:List (List Key×V)}(r:KT H kvs xs)(k:List Key):RelO (valV kvs k) ((atKey xs k).map (·.2)):=by
 induction r with
 |nil=>exact True.intro
 | @cons p q ps qs h t ih =>
  obtain⟨h1,_,h2⟩:=h
  by_cases e:p.1=k
  ·have e':q.1=k:=h1.symm.trans e
   have b:atKey (q::qs) k=some q.2:=by simp[atKey,zde,e']
   rw[qdr9 e,b];exact h2
  ·have e':¬q.1=k:=λ z=>e (h1.trans z)
   have b:atKey (q::qs) k=atKey qs k:=by simp[atKey,zde,e']
   rw[qdv9 e,b];exact ih
theorem KT.repl{kvs:List (List Key×V)}(r:KT H kvs xs)(k:List Key){u:Value}(ry:RelV y u) :
  KT H (kvs.map λ kv=>if kv.1=k then(kv.1,y) else kv) (xs.map (putAt k u)):=by
 induction r with
 |nil=>exact .nil
 | @cons p q ps qs h t ih =>
  rw[zci,zci]
  refine .cons ?_ ih
  obtain⟨h1,h2,h3⟩:=h
  unfold putAt
  by_cases e:p.1=k
  ·rw[if_pos e,if_pos (h1.symm.trans e)];exact⟨h1,h2,ry⟩
  ·rw[if_neg e,if_neg (λ z=>e (h1.trans z))];exact⟨h1,h2,h3⟩
theorem KT.put{kvs:List (List Key×V)}(r:KT H kvs xs)(k:List Key){b:Addr}{u:Value}(hb:H b=some (.tup (k.map kV)))(ry:RelV y u) :
  KT H (putK kvs k y) (storedH xs k b u):=by
 have e:(kvs.any λ kv=>decide (kv.1=k))=(atKey xs k).isSome:=by
  rw[qip9,(r.val k).isSome_eq,zgj]
 unfold putK storedH
 rw[e]
 by_cases q:(atKey xs k).isSome=true
 ·rw[if_pos q,if_pos q];exact r.repl k ry
 ·rw[if_neg q,if_neg q];exact Paired.snoc r ⟨rfl,hb,ry⟩
theorem KT.keeps{kvs:List (List Key×V)}(r:KT H kvs xs)(ht:∀b ys,H b=some (.tup ys)->H' b=some (.tup ys)):KT H' kvs xs :=
 Paired.mapP r λ _ _ z=>⟨z.1,ht _ _ z.2.1,z.2.2⟩
theorem rd_of{u:HO}(ok:HOk P w H h)(e:Rd H a u):ObjOk P w H h a u:=e.ok ok
theorem dk_rd(ok:HOk P w H h)(e:Rd H a (.dK kvs)):kvs.length<=sizeLine/\(a==sysModules)=false/\∃vs,KV kvs vs/\h.DictOf (qee9 P w) a vs :=
 show ObjOk P w H h a (.dK kvs) from rd_of ok e
theorem dk_of(ok:HOk P w H h)(e:H a=some (.dK kvs)):kvs.length<=sizeLine/\(a==sysModules)=false/\∃vs,KV kvs vs/\h.DictOf (qee9 P w) a vs:=dk_rd ok (.inl e)
theorem key_of{ks:List Key}(ok:HOk P w H h)(e:H a=some (.tup (ks.map kV))):(tupleKind (qee9 P w)).is h ks a:=by
 obtain⟨_,its,r,o,h1,h2,n,h3⟩:=(show ObjOk P w H h a (.tup (ks.map kV)) from ok a _ e)
 exact⟨o,its.toArray,n,h1,h2,h3,by simpa using qlp9 r⟩
theorem dt_rd{kvs:List (List Key×V)}(ok:HOk P w H h)(e:Rd H a (.dT kvs)):kvs.length<=sizeLine/\(a==sysModules)=false /\
  ∃xs,KT H kvs xs/\h.DictOfH (tupleKind (qee9 P w)) a xs:=by
 obtain⟨z,y,xs,r,o,es,ep,h1,h2,h3,h4,h5⟩:=(show ObjOk P w H h a (.dT kvs) from rd_of ok e)
 refine⟨z,y,xs,r,o,es,ep,h1,h2,h3,h4,λ x hx=>?_,h5⟩
 have all:∀{l:List (List Key×V)} {m:List (List Key×Addr×Value)},KT H l m->∀x∈m,(tupleKind (qee9 P w)).is h x.1 x.2.1:=by
  intro l m q
  induction q with
  |nil=>intro x hx;exact nomatch hx
  | @cons p q ps qs hq t ih =>
   intro x hx
   rcases zae.mp hx with e|hx
   ·subst e
    exact key_of ok (by rw[<- hq.1];exact hq.2.1)
   ·exact ih x hx
 exact all r x hx
theorem dt_of{kvs:List (List Key×V)}(ok:HOk P w H h)(e:H a=some (.dT kvs)):kvs.length<=sizeLine/\(a==sysModules)=false /\
  ∃xs,KT H kvs xs/\h.DictOfH (tupleKind (qee9 P w)) a xs:=dt_rd ok (.inl e)
def DGet(H:Hp)(a:Addr)(y:V)(r:Option V):Prop :=
 (∃kvs k,Rd H a (.dK kvs)/\y=kV k/\r=valV kvs k)\/∃kvs k b,Rd H a (.dT kvs)/\y=.ref b/\H b=some (.tup (k.map kV))/\r=valV kvs k
def DPut(H:Hp)(a:Addr)(y v:V)(H':Hp):Prop :=
 (∃kvs k,H a=some (.dK kvs)/\y=kV k/\kvs.length<sizeLine/\H'=upd H a (.dK (putK kvs k v))) \/
 ∃kvs k b,H a=some (.dT kvs)/\y=.ref b/\H b=some (.tup (k.map kV))/\kvs.length<sizeLine/\H'=upd H a (.dT (putK kvs k v))
theorem DGet.k{k:Key}(e:H a=some (.dK kvs)):DGet H a (kV k) (valV kvs k):=.inl ⟨kvs,k,.inl e,rfl,rfl⟩
theorem DPut.k{k:Key}{v:V}(e:H a=some (.dK kvs))(hl:kvs.length<sizeLine):DPut H a (kV k) v (upd H a (.dK (putK kvs k v))):=.inl ⟨kvs,k,e,rfl,hl,rfl⟩
section
variable {v:V}{u r:Value}
theorem Inv.big(I:Inv X pins σ H s):sysModules<s.heap.objs.size:=by
 have h:mainGlobals<s.heap.objs.size:=(I.mod.glob.keeps I.bk).lt
 exact Nat.lt_trans (by decide) h
theorem d_getItem(hu:A.units+1<cLine)(I:Inv X pins σ H s)(g:DGet H a y (some v))(ry:RelV y u)(h:∀w' s',Inv X pins σ H s'->RelV v w'->Q w' s') :
  wpAny (model X.prog X.w) A (getItem (.ref a) u) Q E s:=by
 rcases g with⟨kvs,k,e,ey,l⟩|⟨kvs,k,b,e,ey,eb,l⟩
 ·subst ey
  obtain⟨z,hd,vs,rel,dd⟩:=dk_rd I.hok e
  obtain⟨w',hw,rw'⟩:=RelO.some_of (v:=v) (o:=valueAt vs k) (by rw[l];exact rel.val k)
  exact wpAny_getItem_of (kV_is ry) dd.mapOf hw (h w' _ (I.tok _) rw')
 ·subst ey
  cases (show u=Value.ref b from ry)
  obtain⟨z,hd,xs,rel,dd⟩:=dt_rd I.hok e
  obtain⟨w',hw,rw'⟩:=RelO.some_of (v:=v) (o:=(atKey xs k).map (·.2)) (by rw[l];exact rel.val k)
  obtain⟨p,hp,hp2⟩:=zdb.mp hw
  refine wpAny_getItem_heap (tupleKind_room_in1 hu) (key_of I.hok eb) dd hp ?_
  rw[hp2]
  exact h w' _ (I.tok _) rw'
theorem d_notIn(hu:A.units+1<cLine)(I:Inv X pins σ H s)(g:DGet H a y o)(ry:RelV y u)(h:∀s',Inv X pins σ H s'->Q (.bool (!o.isSome)) s') :
  wpAny (model X.prog X.w) A (compareOp .NotIn u (.ref a)) Q E s:=by
 rcases g with⟨kvs,k,e,ey,l⟩|⟨kvs,k,b,e,ey,eb,l⟩
 ·subst ey
  obtain⟨z,hd,vs,rel,dd⟩:=dk_rd I.hok e
  refine wpAny_notIn_of (kV_is ry) hd dd.mapOf ?_
  rw[<- (rel.val k).isSome_eq,<- l]
  exact h _ (I.tok _)
 ·subst ey
  cases (show u=Value.ref b from ry)
  obtain⟨z,hd,xs,rel,dd⟩:=dt_rd I.hok e
  refine wpAny_notIn_heap (tupleKind_room_in1 hu) (key_of I.hok eb) hd dd ?_
  have q:=(rel.val k).isSome_eq
  rw[zgj] at q
  rw[<- q,<- l]
  exact h _ (I.tok _)
theorem d_write{t':Nat}{ob:HO}(I:Inv X pins σ H s)(mu:Mut (H a))(hs:Heap.SameBut a s.heap h')(he:∃q,h'.get? a=some q)(new:ObjOk X.prog X.w (upd H a ob) h' a ob) :
  Inv X pins σ (upd H a ob) { s with heap:=h',toks:=t' } :=
 I.write (x:=a) (e:=a) mu (.inl rfl) (λ b q hb z=>(hs.2 b hb).trans z) he new
theorem dk_new{vs:List (Key×Value)}(z:kvs.length<=sizeLine)(hd:(a==sysModules)=false)(rel:KV kvs vs)(dd:h'.DictOf (qee9 P w) a vs) :
  ObjOk P w H' h' a (.dK kvs):=⟨z,hd,vs,rel,dd⟩
theorem d_setItem{Q:Unit->Shared->Prop}(hu:A.units+1<cLine)(I:Inv X pins σ H s)(g:DPut H a y v H')(ry:RelV y u)(rv:RelV v r)(h:∀s',Inv X pins σ H' s'->Q () s') :
  wpAny (model X.prog X.w) A (setItem (.ref a) u r) Q E s:=by
 rcases g with⟨kvs,k,e,ey,l,eH⟩|⟨kvs,k,b,e,ey,eb,l,eH⟩
 ·subst ey eH
  obtain⟨z,hd,vs,rel,dd⟩:=dk_of I.hok e
  have hz:vs.length<=sizeLine:=by rw[<- rel.length];exact z
  have hl:(putK kvs k v).length<=sizeLine:=by have:=qfx9 kvs k v;omega
  refine wpAny_setItem_pairs (hsz:=hz) (kV_is ry) dd λ h' dd' hs=>h _ ?_
  have he:∃q,h'.get? a=some q:=let ⟨q,_,_,hq,_⟩:=dd';⟨q,hq⟩
  exact d_write I (by rw[e];exact True.intro) hs he (dk_new hl hd (rel.put k rv) dd')
 ·subst ey eH
  cases (show u=Value.ref b from ry)
  obtain⟨z,hd,xs,rel,dd⟩:=dt_of I.hok e
  have hz:xs.length<=sizeLine:=by rw[<- Paired.length rel];exact z
  have hl:(putK kvs k v).length<=sizeLine:=by have:=qfx9 kvs k v;omega
  refine wpAny_setItem_heap (hsz:=hz) (tupleKind_room_in1 hu) (key_of I.hok eb) dd λ h' dd' hs=>h _ ?_
  obtain⟨q,es,ep,hq,h2,h3,h4,_,h5⟩:=dd'
  refine d_write I (by rw[e];exact True.intro) hs ⟨q,hq⟩ ⟨hl,hd,_,(rel.put k eb rv).keeps λ c ys ec=>?_,q,es,ep,hq,h2,h3,h4,h5⟩
  rw[qaq9 (ne_of ec e (λ z=>nomatch z))]
  exact ec
end
section
variable {k:Key}{u:Value}
end
def NoSl(i:Expr):Prop:=∀ov iv,subscripted i false ov iv=operate [ov,iv] (getItem ov iv)
theorem subD_of{prog:Program}{env:Env}{slice:Expr}{T id:String}
  (hl:typeLookup (.type T) "__getitem__"=pure (some (.builtin id))) (hs:NoSl slice)
  (h:wpAny (model prog w) A (eval value env) (λ o s₁=>wpAny (model prog w) A (eval slice env) (λ i s₂=>s₂.TypeIs o T/\wpAny (model prog w) A (getItem o i) Q E s₂) E s₁) E s) :
  wpAny (model prog w) A (eval (.Subscript value slice pos) env) Q E s:=by
 refine Subscript_ (wpAny_mono h (λ o s₁ h₁=>wpAny_mono h₁ (λ i s₂ h₂=>?_) λ _ _ x=>x) λ _ _ x=>x)
 obtain⟨hT,h₂⟩:=h₂
 unfold subscriptTail
 refine wpAny_bind ?_
 rw[getitemInPython_of_ne hT.not_modules]
 refine wpAny_bind (wpAny_specialOf hT hl ?_)
 have fin:wpAny (model prog w) A (subscripted slice false o i) (λ r s₃=>wpAny (model prog w) A (letTemporaryGo value o r >>= λ _=>pure r) Q E s₃) E s₂:=by
  rw[hs o i]
  exact wpAny_operating (wpAny_mono h₂ (λ r s₃ h₃=>wpAny_bind (wpAny_letTemporaryGo (wpAny_pure h₃))) λ _ _ x=>x)
 first
  |exact wpAny_pure (wpAny_bind fin)
  |exact wpAny_bind (wpAny_pure (wpAny_bind fin))
  |exact wpAny_bind fin
theorem qme9(I:Inv X pins σ H s)(g:DGet H a y o):s.TypeIs (.ref a) "dict" := by
 rcases g with⟨kvs,k,e,_,_⟩|⟨kvs,k,b,e,_,_,_⟩
 ·obtain⟨_,_,vs,_,dd⟩:=dk_rd I.hok e
  exact dd.typeIs
 ·obtain⟨_,_,xs,_,dd⟩:=dt_rd I.hok e
  exact dd.typeIs
def tDGet(td ty:TE):TE:=λ σ H Q=>td σ H λ x H1=>ty σ H1 λ y H2=>∃a v,x=.ref a/\DGet H2 a y (some v)/\Q v H2
def tDNotIn(ty td:TE):TE:=λ σ H Q=>ty σ H λ y H1=>td σ H1 λ x H2=>∃a o,x=.ref a/\DGet H2 a y o/\Q (.bl (!o.isSome)) H2
def sDPut(td ty tv:TE):TS:=λ D σ H=>tv σ H λ v H1=>td σ H1 λ x H2=>ty σ H2 λ y H3=>∃a H4,x=.ref a/\DPut H3 a y v H4/\D.nx σ H4
section
variable {o i:Expr}{tpos:Pos}{tv:TE}
theorem pe_dget(hu:X.A.units+1<cLine)(ho:PE X o td)(hi:PE X i ty)(hs:NoSl i):PE X (.Subscript o i pos) (tDGet td ty):=by
 intro pins s σ H Q I h
 refine subD_of PySem.F.slot_dict_getitem.lookup hs (thn (ho pins s σ H _ I h) λ u s1 ⟨x,H1,I1,rx,q1⟩=>thn (hi pins s1 σ H1 _ I1 q1) λ iv s2 z9=>?_)
 obtain⟨y,H2,I2,ry,a,v,ex,g,q2⟩ := z9
 subst ex
 obtain rfl:u=Value.ref a:=rx
 exact⟨qme9 I2 g,d_getItem hu I2 g ry λ w' s3 I3 rw'=>⟨v,H2,I3,rw',q2⟩⟩
theorem pc_dnotin(hu:X.A.units+1<cLine)(hi:PE X i ty)(ho:PE X o td):PC X .NotIn i o (tDNotIn ty td):=by
 intro pins s σ H Q I h
 refine thn (hi pins s σ H _ I h) λ iv s1 ⟨y,H1,I1,ry,q1⟩=>thn (ho pins s1 σ H1 _ I1 q1) λ u s2 z9=>?_
 obtain⟨x,H2,I2,rx,a,ov,ex,g,q2⟩ := z9
 subst ex
 obtain rfl:u=Value.ref a:=rx
 exact d_notIn hu I2 g ry λ s3 I3=>⟨.bl (!ov.isSome),H2,I3,rfl,q2⟩
theorem ps_dput(hu:X.A.units+1<cLine)(ho:PE X o td)(hi:PE X i ty)(hv:PE X value tv)(hs:swapsWith value (some (.Subscript o i pos')) pos.line X.env=pure false) :
  PS X (.Assign [.Subscript o i pos'] value pos) (sDPut td ty tv):=by
 intro pins s σ H D I h
 refine wpAny_Assign_Subscript (thn (hv pins s σ H _ I h) λ r s1 ⟨v,H1,I1,rv,q1⟩=>thn (ho pins s1 σ H1 _ I1 q1) λ u s2 ⟨x,H2,I2,rx,q2⟩=>thn (hi pins s2 σ H2 _ I2 q2) λ iv s3 z9=>?_) hs
 obtain⟨y,H3,I3,ry,a,H4,ex,g,q3⟩ := z9
 subst ex
 obtain rfl:u=Value.ref a:=rx
 exact d_setItem hu I3 g ry rv λ s4 I4=>⟨σ,H4,I4,q3⟩
end
theorem dk_empty(h:Heap)(hb:sysModules<h.objs.size):ObjOk P w H (h.push { cls:=.type "dict",data:=.dict #[] }) h.objs.size (.dK []) :=
 ⟨zbn _,beq_eq_false_iff_ne.mpr (Ne.symm (zaz hb)),[],.nil,Heap.DictOf.new h⟩
def tDNewK:TE:=λ _ H Q=>∀p,H p=none->Q (.ref p) (upd H p (.dK []))
theorem pe_dnewK:PE X (.Dict [] [] pos) tDNewK:=λ pins s σ H Q I h =>
 wpAny_Dict_empty ⟨.ref s.heap.objs.size,_,I.laid (a:=s.heap.objs.size) (o:=.dK []) (t':=s.toks) (λ _ _ q=>zad _ q) (zaj _) (dk_empty s.heap I.big),rfl,h _ (I.hok.fresh (zaj _))⟩
structure M1(X:Cx)(o:Expr)(m:Str)(apos:Pos)(e:Expr)(cpos:Pos):Prop where
 base:attributeBase o m X.env (eval o X.env)=eval o X.env
 few:((backTo cpos (starEach [e] X.env)).all (λ x=>!x.1)&&(backToKw cpos (keywordEach [] X.env)).all (λ x=>x.1.isSome)
  && decide (([e]:List Expr).length+([]:List Keyword).length+(if([]:List Keyword).isEmpty then 0 else 1)<30))=true
 line:(apos.endLine==cpos.line)=true
 trees:backTo cpos (starEach [e] X.env)=[(false,eval e X.env)]
structure M2(X:Cx)(o:Expr)(m:Str)(apos:Pos)(e f:Expr)(cpos:Pos):Prop where
 base:attributeBase o m X.env (eval o X.env)=eval o X.env
 few:((backTo cpos (starEach [e,f] X.env)).all (λ x=>!x.1)&&(backToKw cpos (keywordEach [] X.env)).all (λ x=>x.1.isSome)
  && decide (([e,f]:List Expr).length+([]:List Keyword).length+(if([]:List Keyword).isEmpty then 0 else 1)<30))=true
 line:(apos.endLine==cpos.line)=true
 trees:backTo cpos (starEach [e,f] X.env)=[(false,eval e X.env),(false,eval f X.env)]
section
variable {d:V}{u r:Value}
end
section
variable {o f:Expr}{apos cpos:Pos}{tx:TE}
end
section
variable {u:Value}
end
section
variable {o i:Expr}{tv:TE}
theorem qe_dnew:QE X (.Dict [] [] pos) tDNewK:=⟨pe_dnewK⟩
theorem qe_dget(hu:X.A.units+1<cLine)(ho:QE X o td)(hi:QE X i ty)(hs:NoSl i):QE X (.Subscript o i pos) (tDGet td ty):=⟨pe_dget hu ho.run hi.run hs⟩
theorem qt_dnotin(hu:X.A.units+1<cLine)(hi:QE X i ty)(ho:QE X o td)(h1:behindInMarks .NotIn o=false:=by rfl):QT X (.Compare i [.NotIn] [o] pos) (tB (tDNotIn ty td)):=⟨pt_cmp (pc_dnotin hu hi.run ho.run) h1⟩
theorem qs_dput(hu:X.A.units+1<cLine)(ho:QE X o td)(hi:QE X i ty)(hv:QE X value tv)(hs:swapsWith value (some (.Subscript o i pos')) pos.line X.env=pure false:=by rfl) :
  QS X (.Assign [.Subscript o i pos'] value pos) (sDPut td ty tv):=⟨ps_dput hu ho.run hi.run hv.run hs⟩
end
theorem any_range(bs:List Bool):((zdn bs.length).any λ i=>(bs[i]?).getD true)=bs.any id:=by
 rw[zcb,zdx,zdx]
 constructor
 ·intro z9;obtain⟨i,hi,h⟩ := z9
  have hi':=zcz.mp hi
  rw[zaa hi'] at h
  exact⟨_,zby hi',h⟩
 ·intro z9;obtain⟨x,hx,h⟩ := z9
  obtain⟨i,hi,e⟩:=zdc.mp hx
  refine⟨i,zcz.mpr hi,?_⟩
  rw[zaa hi,e]
  exact h
theorem call_any(hc:X.calm=true):CallR X (.builtin "any") (λ xs H Q=>∃(p:Addr)(bs:List Bool),xs=[.ref p]/\SqL X.K H p (bs.map V.bl)/\Q (.bl (bs.any id)) H):=by
 intro pins s σ H xs us Q I r h
 obtain⟨p,bs,rfl,hS,q⟩:=h
 obtain⟨u,rfl,ru⟩:=vals1 r
 cases ru
 obtain⟨its,rv,pl,hz⟩:=I.list hS
 have hl:=pl.isList
 have hlt:p<s.heap.objs.size:=by obtain⟨_,e,_⟩:=hl;exact zaq e
 refine call_any_walk (wpAny_pyIter_list hl ?_)
 refine⟨s.heap.objs.size,[s.heap.objs.size,p],[s.heap.objs.size],its.toArray.size,_,_,λ i=>(bs[i]?).getD true,rfl,Walks.list (A:=X.A.in1) (I.ok.hd hc) _ p (zaz hlt) its.toArray,
  ⟨⟨_,zbb _ rfl,rfl,rfl⟩,hl.push _⟩,λ i v s' Q' E' hP hQ=>?_,λ h' tk hk=>?_⟩
 ·obtain⟨k,e,rfl⟩:=vals_bl rv (i:=i) (v:=v) (by simpa using hP)
  simp only[e,zgm] at hQ
  exact wpAny_truthy_bool hQ
 ·have e:((zdn its.toArray.size).any λ i=>(bs[i]?).getD true)=bs.any id:=by
   have hl2:=rv.length
   rw[zah] at hl2
   rw[zar,<- hl2]
   exact any_range bs
  rw[e]
  have keep:∀b x,s.heap.get? b=some x->h'.get? b=some x:=λ b x e=>hk b x (λ hm=>by rw[zag.mp hm] at e;exact zcc _ (zaq e)) (zad _ e)
  exact⟨.bl (bs.any id),H,I.kept (t':=tk) keep,rfl,q⟩
theorem bt_any:bootBuiltins "any"=some (.builtin "any"):=by decide +kernel
theorem qcall_any(hc:X.calm=true):QCall X (.builtin "any") (λ xs H Q=>∃(p:Addr)(bs:List Bool),xs=[.ref p]/\SqL X.K H p (bs.map V.bl)/\Q (.bl (bs.any id)) H):=⟨call_any hc⟩
section
variable {h1 h2:Heap}{o:HO}
theorem ObjOk.there(x:ObjOk P w H h a o):∃ob,h.get? a=some ob:=by
 cases o with
 |lst xs=>obtain⟨_,_,_,_,e⟩:=x;exact⟨_,e⟩
 |tup xs=>obtain⟨_,_,_,ob,e,_⟩:=x;exact⟨_,e⟩
 |dK kvs=>obtain⟨_,_,_,_,o,_,_,e,_⟩:=x;exact⟨_,e⟩
 |dT kvs=>obtain⟨_,_,_,_,o,_,_,e,_⟩:=x;exact⟨_,e⟩
 |set S n=>obtain⟨o,_,_,_,e,_⟩:=x;exact⟨_,e⟩
 |ins C dx fs=>obtain⟨_,_,_,e,_⟩:=x;exact⟨_,e⟩
 |own y=>exact x
 |xd fs=>obtain⟨_,⟨_,_,_,e,_⟩,_⟩:=x;exact⟨_,e⟩
 |rng lo hi=>obtain⟨_,_,_,e⟩:=x;exact⟨_,e⟩
 |frz ob u=>obtain⟨e,_⟩:=x;exact⟨_,e⟩
 |tbl ps=>exact⟨_,show h.get? a=some _ from x⟩
 |met f y=>exact⟨_,show h.get? a=some _ from x⟩
 |ext φ=>obtain⟨_,e,_⟩:=x;exact e
theorem HOk.gone(x:HOk P w H h)(e:h.get? a=none):H a=none:=by
 cases q:H a with
 |none=>rfl
 |some o =>
  obtain⟨ob,z⟩:=(x a o q).there
  rw[e] at z
  cases z
end
def hides:List Addr->Heap->Heap
 | [],h=>h
 |a::l,h=>(hides l h).hide a
theorem qeh9{b:Addr}{h:Heap}:∀{l:List Addr},b∈l->(hides l h).get? b=none
 |a::l,hb=>by
  show((hides l h).hide a).get? b=none
  by_cases e:b=a
  ·rw[e];exact Heap.hide_self _ _
  ·rw[zgv _ e]
   exact qeh9 ((zae.mp hb).resolve_left e)
theorem qgk9{b:Addr}{h:Heap}:∀{l:List Addr},b∉l->(hides l h).get? b=h.get? b
 | [],_=>rfl
 |a::l,hb=>by
  show((hides l h).hide a).get? b=_
  have ne:b≠a:=λ e=>hb (by rw[e];exact zak)
  rw[zgv _ ne]
  exact qgk9 λ z=>hb (zam _ z)
theorem qfh9{l:List Addr}:Heap.StaysIn (hides l h) h:=λ b o e=>by
 by_cases hb:b∈l
 ·rw[qeh9 hb] at e;cases e
 ·rw[qgk9 hb] at e;exact e
theorem qes9{h h1 base:Heap}{L:List Addr}:∀{l:List Env},h.FunFrames base l->(∀b∈frs l,b∈L)->(∀b o,b∈frs l->h.get? b=some o->∃sl,h1.get? b=some { o with slots:=sl })->h1.FunFrames (hides L h1) l
 | [],_,_,_=>trivial
 |env::r,hl,hs,k=>by
  obtain⟨hk,⟨L',o,hf,hn,ho,hd⟩,hr⟩:=hl
  have hL:L'∈frs (env::r):=by unfold frs;rw[zcq,hf];exact zak
  have sub:∀b∈frs r,b∈frs (env::r):=λ b hb=>by unfold frs;rw[zcq,hf];exact zam _ hb
  obtain⟨sl,e⟩:=k L' o hL ho
  exact⟨hk,⟨L',_,hf,qeh9 (hs L' hL),e,hd⟩,qes9 hr (λ b hb=>hs b (sub b hb)) λ b o hb=>k b o (sub b hb)⟩
def Fly(h:Heap)(H':Hp)(h1:Heap)(a:Addr)(cls:Value):Prop:=h.get? a=none/\H' a=none/\∃oe vs T oT ts a0,h1.get? a=some oe/\oe.cls=cls/\vs[0]?=some a0/\oe.data=.fields vs/\vs[1]?=some (.ref T)/\T≠a/\h1.get? T=some oT/\oT.data=.fields ts/\ts[3]?=some .none/\H' T=none/\h.get? T=none
def CXE(P:Program)(w:World):CXT:=λ stk H s E e s'=>∃a cls H',e=.ref a/\s'.os=s.os/\AllBare s'.gens/\Un (frs stk) [] H H' s.heap s'.heap/\HOk P w H' s'.heap/\Fly s.heap H' s'.heap a cls/\E cls none H'
section
variable {h1 h2:Heap}{stk:List Env}{l:List Addr}{cls:Value}
theorem qky9(u:Un (frs stk) [] H H' h h1)(ok:HOk P w H' h1)(st:Heap.StaysIn (hides l h1) h2)(sl:∀b o,h1.get? b=some o->(∀vs,o.data ≠ .fields vs)->∃sl,h2.get? b=some { o with slots:=sl })
  (fr:h.FunFrames base stk) (ff:∀b∈frs stk,H b=none) (hl:∀b∈l,b∈frs stk\/(h.get? b=none/\H' b=none)):Un (frs stk) [] H H' h h2/\HOk P w H' h2:=by
 have fk:∀b∈frs stk,∃o,h.get? b=some o/\∀vs,o.data ≠ .fields vs:=λ b hb=>(fr.mem hb).2
 have ff':∀b∈frs stk,H' b=none:=λ b hb=>by
  obtain⟨o,ho,_⟩:=fk b hb
  exact u.free b o ho (ff b hb) (by simp)
 have stay:∀b o,b∉l->h1.get? b=some o->h2.get? b=some o:=λ b o hb e=>st b o (by rw[qgk9 hb];exact e)
 refine⟨⟨λ b o e n hb _=>?_,λ b o e n hb _=>?_,u.free,λ b o e hx=>?_,u.tups,u.frzs,u.tbls⟩,λ b o e=>?_⟩
 ·refine stay b o (λ z=>?_) (u.keep b o e n hb (by simp))
  rcases hl b z with z|z
  ·exact hb z
  ·rw[z.1] at e;cases e
 ·obtain⟨s1,e1⟩:=u.slot b o e n hb (by simp)
  obtain⟨o',e',d'⟩:=fk b hb
  rw[e] at e'
  cases e'
  obtain⟨s2,e2⟩:=sl b _ e1 d'
  exact⟨s2,e2⟩
 ·obtain⟨o',e'⟩:=u.there b o e hx
  by_cases hb:b∈l
  ·rcases hl b hb with z|z
   ·obtain⟨s1,e1⟩:=u.slot b o e (ff b z) z (by simp)
    obtain⟨o2,e2,d2⟩:=fk b z
    rw[e] at e2
    cases e2
    obtain⟨s2,e2⟩:=sl b _ e1 d2
    exact⟨_,e2⟩
   ·rw[z.1] at e;cases e
  ·exact⟨_,stay b o' hb e'⟩
 ·refine(ok b o e).stay (λ c v hc q=>stay c v (λ z=>?_) q) (λ _ q=>q) λ _ _ q=>q
  have hn:H' c=none:=by
   rcases hl c z with z|z
   ·exact ff' c z
   ·exact z.2
  rcases hc with rfl|hc
  ·rw[hn] at e;cases e
  ·rw[hn] at hc;cases hc
theorem qid9{a0:Value}(ok:HOk P w H' h1)(hn:h.get? a=none)(hn':H' a=none)(sl:∀b o,h1.get? b=some o->(∀vs,o.data ≠ .fields vs)->∃sl,h2.get? b=some { o with slots:=sl })
  (hl:∀b∈l,(∃o,h1.get? b=some o/\∀vs,o.data ≠ .fields vs)\/(h.get? b=none/\H' b=none)) (th:∀b o,h.get? b=some o->∃o',h1.get? b=some o')
  (tr:Heap.TracedW h2 (hides l h1) a cls a0):Fly h H' h2 a cls:=by
 obtain⟨oe,vs,T,oT,ts,e1,⟨e2,e3⟩,e4,e5,e6,e7,e8,e9,e10⟩:=tr
 have key:h.get? T=none/\H' T=none:=by
  by_cases hT:T∈l
  ·rcases hl T hT with⟨o,z1,z2⟩|z
   ·obtain⟨s1,q⟩:=sl T o z1 z2
    rw[e8] at q
    cases q
    exact absurd e9 (z2 ts)
   ·exact z
  ·rw[qgk9 hT] at e6
   refine⟨?_,ok.gone e6⟩
   cases q:h.get? T with
   |none=>rfl
   |some o =>
    obtain⟨o',q'⟩:=th T o q
    rw[e6] at q'
    cases q'
 exact⟨hn,hn',oe,vs,T,oT,ts,a0,e1,e2,e3,e4,e5,e7,e8,e9,e10,key.2,key.1⟩
end
section
variable {E:XK}{e:Value}
structure Own(X:Cx):Prop where
 stk:X.stack=X.env::X.outer
 fr:X.env.frame=some X.env.locals
 ex:X.ex=[]
theorem qmp9(I:Inv X pins σ H s)(c:CXE X.prog X.w X.stack H s E e s')(O:Own X)(A:Around)(hA:A.frames=some X.stack) :
  wpAny (model X.prog X.w) A (leaving X.env e) (λ _ s''=>CXE X.prog X.w X.stack H s E e s'') E' s':=by
 obtain⟨a,cls,H',rfl,os,bare,un,ok,⟨hn,hn',oe,vs,T,oT,ts,a0,e1,e2,e3,e4,e5,e6,e7,e8,e9,e10,e11⟩,q⟩:=c
 have fr:=I.stack
 have fk:∀b∈frs X.stack,∃o,s.heap.get? b=some o/\∀vs,o.data ≠ .fields vs:=λ b hb=>(fr.mem hb).2
 have fs:∀b o,b∈frs X.stack->s.heap.get? b=some o->∃sl,s'.heap.get? b=some { o with slots:=sl }:=λ b o hb e=>un.slot b o e (I.stkFree b hb) hb (by simp)
 have fr':s'.heap.FunFrames (hides (a::T::frs X.stack) s'.heap) X.stack:=qes9 fr (λ b hb=>by simp[hb]) fs
 refine wpAny_leaving_nextW (base:=hides (a::T::frs X.stack) s'.heap) (cls:=cls) (a0:=a0) (by rw[hA,O.stk]) (by rw[<- O.stk];exact fr') O.fr ⟨oe,vs,T,oT,ts,e1,⟨e2,e3⟩,e4,e5,qeh9 (by simp),e6,e7,e8,e9⟩ qfh9 (qeh9 (by simp)) λ h2 L=>?_
 obtain⟨st,_,tr,sl⟩:=L
 have hl:∀b∈a::T::frs X.stack,b∈frs X.stack\/(s.heap.get? b=none/\H' b=none):=λ b hb=>by
  rcases zae.mp hb with rfl|hb
  ·exact .inr ⟨hn,hn'⟩
  ·rcases zae.mp hb with rfl|hb
   ·exact .inr ⟨e11,e10⟩
   ·exact .inl hb
 obtain⟨u2,ok2⟩:=qky9 un ok st sl fr I.stkFree hl
 refine⟨a,cls,H',rfl,os,bare,u2,ok2,qid9 ok hn hn' sl (λ b hb=>?_) (λ b o e=>un.there b o e (by simp)) tr,q⟩
 rcases hl b hb with z|z
 ·obtain⟨o,z1,z2⟩:=fk b z
  obtain⟨s1,z3⟩:=fs b o z z1
  exact .inl ⟨_,z3,z2⟩
 ·exact .inr z
theorem qoa9{C:Value}{us:List Value}{x:Addr}(I:Inv X pins σ H s)(m:Heap.MadeExcOf s.heap h' x C us)(O:Own X)(A:Around)(hA:A.frames=some X.stack)(q:E C none H) :
  wpAny (model X.prog X.w) A (leaving X.env (.ref x)) (λ _ s''=>CXE X.prog X.w X.stack H s E (.ref x) s'') E' { s with heap:=h' }:=by
 obtain⟨t,e1,e2,e3⟩:=m.there
 have hn:=m.new
 have fr:=I.stack
 have hn':H x=none:=I.hok.gone hn
 have fk:∀b∈frs X.stack,∃o,s.heap.get? b=some o/\∀vs,o.data ≠ .fields vs:=λ b hb=>(fr.mem hb).2
 have un:Un (frs X.stack) [] H H s.heap h':=Un.kept m.keeps
 have ok:HOk X.prog X.w H h':=I.hok.kept m.keeps
 have fs:∀b o,b∈frs X.stack->s.heap.get? b=some o->∃sl,h'.get? b=some { o with slots:=sl }:=λ b o hb e=>⟨o.slots,m.keeps b o e⟩
 have fr':h'.FunFrames (hides (x::frs X.stack) h') X.stack:=qes9 fr (λ b hb=>by simp[hb]) fs
 refine wpAny_leaving_firstW (base:=hides (x::frs X.stack) h') (by rw[hA,O.stk]) (by rw[<- O.stk];exact fr') O.fr e1 qfh9 (qeh9 (by simp)) rfl rfl rfl λ h2 L=>?_
 obtain⟨st,_,tr,sl⟩:=L
 have hl:∀b∈x::frs X.stack,b∈frs X.stack\/(s.heap.get? b=none/\H b=none):=λ b hb=>by
  rcases zae.mp hb with rfl|hb
  ·exact .inr ⟨hn,hn'⟩
  ·exact .inl hb
 obtain⟨u2,ok2⟩:=qky9 un ok st sl fr I.stkFree hl
 refine⟨x,C,H,rfl,rfl,I.bare,u2,ok2,qid9 ok hn hn' sl (λ b hb=>?_) (λ b o e=>⟨o,m.keeps b o e⟩) tr,q⟩
 rcases hl b hb with z|z
 ·obtain⟨o,z1,z2⟩:=fk b z
  exact .inl ⟨_,m.keeps _ _ z1,z2⟩
 ·exact .inr z
theorem cx_drop(I:Inv X pins σ H s)(c:CXE X.prog X.w X.stack H s E e s')(O:Own X):CXE X.prog X.w X.outer X.H₀ X.s₀ E e s':=by
 obtain⟨a,cls,H',rfl,os,bare,un,ok,⟨hn,hn',oe,vs,T,oT,ts,a0,e1,e2,e3,e4,e5,e6,e7,e8,e9,e10,e11⟩,q⟩:=c
 have J:Inv X pins σ H' s':=I.call' os un ok bare λ b z=>absurd z (by simp)
 have b:=J.base
 rw[O.ex] at b
 have old:∀b,s.heap.get? b=none->X.s₀.heap.get? b=none:=λ b z=>by
  cases q:X.s₀.heap.get? b with
  |none=>rfl
  |some o =>
   obtain⟨o',q'⟩:=I.base.there b o q (by rw[O.ex];simp)
   rw[z] at q'
   cases q'
 exact⟨a,cls,H',rfl,J.os,bare,b,ok,⟨old a hn,hn',oe,vs,T,oT,ts,a0,e1,e2,e3,e4,e5,e6,e7,e8,e9,e10,old T e11⟩,q⟩
end
abbrev cxE(P:Program)(w:World)(K:W.Frag)(mg:Str->Option Value)(base:Heap)(N:List Str)(qual:Str)(scope:Scope)(f:Addr)(cd:Value)(A:Around)(outer:List Env)(s:Shared)(H:Hp)(E:XK):Cx:=cxOf (CXE P w) P w K mg base N qual scope f cd A outer s H E
section
variable {N:List Str}{qual:Str}{scope:Scope}{cd:Value}{outer:List Env}{E:XK}
theorem qlb9:Own (cxE P w K mg base N qual scope f cd A outer s H E):=⟨rfl,rfl,rfl⟩
theorem passE:qmc9 (CXE P w) (cxE P w K mg base N qual scope f cd A outer s H E) E:=λ pins σ H1 s1 e s' I c =>
 wpAny_mono (qmp9 (E':=λ _ _=>False) I c qlb9 _ I.ok.frames) (λ _ _ c2=>cx_drop I c2 qlb9) λ _ _ z=>z.elim
def Makes(X:Cx)(E:XK):Prop:=∀(pins:List (Addr×Obj)) (σ:St) (H:Hp) (s:Shared) (C:Value) (us:List Value) (x:Addr) (h':Heap),Inv X pins σ H s->Heap.MadeExcOf s.heap h' x C us->E C none H->X.xe (.ref x) { s with heap:=h' }
theorem makeE:Makes (cxE P w K mg base N qual scope f cd A outer s H E) E:=λ pins σ H1 s1 C us x h' I m q =>
 wpAny_mono (qoa9 (E':=λ _ _=>False) I m qlb9 _ I.ok.frames q) (λ _ _ c2=>cx_drop I c2 qlb9) λ _ _ z=>z.elim
end
section
variable {E:XK}{e:Value}
theorem qmo9{Q:Unit->Shared->Prop}(I:Inv X pins σ H s)(c:CXE X.prog X.w X.stack H s E e s')(q:∀s'',CXE X.prog X.w X.stack H s E e s''->Q () s'') :
  wpAny (model X.prog X.w) A (setFlight e none) Q E' s':=by
 obtain⟨a,cls,H',rfl,os,bare,un,ok,⟨hn,hn',oe,vs,T,oT,ts,a0,e1,e2,e3,e4,e5,e6,e7,e8,e9,e10,e11⟩,z⟩:=c
 have fr:=I.stack
 have fk:∀b∈frs X.stack,∃o,s.heap.get? b=some o/\∀vs,o.data ≠ .fields vs:=λ b hb=>(fr.mem hb).2
 have fs:∀b o,b∈frs X.stack->s.heap.get? b=some o->∃sl,s'.heap.get? b=some { o with slots:=sl }:=λ b o hb e=>un.slot b o e (I.stkFree b hb) hb (by simp)
 have fr':s'.heap.FunFrames (hides (a::T::frs X.stack) s'.heap) X.stack:=qes9 fr (λ b hb=>by simp[hb]) fs
 have hl:∀b∈a::T::frs X.stack,b∈frs X.stack\/(s.heap.get? b=none/\H' b=none):=λ b hb=>by
  rcases zae.mp hb with rfl|hb
  ·exact .inr ⟨hn,hn'⟩
  ·rcases zae.mp hb with rfl|hb
   ·exact .inr ⟨e11,e10⟩
   ·exact .inl hb
 refine wpAny_setFlight_noneW (base:=hides (a::T::frs X.stack) s'.heap) (cls:=cls) (a0:=a0) (fl:=.none) qfh9 fr' ⟨oe,vs,T,oT,ts,e1,⟨e2,e3⟩,e4,e5,qeh9 (by simp),e6,e7,e8,e9⟩ λ h2 st _ tr k=>q _ ?_
 have sl:∀b o,s'.heap.get? b=some o->(∀vs,o.data ≠ .fields vs)->∃sl,h2.get? b=some { o with slots:=sl }:=λ b o z1 z2=>⟨o.slots,k b o z1 z2⟩
 obtain⟨u2,ok2⟩:=qky9 un ok st sl fr I.stkFree hl
 refine⟨a,cls,H',rfl,os,bare,u2,ok2,qid9 ok hn hn' sl (λ b hb=>?_) (λ b o e=>un.there b o e (by simp)) tr,z⟩
 rcases hl b hb with z|z
 ·obtain⟨o,z1,z2⟩:=fk b z
  obtain⟨s1,z3⟩:=fs b o z z1
  exact .inl ⟨_,z3,z2⟩
 ·exact .inr z
theorem qph9{E'':Value->Shared->Prop}{Q:Shared->Prop}(I:Inv X pins σ H s)(c:CXE X.prog X.w X.stack H s E e s')(O:Own X)(hA:A.frames=some X.stack)(q:∀s'',CXE X.prog X.w X.stack H s E e s''->Q s'') :
  wpAny (model X.prog X.w) A (noteFrame e X.env) (λ _ s2=>wpAny (model X.prog X.w) A (setFlight e none) (λ _ s3=>Q s3) E' s2) E'' s':=by
 obtain⟨a,cls,H',rfl,os,bare,un,ok,⟨hn,hn',oe,vs,T,oT,ts,a0,e1,e2,e3,e4,e5,e6,e7,e8,e9,e10,e11⟩,z⟩:=c
 have fr:=I.stack
 have fk:∀b∈frs X.stack,∃o,s.heap.get? b=some o/\∀vs,o.data ≠ .fields vs:=λ b hb=>(fr.mem hb).2
 have fs:∀b o,b∈frs X.stack->s.heap.get? b=some o->∃sl,s'.heap.get? b=some { o with slots:=sl }:=λ b o hb e=>un.slot b o e (I.stkFree b hb) hb (by simp)
 have fr':s'.heap.FunFrames (hides (a::T::frs X.stack) s'.heap) X.stack:=qes9 fr (λ b hb=>by simp[hb]) fs
 have hl:∀b∈a::T::frs X.stack,b∈frs X.stack\/(s.heap.get? b=none/\H' b=none):=λ b hb=>by
  rcases zae.mp hb with rfl|hb
  ·exact .inr ⟨hn,hn'⟩
  ·rcases zae.mp hb with rfl|hb
   ·exact .inr ⟨e11,e10⟩
   ·exact .inl hb
 refine wpAny_noteFrame_onW (base:=hides (a::T::frs X.stack) s'.heap) (cls:=cls) (a0:=a0) (by rw[hA,O.stk]) (by rw[<- O.stk];exact fr') O.fr ⟨oe,vs,T,oT,ts,e1,⟨e2,e3⟩,e4,e5,qeh9 (by simp),e6,e7,e8,e9⟩ qfh9 (qeh9 (by simp)) λ h1 N=>?_
 obtain⟨st1,fr1,tr1,sl1⟩:=N
 refine wpAny_setFlight_noneW (base:=hides (a::T::frs X.stack) s'.heap) (cls:=cls) (a0:=a0) (l:=X.env::X.outer) st1 fr1 tr1 λ h2 st _ tr k=>q _ ?_
 have sl:∀b o,s'.heap.get? b=some o->(∀vs,o.data ≠ .fields vs)->∃sl,h2.get? b=some { o with slots:=sl }:=λ b o z1 z2=>by
  obtain⟨sl,z3⟩:=sl1 b o z1 z2
  exact⟨sl,k b _ z3 z2⟩
 obtain⟨u2,ok2⟩:=qky9 un ok st sl fr I.stkFree hl
 refine⟨a,cls,H',rfl,os,bare,u2,ok2,qid9 ok hn hn' sl (λ b hb=>?_) (λ b o e=>un.there b o e (by simp)) tr,z⟩
 rcases hl b hb with z|z
 ·obtain⟨o,z1,z2⟩:=fk b z
  obtain⟨s1,z3⟩:=fs b o z z1
  exact .inl ⟨_,z3,z2⟩
 ·exact .inr z
end
def bmV:List Value:=[.type "ValueError",.type "Exception",.type "BaseException",.type "object"]
structure ExC(K:W.Frag)(C:Addr)(bm:List Value):Prop where
 ex:∃nm q N bs hdct sn sub ab col dd k0 k1 k2 k3 k5,K.lookup C=some (excClassObj nm q C N bs bm hdct sn sub ab col dd k0 k1 k2 k3 k5 "ValueError.__new__")/\W.nsOkIn K N=true/\W.nsIn K N "__init__"=some none
 tl:W.tailIn K bmV bm=true
 bx:bm.contains (.type "BaseException")=true
section
variable {bm:List Value}{E:XK}{np cpos:Pos}{es:List Expr}{t:TA}
def tRaise(C:Addr)(E:XK)(t:TA):TS:=λ _ σ H=>t σ H λ vs H1=>vs.length<=1000/\E (.ref C) none H1
theorem ps_raise(M:Makes X E)(c:ExC X.K C bm)(hg:Gl X x)(hm:X.mg x=some (.ref C))(ha:PA X (e::es) t)(hc:X.calm=true:=by rfl)(hdb:(x==("__debug__":Str))=false:=by decide)
  (he:starEach (e::es) X.env=(false,eval e X.env)::starEach es X.env:=by rfl) (hpl:(backTo cpos (starEach (e::es) X.env)).any (·.1)=false:=by rfl) :
  PS X (.Raise (some (.Call (.Name x np) (e::es) [] cpos)) none pos) (tRaise C E t):=by
 intro pins s σ H D I h
 obtain⟨nm,q,N,bs,hdct,sn,sub,ab,col,dd,k0,k1,k2,k3,k5,l1,l2,l3⟩:=c.ex
 refine wpAny_Raise_call_subU (nm:=nm) (q:=q) (C:=C) (N:=N) (bs:=bs) (hdct:=hdct) (sn:=sn) (sub:=sub) (ab:=ab) (col:=col) (dd:=dd) (k0:=k0) (k1:=k1) (k2:=k2) (k3:=k3) (k5:=k5) (bm:=bm) (bmB:=bmV) (mN:=zgy X.base N) PySem.F.excBase_ValueError (by decide) PySem.F.excBase_ValueError c.bx (I.ok.hd hc) hpl (W.nsMap_none_of_in I.ok.mod.kin l2 l3) ?_
 refine qhq9 I hg hm ⟨rfl,?_⟩ hdb
 have key:=thn (ha cpos pins s σ H _ I h) (Q':=λ us s1=>(us.length<=sizeLine)/\s1.heap.get? C=some (excClassObj nm q C N bs bm hdct sn sub ab col dd k0 k1 k2 k3 k5 "ValueError.__new__")/\s1.heap.Ns N (zgy X.base N)/\OwnTail s1.heap bmV bm/\∀(h':Heap)(e:Addr),Heap.MadeExcOf s1.heap h' e (.ref C) us->X.xe (.ref e) { s1 with heap:=h' }) λ us s1 ⟨vs,H1,I1,r,z,q1⟩=>?_
 ·rw[he] at key ⊢
  exact PySem.Calls.evalArgs_plain (wpAny_mono key (λ us s1 ⟨a1,a2,a3,a4,a5⟩=>⟨rfl,a1,a2,a3,a4,a5⟩) λ _ _ z=>z)
 ·refine⟨?_,I1.kIn _ _ l1,(Heap.Ns.of_isNs (W.isNs_of_in I.ok.mod.kin l2)).keeps I1.bk,W.tail_of_in I1.kIn c.tl,λ h' e m=>M pins σ H1 s1 _ us e h' I1 m q1⟩
  rw[<- r.length]
  exact zbe z (by decide)
end
structure CalleeX(P:Program)(w:World)(K:W.Frag)(mg:Str->Option Value)(base:Heap)(k:Nat)(x:Str)(ps:List Str)(sp:Sp):Prop where
 ex:∃(f:Addr)(fd:FuncData),FnOk P w K mg base (CXE P w) k f fd ps sp/\Binds K fd ps []/\W.keepIn K (.ref f)=true/\mg x=some (.ref f)
section
variable {k:Nat}{ps:List Str}{sp:Sp}{E:XK}{p:Pos}{es:List Expr}{t:TA}
theorem CalleeX.up{j:Nat}(c:CalleeX P w K mg base k x ps sp)(h:k<=j):CalleeX P w K mg base j x ps sp:=by
 obtain⟨f,fd,F,b,kp,m⟩:=c.ex
 exact⟨f,fd,F.mono h,b,kp,m⟩
theorem CalleeX.mk'{fd:FuncData}(G:FnOk P w K mg base (CXE P w) k f fd ps sp)(b:Binds K fd ps [])(kp:W.keepIn K (.ref f)=true)(m:mg x=some (.ref f)):CalleeX P w K mg base k x ps sp:=⟨f,fd,G,b,kp,m⟩
theorem pe_fnX(c:CalleeX X.prog X.w X.K X.mg X.base k x ps sp)(hr:Room k X.A)(hg:Gl X x)(hx:qmc9 (CXE X.prog X.w) X E)(ha:PA X (e::es) t)(hdb:(x==("__debug__":Str))=false:=by decide)
  (he:starEach (e::es) X.env=(false,eval e X.env)::starEach es X.env:=by rfl) (hpl:(backTo pos (starEach es X.env)).any (·.1)=false:=by rfl):PE X (.Call (.Name x p) (e::es) [] pos) (tCall sp [] E t):=by
 obtain⟨f,fd,F,b,kp,m⟩:=c.ex
 exact pe_call F hr hg m kp b .nil hx ha hdb he hpl
def qjk9(X:Cx)(pins:List (Addr×Obj))(σ:St)(E:XK)(e:Value)(s':Shared):Prop:=∃H s,Inv X pins σ H s/\CXE X.prog X.w X.stack H s E e s'
def PSx(X:Cx)(st:List Stmt)(t:XK->TS):Prop:=∀(E:XK) (pins:List (Addr×Obj)) (s:Shared) (σ:St) (H:Hp) (D:Ends),Inv X pins σ H s->t E D σ H->wpAny (model X.prog X.w) X.A (execs st X.env) (SP X pins D) (qjk9 X pins σ E) s
def PEx(X:Cx)(e:Expr)(t:XK->TE):Prop:=∀(E:XK) (pins:List (Addr×Obj)) (s:Shared) (σ:St) (H:Hp) (Q:VK),Inv X pins σ H s->t E σ H Q->wpAny (model X.prog X.w) X.A (eval e X.env) (EP X pins σ Q) (qjk9 X pins σ E) s
theorem run_fnX{fd:FuncData}{Q:VK}{us:List Value}{vs:List V}(F:FnOk X.prog X.w X.K X.mg X.base (CXE X.prog X.w) k f fd ps sp)(hr:Room k X.A)(hb:Binds X.K fd ps [])
  (I:Inv X pins σ H s) (r:Vals vs us) (h:sp (vs++[]) H Q E):wpAny (model X.prog X.w) X.A (call (.ref f) us) (EP X pins σ Q) (qjk9 X pins σ E) s:=by
 have r2:Vals (vs++[]) (us++[]):=r.append .nil
 have hl:(us++[]).length=ps.length:=by rw[<- r2.length];exact F.len _ _ _ _ h
 refine wpAny_call (codeAny_mono (F.run X.A X.stack s H ⟨us,[]⟩ (us++[]) (vs++[]) Q E hr I.env0 (hb s us I.kIn hl) r2 h) λ r s' hq=>?_)
 cases r with
 |error e=>exact⟨H,s,I,hq⟩
 |ok fl =>
  cases fl with
  |ret u=>exact I.after hq
  |next=>exact False.elim hq
  |brk=>exact False.elim hq
  |cont=>exact False.elim hq
theorem pex_fn(c:CalleeX X.prog X.w X.K X.mg X.base k x ps sp)(hr:Room k X.A)(hg:Gl X x)(ha:PA X.nox (e::es) t)(hdb:(x==("__debug__":Str))=false:=by decide)
  (he:starEach (e::es) X.env=(false,eval e X.env)::starEach es X.env:=by rfl) (hpl:(backTo pos (starEach es X.env)).any (·.1)=false:=by rfl) :
  PEx X (.Call (.Name x p) (e::es) [] pos) (λ E=>tCall sp [] E t):=by
 obtain⟨f,fd,F,b,kp,m⟩:=c.ex
 intro E pins s σ H Q I h
 refine wpAny_Call_Name_kw (qhq9 I hg m ?_ hdb)
 refine W.callWith_K (h₀:=X.base) I.ok.mod.kin kp (wpAny_mono (ha pos pins s σ H _ (I.wish _) h) (λ us s1 ⟨vs,H1,I1,r,q⟩=>⟨I1.kIn,?_⟩) λ _ _ z=>z.elim) he hpl
 exact run_fnX F hr b I1.unwish r q
theorem psx_expr{te:XK->TE}(he:PEx X e te)(hs:swapsWith e none pos.line X.env=pure false:=by rfl):PSx X [.Expr e pos] (λ E=>tDrop (te E)):=by
 intro E pins s σ H D I h
 have key:wpAny (model X.prog X.w) X.A (exec (.Expr e pos) X.env) (SP X pins D) (qjk9 X pins σ E) s:=wpAny_Expr_any (thn (he E pins s σ H _ I h) λ v s1 ⟨x,H1,I1,r1,q1⟩=>⟨σ,H1,I1,q1⟩) I.quiet hs
 refine wpAny_execs_cons (thn key λ f s1 q=>?_)
 cases f with
 |next=>exact wpAny_execs_nil q
 |ret v=>exact q
 |brk=>exact q
 |cont=>exact q
end
section
variable {M:Model}{g:Array GenState}{d:Drawn}{t:Nat}{os:OsState}{C':Addr}{oe:Obj}{Q:Bool->Shared->Prop}
theorem qma9{nm q N bs bm hdct sn sub ab col dd k0 k1 k2 k3 k5 nw nm' q' N' bs' bm' hdct' sn' sub' ab' col' dd' k0' k1' k2' k3' k5' nw'}(hC:h.get? C=some (excClassObj nm q C N bs bm hdct sn sub ab col dd k0 k1 k2 k3 k5 nw))(hC':h.get? C'=some (excClassObj nm' q' C' N' bs' bm' hdct' sn' sub' ab' col' dd' k0' k1' k2' k3' k5' nw'))
  (he:h.get? a=some oe) (hc:oe.cls=.ref C') (hb:bm.contains (.type "BaseException")=true) (z:Q ((Value.ref C'::bm').contains (.ref C)) ⟨h,g,d,t,os⟩):wpAny M A (excMatches (.ref a) (.ref C)) Q E ⟨h,g,d,t,os⟩:=by
 have isX:∀{Q':Bool->Shared->Prop},Q' true ⟨h,g,d,t,os⟩->wpAny M A (isExcClass (.ref C)) Q' E ⟨h,g,d,t,os⟩:=λ {Q'} q1=>by
  unfold isExcClass
  refine wpAny_bind ?_
  simp only[isType,loadHead]
  refine wpAny_bind (wpAny_loadPart_at hC (wpAny_pure (wpAny_ite_true rfl (wpAny_isSubtype_exc hC ?_))))
  rw[show(Value.ref C::bm).contains (.type "BaseException")=true by rw[List.contains_cons,hb];simp]
  exact q1
 unfold excMatches isInstance
 simp only[typeOf]
 refine wpAny_bind (wpAny_bind (wpAny_bind (wpAny_loadPart_at hC (wpAny_pure ?_))))
 refine wpAny_of_eq tc_notTuple (wpAny_ite_false rfl (wpAny_bind (wpAny_pure ?_)))
 refine wpAny_bind ?_
 simp only[List.forIn_cons,List.forIn_nil]
 refine wpAny_bind (wpAny_bind (isX (wpAny_ite_false rfl (wpAny_pure (wpAny_pure ?_)))))
 refine wpAny_bind (wpAny_bind (wpAny_loadPart_at he (wpAny_pure ?_)))
 rw[hc]
 refine wpAny_bind (wpAny_bind (wpAny_bind (wpAny_isSubtype_exc hC' ?_)))
 cases b:(Value.ref C'::bm').contains (.ref C) with
 |true =>
  rw[b] at z
  exact wpAny_ite_true rfl (wpAny_pure (wpAny_pure (wpAny_pure z)))
 |false =>
  rw[b] at z
  exact wpAny_ite_false rfl (wpAny_pure (wpAny_pure (wpAny_pure z)))
end
abbrev Cx.inH(X:Cx)(a:Addr):Cx:={ X with A:=X.A.mark (some (.ref a)),calm:=false,xe:=λ _ _=>False }
theorem Inv.inH(I:Inv X pins σ H s)(a:Addr):Inv (X.inH a) pins σ H s :=
 ⟨⟨I.ok.mod,I.ok.kind,I.ok.glob,I.ok.blt,I.ok.above,I.ok.inj,I.ok.has,I.ok.cab,(λ z=>nomatch z),I.ok.frames,I.ok.stk,I.ok.exf,I.ok.bs,I.ok.bsz,I.ok.noex,I.ok.exfs,I.ok.funs,I.ok.frf⟩,I.os,I.bare,I.base,I.loc,I.cell,I.free,I.freeC,I.pin,I.hok,I.len⟩
theorem Inv.outH(ok:X.Ok)(I:Inv (X.inH a) pins σ H s):Inv X pins σ H s:=⟨ok,I.os,I.bare,I.base,I.loc,I.cell,I.free,I.freeC,I.pin,I.hok,I.len⟩
theorem CXE.inv{E:XK}{e:Value}(I:Inv X pins σ H s)(c:CXE X.prog X.w X.stack H s E e s'):∃a cls H',e=.ref a/\Inv X pins σ H' s'/\(∃oe,s'.heap.get? a=some oe/\oe.cls=cls)/\E cls none H':=by
 obtain⟨a,cls,H',rfl,os,bare,un,ok,⟨hn,hn',oe,vs,T,oT,ts,a0,e1,e2,_⟩,z⟩:=c
 exact⟨a,cls,H',rfl,I.call' os un ok bare λ b z=>absurd z (by simp),⟨oe,e1,e2⟩,z⟩
section
variable {body suite:List Stmt}{b0:Stmt}{tb:XK->TS}{th:TS}{bm:List Value}{np hpos:Pos}
end
end L2
namespace L2
open PySem PySem.W PySem.Calls PyProof.Rows
variable {C D:Addr}{A:Around}{X:Cx}{body:List Stmt}{ps:List Str}{M:Model}{i:Nat}{pos:Pos}{s:Shared}{sp:Sp}{n x:Str}{K:W.Frag}{w:World}{E:XK}{tb:XK->TS}
def ExQ(a D:Addr):Heap->Prop:=λ h=>∃ox:Obj,h.get? a=some ox/\ox.cls=.ref D
structure ExK(K:Frag)(D:Addr):Prop where
 cl:(clsIn K D).isSome=true
 ga:findIn K (.ref D) "__getattribute__"=some (some (.builtin "BaseException.__getattribute__"))
 gt:findIn K (.ref D) "__getattr__"=some none
 ca:findIn K (.ref D) "__class__"=some (some (.builtin "object.__class__"))
 gg:specialIn K (.builtin "object.__class__") "__get__"=some (some (.builtin "getset_descriptor.__get__"))
 tk:takesIn K (.builtin "object.__class__")=some true
 mo:mroIn K D (.type "object")=some true
 mb:mroIn K D (.type "BaseException")=some true
section
variable {prog:Program}{E:Value->Shared->Prop}{K:Frag}{a:Addr}
theorem ExQ.type{h:Heap}(I:ExQ a D h):Looks M h (typeOf (.ref a)) (.ref D):=by
 obtain⟨ox,e1,e2⟩:=I
 exact e2 ▸ (Looks.ld e1).andThen .now
theorem qmh9{h:Heap}(X:K.In h)(c:ExK K D):Looks M h (Builtin.ObjectAttr.find (.ref a) (.ref D) "__class__") (.bind (.builtin "getset_descriptor.__get__") (.builtin "object.__class__")):=by
 have L1:=looks_findIn (M:=M) X c.ca
 have L2:Looks M h (Builtin.ObjectAttr.getOf (some (.builtin "object.__class__"))) (some (.builtin "getset_descriptor.__get__")):=looks_specialIn X c.gg
 have L3:=looks_takesIn (M:=M) X c.tk
 exact L1.andThen (L2.andThen ((show Looks M h (Builtin.ObjectAttr.dataDescriptor? (some (.builtin "object.__class__")) (some (.builtin "getset_descriptor.__get__"))) (some (.builtin "getset_descriptor.__get__",.builtin "object.__class__")) from L3.andThen .now).andThen (Looks.tag .now)))
theorem qpz9{R:Result->Shared->Prop}{tp:Value}(X:K.In s.heap)(I:ExQ a D s.heap)(c:ExK K D)(h:R (.ok (.ret (.ref D))) s):codeAny (model prog w) A (.call (.builtin "getset_descriptor.__get__") ⟨[.builtin "object.__class__",.ref a,tp],[]⟩) R s:=by
 obtain⟨hh,g,dr,t,os⟩:=s
 have L0:=I.type (M:=model prog w)
 have L1:=looks_mroIn (M:=model prog w) X c.mo
 refine codeAny_call_builtin KF.slot_gs.plain KF.entry_gs (KF.slot_gs.check _ _ _ _ _ _ _ _ KF.type_class (KF.args_gs _ _ _) ?_)
 unfold Builtin.«getset_descriptor.__get__» Builtin.Getset_descriptor.descrGet
 rw[dga_obj]
 refine wpAny_bind (wpAny_pure ?_)
 unfold Builtin.Getset_descriptor.descrGetter Builtin.Getset_descriptor.descrCheckInstance Builtin.Getset_descriptor.descrNameAndClass isInstance
 simp only[KF.owner_class]
 repeat lk
 refine⟨Code.quiet_builtin _ (by decide +kernel),codeAny_builtin KF.entry_class ?_⟩
 unfold Builtin.«object.__class__» shownTypeOf
 repeat lk
 exact h
theorem check_ga{nameV:Value}{Q:Unit->Shared->Prop}(X:K.In s.heap)(I:ExQ a D s.heap)(c:ExK K D)(hq:Q () s):wpAny M A (checkBuiltinCall "BaseException.__getattribute__" ⟨[.ref a,nameV],[]⟩) Q E s:=by
 obtain⟨hh,g,d,t,os⟩:=s
 have L0:=I.type (M:=M)
 have L3:=looks_mroIn (M:=M) X c.mb
 have hk:builtinKind "BaseException.__getattribute__"=some .slot:=by decide +kernel
 have hsplit:splitId "BaseException.__getattribute__"=some ("BaseException","__getattribute__"):=by decide +kernel
 have ha:=PySem.F.args_bexc_ga (.ref a) nameV
 simp only[checkBuiltinCall,hk,hsplit]
 refine wpAny_bind ?_
 unfold isInstance
 repeat (first|lk|wp_step)
 exact hq
theorem exc_class{Q:Option Value->Shared->Prop}(X:K.In s.heap)(I:ExQ a D s.heap)(c:ExK K D)(h:Q (some (.ref D)) { s with toks:=s.toks+1 }):wpAny (model prog w) A (getAttr? (.ref a) "__class__") Q E s:=by
 obtain⟨hh,g,d,t,os⟩:=s
 have L0:=I.type (M:=model prog w)
 have L1:=looks_findIn (M:=model prog w) X c.ga
 have L2:=looks_findIn (M:=model prog w) X c.gt
 have L3:=looks_mroIn (M:=model prog w) X c.mb
 have L4:=qmh9 (M:=model prog w) (a:=a) X c
 unfold getAttr? getAttrBy? getAttrBy
 refine wpAny_bind (wpAny_mkText (wpAny_bind (wpAny_attempt (wpAny_holding (wpAny_bind (L0.at (wpAny_bind (L1.at ?_))))))))
 have hx2:(Value.builtin "BaseException.__getattribute__"==Value.builtin "object.__getattribute__")=false:=by decide +kernel
 refine wpAny_ite_false (by rw[hx2];rfl) ?_
 unfold getAttrByItsOwn hookBefore
 refine wpAny_bind (wpAny_ite_true rfl (L2.at ?_))
 refine wpAny_bind (wpAny_attempt (wpAny_holding ?_))
 unfold callGetattribute
 refine wpAny_ite_false rfl ?_
 unfold boundAndCalled
 refine wpAny_bind (wpAny_of_eq (PySem.F.attrBase_ValueError.ga.bind (.ref a)) ?_)
 refine wpAny_call (codeAny_call_builtin PySem.F.attrBase_ValueError.ga.plain PySem.F.entry_bexc_ga (check_ga X I c ?_))
 unfold Builtin.«object.__getattribute__»
 refine wpAny_bind (wpAny_pure ?_)
 refine wpAny_bind (wpAny_pure (wpAny_bind (L0.at (wpAny_bind (L4.at ?_)))))
 show wpAny _ _ (holding [Value.builtin "object.__class__"] (call (.builtin "getset_descriptor.__get__") [.builtin "object.__class__",.ref a,.ref D]) >>= ret) _ _ _
 refine wpAny_bind (wpAny_holding (wpAny_call (qpz9 X I c ?_)))
 exact wpAny_pure (wpAny_pure (wpAny_pure h))
theorem qog9(c:ExK K D):KitX K (.ref a) (.ref D) (ExQ a D) where
 ty:=λ _ _ _ I=>I.type
 it:=λ _ _ X _=>by
  obtain⟨cdD,hcD⟩:=zcf.mp c.cl
  unfold clsIn at hcD
  split at hcD
  ·rename_i c' d' cd' sl' ho
   intro A' Q' E' s' k q
   unfold isType loadHead
   exact wpAny_bind (wpAny_loadPart (k _ _ (X _ _ ho)) (wpAny_pure q))
  ·cases hcD
 ne:=λ h tp dd its n sl X htp=>by
  obtain⟨cdD,hcD⟩:=zcf.mp c.cl
  refine zbj.mpr λ q=>?_
  have e:D=tp:=Value.ref.inj (beq_iff_eq.mp q)
  subst e
  unfold clsIn at hcD
  split at hcD
  ·rename_i c' d' cd' sl' ho
   have z:=(X _ _ ho).symm.trans htp
   cases z
  ·cases hcD
 ca:=λ X I k=>exc_class X I c k
end
section
variable {pins:List (Addr×Obj)}{σ:St}{H:Hp}
theorem unbind_ok{E:Value->Shared->Prop}{v:V}{Q:Unit->Shared->Prop}(I:Inv X pins σ H s)(hN:X.N.Nodup)(hi:X.N[i]?=some x)(hk:X.env.scope.names.lookup x=some .local)(hv:σ[i]?=some (some v))
  (h:∀s',Inv X pins (σ.set i none) H s'->Q () s'):wpAny M A (unbindName X.env x) Q E s:=by
 obtain⟨m,hn,hl⟩:=id I.loc
 have hcls:(X.env.scope.kind == .class||(X.env.scope.kind == .module&&X.env.locals != X.env.globals))=false:=by rw[I.ok.kind];rfl
 have hiσ:i<σ.length:=by rw[I.len];exact(zab.mp hi).1
 have cne:=I.cne
 obtain⟨u0,_,lk⟩:=hl i x v hi hv (.inl hk)
 have mx:m x=some u0:=by
  rcases lk with⟨_,z⟩|⟨z,_⟩
  ·exact z
  ·have z:X.env.scope.names.lookup x=some .cell\/X.env.scope.names.lookup x=some .free:=z
   rw[hk] at z
   rcases z with z|z<;>cases z
 refine wpAny_unbindName_local hk hn mx hcls λ h' u hn' hs=>?_
 obtain⟨oL,_,_,hoL,_⟩:=id hn
 refine h _ ⟨I.ok,I.os,I.bare,⟨λ b o e n hb hx=>?_,λ b o e n hb hx=>?_,I.base.free,λ b o e hx=>?_,I.base.tups,I.base.frzs,I.base.tbls⟩,⟨_,hn',λ j y v' e1 e2 e3=>?_⟩,λ y c e=>?_,I.free,I.freeC,λ p hp=>?_,λ b ob e=>?_,by simpa using I.len⟩
 ·exact(hs.2 b (zaz (zat (zaq e) I.ok.above))).trans (I.base.keep b o e n hb hx)
 ·obtain⟨sl,e1⟩:=I.base.slot b o e n hb hx
  exact⟨sl,(hs.2 b (zaz (zat (zaq e) I.ok.above))).trans e1⟩
 ·obtain⟨o',e1⟩:=I.base.there b o e hx
  exact⟨o',(hs.2 b (zaz (zat (zaq e) I.ok.above))).trans e1⟩
 ·by_cases hj:j=i
  ·subst hj
   rw[zcu hiσ] at e2
   cases e2
  ·rw[zdt (Ne.symm hj)] at e2
   obtain⟨u',r',q⟩:=hl j y v' e1 e2 e3
   refine⟨u',r',?_⟩
   rcases q with⟨k,e⟩|⟨k,c,e,z⟩
   ·refine .inl ⟨k,?_⟩
    have:y≠x:=λ e=>hj (qkr9 hN e1 (e ▸ hi))
    simp[this,e]
   ·exact .inr ⟨k,c,e,z.sameBut hs (cne y c e)⟩
 ·obtain⟨w',z⟩:=I.cell y c e
  exact⟨w',z.sameBut hs (cne y c e)⟩
 ·obtain⟨e,n,ne,nf,d⟩:=I.pin p hp
  exact⟨(hs.2 p.1 ne).trans e,n,ne,nf,d⟩
 ·refine(I.hok b ob e).stay (λ c w' hc q=>(hs.2 c ?_).trans q) (λ _ q=>q) λ _ _ q=>q
  rintro rfl
  rcases hc with rfl|hc
  ·rw[I.free] at e;cases e
  ·rw[I.free] at hc;cases hc
theorem CXE.track{e:Value}{s':Shared}(hD:∀cls H',E cls none H'->cls=.ref D)(I:Inv X pins σ H s)(c:CXE X.prog X.w X.stack H s E e s') :
  ∃a H',e=.ref a/\H' a=none/\Inv X pins σ (upd H' a (.ext (ExQ a D))) s'/\E (.ref D) none H':=by
 obtain⟨a,cls,H',rfl,os,bare,un,ok,⟨hn,hn',oe,vs,T,oT,ts,a0,e1,e2,_⟩,z⟩:=c
 have hc:=hD cls H' z
 subst hc
 have ne:∀b o,H' b=some o->b≠a:=λ b o q z=>by rw[z,hn'] at q;cases q
 have ne0:∀b o,s.heap.get? b=some o->b≠a:=λ b o q z=>by rw[z,hn] at q;cases q
 refine⟨a,H',rfl,hn',I.call' os ⟨un.keep,un.slot,λ b o e n hx=>?_,un.there,λ b xs q=>?_,λ b o u q=>?_,λ b ps q=>?_⟩ (λ b o q=>?_) bare (λ b z=>absurd z (by simp)),z⟩
 ·rw[qaq9 (ne0 b o e)];exact un.free b o e n hx
 ·have:=un.tups b xs q
  rw[qaq9 (ne b _ this)];exact this
 ·have:=un.frzs b o u q
  rw[qaq9 (ne b _ this)];exact this
 ·obtain⟨m,this⟩:=un.tbls b ps q
  exact⟨m,by rw[qaq9 (ne b _ this)];exact this⟩
 ·by_cases hb:b=a
  ·subst hb
   rw[qaf9] at q
   cases q
   exact⟨⟨oe,e1,e2⟩,⟨oe,e1⟩,λ h1 h2 ⟨ox,q1,q2⟩ k=>⟨ox,k ox q1,q2⟩⟩
  ·rw[qaq9 hb] at q
   refine(ok b o q).stay (λ _ _ _ z=>z) (λ c z=>?_) λ c xs z=>?_
   ·rw[qaq9 (ne c _ z)];exact z
   ·rw[qaq9 (ne c _ z)];exact z
def clsV:V->Option Value
 | .ref C=>some (.ref C)
 | .ty T=>some (.type T)
 |_=>none
theorem qnn9{v:V}{u c:Value}(r:RelV v u)(h:clsV v=some c):u=c:=by
 cases v<;>cases h
 ·exact r
 ·exact r
theorem call_isiX:CallR X (.builtin "isinstance") (λ xs H Q=>∃(a D:Addr)(c:V)(b:Bool),xs=[.ref a,c]/\H a=some (.ext (ExQ a D))/\ExK X.K D /\
  ((∃v,clsV c=some v/\W.kitOne X.K (.ref D) v=some b)\/∃tp vs its,c=.ref tp/\SqT X.K H tp vs/\vs.map clsV=its.map some/\W.kitAny X.K (.ref D) its=some b)/\Q (.bl b) H):=by
 intro pins s σ H xs us Q I r h
 obtain⟨a,D,c,b,rfl,ea,ck,alt,q⟩:=h
 obtain⟨u,v,rfl,r1,r2⟩:=Vals.two r
 cases (show u=Value.ref a from r1)
 obtain⟨ex,_⟩:=(show ObjOk X.prog X.w H s.heap a (.ext (ExQ a D)) from I.hok a _ ea)
 rcases alt with⟨w',h1,h2⟩|⟨tp,vs,its,rfl,h1,h2,h3⟩
 ·cases qnn9 r2 h1
  exact W.kia_one (qog9 ck) I.kIn ex h2 (λ z=>nomatch z) λ tk=>⟨.bl b,H,I.tok tk,rfl,q⟩
 ·cases (show v=Value.ref tp from r2)
  obtain⟨its',r3,⟨o,o1,o2,n,o3⟩,hz⟩:=I.tuple h1
  have e:its'=its:=by
   clear h3 o3 h1 hz
   induction r3 generalizing its with
   |nil=>cases its with|nil=>rfl|cons _ _=>cases h2
   |cons ra _ ih =>
    cases its with
    |nil=>cases h2
    |cons y ys =>
     rw[zci,zci,List.cons.injEq] at h2
     rw[qnn9 ra h2.1,ih _ h2.2]
  subst e
  obtain⟨oc,od,odt,osl⟩:=o
  cases o2
  cases o3
  exact W.kia_tup (qog9 ck) I.kIn ex o1 h3 (λ z=>nomatch z) λ tk=>⟨.bl b,H,I.tok tk,rfl,q⟩
end
inductive tTryAs(K:W.Frag)(C:Addr)(i:Nat)(tb:XK->TS)(th:TS)(D:Ends)(σ:St)(H:Hp):Prop
 |mk (E:XK) (G:Addr) (bm':List Value):tb E D σ H->((∀cls H',E cls none H'->cls=.ref G))->ExC K G bm'->((Value.ref G::bm').contains (.ref C)=true)->(∀(a:Addr)(H':Hp),E (.ref G) none H'->H' a=none->th { nx:=λ σ' H2=>D.nx (σ'.set i none) H2,rt:=D.rt,bk:=λ σ' H2=>D.bk (σ'.set i none) H2,ct:=λ σ' H2=>D.ct (σ'.set i none) H2 } (σ.set i (some (.ref a))) (upd H' a (.ext (ExQ a G))))->tTryAs K C i tb th D σ H
section
variable {suite:List Stmt}{b0:Stmt}{th:TS}{bm:List Value}{np hpos:Pos}
theorem ps_tryAs(hb:PSx X body tb)(c:ExC X.K C bm)(hg:Gl X x)(hm:X.mg x=some (.ref C))(O:Own X)(hs:∀a,PSs (X.inH a) (b0::suite) th)(hN:X.N.Nodup)(hi:X.N[i]?=some n)(hk:X.env.scope.names.lookup n=some .local)(hdb:(x==("__debug__":Str))=false:=by decide) :
  PS X (.Try body [.ExceptHandler (some (.Name x np)) (some n) (b0::suite) hpos] [] [] pos) (tTryAs X.K C i tb th):=by
 intro pins s σ H D I ⟨E,G,bm',h1,hG,c',hc,h2⟩
 refine wpAny_Try_except (wpAny_mono (hb E pins s σ H D I h1) (λ f s1 q=>?_) (λ e s1 c1=>?_))
 ·cases f with
  |next=>exact wpAny_execs_nil q
  |ret v=>exact q
  |brk=>exact q
  |cont=>exact q
 obtain⟨H1,s0,I1,c1⟩:=c1
 refine qph9 I1 c1 O I.ok.frames λ s3 c3=>?_
 obtain⟨a,cls,H',rfl,J,⟨oe,e1,e2⟩,z⟩:=c3.inv I1
 have ec:=hG cls H' z
 subst ec
 obtain⟨nm,q,N,bs,hdct,sn,sub,ab,col,dd,k0,k1,k2,k3,k5,l1,_⟩:=c.ex
 obtain⟨nm',q',N',bs',hdct',sn',sub',ab',col',dd',k0',k1',k2',k3',k5',l1',_⟩:=c'.ex
 refine wpAny_handleBy_cons (codeAny_handlers_test ?_) (λ z=>nomatch z)
 refine Calls.Name_function_global I.ok.kind hg (Calls.loadGlobal_global (by rw[I.ok.glob];exact I.mod.glob.keeps J.bk) hm ?_) hdb
 obtain⟨h,g,d,t,os⟩:=s3
 refine qma9 (J.kIn _ _ l1) (J.kIn _ _ l1') e1 e2 c.bx ?_
 rw[hc]
 refine codeAny_handlers_suite_as (qmo9 I1 c3 λ s4 c4=>?_)
 obtain⟨a4,H4,e4,n4,J4,z4⟩:=c4.track hG I1
 cases e4
 refine qgr9 J4 hN hi (.inl hk) (v:=.ref a) rfl (λ s5 J5=>?_) (.inr hk)
 refine wpAny_mono (hs a pins s5 _ _ _ (J5.inH a) (h2 a H4 z4 n4)) (λ f s6 q6=>?_) λ _ _ z=>z.elim
 have fin:∀{σ':St}{H2:Hp}{Q':Shared->Prop},Inv (X.inH a) pins σ' H2 s6->(∀s7,Inv X pins (σ'.set i none) H2 s7->Q' s7)->wpAny (model X.prog X.w) X.A (do bindName X.env n .none;unbindBehindTheSuite X.env n hpos) (λ _ s7=>Q' s7) X.xe s6:=λ {σ' H2 Q'} J6 qq=>by
  have J6:=J6.outH I.ok
  refine wpAny_bind (wpAny_bindName (qgr9 J6 hN hi (.inl hk) (v:=.non) rfl (λ s7 J7=>?_) (.inr hk)))
  unfold unbindBehindTheSuite
  have hl:i<σ'.length:=by rw[J6.len];exact(zab.mp hi).1
  refine wpAny_onRaise (unbind_ok J7 hN hi hk (zcu hl) λ s8 J8=>qq s8 ?_)
  rw[zgf] at J8
  exact J8
 cases f with
 |next =>
  obtain⟨σ',H2,J6,q7⟩:=q6
  exact fin J6 λ s7 J7=>⟨_,H2,J7,q7⟩
 |brk =>
  obtain⟨σ',H2,J6,q7⟩:=q6
  exact fin J6 λ s7 J7=>⟨_,H2,J7,q7⟩
 |cont =>
  obtain⟨σ',H2,J6,q7⟩:=q6
  exact fin J6 λ s7 J7=>⟨_,H2,J7,q7⟩
 |ret u =>
  obtain⟨v,σ',H2,J6,r,q7⟩:=q6
  exact fin J6 λ s7 J7=>⟨v,_,H2,J7,r,q7⟩
end
structure QEx(X:Cx)(e:Expr)(t:XK->TE):Prop where
 run:PEx X e t
structure QSx(X:Cx)(st:List Stmt)(t:XK->TS):Prop where
 run:PSx X st t
section
variable {p np cpos hpos:Pos}{e:Expr}{es:List Expr}{t:TA}{k:Nat}{suite:List Stmt}{b0:Stmt}{th:TS}{bm:List Value}
theorem qih9(M:Makes X E)(c:ExC X.K C bm)(hg:Gl X x)(hm:X.mg x=some (.ref C))(ha:QA X (e::es) t)(hc:X.calm=true:=by rfl)(hdb:(x==("__debug__":Str))=false:=by decide)
  (he:qbt9 e=true:=by rfl) (hpl:(backTo cpos (starEach (e::es) X.env)).any (·.1)=false:=by rfl):QS X (.Raise (some (.Call (.Name x np) (e::es) [] cpos)) none pos) (tRaise C E t):=⟨ps_raise M c hg hm ha.run hc hdb (se_of he) hpl⟩
theorem qib9(c:CalleeX X.prog X.w X.K X.mg X.base k x ps sp)(hr:Room k X.A)(hg:Gl X x)(hx:qmc9 (CXE X.prog X.w) X E)(ha:QA X (e::es) t)(hdb:(x==("__debug__":Str))=false:=by decide)
  (he:qbt9 e=true:=by rfl) (hpl:(backTo pos (starEach es X.env)).any (·.1)=false:=by rfl):QE X (.Call (.Name x p) (e::es) [] pos) (tCall sp [] E t):=⟨pe_fnX c hr hg hx ha.run hdb (se_of he) hpl⟩
theorem qiw9(c:CalleeX X.prog X.w X.K X.mg X.base k x ps sp)(hr:Room k X.A)(hg:Gl X x)(ha:QA X.nox (e::es) t)(hdb:(x==("__debug__":Str))=false:=by decide)
  (he:qbt9 e=true:=by rfl) (hpl:(backTo pos (starEach es X.env)).any (·.1)=false:=by rfl):QEx X (.Call (.Name x p) (e::es) [] pos) (λ E=>tCall sp [] E t):=⟨pex_fn c hr hg ha.run hdb (se_of he) hpl⟩
theorem qep9{te:XK->TE}(he:QEx X e te)(hs:swapsWith e none pos.line X.env=pure false:=by rfl):QSx X [.Expr e pos] (λ E=>tDrop (te E)):=⟨psx_expr he.run hs⟩
theorem qng9(hb:QSx X body tb)(c:ExC X.K C bm)(hg:Gl X x)(hm:X.mg x=some (.ref C))(O:Own X)(hs:∀a,QSs (X.inH a) (b0::suite) th)(hN:X.N.Nodup)(hi:X.N[i]?=some n)(hk:X.env.scope.names.lookup n=some .local)(hdb:(x==("__debug__":Str))=false:=by decide) :
  QS X (.Try body [.ExceptHandler (some (.Name x np)) (some n) (b0::suite) hpos] [] [] pos) (tTryAs X.K C i tb th):=⟨ps_tryAs hb.run c hg hm O (λ a=>(hs a).run) hN hi hk hdb⟩
theorem qha9(hg:Gl X x)(hm:X.mg x=some (.ref C))(hd:(x==("__debug__":Str))=false:=by decide):QE X (.Name x pos) (tC (.ref C)):=⟨pe_glob hg hm rfl hd⟩
theorem qe_tyB{T:String}(hg:Gl X x)(hm:X.mg x=none)(hv:bootBuiltins x=some (.type T))(hn:x≠"__name__" := by decide)(hd:(x==("__debug__":Str))=false:=by decide):QE X (.Name x pos) (tC (.ty T)):=⟨pe_bltn hg hm hv rfl hn hd⟩
theorem qbq9:QCall X (.builtin "isinstance") (λ xs H Q=>∃(a D:Addr)(c:V)(b:Bool),xs=[.ref a,c]/\H a=some (.ext (ExQ a D))/\ExK X.K D /\
  ((∃v,clsV c=some v/\W.kitOne X.K (.ref D) v=some b)\/∃tp vs its,c=.ref tp/\SqT X.K H tp vs/\vs.map clsV=its.map some/\W.kitAny X.K (.ref D) its=some b)/\Q (.bl b) H):=⟨call_isiX⟩
end
section
variable {P:Program}{mg:Str->Option Value}{base:Heap}{N:List Str}{qual:Str}{scope:Scope}{f:Addr}{cd:Value}{outer:List Env}{H:Hp}
theorem own0{CX:CXT}:Own (cxOf CX P w K mg base N qual scope f cd A outer s H E).nox:=⟨rfl,rfl,rfl⟩
theorem Fun.okX{st:Stmt}{fd:FuncData}{k:Nat}(F:Fun K x qual st f fd)(S:FnScope N ps (qad9 st))(len:∀vs H Q E,sp vs H Q E->vs.length=ps.length)
  (hbody:∀(cdv:Value)(A:Around)(outer:List Env)(s:Shared)(H:Hp)(vs:List V)(Q:VK)(E:XK),Room k (A.deeper (envOfC qual (qad9 st) s.heap.objs.size f cdv))->sp vs H Q E ->
   ∃t,QSs (cxE P w K mg base N qual (qad9 st) f cdv A outer s H E) (qag9 st) t/\t { nx:=λ _ H'=>Q .non H',rt:=Q } (start N vs) H):FnOk P w K mg base (CXE P w) (k+1) f fd ps sp:=by
 obtain⟨oc,od,kV,doc,pm,an,cdv,ct,osl,rfl,lk,hcd⟩:=F.ex
 refine fn_of lk hcd S len λ A outer s H vs Q E hr hsp=>?_
 obtain⟨t,h1,h2⟩:=hbody cdv A outer s H vs Q E hr hsp
 exact⟨t,h1.run,h2⟩
end
theorem exc_of{nm q N bs bm hdct sn sub ab col dd k0 k1 k2 k3 k5}(l:K.lookup C=some (excClassObj nm q C N bs bm hdct sn sub ab col dd k0 k1 k2 k3 k5 "ValueError.__new__"))
  (e:W.excIn K C [.type "ValueError",.type "Exception",.type "BaseException",.type "object"] "ValueError.__new__"=true) (b:bm.contains (.type "BaseException")=true):ExC K C bm:=by
 unfold W.excIn at e
 rw[l] at e
 simp only[excClassObj,zbm,beq_iff_eq] at e
 obtain⟨⟨⟨_,ht⟩,hok⟩,hni⟩:=e
 exact⟨⟨nm,q,N,bs,hdct,sn,sub,ab,col,dd,k0,k1,k2,k3,k5,l,hok,hni⟩,ht,b⟩
theorem kit_self:W.kitOne K (.ref D) (.ref D)=some true:=by
 unfold W.kitOne
 rw[if_pos (by simp)]
theorem kit_no{cd:ClassData}(c:W.clsIn K C=some cd)(t:W.typeIn K (.ref C)=some (.type "type"))(s:W.subIn K (.ref D) (.ref C)=some false)(ne:D≠C):W.kitOne K (.ref D) (.ref C)=some false:=by
 unfold W.kitOne
 rw[if_neg (by simp[ne])]
 unfold W.kitCls
 dsimp only
 rw[c,t]
 simp only[zgb,zcp,beq_self_eq_true,if_true]
 exact s
theorem kit_ty{T:String}(m:W.kitMeta T=true)(s:W.subIn K (.ref D) (.type T)=some true):W.kitOne K (.ref D) (.type T)=some true:=by
 unfold W.kitOne
 rw[if_neg (by simp)]
 unfold W.kitCls
 dsimp only
 rw[if_pos m]
 exact s
section
variable {suite1 suite2:List Stmt}{b1 b2:Stmt}{th1 th2:TS}{C1 C2:Addr}{bm1 bm2:List Value}{x1 x2:Str}{np1 hpos1 np2 hpos2:Pos}
end
section
variable {P:Program}{mg:Str->Option Value}{base:Heap}{k:Nat}{f:Addr}{fd:FuncData}{sp1 sp2:Sp}
theorem FnOk.toX(F:FnOk P w K mg base CX0 k f fd ps sp):FnOk P w K mg base (CXE P w) k f fd ps sp:=⟨F.len,λ A outer s H args us vs Q E hr he hb hv hs=>codeAny_mono (F.run A outer s H args us vs Q E hr he hb hv hs) λ r s' h=>by
 cases r with
 |error e=>exact False.elim h
 |ok fl=>cases fl<;>exact h⟩
theorem FnOk.or{CX:CXT}(F1:FnOk P w K mg base CX k f fd ps sp1)(F2:FnOk P w K mg base CX k f fd ps sp2):FnOk P w K mg base CX k f fd ps (λ vs H Q E=>sp1 vs H Q E\/sp2 vs H Q E) :=
 ⟨λ vs H Q E h=>h.elim (F1.len vs H Q E) (F2.len vs H Q E),λ A outer s H args us vs Q E hr he hb hv hs=>hs.elim (F1.run A outer s H args us vs Q E hr he hb hv) (F2.run A outer s H args us vs Q E hr he hb hv)⟩
end
end L2
namespace Ma
variable {d:Int}{f g:Int->Int}{R:List T3}{m m1 m2:Nat}
def Mu(d:Int)(f:Int->Int)(m:Nat):Prop :=
 ∃J V:List Int,J.length+V.length<=m/\(∀b,0<=b->b<d->f b+2<=f (b+1)->b∈J)/\∀t,0<=t->t<d->f t=f (t+1)->f t%d∈V
theorem pw_mem{p:T3->T3->Prop}(h:R.Pairwise p):∀u∈R,∀v∈R,u=v\/p u v\/p v u:=by
 induction R with
 |nil=>intro u hu;cases hu
 |cons x l ih =>
  have h':=zcx.mp h
  intro u hu v hv
  rcases zae.mp hu with rfl|hu'
  ·rcases zae.mp hv with rfl|hv'
   ·exact .inl rfl
   ·exact .inr (.inl (h'.1 v hv'))
  ·rcases zae.mp hv with rfl|hv'
   ·exact .inr (.inr (h'.1 u hu'))
   ·exact ih h'.2 u hu' v hv'
theorem CK.end_at(h:CK d R)(T:Tells d R f):∀w∈R,0<=w.2.1/\w.2.1<d/\f w.2.1<f (w.2.1+1)/\(w.2.1+1<d->f (w.2.1+1)=f w.2.1+1->f (w.2.1+1)=f (w.2.1+1+1)):=by
 intro w hw
 have C:=h.can T
 obtain⟨m0,m1,m2,m3⟩:=C.mem w hw
 obtain⟨e1,e2⟩:=m3 w.2.1 m1 (zax _)
 refine⟨⋯,m2,e2,λ k1 k2=>?_⟩
 have mo:=(h.rise T).mono (w.2.1+1) (w.2.1+1+1) ⋯
 rcases(by omega:f (w.2.1+1)=f (w.2.1+1+1)\/f (w.2.1+1)<f (w.2.1+1+1)) with z|k3
 ·exact z
 exfalso
 obtain⟨v,hv,v1,v2⟩:=C.cov (w.2.1+1) ⋯ k1 k3
 obtain⟨e3,_⟩:=(C.mem v hv).2.2.2 _ v1 v2
 rcases pw_mem C.srt w hw v hv with rfl|⟨p,q⟩|⟨p,q⟩
 ·omega
 ·exact q ⋯ ⋯
 ·omega
theorem mod_ne{x y:Int}(l:x<y)(l2:y<x+d):x%d≠y%d:=λ e=>by
 have a1:=zcv x d
 have a2:=zcv y d
 have k1:0<d*(y/d)-d*(x/d):=⋯
 have k2:d*(y/d)-d*(x/d)<d:=⋯
 rw[<- Int.mul_sub] at k1 k2
 generalize y/d-x/d=k at k1 k2
 rcases(by omega:k<=0\/1<=k) with y|y
 ·have:=Int.mul_nonpos_of_nonneg_of_nonpos (show 0<=d by omega) y
  omega
 ·have:=zbx y (show 0<=d by omega)
  omega
theorem mu_len(h:CK d R)(T:Tells d R f)(M:Mu d f m):R.length<=m+1:=by
 obtain⟨J,V,hm,hJ,hV⟩:=M
 have hd:=h.d0
 have rf:=h.rise T
 let key:T3->Nat×Int:=λ w=>if w.2.1+1=d then(0,0) else if f w.2.1+2<=f (w.2.1+1) then(1,w.2.1) else(2,f (w.2.1+1)%d)
 have nd:(R.map key).Nodup:=by
  refine zft.mpr (h.srt.imp_of_mem λ {u v} hu hv p=>?_)
  obtain⟨u0,u1,u2,u3⟩:=h.end_at T u hu
  obtain⟨v0,v1,v2,v3⟩:=h.end_at T v hv
  have vl:=(h.win v hv).2.1
  intro z
  dsimp only[key] at z
  rw[if_neg ⋯] at z
  split at z
  ·split at z
   ·cases (Prod.mk.inj z).1
   ·split at z
    ·have:=(Prod.mk.inj z).2
     omega
    ·cases (Prod.mk.inj z).1
  ·split at z
   ·cases (Prod.mk.inj z).1
   ·split at z
    ·cases (Prod.mk.inj z).1
    ·have m1:=rf.mono (u.2.1+1) v.2.1 ⋯
     have m2:=rf.mono (v.2.1+1) (u.2.1+d) ⋯
     have m3:=rf.mul u.2.1 1
     rw[zdr] at m3
     exact mod_ne (d:=d) (show f (u.2.1+1)<f (v.2.1+1) by omega) ⋯ (Prod.mk.inj z).2
 have:=qkp9 (l:=R.map key) (L:=(0,0)::(J.map (λ b=>(1,b))++V.map (λ b=>(2,b)))) nd λ x hx=>by
  obtain⟨w,hw,rfl⟩:=zbi.mp hx
  obtain⟨b0,b1,e1,e2⟩:=h.end_at T w hw
  show(if w.2.1+1=d then(0,0) else if f w.2.1+2<=f (w.2.1+1) then(1,w.2.1) else(2,f (w.2.1+1)%d))∈_
  split
  ·exact zak ..
  ·refine zam _ ?_
   split
   ·exact zbg _ (zbi.mpr ⟨_,hJ _ b0 b1 (by assumption),rfl⟩)
   ·exact zap _ (zbi.mpr ⟨_,hV (w.2.1+1) ⋯ ⋯ (e2 ⋯ ⋯),rfl⟩)
 simp only[zah,zdw,zal] at this
 omega
theorem jn_cases(late:Bool)(x y:Int):(late=true/\x<=jn late x y/\y<=jn late x y/\(jn late x y=x\/jn late x y=y))\/(late=false/\jn late x y<=x/\jn late x y<=y/\(jn late x y=x\/jn late x y=y)):=by
 unfold jn
 cases late
 ·refine .inr ⟨rfl,?_⟩
  simp only[zcy,if_false]
  split<;>omega
 ·refine .inl ⟨rfl,?_⟩
  simp only[if_true]
  split<;>omega
theorem mu_jn{late:Bool}(rf:Rise d f)(rg:Rise d g)(M1:Mu d f m1)(M2:Mu d g m2):Mu d (λ x=>jn late (f x) (g x)) (m1+m2):=by
 obtain⟨J1,V1,h1,j1,v1⟩:=M1
 obtain⟨J2,V2,h2,j2,v2⟩:=M2
 refine⟨J1++J2,V1++V2,by simp only[zal];omega,λ b b0 b1 e=>?_,λ t t0 t1 e=>?_⟩
 ·have f1:=rf.mono b (b+1) ⋯
  have g1:=rg.mono b (b+1) ⋯
  have c0:=jn_cases late (f b) (g b)
  have c1:=jn_cases late (f (b+1)) (g (b+1))
  dsimp only at e
  have:f b+2<=f (b+1)\/g b+2<=g (b+1):=by
   rcases c0 with⟨a0,a1,a2,a3⟩|⟨a0,a1,a2,a3⟩<;>rcases c1 with⟨b0,b1,b2,b3⟩|⟨b0,b1,b2,b3⟩
   ·omega
   ·rw[a0] at b0;cases b0
   ·rw[a0] at b0;cases b0
   ·omega
  rcases this with z|z
  ·exact zbg _ (j1 b b0 b1 z)
  ·exact zap _ (j2 b b0 b1 z)
 ·have f1:=rf.mono t (t+1) ⋯
  have g1:=rg.mono t (t+1) ⋯
  have c0:=jn_cases late (f t) (g t)
  have c1:=jn_cases late (f (t+1)) (g (t+1))
  dsimp only at e ⊢
  have:(f t=f (t+1)/\jn late (f t) (g t)=f t)\/(g t=g (t+1)/\jn late (f t) (g t)=g t):=by
   rcases c0 with⟨a0,a1,a2,a3⟩|⟨a0,a1,a2,a3⟩<;>rcases c1 with⟨b0,b1,b2,b3⟩|⟨b0,b1,b2,b3⟩
   ·omega
   ·rw[a0] at b0;cases b0
   ·rw[a0] at b0;cases b0
   ·omega
  rcases this with⟨z,w⟩|⟨z,w⟩
  ·rw[w];exact zbg _ (v1 t t0 t1 z)
  ·rw[w];exact zap _ (v2 t t0 t1 z)
theorem Rise.at_mod(rg:Rise d g)(x:Int):g (x%d)=g x-d*(x/d)/\g (x%d+1)=g (x+1)-d*(x/d):=by
 have ed:=zcv x d
 have p0:=rg.mul (x%d) (x/d)
 have p1:=rg.mul (x%d+1) (x/d)
 rw[ed] at p0
 rw[show x%d+1+d*(x/d)=x+1 by omega] at p1
 omega
theorem qoh9{x k:Int}:(x-d*k)%d=x%d:=by
 rw[Int.sub_eq_add_neg,<- zgu,Int.add_mul_emod_self_left]
theorem mu_comp(hd:0<d)(rf:Rise d f)(rg:Rise d g)(M1:Mu d f m1)(M2:Mu d g m2):Mu d (λ x=>g (f x)) (m1+m2):=by
 obtain⟨J1,V1,h1,j1,v1⟩:=M1
 obtain⟨J2,V2,h2,j2,v2⟩:=M2
 classical
 let back:Int->Int:=λ x=>if h:∃b,0<=b/\b<d/\f b%d=x/\f b<f (b+1) then h.choose else 0
 have hback:∀b,0<=b->b<d->f b<f (b+1)->back (f b%d)=b:=λ b b0 b1 l=>by
  have ex:∃c,0<=c/\c<d/\f c%d=f b%d/\f c<f (c+1):=⟨b,b0,b1,rfl,l⟩
  simp only[back]
  rw[dif_pos ex]
  obtain⟨c0,c1,c2,c3⟩:=ex.choose_spec
  generalize ex.choose=c at *
  rcases(by omega:c<b\/c=b\/b<c) with z|z|z
  ·have n1:=rf.mono (c+1) b ⋯
   have n2:=rf.mono (b+1) (c+d) ⋯
   have n3:=rf.mul c 1
   rw[zdr] at n3
   exact absurd c2 (mod_ne ⋯ ⋯)
  ·exact z
  ·have n1:=rf.mono (b+1) c ⋯
   have n2:=rf.mono (c+1) (b+d) ⋯
   have n3:=rf.mul b 1
   rw[zdr] at n3
   exact absurd c2.symm (mod_ne ⋯ ⋯)
 refine⟨J1++J2.map back,V1.map (λ u=>g u%d)++V2,by simp only[zal,zah];omega,λ b b0 b1 e=>?_,λ t t0 t1 e=>?_⟩
 ·dsimp only at e
  have fm:=rf.mono b (b+1) ⋯
  rcases(by omega:f b+2<=f (b+1)\/f (b+1)=f b+1\/f (b+1)=f b) with z|z|z
  ·exact zbg _ (j1 b b0 b1 z)
  ·refine zap _ (zbi.mpr ⟨f b%d,?_,hback b b0 b1 ⋯⟩)
   have p:=rg.at_mod (f b)
   rw[z] at e
   exact j2 _ (zcg _ ⋯) (zbw _ hd) ⋯
  ·rw[z] at e
   omega
 ·dsimp only at e ⊢
  have fm:=rf.mono t (t+1) ⋯
  by_cases z:f t=f (t+1)
  ·refine zbg _ (zbi.mpr ⟨f t%d,v1 t t0 t1 z,?_⟩)
   rw[(rg.at_mod (f t)).1,qoh9]
  ·refine zap _ ?_
   have p:=rg.at_mod (f t)
   have q1:=rg.mono (f t) (f t+1) ⋯
   have q2:=rg.mono (f t+1) (f (t+1)) ⋯
   have:=v2 _ (zcg (f t) ⋯) (zbw (f t) hd) ⋯
   rw[p.1,qoh9] at this
   exact this
theorem mu_of(h:CK d R)(T:Tells d R f):Mu d f (2*R.length):=by
 have C:=h.can T
 have hd:=h.d0
 have rf:=h.rise T
 refine⟨R.map (·.2.1),R.map (λ w=>(w.1+w.2.2)%d),by simp only[zah];omega,λ b b0 b1 e=>?_,λ t t0 t1 e=>?_⟩
 ·obtain⟨w,hw,w1,w2⟩:=C.cov b b0 b1 ⋯
  obtain⟨_,_,_,m3⟩:=C.mem w hw
  refine zbi.mpr ⟨w,hw,?_⟩
  rcases(by omega:w.2.1=b\/b+1<=w.2.1) with z|z
  ·exact z
  ·have a1:=(m3 b w1 w2).1
   have a2:=(m3 (b+1) ⋯ z).1
   omega
 ·obtain⟨x,x0,x1,x2,x3⟩:=qop9 hd rf t
  have ne:t≠x:=λ z=>by subst z;omega
  have fx:=rf.mono t (x-1) ⋯
  have fx':=rf.mono (x-1) x ⋯
  have p:=rf.at_mod x
  have pm:=rf.at_mod (x-1)
  obtain⟨w,hw,w1,w2⟩:=C.cov (x%d) (zcg _ ⋯) (zbw _ hd) ⋯
  obtain⟨m0,_,_,m3⟩:=C.mem w hw
  have a1:=(m3 _ w1 w2).1
  refine zbi.mpr ⟨w,hw,?_⟩
  rcases(by omega:w.1=x%d\/w.1<=x%d-1) with z|z
  ·rw[z,<- a1,p.1,qoh9,x2]
  ·have a2:=(m3 (x%d-1) z ⋯).1
   have:=rf.mul (x%d-1) (x/d)
   have ed:=zcv x d
   rw[show x%d-1+d*(x/d)=x-1 by omega] at this
   omega
def MuR(d:Int)(R:List T3)(m:Nat):Prop:=CK d R/\(R≠[]->Mu d (bf d R) m)
theorem Mu.congr(M:Mu d f m)(e:∀t,f t=g t):Mu d g m:=by
 have:f=g:=funext e
 exact this ▸ M
theorem Mu.le{m':Nat}(M:Mu d f m)(l:m<=m'):Mu d f m':=by
 obtain⟨J,V,h,a,b⟩:=M
 exact⟨J,V,⋯,a,b⟩
theorem MuR.len(h:MuR d R m):R.length<=m+1:=by
 by_cases z:R=[]
 ·rw[z];exact zbn _
 ·exact mu_len h.1 (tells_bf z) (h.2 z)
theorem mur_nil(hd:0<d):MuR d [] m:=⟨ck_nil hd,λ z=>absurd rfl z⟩
theorem mur_one{w:T3}(h:CK d [w]):MuR d [w] 2:=⟨h,λ z=>mu_of h (tells_bf z)⟩
theorem MuR.le{d:Int}{R:List T3}{m m':Nat}(h:MuR d R m)(l:m<=m'):MuR d R m':=⟨h.1,λ z=>(h.2 z).le l⟩
theorem MuR.min{d:Int}{R R1 R2:List T3}{m1 m2:Nat}(h:CK d R)(h1:MuR d R1 m1)(h2:MuR d R2 m2)(e:∀t,bt d R t=omin (bt d R1 t) (bt d R2 t)):MuR d R (m1+m2):=by
 by_cases z1:R1=[]
 ·subst z1
  have:R=R2:=h.uniq h2.1 λ t=>by rw[e t,bt_nil];cases bt d R2 t<;>rfl
  rw[this]
  exact h2.le ⋯
 by_cases z2:R2=[]
 ·subst z2
  have:R=R1:=h.uniq h1.1 λ t=>by rw[e t,bt_nil];cases bt d R1 t<;>rfl
  rw[this]
  exact h1.le ⋯
 refine⟨h,λ z=>(mu_jn (late:=false) (h1.1.rise (tells_bf (d:=d) z1)) (h2.1.rise (tells_bf (d:=d) z2)) (h1.2 z1) (h2.2 z2)).congr λ t=>?_⟩
 have a:=tells_bf (d:=d) z t
 rw[e t,(tells_bf (d:=d) z1).min (tells_bf (d:=d) z2) t] at a
 exact Option.some.inj a
theorem MuR.max{d:Int}{R R1 R2:List T3}{m1 m2:Nat}(h:CK d R)(h1:MuR d R1 m1)(h2:MuR d R2 m2)(e:∀t,bt d R t=omax (bt d R1 t) (bt d R2 t)):MuR d R (m1+m2):=by
 by_cases z1:R1=[]
 ·subst z1
  have:R=[]:=h.uniq (ck_nil h.d0) λ t=>by rw[e t,bt_nil];cases bt d R2 t<;>rfl
  rw[this]
  exact mur_nil h.d0
 by_cases z2:R2=[]
 ·subst z2
  have:R=[]:=h.uniq (ck_nil h.d0) λ t=>by rw[e t,bt_nil];cases bt d R1 t<;>rfl
  rw[this]
  exact mur_nil h.d0
 refine⟨h,λ z=>(mu_jn (late:=true) (h1.1.rise (tells_bf (d:=d) z1)) (h2.1.rise (tells_bf (d:=d) z2)) (h1.2 z1) (h2.2 z2)).congr λ t=>?_⟩
 have a:=tells_bf (d:=d) z t
 rw[e t,(tells_bf (d:=d) z1).max (tells_bf (d:=d) z2) t] at a
 exact Option.some.inj a
theorem MuR.bind{R1 R2:List T3}(h:CK d R)(h1:MuR d R1 m1)(h2:MuR d R2 m2)(e:∀t,bt d R t=obind (bt d R1) (bt d R2) t):MuR d R (m1+m2):=by
 by_cases z1:R1=[]
 ·subst z1
  have:R=[]:=h.uniq (ck_nil h.d0) λ t=>by rw[e t];rfl
  rw[this]
  exact mur_nil h.d0
 by_cases z2:R2=[]
 ·subst z2
  have:R=[]:=h.uniq (ck_nil h.d0) λ t=>by rw[e t];unfold obind;cases bt d R1 t<;>rfl
  rw[this]
  exact mur_nil h.d0
 refine⟨h,λ z=>(mu_comp h.d0 (h1.1.rise (tells_bf (d:=d) z1)) (h2.1.rise (tells_bf (d:=d) z2)) (h1.2 z1) (h2.2 z2)).congr λ t=>?_⟩
 have a:=tells_bf (d:=d) z t
 rw[e t] at a
 unfold obind at a
 rw[tells_bf (d:=d) z1 t] at a
 exact Option.some.inj ((tells_bf (d:=d) z2 _).symm.trans a)
end Ma
namespace L2
open PySem PySem.Spec PyProof.Rows
variable {X:Cx}{ps:List Str}
theorem qhl9{h base base':Heap}(k:∀b o,base.get? b=some o->base'.get? b=some o):∀{l:List Env},h.FunFrames base' l->h.FunFrames base l
 | [],_=>trivial
 |env::rest,⟨hk,⟨L,o,hf,hn,ho,hd⟩,hr⟩=>⟨hk,⟨L,o,hf,(by
   cases e:base.get? L with
   |none=>rfl
   |some x =>
    rw[k L x e] at hn
    cases hn),ho,hd⟩,qhl9 k hr⟩
theorem FnOk.widen{P:Program}{w:World}{K:W.Frag}{mg:Str->Option Value}{base base':Heap}{CX:CXT}{k:Nat}{f:Addr}{fd:FuncData}{sp:Sp}(F:FnOk P w K mg base CX k f fd ps sp)(m:Mod K mg base)(hk:∀b o,base.get? b=some o->base'.get? b=some o)(hz:base.objs.size<=base'.objs.size) :
  FnOk P w K mg base' CX k f fd ps sp:=⟨F.len,λ A outer s H args us vs Q E hr e0 hb r hsp=>F.run A outer s H args us vs Q E hr ⟨e0.frames,m,λ b o e=>e0.bs b o (hk b o e),zbe hz e0.bsz,qhl9 hk e0.funs,e0.frf,e0.hok,e0.bare⟩ hb r hsp⟩
theorem Callee.widen{P:Program}{w:World}{K:W.Frag}{mg:Str->Option Value}{base base':Heap}{k:Nat}{x:Str}{ps:List Str}{sp:Sp}(C:Callee P w K mg base k x ps sp)(m:Mod K mg base)(hk:∀b o,base.get? b=some o->base'.get? b=some o)(hz:base.objs.size<=base'.objs.size) :
  Callee P w K mg base' k x ps sp:=by
 obtain⟨f,fd,G,b,kp,m'⟩:=C.ex
 exact⟨f,fd,G.widen m hk hz,b,kp,m'⟩
inductive tLam4(i1 i2:Nat)(P:Addr)(pos:Pos)(qual:Str)(te1 te2 te3:TE)(spG:V->V->Addr->Addr->Sp)(σ:St)(H:Hp)(Q:VK):Prop
 |mk (v1:_) (v2:_):σ[i1]?=some (some v1)->σ[i2]?=some (some v2)->(te1 σ H λ w1 H1=>te2 σ H1 λ w2 H2=>te3 σ H2 λ w3 H3=>TabOk H3 P pos qual/\∀fl c' H4,SameT P H3 H4->TabOk H4 P pos qual->H4 c'=some (.ext (CodeQ c' qual))->spG v1 v2 fl c' [w1,w2,w3,.ref fl] H4 Q E0)->tLam4 i1 i2 P pos qual te1 te2 te3 spG σ H Q
section
variable {k:Nat}{x y1 y2:Str}{g c P cy1 cy2:Addr}{gd:FuncData}{ps2 N:List Str}{spG:V->V->Addr->Addr->Sp}{e1 e2 e3 body:Expr}{te1 te2 te3:TE}{params:Arguments}{sc:Scope}{lpos p pos:Pos}{clos:List (Str×Addr)}
theorem qhr9(i1 i2:Nat)(hr:Room k X.A)(hg:Gl X x)(hm:X.mg x=some (.ref g))(hk:W.keepIn X.K (.ref g)=true)(hbG:Binds X.K gd ps2 [])(hl2:ps2.length=4)(hcode:X.env.code=.ref c)(hC:W.CodeHd X.base c P)(hB:BMain X.mg X.base)
  (hcl:closureFor sc X.env=pure clos)
  (hN1:X.N[i1]?=some y1) (hky1:X.env.kindOf y1=some .cell) (hvy1:Vis X.env.scope y1) (hcy1:X.env.cells.lookup y1=some cy1) (hfy1:X.fn y1=true) (hcly1:clos.lookup y1=some cy1)
  (hN2:X.N[i2]?=some y2) (hky2:X.env.kindOf y2=some .cell) (hvy2:Vis X.env.scope y2) (hcy2:X.env.cells.lookup y2=some cy2) (hfy2:X.fn y2=true) (hcly2:clos.lookup y2=some cy2)
  (honly:∀z d,clos.lookup z=some d->(z=y1/\d=cy1)\/(z=y2/\d=cy2)) (hNp:N=ps++[y1,y2]) (hsy1:sc.names.lookup y1=some .free) (hsy2:sc.names.lookup y2=some .free)
  (h1:PE X e1 te1) (h2:PE X e2 te2) (h3:PE X e3 te3)
  (G:∀(base':Heap)(fl c':Addr)(v1 v2:V)(pm ctv:Value),Mod X.K X.mg X.base->(∀b o,X.base.get? b=some o->base'.get? b=some o)->X.base.objs.size<=base'.objs.size->base'.get? fl=some (W.kla_obj "<lambda>" (X.env.qual++"<lambda>") params body sc clos pm c' ctv)->qim9 base' sc clos N ps [v1,v2]->FnOk X.prog X.w X.K X.mg base' CX0 k g gd ps2 (spG v1 v2 fl c'))
  (hdb:(x==("__debug__":Str))=false:=by decide) (hdef:defaultsOf params X.env=([],[]):=by rfl)
  (he:starEach [e1,e2,e3,.Lambda params body sc lpos] X.env=(false,eval e1 X.env)::starEach [e2,e3,.Lambda params body sc lpos] X.env:=by rfl) (he2:starEach [e2,e3,.Lambda params body sc lpos] X.env=(false,eval e2 X.env)::starEach [e3,.Lambda params body sc lpos] X.env:=by rfl)
  (he3:starEach [e3,.Lambda params body sc lpos] X.env=(false,eval e3 X.env)::starEach [.Lambda params body sc lpos] X.env:=by rfl) (he4:starEach [.Lambda params body sc lpos] X.env=(false,eval (.Lambda params body sc lpos) X.env)::starEach [] X.env:=by rfl)
  (hpl:(backTo pos (starEach [e2,e3,.Lambda params body sc lpos] X.env)).any (·.1)=false:=by rfl) :
  PE X (.Call (.Name x p) [e1,e2,e3,.Lambda params body sc lpos] [] pos) (tLam4 i1 i2 P lpos (X.env.qual++"<lambda>") te1 te2 te3 spG):=by
 intro pins s σ H Q I h
 obtain⟨v1,v2,hv1,hv2,h⟩:=h
 refine wpAny_Call_Name_kw (qhq9 I hg hm ?_ hdb)
 refine W.callWith_K (h₀:=X.base) I.ok.mod.kin hk ?_ he hpl
 rw[he]
 show wpAny _ _ (spliced ((false,eval e1 X.env)::backTo pos (starEach [e2,e3,.Lambda params body sc lpos] X.env))) _ _ s
 refine Calls.spliced_cons (thn (h1 pins s σ H _ I h) λ u1 sa z9=>?_)
 obtain⟨w1,Ha,Ia,r1,ha⟩ := z9
 rw[he2]
 show wpAny _ _ (spliced ((false,eval e2 X.env)::backTo pos (starEach [e3,.Lambda params body sc lpos] X.env))) _ _ sa
 refine Calls.spliced_cons (thn (h2 pins sa σ Ha _ Ia ha) λ u2 sb z9=>?_)
 obtain⟨w2,Hb,Ib,r2,hb⟩ := z9
 rw[he3]
 show wpAny _ _ (spliced ((false,eval e3 X.env)::backTo pos (starEach [.Lambda params body sc lpos] X.env))) _ _ sb
 refine Calls.spliced_cons (thn (h3 pins sb σ Hb _ Ib hb) λ u3 s1 z9=>?_)
 obtain⟨w3,H1,I1,r3,tab,q1⟩ := z9
 rw[he4]
 show wpAny _ _ (spliced ((false,eval (.Lambda params body sc lpos) X.env)::backTo pos (starEach [] X.env))) _ _ s1
 refine Calls.spliced_cons (W.kla_eval hdef ?_)
 have cellAt:∀{i:Nat}{y:Str}{cy:Addr}{v:V},X.N[i]?=some y->X.env.kindOf y=some .cell->Vis X.env.scope y->X.env.cells.lookup y=some cy->σ[i]?=some (some v)->∀{H2:Hp}{s2:Shared},Inv X pins σ H2 s2->∃u,RelV v u/\s2.heap.IsCell cy (some u):=λ {i y cy v} hN hky hvy hcy hv {H2 s2} J=>by
  obtain⟨m,_,hl⟩:=J.loc
  obtain⟨u,ru,lk⟩:=hl i y v hN hv hvy
  rcases lk with⟨z,_⟩|⟨_,d,e',q⟩
  ·rw[hky] at z;cases z
  ·rw[hcy] at e'
   cases e'
   exact⟨u,ru,q⟩
 have fin:∀(fl c':Addr)(pm ctv:Value)(H2:Hp)(s2:Shared),Inv X pins σ H2 s2->SameT P H1 H2->TabOk H2 P lpos (X.env.qual++"<lambda>")->H2 c'=some (.ext (CodeQ c' (X.env.qual++"<lambda>"))) ->
   s2.heap.get? fl=some (W.kla_obj "<lambda>" (X.env.qual++"<lambda>") params body sc clos pm c' ctv)->H2 fl=none->fl∉frs X.stack ->
   wpAny (model X.prog X.w) X.A (spliced (backTo pos (starEach [] X.env))) (λ vs s3=>X.K.In s3.heap/\wpAny (model X.prog X.w) X.A (call (.ref g) ([]++(u1::u2::u3 :: .ref fl::vs))) (EP X pins σ Q) X.xe s3) X.xe s2:=by
  intro fl c' pm ctv H2 s2 I2 sm tb hc' hfl nfl nfs
  refine Calls.spliced_nil ⟨I2.kIn,?_⟩
  have hb1:=qfi9 (X:=X) hfl nfl nfs
  have nc:∀{y:Str}{cy:Addr},X.env.cells.lookup y=some cy->X.fn y=true->cy∉frs X.stack:=λ {y cy} hcy hfy z=>by
   rcases zae.mp (I2.stkSub cy z) with e|e
   ·exact I2.cne y cy hcy e
   ·have lo:=I2.ok.cab y cy hfy hcy
    obtain⟨_,o,eo,_⟩:=I2.ok.funs.mem e
    exact absurd (zat (zaq eo) lo) (zcc _)
  obtain⟨ua,ra,oa,qa1,qa2⟩:=cellAt hN1 hky1 hvy1 hcy1 hv1 I2
  obtain⟨ub,rb,ob,qb1,qb2⟩:=cellAt hN2 hky2 hvy2 hcy2 hv2 I2
  have hba:=qfi9 (X:=X) qa1 (I2.freeC y1 cy1 hcy1) (nc hcy1 hfy1)
  have hbb:=qfi9 (X:=X) qb1 (I2.freeC y2 cy2 hcy2) (nc hcy2 hfy2)
  have ca:qim9 (fixed X H2 s2.heap) sc clos N ps [v1,v2]:=by
   refine⟨by rw[hNp,zal];rfl,λ z d e=>?_,λ j z v' e1 e2=>?_⟩
   ·rcases honly z d e with⟨rfl,rfl⟩|⟨rfl,rfl⟩
    ·exact⟨some ua,oa,hba,qa2⟩
    ·exact⟨some ub,ob,hbb,qb2⟩
   ·rw[hNp,zan (Nat.le_add_right _ _),Nat.add_sub_cancel_left] at e1
    match j,e1,e2 with
    |0,e1,e2 =>
     cases e1
     cases e2
     exact⟨hsy1,cy1,ua,hcly1,⟨oa,hba,qa2⟩,ra⟩
    |1,e1,e2 =>
     cases e1
     cases e2
     exact⟨hsy2,cy2,ub,hcly2,⟨ob,hbb,qb2⟩,rb⟩
    |j+2,e1,e2=>cases e2
  have F:=G _ fl c' v1 v2 pm ctv I2.ok.mod I2.base_fixed (zbe I2.env0.bsz (zfs (W.hideAll_size _ _).symm)) hb1 ca
  have hsp:=q1 fl c' H2 sm tb hc'
  have bnd:BindsTo s2 gd ⟨[u1,u2,u3,.ref fl],[]⟩ (ps2.zip [u1,u2,u3,.ref fl]):=by
   have:=hbG s2 [u1,u2,u3,.ref fl] I2.kIn (by rw[hl2];rfl)
   simpa using this
  refine wpAny_call (codeAny_mono (F.run X.A X.stack s2 H2 ⟨[u1,u2,u3,.ref fl],[]⟩ [u1,u2,u3,.ref fl] [w1,w2,w3,.ref fl] Q E0 hr I2.env_fixed bnd (.cons r1 (.cons r2 (.cons r3 (.cons rfl .nil)))) hsp) λ r s' hq=>?_)
  cases r with
  |error e=>exact False.elim hq
  |ok fl' =>
   cases fl' with
   |ret u=>exact I2.after hq
   |next=>exact False.elim hq
   |brk=>exact False.elim hq
   |cont=>exact False.elim hq
 obtain⟨bm,ob,b1,b2,b3,b4,b5,b6⟩:=hB
 obtain⟨ps0,hP,ht,hor⟩:=tab
 have hPo:s1.heap.get? P=some (W.tabObj ps0):=I1.hok P _ hP
 have notP:∀b o,X.base.get? b=some o->b≠P:=λ b o e z=>by
  have:=(I1.bs b o e).2
  rw[z,hP] at this
  cases this
 obtain⟨og,esg,epg,eg,dg,rg⟩:=I1.mod.glob
 have hbA:s1.heap.BuiltinsAt X.mg P:=⟨bm,ob,b1,b2,(λ z=>by rw[z,eg] at b3;cases b3;rw[b6] at dg;cases dg),notP _ _ b3,I1.bk _ _ b3,b4,b5,b6⟩
 have gl:s1.heap.Ns mainGlobals X.mg:=I1.mod.glob.keeps I1.bk
 rcases hor with hnf|⟨c',hf,hc'⟩
 ·refine W.kla_makeFunction (mg:=X.mg) hcl I1.ok.glob gl hcode (hC.keeps I1.bk) hPo ht hnf (notP _ _ eg) hbA λ c' ctv h' tk hx hge hlt hrec htb=>?_
  have ltP:P<s1.heap.objs.size:=zaq hPo
  have neP:P≠c':=zaz (zat ltP hge)
  have nc':H1 c'=none:=I1.hok.fresh hge
  have old:∀b o,b≠P->s1.heap.get? b=some o->(h'.push (W.kla_obj "<lambda>" (X.env.qual++"<lambda>") params body sc clos ((X.mg "__name__").getD .none) c' ctv)).get? b=some o:=λ b o n e=>zad _ (hx b o n e)
  have kP:∀b o,H1 b=some o->(∀z,o ≠ .tbl z)->b≠P:=λ b o e n z=>by rw[z,hP] at e;exact n ps0 (Option.some.inj e).symm
  have up:∀b o,H1 b=some o->b≠P->upd (upd H1 c' (.ext (CodeQ c' (X.env.qual++"<lambda>")))) P (.tbl (ps0 ++ #[rawInt lpos.line,rawInt lpos.col,.ref c'])) b=some o:=λ b o e n=>by
   rw[qaq9 n,qaq9 (qbc9 e nc')]
   exact e
  have upN:∀b,H1 b=none->b≠c'->upd (upd H1 c' (.ext (CodeQ c' (X.env.qual++"<lambda>")))) P (.tbl (ps0 ++ #[rawInt lpos.line,rawInt lpos.col,.ref c'])) b=none:=λ b e n=>by
   rw[qaq9 (λ z=>by rw[z,hP] at e;cases e),qaq9 n]
   exact e
  have u:Un X.fs [] H1 (upd (upd H1 c' (.ext (CodeQ c' (X.env.qual++"<lambda>")))) P (.tbl (ps0 ++ #[rawInt lpos.line,rawInt lpos.col,.ref c']))) s1.heap (h'.push (W.kla_obj "<lambda>" (X.env.qual++"<lambda>") params body sc clos ((X.mg "__name__").getD .none) c' ctv)):=by
   have nP:∀b,H1 b=none->b≠P:=λ b n z=>by rw[z,hP] at n;cases n
   refine⟨λ b o e n _ _=>old b o (nP b n) e,λ b o e n _ _=>⟨o.slots,old b o (nP b n) e⟩,λ b o e n _=>upN b n (zaz (zat (zaq e) hge)),λ b o e _=>?_,λ b xs e=>up b _ e (kP b _ e λ _ z=>nomatch z),λ b o w e=>up b _ e (kP b _ e λ _ z=>nomatch z),λ b pz e=>?_⟩
   ·by_cases hb:b=P
    ·rw[hb]
     exact⟨_,zad _ htb⟩
    ·exact⟨o,old b o hb e⟩
   ·by_cases hb:b=P
    ·rw[hb] at e ⊢
     rw[hP] at e
     cases e
     exact⟨_,qaf9⟩
    ·exact⟨#[],by rw[up b _ e hb];simp⟩
  have hok:HOk X.prog X.w (upd (upd H1 c' (.ext (CodeQ c' (X.env.qual++"<lambda>")))) P (.tbl (ps0 ++ #[rawInt lpos.line,rawInt lpos.col,.ref c']))) (h'.push (W.kla_obj "<lambda>" (X.env.qual++"<lambda>") params body sc clos ((X.mg "__name__").getD .none) c' ctv)):=by
   intro b o e
   by_cases hb:b=P
   ·rw[hb,qaf9] at e
    cases e
    rw[hb]
    exact zad _ htb
   ·rw[qaq9 hb] at e
    by_cases hb2:b=c'
    ·rw[hb2,qaf9] at e
     cases e
     rw[hb2]
     obtain⟨c2,oc,vs,tq,ee,hoc,rest⟩:=hrec
     cases ee
     refine⟨⟨_,oc,vs,tq,rfl,zad _ hoc,rest⟩,⟨oc,zad _ hoc⟩,λ h1 h2 hq hk=>?_⟩
     obtain⟨c3,o3,v3,t3,e3,g3,r3⟩:=hq
     cases e3
     exact⟨_,o3,v3,t3,rfl,hk _ g3,r3⟩
    ·rw[qaq9 hb2] at e
     refine(I1.hok b o e).stay (λ d z hd q=>old d z ?_ q) (λ d q=>up d _ q (kP d _ q λ _ z=>nomatch z)) λ d xs q=>up d _ q (kP d _ q λ _ z=>nomatch z)
     rcases hd with hd|hd
     ·rw[hd];exact hb
     ·exact kP d _ hd λ _ z=>nomatch z
  have I2:=I1.un (t':=tk) u hok
  refine fin h'.objs.size c' _ ctv _ _ I2 (λ b o e n=>up b o e n) ⟨_,qaf9,?_,.inr ⟨c',?_,?_⟩⟩ ?_ (zbb _ rfl) ?_ ?_
  ·have:=TriplesOk_snoc lpos.line lpos.col (.ref c') ps0.toList ht
   simpa using this
  ·have:=codeAmong_snoc (pos:=lpos) (c:=.ref c') ps0.toList ht hnf
   simpa using this
  ·rw[qaq9 neP.symm,qaf9]
  ·rw[qaq9 neP.symm,qaf9]
  ·refine upN _ (I1.hok.fresh (zbe hge (zbu hlt))) (zfn hlt)
  ·exact λ z=>by
    rcases zae.mp (I1.stkSub _ z) with e|e
    ·exact absurd (I1.lt) (by rw[<- e];exact zej.mpr (zbe hge (zbu hlt)))
    ·exact I1.nofs (zbe hge (zbu hlt)) e
 ·refine W.kla_makeFunctionHit (mg:=X.mg) hcl I1.ok.glob gl hcode (hC.keeps I1.bk) hPo ht hf hbA λ ctv h' tk hk hsz=>?_
  have I2:Inv X pins σ H1 { s1 with heap:=h'.push { cls:=.type "function",data:=.func (W.kla_fn "<lambda>" (X.env.qual++"<lambda>") params body sc clos ((X.mg "__name__").getD .none) (.ref c') ctv) },toks:=tk }:=I1.kept (t':=tk) λ b o e=>zad _ (hk b o e)
  refine fin h'.objs.size c' _ ctv H1 _ I2 (λ b o e _=>e) ⟨ps0,hP,ht,.inr ⟨c',hf,hc'⟩⟩ hc' (zbb _ rfl) (I1.hok.fresh hsz) ?_
  exact λ z=>by
   rcases zae.mp (I1.stkSub _ z) with e|e
   ·exact absurd (I1.lt) (by rw[<- e];exact zej.mpr hsz)
   ·exact I1.nofs hsz e
end
theorem qhx9(K:W.Frag)(hK:X.K=K):QCall X (.type "list") (λ xs H Q=>∃p ys,xs=[.ref p]/\(SqL K H p ys\/SqT K H p ys)/\∀l,H l=none->Q (.ref l) (upd H l (.lst ys))):=by
 subst hK
 exact qgv9
theorem qop_rep:QOp X (binaryOp .Mult) rRep:=⟨op_rep⟩
section
variable {e:Expr}{x:Str}{p pos:Pos}{t:TA}{es:List Expr}{k:Nat}{C:Addr}{sp:Sp}{E:XK}
theorem qmu9{c:Expr}{a b:List Stmt}{tc:TT}{ta tb:XK->TS}(hc:QT X.nox c tc)(ha:QSx X a ta)(hb:QSx X b tb):QSx X [.If c a b pos] (λ E=>tIfS tc (ta E) (tb E)):=⟨by
 intro E pins s σ H D I h
 have key:wpAny (model X.prog X.w) X.A (exec (.If c a b pos) X.env) (SP X pins D) (qjk9 X pins σ E) s:=by
  refine wpAny_If (wpAny_mono (hc.run pins s σ H _ (I.wish _) h) (λ d s1 z9=>?_) λ _ _ z=>z.elim)
  obtain⟨H1,I1,q1⟩ := z9
  cases d with
  |true=>exact ha.run E pins s1 σ H1 D I1.unwish q1
  |false=>exact hb.run E pins s1 σ H1 D I1.unwish q1
 refine wpAny_execs_cons (thn key λ f s1 q=>?_)
 cases f with
 |next=>exact wpAny_execs_nil q
 |ret v=>exact q
 |brk=>exact q
 |cont=>exact q⟩
end
end L2
namespace My
open PySem L2
open Ma (T3 T4 rA rB rC)
variable {CF CN CP D P0 b c c' c1 c2 cb cm cn co cp cr cw cx f fl g p r:Addr}{osl:Array (Option Value)}{X:Cx}{fd fdl gd:FuncData}{o:HO}{base:Heap}{H H' H0 H1:Hp}{T:Hp->Prop}{d e goal j q size t z:Int}{S':Int->Prop}{Bs:List (List T3)}{rs:List Addr}{C R R1:List T3}{vs xs ys zs:List V}{bmF us:List Value}{i n:Nat}{an od:Option Addr}{a:Option Int}{pos:Pos}{P:Program}{qual y1 y2:Str}{mg:Str->Option Value}{v v1 v2 x y:V}{ct ctv doc oc pm:Value}{K:W.Frag}{w:World}
theorem sC9{N p:List Str}{s:Scope}(h:FnScope N p s:=by exact⟨rfl,rfl,rfl,by decide +kernel,rfl,by decide +kernel,by decide +kernel⟩):FnScope N p s:=h
theorem qmg9:FnScope ["thing"] ["thing"] (qad9 qdq9):=sC9
theorem qjx9:FnScope ["day","thing"] ["day","thing"] (qad9 qcy9):=sC9
theorem qlz9:FnScope ["day","thing"] ["day","thing"] (qad9 qdm9):=sC9
theorem sc_next_open:FnScope ["day","window","t","hour","midnight"] ["day","window","t"] (qad9 qcz9):=sC9
theorem sc_first_where:FnScope ["clock","holds","low","high","middle"] ["clock","holds"] (qad9 qax9):=sC9
theorem sc_set_off:FnScope ["day","clock","t","hour","number","found","x"] ["day","clock","t"] (qad9 qbr9):=sC9
theorem sc_come:FnScope ["day","clock","t","departure"] ["day","clock","t"] (qad9 qho9):=sC9
theorem qml9:FnScope ["day"] ["day"] (qad9 qdo9):=sC9
theorem qki9:FnScope ["count","thing"] ["count","thing"] (qad9 qcw9):=sC9
theorem qny9:FnScope ["day","size","thing"] ["day","size","thing"] (qad9 qeg9):=sC9
theorem sc_is_net:FnScope ["day","size","roads"] ["day","size","roads"] (qad9 qey9):=sC9
theorem qhy9:FnScope ["day","size","roads"] ["day","size","roads"] (qad9 qcs9):=sC9
theorem qgc9:FnScope ["size","thing"] ["size","thing"] (qad9 qbu9):=sC9
theorem sc_copied:FnScope ["roads"] ["roads"] (qad9 qfc9):=sC9
theorem sc_stretches:FnScope ["day","clock","rows","p","a","b","c"] ["day","clock"] (qad9 qcx9):=sC9
theorem qis9:FnScope ["row"] ["row"] (qad9 qcn9):=sC9
theorem sc_overlay:FnScope ["day","one","other","ones","others","rows","k","j","p","q"] ["day","one","other"] (qad9 qeb9):=sC9
theorem qit9:FnScope ["clock","a","b","c"] ["clock","a","b","c"] (qad9 qct9):=sC9
theorem sc_clock_from:FnScope ["day","rows","clock","k","row","following","q","v"] ["day","rows"] (qad9 qcq9):=sC9
theorem sc_picked:FnScope ["p","q","waiting","riding","late","cut","ahead","then"] ["p","q","waiting","riding","late"] (qad9 qez9):=sC9
theorem sc_joined:FnScope ["day","one","other","late","rows","p","q","still","v","other_still","other_v"] ["day","one","other","late"] (qad9 qfe9):=sC9
theorem sc_sooner:FnScope ["day","one","other"] ["day","one","other"] (qad9 qfb9):=sC9
theorem sc_later:FnScope ["day","one","other"] ["day","one","other"] (qad9 qfw9):=sC9
theorem sc_ridden:FnScope ["day","p","q","ride","others","hour","midnight","k","rows","end"] ["day","p","q","ride","others"] (qad9 qch9):=sC9
theorem sc_behind:FnScope ["day","one","other","others","rows","p","q","still","v"] ["day","one","other"] (qad9 qfj9):=sC9
theorem sc_clock_within:FnScope ["day","board","half"] ["day","board"] (qad9 qbm9):=sC9
theorem qmr9:FnScope ["day","board"] ["day","board"] (qad9 qdn9):=sC9
theorem sc_later_within:FnScope ["row","p","v","other_v","found"] ["row"] (qad9 qby9):=sC9
theorem sc_first_later:FnScope ["day","one","other","row","found"] ["day","one","other"] (qad9 qcg9):=sC9
theorem qmi9:FnScope ["day","roads"] ["day","roads"] (qad9 qdp9):=sC9
theorem qnv9:FnScope ["day","size","place"] ["day","size","place"] (qad9 qec9):=sC9
theorem qhf9:FnScope ["told"] ["told"] (qad9 qbw9):=sC9
theorem sc_grown:FnScope ["day","size","place","step","found"] ["day","size","place","step"] (qad9 qdu9):=sC9
theorem sc_ride_first:FnScope ["day","fords","told","found","start","end","ford"] ["day","fords","told"] (qad9 qcp9):=sC9
theorem sc_ride_last:FnScope ["day","fords","told","found","start","end","ford"] ["day","fords","told"] (qad9 qdc9):=sC9
theorem sc_rounds_to:FnScope ["day","size","roads","goal","fords"] ["day","size","roads","goal"] (qad9 qbg9):=sC9
theorem qlg9:FnScope ["day","size","roads","goal"] ["day","size","roads","goal"] (qad9 qdx9):=sC9
theorem qpv9:FnScope ["day","size","roads","goal"] ["day","size","roads","goal"] (qad9 qeu9):=sC9
theorem sc_table_from:FnScope ["day","size","roads","start","fords"] ["day","size","roads","start"] (qad9 qaz9):=sC9
theorem qgq9:FnScope ["size","thing"] ["size","thing"] (qad9 qca9):=sC9
theorem qgg9:FnScope ["size","thing"] ["size","thing"] (qad9 qbs9):=sC9
theorem sc_tables_by_start:FnScope ["day","size","roads","party","found","start","delay"] ["day","size","roads","party"] (qad9 qay9):=sC9
theorem sc_meeting_there:FnScope ["day","party","tables","place","found","start","delay"] ["day","party","tables","place"] (qad9 qbp9):=sC9
theorem sc_meeting:FnScope ["day","size","roads","party","tables","found","place"] ["day","size","roads","party"] (qad9 qdk9):=sC9
theorem sc_meet_at:FnScope ["day","size","roads","party","t","tables","found","place","comings"] ["day","size","roads","party","t"] (qad9 qdg9):=sC9
theorem sc_without:FnScope ["roads","number","window","left"] ["roads","number","window"] (qad9 qef9):=sC9
theorem sc_thinned:FnScope ["day","size","roads","goal","whole","left","number","window","fewer"] ["day","size","roads","goal"] (qad9 qdh9):=sC9
theorem sc_later_place:FnScope ["day","one","other","place","clock","t"] ["day","one","other"] (qad9 qce9):=sC9
theorem sc_needs:FnScope ["day","size","roads","goal","left","whole","found","number","road","window","fewer"] ["day","size","roads","goal"] (qad9 qew9):=sC9
theorem qhh9:FnScope ["script","k"] ["script","k"] (qad9 qbx9):=sC9
theorem qnb9:FnScope ["cell"] ["cell"] (qad9 qdl9):=sC9
theorem qkd9:FnScope ["cell","room"] ["cell","room"] (qad9 qda9):=sC9
theorem qks9:FnScope ["cell","day"] ["cell","day"] (qad9 qdd9):=sC9
theorem sc__law_roads:FnScope ["script","day","size","goal","most","many","boards","k","a","b","at","roads","cell","here","there"] ["script","day","size","goal","most"] (qad9 qco9):=sC9
theorem sc__law_party:FnScope ["script","day","size","party","k","cell","rest"] ["script","day","size"] (qad9 qcr9):=sC9
theorem qjm9:FnScope ["e"] ["e"] (qad9 qcm9):=sC9
theorem sc__law_refused:FnScope ["way","day","size","roads","last","found","e"] ["way","day","size","roads","last"] (qad9 qbh9):=sC9
theorem qgo9:FnScope ["cell"] ["cell"] (qad9 qbn9):=sC9
theorem sc__law_odd_roads:FnScope ["cell","day","size","window","odd","good"] ["cell","day","size"] (qad9 qbk9):=sC9
theorem sc__law_odd_party:FnScope ["cell","size","party","member","some","at"] ["cell","size","party"] (qad9 qbl9):=sC9
theorem qhc9:FnScope ["cell","size"] ["cell","size"] (qad9 qbo9):=sC9
theorem sc_law:FnScope ["script","day","size","roads","party","cell","bent","way","last","due"] ["script"] (qad9 qhd9):=sC9
theorem qal9{G:Hp->Prop}(h:H p=none)(k:∀H1,Same H H1->H1 p=some o->G H1):∀H1,upd H p o=H1->G H1:=λ _ e=>e ▸ k _ (qnu9 h rfl).1 (qnu9 h rfl).2
theorem bl_1(h:us.length=1):∃a0:Value,us=[a0]:=match us,h with | [_],_=>⟨_,rfl⟩
theorem bl_2(h:us.length=2):∃a0 a1:Value,us=[a0,a1]:=by
 cases us with
 |nil=>cases h
 |cons _ t =>
  obtain⟨_,rfl⟩:=bl_1 (us:=t) (Nat.succ.inj h)
  exact⟨_,_,rfl⟩
theorem bl_3(h:us.length=3):∃a0 a1 a2:Value,us=[a0,a1,a2]:=by
 cases us with
 |nil=>cases h
 |cons _ t =>
  obtain⟨_,_,rfl⟩:=bl_2 (us:=t) (Nat.succ.inj h)
  exact⟨_,_,_,rfl⟩
theorem bl_4(h:us.length=4):∃a0 a1 a2 a3:Value,us=[a0,a1,a2,a3]:=by
 cases us with
 |nil=>cases h
 |cons _ t =>
  obtain⟨_,_,_,rfl⟩:=bl_3 (us:=t) (Nat.succ.inj h)
  exact⟨_,_,_,_,rfl⟩
theorem bl_5(h:us.length=5):∃a0 a1 a2 a3 a4:Value,us=[a0,a1,a2,a3,a4]:=by
 cases us with
 |nil=>cases h
 |cons _ t =>
  obtain⟨_,_,_,_,rfl⟩:=bl_4 (us:=t) (Nat.succ.inj h)
  exact⟨_,_,_,_,_,rfl⟩
inductive spLaw(K:W.Frag)(tabs:List (Addr×Addr))(vs:List V)(H:Hp)(Q:VK)(z3q:XK):Prop
 |mk (a:Addr) (ns:List Int):vs=[.ref a]->SqL K H a (ns.map V.int)->ns.length<=63->((∀t∈tabs,H t.2=some (.tbl #[])))->(∀H',Q (.bl true) H')->spLaw K tabs vs H Q z3q
theorem qdj9(x:Int){m:Int}(h:0<m):0<=x%m/\x%m<m:=⟨zcg x ⋯,zbw x h⟩
structure Bl(mg:Str->Option Value):Prop where
 len:mg "len"=none
 max:mg "max"=none
 min:mg "min"=none
 all:mg "all"=none
 any:mg "any"=none
 range:mg "range"=none
 enumerate:mg "enumerate"=none
 isinstance:mg "isinstance"=none
 bool_:mg "bool"=none
 int_:mg "int"=none
 tuple_:mg "tuple"=none
 list_:mg "list"=none
theorem qlx9(F:Fun K "is_whole" "is_whole" qdq9 f fd)(B:Bl mg):FnOk P w K mg base CX0 (n+1) f fd ["thing"] spIsWhole:=by
 refine F.okQ qmg9 (λ vs H Q E h=>?_) (λ cdv A outer s H vs Q E hr h=>?_)
 ·obtain⟨_,rfl,_⟩:=h
  rfl
 obtain⟨x,rfl,dv,q⟩:=h
 refine⟨_,(qae9 (qao9 (qie9 (qe_cb qde9 rfl B.isinstance qak9 (qa_c (qv 0) (qa_c (qfk9 (v:=.ty "int") rfl B.int_ bt_int rfl) qaa9))) (qiz9 (qe_not (qe_cb qde9 rfl B.isinstance qak9 (qa_c (qv 0) (qa_c (qfk9 (v:=.ty "bool") rfl B.bool_ bt_bool rfl) qaa9)))))))),?_⟩
 walk_at "d"
 cases dv with
 |non=>exact⟨_,rfl,_,"int",_,_,rfl,.non,rfl,_,rfl,iteF q⟩
 |bl b=>exact⟨_,rfl,_,"int",_,_,rfl,.bl _,rfl,_,rfl,iteT ⟨_,rfl,_,"bool",_,_,rfl,.bl _,rfl,_,rfl,q⟩⟩
 |int i=>exact⟨_,rfl,_,"int",_,_,rfl,.int _,rfl,_,rfl,iteT ⟨_,rfl,_,"bool",_,_,rfl,.int _,rfl,_,rfl,q⟩⟩
 |str z=>exact⟨_,rfl,_,"int",_,_,rfl,.str _,rfl,_,rfl,iteF q⟩
 |lst e=>exact⟨_,rfl,_,"int",_,_,rfl,.lst e,rfl,_,rfl,iteF q⟩
 |tup e=>exact⟨_,rfl,_,"int",_,_,rfl,.tup e,rfl,_,rfl,iteF q⟩
theorem qkm9(F:Fun K "is_window" "is_window" qcy9 f fd)(B:Bl mg)(Cd0:Callee P w K mg base n "is_whole" ["thing"] spIsWhole):FnOk P w K mg base CX0 (n+1) f fd ["day","thing"] spWindow:=by
 refine F.okQ qjx9 (λ vs H Q E h=>?_) (λ cdv A outer s H vs Q E hr h=>?_)
 ·obtain⟨_,_,rfl,_⟩:=h
  rfl
 obtain⟨day,x,rfl,dv,q⟩:=h
 refine⟨_,(qab9 (qs_if (QW.pt (qw_or (qea9 (qcb9 (qe_cb qde9 rfl B.isinstance qak9 (qa_c (qv 1) (qa_c (qfk9 (v:=.ty "tuple") rfl B.tuple_ qft9 rfl) qaa9))))) (qer9 (qam9 qop_ne (qe_cb qap9 rfl B.len qcc9 (qa_c (qv 1) qaa9)) qac9 (qau9 _))))) (qae9 (qao9 qe_bl)) qat9) (qab9 (qs_if (qea9 (qcb9 (qe_cb (qfa9 rfl) rfl B.all qmd9 (qa_c (qej9 ["part"] [none] (BlkOk.of rfl rfl (SubL.to subN) rfl) rfl (qi_tup (qv 1)) (λ _ _ _ _=>(qar9 (i:=0) (show(["part"]:List Str).Nodup by decide) rfl (zai rfl))) (λ _ _ _ _=>(qe_fn Cd0 hr rfl (qa_c (qv 0) qaa9)))) qaa9)))) (qae9 (qao9 qe_bl)) qat9) (qae9 (qao9 (qie9 (qe_chain3 qhe9 qhe9 qel9 qac9 (qe_ix qas9 (qv 1) qac9 (λ _ _=>rfl)) (qe_ix qas9 (qv 1) qac9 (λ _ _=>rfl)) (qv 0)) (qiz9 (qja9 qop_ge (qe_ix qas9 (qv 1) qac9 (λ _ _=>rfl)) qac9 (qau9 _)))))))),?_⟩
 walk_at "d"
 obtain⟨t,hty,hk⟩:=dv.1.isTup (K:=K)
 have q0:winV H day x=false->∀H',Same H H'->Q (.bl false) H':=λ e H' s=>by
  have:=q H' s
  rw[e] at this
  exact this
 cases ht:tupV H x with
 |none =>
  rw[ht] at hk
  have hw:winV H day x=false:=by unfold winV;rw[ht]
  exact⟨_,rfl,_,"tuple",t,_,rfl,hty,hk,_,rfl,iteT (iteT (q0 hw _ (Same.refl H)))⟩
 |some xs =>
  rw[ht] at hk
  have hwl:winV H day x=winL day xs:=by unfold winV;rw[ht]
  have dz:=dv.2 xs ht
  obtain⟨r,rfl,er⟩:=qhw9 ht
  refine⟨_,rfl,_,"tuple",t,_,rfl,hty,hk,_,rfl,iteF ?_⟩
  refine⟨_,rfl,r,xs,rfl,.inr (SqT.of er),rfl,_,rfl,?_⟩
  by_cases hl:xs.length=3
  ·obtain⟨u,v,w',rfl⟩:=three hl
   refine iteN (by simp) ?_
   refine⟨_,rfl,r,rfl,⟨_,SqT.of er⟩,?_⟩
   refine comp_tup0 (K:=K) (a:=r) (xs:=[u,v,w']) (λ D i H'=>Same H H'/\H' D=some (.lst ((([u,v,w']:List V).take i).map λ y=>V.bl (isWh y)))) (λ D hD=>⟨qan9 hD _,qaf9⟩) (λ D i H' _ _ h=>SqT.of (h.1 _ _ er)) ?_ ?_
   ·intro D i y H' hD hi z9;obtain⟨s2,hD2⟩ := z9
    refine⟨λ k v' e=>?_,_,rfl,y,rfl,(dz y (zac hi)).same s2,_,hD2,(by rw[zah,zbf];exact qgl9 (by simp;omega)),λ b o eb=>?_,?_⟩
    ·match k,e with
     |0,e=>cases e
     |k+1,e=>cases e
    ·rw[qaq9 (qbc9 eb hD)]
     exact s2 _ _ eb
    ·rw[qaf9,qei9 _ hi]
   ·intro D H' hD z9;obtain⟨s2,hD2⟩ := z9
    have eD:H' D=some (.lst (([isWh u,isWh v,isWh w']:List Bool).map V.bl)):=hD2
    refine⟨D,_,rfl,SqL.of eD,_,rfl,?_⟩
    refine ite2 (λ c=>?_) (λ c=>?_)
    ·refine q0 ?_ H' s2
     rw[hwl]
     have c':(isWh u&&(isWh v&&isWh w'))=false:=by cases hu:isWh u<;>cases hv:isWh v<;>cases hw:isWh w'<;>simp[hu,hv,hw] at c ⊢
     unfold winL
     split
     ·rename_i a b c e
      cases e
      exact absurd c' (by simp[isWh])
     ·rfl
    ·have c':isWh u=true/\isWh v=true/\isWh w'=true:=by simpa using c
     obtain⟨a,rfl⟩:=qgu9 c'.1
     obtain⟨b,rfl⟩:=qgu9 c'.2.1
     obtain⟨c3,rfl⟩:=qgu9 c'.2.2
     have q1:=q H' s2
     rw[hwl] at q1
     have er':=s2 _ _ er
     unfold winL at q1
     dsimp only at q1
     refine⟨_,rfl,r,_,_,_,rfl,rfl,SqT.of er',rfl,_,_,rfl,rfl,_,rfl,?_⟩
     refine ite2 (λ c1=>?_) (λ c1=>?_)
     ·rw[c1,zcp] at q1
      refine⟨_,rfl,r,_,_,_,rfl,rfl,SqT.of er',rfl,_,_,rfl,rfl,_,rfl,?_⟩
      refine ite2 (λ c2=>?_) (λ c2=>?_)
      ·rw[c2,zcp] at q1
       refine⟨_,rfl,_,_,rfl,rfl,_,rfl,?_⟩
       refine ite2 (λ c3=>?_) (λ c3=>?_)
       ·rw[c3,zcp] at q1
        exact⟨_,rfl,r,_,_,_,rfl,rfl,SqT.of er',rfl,_,_,rfl,rfl,q1⟩
       ·rw[zbj.mpr c3,zda] at q1
        exact q1
      ·rw[zbj.mpr c2,zda] at q1
       exact⟨_,rfl,iteF q1⟩
     ·rw[zbj.mpr c1,zda] at q1
      exact⟨_,rfl,iteF q1⟩
  ·refine iteP (by simp;omega) (q0 ?_ _ (Same.refl H))
   rw[hwl]
   unfold winL
   split
   ·rename_i e
    exact absurd rfl hl
   ·rfl
theorem qnc9(F:Fun K "is_board" "is_board" qdm9 f fd)(B:Bl mg)(Cj1:Callee P w K mg base n "is_window" ["day","thing"] spWindow):FnOk P w K mg base CX0 (n+1) f fd ["day","thing"] spBoard:=by
 refine F.okQ qlz9 (λ vs H Q E h=>?_) (λ cdv A outer s H vs Q E hr h=>?_)
 ·obtain⟨_,_,rfl,_⟩:=h
  rfl
 obtain⟨day,x,rfl,dv,q⟩:=h
 refine⟨_,(qae9 (qao9 (qie9 (qe_cb qde9 rfl B.isinstance qak9 (qa_c (qv 1) (qa_c (qfk9 (v:=.ty "list") rfl B.list_ qfy9 rfl) qaa9))) (qiz9 (qe_cb (qfa9 rfl) rfl B.all qmd9 (qa_c (qej9 ["part","day"] [none,some 0] (BlkOk.of rfl rfl (SubL.to (subC rfl subN)) rfl) rfl (qcv9 (qv 1)) (λ _ _ _ _=>(qar9 (i:=0) (show(["part","day"]:List Str).Nodup by decide) rfl (zai rfl))) (λ _ _ _ _=>(qe_fn Cj1 hr rfl (qa_c (qv 1) (qa_c (qv 0) qaa9))))) qaa9)))))),?_⟩
 walk_at "d"
 obtain⟨t,hty,hk⟩:=dv.1.isLst (K:=K)
 unfold qev9 at q
 cases ht:lstV H x with
 |none =>
  rw[ht] at hk q
  exact⟨_,rfl,_,"list",t,_,rfl,hty,hk,_,rfl,iteF (q _ (Same.refl H))⟩
 |some xs =>
  rw[ht] at hk q
  obtain⟨hlen,dz⟩:=dv.2 xs ht
  obtain⟨p,rfl,ep⟩:=qhm9 ht
  refine⟨_,rfl,_,"list",t,_,rfl,hty,hk,_,rfl,iteT ?_⟩
  refine⟨_,rfl,p,rfl,⟨_,SqL.of ep⟩,?_⟩
  refine qbz9 (K:=K) (a:=p) (xs:=xs) (λ D i H'=>Same H H'/\H' D=some (.lst ((xs.take i).map λ y=>V.bl (winV H day y)))) (λ D hD=>⟨qan9 hD _,qaf9⟩) (λ D i H' _ _ h=>SqL.of (h.1 _ _ ep)) ?_ ?_
  ·intro D i y H' hD hi z9;obtain⟨s2,hD2⟩ := z9
   have d2:=dz y (zac hi)
   refine⟨λ k v' e=>?_,_,rfl,_,rfl,day,y,rfl,d2.same s2,λ H3 s3=>⟨_,s3 _ _ hD2,(by rw[zah,zbf];exact qgl9 ⋯),λ b o eb=>?_,?_⟩⟩
   ·match k,e with
    |0,e=>cases e
    |1,e=>exact e
    |k+2,e=>cases e
   ·rw[qaq9 (qbc9 eb hD)]
    exact s3 _ _ (s2 _ _ eb)
   ·rw[qaf9,qei9 _ hi,d2.1.winV_same s2]
  ·intro D H' hD z9;obtain⟨s2,hD2⟩ := z9
   have eD:H' D=some (.lst ((xs.map (winV H day)).map V.bl)):=by
    rw[hD2,zbq,zff]
    rfl
   refine⟨D,_,rfl,SqL.of eD,?_⟩
   have e1:(xs.map (winV H day)).all id=xs.all (winV H day):=by rw[zfg];rfl
   rw[e1]
   exact q H' s2
inductive spStretches(vs:List V)(H:Hp)(Q:VK)(z3q:XK):Prop
 |mk (day:Int) (p:Addr) (R:List T3):vs=[.int day,.ref p]->LA enc3 H p R->R.length<=4000000->(∀(l:Addr)(H':Hp),Same H H'->H l=none->LA enc4 H' l (Ma.strOf day R)->Q (.ref l) H')->spStretches vs H Q z3q
theorem qka9(F:Fun K "stretches" "stretches" qcx9 f fd)(B:Bl mg):FnOk P w K mg base CX0 (n+1) f fd ["day","clock"] spStretches:=by
 refine F.okQ sc_stretches (λ vs H Q E h=>?_) (λ cdv A outer s H vs Q E hr h=>?_)
 ·obtain⟨_,_,_,rfl,_⟩:=h
  rfl
 obtain⟨day,p,R,rfl,hR,hlen,q⟩:=h
 refine⟨_,(qab9 (qai9 (i:=2) sc_stretches.nd rfl (zai rfl) (qbj9 qaa9)) (qab9 (qai9 (i:=3) sc_stretches.nd rfl (zai rfl) qac9) (qab9 (qeo9 PassesOwn.never rfl (qcv9 (qv 1)) (qgw9 rfl (qaw9 (qar9 (i:=4) sc_stretches.nd rfl (zai rfl)) (qaw9 (qar9 (i:=5) sc_stretches.nd rfl (zai rfl)) (qaw9 (qar9 (i:=6) sc_stretches.nd rfl (zai rfl)) qed9)))) (qek9 (qs_if (qam9 qel9 (qv 3) (qv 4) (qau9 _)) (qae9 (qbi9 (qbv9 (qv 2) (qa_c (qbd9 (qa_c (qv 3) (qa_c (qe_op qdf9 (qv 4) qac9) (qa_c qe_bl (qa_c (qe_op qav9 (qv 4) (qv 6)) qaa9))))) qaa9)))) qat9) (qab9 (qbi9 (qbv9 (qv 2) (qa_c (qbd9 (qa_c (qv 4) (qa_c (qv 5) (qa_c qe_bl (qa_c (qv 6) qaa9))))) qaa9))) (qae9 (qai9 (i:=3) sc_stretches.nd rfl (zai rfl) (qe_op qav9 (qv 5) qac9)))))) (qek9 (qs_if (qhb9 (QW.pt (qnj9 (qam9 qgs9 (qe_cb qap9 rfl B.len qcc9 (qa_c (qv 2) qaa9)) qac9 (qau9 _)) (qlo9 (qam9 qel9 (qv 3) (qv 0) (qau9 _)))))) (qae9 (qbi9 (qbv9 (qv 2) (qa_c (qbd9 (qa_c (qv 3) (qa_c (qe_op qdf9 (qv 0) qac9) (qa_c qe_bl (qa_c (qe_op qav9 (qe_op qav9 (qv 0) (qe_ix qas9 (qe_ix qaj9 (qv 1) qac9 (λ _ _=>rfl)) qac9 (λ _ _=>rfl))) (qe_ix qas9 (qe_ix qaj9 (qv 1) qac9 (λ _ _=>rfl)) qac9 (λ _ _=>rfl))) qaa9))))) qaa9)))) qat9) (qae9 (qao9 (qv 2))))))),?_⟩
 walk_at "d"
 refine⟨(by show 0<=sizeLine;decide),λ pr hpr=>?_⟩
 have s0:Same H (upd H pr (.lst [])):=qan9 hpr _
 obtain⟨ws,hw1,hw2,hw3⟩:=hR.lst
 refine⟨_,rfl,p,rfl,⟨_,SqL.of (s0 _ _ hw1)⟩,qex9 (K:=K) (a:=p) (xs:=ws)
  (λ i σ H'=>∃(v1 v2 v3:Option V),σ=[some (.int day),some (.ref p),some (.ref pr),some (.int (Ma.stPre (R.take i)).2),v1,v2,v3]/\Same H H'/\LA enc4 H' pr (Ma.stPre (R.take i)).1)
  ⟨_,_,_,rfl,s0,LA.nil qaf9⟩ (λ i σ H' _ z9=>by obtain⟨_,_,_,_,s1,_⟩ := z9;exact SqL.of (s1 _ _ hw1)) ?_ ?_⟩
 ·intro i y σ H1 hi z9;obtain⟨v1,v2,v3,rfl,s1,hL⟩ := z9
  obtain⟨r,x,rfl,ex,er⟩:=hw3 i y hi
  obtain⟨a,b,c⟩:=x
  have er1:=s1 _ _ er
  have hi2:i<R.length:=(zab.mp ex).1
  have et:R.take (i+1)=R.take i++[(a,b,c)]:=by rw[zfu,ex];rfl
  have ln:(Ma.stPre (R.take i)).1.length<=2*i:=by
   have:=(Ma.stPre_len (R.take i)).1
   rw[zbf] at this
   omega
  rw[et,Ma.stPre_snoc]
  unfold Ma.stStep
  generalize (Ma.stPre (R.take i)).1=S at *
  generalize (Ma.stPre (R.take i)).2=pp at *
  refine⟨r,_,rfl,SqT.of er1,rfl,_,_,rfl,_,_,rfl,_,_,rfl,rfl,?_⟩
  refine⟨λ σ' H2=>σ'=[some (.int day),some (.ref p),some (.ref pr),some (.int pp),some (.int a),some (.int b),some (.int c)]/\Same H H2/\LA enc4 H2 pr (if pp<a then S++[(pp,a-1,true,a+c)] else S),?_,?_⟩
  ·refine⟨_,rfl,_,rfl,_,_,rfl,rfl,_,rfl,?_⟩
   refine ite2 (λ z=>?_) (λ z=>?_)
   ·rw[if_pos (of_decide_eq_true z)]
    obtain⟨us,hu1,hu2,hu3⟩:=hL.lst
    refine⟨_,rfl,.inl ⟨rfl,_,SqL.of hu1⟩,_,rfl,_,rfl,_,_,rfl,rfl,_,rfl,_,rfl,_,_,rfl,rfl,(by show 4<=sizeLine;decide),λ r2 hr2=>?_⟩
    have s2:=qan9 hr2 (.tup [.int pp,.int (a-1),.bl true,.int (a+c)])
    refine⟨pr,us,.ref r2,rfl,rfl,s2 _ _ hu1,qbe9 ⋯,rfl,qci9 hpr (s1.trans s2),?_⟩
    exact(hL.same s2).append (x:=(pp,a-1,true,a+c)) (s2 _ _ hu1) qaf9
   ·rw[if_neg (λ y=>z (decide_eq_true y))]
    exact⟨rfl,s1,hL⟩
  intro σ' H2 z9;obtain⟨rfl,s2,hL2⟩ := z9
  have ln2:(if pp<a then S++[(pp,a-1,true,a+c)] else S).length<=2*i+1:=by
   split
   ·simp;omega
   ·omega
  generalize (if pp<a then S++[(pp,a-1,true,a+c)] else S)=S2 at *
  obtain⟨us,hu1,hu2,hu3⟩:=hL2.lst
  refine⟨_,rfl,.inl ⟨rfl,_,SqL.of hu1⟩,_,rfl,_,rfl,_,rfl,(by show 4<=sizeLine;decide),λ r2 hr2=>?_⟩
  have s3:=qan9 hr2 (.tup [.int a,.int b,.bl false,.int c])
  refine⟨pr,us,.ref r2,rfl,rfl,s3 _ _ hu1,qbe9 ⋯,?_⟩
  refine⟨_,rfl,_,_,rfl,rfl,_,_,_,rfl,qci9 hpr (s2.trans s3),?_⟩
  exact(hL2.same s3).append (x:=(a,b,false,c)) (s3 _ _ hu1) qaf9
 ·intro σ H1 z9;obtain⟨v1,v2,v3,rfl,s1,hL⟩ := z9
  rw[hw2,zbq] at hL ⊢
  have ln:=Ma.stPre_len R
  obtain⟨us,hu1,hu2,hu3⟩:=hL.lst
  refine⟨λ σ' H2=>∃u1 u2 u3 u4,σ'=[some (.int day),some (.ref p),some (.ref pr),u1,u2,u3,u4]/\Same H H2/\LA enc4 H2 pr (Ma.strOf day R),?_,?_⟩
  ·unfold Ma.strOf
   refine⟨λ c H2=>H2=H1/\c=decide (0<(Ma.stPre R).1.length/\(Ma.stPre R).2<day),?_,?_⟩
   ·refine⟨_,rfl,pr,_,rfl,.inl (SqL.of hu1),_,_,rfl,rfl,_,rfl,?_⟩
    refine ite2 (λ z=>?_) (λ z=>?_)
    ·have z':(0:Int)<((us.length:Nat):Int):=of_decide_eq_true z
     refine⟨_,rfl,_,rfl,_,_,rfl,rfl,_,rfl,rfl,?_⟩
     have z2:0<(Ma.stPre R).1.length:=⋯
     by_cases c:(Ma.stPre R).2<day<;>simp[c,z2]
    ·refine⟨rfl,?_⟩
     have z':¬(0:Int)<((us.length:Nat):Int):=λ y=>z (decide_eq_true y)
     exact(decide_eq_false ⋯).symm
   intro c H2 z9;obtain⟨rfl,rfl⟩ := z9
   refine ite2 (λ z=>?_) (λ z=>?_)
   ·have z':=of_decide_eq_true z
    rw[if_pos z']
    have n0:0<R.length:=by
     rcases zch R.length with e|e
     ·have:=ln.1
      omega
     ·exact e
    obtain⟨ws',k1,k2,k3⟩:=(hR.same s1).at (K:=K)
    obtain⟨r0,ka,kb⟩:=k3 0 _ (Ma.r_at n0)
    refine⟨_,rfl,.inl ⟨rfl,_,SqL.of hu1⟩,_,rfl,_,rfl,_,_,rfl,rfl,_,rfl,_,rfl,p,_,_,_,rfl,rfl,SqL.of k1,ka,r0,_,_,_,rfl,rfl,SqT.of kb,rfl,_,_,rfl,rfl,_,rfl,p,_,_,_,rfl,rfl,SqL.of k1,ka,r0,_,_,_,rfl,rfl,SqT.of kb,rfl,_,_,rfl,rfl,
     (by show 4<=sizeLine;decide),λ r2 hr2=>?_⟩
    have s3:=qan9 hr2 (.tup [.int (Ma.stPre R).2,.int (day-1),.bl true,.int (day+Ma.rA R 0+Ma.rC R 0)])
    refine⟨pr,us,.ref r2,rfl,rfl,s3 _ _ hu1,qbe9 ⋯,_,_,_,_,rfl,qci9 hpr (s1.trans s3),?_⟩
    exact(hL.same s3).append (x:=((Ma.stPre R).2,day-1,true,day+Ma.rA R 0+Ma.rC R 0)) (s3 _ _ hu1) qaf9
   ·rw[if_neg (λ y=>z (decide_eq_true y))]
    exact⟨_,_,_,_,rfl,s1,hL⟩
  intro σ' H2 z9;obtain⟨u1,u2,u3,u4,rfl,s2,hL2⟩ := z9
  exact⟨_,rfl,q pr H2 s2 hpr hL2⟩
open Ma (T6)
def enc6(r:T6):List V:=[.int r.1,.int r.2.1,.bl r.2.2.1,.int r.2.2.2.1,.bl r.2.2.2.2.1,.int r.2.2.2.2.2]
inductive spFirstTold(vs:List V)(H:Hp)(Q:VK)(z3q:XK):Prop
 |mk (r:Addr) (x:T4):vs=[.ref r]->H r=some (.tup (enc4 x))->Q (.int (Ma.ftold x)) H->spFirstTold vs H Q z3q
inductive spPut(vs:List V)(H:Hp)(Q:VK)(z3q:XK):Prop
 |mk (p:Addr) (a b c:Int) (R:List T3):vs=[.ref p,.int a,.int b,.int c]->LA enc3 H p R->R.length<=16000000->(∀H',SameT p H H'->LA enc3 H' p (Ma.putW R a b c)->Q .non H')->spPut vs H Q z3q
inductive spClockFrom(vs:List V)(H:Hp)(Q:VK)(z3q:XK):Prop
 |mk (day:Int) (p:Addr) (S:List T4) (g:Int->Int):vs=[.int day,.ref p]->LA enc4 H p S->S.length<=16000000->0<day->Ma.Rise day g->Ma.Cov g 0 S day->(∀(l:Addr)(R:List T3)(H':Hp),Same H H'->H l=none->LA enc3 H' l R->R.length<=S.length->Ma.Can 0 day g R->Q (.ref l) H')->spClockFrom vs H Q z3q
inductive spOverlay(vs:List V)(H:Hp)(Q:VK)(z3q:XK):Prop
 |mk (day:Int) (p1 p2:Addr) (R1 R2:List T3) (f1 f2:Int->Int):vs=[.int day,.ref p1,.ref p2]->LA enc3 H p1 R1->LA enc3 H p2 R2->R1.length<=1900000->R2.length<=1900000->Ma.CK day R1->Ma.CK day R2->Ma.Tells day R1 f1->Ma.Tells day R2 f2->(∀(l:Addr)(O:List T6)(H':Hp),Same H H'->H l=none->LA enc6 H' l O->O.length<=2*R1.length+2*R2.length+2->Ma.Cov2 f1 f2 0 O day->Q (.ref l) H')->spOverlay vs H Q z3q
inductive spPicked(vs:List V)(H:Hp)(Q:VK)(z3q:XK):Prop
 |mk (p q wt rd:Int) (late:Bool):vs=[.int p,.int q,.int wt,.int rd,.bl late]->(∀(l:Addr)(H':Hp),Same H H'->H l=none->LA enc4 H' l (Ma.pickL p q wt rd late)->Q (.ref l) H')->spPicked vs H Q z3q
inductive spJoined(vs:List V)(H:Hp)(Q:VK)(z3q:XK):Prop
 |mk (day:Int) (p1 p2:Addr) (late:Bool) (R1 R2:List T3) (f1 f2:Int->Int):vs=[.int day,.ref p1,.ref p2,.bl late]->LA enc3 H p1 R1->LA enc3 H p2 R2->R1.length<=1900000->R2.length<=1900000->Ma.CK day R1->Ma.CK day R2->Ma.Tells day R1 f1->Ma.Tells day R2 f2->(∀(l:Addr)(R:List T3)(H':Hp),Same H H'->H l=none->LA enc3 H' l R->R.length<=4*R1.length+4*R2.length+4->Ma.Can 0 day (λ x=>Ma.jn late (f1 x) (f2 x)) R->Q (.ref l) H')->spJoined vs H Q z3q
inductive spTwo(op:Option Int->Option Int->Option Int)(vs:List V)(H:Hp)(Q:VK)(z3q:XK):Prop
 |mk (day:Int) (p1 p2:Addr) (R1 R2:List T3):vs=[.int day,.ref p1,.ref p2]->LA enc3 H p1 R1->LA enc3 H p2 R2->R1.length<=1900000->R2.length<=1900000->Ma.CK day R1->Ma.CK day R2->(∀(l:Addr)(R:List T3)(H':Hp),Same H H'->H l=none->LA enc3 H' l R->R.length<=4*R1.length+4*R2.length+4->Ma.CK day R->(∀t,Ma.bt day R t=op (Ma.bt day R1 t) (Ma.bt day R2 t))->Q (.ref l) H')->spTwo op vs H Q z3q
theorem qiy9(F:Fun K "first_told" "first_told" qcn9 f fd):FnOk P w K mg base CX0 (n+1) f fd ["row"] spFirstTold:=by
 refine F.okQ qis9 (λ vs H Q E h=>?_) (λ cdv A outer s H vs Q E hr h=>?_)
 ·obtain⟨_,_,rfl,_⟩:=h
  rfl
 obtain⟨r,x,rfl,hx,q⟩:=h
 refine⟨_,(qae9 (qao9 (qdt9 (qcb9 (qe_ix qas9 (qv 0) qac9 (λ _ _=>rfl))) (qe_ix qas9 (qv 0) qac9 (λ _ _=>rfl)) (qe_op qav9 (qe_ix qas9 (qv 0) qac9 (λ _ _=>rfl)) (qe_ix qas9 (qv 0) qac9 (λ _ _=>rfl)))))),?_⟩
 walk_at "d"
 refine⟨_,rfl,r,_,_,_,rfl,rfl,SqT.of hx,rfl,_,rfl,?_⟩
 unfold Ma.ftold at q
 refine ite2 (λ c=>?_) (λ c=>?_)
 ·rw[if_pos c] at q
  exact⟨_,rfl,r,_,_,_,rfl,rfl,SqT.of hx,rfl,q⟩
 ·rw[if_neg c] at q
  exact⟨_,rfl,r,_,_,_,rfl,rfl,SqT.of hx,rfl,_,rfl,r,_,_,_,rfl,rfl,SqT.of hx,rfl,_,_,rfl,rfl,q⟩
theorem ok_put(F:Fun K "put_window" "put_window" qct9 f fd)(B:Bl mg):FnOk P w K mg base CX0 (n+1) f fd ["clock","a","b","c"] spPut:=by
 refine F.okQ qit9 (λ vs H Q E h=>?_) (λ cdv A outer s H vs Q E hr h=>?_)
 ·obtain⟨_,_,_,_,_,rfl,_⟩:=h
  rfl
 obtain⟨p,a,b,c,R,rfl,hR,hlen,q⟩:=h
 refine⟨_,(qab9 (qs_if (qam9 qgs9 (qv 1) (qv 2) (qau9 _)) (qae9 qs_retN) qat9) (qae9 (qs_if (qhb9 (QW.pt (qnj9 (qam9 qgs9 (qe_cb qap9 rfl B.len qcc9 (qa_c (qv 0) qaa9)) qac9 (qau9 _)) (qnj9 (qam9 qcf9 (qe_op qav9 (qe_ix qas9 (qe_ix qaj9 (qv 0) (qem9 qac9) (λ _ _=>rfl)) qac9 (λ _ _=>rfl)) qac9) (qv 1) (qau9 _)) (qlo9 (qam9 qcf9 (qe_ix qas9 (qe_ix qaj9 (qv 0) (qem9 qac9) (λ _ _=>rfl)) qac9 (λ _ _=>rfl)) (qv 3) (qau9 _))))))) (qae9 (qs_asg (qbd9 (qa_c (qe_ix qas9 (qe_ix qaj9 (qv 0) (qem9 qac9) (λ _ _=>rfl)) qac9 (λ _ _=>rfl)) (qa_c (qv 2) (qa_c (qv 3) qaa9)))) (qg_sub (qv 0) (qem9 qac9) qkh9))) (qae9 (qbi9 (qbv9 (qv 0) (qa_c (qbd9 (qa_c (qv 1) (qa_c (qv 2) (qa_c (qv 3) qaa9)))) qaa9))))))),?_⟩
 walk_at "d"
 obtain⟨vs,hv1,hv2,hv3⟩:=hR.lst
 have neg1:∀(i:Int) ,(-1:Int)=-i->i=1:=λ i e=>⋯
 refine⟨_,rfl,_,rfl,_,_,rfl,rfl,_,rfl,?_⟩
 unfold Ma.putW at q
 refine ite2 (λ z=>?_) (λ z=>?_)
 ·rw[if_pos (of_decide_eq_true z)] at q
  exact q H (λ b o e _=>e) hR
 rw[if_neg (λ y=>z (decide_eq_true y))] at q
 have app:∀H1:Hp,H1=H->(∀H',SameT p H H'->LA enc3 H' p (R++[(a,b,c)])->Q .non H')->∀r2,H1 r2=none->Q .non (upd (upd H1 r2 (.tup [.int a,.int b,.int c])) p (.lst (vs++[.ref r2]))):=by
  rintro H1 rfl q' r2 hr2
  have s2:=qan9 hr2 (.tup [.int a,.int b,.int c])
  refine q' _ (λ x o e nx=>?_) ((hR.same s2).append (x:=(a,b,c)) (s2 _ _ hv1) qaf9)
  rw[qaq9 nx]
  exact s2 _ _ e
 cases hl:R.getLast? with
 |none =>
  rw[hl] at q
  have e0:=zee.mp hl
  subst e0
  have v0:vs=[]:=zay.mp hv2
  subst v0
  refine⟨λ k H'=>k=false/\H'=H,?_,?_⟩
  ·exact⟨_,rfl,p,_,rfl,.inl (SqL.of hv1),_,_,rfl,rfl,_,rfl,iteN (by simp) ⟨rfl,rfl⟩⟩
  intro k H1 z9;obtain⟨rfl,rfl⟩ := z9
  refine iteF ⟨_,rfl,.inl ⟨rfl,_,SqL.of hv1⟩,_,rfl,_,rfl,_,rfl,(by show 3<=sizeLine;decide),λ r2 hr2=>?_⟩
  refine⟨p,_,.ref r2,rfl,rfl,(qan9 hr2 _) _ _ hv1,qbe9 (by simp),app H1 rfl q r2 hr2⟩
 |some l =>
  rw[hl] at q
  obtain⟨R0,rfl⟩:=zed.mp hl
  have vl:vs.length=R0.length+1:=by rw[hv2];simp
  have vne:vs≠[]:=λ e=>by rw[e] at vl;simp at vl
  obtain⟨r,x,e1,e2,e3⟩:=hv3 R0.length _ (zaa ⋯)
  have e2':l=x:=by simpa using e2
  subst e2'
  have at1:atI vs (-1)=some (.ref r):=by
   rw[qpm9 vne,show vs.length-1=R0.length by omega,zaa ⋯,e1]
  obtain⟨la,lb,lc⟩:=l
  refine⟨λ k H'=>k=decide (lb+1=a/\lc=c)/\H'=H,?_,?_⟩
  ·refine⟨_,rfl,p,_,rfl,.inl (SqL.of hv1),_,_,rfl,rfl,_,rfl,iteP (decide_eq_true (by show(0:Int)<((vs.length:Nat):Int);omega)) ?_⟩
   refine⟨_,rfl,_,rfl,p,_,_,_,rfl,rfl,SqL.of hv1,at1,r,_,_,_,rfl,rfl,SqT.of e3,rfl,_,_,rfl,rfl,_,rfl,rfl,_,rfl,?_⟩
   refine ite2 (λ y=>?_) (λ y=>?_)
   ·have y':lb+1=a:=by
     have:=of_decide_eq_true y
     simpa [enc3] using this
    refine⟨_,rfl,_,rfl,p,_,_,_,rfl,rfl,SqL.of hv1,at1,r,_,_,_,rfl,rfl,SqT.of e3,rfl,_,rfl,rfl,_,rfl,?_,rfl⟩
    by_cases c0:lc=c<;>simp[y',c0]
   ·have y':¬lb+1=a:=λ e=>y (decide_eq_true (by rw[<- e]))
    exact⟨by simp[y'],rfl⟩
  intro k H1 z9;obtain⟨rfl,rfl⟩ := z9
  dsimp only at q
  refine ite2 (λ y=>?_) (λ y=>?_)
  ·have y':=of_decide_eq_true y
   rw[if_pos y',zey] at q
   refine⟨_,rfl,_,rfl,p,_,_,_,rfl,rfl,SqL.of hv1,at1,r,_,_,_,rfl,rfl,SqT.of e3,rfl,_,rfl,_,rfl,(by show 3<=sizeLine;decide),λ r2 hr2=>?_⟩
   have s2:=qan9 hr2 (.tup [.int la,.int b,.int c])
   have ix:ixN vs.length (-1)=some R0.length:=by
    unfold ixN
    rw[if_neg ⋯,if_pos ⋯]
    congr 1
    omega
   refine⟨_,rfl,_,rfl,p,vs,-1,R0.length,rfl,rfl,s2 _ _ hv1,ix,?_⟩
   refine q _ (λ x o e nx=>?_) ?_
   ·rw[qaq9 nx]
    exact s2 _ _ e
   ·have h:=(hR.same s2).setAt (x:=(la,b,c)) (j:=R0.length) (s2 _ _ hv1) qaf9
    have e:(R0++[(la,lb,lc)]).set R0.length (la,b,c)=R0++[(la,b,c)]:=by simp
    rw[e] at h
    exact h
  ·rw[if_neg (λ z=>y (decide_eq_true z))] at q
   refine⟨_,rfl,.inl ⟨rfl,_,SqL.of hv1⟩,_,rfl,_,rfl,_,rfl,(by show 3<=sizeLine;decide),λ r2 hr2=>?_⟩
   exact⟨p,_,.ref r2,rfl,rfl,(qan9 hr2 _) _ _ hv1,qbe9 ⋯,app H1 rfl q r2 hr2⟩
theorem qiu9(F:Fun K "clock_from" "clock_from" qcq9 f fd)(B:Bl mg)(Cz0:Callee P w K mg base n "first_told" ["row"] spFirstTold)(Ca1:Callee P w K mg base n "put_window" ["clock","a","b","c"] spPut) :
  FnOk P w K mg base CX0 (n+1) f fd ["day","rows"] spClockFrom:=by
 refine F.okQ sc_clock_from (λ vs H Q E h=>?_) (λ cdv A outer s H vs Q E hr h=>?_)
 ·obtain⟨_,_,_,_,rfl,_⟩:=h
  rfl
 obtain⟨day,p,S,g,rfl,hS,hlen,hd,rg,hC,q⟩:=h
 refine⟨_,(qab9 (qai9 (i:=2) sc_clock_from.nd rfl (zai rfl) (qbj9 qaa9)) (qab9 (qeo9 PassesOwn.never rfl (qpc9 rfl B.enumerate (qa_c (qv 1) qaa9)) (qgw9 rfl (qaw9 (qar9 (i:=3) sc_clock_from.nd rfl (zai rfl)) (qaw9 (qar9 (i:=4) sc_clock_from.nd rfl (zai rfl)) qed9))) (qab9 (qai9 (i:=5) sc_clock_from.nd rfl (zai rfl) (qkt9 (qdt9 (qam9 qel9 (qe_op qav9 (qv 3) qac9) (qe_cb qap9 rfl B.len qcc9 (qa_c (qv 1) qaa9)) (qau9 _)) (qe_fn Cz0 hr rfl (qa_c (qe_ix qaj9 (qv 1) (qe_op qav9 (qv 3) qac9) (λ _ _=>rfl)) qaa9)) (qe_op qav9 (qv 0) (qe_fn Cz0 hr rfl (qa_c (qe_ix qaj9 (qv 1) qac9 (λ _ _=>rfl)) qaa9)))))) (qab9 (qai9 (i:=6) sc_clock_from.nd rfl (zai rfl) (qe_ix qas9 (qv 4) qac9 (λ _ _=>rfl))) (qab9 (qai9 (i:=7) sc_clock_from.nd rfl (zai rfl) (qe_ix qas9 (qv 4) qac9 (λ _ _=>rfl))) (qae9 (qs_if (qcb9 (qe_ix qas9 (qv 4) qac9 (λ _ _=>rfl))) (qae9 (qbi9 (qe_fn Ca1 hr rfl (qa_c (qv 2) (qa_c (qv 6) (qa_c (qkt9 (qdt9 (qam9 qel9 (qv 7) (qv 5) (qau9 _)) (qv 6) (qe_op qdf9 (qv 6) qac9))) (qa_c (qe_op qdf9 (qv 7) (qv 6)) qaa9))))))) (qae9 (qbi9 (qe_fn Ca1 hr rfl (qa_c (qv 2) (qa_c (qe_ix qas9 (qv 4) qac9 (λ _ _=>rfl)) (qa_c (qkt9 (qdt9 (qam9 qel9 (qe_op qav9 (qv 6) (qv 7)) (qv 5) (qau9 _)) (qv 6) (qe_op qdf9 (qv 6) qac9))) (qa_c (qv 7) qaa9))))))))))))) (qae9 (qao9 (qv 2))))),?_⟩
 walk_at "d"
 refine⟨(by show 0<=sizeLine;decide),λ pc hpc=>?_⟩
 have s0:Same H (upd H pc (.lst [])):=qan9 hpc _
 obtain⟨ws,hw1,hw2,hw3⟩:=hS.lst
 refine⟨_,rfl,p,rfl,⟨_,SqL.of (s0 _ _ hw1)⟩,qkf9 (K:=K) (a:=p) (xs:=ws)
  (λ i σ H'=>∃(R:List T3)(at_:Int)(v1 v2 v3 v4 v5:Option V),σ=[some (.int day),some (.ref p),some (.ref pc),v1,v2,v3,v4,v5]/\Same H H'/\LA enc3 H' pc R/\R.length<=i/\0<=at_/\Ma.Can 0 at_ g R/\(∀r,S[i]?=some r->r.1=at_)/\(i=S.length->at_=day))
  ⟨[],0,_,_,_,_,_,rfl,s0,LA.nil qaf9,zaj _,zax _,⟨List.Pairwise.nil,(λ w hw=>by cases hw),λ x x0 x1=>⋯⟩,λ r e=>(hC.get e).2.2.2.2.1 rfl,λ e=>?_⟩
  (λ i σ H' _ z9=>by obtain⟨_,_,_,_,_,_,_,_,s1,_⟩ := z9;exact SqL.of (s1 _ _ hw1)) ?_ ?_⟩
 ·have:S=[]:=zay.mp e.symm
  rw[this] at hC
  exact hC
 ·intro i y pe σ H1 hi z9 hpe;obtain⟨R,at_,v1,v2,v3,v4,v5,rfl,s1,hR,hRl,a0,hCan,hat,_⟩ := z9
  obtain⟨r,x,rfl,ex,er⟩:=hw3 i y hi
  have e1:=hat x ex
  obtain⟨g1,g2,g3,g4,g5,g6,g7⟩:=hC.get ex
  have hi2:i<S.length:=(zab.mp ex).1
  have s2:=qan9 hpe (.tup [.int i,.ref r])
  generalize hg2:upd H1 pe (.tup [.int i,.ref r])=H2 at *
  have ep:H2 pe=some (.tup [.int i,.ref r]):=by rw[<- hg2];exact qaf9
  clear hg2
  have s02:=s1.trans s2
  have er2:=s02 _ _ er
  have hw12:=s02 _ _ hw1
  have fo:=Ma.cfo_eq hC rg.per ex
  have step:=hCan.row a0 x e1 g2 g4
  rw[<- fo] at step
  refine⟨pe,_,rfl,SqT.of ep,rfl,_,_,rfl,_,_,rfl,rfl,?_⟩
  refine⟨λ v H'=>H'=H2/\v=.int (Ma.cfo day S i),?_,?_⟩
  ·refine⟨_,rfl,_,_,rfl,rfl,_,rfl,p,_,rfl,.inl (SqL.of hw12),_,_,rfl,rfl,_,rfl,?_⟩
   obtain⟨ws',k1,k2,k3⟩:=(hS.same s02).at (K:=K)
   rw[hw12] at k1
   cases k1
   unfold Ma.cfo
   refine ite2 (λ c=>?_) (λ c=>?_)
   ·have c':(i:Int)+1<((ws.length:Nat):Int):=of_decide_eq_true c
    have hi3:i+1<S.length:=⋯
    obtain⟨r3,ka,kb⟩:=k3 (i+1) _ (zaa hi3)
    rw[zaa hi3]
    exact⟨_,rfl,_,rfl,_,_,rfl,rfl,p,_,_,_,rfl,rfl,SqL.of hw12,ka,r3,_,rfl,kb,rfl,rfl⟩
   ·have c':¬(i:Int)+1<((ws.length:Nat):Int):=λ z=>c (decide_eq_true z)
    have hi3:S.length<=i+1:=⋯
    obtain⟨r3,ka,kb⟩:=k3 0 _ (zaa (by omega:0<S.length))
    rw[zef.mpr hi3,zaa (by omega:0<S.length)]
    exact⟨_,rfl,_,rfl,p,_,_,_,rfl,rfl,SqL.of hw12,ka,r3,_,rfl,kb,_,_,rfl,rfl,rfl,rfl⟩
  intro v H3 z9;obtain⟨rfl,rfl⟩ := z9
  generalize Ma.cfo day S i=fol at *
  obtain⟨xp,xq,xs,xv⟩:=x
  refine⟨_,rfl,r,_,_,_,rfl,rfl,SqT.of er2,rfl,?_⟩
  refine⟨_,rfl,r,_,_,_,rfl,rfl,SqT.of er2,rfl,?_⟩
  have hR2:=hR.same s2
  have fin:∀(H4:Hp)(u1 u2 u3 u4 u5:Option V),SameT pc H3 H4->LA enc3 H4 pc (Ma.cfStep fol (xp,xq,xs,xv) R)->∃(R:List T3)(at_:Int)(v1 v2 v3 v4 v5:Option V),[some (.int day),some (.ref p),some (.ref pc),u1,u2,u3,u4,u5]=[some (.int day),some (.ref p),some (.ref pc),v1,v2,v3,v4,v5]/\Same H H4/\LA enc3 H4 pc R/\R.length<=i+1/\0<=at_/\Ma.Can 0 at_ g R/\(∀r,S[i+1]?=some r->r.1=at_)/\(i+1=S.length->at_=day):=by
   intro H4 u1 u2 u3 u4 u5 s4 h4
   refine⟨_,xq+1,u1,u2,u3,u4,u5,rfl,λ b o e=>s4 b o (s02 _ _ e) (qbc9 e hpc),h4,?_,?_,step,λ r' e'=>g6 r' e',λ e=>g7 e⟩
   ·have:=Ma.cfStep_len fol (xp,xq,xs,xv) R
    omega
   ·have g1':0<=xp:=g1
    have g2':xp<=xq:=g2
    omega
  unfold Ma.cfStep at fin
  dsimp only at fin
  refine⟨_,rfl,r,_,_,_,rfl,rfl,SqT.of er2,rfl,_,rfl,?_⟩
  refine ite2 (λ c=>?_) (λ c=>?_)
  ·have c':xs=true:=c
   rw[if_pos c'] at fin
   refine⟨_,rfl,_,rfl,?_⟩
   refine⟨λ v H'=>H'=H3/\v=.int (if xv<fol then xq else xq-1),?_,?_⟩
   ·refine⟨_,rfl,_,rfl,_,_,rfl,rfl,_,rfl,?_⟩
    refine ite2 (λ z=>?_) (λ z=>?_)
    ·exact⟨_,rfl,rfl,by rw[if_pos (of_decide_eq_true z)]⟩
    ·exact⟨_,rfl,_,_,rfl,rfl,rfl,by rw[if_neg (λ y=>z (decide_eq_true y))]⟩
   intro v H4 z9;obtain⟨rfl,rfl⟩ := z9
   exact⟨_,rfl,_,rfl,_,_,rfl,rfl,pc,_,_,_,R,rfl,hR2,⋯,λ H5 s5 h5=>fin H5 _ _ _ _ _ s5 h5⟩
  ·have c':¬xs=true:=c
   rw[if_neg c'] at fin
   refine⟨_,rfl,_,rfl,r,_,_,_,rfl,rfl,SqT.of er2,rfl,?_⟩
   refine⟨λ v H'=>H'=H3/\v=.int (if xq+xv<fol then xq else xq-1),?_,?_⟩
   ·refine⟨_,rfl,_,rfl,_,_,rfl,rfl,_,rfl,_,_,rfl,rfl,_,rfl,?_⟩
    refine ite2 (λ z=>?_) (λ z=>?_)
    ·exact⟨_,rfl,rfl,by rw[if_pos (of_decide_eq_true z)]⟩
    ·exact⟨_,rfl,_,_,rfl,rfl,rfl,by rw[if_neg (λ y=>z (decide_eq_true y))]⟩
   intro v H4 z9;obtain⟨rfl,rfl⟩ := z9
   exact⟨_,rfl,pc,_,_,_,R,rfl,hR2,⋯,λ H5 s5 h5=>fin H5 _ _ _ _ _ s5 h5⟩
 ·intro σ H1 z9;obtain⟨R,at_,v1,v2,v3,v4,v5,rfl,s1,hR,hRl,a0,hCan,hat,hend⟩ := z9
  have e:=hend hw2
  subst e
  exact⟨_,rfl,q pc R H1 s1 hpc hR ⋯ hCan⟩
theorem qod9(F:Fun K "overlay" "overlay" qeb9 f fd)(B:Bl mg)(Cj0:Callee P w K mg base n "stretches" ["day","clock"] spStretches):FnOk P w K mg base CX0 (n+1) f fd ["day","one","other"] spOverlay:=by
 refine F.okQ sc_overlay (λ vs H Q E h=>?_) (λ cdv A outer s H vs Q E hr h=>?_)
 ·obtain⟨_,_,_,_,_,_,_,rfl,_⟩:=h
  rfl
 obtain⟨day,p1,p2,R1,R2,f1,f2,rfl,hR1,hR2,hl1,hl2,ck1,ck2,T1,T2,q⟩:=h
 refine⟨_,(qab9 (qai9 (i:=3) sc_overlay.nd rfl (zai rfl) (qe_fn Cj0 hr rfl (qa_c (qv 0) (qa_c (qv 1) qaa9)))) (qab9 (qai9 (i:=4) sc_overlay.nd rfl (zai rfl) (qe_fn Cj0 hr rfl (qa_c (qv 0) (qa_c (qv 2) qaa9)))) (qab9 (qai9 (i:=5) sc_overlay.nd rfl (zai rfl) (qbj9 qaa9)) (qab9 (qai9 (i:=6) sc_overlay.nd rfl (zai rfl) qac9) (qab9 (qai9 (i:=7) sc_overlay.nd rfl (zai rfl) qac9) (qab9 (qai9 (i:=8) sc_overlay.nd rfl (zai rfl) qac9) (qab9 (qfv9 PassesOwn.never (qam9 qel9 (qv 8) (qv 0) (qau9 _)) (qab9 (qai9 (i:=9) sc_overlay.nd rfl (zai rfl) (qe_cb (qdw9 rfl) rfl B.min bt_min (qa_c (qe_ix qas9 (qe_ix qaj9 (qv 3) (qv 6) (λ _ _=>rfl)) qac9 (λ _ _=>rfl)) (qa_c (qe_ix qas9 (qe_ix qaj9 (qv 4) (qv 7) (λ _ _=>rfl)) qac9 (λ _ _=>rfl)) qaa9)))) (qab9 (qbi9 (qbv9 (qv 5) (qa_c (qbd9 (qa_c (qv 8) (qa_c (qv 9) (qa_c (qe_ix qas9 (qe_ix qaj9 (qv 3) (qv 6) (λ _ _=>rfl)) qac9 (λ _ _=>rfl)) (qa_c (qe_ix qas9 (qe_ix qaj9 (qv 3) (qv 6) (λ _ _=>rfl)) qac9 (λ _ _=>rfl)) (qa_c (qe_ix qas9 (qe_ix qaj9 (qv 4) (qv 7) (λ _ _=>rfl)) qac9 (λ _ _=>rfl)) (qa_c (qe_ix qas9 (qe_ix qaj9 (qv 4) (qv 7) (λ _ _=>rfl)) qac9 (λ _ _=>rfl)) qaa9))))))) qaa9))) (qek9 (qs_if (qam9 qcf9 (qe_ix qas9 (qe_ix qaj9 (qv 3) (qv 6) (λ _ _=>rfl)) qac9 (λ _ _=>rfl)) (qv 9) (qau9 _)) (qae9 (qpf9 (i:=6) sc_overlay.nd rfl (zai rfl) qoy9 qac9)) qat9) (qek9 (qs_if (qam9 qcf9 (qe_ix qas9 (qe_ix qaj9 (qv 4) (qv 7) (λ _ _=>rfl)) qac9 (λ _ _=>rfl)) (qv 9) (qau9 _)) (qae9 (qpf9 (i:=7) sc_overlay.nd rfl (zai rfl) qoy9 qac9)) qat9) (qae9 (qai9 (i:=8) sc_overlay.nd rfl (zai rfl) (qe_op qav9 (qv 9) qac9)))))))) (qae9 (qao9 (qv 5)))))))))),?_⟩
 walk_at "d"
 refine⟨_,rfl,_,rfl,day,p1,R1,rfl,hR1,⋯,λ l1 H1 s1 fr1 hS1=>?_⟩
 refine⟨_,rfl,_,rfl,day,p2,R2,rfl,hR2.same s1,⋯,λ l2 H2 s2 fr2 hS2=>?_⟩
 have C1:=Ma.str_cov ck1 T1
 have C2:=Ma.str_cov ck2 T2
 have b1:=Ma.strOf_len day R1
 have b2:=Ma.strOf_len day R2
 have hS1:=hS1.same s2
 generalize Ma.strOf day R1=S1 at *
 generalize Ma.strOf day R2=S2 at *
 have s02:=s1.trans s2
 have hd:=ck1.d0
 refine⟨(by show 0<=sizeLine;decide),λ pr hpr=>?_⟩
 have sr:Same H2 (upd H2 pr (.lst [])):=qan9 hpr _
 refine qfu9 (λ σ H'=>∃(O:List T6)(k j:Nat)(p:Int)(v:Option V),σ=[some (.int day),some (.ref p1),some (.ref p2),some (.ref l1),some (.ref l2),some (.ref pr),some (.int k),some (.int j),some (.int p),v] /\
   Same H2 H'/\LA enc6 H' pr O/\Ma.Cov2 f1 f2 0 O p/\0<=p/\p<=day/\O.length<=k+j/\k<=S1.length/\j<=S2.length/\(p<day->∃r1 r2,S1[k]?=some r1/\r1.1<=p/\p<=r1.2.1/\S2[j]?=some r2/\r2.1<=p/\p<=r2.2.1))
  (λ σ _=>match σ with | [_,_,_,_,_,_,_,_,some (.int p),_]=>(day-p).toNat|_=>0) ?_ ?_ ?_
 ·refine⟨[],0,0,0,none,rfl,sr,LA.nil qaf9,rfl,zax _,⋯,by simp,zbn _,zbn _,λ h=>?_⟩
  have n1:0<S1.length:=by
   rcases zch S1.length with e|e
   ·rw[zay.mp e] at C1
    have:(0:Int)=day:=C1
    omega
   ·exact e
  have n2:0<S2.length:=by
   rcases zch S2.length with e|e
   ·rw[zay.mp e] at C2
    have:(0:Int)=day:=C2
    omega
   ·exact e
  have e1:=zaa n1
  have e2:=zaa n2
  obtain⟨g1,g2,g3,g4,g5,g6,g7⟩:=C1.get e1
  obtain⟨h1,h2,h3,h4,h5,h6,h7⟩:=C2.get e2
  have:=g5 rfl
  have:=h5 rfl
  exact⟨_,_,e1,⋯,⋯,e2,⋯,⋯⟩
 ·intro σ H3 z9;obtain⟨O,k,j,p,v,rfl,s3,hO,cv,p0,pd,ol,kl,jl,hin⟩ := z9
  refine⟨_,rfl,_,rfl,_,_,rfl,rfl,_,rfl,?_⟩
  refine ite2 (λ c=>?_) (λ c=>?_)
  ·have c':p<day:=of_decide_eq_true c
   obtain⟨r1,r2,e1,x1,x2,e2,y1,y2⟩:=hin c'
   obtain⟨g1,g2,g3,g4,g5,g6,g7⟩:=C1.get e1
   obtain⟨h1,h2,h3,h4,h5,h6,h7⟩:=C2.get e2
   obtain⟨us1,u1,u2,u3⟩:=(hS1.same s3).at (K:=K)
   obtain⟨us2,w1,w2,w3⟩:=(hS2.same s3).at (K:=K)
   obtain⟨a1,ua,ub⟩:=u3 k _ e1
   obtain⟨a2,wa,wb⟩:=w3 j _ e2
   obtain⟨q1p,q1q,q1s,q1v⟩:=r1
   obtain⟨q2p,q2q,q2s,q2v⟩:=r2
   have x2':p<=q1q:=x2
   have y2':p<=q2q:=y2
   refine⟨_,rfl,_,rfl,l1,_,_,_,rfl,rfl,SqL.of u1,ua,a1,_,_,_,rfl,rfl,SqT.of ub,rfl,_,rfl,_,rfl,l2,_,_,_,rfl,rfl,SqL.of w1,wa,a2,_,_,_,rfl,rfl,SqT.of wb,rfl,_,_,rfl,?_⟩
   generalize hq:(if q2q<q1q then q2q else q1q)=qq
   have qp:p<=qq:=by rw[<- hq];split<;>omega
   have qa:qq<=q1q:=by rw[<- hq];split<;>omega
   have qb:qq<=q2q:=by rw[<- hq];split<;>omega
   have qe:qq=q1q\/qq=q2q:=by rw[<- hq];split<;>simp
   obtain⟨vs,v1,v2,v3⟩:=hO.lst
   refine⟨_,rfl,.inl ⟨rfl,_,SqL.of v1⟩,_,rfl,_,rfl,_,rfl,_,rfl,l1,_,_,_,rfl,rfl,SqL.of u1,ua,a1,_,_,_,rfl,rfl,SqT.of ub,rfl,_,rfl,_,rfl,l1,_,_,_,rfl,rfl,SqL.of u1,ua,a1,_,_,_,rfl,rfl,SqT.of ub,rfl,
    _,rfl,_,rfl,l2,_,_,_,rfl,rfl,SqL.of w1,wa,a2,_,_,_,rfl,rfl,SqT.of wb,rfl,_,rfl,_,rfl,l2,_,_,_,rfl,rfl,SqL.of w1,wa,a2,_,_,_,rfl,rfl,SqT.of wb,rfl,(by show 6<=sizeLine;decide),λ rn hrn=>?_⟩
   have s4:=qan9 hrn (.tup [.int p,.int qq,.bl q1s,.int q1v,.bl q2s,.int q2v])
   refine⟨pr,vs,.ref rn,rfl,rfl,s4 _ _ v1,qbe9 ⋯,?_⟩
   have hO5:=(hO.same s4).append (x:=(p,qq,q1s,q1v,q2s,q2v)) (s4 _ _ v1) qaf9
   have s5:=qci9 (o:=.lst (vs++[.ref rn])) hpr (s3.trans s4)
   have cv5:Ma.Cov2 f1 f2 0 (O++[(p,qq,q1s,q1v,q2s,q2v)]) (qq+1):=Ma.Cov2.snoc (r:=(p,qq,q1s,q1v,q2s,q2v)) qp (λ x a b=>by
    have a':p<=x:=a
    have b':x<=qq:=b
    exact⟨g4 x (by show q1p<=x;have:q1p<=p:=x1;omega) (by show x<=q1q;omega),h4 x (by show q2p<=x;have:q2p<=p:=y1;omega) (by show x<=q2q;omega)⟩) cv
   generalize upd (upd H3 rn _) pr _=H5 at *
   have hS15:=hS1.same s5
   have hS25:=hS2.same s5
   obtain⟨us1,u1,u2,u3⟩:=hS15.at (K:=K)
   obtain⟨us2,w1,w2,w3⟩:=hS25.at (K:=K)
   obtain⟨a1,ua,ub⟩:=u3 k _ e1
   obtain⟨a2,wa,wb⟩:=w3 j _ e2
   refine⟨λ σ' H'=>H'=H5/\∃k':Nat,σ'=[some (.int day),some (.ref p1),some (.ref p2),some (.ref l1),some (.ref l2),some (.ref pr),some (.int k'),some (.int j),some (.int p),some (.int qq)]/\((qq=q1q/\k'=k+1)\/(qq<q1q/\k'=k)),?_,?_⟩
   ·refine⟨_,rfl,_,rfl,l1,_,_,_,rfl,rfl,SqL.of u1,ua,a1,_,_,_,rfl,rfl,SqT.of ub,rfl,_,rfl,rfl,_,rfl,?_⟩
    refine ite2 (λ z=>?_) (λ z=>?_)
    ·have z':=of_decide_eq_true z
     injection z' with z'
     exact⟨_,rfl,_,_,rfl,rfl,rfl,k+1,rfl,.inl ⟨z'.symm,rfl⟩⟩
    ·have z':¬q1q=qq:=λ e=>z (decide_eq_true (by rw[e]))
     exact⟨rfl,k,rfl,.inr ⟨⋯,rfl⟩⟩
   intro σ' H6 z9;obtain⟨rfl,k',rfl,hk'⟩ := z9
   refine⟨λ σ' H'=>H'=H6/\∃j':Nat,σ'=[some (.int day),some (.ref p1),some (.ref p2),some (.ref l1),some (.ref l2),some (.ref pr),some (.int k'),some (.int j'),some (.int p),some (.int qq)]/\((qq=q2q/\j'=j+1)\/(qq<q2q/\j'=j)),?_,?_⟩
   ·refine⟨_,rfl,_,rfl,l2,_,_,_,rfl,rfl,SqL.of w1,wa,a2,_,_,_,rfl,rfl,SqT.of wb,rfl,_,rfl,rfl,_,rfl,?_⟩
    refine ite2 (λ z=>?_) (λ z=>?_)
    ·have z':=of_decide_eq_true z
     injection z' with z'
     exact⟨_,rfl,_,_,rfl,rfl,rfl,j+1,rfl,.inl ⟨z'.symm,rfl⟩⟩
    ·have z':¬q2q=qq:=λ e=>z (decide_eq_true (by rw[e]))
     exact⟨rfl,j,rfl,.inr ⟨⋯,rfl⟩⟩
   intro σ' H7 z9;obtain⟨rfl,j',rfl,hj'⟩ := z9
   have kS:k<S1.length:=(zab.mp e1).1
   have jS:j<S2.length:=(zab.mp e2).1
   refine⟨_,rfl,_,_,rfl,rfl,⟨_,k',j',qq+1,_,rfl,s5,hO5,cv5,⋯,?_,?_,⋯,⋯,λ lt=>?_⟩,?_⟩
   ·have:q1q<day:=g3
    omega
   ·rw[zal,zbh]
    omega
   ·have A:∃r1,S1[k']?=some r1/\r1.1<=qq+1/\qq+1<=r1.2.1:=by
     rcases hk' with⟨z,rfl⟩|⟨z,rfl⟩
     ·have hk1:k+1<S1.length:=by
       rcases(by omega:k+1<S1.length\/k+1=S1.length) with y|y
       ·exact y
       ·have:=g7 y
        have:q1q+1=day:=this
        omega
      have e:=zaa hk1
      have:=g6 _ e
      have:=(C1.get e).2.1
      have:(S1[k+1]).1=q1q+1:=g6 _ e
      exact⟨_,e,⋯,⋯⟩
     ·exact⟨_,e1,by show q1p<=qq+1;have:q1p<=p:=x1;omega,by show qq+1<=q1q;omega⟩
    have A2:∃r2,S2[j']?=some r2/\r2.1<=qq+1/\qq+1<=r2.2.1:=by
     rcases hj' with⟨z,rfl⟩|⟨z,rfl⟩
     ·have hk1:j+1<S2.length:=by
       rcases(by omega:j+1<S2.length\/j+1=S2.length) with y|y
       ·exact y
       ·have:=h7 y
        have:q2q+1=day:=this
        omega
      have e:=zaa hk1
      have:=(C2.get e).2.1
      have:(S2[j+1]).1=q2q+1:=h6 _ e
      exact⟨_,e,⋯,⋯⟩
     ·exact⟨_,e2,by show q2p<=qq+1;have:q2p<=p:=y1;omega,by show qq+1<=q2q;omega⟩
    obtain⟨r1',b1,b2,b3⟩:=A
    obtain⟨r2',d1,d2,d3⟩:=A2
    exact⟨r1',r2',b1,b2,b3,d1,d2,d3⟩
   ·show(day-(qq+1)).toNat<(day-p).toNat
    omega
  ·have c':¬p<day:=λ z=>c (decide_eq_true z)
   have e:p=day:=⋯
   subst e
   refine⟨_,rfl,q pr O H3 (s02.trans s3) (s02.free hpr) hO ⋯ cv⟩
 ·intro σ H' Q1 Q2 hq z9;obtain⟨v,e1,v',e2,i,j,e3,e4,k,e5,q1⟩ := z9
  exact⟨v,e1,v',e2,i,j,e3,e4,k,e5,hq _ _ q1⟩
theorem ok_picked(F:Fun K "picked" "picked" qez9 f fd)(B:Bl mg):FnOk P w K mg base CX0 (n+1) f fd ["p","q","waiting","riding","late"] spPicked:=by
 refine F.okQ sc_picked (λ vs H Q E h=>?_) (λ cdv A outer s H vs Q E hr h=>?_)
 ·obtain⟨_,_,_,_,_,rfl,_⟩:=h
  rfl
 obtain⟨p,qq,wt,rd,late,rfl,q⟩:=h
 refine⟨_,(qab9 (qai9 (i:=5) sc_picked.nd rfl (zai rfl) (qe_op qdf9 (qv 2) (qv 3))) (qab9 (qai9 (i:=6) sc_picked.nd rfl (zai rfl) (qbd9 (qa_c (qv 0) (qa_c (qe_cb (qdw9 rfl) rfl B.min bt_min (qa_c (qv 1) (qa_c (qv 5) qaa9))) (qa_c (qv 4) (qa_c (qkt9 (qdt9 (qcb9 (qv 4)) (qv 2) (qv 3))) qaa9)))))) (qab9 (qai9 (i:=7) sc_picked.nd rfl (zai rfl) (qbd9 (qa_c (qe_cb (qgn9 rfl) rfl B.max qmn9 (qa_c (qv 0) (qa_c (qe_op qav9 (qv 5) qac9) qaa9))) (qa_c (qv 1) (qa_c (qe_not (qv 4)) (qa_c (qkt9 (qdt9 (qcb9 (qv 4)) (qv 3) (qv 2))) qaa9)))))) (qae9 (qao9 (qe_compIf ["part"] [none] (BlkOk.of rfl rfl (SubL.to subN) rfl) rfl (qi_tup (qbd9 (qa_c (qv 6) (qa_c (qv 7) qaa9)))) (λ _ _ _ _=>(qar9 (i:=0) (show(["part"]:List Str).Nodup by decide) rfl (zai rfl))) (λ _ _ _ _=>(qam9 qhe9 (qe_ix (qkc9 K rfl) (qv 0) qac9 (λ _ _=>rfl)) (qe_ix (qkc9 K rfl) (qv 0) qac9 (λ _ _=>rfl)) (qau9 _))) (λ _ _ _ _=>(qv 0)))))))),?_⟩
 walk_at "d"
 refine⟨_,rfl,_,rfl,_,_,rfl,rfl,?_⟩
 refine⟨_,rfl,_,rfl,_,rfl,_,_,rfl,_,rfl,?_⟩
 refine⟨λ v H'=>H'=H/\v=.int (if late=true then wt else rd),?_,?_⟩
 ·refine⟨_,rfl,_,rfl,?_⟩
  cases late
  ·exact iteF ⟨_,rfl,rfl,rfl⟩
  ·exact iteT ⟨_,rfl,rfl,rfl⟩
 intro v H1 z9;obtain⟨rfl,rfl⟩ := z9
 refine⟨(by show 4<=sizeLine;decide),λ ra hra=>?_⟩
 generalize hgH2:upd _ ra _=H2
 revert H2
 refine qal9 hra λ H2 s2 e2=>?_
 refine⟨_,rfl,_,rfl,_,_,rfl,rfl,_,_,rfl,_,rfl,_,rfl,_,rfl,?_⟩
 refine⟨λ v H'=>H'=H2/\v=.int (if late=true then rd else wt),?_,?_⟩
 ·refine⟨_,rfl,_,rfl,?_⟩
  cases late
  ·exact iteF ⟨_,rfl,rfl,rfl⟩
  ·exact iteT ⟨_,rfl,rfl,rfl⟩
 intro v H2 z9;obtain⟨rfl,rfl⟩ := z9
 refine⟨(by show 4<=sizeLine;decide),λ rt hrt=>?_⟩
 generalize hgH3:upd _ rt _=H3
 revert H3
 refine qal9 hrt λ H3 s3 e3=>?_
 have e23:=s3 _ _ e2
 refine⟨_,rfl,_,rfl,(by show 2<=sizeLine;decide),λ rp hrp=>?_⟩
 generalize hgH4:upd _ rp _=H4
 revert H4
 refine qal9 hrp λ H4 s4 e4=>?_
 have e24:=s4 _ _ e23
 have e34:=s4 _ _ e3
 have s14:=(s2.trans s3).trans s4
 unfold Ma.pickL at q
 generalize hx1:(if wt-rd<qq then wt-rd else qq)=x1 at *
 generalize hx2:(if wt-rd+1>p then wt-rd+1 else p)=x2 at *
 generalize (if late=true then wt else rd)=v1 at *
 generalize (if late=true then rd else wt)=v2 at *
 refine⟨rp,rfl,⟨_,SqT.of e4⟩,?_⟩
 refine qqa9 (K:=K) (a:=rp) (xs:=[.ref ra,.ref rt]) (λ D i H'=>Same H4 H'/\LA enc4 H' D (if i=0 then [] else if i=1 then(if p<=x1 then [(p,x1,late,v1)] else []) else(if p<=x1 then [(p,x1,late,v1)] else [])++(if x2<=qq then [(x2,qq,!late,v2)] else [])))
  (λ D hD=>⟨qan9 hD _,LA.nil qaf9⟩) (λ D i H' _ _ h=>SqT.of (h.1 _ _ e4)) ?_ ?_
 ·intro D i y H' hD hi z9;obtain⟨sD,hD2⟩ := z9
  obtain⟨ds,hd1,hd2,hd3⟩:=hD2.lst
  refine⟨λ k v e=>?_,?_⟩
  ·match k,e with
   |0,e=>cases e
   |k+1,e=>cases e
  match i,hi with
  |0,hi =>
   have ey:y=.ref ra:=by simpa using hi.symm
   subst ey
   have er:=sD _ _ e24
   refine⟨_,rfl,ra,_,_,_,rfl,rfl,SqT.of er,rfl,_,rfl,ra,_,_,_,rfl,rfl,SqT.of er,rfl,_,_,rfl,rfl,_,rfl,?_⟩
   refine ite2 (λ c=>?_) (λ c=>?_)
   ·refine⟨_,rfl,ds,hd1,qbe9 (by rw[hd2];simp),qci9 hD sD,?_⟩
    have c':p<=x1:=of_decide_eq_true c
    have:=hD2.append (x:=(p,x1,late,v1)) hd1 er
    simpa [c'] using this
   ·have c':¬p<=x1:=λ z=>c (decide_eq_true z)
    exact⟨sD,by simpa [c'] using hD2⟩
  |1,hi =>
   have ey:y=.ref rt:=by simpa using hi.symm
   subst ey
   have er:=sD _ _ e34
   refine⟨_,rfl,rt,_,_,_,rfl,rfl,SqT.of er,rfl,_,rfl,rt,_,_,_,rfl,rfl,SqT.of er,rfl,_,_,rfl,rfl,_,rfl,?_⟩
   refine ite2 (λ c=>?_) (λ c=>?_)
   ·refine⟨_,rfl,ds,hd1,qbe9 (by rw[hd2];simp;split<;>simp),qci9 hD sD,?_⟩
    have c':x2<=qq:=of_decide_eq_true c
    have:=hD2.append (x:=(x2,qq,!late,v2)) hd1 er
    simpa [c'] using this
   ·have c':¬x2<=qq:=λ z=>c (decide_eq_true z)
    exact⟨sD,by simpa [c'] using hD2⟩
  |k+2,hi=>simp at hi
 ·intro D H' hD z9;obtain⟨sD,hD2⟩ := z9
  exact q D H' (s14.trans sD) (s14.free hD) (by simpa using hD2)
theorem ok_joined(F:Fun K "joined" "joined" qfe9 f fd)(B:Bl mg)(Cy0:Callee P w K mg base n "overlay" ["day","one","other"] spOverlay)(Cn1:Callee P w K mg base n "picked" ["p","q","waiting","riding","late"] spPicked)(Ck0:Callee P w K mg base n "clock_from" ["day","rows"] spClockFrom) :
  FnOk P w K mg base CX0 (n+1) f fd ["day","one","other","late"] spJoined:=by
 refine F.okQ sc_joined (λ vs H Q E h=>?_) (λ cdv A outer s H vs Q E hr h=>?_)
 ·obtain⟨_,_,_,_,_,_,_,_,rfl,_⟩:=h
  rfl
 obtain⟨day,p1,p2,late,R1,R2,f1,f2,rfl,hR1,hR2,hl1,hl2,ck1,ck2,T1,T2,q⟩:=h
 refine⟨_,(qab9 (qai9 (i:=4) sc_joined.nd rfl (zai rfl) (qbj9 qaa9)) (qab9 (qeo9 PassesOwn.never rfl (qcv9 (qe_fn Cy0 hr rfl (qa_c (qv 0) (qa_c (qv 1) (qa_c (qv 2) qaa9))))) (qgw9 rfl (qaw9 (qar9 (i:=5) sc_joined.nd rfl (zai rfl)) (qaw9 (qar9 (i:=6) sc_joined.nd rfl (zai rfl)) (qaw9 (qar9 (i:=7) sc_joined.nd rfl (zai rfl)) (qaw9 (qar9 (i:=8) sc_joined.nd rfl (zai rfl)) (qaw9 (qar9 (i:=9) sc_joined.nd rfl (zai rfl)) (qaw9 (qar9 (i:=10) sc_joined.nd rfl (zai rfl)) qed9))))))) (qae9 (qs_if (qam9 qcf9 (qv 7) (qv 9) (qau9 _)) (qae9 (qbi9 (qbv9 (qv 4) (qa_c (qbd9 (qa_c (qv 5) (qa_c (qv 6) (qa_c (qv 7) (qa_c (qkt9 (qdt9 (qcb9 (qv 3)) (qe_cb (qgn9 rfl) rfl B.max qmn9 (qa_c (qv 8) (qa_c (qv 10) qaa9))) (qe_cb (qdw9 rfl) rfl B.min bt_min (qa_c (qv 8) (qa_c (qv 10) qaa9))))) qaa9))))) qaa9)))) (qae9 (qs_if (qcb9 (qv 7)) (qae9 (qbi9 (qif9 (qv 4) (qa_c (qe_fn Cn1 hr rfl (qa_c (qv 5) (qa_c (qv 6) (qa_c (qv 8) (qa_c (qv 10) (qa_c (qv 3) qaa9)))))) qaa9)))) (qae9 (qbi9 (qif9 (qv 4) (qa_c (qe_fn Cn1 hr rfl (qa_c (qv 5) (qa_c (qv 6) (qa_c (qv 10) (qa_c (qv 8) (qa_c (qv 3) qaa9)))))) qaa9))))))))) (qae9 (qao9 (qe_fn Ck0 hr rfl (qa_c (qv 0) (qa_c (qv 4) qaa9))))))),?_⟩
 walk_at "d"
 refine⟨(by show 0<=sizeLine;decide),λ pr hpr=>?_⟩
 have s0:Same H (upd H pr (.lst [])):=qan9 hpr _
 refine⟨_,rfl,_,rfl,_,rfl,day,p1,p2,R1,R2,f1,f2,rfl,hR1.same s0,hR2.same s0,hl1,hl2,ck1,ck2,T1,T2,λ lo O H1 s1 fr1 hO hOl cv=>?_⟩
 have er1:H1 pr=some (.lst []):=s1 _ _ qaf9
 have nlo:lo≠pr:=λ e=>by rw[e,qaf9] at fr1;cases fr1
 have s01:=s0.trans s1
 clear fr1 s1
 obtain⟨ws,hw1,hw2,hw3⟩:=hO.lst
 have nws:∀(i:Nat) r,ws[i]?=some (.ref r)->r≠pr:=λ i r e z=>by
  obtain⟨r',x,e1,_,e2⟩:=hw3 i _ e
  cases e1
  rw[z,er1] at e2
  cases e2
 have rg:=Ma.rise_jn late (ck1.rise T1) (ck2.rise T2)
 refine⟨lo,rfl,⟨_,SqL.of hw1⟩,qex9 (K:=K) (a:=lo) (xs:=ws)
  (λ i σ H'=>∃(S:List T4)(at_:Int)(v1 v2 v3 v4 v5 v6:Option V),σ=[some (.int day),some (.ref p1),some (.ref p2),some (.bl late),some (.ref pr),v1,v2,v3,v4,v5,v6]/\Same H H'/\SameT pr H1 H'/\LA enc4 H' pr S/\S.length<=2*i/\Ma.Cov (λ x=>Ma.jn late (f1 x) (f2 x)) 0 S at_/\(∀r,O[i]?=some r->r.1=at_)/\(i=O.length->at_=day))
  ⟨[],0,_,_,_,_,_,_,rfl,s01,λ b o e _=>e,LA.nil er1,by simp,rfl,λ r e=>(cv.get e).2.2.2.2.1 rfl,λ e=>?_⟩
  (λ i σ H' _ z9=>by obtain⟨_,_,_,_,_,_,_,_,_,_,s1,_⟩ := z9;exact SqL.of (s1 _ _ hw1 nlo)) ?_ ?_⟩
 ·rw[zay.mp e.symm] at cv
  exact cv
 ·intro i y σ H2 hi z9;obtain⟨S,at_,v1,v2,v3,v4,v5,v6,rfl,sH,s2,hS,hSl,hC,hat,_⟩ := z9
  obtain⟨r,x,rfl,ex,er⟩:=hw3 i y hi
  have e1:=hat x ex
  obtain⟨g1,g2,g3,g4,g5,g6,g7⟩:=cv.get ex
  have er2:=s2 _ _ er (nws i r hi)
  have hi2:i<O.length:=(zab.mp ex).1
  have jr:=Ma.joinRow_cov (late:=late) g2 g4
  rw[e1] at jr
  have hC2:=hC.append jr
  have jl:=Ma.joinRow_len late x
  obtain⟨us,hu1,hu2,hu3⟩:=hS.lst
  have fin:∀(H4:Hp)(u1 u2 u3 u4 u5 u6:Option V),SameT pr H2 H4->LA enc4 H4 pr (S++Ma.joinRow late x)->∃(S:List T4)(at_:Int)(v1 v2 v3 v4 v5 v6:Option V),[some (.int day),some (.ref p1),some (.ref p2),some (.bl late),some (.ref pr),u1,u2,u3,u4,u5,u6]=[some (.int day),some (.ref p1),some (.ref p2),some (.bl late),some (.ref pr),v1,v2,v3,v4,v5,v6]/\Same H H4/\SameT pr H1 H4/\LA enc4 H4 pr S/\S.length<=2*(i+1)/\Ma.Cov (λ x=>Ma.jn late (f1 x) (f2 x)) 0 S at_/\(∀r,O[i+1]?=some r->r.1=at_)/\(i+1=O.length->at_=day):=by
   intro H4 u1 u2 u3 u4 u5 u6 s4 h4
   refine⟨_,_,u1,u2,u3,u4,u5,u6,rfl,λ b o e=>s4 _ _ (sH _ _ e) (qbc9 e hpr),λ b o e nb=>s4 _ _ (s2 _ _ e nb) nb,h4,?_,hC2,λ r' e'=>g6 r' e',λ e=>g7 e⟩
   rw[zal]
   omega
  obtain⟨xp,xq,xs,xv,xs',xv'⟩:=x
  unfold Ma.joinRow at fin
  dsimp only at fin
  refine⟨r,_,rfl,SqT.of er2,rfl,_,_,rfl,_,_,rfl,_,_,rfl,_,_,rfl,_,_,rfl,_,_,rfl,rfl,?_⟩
  refine⟨_,rfl,_,rfl,rfl,_,rfl,?_⟩
  refine ite2 (λ c=>?_) (λ c=>?_)
  ·have c':xs=xs':=by
    have:=of_decide_eq_true c
    injection this
   rw[if_pos c'] at fin
   refine⟨_,rfl,.inl ⟨rfl,_,SqL.of hu1⟩,_,rfl,_,rfl,_,rfl,?_⟩
   refine⟨λ v H'=>H'=H2/\v=.int (Ma.jn late xv xv'),?_,?_⟩
   ·refine⟨_,rfl,_,rfl,?_⟩
    unfold Ma.jn
    cases late
    ·exact iteF ⟨_,rfl,_,rfl,_,_,rfl,rfl,rfl⟩
    ·exact iteT ⟨_,rfl,_,rfl,_,_,rfl,rfl,rfl⟩
   intro v H3 z9;obtain⟨rfl,rfl⟩ := z9
   refine⟨(by show 4<=sizeLine;decide),λ rn hrn=>?_⟩
   have s4:=qan9 hrn (.tup [.int xp,.int xq,.bl xs,.int (Ma.jn late xv xv')])
   refine⟨pr,us,.ref rn,rfl,rfl,s4 _ _ hu1,qbe9 ⋯,?_⟩
   refine fin _ _ _ _ _ _ _ (λ b o e nb=>?_) ((hS.same s4).append (x:=(xp,xq,xs,Ma.jn late xv xv')) (s4 _ _ hu1) qaf9)
   rw[qaq9 nb]
   exact s4 _ _ e
  ·have c':¬xs=xs':=λ e=>c (decide_eq_true (by rw[e]))
   rw[if_neg c'] at fin
   refine⟨_,rfl,_,rfl,?_⟩
   have ext:∀(L:List T4),L.length<=2->(∀(H4:Hp)(u1 u2 u3 u4 u5 u6:Option V),SameT pr H2 H4->LA enc4 H4 pr (S++L)->∃(S:List T4)(at_:Int)(v1 v2 v3 v4 v5 v6:Option V),[some (.int day),some (.ref p1),some (.ref p2),some (.bl late),some (.ref pr),u1,u2,u3,u4,u5,u6]=[some (.int day),some (.ref p1),some (.ref p2),some (.bl late),some (.ref pr),v1,v2,v3,v4,v5,v6]/\Same H H4/\SameT pr H1 H4/\LA enc4 H4 pr S/\S.length<=2*(i+1)/\Ma.Cov (λ x=>Ma.jn late (f1 x) (f2 x)) 0 S at_/\(∀r,O[i+1]?=some r->r.1=at_)/\(i+1=O.length->at_=day)) ->
     ∀(l:Addr)(H3:Hp),Same H2 H3->LA enc4 H3 l L->∀(u1 u2 u3 u4 u5 u6:Option V),∃(l2 b:Addr)(ys zs:List V),V.ref pr=.ref l2/\[V.ref l]=[.ref b]/\H3 l2=some (.lst ys)/\H3 b=some (.lst zs)/\ys.length+zs.length<=sizeLine/\∃(S:List T4)(at_:Int)(v1 v2 v3 v4 v5 v6:Option V),[some (.int day),some (.ref p1),some (.ref p2),some (.bl late),some (.ref pr),u1,u2,u3,u4,u5,u6]=[some (.int day),some (.ref p1),some (.ref p2),some (.bl late),some (.ref pr),v1,v2,v3,v4,v5,v6]/\Same H (upd H3 l2 (.lst (ys++zs)))/\SameT pr H1 (upd H3 l2 (.lst (ys++zs)))/\LA enc4 (upd H3 l2 (.lst (ys++zs))) pr S/\S.length<=2*(i+1)/\Ma.Cov (λ x=>Ma.jn late (f1 x) (f2 x)) 0 S at_/\(∀r,O[i+1]?=some r->r.1=at_)/\(i+1=O.length->at_=day):=by
    intro L hL fin' l H3 s3 hl u1 u2 u3 u4 u5 u6
    obtain⟨zs,z1,z2,z3⟩:=hl.lst
    refine⟨pr,l,us,zs,rfl,rfl,s3 _ _ hu1,z1,?_,fin' _ _ _ _ _ _ _ (λ b o e nb=>?_) ((hS.same s3).extend hl (s3 _ _ hu1) z1)⟩
    ·have:=qbe9 (n:=us.length+zs.length) ⋯
     omega
    ·rw[qaq9 nb]
     exact s3 _ _ e
   cases xs with
   |true =>
    rw[if_pos rfl] at fin
    refine iteT ⟨_,rfl,.inl ⟨rfl,_,SqL.of hu1⟩,_,rfl,_,rfl,_,rfl,_,rfl,_,rfl,xp,xq,xv,xv',late,rfl,λ l H3 s3 _ hl=>?_⟩
    exact ext _ (Ma.pick_len ..) fin l H3 s3 hl _ _ _ _ _ _
   |false =>
    rw[if_neg (by decide)] at fin
    refine iteF ⟨_,rfl,.inl ⟨rfl,_,SqL.of hu1⟩,_,rfl,_,rfl,_,rfl,_,rfl,_,rfl,xp,xq,xv',xv,late,rfl,λ l H3 s3 _ hl=>?_⟩
    exact ext _ (Ma.pick_len ..) fin l H3 s3 hl _ _ _ _ _ _
 ·intro σ H2 z9;obtain⟨S,at_,v1,v2,v3,v4,v5,v6,rfl,sH,s2,hS,hSl,hC,hat,hend⟩ := z9
  have e:=hend hw2
  subst e
  refine⟨_,rfl,_,rfl,at_,pr,S,_,rfl,hS,⋯,ck1.d0,rg,hC,λ l R H3 s3 fl hR hRl can=>?_⟩
  exact q l R H3 (sH.trans s3) (sH.free fl) hR ⋯ can
theorem ok_sooner(F:Fun K "sooner" "sooner" qfb9 f fd)(B:Bl mg)(Cc1:Callee P w K mg base n "joined" ["day","one","other","late"] spJoined):FnOk P w K mg base CX0 (n+1) f fd ["day","one","other"] (spTwo Ma.omin):=by
 refine F.okQ sc_sooner (λ vs H Q E h=>?_) (λ cdv A outer s H vs Q E hr h=>?_)
 ·obtain⟨_,_,_,_,_,rfl,_⟩:=h
  rfl
 obtain⟨day,p1,p2,R1,R2,rfl,hR1,hR2,hl1,hl2,ck1,ck2,q⟩:=h
 refine⟨_,(qab9 (qs_if (qhb9 (QW.pt (qw_or (qam9 qcf9 (qe_cb qap9 rfl B.len qcc9 (qa_c (qv 1) qaa9)) qac9 (qau9 _)) (qer9 (qam9 qcf9 (qe_cb qap9 rfl B.len qcc9 (qa_c (qv 2) qaa9)) qac9 (qau9 _)))))) (qae9 (qao9 (qe_op qge9 (qv 1) (qv 2)))) qat9) (qae9 (qao9 (qe_fn Cc1 hr rfl (qa_c (qv 0) (qa_c (qv 1) (qa_c (qv 2) (qa_c qe_bl qaa9)))))))),?_⟩
 walk_at "d"
 obtain⟨us,hu1,hu2,hu3⟩:=hR1.lst
 obtain⟨ws,hw1,hw2,hw3⟩:=hR2.lst
 refine⟨λ b H'=>H'=H/\b=decide (R1=[]\/R2=[]),?_,?_⟩
 ·refine⟨_,rfl,p1,_,rfl,.inl (SqL.of hu1),rfl,_,rfl,?_⟩
  refine ite2 (λ c=>?_) (λ c=>?_)
  ·have c':=of_decide_eq_true c
   injection c' with c'
   have e:R1=[]:=zay.mp ⋯
   exact⟨rfl,by simp[e]⟩
  ·have n1:R1≠[]:=λ e=>c (decide_eq_true (by rw[hu2,e];rfl))
   refine⟨_,rfl,p2,_,rfl,.inl (SqL.of hw1),rfl,_,rfl,rfl,?_⟩
   rw[hw2]
   cases R2 with
   |nil=>simp
   |cons x r=>simp[n1];omega
 intro b H1 z9;obtain⟨rfl,rfl⟩ := z9
 refine ite2 (λ c=>?_) (λ c=>?_)
 ·have c':=of_decide_eq_true c
  refine⟨_,rfl,_,rfl,p1,p2,us,ws,rfl,rfl,hu1,hw1,?_,λ l hl=>?_⟩
  ·have:=qbe9 (n:=us.length+ws.length) ⋯
   omega
  refine q l (R1++R2) _ (qan9 hl _) hl (hR1.cat hR2 hu1 hw1 hl) (by rw[zal];omega) ?_ (λ t=>Ma.bt_append day R1 R2 t)
  rcases c' with e|e
  ·rw[e];exact ck2
  ·rw[e,zbr];exact ck1
 ·have c':¬(R1=[]\/R2=[]):=λ z=>c (decide_eq_true z)
  have n1:R1≠[]:=λ e=>c' (.inl e)
  have n2:R2≠[]:=λ e=>c' (.inr e)
  have T1:=Ma.tells_bf (d:=day) n1
  have T2:=Ma.tells_bf (d:=day) n2
  refine⟨_,rfl,_,rfl,_,rfl,day,p1,p2,false,R1,R2,_,_,rfl,hR1,hR2,hl1,hl2,ck1,ck2,T1,T2,λ l R H2 s2 fl hR hRl can=>?_⟩
  have rg:=Ma.rise_jn false (ck1.rise T1) (ck2.rise T2)
  exact q l R H2 s2 fl hR hRl (can.ck ck1.d0 rg) λ t=>by rw[can.tells ck1.d0 rg t,T1.min T2 t]
theorem ok_later(F:Fun K "later" "later" qfw9 f fd)(B:Bl mg)(Cc1:Callee P w K mg base n "joined" ["day","one","other","late"] spJoined):FnOk P w K mg base CX0 (n+1) f fd ["day","one","other"] (spTwo Ma.omax):=by
 refine F.okQ sc_later (λ vs H Q E h=>?_) (λ cdv A outer s H vs Q E hr h=>?_)
 ·obtain⟨_,_,_,_,_,rfl,_⟩:=h
  rfl
 obtain⟨day,p1,p2,R1,R2,rfl,hR1,hR2,hl1,hl2,ck1,ck2,q⟩:=h
 refine⟨_,(qab9 (qs_if (qhb9 (QW.pt (qw_or (qam9 qcf9 (qe_cb qap9 rfl B.len qcc9 (qa_c (qv 1) qaa9)) qac9 (qau9 _)) (qer9 (qam9 qcf9 (qe_cb qap9 rfl B.len qcc9 (qa_c (qv 2) qaa9)) qac9 (qau9 _)))))) (qae9 (qao9 (qbj9 qaa9))) qat9) (qae9 (qao9 (qe_fn Cc1 hr rfl (qa_c (qv 0) (qa_c (qv 1) (qa_c (qv 2) (qa_c qe_bl qaa9)))))))),?_⟩
 walk_at "d"
 obtain⟨us,hu1,hu2,hu3⟩:=hR1.lst
 obtain⟨ws,hw1,hw2,hw3⟩:=hR2.lst
 refine⟨λ b H'=>H'=H/\b=decide (R1=[]\/R2=[]),?_,?_⟩
 ·refine⟨_,rfl,p1,_,rfl,.inl (SqL.of hu1),rfl,_,rfl,?_⟩
  refine ite2 (λ c=>?_) (λ c=>?_)
  ·have c':=of_decide_eq_true c
   injection c' with c'
   have e:R1=[]:=zay.mp ⋯
   exact⟨rfl,by simp[e]⟩
  ·have n1:R1≠[]:=λ e=>c (decide_eq_true (by rw[hu2,e];rfl))
   refine⟨_,rfl,p2,_,rfl,.inl (SqL.of hw1),rfl,_,rfl,rfl,?_⟩
   rw[hw2]
   cases R2 with
   |nil=>simp
   |cons x r=>simp[n1];omega
 intro b H1 z9;obtain⟨rfl,rfl⟩ := z9
 refine ite2 (λ c=>?_) (λ c=>?_)
 ·have c':=of_decide_eq_true c
  refine⟨(by show 0<=sizeLine;decide),λ l hl=>?_⟩
  refine q l [] _ (qan9 hl _) hl (LA.nil qaf9) (by simp) (Ma.ck_nil ck1.d0) λ t=>?_
  rcases c' with e|e
  ·rw[e];rfl
  ·rw[e,Ma.bt_nil];cases Ma.bt day R1 t<;>rfl
 ·have c':¬(R1=[]\/R2=[]):=λ z=>c (decide_eq_true z)
  have n1:R1≠[]:=λ e=>c' (.inl e)
  have n2:R2≠[]:=λ e=>c' (.inr e)
  have T1:=Ma.tells_bf (d:=day) n1
  have T2:=Ma.tells_bf (d:=day) n2
  refine⟨_,rfl,_,rfl,_,rfl,day,p1,p2,true,R1,R2,_,_,rfl,hR1,hR2,hl1,hl2,ck1,ck2,T1,T2,λ l R H2 s2 fl hR hRl can=>?_⟩
  have rg:=Ma.rise_jn true (ck1.rise T1) (ck2.rise T2)
  exact q l R H2 s2 fl hR hRl (can.ck ck1.d0 rg) λ t=>by rw[can.tells ck1.d0 rg t,T1.max T2 t]
inductive spWithin(m:Nat)(vs:List V)(H:Hp)(Q:VK)(z3q:XK):Prop
 |mk (day:Int) (p:Addr) (R:List T3):vs=[.int day,.ref p]->LA enc3 H p R->R.length<=2 ^ m->R.length<=900000->0<day->Ma.Wins day R->(∀(l:Addr)(R':List T3)(H':Hp),Same H H'->H l=none->LA enc3 H' l R'->R'.length<=2*R.length+1->Ma.CK day R'->(∀t,Ma.bt day R' t=Ma.bt day R t)->Q (.ref l) H')->spWithin m vs H Q z3q
theorem qpt9(hd:0<d)(hW:Ma.Wins d R)(hl:R.length<=1):Ma.CK d R:=match R,hl,hW with
 | [],_,_=>Ma.ck_nil hd
 | [x],_,hW=>Ma.ck_one hd (hW x (zag.mpr rfl))
theorem qle9(F:Fun K "clock_within" "clock_within" qbm9 f fd)(B:Bl mg)(bd:Binds K fd ["day","board"] [])(kp:W.keepIn K (.ref f)=true)(mgf:mg "clock_within"=some (.ref f))(Cp2:Callee P w K mg base n "sooner" ["day","one","other"] (spTwo Ma.omin)) :
  ∀m,FnOk P w K mg base CX0 (n+m+1) f fd ["day","board"] (spWithin m)
 |0=>by
  refine F.okQ sc_clock_within (λ vs H Q E h=>?_) (λ cdv A outer s H vs Q E hr h=>?_)
  ·obtain⟨_,_,_,rfl,_⟩:=h
   rfl
  obtain⟨day,p,R,rfl,hR,hl,hl9,hd,hW,q⟩:=h
  have Cf0:Callee P w K mg base (n+0) "sooner" ["day","one","other"] (λ _ _ _ _=>False):=by
   obtain⟨f,fd,G,b,kp,m⟩:=Cp2.ex
   exact⟨f,fd,⟨λ _ _ _ _ h=>h.elim,λ _ _ _ _ _ _ _ _ _ _ _ _ _ h=>h.elim⟩,b,kp,m⟩
  have Ce0:Callee P w K mg base (n+0) "clock_within" ["day","board"] (λ _ _ _ _=>False):=⟨f,fd,⟨λ _ _ _ _ h=>h.elim,λ _ _ _ _ _ _ _ _ _ _ _ _ _ h=>h.elim⟩,bd,kp,mgf⟩
  refine⟨_,(qab9 (qs_if (qam9 qel9 (qe_cb qap9 rfl B.len qcc9 (qa_c (qv 1) qaa9)) qac9 (qau9 _)) (qae9 (qao9 (qe_ct qgv9 rfl B.list_ qfy9 (qa_c (qv 1) qaa9)))) qat9) (qab9 (qai9 (i:=2) sc_clock_within.nd rfl (zai rfl) (qe_op qbb9 (qe_cb qap9 rfl B.len qcc9 (qa_c (qv 1) qaa9)) qac9)) (qae9 (qao9 (qe_fn Cf0 hr rfl (qa_c (qv 0) (qa_c (qe_fn Ce0 hr rfl (qa_c (qv 0) (qa_c (qjh9 (qv 1) qgb9 (qga9 (qv 2))) qaa9))) (qa_c (qe_fn Ce0 hr rfl (qa_c (qv 0) (qa_c (qjh9 (qv 1) (qga9 (qv 2)) qgb9) qaa9))) qaa9)))))))),?_⟩
  walk_at "d"
  obtain⟨us,hu1,hu2,hu3⟩:=hR.lst
  have hl':R.length<=1:=hl
  refine⟨_,rfl,p,_,rfl,.inl (SqL.of hu1),_,_,rfl,rfl,_,rfl,iteP (decide_eq_true (by show((us.length:Nat):Int)<2;omega)) ?_⟩
  refine⟨_,rfl,p,_,rfl,.inl (SqL.of hu1),λ pl hpl=>?_⟩
  generalize hgH1:upd _ pl _=H1
  revert H1
  refine qal9 hpl λ H1 s1 e1=>?_
  have hR1:=hR.copy s1 hu1 e1
  refine q pl R H1 s1 hpl hR1 ⋯ ?_ λ t=>rfl
  exact qpt9 hd hW hl'
 |m+1=>by
  have Ce0:Callee P w K mg base (n+m+1) "clock_within" ["day","board"] (spWithin m):=Callee.mk' (qle9 F B bd kp mgf Cp2 m) bd kp mgf
  have Cf0:=Cp2.up (show n<=n+m+1 by omega)
  refine F.okQ sc_clock_within (λ vs H Q E h=>?_) (λ cdv A outer s H vs Q E hr h=>?_)
  ·obtain⟨_,_,_,rfl,_⟩:=h
   rfl
  obtain⟨day,p,R,rfl,hR,hl,hl9,hd,hW,q⟩:=h
  refine⟨_,(qab9 (qs_if (qam9 qel9 (qe_cb qap9 rfl B.len qcc9 (qa_c (qv 1) qaa9)) qac9 (qau9 _)) (qae9 (qao9 (qe_ct qgv9 rfl B.list_ qfy9 (qa_c (qv 1) qaa9)))) qat9) (qab9 (qai9 (i:=2) sc_clock_within.nd rfl (zai rfl) (qe_op qbb9 (qe_cb qap9 rfl B.len qcc9 (qa_c (qv 1) qaa9)) qac9)) (qae9 (qao9 (qe_fn Cf0 hr rfl (qa_c (qv 0) (qa_c (qe_fn Ce0 hr rfl (qa_c (qv 0) (qa_c (qjh9 (qv 1) qgb9 (qga9 (qv 2))) qaa9))) (qa_c (qe_fn Ce0 hr rfl (qa_c (qv 0) (qa_c (qjh9 (qv 1) (qga9 (qv 2)) qgb9) qaa9))) qaa9)))))))),?_⟩
  walk_at "d"
  obtain⟨us,hu1,hu2,hu3⟩:=hR.lst
  refine⟨_,rfl,p,_,rfl,.inl (SqL.of hu1),_,_,rfl,rfl,_,rfl,?_⟩
  refine ite2 (λ c=>?_) (λ c=>?_)
  ·have c':((us.length:Nat):Int)<2:=of_decide_eq_true c
   refine⟨_,rfl,p,_,rfl,.inl (SqL.of hu1),λ pl hpl=>?_⟩
   generalize hgH1:upd _ pl _=H1
   revert H1
   refine qal9 hpl λ H1 s1 e1=>?_
   have hR1:=hR.copy s1 hu1 e1
   have hl':R.length<=1:=⋯
   refine q pl R H1 s1 hpl hR1 ⋯ ?_ λ t=>rfl
   exact qpt9 hd hW hl'
  have c':¬((us.length:Nat):Int)<2:=λ z=>c (decide_eq_true z)
  refine⟨_,rfl,p,_,rfl,.inl (SqL.of hu1),_,_,rfl,rfl,⟨by decide,by decide⟩,?_⟩
  have eh:((us.length:Nat):Int)/2=((R.length/2:Nat):Int):=by rw[hu2];rfl
  dsimp only
  rw[eh]
  generalize hh:R.length/2=h
  have h1:0<h:=⋯
  have h2:h<=us.length:=⋯
  have pw:2 ^ (m+1)=2*2 ^ m:=by rw[Nat.pow_succ,zfo]
  refine⟨_,rfl,_,rfl,_,rfl,_,rfl,_,rfl,p,us,rfl,SqL.of hu1,λ pa hpa=>?_⟩
  rw[cut_take us h h2]
  have ea:us.take h=(us.drop 0).take h:=by simp
  rw[ea]
  generalize hgH1:upd _ pa _=H1
  revert H1
  refine qal9 hpa λ H1 s1 e1=>?_
  have hA:=hR.part s1 hu1 0 h e1
  rw[zgo] at hA
  refine⟨day,pa,R.take h,rfl,hA,by rw[zbf];omega,by rw[zbf];omega,hd,λ w hw=>hW w (zdu hw),λ la Ra H2 s2 fa ha hal cka bta=>?_⟩
  have hu12:=s2 _ _ (s1 _ _ hu1)
  have hR2:=(hR.same s1).same s2
  refine⟨_,rfl,_,rfl,_,rfl,_,rfl,p,us,rfl,SqL.of hu12,λ pb hpb=>?_⟩
  rw[cut_drop us h h2]
  have eb:us.drop h=(us.drop h).take us.length:=by rw[zdl];simp
  rw[eb]
  generalize hgH3:upd _ pb _=H3
  revert H3
  refine qal9 hpb λ H3 s3 e3=>?_
  have hB:=hR2.part s3 hu12 h us.length e3
  rw[zdl (by rw[zcw];omega)] at hB
  refine⟨day,pb,R.drop h,rfl,hB,by rw[zcw];omega,by rw[zcw];omega,hd,λ w hw=>hW w (zez hw),λ lb Rb H4 s4 fb hb hbl ckb btb=>?_⟩
  have s34:=s3.trans s4
  rw[zbf] at hal
  rw[zcw] at hbl
  refine⟨day,la,lb,Ra,Rb,rfl,ha.same s34,hb,⋯,⋯,cka,ckb,λ l R' H5 s5 fl hR' hl' ck' bt'=>?_⟩
  have s05:=((s1.trans s2).trans s34).trans s5
  have eb:∀t,Ma.bt day R' t=Ma.bt day R t:=λ t=>by rw[bt',bta,btb,<- Ma.bt_append,List.take_append_drop]
  exact q l R' H5 s05 (((s1.trans s2).trans s34).free fl) hR' (Ma.ck_len ck' hW eb) ck' eb
inductive spClockOf(vs:List V)(H:Hp)(Q:VK)(z3q:XK):Prop
 |mk (day:Int) (p:Addr) (R:List T3):vs=[.int day,.ref p]->LA enc3 H p R->R.length<=1000->0<day->Ma.Wins day R->(∀(l:Addr)(R':List T3)(H':Hp),Same H H'->H l=none->LA enc3 H' l R'->R'.length<=2*R.length+1->Ma.CK day R'->(∀t,Ma.bt day R' t=Ma.bt day R t)->Q (.ref l) H')->spClockOf vs H Q z3q
theorem qmz9(F:Fun K "clock_of" "clock_of" qdn9 f fd)(Cq0:Callee P w K mg base n "is_board" ["day","thing"] spBoard)(Ce0:Callee P w K mg base n "clock_within" ["day","board"] (spWithin 10)):FnOk P w K mg base CX0 (n+1) f fd ["day","board"] spClockOf:=by
 refine F.okQ qmr9 (λ vs H Q E h=>?_) (λ cdv A outer s H vs Q E hr h=>?_)
 ·obtain⟨_,_,_,rfl,_⟩:=h
  rfl
 obtain⟨day,p,R,rfl,hR,hl,hd,hW,q⟩:=h
 refine⟨_,(qab9 (qs_if (qea9 (qcb9 (qe_fn Cq0 hr rfl (qa_c (qv 0) (qa_c (qv 1) qaa9))))) (qae9 qgx9) qat9) (qae9 (qao9 (qe_fn Ce0 hr rfl (qa_c (qv 0) (qa_c (qv 1) qaa9)))))),?_⟩
 walk_at "d"
 refine⟨_,rfl,_,rfl,day,.ref p,rfl,la_dv3 hR hl,λ H1 s1=>?_⟩
 rw[qou9 hR hW]
 refine⟨_,rfl,iteF ?_⟩
 exact⟨_,rfl,_,rfl,day,p,R,rfl,hR.same s1,(by show R.length<=1024;omega),⋯,hd,hW,λ l R' H2 s2 fl h1 h2 h3 h4=>q l R' H2 (s1.trans s2) (s1.free fl) h1 h2 h3 h4⟩
theorem ok_cell(F:Fun K "_law_cell_at" "_law_cell_at" qbx9 f fd)(B:Bl mg):FnOk P w K mg base CX0 (n+1) f fd ["script","k"] (spCell K):=by
 refine F.okQ qhh9 (λ vs H Q E h=>?_) (λ cdv A outer s H vs Q E hr h=>?_)
 ·obtain⟨_,_,_,rfl,_⟩:=h
  rfl
 obtain⟨a,ns,k,rfl,hS,h0,q⟩:=h
 refine⟨_,(qab9 (qs_if (qam9 qel9 (qv 1) (qe_cb qap9 rfl B.len qcc9 (qa_c (qv 0) qaa9)) (qau9 _)) (qae9 (qao9 (qe_ix qaj9 (qv 0) (qv 1) (λ _ _=>rfl)))) qat9) (qae9 (qao9 qac9))),?_⟩
 walk_at "d"
 have hl:(ns.map V.int).length=ns.length:=zah _
 refine⟨_,rfl,_,rfl,a,_,rfl,.inl hS,_,_,rfl,rfl,_,rfl,?_⟩
 refine ite2 (λ c=>?_) (λ c=>?_)
 ·have c':k<(((ns.map V.int).length:Nat):Int):=of_decide_eq_true c
  rw[hl] at c'
  obtain⟨v,hv⟩:=at_int (ns:=ns) h0 ⋯
  exact⟨_,rfl,_,rfl,a,_,_,_,rfl,rfl,hS,hv,q v⟩
 ·exact q 0
inductive spStay(vs:List V)(H:Hp)(Q:VK)(z3q:XK):Prop
 |mk (cell room:Int):vs=[.int cell,.int room]->0<room->(∀s:Int,0<=s->s<room->Q (.int s) H)->spStay vs H Q z3q
theorem menu7{a b c f g:Int}{ok:Int->Prop}(ha:ok a)(hb:ok b)(hc:ok c)(hd:ok d)(he:ok e)(hf:ok f)(hg:ok g)(h0:0<=j)(h1:j<7):∃v:Int,atI [V.int a,V.int b,V.int c,V.int d,V.int e,V.int f,V.int g] j=some (.int v)/\ok v:=by
 rcases(by omega:j=0\/j=1\/j=2\/j=3\/j=4\/j=5\/j=6) with rfl|rfl|rfl|rfl|rfl|rfl|rfl
 ·exact⟨a,rfl,ha⟩
 ·exact⟨b,rfl,hb⟩
 ·exact⟨c,rfl,hc⟩
 ·exact⟨d,rfl,hd⟩
 ·exact⟨e,rfl,he⟩
 ·exact⟨f,rfl,hf⟩
 ·exact⟨g,rfl,hg⟩
theorem ok_dayB(F:Fun K "_law_day" "_law_day" qdl9 f fd):FnOk P w K mg base CX0 (n+1) f fd ["cell"] spDay:=by
 refine F.okQ qnb9 (λ vs H Q E h=>?_) (λ cdv A outer s H vs Q E hr h=>?_)
 ·obtain⟨_,rfl,_⟩:=h
  rfl
 obtain⟨c,rfl,q⟩:=h
 refine⟨_,(qab9 (qs_if (qam9 qcf9 (qe_op qba9 (qv 0) qac9) qac9 (qau9 _)) (qae9 (qao9 (qe_op qav9 qac9 (qe_op qba9 (qe_op qbb9 (qv 0) qac9) (qe_op qfm9 qac9 qac9))))) qat9) (qae9 (qao9 (qe_ix qaj9 (qbj9 (qa_c qac9 (qa_c qac9 (qa_c qac9 (qa_c qac9 (qa_c qac9 (qa_c (qe_op qav9 (qe_op qfm9 qac9 qac9) qac9) (qa_c (qe_op qfm9 qac9 qac9) qaa9)))))))) (qe_op qba9 (qv 0) qac9) (λ _ _=>rfl))))),?_⟩
 walk_at "d"
 refine⟨_,rfl,_,_,rfl,rfl,(by show(0:Int)<8;decide),rfl,_,rfl,?_⟩
 have em:=qdj9 c (show(0:Int)<8 by decide)
 refine ite2 (λ z=>?_) (λ z=>?_)
 ·refine⟨_,rfl,_,_,rfl,rfl,⟨by decide,by decide⟩,_,_,rfl,rfl,⟨by decide,by decide,by decide⟩,_,_,rfl,rfl,(by show(0:Int)<10 ^ (15:Int).toNat;rw[pow15];decide),_,_,rfl,rfl,?_⟩
  have e15:=qdj9 (c/8) (show(0:Int)<10 ^ (15:Int).toNat by rw[pow15];decide)
  have e16:=e15.2
  rw[pow15] at e16
  refine q _ H ⋯ ?_ (Same.refl H)
  have:c/8%10 ^ (15:Int).toNat<1000000000000000:=by
   have:=e15.2
   generalize c/8%10 ^ (15:Int).toNat=u at *
   rw[pow15] at this
   exact this
  omega
 ·have z':¬c%8=7:=λ y=>z (decide_eq_true (by show V.int (c%8)=V.int 7;rw[y]))
  refine⟨_,_,rfl,rfl,⟨by decide,by decide,by decide⟩,_,_,rfl,rfl,_,_,rfl,rfl,⟨by decide,by decide,by decide⟩,(by show 7<=sizeLine;decide),λ p hp=>?_⟩
  generalize hgH1:upd _ p _=H1
  revert H1
  refine qal9 hp λ H1 s1 e1=>?_
  obtain⟨v,hv,v1,v2⟩:=menu7 (ok:=λ v=>1<=v/\v<=1000000000000000) (a:=1) (b:=2) (c:=24) (d:=12) (e:=1440) (f:=10 ^ (9:Int).toNat+7) (g:=10 ^ (15:Int).toNat) (j:=c%8) (by decide) (by decide) (by decide) (by decide) (by decide) (by decide +kernel) (by decide +kernel) em.1 ⋯
  exact⟨_,rfl,_,_,rfl,rfl,(by show(0:Int)<8;decide),p,_,_,.int v,rfl,rfl,SqL.of e1,hv,q v H1 v1 v2 s1⟩
theorem ok_stay(F:Fun K "_law_stay" "_law_stay" qda9 f fd)(B:Bl mg):FnOk P w K mg base CX0 (n+1) f fd ["cell","room"] spStay:=by
 refine F.okQ qkd9 (λ vs H Q E h=>?_) (λ cdv A outer s H vs Q E hr h=>?_)
 ·obtain⟨_,_,rfl,_⟩:=h
  rfl
 obtain⟨c,room,rfl,r0,q⟩:=h
 refine⟨_,(qab9 (qs_if (qam9 qcf9 (qe_op qba9 (qv 0) qac9) qac9 (qau9 _)) (qae9 (qao9 qac9)) qat9) (qab9 (qs_if (qam9 qcf9 (qe_op qba9 (qv 0) qac9) qac9 (qau9 _)) (qae9 (qao9 (qe_op qba9 (qe_op qbb9 (qv 0) qac9) (qe_cb (qdw9 rfl) rfl B.min bt_min (qa_c qac9 (qa_c (qv 1) qaa9)))))) qat9) (qae9 (qao9 (qe_op qba9 (qe_op qbb9 (qv 0) qac9) (qv 1)))))),?_⟩
 walk_at "d"
 refine⟨_,rfl,_,_,rfl,rfl,(by show(0:Int)<3;decide),rfl,_,rfl,?_⟩
 refine ite2 (λ z=>q 0 (zax _) r0) (λ z=>?_)
 refine⟨_,rfl,_,_,rfl,rfl,(by show(0:Int)<3;decide),rfl,_,rfl,?_⟩
 refine ite2 (λ z=>?_) (λ z=>?_)
 ·have m0:(0:Int)<(if room<4 then room else 4):=by split<;>omega
  have em:=qdj9 (c/3) m0
  refine⟨_,rfl,_,_,rfl,rfl,⟨by decide,by decide⟩,_,rfl,_,_,rfl,_,_,rfl,rfl,m0,q _ em.1 ?_⟩
  have:(if room<4 then room else 4)<=room:=by split<;>omega
  show c/3%(if room<4 then room else 4)<room
  omega
 ·have em:=qdj9 (c/3) r0
  exact⟨_,rfl,_,_,rfl,rfl,⟨by decide,by decide⟩,_,rfl,_,_,rfl,rfl,r0,q _ em.1 em.2⟩
inductive spNext(vs:List V)(H:Hp)(Q:VK)(z3q:XK):Prop
 |mk (day:Int) (r:Addr) (a b c t:Int):vs=[.int day,.ref r,.int t]->0<day->Tup3 H r a b c->Q (.int (Ma.nextO day a b t)) H->spNext vs H Q z3q
theorem ok_next(F:Fun K "next_open" "next_open" qcz9 f fd)(B:Bl mg):FnOk P w K mg base CX0 (n+1) f fd ["day","window","t"] spNext:=by
 refine F.okQ sc_next_open (λ vs H Q E h=>?_) (λ cdv A outer s H vs Q E hr h=>?_)
 ·obtain⟨_,_,_,_,_,_,rfl,_⟩:=h
  rfl
 obtain⟨day,r,a,b,c,t,rfl,hd,hw,q⟩:=h
 refine⟨_,(qab9 (qai9 (i:=3) sc_next_open.nd rfl (zai rfl) (qe_op qba9 (qv 2) (qv 0))) (qab9 (qai9 (i:=4) sc_next_open.nd rfl (zai rfl) (qe_op qdf9 (qv 2) (qv 3))) (qab9 (qs_if (qam9 qgs9 (qv 3) (qe_ix qas9 (qv 1) qac9 (λ _ _=>rfl)) (qau9 _)) (qae9 (qao9 (qe_op qav9 (qe_op qav9 (qv 4) (qv 0)) (qe_ix qas9 (qv 1) qac9 (λ _ _=>rfl))))) qat9) (qae9 (qao9 (qe_op qav9 (qv 4) (qe_cb (qgn9 rfl) rfl B.max qmn9 (qa_c (qv 3) (qa_c (qe_ix qas9 (qv 1) qac9 (λ _ _=>rfl)) qaa9))))))))),?_⟩
 walk_at "d"
 refine⟨_,rfl,_,rfl,_,_,rfl,rfl,hd,?_⟩
 refine⟨_,rfl,_,rfl,_,_,rfl,rfl,?_⟩
 refine⟨_,rfl,_,rfl,r,_,_,_,rfl,rfl,SqT.of hw,rfl,_,_,rfl,rfl,_,rfl,?_⟩
 unfold Ma.nextO at q
 refine ite2 (λ c1=>?_) (λ c1=>?_)
 ·rw[if_pos (of_decide_eq_true c1)] at q
  exact⟨_,rfl,_,rfl,_,_,rfl,rfl,_,rfl,r,_,_,_,rfl,rfl,SqT.of hw,rfl,_,_,rfl,rfl,q⟩
 ·rw[if_neg (λ z=>c1 (decide_eq_true z))] at q
  exact⟨_,rfl,_,rfl,_,rfl,r,_,_,_,rfl,rfl,SqT.of hw,rfl,_,_,rfl,_,_,rfl,rfl,q⟩
theorem RowsAt.sameT{P:Addr}(h:RowsAt H p R)(s:SameT P H H')(t:TabOk H P pos qual):RowsAt H' p R:=h.mono λ b o e n=>s b o e λ z=>by
 obtain⟨ps,hp,_⟩:=t
 rw[z,hp] at e
 exact n ps (Option.some.inj e).symm
def pAt(p:T3->Bool)(R:List T3)(i:Nat):Bool:=p (rA R i,rB R i,rC R i)
inductive spLam(p:T3->Bool)(c':Addr)(qual:Str)(vs:List V)(H:Hp)(Q:VK)(z3q:XK):Prop
 |mk (r:Addr) (t:T3):vs=[.ref r]->H c'=some (.ext (CodeQ c' qual))->H r=some (.tup [.int t.1,.int t.2.1,.int t.2.2])->Q (.bl (p t)) H->spLam p c' qual vs H Q z3q
inductive spFW(p:T3->Bool)(fl c':Addr)(qual:Str)(vs:List V)(H:Hp)(Q:VK)(z3q:XK):Prop
 |mk (pc:Addr) (R:List T3):vs=[.ref pc,.ref fl]->H c'=some (.ext (CodeQ c' qual))->RowsAt H pc R->((∀i j,i<j->j<R.length->pAt p R i=true->pAt p R j=true))->(∀m:Nat,m<=R.length->(∀i,i<m->pAt p R i=false)->(m<R.length->pAt p R m=true)->Q (.int m) H)->spFW p fl c' qual vs H Q z3q
theorem qii9{p:T3->Bool}(F:Fun K "first_where" "first_where" qax9 f fd)(B:Bl mg)(G:FnOk P w K mg base CX0 n fl fdl ["window"] (spLam p c' qual))(bG:Binds K fdl ["window"] [])(ho:W.FnAt fl base) :
  FnOk P w K mg base CX0 (n+1) f fd ["clock","holds"] (spFW p fl c' qual):=by
 refine F.okQ sc_first_where (λ vs H Q E h=>?_) (λ cdv A outer s H vs Q E hr h=>?_)
 ·obtain⟨_,_,rfl,_⟩:=h
  rfl
 obtain⟨pc,R,rfl,hc,hR,hmono,q⟩:=h
 refine⟨_,(qab9 (qai9 (i:=2) sc_first_where.nd rfl (zai rfl) qac9) (qab9 (qai9 (i:=3) sc_first_where.nd rfl (zai rfl) (qe_cb qap9 rfl B.len qcc9 (qa_c (qv 0) qaa9))) (qab9 (qfv9 PassesOwn.never (qam9 qel9 (qv 2) (qv 3) (qau9 _)) (qab9 (qai9 (i:=4) sc_first_where.nd rfl (zai rfl) (qe_op qbb9 (qe_op qav9 (qv 2) (qv 3)) qac9)) (qae9 (qs_if (qcb9 ⟨pe_clo 1 G hr bG ho (qa_c (qe_ix qaj9 (qv 0) (qv 4) (λ _ _=>rfl)) qaa9).run⟩) (qae9 (qai9 (i:=3) sc_first_where.nd rfl (zai rfl) (qv 4))) (qae9 (qai9 (i:=2) sc_first_where.nd rfl (zai rfl) (qe_op qav9 (qv 4) qac9))))))) (qae9 (qao9 (qv 2)))))),?_⟩
 walk_at "d"
 obtain⟨xs,hS,hlen,hat⟩:=hR.at (K:=K)
 refine⟨_,rfl,pc,_,rfl,.inl hS,?_⟩
 refine qfu9 (λ σ H'=>H'=H/\∃(lo hi:Nat)(v:Option V),σ=[some (.ref pc),some (.ref fl),some (.int lo),some (.int hi),v]/\lo<=hi/\hi<=R.length/\(∀i,i<lo->pAt p R i=false)/\(∀i,hi<=i->i<R.length->pAt p R i=true))
  (λ σ _=>match σ with | [_,_,some (.int l),some (.int h),_]=>(h-l).toNat|_=>0) ⟨rfl,0,R.length,none,by rw[hlen];rfl,zbn _,zaj _,λ i hi=>absurd hi (zdy _),λ i h1 h2=>absurd h2 (zej.mpr h1)⟩ ?_ ?_
 ·intro σ H' z9;obtain⟨rfl,lo,hi,v,rfl,l1,l2,l3,l4⟩ := z9
  refine⟨_,rfl,_,rfl,_,_,rfl,rfl,_,rfl,?_⟩
  refine ite2 (λ c1=>?_) (λ c1=>?_)
  ·have c2:(lo:Int)<(hi:Int):=of_decide_eq_true c1
   refine⟨_,rfl,_,rfl,_,_,rfl,rfl,_,_,rfl,rfl,⟨by decide,by decide⟩,?_⟩
   have m1:(lo:Int)<=((lo:Int)+hi)/2:=⋯
   have m2:((lo:Int)+hi)/2<(hi:Int):=⋯
   obtain⟨r,ha,hr'⟩:=hat (((lo:Int)+hi)/2) ⋯ ⋯
   refine⟨rfl,_,rfl,_,rfl,pc,_,_,_,rfl,rfl,hS,ha,r,(rA R (((lo:Int)+hi)/2).toNat,rB R (((lo:Int)+hi)/2).toNat,rC R (((lo:Int)+hi)/2).toNat),rfl,hc,hr',_,rfl,?_⟩
   refine ite2 (λ c3=>?_) (λ c3=>?_)
   ·refine⟨_,rfl,⟨rfl,lo,(((lo:Int)+hi)/2).toNat,some (.int (((lo:Int)+hi)/2)),?_,⋯,⋯,l3,λ i h1 h2=>?_⟩,?_⟩
    ·show _=([some (.ref pc),some (.ref fl),some (.int lo),some (.int (((((lo:Int)+hi)/2).toNat:Nat):Int)),some (.int (((lo:Int)+hi)/2))]:List (Option V))
     rw[show(((((lo:Int)+hi)/2).toNat:Nat):Int)=(((lo:Int)+hi)/2) by omega]
     rfl
    ·rcases(by omega:i=(((lo:Int)+hi)/2).toNat\/(((lo:Int)+hi)/2).toNat<i) with e|e
     ·rw[e];exact c3
     ·exact hmono _ _ e h2 c3
    ·show((((lo:Int)+hi)/2)-(lo:Int)).toNat<((hi:Int)-(lo:Int)).toNat
     omega
   ·refine⟨_,rfl,_,_,rfl,rfl,⟨rfl,(((lo:Int)+hi)/2).toNat+1,hi,some (.int (((lo:Int)+hi)/2)),?_,⋯,l2,λ i h1=>?_,l4⟩,?_⟩
    ·show _=([some (.ref pc),some (.ref fl),some (.int (((((lo:Int)+hi)/2).toNat+1:Nat):Int)),some (.int hi),some (.int (((lo:Int)+hi)/2))]:List (Option V))
     rw[show(((((lo:Int)+hi)/2).toNat+1:Nat):Int)=(((lo:Int)+hi)/2)+1 by omega]
     rfl
    ·have c4:pAt p R (((lo:Int)+hi)/2).toNat=false:=zbj.mpr c3
     rcases(by omega:i=(((lo:Int)+hi)/2).toNat\/i<(((lo:Int)+hi)/2).toNat) with e|e
     ·rw[e];exact c4
     ·refine zbj.mpr λ z=>?_
      have:=hmono _ _ e ⋯ z
      rw[c4] at this
      cases this
    ·show((hi:Int)-((((lo:Int)+hi)/2)+1)).toNat<((hi:Int)-(lo:Int)).toNat
     omega
  ·have c2:¬(lo:Int)<(hi:Int):=λ z=>c1 (decide_eq_true z)
   have e:lo=hi:=⋯
   subst e
   exact⟨_,rfl,q lo l2 l3 λ h=>l4 lo (zaj _) h⟩
 ·intro σ H' Q1 Q2 hq z9;obtain⟨v,e1,v',e2,i,j,e3,e4,k,e5,q1⟩ := z9
  exact⟨v,e1,v',e2,i,j,e3,e4,k,e5,hq _ _ q1⟩
def lamQ(x:Str):Str:=(x++".<locals>.")++"<lambda>"
def lamIn:Stmt->Expr
 | .Assign _ (.Call _ [_,l] _ _) _=>l
 |_=>.Constant .none 0 ⟨0,0,0,0⟩
def lamSc:Expr->Scope
 | .Lambda _ _ sc _=>sc
 |_=>{ kind:=.function,names:=[],isGenerator:=false,isCoroutine:=false }
def qlr9:Expr->Expr
 | .Lambda _ b _ _=>b
 |e=>e
def qlq9:Expr->Arguments
 | .Lambda a _ _ _=>a
 |_=>{ posonlyargs:=[],args:=[],vararg:=none,kwonlyargs:=[],kw_defaults:=[],kwarg:=none,defaults:=[] }
theorem qfn9{y:Str}(z:Str)(d:Addr)(e:([(y,c)]:List (Str×Addr)).lookup z=some d):z=y/\d=c:=by
 rw[zcj] at e
 cases h:z==y with
 |true=>rw[h] at e;cases e;exact⟨eq_of_beq h,rfl⟩
 |false=>rw[h] at e;cases e
theorem qls9{a b x:Str}(h:([(a,NameKind.local),(b,NameKind.free)]:List (Str×NameKind)).lookup x=some .free):∃d,([(b,c)]:List (Str×Addr)).lookup x=some d:=by
 rw[zcj] at h
 cases h1:x==a with
 |true=>rw[h1] at h;cases h
 |false =>
  rw[h1] at h
  have h':([(b,NameKind.free)]:List (Str×NameKind)).lookup x=some .free:=h
  rw[zcj] at h'
  cases h2:x==b with
  |true=>exact⟨c,by rw[zcj,h2]⟩
  |false=>rw[h2] at h';cases h'
inductive spSetOff(P0:Addr)(pos:Pos)(vs:List V)(H:Hp)(Q:VK)(z3q:XK):Prop
 |mk (day:Int) (pc:Addr) (t:Int) (R:List T3):vs=[.int day,.ref pc,.int t]->RowsAt H pc R->TabOk H P0 pos (lamQ "set_off")->Ma.Clk day R.length (rA R) (rB R) (rC R)->((R.length=0->Q .non H))->((R.length≠0->∀(x y:Int)(r:Addr)(H':Hp),Ma.First day R.length (rA R) (rB R) (rC R) t x y->SameT P0 H H'->TabOk H' P0 pos (lamQ "set_off")->H' r=some (.tup [.int x,.int y])->Q (.ref r) H'))->spSetOff P0 pos vs H Q z3q
inductive spCome(P0:Addr)(pos:Pos)(vs:List V)(H:Hp)(Q:VK)(z3q:XK):Prop
 |mk (day:Int) (pc:Addr) (t:Int) (R:List T3):vs=[.int day,.ref pc,.int t]->RowsAt H pc R->TabOk H P0 pos (lamQ "set_off")->Ma.Clk day R.length (rA R) (rB R) (rC R)->((R.length=0->Q .non H))->((R.length≠0->∀(x y:Int)(H':Hp),Ma.First day R.length (rA R) (rB R) (rC R) t x y->SameT P0 H H'->TabOk H' P0 pos (lamQ "set_off")->Q (.int y) H'))->spCome P0 pos vs H Q z3q
theorem TabOk.same{P:Addr}{q:Str}(t:TabOk H P pos q)(a:Same H H1):TabOk H1 P pos q:=by
 obtain⟨ps,h1,h2,h3⟩:=t
 refine⟨ps,a _ _ h1,h2,?_⟩
 rcases h3 with h3|⟨c,h3,h4⟩
 ·exact .inl h3
 ·exact .inr ⟨c,h3,a _ _ h4⟩
abbrev lamS:Expr:=lamIn ((qag9 qbr9).getD 2 (.Pass ⟨0,0,0,0⟩))
theorem sc_lamS(c:Addr):LamScope ["window","hour"] ["window"] (lamSc lamS) [("hour",c)]:=⟨rfl,rfl,rfl,by decide,rfl,by decide +kernel,by decide +kernel,λ _ h=>qls9 h,λ x y d h1 h2=>(qfn9 x d h1).1.trans (qfn9 y d h2).1.symm⟩
def spGS(v:V)(fl c':Addr):Sp:=match v with
 | .int hour=>spFW (λ t=>decide (hour<=t.2.1)) fl c' (lamQ "set_off")
 |_=>λ _ _ _ _=>False
theorem qds9{k:Nat}{ps:List Str}:FnOk P w K mg base CX0 k f fd ps (λ _ _ _ _=>False):=⟨λ _ _ _ _ h=>h.elim,λ _ _ _ _ _ _ _ _ _ _ _ _ _ h=>h.elim⟩
theorem ok_lamS{cy:Addr}(FW:Fun K "first_where" "first_where" qax9 g gd)(B:Bl mg)
  (hfl:base.get? fl=some (W.kla_obj "<lambda>" (lamQ "set_off") (qlq9 lamS) (qlr9 lamS) (lamSc lamS) [("hour",cy)] pm c' ctv)) (hca:qim9 base (lamSc lamS) [("hour",cy)] ["window","hour"] ["window"] [v]) :
  FnOk P w K mg base CX0 2 g gd ["clock","holds"] (spGS v fl c'):=by
 cases v with
 |int hour =>
  refine qii9 (n:=1) FW B (lam_ok (k:=0) (N:=["window","hour"]) (cs:=[.int hour]) hfl (λ vs H Q E h=>?_) (sc_lamS cy) hca (λ vs H Q E h=>?_) (λ A outer s H vs Q E hr h=>?_)) (Binds.all λ us hl=>match us,hl with | [_],_=>rfl) ⟨_,_,_,_,hfl⟩
  ·obtain⟨_,_,_,h,_⟩:=h
   exact h
  ·obtain⟨_,_,rfl,_⟩:=h
   rfl
  ·obtain⟨r,t,rfl,hc,hr',q⟩:=h
   refine⟨_,qnk9 op_le (pv 1) (pe_ix ix_tup (pv 0) pe_int (λ _ _=>rfl)) (qau9 _),?_⟩
   exact⟨_,rfl,_,rfl,r,_,_,_,rfl,rfl,SqT.of hr',rfl,_,_,rfl,rfl,q⟩
 |non=>exact qds9
 |bl b=>exact qds9
 |str x=>exact qds9
 |byt b=>exact qds9
 |flt b=>exact qds9
 |ref a=>exact qds9
 |ty n=>exact qds9
theorem K0{A B C:Nat->Int}(h:Ma.Clk d n A B C):0<d:=h.d0
theorem qof9{kV:Value}(lk:K.lookup f=some ⟨oc,od,.func (W.fnOf "set_off" "set_off" (qah9 qbr9) (qag9 qbr9) (qad9 qbr9) .none kV doc pm an (.ref c) ct),osl⟩)(hcd:W.codeIn K (.ref c) "set_off"=true)
  (B:Bl mg) (hC:W.CodeHd base c P0) (hB:BMain mg base) (FW:Fun K "first_where" "first_where" qax9 g gd) (bW:Binds K gd ["clock","holds"] []) (mW:mg "first_where"=some (.ref g)) (Ck1:Callee P w K mg base 2 "next_open" ["day","window","t"] spNext) :
  FnOk P w K mg base CX0 3 f (W.fnOf "set_off" "set_off" (qah9 qbr9) (qag9 qbr9) (qad9 qbr9) .none kV doc pm an (.ref c) ct) ["day","clock","t"] (spSetOff P0 ⟨33,32,33,64⟩):=by
 refine fn_of lk hcd sc_set_off (λ vs H Q E h=>?_) (λ A outer s H vs Q E hr h=>?_)
 ·obtain⟨_,_,_,_,rfl,_⟩:=h
  rfl
 obtain⟨day,pc,t,R,rfl,hR,tab,hK,q0,q1⟩:=h
 refine⟨_,PSs.nox (QSs.run (qab9 (qs_if (qam9 qcf9 (qe_cb qap9 rfl B.len qcc9 (qa_c (qv 1) qaa9)) qac9 (qau9 _)) (qae9 (qao9 qen9)) qat9) (qab9 (qai9 (i:=3) sc_set_off.nd rfl (zct rfl) (qe_op qba9 (qv 2) (qv 0))) (qab9 (qai9 (i:=4) sc_set_off.nd rfl (zai rfl) ⟨qjf9 (N:=["window","hour"]) (ps:=["window"]) 3 hr rfl mW FW.kp bW rfl rfl hC hB rfl rfl rfl (zct (zai rfl)) rfl rfl rfl qfn9 rfl rfl (pv 1) (λ base' fl c' v pm ctv hfl hca=>ok_lamS FW B hfl hca)⟩) (qab9 (qai9 (i:=5) sc_set_off.nd rfl (zai rfl) (qe_ix qaj9 (qv 1) (qe_op qba9 (qv 4) (qe_cb qap9 rfl B.len qcc9 (qa_c (qv 1) qaa9))) (λ _ _=>rfl))) (qab9 (qai9 (i:=6) sc_set_off.nd rfl (zai rfl) (qe_fn Ck1 hr rfl (qa_c (qv 0) (qa_c (qv 5) (qa_c (qv 2) qaa9))))) (qae9 (qao9 (qbd9 (qa_c (qv 6) (qa_c (qe_op qav9 (qv 6) (qe_ix qas9 (qv 5) qac9 (λ _ _=>rfl))) qaa9))))))))))),?_⟩
 walk_at "d"
 obtain⟨xs,hS,hlen,hat⟩:=hR.at (K:=K)
 refine⟨_,rfl,pc,_,rfl,.inl hS,rfl,_,rfl,?_⟩
 refine ite2 (λ c1=>?_) (λ c1=>?_)
 ·have c2:V.int ((xs.length:Nat):Int)=V.int 0:=of_decide_eq_true c1
  injection c2 with c3
  exact q0 ⋯
 have n0:R.length≠0:=λ z=>c1 (decide_eq_true (by rw[hlen,z];rfl))
 refine⟨_,rfl,_,rfl,_,_,rfl,rfl,K0 hK,?_⟩
 refine⟨_,rfl,_,rfl,tab,λ fl c' H2 sm tb hc'=>?_⟩
 refine⟨pc,R,rfl,hc',hR.sameT sm tab,λ i j hij hj hp=>?_,λ m m1 m2 m3=>?_⟩
 ·have a1:=of_decide_eq_true hp
  have:=hK.lt i j hij hj
  have:=hK.ab j hj
  exact decide_eq_true (by show t%day<=rB R j;have a2:t%day<=rB R i:=a1;omega)
 have hR2:=hR.sameT sm tab
 obtain⟨xs2,hS2,hlen2,hat2⟩:=hR2.at (K:=K)
 have hm:((m:Int)%((xs2.length:Nat):Int))=((m%R.length:Nat):Int):=by rw[hlen2];rfl
 have hml:m%R.length<R.length:=Nat.mod_lt _ ⋯
 obtain⟨r,ha,hr'⟩:=hat2 ((m%R.length:Nat):Int) (Int.natCast_nonneg _) ⋯
 refine⟨_,rfl,_,rfl,_,rfl,pc,_,rfl,.inl hS2,_,_,rfl,rfl,(by show 0<((xs2.length:Nat):Int);omega),pc,_,_,.ref r,rfl,rfl,hS2,by rw[hm];exact ha,?_⟩
 refine⟨_,rfl,_,rfl,_,rfl,day,r,_,_,_,t,rfl,hK.d0,hr',?_⟩
 refine⟨_,rfl,_,rfl,_,rfl,r,_,_,_,rfl,rfl,SqT.of hr',rfl,_,_,rfl,rfl,(by show 2<=sizeLine;decide),λ r2 hr2=>?_⟩
 refine q1 n0 _ _ r2 _ (Ma.first_of hK ⋯ m1 (λ i hi=>?_) (λ hi=>?_) (i:=m%R.length) rfl) (SameT.trans sm (SameT.same (qan9 hr2 _))) (TabOk.same tb (qan9 hr2 _)) qaf9
 ·have z:=m2 i hi
  exact of_decide_eq_false z
 ·exact of_decide_eq_true (m3 hi)
theorem ok_come(F:Fun K "come" "come" qho9 f fd)(Cp1:Callee P w K mg base n "set_off" ["day","clock","t"] (spSetOff P0 pos)):FnOk P w K mg base CX0 (n+1) f fd ["day","clock","t"] (spCome P0 pos):=by
 refine F.okQ sc_come (λ vs H Q E h=>?_) (λ cdv A outer s H vs Q E hr h=>?_)
 ·obtain⟨_,_,_,_,rfl,_⟩:=h
  rfl
 obtain⟨day,pc,t,R,rfl,hR,tab,hK,q0,q1⟩:=h
 refine⟨_,(qab9 (qai9 (i:=3) sc_come.nd rfl (zai rfl) (qe_fn Cp1 hr rfl (qa_c (qv 0) (qa_c (qv 1) (qa_c (qv 2) qaa9))))) (qab9 (qs_if (qt_isN (qv 3)) (qae9 (qao9 qen9)) qat9) (qae9 (qao9 (qe_ix qas9 (qv 3) qac9 (λ _ _=>rfl)))))),?_⟩
 walk_at "d"
 refine⟨_,rfl,_,rfl,_,rfl,day,pc,t,R,rfl,hR,tab,hK,λ e0=>?_,λ n0 x y r H' hF sm tb hr'=>?_⟩
 ·refine⟨_,rfl,_,rfl,iteP (decide_eq_true rfl) (q0 e0)⟩
 ·refine⟨_,rfl,_,rfl,iteN (by simp) ?_⟩
  exact⟨_,rfl,r,_,_,_,rfl,rfl,SqT.of hr',rfl,q1 n0 x y H' hF sm tb⟩
theorem tab_wr{P:Addr}{q:Str}(t:TabOk H P pos q)(e:H p=some (.lst xs)):TabOk (upd H p (.lst ys)) P pos q:=by
 obtain⟨ps,h1,h2,h3⟩:=t
 refine⟨ps,by rw[qaq9 (λ z=>by rw[z,e] at h1;cases h1)];exact h1,h2,?_⟩
 rcases h3 with h3|⟨c,h3,h4⟩
 ·exact .inl h3
 ·exact .inr ⟨c,h3,by rw[qaq9 (λ z=>by rw[z,e] at h4;cases h4)];exact h4⟩
theorem tb_one(P:Addr)(pos:Pos)(q:Str):TB λ H=>TabOk H P pos q:=⟨λ _ _ t s=>TabOk.same t s,λ _ _ _ _ t e=>tab_wr t e⟩
theorem TB.and{T':Hp->Prop}(h:TB T)(h':TB T'):TB λ H=>T H/\T' H:=⟨λ H H' t s=>⟨h.same H H' t.1 s,h'.same H H' t.2 s⟩,λ H p xs ys t e=>⟨h.wr H p xs ys t.1 e,h'.wr H p xs ys t.2 e⟩⟩
inductive spComeT(T:Hp->Prop)(vs:List V)(H:Hp)(Q:VK)(z3q:XK):Prop
 |mk (day:Int) (p:Addr) (t:Int) (R:List T3):vs=[.int day,.ref p,.int t]->LA enc3 H p R->T H->Ma.CK day R->(∀H',SameU H H'->T H'->Q (optV (Ma.bt day R t)) H')->spComeT T vs H Q z3q
theorem come_T(C:Callee P w K mg base n "come" ["day","clock","t"] (spCome P0 pos))(h1:∀H,T H->TabOk H P0 pos (lamQ "set_off"))
  (h2:∀H H',T H->SameT P0 H H'->TabOk H' P0 pos (lamQ "set_off")->T H'):Callee P w K mg base n "come" ["day","clock","t"] (spComeT T):=Callee.imp C λ vs H Q E h=>by
 obtain⟨day,p,t,R,rfl,hR,hT,ck,q⟩:=h
 refine⟨day,p,t,R,rfl,hR.rows,h1 H hT,ck.clk,λ e=>?_,λ n0 x y H' hF sm tb=>?_⟩
 ·have e':=zay.mp e
  subst e'
  exact q H (SameU.refl H) hT
 ·have:=q H' (SameU.tab sm (h1 H hT) tb) (h2 H H' hT sm tb)
  rw[Ma.first_bt ck.clk hF] at this
  exact this
theorem qck9{P:Addr}{pos0:Pos}{q q0:Str}(t:TabOk H P pos q)(t0:TabOk H P0 pos0 q0)(s:SameT P0 H H')(ne:P≠P0):TabOk H' P pos q:=by
 obtain⟨ps,h1,h2,h3⟩:=t
 refine⟨ps,s _ _ h1 ne,h2,?_⟩
 rcases h3 with h3|⟨c,h3,h4⟩
 ·exact .inl h3
 ·refine .inr ⟨c,h3,s _ _ h4 λ z=>?_⟩
  obtain⟨ps0,g1,_⟩:=t0
  rw[z,g1] at h4
  cases h4
inductive spLamG{α:Type}(enc:α->List V)(p:α->Bool)(c':Addr)(qual:Str)(vs:List V)(H:Hp)(Q:VK)(z3q:XK):Prop
 |mk (r:Addr) (x:α):vs=[.ref r]->H c'=some (.ext (CodeQ c' qual))->H r=some (.tup (enc x))->Q (.bl (p x)) H->spLamG enc p c' qual vs H Q z3q
inductive spFWG{α:Type}(enc:α->List V)(p:α->Bool)(fl c':Addr)(qual:Str)(vs:List V)(H:Hp)(Q:VK)(z3q:XK):Prop
 |mk (pc:Addr) (xs:List α):vs=[.ref pc,.ref fl]->H c'=some (.ext (CodeQ c' qual))->LA enc H pc xs->((∀(i j:Nat) x y,i<j->xs[i]?=some x->xs[j]?=some y->p x=true->p y=true))->(∀m:Nat,m<=xs.length->(∀(i:Nat) x,i<m->xs[i]?=some x->p x=false)->(∀x,xs[m]?=some x->p x=true)->Q (.int m) H)->spFWG enc p fl c' qual vs H Q z3q
theorem qhi9{α:Type}{enc:α->List V}{p:α->Bool}{v0:Str}(F:Fun K "first_where" "first_where" qax9 f fd)(B:Bl mg)(G:FnOk P w K mg base CX0 n fl fdl [v0] (spLamG enc p c' qual))(bG:Binds K fdl [v0] [])(ho:W.FnAt fl base) :
  FnOk P w K mg base CX0 (n+1) f fd ["clock","holds"] (spFWG enc p fl c' qual):=by
 refine F.okQ sc_first_where (λ vs H Q E h=>?_) (λ cdv A outer s H vs Q E hr h=>?_)
 ·obtain⟨_,_,rfl,_⟩:=h
  rfl
 obtain⟨pc,xs,rfl,hc,hR,hmono,q⟩:=h
 refine⟨_,(qab9 (qai9 (i:=2) sc_first_where.nd rfl (zai rfl) qac9) (qab9 (qai9 (i:=3) sc_first_where.nd rfl (zai rfl) (qe_cb qap9 rfl B.len qcc9 (qa_c (qv 0) qaa9))) (qab9 (qfv9 PassesOwn.never (qam9 qel9 (qv 2) (qv 3) (qau9 _)) (qab9 (qai9 (i:=4) sc_first_where.nd rfl (zai rfl) (qe_op qbb9 (qe_op qav9 (qv 2) (qv 3)) qac9)) (qae9 (qs_if (qcb9 ⟨pe_clo 1 G hr bG ho (qa_c (qe_ix qaj9 (qv 0) (qv 4) (λ _ _=>rfl)) qaa9).run⟩) (qae9 (qai9 (i:=3) sc_first_where.nd rfl (zai rfl) (qv 4))) (qae9 (qai9 (i:=2) sc_first_where.nd rfl (zai rfl) (qe_op qav9 (qv 4) qac9))))))) (qae9 (qao9 (qv 2)))))),?_⟩
 walk_at "d"
 obtain⟨vs,hv,hlen,hat⟩:=hR.at (K:=K)
 refine⟨_,rfl,pc,_,rfl,.inl (SqL.of hv),?_⟩
 refine qfu9 (λ σ H'=>H'=H/\∃(lo hi:Nat)(v:Option V),σ=[some (.ref pc),some (.ref fl),some (.int lo),some (.int hi),v]/\lo<=hi/\hi<=xs.length/\(∀(i:Nat) x,i<lo->xs[i]?=some x->p x=false)/\(∀(i:Nat) x,hi<=i->xs[i]?=some x->p x=true))
  (λ σ _=>match σ with | [_,_,some (.int l),some (.int h),_]=>(h-l).toNat|_=>0) ⟨rfl,0,xs.length,none,by rw[hlen];rfl,zbn _,zaj _,λ i x hi=>absurd hi (zdy _),λ i x h1 h2=>absurd (zab.mp h2).1 (zej.mpr h1)⟩ ?_ ?_
 ·intro σ H' z9;obtain⟨rfl,lo,hi,v,rfl,l1,l2,l3,l4⟩ := z9
  refine⟨_,rfl,_,rfl,_,_,rfl,rfl,_,rfl,?_⟩
  refine ite2 (λ c1=>?_) (λ c1=>?_)
  ·have c2:(lo:Int)<(hi:Int):=of_decide_eq_true c1
   refine⟨_,rfl,_,rfl,_,_,rfl,rfl,_,_,rfl,rfl,⟨by decide,by decide⟩,?_⟩
   have m1:(lo:Int)<=((lo:Int)+hi)/2:=⋯
   have m2:((lo:Int)+hi)/2<(hi:Int):=⋯
   have hk:(((lo:Int)+hi)/2).toNat<xs.length:=⋯
   have ex:=zaa hk
   obtain⟨r,ha,hr'⟩:=hat _ _ ex
   have ek:((((((lo:Int)+hi)/2).toNat:Nat)):Int)=((lo:Int)+hi)/2:=⋯
   rw[ek] at ha
   refine⟨rfl,_,rfl,_,rfl,pc,_,_,_,rfl,rfl,SqL.of hv,ha,r,_,rfl,hc,hr',_,rfl,?_⟩
   refine ite2 (λ c3=>?_) (λ c3=>?_)
   ·refine⟨_,rfl,⟨rfl,lo,(((lo:Int)+hi)/2).toNat,some (.int (((lo:Int)+hi)/2)),?_,⋯,⋯,l3,λ i x h1 h2=>?_⟩,?_⟩
    ·rw[ek]
     rfl
    ·rcases(by omega:i=(((lo:Int)+hi)/2).toNat\/(((lo:Int)+hi)/2).toNat<i) with e|e
     ·rw[e,ex] at h2
      cases h2
      exact c3
     ·exact hmono _ _ _ _ e ex h2 c3
    ·show((((lo:Int)+hi)/2)-(lo:Int)).toNat<((hi:Int)-(lo:Int)).toNat
     omega
   ·refine⟨_,rfl,_,_,rfl,rfl,⟨rfl,(((lo:Int)+hi)/2).toNat+1,hi,some (.int (((lo:Int)+hi)/2)),?_,⋯,l2,λ i x h1 h2=>?_,l4⟩,?_⟩
    ·rw[show(((((lo:Int)+hi)/2).toNat+1:Nat):Int)=(((lo:Int)+hi)/2)+1 by omega]
     rfl
    ·have c4:p xs[(((lo:Int)+hi)/2).toNat]=false:=zbj.mpr c3
     rcases(by omega:i=(((lo:Int)+hi)/2).toNat\/i<(((lo:Int)+hi)/2).toNat) with e|e
     ·rw[e,ex] at h2
      cases h2
      exact c4
     ·refine zbj.mpr λ z=>?_
      have:=hmono _ _ _ _ e h2 ex z
      rw[c4] at this
      cases this
    ·show((hi:Int)-((((lo:Int)+hi)/2)+1)).toNat<((hi:Int)-(lo:Int)).toNat
     omega
  ·have c2:¬(lo:Int)<(hi:Int):=λ z=>c1 (decide_eq_true z)
   have e:lo=hi:=⋯
   subst e
   exact⟨_,rfl,q lo l2 l3 λ x h=>l4 lo x (zaj _) h⟩
 ·intro σ H' Q1 Q2 hq z9;obtain⟨v,e1,v',e2,i,j,e3,e4,k,e5,q1⟩ := z9
  exact⟨v,e1,v',e2,i,j,e3,e4,k,e5,hq _ _ q1⟩
inductive spRidden(P0:Addr)(pos:Pos)(vs:List V)(H:Hp)(Q:VK)(z3q:XK):Prop
 |mk (day p qq ride:Int) (po:Addr) (S:List T4) (g:Int->Int):vs=[.int day,.int p,.int qq,.int ride,.ref po]->LA enc4 H po S->TabOk H P0 pos (lamQ "ridden")->S.length<=4000000->0<day->p<=qq->qq<p+day->Ma.Rise day g->Ma.Cov g 0 S day->(∀(l:Addr)(S':List T4)(H':Hp),SameT P0 H H'->TabOk H' P0 pos (lamQ "ridden")->H l=none->LA enc4 H' l S'->S'.length<=S.length+1->Ma.Cov (λ x=>g (x+ride)) p S' (qq+1)->Q (.ref l) H')->spRidden P0 pos vs H Q z3q
abbrev lamR:Expr:=lamIn ((qag9 qch9).getD 2 (.Pass ⟨0,0,0,0⟩))
theorem sc_lamR(c:Addr):LamScope ["row","hour"] ["row"] (lamSc lamR) [("hour",c)]:=⟨rfl,rfl,rfl,by decide,rfl,by decide +kernel,by decide +kernel,λ _ h=>qls9 h,λ x y d h1 h2=>(qfn9 x d h1).1.trans (qfn9 y d h2).1.symm⟩
def spGR(v:V)(fl c':Addr):Sp:=match v with
 | .int hour=>spFWG enc4 (λ t=>decide (hour<=t.2.1)) fl c' (lamQ "ridden")
 |_=>λ _ _ _ _=>False
theorem ok_lamR{cy:Addr}(FW:Fun K "first_where" "first_where" qax9 g gd)(B:Bl mg)
  (hfl:base.get? fl=some (W.kla_obj "<lambda>" (lamQ "ridden") (qlq9 lamR) (qlr9 lamR) (lamSc lamR) [("hour",cy)] pm c' ctv)) (hca:qim9 base (lamSc lamR) [("hour",cy)] ["row","hour"] ["row"] [v]) :
  FnOk P w K mg base CX0 2 g gd ["clock","holds"] (spGR v fl c'):=by
 cases v with
 |int hour =>
  refine qhi9 (n:=1) (v0 := "row") FW B (lam_ok (k:=0) (N:=["row","hour"]) (cs:=[.int hour]) hfl (λ vs H Q E h=>?_) (sc_lamR cy) hca (λ vs H Q E h=>?_) (λ A outer s H vs Q E hr h=>?_)) (Binds.all λ us hl=>match us,hl with | [_],_=>rfl) ⟨_,_,_,_,hfl⟩
  ·obtain⟨_,_,_,h,_⟩:=h
   exact h
  ·obtain⟨_,_,rfl,_⟩:=h
   rfl
  ·obtain⟨r,t,rfl,hc,hr',q⟩:=h
   refine⟨_,qnk9 op_le (pv 1) (pe_ix ix_tup (pv 0) pe_int (λ _ _=>rfl)) (qau9 _),?_⟩
   exact⟨_,rfl,_,rfl,r,_,_,_,rfl,rfl,SqT.of hr',rfl,_,_,rfl,rfl,q⟩
 |non=>exact qds9
 |bl b=>exact qds9
 |str x=>exact qds9
 |byt b=>exact qds9
 |flt b=>exact qds9
 |ref a=>exact qds9
 |ty n=>exact qds9
theorem ok_ridden{kV:Value}(lk:K.lookup f=some ⟨oc,od,.func (W.fnOf "ridden" "ridden" (qah9 qch9) (qag9 qch9) (qad9 qch9) .none kV doc pm an (.ref c) ct),osl⟩)(hcd:W.codeIn K (.ref c) "ridden"=true)
  (B:Bl mg) (hC:W.CodeHd base c P0) (hB:BMain mg base) (FW:Fun K "first_where" "first_where" qax9 g gd) (bW:Binds K gd ["clock","holds"] []) (mW:mg "first_where"=some (.ref g)) :
  FnOk P w K mg base CX0 3 f (W.fnOf "ridden" "ridden" (qah9 qch9) (qag9 qch9) (qad9 qch9) .none kV doc pm an (.ref c) ct) ["day","p","q","ride","others"] (spRidden P0 ⟨161,28,161,54⟩):=by
 refine fn_of lk hcd sc_ridden (λ vs H Q E h=>?_) (λ A outer s H vs Q E hr h=>?_)
 ·obtain⟨_,_,_,_,_,_,_,rfl,_⟩:=h
  rfl
 obtain⟨day,p0,qq,ride,po,S,gg,rfl,hS,tab,hSl,hd,pq,qd,rg,hCv,q⟩:=h
 refine⟨_,PSs.nox (QSs.run (qab9 (qai9 (i:=5) sc_ridden.nd rfl (zct rfl) (qe_op qba9 (qe_op qav9 (qv 1) (qv 3)) (qv 0))) (qab9 (qai9 (i:=6) sc_ridden.nd rfl (zai rfl) (qe_op qdf9 (qe_op qav9 (qv 1) (qv 3)) (qv 5))) (qab9 (qai9 (i:=7) sc_ridden.nd rfl (zai rfl) ⟨qjf9 (N:=["row","hour"]) (ps:=["row"]) 5 hr rfl mW FW.kp bW rfl rfl hC hB rfl rfl rfl (zct (zai rfl)) rfl rfl rfl qfn9 rfl rfl (pv 4) (λ base' fl c' v pm ctv hfl hca=>ok_lamR FW B hfl hca)⟩) (qab9 (qai9 (i:=8) sc_ridden.nd rfl (zai rfl) (qbj9 qaa9)) (qab9 (qfv9 PassesOwn.never (qam9 qhe9 (qv 1) (qv 2) (qau9 _)) (qab9 (qai9 (i:=9) sc_ridden.nd rfl (zai rfl) (qe_cb (qdw9 rfl) rfl B.min bt_min (qa_c (qv 2) (qa_c (qe_op qdf9 (qe_op qav9 (qv 6) (qe_ix qas9 (qe_ix qaj9 (qv 4) (qv 7) (λ _ _=>rfl)) qac9 (λ _ _=>rfl))) (qv 3)) qaa9)))) (qek9 (qs_if (qcb9 (qe_ix qas9 (qe_ix qaj9 (qv 4) (qv 7) (λ _ _=>rfl)) qac9 (λ _ _=>rfl))) (qae9 (qbi9 (qbv9 (qv 8) (qa_c (qbd9 (qa_c (qv 1) (qa_c (qv 9) (qa_c qe_bl (qa_c (qe_op qav9 (qv 6) (qe_ix qas9 (qe_ix qaj9 (qv 4) (qv 7) (λ _ _=>rfl)) qac9 (λ _ _=>rfl))) qaa9))))) qaa9)))) (qae9 (qbi9 (qbv9 (qv 8) (qa_c (qbd9 (qa_c (qv 1) (qa_c (qv 9) (qa_c qe_bl (qa_c (qe_op qav9 (qv 3) (qe_ix qas9 (qe_ix qaj9 (qv 4) (qv 7) (λ _ _=>rfl)) qac9 (λ _ _=>rfl))) qaa9))))) qaa9))))) (qab9 (qai9 (i:=1) sc_ridden.nd rfl (zai rfl) (qe_op qav9 (qv 9) qac9)) (qab9 (qpf9 (i:=7) sc_ridden.nd rfl (zai rfl) qoy9 qac9) (qae9 (qs_if (qam9 qcf9 (qv 7) (qe_cb qap9 rfl B.len qcc9 (qa_c (qv 4) qaa9)) (qau9 _)) (qab9 (qai9 (i:=7) sc_ridden.nd rfl (zai rfl) qac9) (qae9 (qpf9 (i:=6) sc_ridden.nd rfl (zai rfl) qoy9 (qv 0)))) qat9))))))) (qae9 (qao9 (qv 8))))))))),?_⟩
 walk_at "d"
 refine⟨_,rfl,_,rfl,_,_,rfl,rfl,_,rfl,_,_,rfl,rfl,hd,?_⟩
 obtain⟨qt,eq0,h0,h1⟩:=Ma.split day (p0+ride) hd
 dsimp only
 generalize (p0+ride)%day=hour at *
 refine⟨_,rfl,_,rfl,_,_,rfl,rfl,_,rfl,_,_,rfl,rfl,?_⟩
 dsimp only
 generalize hm0:p0+ride-hour=mid0
 have em0:mid0=day*qt:=⋯
 refine⟨_,rfl,_,rfl,tab,λ fl c' H2 sm tb hc'=>?_⟩
 have su:=SameU.tab sm tab tb
 have hS2:=hS.u su
 refine⟨po,S,rfl,hc',hS2,λ i j x y hij ex ey hp=>?_,λ k0 m1 m2 m3=>?_⟩
 ·have a1:hour<=x.2.1:=of_decide_eq_true hp
  have:=hCv.lt ex ey hij
  have:=(hCv.get ey).2.1
  exact decide_eq_true (by show hour<=y.2.1;omega)
 have hk0:k0<S.length:=by
  rcases zca k0 S.length with z|z
  ·exact z
  ·exfalso
   obtain⟨i,r,er,r1,r2⟩:=hCv.find h0 h1
   have hi:=(zab.mp er).1
   have:=of_decide_eq_false (m2 i r ⋯ er)
   omega
 have er0:=zaa hk0
 generalize hr0:S[k0]=r0 at *
 have r0b:hour<=r0.2.1:=of_decide_eq_true (m3 r0 er0)
 have r0a:r0.1<=hour:=by
  rcases zch k0 with z|z
  ·have:=(hCv.get er0).2.2.2.2.1 z
   omega
  ·have hk:k0-1<S.length:=⋯
   have e1:=zaa hk
   have:=of_decide_eq_false (m2 (k0-1) _ ⋯ e1)
   have:=(hCv.get e1).2.2.2.2.2.1 r0 (by rw[show k0-1+1=k0 by omega];exact er0)
   omega
 refine⟨(by show 0<=sizeLine;decide),λ pr hpr=>?_⟩
 have sr:Same H2 (upd H2 pr (.lst [])):=qan9 hpr _
 refine qfu9 (λ σ H'=>∃(S':List T4)(p m:Int)(k:Nat)(v:Option V),σ=[some (.int day),some (.int p),some (.int qq),some (.int ride),some (.ref po),some (.int hour),some (.int m),some (.int k),some (.ref pr),v] /\
   Same H2 H'/\LA enc4 H' pr S'/\Ma.Cov (λ x=>gg (x+ride)) p0 S' p/\p<=qq+1/\S'.length<=S.length+1 /\
   (p<=qq->(∃kk,m=day*kk)/\(∃r,S[k]?=some r/\m+r.1<=p+ride/\p+ride<=m+r.2.1)/\((m=mid0/\S'.length+k0=k)\/(m=mid0+day/\S'.length+k0=S.length+k/\k<=k0))))
  (λ σ _=>match σ with | [_,some (.int p),_,_,_,_,_,_,_,_]=>(qq+1-p).toNat|_=>0) ?_ ?_ ?_
 ·exact⟨[],p0,mid0,k0,none,rfl,sr,LA.nil qaf9,rfl,⋯,by simp,λ _=>⟨⟨qt,em0⟩,⟨r0,er0,⋯,⋯⟩,.inl ⟨rfl,by simp⟩⟩⟩
 ·intro σ H3 z9;obtain⟨S',p,m,k,v,rfl,s3,hS',cv,pl,sl,hin⟩ := z9
  refine⟨_,rfl,_,rfl,_,_,rfl,rfl,_,rfl,?_⟩
  refine ite2 (λ c=>?_) (λ c=>?_)
  ·have c':p<=qq:=of_decide_eq_true c
   obtain⟨⟨kk,em⟩,⟨r,er,x1,x2⟩,hw⟩:=hin c'
   obtain⟨g1,g2,g3,g4,g5,g6,g7⟩:=hCv.get er
   have hkS:=(zab.mp er).1
   obtain⟨us,u1,u2,u3⟩:=(hS2.same s3).at (K:=K)
   obtain⟨ra,ua,ub⟩:=u3 k _ er
   refine⟨_,rfl,_,rfl,_,rfl,_,rfl,po,_,_,_,rfl,rfl,SqL.of u1,ua,ra,_,_,_,rfl,rfl,SqT.of ub,rfl,_,_,rfl,rfl,_,rfl,_,_,rfl,rfl,_,_,rfl,?_⟩
   generalize he:(if m+r.2.1-ride<qq then m+r.2.1-ride else qq)=e
   have e1:p<=e:=by rw[<- he];split<;>omega
   have e2:e<=qq:=by rw[<- he];split<;>omega
   have e3:e+ride<=m+r.2.1:=by rw[<- he];split<;>omega
   have e4:e<qq->e+ride=m+r.2.1:=by rw[<- he];split<;>omega
   have rc:=Ma.ride_cov rg em e1 x1 e3 g4
   obtain⟨vs,v1,v2,v3⟩:=hS'.lst
   refine⟨λ σ' H'=>σ'=[some (.int day),some (.int p),some (.int qq),some (.int ride),some (.ref po),some (.int hour),some (.int m),some (.int k),some (.ref pr),some (.int e)]/\Same H2 H'/\LA enc4 H' pr (S'++[Ma.rideRow p e m ride r]),?_,?_⟩
   ·refine⟨_,rfl,_,rfl,po,_,_,_,rfl,rfl,SqL.of u1,ua,ra,_,_,_,rfl,rfl,SqT.of ub,rfl,_,rfl,?_⟩
    unfold Ma.rideRow
    refine ite2 (λ z=>?_) (λ z=>?_)
    ·rw[if_pos z]
     refine⟨_,rfl,.inl ⟨rfl,_,SqL.of v1⟩,_,rfl,_,rfl,_,rfl,_,rfl,_,rfl,po,_,_,_,rfl,rfl,SqL.of u1,ua,ra,_,_,_,rfl,rfl,SqT.of ub,rfl,_,_,rfl,rfl,(by show 4<=sizeLine;decide),λ rn hrn=>?_⟩
     have s4:=qan9 hrn (.tup [.int p,.int e,.bl true,.int (m+r.2.2.2)])
     exact⟨pr,vs,.ref rn,rfl,rfl,s4 _ _ v1,qbe9 ⋯,rfl,qci9 hpr (s3.trans s4),(hS'.same s4).append (x:=(p,e,true,m+r.2.2.2)) (s4 _ _ v1) qaf9⟩
    ·rw[if_neg z]
     refine⟨_,rfl,.inl ⟨rfl,_,SqL.of v1⟩,_,rfl,_,rfl,_,rfl,_,rfl,_,rfl,po,_,_,_,rfl,rfl,SqL.of u1,ua,ra,_,_,_,rfl,rfl,SqT.of ub,rfl,_,_,rfl,rfl,(by show 4<=sizeLine;decide),λ rn hrn=>?_⟩
     have s4:=qan9 hrn (.tup [.int p,.int e,.bl false,.int (ride+r.2.2.2)])
     exact⟨pr,vs,.ref rn,rfl,rfl,s4 _ _ v1,qbe9 ⋯,rfl,qci9 hpr (s3.trans s4),(hS'.same s4).append (x:=(p,e,false,ride+r.2.2.2)) (s4 _ _ v1) qaf9⟩
   intro σ' H4 z9;obtain⟨rfl,s4,hS4⟩ := z9
   refine⟨_,rfl,_,_,rfl,rfl,?_⟩
   refine⟨_,rfl,_,_,rfl,rfl,?_⟩
   obtain⟨us,u1,u2,u3⟩:=(hS2.same s4).at (K:=K)
   have cv4:=cv.append rc
   have sl4:(S'++[Ma.rideRow p e m ride r]).length<=S.length+1:=by
    rw[zal,zbh]
    rcases hw with⟨_,z⟩|⟨_,z,z2⟩<;>omega
   have ek:((k:Int)+1)=(((k+1:Nat)):Int):=⋯
   have nxt:∀(m':Int)(k':Nat),(k+1<S.length->m'=m/\k'=k+1)->(k+1=S.length->m'=m+day/\k'=0)->(e+1<=qq->(∃kk,m'=day*kk)/\(∃r,S[k']?=some r/\m'+r.1<=e+1+ride/\e+1+ride<=m'+r.2.1)/\((m'=mid0/\(S'++[Ma.rideRow p e m ride r]).length+k0=k')\/(m'=mid0+day/\(S'++[Ma.rideRow p e m ride r]).length+k0=S.length+k'/\k'<=k0))):=by
    intro m' k' ha hb lt
    have e5:=e4 ⋯
    rw[zal,zbh]
    rcases(by omega:k+1<S.length\/k+1=S.length) with z|z
    ·obtain⟨rfl,rfl⟩:=ha z
     have en:=zaa z
     have q1:=g6 _ en
     have q2:=(hCv.get en).2.1
     refine⟨⟨kk,em⟩,⟨_,en,⋯,⋯⟩,?_⟩
     rcases hw with⟨y1,y2⟩|⟨y1,y2,y3⟩
     ·exact .inl ⟨y1,⋯⟩
     ·refine .inr ⟨y1,⋯,?_⟩
      rcases(by omega:k<k0\/k=k0) with y|y
      ·omega
      ·exfalso
       have er':=er
       rw[y,er0] at er'
       cases er'
       omega
    ·obtain⟨rfl,rfl⟩:=hb z
     have q1:=g7 z
     have hn0:0<S.length:=⋯
     have en:=zaa hn0
     have q2:=(hCv.get en).2.2.2.2.1 rfl
     have q3:=(hCv.get en).2.1
     refine⟨⟨kk+1,by rw[em,zfd,zdr]⟩,⟨_,en,⋯,⋯⟩,?_⟩
     rcases hw with⟨y1,y2⟩|⟨y1,y2,y3⟩
     ·exact .inr ⟨⋯,⋯,zbn _⟩
     ·exfalso
      have y:k=k0:=⋯
      have er':=er
      rw[y,er0] at er'
      cases er'
      omega
   dsimp only
   rw[ek]
   refine⟨_,rfl,_,rfl,po,_,rfl,.inl (SqL.of u1),rfl,_,rfl,?_⟩
   refine ite2 (λ z=>?_) (λ z=>?_)
   ·have z':=of_decide_eq_true z
    injection z' with z'
    refine⟨_,rfl,_,rfl,_,_,rfl,rfl,⟨_,e+1,m+day,0,_,rfl,s4,hS4,cv4,⋯,sl4,nxt (m+day) 0 (λ y=>⋯) λ _=>⟨rfl,rfl⟩⟩,?_⟩
    show(qq+1-(e+1)).toNat<(qq+1-p).toNat
    omega
   ·have z':¬(((k+1:Nat)):Int)=((us.length:Nat):Int):=λ y=>z (decide_eq_true (by rw[y]))
    refine⟨⟨_,e+1,m,k+1,_,rfl,s4,hS4,cv4,⋯,sl4,nxt m (k+1) (λ _=>⟨rfl,rfl⟩) λ y=>⋯⟩,?_⟩
    show(qq+1-(e+1)).toNat<(qq+1-p).toNat
    omega
  ·have c':¬p<=qq:=λ z=>c (decide_eq_true z)
   have e:p=qq+1:=⋯
   subst e
   have fr:H pr=none:=by
    cases eh:H pr with
    |none=>rfl
    |some o =>
     by_cases zp:pr=P0
     ·obtain⟨ps,hp,_⟩:=tb
      rw[zp,hp] at hpr
      cases hpr
     ·rw[sm _ _ eh zp] at hpr
      cases hpr
   exact⟨_,rfl,q pr S' H3 (SameT.trans sm (SameT.same s3)) (TabOk.same tb s3) fr hS' sl cv⟩
 ·intro σ H' Q1 Q2 hq z9;obtain⟨v,e1,v',e2,i,j,e3,e4,k,e5,q1⟩ := z9
  exact⟨v,e1,v',e2,i,j,e3,e4,k,e5,hq _ _ q1⟩
inductive spRiddenT(T:Hp->Prop)(vs:List V)(H:Hp)(Q:VK)(z3q:XK):Prop
 |mk (day p qq ride:Int) (po:Addr) (S:List T4) (g:Int->Int):vs=[.int day,.int p,.int qq,.int ride,.ref po]->LA enc4 H po S->T H->S.length<=4000000->0<day->p<=qq->qq<p+day->Ma.Rise day g->Ma.Cov g 0 S day->(∀(l:Addr)(S':List T4)(H':Hp),SameU H H'->T H'->H l=none->LA enc4 H' l S'->S'.length<=S.length+1->Ma.Cov (λ x=>g (x+ride)) p S' (qq+1)->Q (.ref l) H')->spRiddenT T vs H Q z3q
theorem ridden_T(C:Callee P w K mg base n "ridden" ["day","p","q","ride","others"] (spRidden P0 pos))(h1:∀H,T H->TabOk H P0 pos (lamQ "ridden"))
  (h2:∀H H',T H->SameT P0 H H'->TabOk H' P0 pos (lamQ "ridden")->T H'):Callee P w K mg base n "ridden" ["day","p","q","ride","others"] (spRiddenT T):=Callee.imp C λ vs H Q E h=>by
 obtain⟨day,p,qq,ride,po,S,g,rfl,hS,hT,a1,a2,a3,a4,a5,a6,q⟩:=h
 exact⟨day,p,qq,ride,po,S,g,rfl,hS,h1 H hT,a1,a2,a3,a4,a5,a6,λ l S' H' sm tb=>q l S' H' (SameU.tab sm (h1 H hT) tb) (h2 H H' hT sm tb)⟩
inductive spBehind(T:Hp->Prop)(vs:List V)(H:Hp)(Q:VK)(z3q:XK):Prop
 |mk (day:Int) (p1 p2:Addr) (R1 R2:List T3):vs=[.int day,.ref p1,.ref p2]->LA enc3 H p1 R1->LA enc3 H p2 R2->T H->R1.length<=1900000->R2.length<=1900000->(2*R1.length+1)*(2*R2.length+2)<=16000000->Ma.CK day R1->Ma.CK day R2->(∀(l:Addr)(R:List T3)(H':Hp),SameU H H'->T H'->H l=none->LA enc3 H' l R->R.length<=(2*R1.length+1)*(2*R2.length+2)->Ma.CK day R->(∀t,Ma.bt day R t=Ma.obind (Ma.bt day R1) (Ma.bt day R2) t)->Q (.ref l) H')->spBehind T vs H Q z3q
theorem ok_behind(hTB:TB T)(F:Fun K "behind" "behind" qfj9 f fd)(B:Bl mg)(Cj0:Callee P w K mg base n "stretches" ["day","clock"] spStretches)(Cq1:Callee P w K mg base n "come" ["day","clock","t"] (spComeT T))(Ct1:Callee P w K mg base n "ridden" ["day","p","q","ride","others"] (spRiddenT T))
  (Ck0:Callee P w K mg base n "clock_from" ["day","rows"] spClockFrom):FnOk P w K mg base CX0 (n+1) f fd ["day","one","other"] (spBehind T):=by
 refine F.okQ sc_behind (λ vs H Q E h=>?_) (λ cdv A outer s H vs Q E hr h=>?_)
 ·obtain⟨_,_,_,_,_,rfl,_⟩:=h
  rfl
 obtain⟨day,p1,p2,R1,R2,rfl,hR1,hR2,hT,hl1,hl2,hl3,ck1,ck2,q⟩:=h
 refine⟨_,(qab9 (qs_if (qhb9 (QW.pt (qw_or (qam9 qcf9 (qe_cb qap9 rfl B.len qcc9 (qa_c (qv 1) qaa9)) qac9 (qau9 _)) (qer9 (qam9 qcf9 (qe_cb qap9 rfl B.len qcc9 (qa_c (qv 2) qaa9)) qac9 (qau9 _)))))) (qae9 (qao9 (qbj9 qaa9))) qat9) (qab9 (qai9 (i:=3) sc_behind.nd rfl (zai rfl) (qe_fn Cj0 hr rfl (qa_c (qv 0) (qa_c (qv 2) qaa9)))) (qab9 (qai9 (i:=4) sc_behind.nd rfl (zai rfl) (qbj9 qaa9)) (qab9 (qeo9 PassesOwn.never rfl (qcv9 (qe_fn Cj0 hr rfl (qa_c (qv 0) (qa_c (qv 1) qaa9)))) (qgw9 rfl (qaw9 (qar9 (i:=5) sc_behind.nd rfl (zai rfl)) (qaw9 (qar9 (i:=6) sc_behind.nd rfl (zai rfl)) (qaw9 (qar9 (i:=7) sc_behind.nd rfl (zai rfl)) (qaw9 (qar9 (i:=8) sc_behind.nd rfl (zai rfl)) qed9))))) (qae9 (qs_if (qcb9 (qv 7)) (qae9 (qbi9 (qbv9 (qv 4) (qa_c (qbd9 (qa_c (qv 5) (qa_c (qv 6) (qa_c qe_bl (qa_c (qe_fn Cq1 hr rfl (qa_c (qv 0) (qa_c (qv 2) (qa_c (qv 8) qaa9)))) qaa9))))) qaa9)))) (qae9 (qbi9 (qif9 (qv 4) (qa_c (qe_fn Ct1 hr rfl (qa_c (qv 0) (qa_c (qv 5) (qa_c (qv 6) (qa_c (qv 8) (qa_c (qv 3) qaa9)))))) qaa9))))))) (qae9 (qao9 (qe_fn Ck0 hr rfl (qa_c (qv 0) (qa_c (qv 4) qaa9))))))))),?_⟩
 walk_at "d"
 obtain⟨us,hu1,hu2,hu3⟩:=hR1.lst
 obtain⟨ws,hw1,hw2,hw3⟩:=hR2.lst
 refine⟨λ b H'=>H'=H/\b=decide (R1=[]\/R2=[]),?_,?_⟩
 ·refine⟨_,rfl,p1,_,rfl,.inl (SqL.of hu1),rfl,_,rfl,?_⟩
  refine ite2 (λ c=>?_) (λ c=>?_)
  ·have c':=of_decide_eq_true c
   injection c' with c'
   have e:R1=[]:=zay.mp ⋯
   exact⟨rfl,by simp[e]⟩
  ·have n1:R1≠[]:=λ e=>c (decide_eq_true (by rw[hu2,e];rfl))
   refine⟨_,rfl,p2,_,rfl,.inl (SqL.of hw1),rfl,_,rfl,rfl,?_⟩
   rw[hw2]
   cases R2 with
   |nil=>simp
   |cons x r=>simp[n1];omega
 intro b H1 z9;obtain⟨rfl,rfl⟩ := z9
 refine ite2 (λ c=>?_) (λ c=>?_)
 ·have c':=of_decide_eq_true c
  refine⟨(by show 0<=sizeLine;decide),λ l hl=>?_⟩
  refine q l [] _ (SameU.of (qan9 hl _)) (hTB.same _ _ hT (qan9 hl _)) hl (LA.nil qaf9) (by simp) (Ma.ck_nil ck1.d0) λ t=>?_
  unfold Ma.obind
  rcases c' with e|e
  ·rw[e];rfl
  ·rw[e,Ma.bt_nil];cases Ma.bt day R1 t<;>rfl
 have c':¬(R1=[]\/R2=[]):=λ z=>c (decide_eq_true z)
 have T1:=Ma.tells_bf (d:=day) (λ e=>c' (.inl e))
 have T2:=Ma.tells_bf (d:=day) (λ e=>c' (.inr e))
 have rf:=ck1.rise T1
 have rg:=ck2.rise T2
 have C1:=Ma.str_cov ck1 T1
 have C2:=Ma.str_cov ck2 T2
 have b1:=Ma.strOf_len day R1
 have b2:=Ma.strOf_len day R2
 have hd:=ck1.d0
 refine⟨_,rfl,_,rfl,day,p2,R2,rfl,hR2,⋯,λ l2 H2 s2 f2 hS2=>?_⟩
 refine⟨(by show 0<=sizeLine;decide),λ pr hpr=>?_⟩
 have s3:Same H2 (upd H2 pr (.lst [])):=qan9 hpr _
 have s13:=s2.trans s3
 refine⟨_,rfl,_,rfl,day,p1,R1,rfl,hR1.same s13,⋯,λ l1 H4 s4 f4 hS1=>?_⟩
 have er4:H4 pr=some (.lst []):=s4 _ _ qaf9
 have n1:l1≠pr:=λ e=>by rw[e,qaf9] at f4;cases f4
 have s14:=s13.trans s4
 have hS2:=(hS2.same s3).same s4
 have n2:l2≠pr:=λ e=>by
  have h:=s2.free hpr
  obtain⟨vs,z,_⟩:=hS2.lst
  rw[e,er4] at z
  cases z
  obtain⟨vs',z',_⟩:=(show LA enc4 H2 l2 (Ma.strOf day R2) from by assumption).lst
  rw[e,hpr] at z'
  cases z'
 have hR2:=(hR2.same s14)
 have np2:p2≠pr:=λ e=>by
  have z:=s2 _ _ hw1
  rw[e,hpr] at z
  cases z
 have hT4:=hTB.same _ _ hT s14
 have hfr:H1 pr=none:=s2.free hpr
 clear s3 f4 f2
 generalize Ma.strOf day R1=S1 at *
 generalize Ma.strOf day R2=S2 at *
 generalize Ma.bf day R1=f1 at *
 generalize Ma.bf day R2=f2 at *
 obtain⟨xs,hx1,hx2,hx3⟩:=hS1.lst
 have hrow:∀{α:Type}{enc:α->List V}{l:Addr}{ys:List α}{H':Hp},LA enc H4 l ys->l≠pr->(∀b o,H4 b=some o->b≠pr->(∀z,o ≠ .tbl z)->H' b=some o)->LA enc H' l ys:=λ {α enc l ys H'} h nl st=>by
  obtain⟨rs,h1,h2,h3⟩:=h.ex
  refine⟨rs,st _ _ h1 nl (λ _ z=>nomatch z),h2,λ i r x e e'=>?_⟩
  have h4:=h3 i r x e e'
  exact st _ _ h4 (λ z=>by rw[z,er4] at h4;cases h4) (λ _ z=>nomatch z)
 refine⟨l1,rfl,⟨_,SqL.of hx1⟩,qex9 (K:=K) (a:=l1) (xs:=xs)
  (λ i σ H'=>∃(S:List T4)(at_:Int)(v1 v2 v3 v4:Option V),σ=[some (.int day),some (.ref p1),some (.ref p2),some (.ref l2),some (.ref pr),v1,v2,v3,v4]/\SameU H1 H'/\T H'/\(∀b o,H4 b=some o->b≠pr->(∀z,o ≠ .tbl z)->H' b=some o)/\LA enc4 H' pr S/\S.length<=i*(S2.length+1)/\Ma.Cov (λ x=>f2 (f1 x)) 0 S at_/\(∀r,S1[i]?=some r->r.1=at_)/\(i=S1.length->at_=day))
  ⟨[],0,_,_,_,_,rfl,SameU.of s14,hT4,λ b o e _ _=>e,LA.nil er4,by simp,rfl,λ r e=>(C1.get e).2.2.2.2.1 rfl,λ e=>?_⟩
  (λ i σ H' _ ⟨_,_,_,_,_,_,_,_,_,s1,_⟩=>SqL.of (s1 _ _ hx1 n1 (λ _ z=>nomatch z))) ?_ ?_⟩
 ·rw[zay.mp e.symm] at C1
  exact C1
 ·intro i y σ H5 hi z9;obtain⟨S,at_,v1,v2,v3,v4,rfl,sU,t5,st,hS,hSl,hC,hat,_⟩ := z9
  obtain⟨r,x,rfl,ex,er⟩:=hx3 i y hi
  have e1:=hat x ex
  obtain⟨g1,g2,g3,g4,g5,g6,g7⟩:=C1.get ex
  have nr:r≠pr:=λ z=>by rw[z,er4] at er;cases er
  have er5:=st _ _ er nr (λ _ z=>nomatch z)
  have hi2:i<S1.length:=(zab.mp ex).1
  obtain⟨xp,xq,xs',xv⟩:=x
  have e1':xp=at_:=e1
  subst e1'
  have g2':xp<=xq:=g2
  have g3':xq<day:=g3
  have g1':0<=xp:=g1
  have g4':∀x,xp<=x->x<=xq->f1 x=if xs'=true then xv else x+xv:=g4
  obtain⟨vs,hv1,hv2,hv3⟩:=hS.lst
  have bnd:(i+1)*(S2.length+1)<=16000000:=by
   have:(i+1)*(S2.length+1)<=(2*R1.length+1)*(2*R2.length+2):=zdq ⋯ ⋯
   omega
  rw[zes] at bnd
  refine⟨r,_,rfl,SqT.of er5,rfl,_,_,rfl,_,_,rfl,_,_,rfl,_,_,rfl,rfl,?_⟩
  refine⟨_,rfl,_,rfl,?_⟩
  cases xs' with
  |true =>
   refine iteT ⟨_,rfl,.inl ⟨rfl,_,SqL.of hv1⟩,_,rfl,_,rfl,_,rfl,_,rfl,_,rfl,day,p2,xv,R2,rfl,hrow hR2 np2 st,t5,ck2,λ H6 u6 t6=>?_⟩
   rw[T2 xv]
   refine⟨(by show 4<=sizeLine;decide),λ rn hrn=>?_⟩
   have s7:=qan9 hrn (.tup [.int xp,.int xq,.bl true,.int (f2 xv)])
   have u7:=u6.trans (SameU.of s7)
   have hv7:=u7.lst hv1
   refine⟨pr,vs,.ref rn,rfl,rfl,hv7,qbe9 ⋯,?_⟩
   have cr:Ma.Cov (λ x=>f2 (f1 x)) xp [(xp,xq,true,f2 xv)] (xq+1):=Ma.Cov.one (r:=(xp,xq,true,f2 xv)) g2' λ x x0 x1=>by
    have:=g4' x x0 x1
    rw[if_pos rfl] at this
    show f2 (f1 x)=f2 xv
    rw[this]
   refine⟨_,_,_,_,_,_,rfl,SameU.wr hfr (sU.trans u7),hTB.wr _ _ _ _ (hTB.same _ _ t6 s7) hv7,λ b o e nb nt=>?_,((hS.u u6).same s7).append (x:=(xp,xq,true,f2 xv)) hv7 qaf9,?_,hC.append cr,λ r' e'=>g6 r' e',λ e=>g7 e⟩
   ·rw[qaq9 nb]
    exact u7.1 _ _ (st _ _ e nb nt) nt
   ·rw[zal,zbh,zes]
    omega
  |false =>
   refine iteF ⟨_,rfl,.inl ⟨rfl,_,SqL.of hv1⟩,_,rfl,_,rfl,_,rfl,_,rfl,_,rfl,day,xp,xq,xv,l2,S2,f2,rfl,hrow hS2 n2 st,t5,⋯,hd,g2',⋯,rg,C2,λ l S' H6 u6 t6 fl hS' hSl' cr=>?_⟩
   obtain⟨zs,hz1,hz2,hz3⟩:=hS'.lst
   have hv6:=u6.lst hv1
   refine⟨pr,l,vs,zs,rfl,rfl,hv6,hz1,zbu (qbe9 ⋯),?_⟩
   have cr':Ma.Cov (λ x=>f2 (f1 x)) xp S' (xq+1):=by
    refine Ma.Cov.congr (λ x x0 x1=>?_) cr
    have:=g4' x x0 ⋯
    rw[if_neg (by decide)] at this
    show f2 (x+xv)=f2 (f1 x)
    rw[this]
   refine⟨_,_,_,_,_,_,rfl,SameU.wr hfr (sU.trans u6),hTB.wr _ _ _ _ t6 hv6,λ b o e nb nt=>?_,(hS.u u6).extend hS' hv6 hz1,?_,hC.append cr',λ r' e'=>g6 r' e',λ e=>g7 e⟩
   ·rw[qaq9 nb]
    exact u6.1 _ _ (st _ _ e nb nt) nt
   ·rw[zal,zes]
    omega
 ·intro σ H5 z9;obtain⟨S,at_,v1,v2,v3,v4,rfl,sU,t5,st,hS,hSl,hC,hat,hend⟩ := z9
  have e:=hend hx2
  subst e
  rw[hx2] at hSl
  have bnd:S1.length*(S2.length+1)<=(2*R1.length+1)*(2*R2.length+2):=zdq b1 ⋯
  have rc:=Ma.rise_comp rf rg
  refine⟨_,rfl,_,rfl,at_,pr,S,_,rfl,hS,⋯,hd,rc,hC,λ l R H6 s6 fl hR hRl can=>?_⟩
  refine q l R H6 (sU.trans (SameU.of s6)) (hTB.same _ _ t5 s6) (sU.free fl) hR ⋯ (can.ck hd rc) λ t=>?_
  rw[can.tells hd rc t]
  unfold Ma.obind
  rw[T1 t]
  exact(T2 _).symm
abbrev RdT:=Int×Int×Addr×List T3
variable {F M N:List RdT}{m:RdT}
def keyN(m:RdT):Int×Int×Addr:=(m.1,m.2.1,m.2.2.1)
def encK(k:Int×Int×Addr):List V:=[.int k.1,.int k.2.1,.ref k.2.2]
structure NA(H:Hp)(p:Addr)(N:List RdT):Prop where
 la:LA encK H p (N.map keyN)
 bd:∀m∈N,LA enc3 H m.2.2.1 m.2.2.2/\m.2.2.1≠p
 nd:(N.map λ m=>m.2.2.1).Nodup
section
variable {s:Int}{us:List V}
theorem NA.nil(h:H p=some (.lst [])):NA H p []:=⟨LA.nil h,(λ m hm=>by cases hm),List.Pairwise.nil⟩
theorem NA.mono(h:NA H p N)(s:∀b o,H b=some o->(∀z,o ≠ .tbl z)->H' b=some o):NA H' p N:=⟨h.la.mono s,λ m hm=>⟨(h.bd m hm).1.mono s,(h.bd m hm).2⟩,h.nd⟩
theorem NA.same(h:NA H p N)(s:Same H H'):NA H' p N:=h.mono λ b o e _=>s b o e
theorem NA.fresh(h:NA H p N)(fb:H b=none):b≠p/\b∉N.map λ m=>m.2.2.1:=by
 refine⟨λ z=>?_,λ hm=>?_⟩
 ·obtain⟨vs,h1,_⟩:=h.la.lst
  rw[<- z,fb] at h1
  cases h1
 ·obtain⟨m,hm',e⟩:=zbi.mp hm
  obtain⟨vs,h1,_⟩:=(h.bd m hm').1.lst
  rw[e,fb] at h1
  cases h1
end
def RoadsIn(day size:Int)(N:List RdT):Prop:=∀m∈N,(0<=m.1/\m.1<size)/\(0<=m.2.1/\m.2.1<size)/\m.2.2.2.length<=16/\∀w∈m.2.2.2,0<=w.1/\w.1<=w.2.1/\w.2.1<day/\1<=w.2.2/\w.2.2<=1000000000000000
def NFr(H:Hp)(N:List RdT):Prop:=∀m∈N,H m.2.2.1=none
theorem NFr.snoc(h:NFr H N)(e:H m.2.2.1=none):NFr H (N++[m]):=λ x hx=>by
 rcases zau.mp hx with hx|hx
 ·exact h x hx
 ·rw[zag] at hx
  subst hx
  exact e
theorem NA.add{s:Int}(h:NA H p N)(fb:b≠p/\b∉N.map λ m=>m.2.2.1)(hx:H p=some (.lst vs))(hb:LA enc3 H b R)(hr:H r=some (.tup [.int s,.int e,.ref b])):NA (upd H p (.lst (vs++[.ref r]))) p (N++[(s,e,b,R)]):=by
 refine⟨?_,λ m hm=>?_,?_⟩
 ·rw[zbs]
  exact h.la.append (x:=(s,e,b)) hx hr
 ·rcases zau.mp hm with hm|hm
  ·obtain⟨h1,h2⟩:=h.bd m hm
   exact⟨qdb9 h1 hx h2,h2⟩
  ·rw[zag] at hm
   subst hm
   exact⟨qdb9 hb hx fb.1,fb.1⟩
 ·rw[zbs]
  refine zdf.mpr ⟨h.nd,by simp,λ x hx y hy=>?_⟩
  simp only[zci,zge,zag] at hy
  subst hy
  exact λ z=>fb.2 (z ▸ hx)
def strip(m:RdT):Int×Int×List T3:=(m.1,m.2.1,m.2.2.2)
def numV(count:Int):V->Bool
 | .int i=>decide (0<=i)&&decide (i<count)
 |_=>false
def posW(H:Hp)(x:V):Bool:=match tupV H x with
 |some [_,_,.int c]=>decide (0<c)
 |_=>false
def posB(H:Hp)(x:V):Bool:=match lstV H x with
 |some ws=>ws.all (posW H)
 |none=>false
def roadL(H:Hp)(day size:Int):List V->Bool
 | [s,e,b]=>numV size s&&(numV size e&&(qev9 H day b&&posB H b))
 |_=>false
def roadV(H:Hp)(day size:Int)(x:V):Bool:=match tupV H x with
 |some xs=>roadL H day size xs
 |none=>false
def netV(H:Hp)(day:Int)(size roads:V):Bool:=match size with
 | .int n=>decide (1<=n)&&(match lstV H roads with
  |some xs=>xs.all (roadV H day n)
  |none=>false)
 |_=>false
def DvR(H:Hp)(x:V):Prop:=Dv H x/\∀zs,tupV H x=some zs->∀z∈zs,Dv3 H z
def DvN(H:Hp)(x:V):Prop:=Dv H x/\∀xs,lstV H x=some xs->xs.length<=1000/\∀y∈xs,DvR H y
theorem Dv3.same{H H':Hp}{x:V}(h:Dv3 H x)(s:Same H H'):Dv3 H' x:=⟨h.1.same s,λ xs e=>by
 rw[h.1.lstV_same s] at e
 exact⟨(h.2 xs e).1,λ y hy=>((h.2 xs e).2 y hy).same s⟩⟩
theorem DvR.same{H H':Hp}{x:V}(h:DvR H x)(s:Same H H'):DvR H' x:=⟨h.1.same s,λ xs e=>by
 rw[h.1.tupV_same s] at e
 exact λ y hy=>(h.2 xs e y hy).same s⟩
theorem Dv3.boardV_same(h:Dv3 H x)(s:Same H H')(day:Int):qev9 H' day x=qev9 H day x:=by
 unfold qev9
 rw[h.1.lstV_same s]
 cases e:lstV H x with
 |none=>rfl
 |some xs =>
  rw[zcb,zba,zba]
  exact⟨λ z y hy=>by rw[<- ((h.2 xs e).2 y hy).1.winV_same s day];exact z y hy,λ z y hy=>by rw[((h.2 xs e).2 y hy).1.winV_same s day];exact z y hy⟩
theorem Dv2.posW_same(h:Dv2 H x)(s:Same H H'):posW H' x=posW H x:=by
 unfold posW
 rw[h.1.tupV_same s]
theorem Dv3.posB_same(h:Dv3 H x)(s:Same H H'):posB H' x=posB H x:=by
 unfold posB
 rw[h.1.lstV_same s]
 cases e:lstV H x with
 |none=>rfl
 |some xs =>
  rw[zcb,zba,zba]
  exact⟨λ z y hy=>by rw[<- ((h.2 xs e).2 y hy).posW_same s];exact z y hy,λ z y hy=>by rw[((h.2 xs e).2 y hy).posW_same s];exact z y hy⟩
theorem DvR.roadV_same(h:DvR H x)(s:Same H H')(day size:Int):roadV H' day size x=roadV H day size x:=by
 unfold roadV
 rw[h.1.tupV_same s]
 cases e:tupV H x with
 |none=>rfl
 |some xs =>
  have hz:=h.2 xs e
  show roadL H' day size xs=roadL H day size xs
  unfold roadL
  split
  ·rw[(hz _ (by simp)).boardV_same s,(hz _ (by simp)).posB_same s]
  ·rfl
theorem qne9{day:Int}(h:winV H day x=true):∃(r:Addr)(a b c:Int),x=.ref r/\H r=some (.tup [.int a,.int b,.int c]):=by
 unfold winV at h
 split at h
 ·rename_i xs e
  obtain⟨r,rfl,er⟩:=qhw9 e
  unfold winL at h
  split at h
  ·exact⟨r,_,_,_,rfl,er⟩
  ·cases h
 ·cases h
inductive spNumber(vs:List V)(H:Hp)(Q:VK)(z3q:XK):Prop
 |mk (count:Int) (x:V):vs=[.int count,x]->Dv H x->Q (.bl (numV count x)) H->spNumber vs H Q z3q
inductive spRoad(vs:List V)(H:Hp)(Q:VK)(z3q:XK):Prop
 |mk (day size:Int) (x:V):vs=[.int day,.int size,x]->DvR H x->(∀H',Same H H'->Q (.bl (roadV H day size x)) H')->spRoad vs H Q z3q
inductive spIsNet(vs:List V)(H:Hp)(Q:VK)(z3q:XK):Prop
 |mk (day:Int) (size x:V):vs=[.int day,size,x]->Dv H size->DvN H x->(∀H',Same H H'->Q (.bl (netV H day size x)) H')->spIsNet vs H Q z3q
theorem qjw9(F:Fun K "is_number" "is_number" qcw9 f fd)(Cd0:Callee P w K mg base n "is_whole" ["thing"] spIsWhole):FnOk P w K mg base CX0 (n+1) f fd ["count","thing"] spNumber:=by
 refine F.okQ qki9 (λ vs H Q E h=>?_) (λ cdv A outer s H vs Q E hr h=>?_)
 ·obtain⟨_,_,rfl,_⟩:=h
  rfl
 obtain⟨count,x,rfl,dv,q⟩:=h
 refine⟨_,(qae9 (qao9 (qie9 (qe_fn Cd0 hr rfl (qa_c (qv 1) qaa9)) (qiz9 (qe_chain qhe9 qel9 qac9 (qv 1) (qv 0)))))),?_⟩
 walk_at "d"
 refine⟨_,rfl,x,rfl,dv,_,rfl,?_⟩
 cases hw:isWh x with
 |false =>
  refine iteF ?_
  have e:numV count x=false:=by
   unfold numV
   split
   ·cases hw
   ·rfl
  rw[e] at q
  exact q
 |true =>
  obtain⟨i,rfl⟩:=qgu9 hw
  unfold numV at q
  dsimp only at q
  refine iteT ⟨_,rfl,_,_,rfl,rfl,_,rfl,ite2 (λ c=>?_) (λ c=>?_)⟩
  ·rw[c,zcp] at q
   exact⟨_,rfl,_,_,rfl,rfl,q⟩
  ·rw[zbj.mpr c,zda] at q
   exact q
theorem qnq9(F:Fun K "is_road" "is_road" qeg9 f fd)(B:Bl mg)(Cb0:Callee P w K mg base n "is_number" ["count","thing"] spNumber)(Cq0:Callee P w K mg base n "is_board" ["day","thing"] spBoard):FnOk P w K mg base CX0 (n+1) f fd ["day","size","thing"] spRoad:=by
 refine F.okQ qny9 (λ vs H Q E h=>?_) (λ cdv A outer s H vs Q E hr h=>?_)
 ·obtain⟨_,_,_,rfl,_⟩:=h
  rfl
 obtain⟨day,size,x,rfl,dv,q⟩:=h
 refine⟨_,(qab9 (qs_if (QW.pt (qw_or (qea9 (qcb9 (qe_cb qde9 rfl B.isinstance qak9 (qa_c (qv 2) (qa_c (qfk9 (v:=.ty "tuple") rfl B.tuple_ qft9 rfl) qaa9))))) (qer9 (qam9 qop_ne (qe_cb qap9 rfl B.len qcc9 (qa_c (qv 2) qaa9)) qac9 (qau9 _))))) (qae9 (qao9 qe_bl)) qat9) (qab9 (qs_if (QW.pt (qw_or (qea9 (qcb9 (qe_fn Cb0 hr rfl (qa_c (qv 1) (qa_c (qe_ix qas9 (qv 2) qac9 (λ _ _=>rfl)) qaa9))))) (qer9 (qea9 (qcb9 (qe_fn Cb0 hr rfl (qa_c (qv 1) (qa_c (qe_ix qas9 (qv 2) qac9 (λ _ _=>rfl)) qaa9)))))))) (qae9 (qao9 qe_bl)) qat9) (qae9 (qao9 (qie9 (qe_fn Cq0 hr rfl (qa_c (qv 0) (qa_c (qe_ix qas9 (qv 2) qac9 (λ _ _=>rfl)) qaa9))) (qiz9 (qe_cb (qfa9 rfl) rfl B.all qmd9 (qa_c (qej9 ["window"] [none] (BlkOk.of rfl rfl (SubL.to subN) rfl) rfl (qcv9 (qe_ix qas9 (qv 2) qac9 (λ _ _=>rfl))) (λ _ _ _ _=>(qar9 (i:=0) (show(["window"]:List Str).Nodup by decide) rfl (zai rfl))) (λ _ _ _ _=>(qja9 qgs9 (qe_ix (qkc9 K rfl) (qv 0) qac9 (λ _ _=>rfl)) qac9 (qau9 _)))) qaa9)))))))),?_⟩
 walk_at "d"
 obtain⟨t,hty,hk⟩:=dv.1.isTup (K:=K)
 have q0:roadV H day size x=false->∀H',Same H H'->Q (.bl false) H':=λ e H' s=>by
  have:=q H' s
  rw[e] at this
  exact this
 cases ht:tupV H x with
 |none =>
  rw[ht] at hk
  have hw:roadV H day size x=false:=by unfold roadV;rw[ht]
  exact⟨_,rfl,_,"tuple",t,_,rfl,hty,hk,_,rfl,iteT (iteT (q0 hw _ (Same.refl H)))⟩
 |some xs =>
  rw[ht] at hk
  have hwl:roadV H day size x=roadL H day size xs:=by unfold roadV;rw[ht]
  have dz:=dv.2 xs ht
  obtain⟨r,rfl,er⟩:=qhw9 ht
  refine⟨_,rfl,_,"tuple",t,_,rfl,hty,hk,_,rfl,iteF ?_⟩
  refine⟨_,rfl,r,xs,rfl,.inr (SqT.of er),rfl,_,rfl,?_⟩
  by_cases hl:xs.length=3
  ·obtain⟨u,v,b,rfl⟩:=three hl
   refine iteN (by simp) ?_
   have eL:roadL H day size [u,v,b]=(numV size u&&(numV size v&&(qev9 H day b&&posB H b))):=rfl
   rw[eL] at hwl
   refine⟨_,rfl,_,rfl,r,_,_,_,rfl,rfl,SqT.of er,rfl,size,u,rfl,(dz u (by simp)).1,_,rfl,?_⟩
   cases hu:numV size u with
   |false=>exact iteT (iteT (q0 (by rw[hwl,hu];rfl) _ (Same.refl H)))
   |true =>
    refine iteF ⟨_,rfl,_,rfl,r,_,_,_,rfl,rfl,SqT.of er,rfl,size,v,rfl,(dz v (by simp)).1,_,rfl,?_⟩
    cases hv:numV size v with
    |false=>exact iteT (q0 (by rw[hwl,hu,hv];rfl) _ (Same.refl H))
    |true =>
     refine iteF ?_
     have db:=dz b (by simp)
     refine⟨_,rfl,_,rfl,r,_,_,_,rfl,rfl,SqT.of er,rfl,day,b,rfl,db,λ H1 s1=>⟨_,rfl,?_⟩⟩
     cases hb:qev9 H day b with
     |false=>exact iteF (q0 (by rw[hwl,hu,hv,hb];rfl) _ s1)
     |true =>
      refine iteT ?_
      rw[hwl,hu,hv,hb] at q
      simp only[zcp] at q
      unfold qev9 at hb
      split at hb
      ·rename_i ws hws
       obtain⟨hlen,_⟩:=db.2 ws hws
       obtain⟨p,rfl,ep⟩:=qhm9 hws
       rw[zba] at hb
       have ep1:=s1 _ _ ep
       refine⟨_,rfl,r,_,_,_,rfl,rfl,SqT.of (s1 _ _ er),rfl,p,rfl,⟨_,SqL.of ep1⟩,?_⟩
       refine qbz9 (K:=K) (a:=p) (xs:=ws) (λ D i H'=>Same H1 H'/\H' D=some (.lst ((ws.take i).map λ y=>V.bl (posW H y)))) (λ D hD=>⟨qan9 hD _,qaf9⟩) (λ D i H' _ _ h=>SqL.of (h.1 _ _ ep1)) ?_ ?_
       ·intro D i y H' hD hi z9;obtain⟨s2,hD2⟩ := z9
        obtain⟨r2,a,b,c,rfl,e2⟩:=qne9 (hb y (zac hi))
        refine⟨λ k v' e=>?_,?_⟩
        ·match k,e with
         |0,e=>cases e
         |k+1,e=>cases e
        refine⟨_,rfl,r2,_,_,_,rfl,rfl,SqT.of (s2 _ _ (s1 _ _ e2)),rfl,_,_,rfl,rfl,_,hD2,(by rw[zah,zbf];exact qgl9 ⋯),λ b o eb=>?_,?_⟩
        ·rw[qaq9 (qbc9 eb hD)]
         exact s2 _ _ eb
        ·rw[qaf9,qei9 _ hi]
         simp[posW,tupV,e2]
       ·intro D H' hD z9;obtain⟨s2,hD2⟩ := z9
        have eD:H' D=some (.lst ((ws.map (posW H)).map V.bl)):=by
         rw[hD2,zbq,zff]
         rfl
        refine⟨D,_,rfl,SqL.of eD,?_⟩
        have e1:(ws.map (posW H)).all id=ws.all (posW H):=by rw[zfg];rfl
        rw[e1]
        have:=q H' (s1.trans s2)
        unfold posB at this
        rw[hws] at this
        exact this
      ·cases hb
  ·refine iteP (by simp;omega) (q0 ?_ _ (Same.refl H))
   rw[hwl]
   unfold roadL
   split
   ·rename_i e
    exact absurd rfl hl
   ·rfl
theorem ok_is_net(F:Fun K "is_net" "is_net" qey9 f fd)(B:Bl mg)(Cd0:Callee P w K mg base n "is_whole" ["thing"] spIsWhole)(Cr1:Callee P w K mg base n "is_road" ["day","size","thing"] spRoad):FnOk P w K mg base CX0 (n+1) f fd ["day","size","roads"] spIsNet:=by
 refine F.okQ sc_is_net (λ vs H Q E h=>?_) (λ cdv A outer s H vs Q E hr h=>?_)
 ·obtain⟨_,_,_,rfl,_⟩:=h
  rfl
 obtain⟨day,size,x,rfl,ds,dv,q⟩:=h
 refine⟨_,(qab9 (qs_if (QW.pt (qw_or (qea9 (qcb9 (qe_fn Cd0 hr rfl (qa_c (qv 1) qaa9)))) (qw_or (qam9 qel9 (qv 1) qac9 (qau9 _)) (qer9 (qea9 (qcb9 (qe_cb qde9 rfl B.isinstance qak9 (qa_c (qv 2) (qa_c (qfk9 (v:=.ty "list") rfl B.list_ qfy9 rfl) qaa9))))))))) (qae9 (qao9 qe_bl)) qat9) (qae9 (qao9 (qe_cb (qfa9 rfl) rfl B.all qmd9 (qa_c (qej9 ["road","day","size"] [none,some 0,some 1] (BlkOk.of rfl rfl (SubL.to (subC rfl (subC rfl subN))) rfl) rfl (qcv9 (qv 2)) (λ _ _ _ _=>(qar9 (i:=0) (show(["road","day","size"]:List Str).Nodup by decide) rfl (zai rfl))) (λ _ _ _ _=>(qe_fn Cr1 hr rfl (qa_c (qv 1) (qa_c (qv 2) (qa_c (qv 0) qaa9)))))) qaa9))))),?_⟩
 walk_at "d"
 refine⟨_,rfl,size,rfl,ds,_,rfl,?_⟩
 cases hw:isWh size with
 |false =>
  have e:netV H day size x=false:=by
   unfold netV
   split
   ·cases hw
   ·rfl
  have q':=q H (Same.refl H)
  rw[e] at q'
  exact iteT (iteT q')
 |true =>
  obtain⟨m,rfl⟩:=qgu9 hw
  unfold netV at q
  dsimp only at q
  refine iteF ⟨_,rfl,_,_,rfl,rfl,_,rfl,ite2 (λ c=>?_) (λ c=>?_)⟩
  ·have c':m<1:=of_decide_eq_true c
   have q':=q H (Same.refl H)
   rw[decide_eq_false (show ¬1<=m by omega)] at q'
   exact iteT q'
  have c':1<=m:=by
   have:¬m<1:=λ z=>c (decide_eq_true z)
   omega
  rw[decide_eq_true c',zcp] at q
  obtain⟨t,hty,hk⟩:=dv.1.isLst (K:=K)
  cases ht:lstV H x with
  |none =>
   rw[ht] at hk q
   exact⟨_,rfl,_,"list",t,_,rfl,hty,hk,_,rfl,iteT (q _ (Same.refl H))⟩
  |some xs =>
   rw[ht] at hk q
   obtain⟨hlen,dz⟩:=dv.2 xs ht
   obtain⟨p,rfl,ep⟩:=qhm9 ht
   refine⟨_,rfl,_,"list",t,_,rfl,hty,hk,_,rfl,iteF ?_⟩
   refine⟨_,rfl,p,rfl,⟨_,SqL.of ep⟩,?_⟩
   refine qbz9 (K:=K) (a:=p) (xs:=xs) (λ D i H'=>Same H H'/\H' D=some (.lst ((xs.take i).map λ y=>V.bl (roadV H day m y)))) (λ D hD=>⟨qan9 hD _,qaf9⟩) (λ D i H' _ _ h=>SqL.of (h.1 _ _ ep)) ?_ ?_
   ·intro D i y H' hD hi z9;obtain⟨s2,hD2⟩ := z9
    have d2:=dz y (zac hi)
    refine⟨λ k v' e=>?_,_,rfl,_,rfl,_,rfl,day,m,y,rfl,d2.same s2,λ H3 s3=>⟨_,s3 _ _ hD2,(by rw[zah,zbf];exact qgl9 ⋯),λ b o eb=>?_,?_⟩⟩
    ·match k,e with
     |0,e=>cases e
     |1,e=>exact e
     |2,e=>exact e
     |k+3,e=>cases e
    ·rw[qaq9 (qbc9 eb hD)]
     exact s3 _ _ (s2 _ _ eb)
    ·rw[qaf9,qei9 _ hi,d2.roadV_same s2]
   ·intro D H' hD z9;obtain⟨s2,hD2⟩ := z9
    have eD:H' D=some (.lst ((xs.map (roadV H day m)).map V.bl)):=by
     rw[hD2,zbq,zff]
     rfl
    refine⟨D,_,rfl,SqL.of eD,?_⟩
    have e1:(xs.map (roadV H day m)).all id=xs.all (roadV H day m):=by rw[zfg];rfl
    rw[e1]
    exact q H' s2
inductive Ew(H:Hp):Nat->V->Prop
 |non {n:Nat}:Ew H n .non
 |bl {n:Nat} (b:Bool):Ew H n (.bl b)
 |int {n:Nat} (i:Int):Ew H n (.int i)
 |str {n:Nat} (x:Str):Ew H n (.str x)
 |lst {n:Nat} {a:Addr} {xs:List V}:H a=some (.lst xs)->xs.length<=1000->(∀y∈xs,Ew H n y)->Ew H (n+1) (.ref a)
 |tup {n:Nat} {a:Addr} {xs:List V}:H a=some (.tup xs)->(∀y∈xs,Ew H n y)->Ew H (n+1) (.ref a)
theorem Ew.same(s:Same H H'):∀{n:Nat}{x:V},Ew H n x->Ew H' n x:=by
 intro n x h
 induction h with
 |non=>exact .non
 |bl b=>exact .bl b
 |int i=>exact .int i
 |str x=>exact .str x
 |lst e l _ ih=>exact .lst (s _ _ e) l ih
 |tup e _ ih=>exact .tup (s _ _ e) ih
theorem Ew.dv(h:Ew H n x):Dv H x:=by
 cases h with
 |non=>exact .non
 |bl b=>exact .bl b
 |int i=>exact .int i
 |str x=>exact .str x
 |lst e _ _=>exact .lst e
 |tup e _=>exact .tup e
theorem Ew.parts(h:Ew H (n+1) x)(e:tupV H x=some zs):∀z∈zs,Ew H n z:=by
 obtain⟨a,rfl,ea⟩:=qhw9 e
 cases h with
 |lst e2 _ _=>rw[ea] at e2;cases e2
 |tup e2 p=>rw[ea] at e2;cases e2;exact p
theorem Ew.items(h:Ew H (n+1) x)(e:lstV H x=some zs):zs.length<=1000/\∀z∈zs,Ew H n z:=by
 obtain⟨a,rfl,ea⟩:=qhm9 e
 cases h with
 |tup e2 _=>rw[ea] at e2;cases e2
 |lst e2 l p=>rw[ea] at e2;cases e2;exact⟨l,p⟩
theorem Ew.d2(h:Ew H (n+1) x):Dv2 H x:=⟨h.dv,λ zs e z hz=>(h.parts e z hz).dv⟩
theorem Ew.d3(h:Ew H (n+2) x):Dv3 H x:=⟨h.dv,λ zs e=>⟨(h.items e).1,λ z hz=>((h.items e).2 z hz).d2⟩⟩
theorem Ew.dr(h:Ew H (n+3) x):DvR H x:=⟨h.dv,λ zs e z hz=>(h.parts e z hz).d3⟩
theorem Ew.dn(h:Ew H (n+4) x):DvN H x:=⟨h.dv,λ zs e=>⟨(h.items e).1,λ z hz=>((h.items e).2 z hz).dr⟩⟩
def hide(p:Addr)(H:Hp):Hp:=λ b=>if b=p then none else H b
theorem qgp9(e:H b=some o)(n:b≠p):hide p H b=some o:=by
 unfold hide
 rw[if_neg n]
 exact e
theorem hide_to:Same (hide p H) H:=λ b o e=>by
 unfold hide at e
 split at e
 ·cases e
 ·exact e
theorem hide_mono(s:Same H H'):Same (hide p H) (hide p H'):=λ b o e=>by
 unfold hide at e
 split at e
 ·cases e
 ·rename_i n
  exact qgp9 (s _ _ e) n
def since(H H':Hp):Hp:=λ b=>match H b with
 |none=>H' b
 |some _=>none
theorem qeq9(h:H b=none)(e:H' b=some o):since H H' b=some o:=by
 unfold since
 rw[h]
 exact e
theorem qju9(h:since H H' b=some o):H b=none/\H' b=some o:=by
 unfold since at h
 split at h
 ·rename_i e
  exact⟨e,h⟩
 ·cases h
def Nw(H H':Hp)(n:Nat)(v:V):Prop:=Ew (since H H') n v
section
variable {H2:Hp}{q:Addr}
theorem Nw.same(h:Nw H H1 n v)(s:Same H1 H2):Nw H H2 n v:=Ew.same (λ b o e=>qeq9 (qju9 e).1 (s _ _ (qju9 e).2)) h
theorem Nw.ew(h:Nw H H1 n v):Ew H1 n v:=Ew.same (λ b o e=>(qju9 e).2) h
theorem Nw.int(i:Int):Nw H H1 n (.int i):=Ew.int i
theorem Nw.bl(b:Bool):Nw H H1 n (.bl b):=Ew.bl b
theorem Nw.non:Nw H H1 n .non:=Ew.non
end
theorem la_ew(h:LA enc3 H b R)(hp:H p=some (.lst zs))(nb:b≠p)(l:R.length<=1000):Ew (hide p H) 2 (.ref b):=by
 obtain⟨vs,h1,h2,h3⟩:=h.lst
 refine .lst (qgp9 h1 nb) ⋯ λ y hy=>?_
 obtain⟨i,hi⟩:=zcn.mp hy
 obtain⟨r,x,rfl,_,er⟩:=h3 i y hi
 refine .tup (qgp9 er λ z=>by rw[z,hp] at er;cases er) λ y hy=>?_
 simp only[enc3,zae,zav,or_false] at hy
 rcases hy with rfl|rfl|rfl<;>exact .int _
theorem qol9(h0:0<=j)(h1:j<(xs.length:Int)):∃v,atI xs j=some v/\v∈xs:=by
 obtain⟨k,rfl⟩:=zeh h0
 have hk:k<xs.length:=⋯
 exact⟨xs[k],qgh9 (zaa hk),zby hk⟩
theorem NA.item(h:NA H p N)(l:∀m∈N,m.2.2.2.length<=1000)(e:H p=some (.lst vs))(hy:y∈vs):Ew (hide p H) 3 y:=by
 obtain⟨vs',h1,h2,h3⟩:=h.la.lst
 rw[h1] at e
 cases e
 obtain⟨i,hi⟩:=zcn.mp hy
 obtain⟨r,x,rfl,ex,er⟩:=h3 i y hi
 obtain⟨m,hm,rfl⟩:=zbi.mp (zac ex)
 refine .tup (qgp9 er λ z=>by rw[z,h1] at er;cases er) λ y hy=>?_
 simp only[encK,keyN,zae,zav,or_false] at hy
 rcases hy with rfl|rfl|rfl
 ·exact .int _
 ·exact .int _
 ·exact la_ew (h.bd m hm).1 h1 (h.bd m hm).2 (l m hm)
theorem NA.ew(h:NA H p N)(l:∀m∈N,m.2.2.2.length<=1000)(l2:N.length<=1000):Ew H 4 (.ref p):=by
 obtain⟨vs,h1,h2,_⟩:=h.la.lst
 exact .lst h1 (by rw[h2,zah];exact l2) λ y hy=>(h.item l h1 hy).same hide_to
def BA(H:Hp)(p:Addr)(Bs:List (List T3)):Prop:=∃rs:List Addr,H p=some (.lst (rs.map V.ref))/\rs.length=Bs.length/\p∉rs/\rs.Nodup/\∀(i:Nat) r B,rs[i]?=some r->Bs[i]?=some B->LA enc3 H r B
section
variable {H H':Hp}{p q:Addr}{Bs:List (List T3)}{d:Int}
theorem BA.nil(h:H p=some (.lst [])):BA H p []:=⟨[],h,rfl,by simp,List.nodup_nil,λ i r B e=>by simp at e⟩
theorem BA.u(h:BA H p Bs)(s:SameU H H'):BA H' p Bs:=by
 obtain⟨rs,h1,h2,h3,h4,h5⟩:=h
 exact⟨rs,s.lst h1,h2,h3,h4,λ i r B a b=>(h5 i r B a b).u s⟩
theorem BA.lst(h:BA H p Bs):∃rs:List Addr,H p=some (.lst (rs.map V.ref))/\rs.length=Bs.length:=by
 obtain⟨rs,h1,h2,_⟩:=h
 exact⟨rs,h1,h2⟩
theorem BA.rd(h:BA H p Bs):RdV K H (.ref p) (.list (Bs.map datB)):=by
 obtain⟨rs,h1,h2,-,-,h5⟩:=h
 refine .lst (SqL.of h1) ?_
 clear h1
 induction rs generalizing Bs with
 |nil =>
  cases Bs with
  |nil=>exact .nil
  |cons B Bs=>simp at h2
 |cons r rs ih =>
  cases Bs with
  |nil=>simp at h2
  |cons B Bs=>exact .cons (rd3 (h5 0 r B rfl rfl)) (ih (Bs:=Bs) (by simpa using h2) λ i r B a b=>h5 (i+1) r B a b)
theorem BA.snoc{B:List T3}(h:BA H p Bs)(hx:H p=some (.lst (rs.map V.ref)))(hr:LA enc3 H r B)(n1:r≠p)(n2:r∉rs):BA (upd H p (.lst (rs.map V.ref++[.ref r]))) p (Bs++[B]):=by
 obtain⟨rs',h1,h2,h3,h4,h5⟩:=h
 rw[hx] at h1
 have e:rs=rs':=by
  have:rs.map V.ref=rs'.map V.ref:=by
   injection h1 with h1
   injection h1
  exact(zfm λ a b z=>by cases z;rfl).mp this
 subst e
 refine⟨rs++[r],by rw[qaf9];simp,by simp[h2],by simp[h3,Ne.symm n1],?_,λ i r' B' a b=>?_⟩
 ·rw[zdf]
  exact⟨h4,by simp,λ a ha b hb=>by rw[zag] at hb;subst hb;exact λ z=>n2 (z ▸ ha)⟩
 ·rcases zca i rs.length with z|z
  ·rw[zao z] at a
   rw[zao ⋯] at b
   exact qdb9 (h5 i r' B' a b) hx λ z=>h3 (z ▸ zac a)
  ·obtain⟨lt,_⟩:=zab.mp a
   have ei:i=rs.length:=by simp at lt;omega
   subst ei
   rw[zan (zaj _),zck] at a
   rw[zan ⋯,show rs.length-Bs.length=0 by omega] at b
   cases a
   cases b
   exact qdb9 hr hx n1
end
def Yg(H H':Hp)(p:Addr):Prop:=∀rs:List Addr,H' p=some (.lst (rs.map V.ref))->∀r∈rs,H r=none
theorem qfl9{rs':List Addr}(h:(HO.lst (rs.map V.ref))=.lst (rs'.map V.ref)):rs=rs':=by
 injection h with h
 exact(zfm λ a b z=>by cases z;rfl).mp h
theorem Yg.of(e:H' p=some (.lst (rs.map V.ref)))(h:∀r∈rs,H r=none):Yg H H' p:=λ rs' e'=>by
 rw[e] at e'
 rw[<- qfl9 (Option.some.inj e')]
 exact h
theorem Ma.bt_still(hd:0<d)(t:Int):Ma.bt d [(0,d-1,0)] t=some t:=by
 have h:=Ma.bt_snoc d [] (0,d-1,0) t
 rw[zbz,Ma.bt_nil] at h
 rw[h]
 unfold Ma.btS
 dsimp only
 rw[Ma.nextO_eq d 0 (d-1) t ⋯]
 have m:=qdj9 t hd
 rw[if_neg ⋯,if_neg ⋯,Int.add_zero]
theorem Ma.ck_still(hd:0<d):Ma.CK d [(0,d-1,0)]:=Ma.ck_one hd ⟨zax _,by show 0<=d-1;omega,by show d-1<d;omega,zax _⟩
theorem LA.one{x:T3}(h:H p=some (.lst [.ref r]))(e:H r=some (.tup (enc3 x))):LA enc3 H p [x]:=LA.of h rfl λ i y hi=>by
 match i,hi with
 |0,hi=>cases hi;exact⟨r,rfl,λ z hz=>by cases hz;exact e⟩
 |k+1,hi=>simp at hi
theorem qdi9{α:Type}{L:List α}{x:α}(h:L[i]?=some x):L.take (i+1)=L.take i++[x]:=by rw[List.take_succ,h];rfl
theorem BA.pushAt{t:Addr}{Cs:List (List T3)}{x:T3}(h:BA H p Cs)(hx:H p=some (.lst (rs.map V.ref)))(hi:rs[i]?=some r)(hC:Cs[i]?=some C)(hv:H r=some (.lst vs))(ht:H t=some (.tup (enc3 x))) :
  BA (upd H r (.lst (vs++[.ref t]))) p (Cs.set i (C++[x])):=by
 obtain⟨rs',h1,h2,h3,h4,h5⟩:=h
 rw[hx] at h1
 have e:=qfl9 (Option.some.inj h1)
 subst e
 have np:p≠r:=λ z=>h3 (z ▸ zac hi)
 refine⟨rs,by rw[qaq9 np];exact hx,by simp[h2],h3,h4,λ j r' B a b=>?_⟩
 obtain⟨la,ea⟩:=zab.mp a
 obtain⟨li,ei⟩:=zab.mp hi
 rw[zbd] at b
 by_cases z:i=j
 ·subst z
  rw[if_pos rfl,if_pos ⋯] at b
  cases b
  rw[hi] at a
  cases a
  exact(h5 _ _ C hi hC).append (x:=x) hv ht
 ·rw[if_neg z] at b
  have ne:r'≠r:=λ z2=>by
   have:rs[j]=rs[i]:=by rw[ea,ei,z2]
   exact z ((zep h4).mp this).symm
  exact qdb9 (h5 j r' B a b) hv ne
theorem BA.off{Cs:List (List T3)}(h:BA H p Cs)(hx:H p=some (.lst (rs.map V.ref)))(hr:H r=some (.lst vs))(n1:p≠r)(n2:r∉rs):BA (upd H r (.lst ys)) p Cs:=by
 obtain⟨rs',h1,h2,h3,h4,h5⟩:=h
 rw[hx] at h1
 have e:=qfl9 (Option.some.inj h1)
 subst e
 exact⟨rs,by rw[qaq9 n1];exact hx,h2,h3,h4,λ j r' B a b=>qdb9 (h5 j r' B a b) hr λ z=>n2 (z ▸ zac a)⟩
theorem BA.self{Cs:List (List T3)}(h:BA H p Cs)(hx:H p=some (.lst (rs.map V.ref))):p∉rs/\rs.Nodup/\rs.length=Cs.length/\∀r∈rs,H r≠none:=by
 obtain⟨rs',h1,h2,h3,h4,h5⟩:=h
 rw[hx] at h1
 have e:=qfl9 (Option.some.inj h1)
 subst e
 refine⟨h3,h4,h2,λ r hr z=>?_⟩
 obtain⟨j,hj⟩:=zaw hr
 have lj:=(zab.mp hj).1
 exact la_ne (enc':=enc3) (h5 j r _ hj (zaa ⋯)) z rfl
abbrev Tb:=List (List T3)
variable {B C0 Cs:Tb}
def cl(Cs:Tb)(p:Int):List T3:=Cs.getD p.toNat []
def ways(d:Int)(F:List RdT)(Cs:Tb)(p t:Int)(o:Option Int):Option Int:=F.foldl (λ acc m=>if m.1=p then Ma.omin acc (Ma.obind (Ma.bt d m.2.2.2) (Ma.bt d (cl Cs m.2.1)) t) else acc) o
def stepT(d:Int)(F:List RdT)(Cs:Tb)(p t:Int):Option Int:=ways d F Cs p t (Ma.bt d (cl Cs p) t)
theorem ways_snoc{p:Int}{o:Option Int}:ways d (F++[m]) Cs p t o=if m.1=p then Ma.omin (ways d F Cs p t o) (Ma.obind (Ma.bt d m.2.2.2) (Ma.bt d (cl Cs m.2.1)) t) else ways d F Cs p t o:=by simp[ways]
def stay(d:Int)(n:Nat)(p:Int):Tb:=(zdn n).map λ(i:Nat)=>if(i:Int)=p then [(0,d-1,0)] else []
theorem cl_at{p:Int}(h0:0<=p)(h1:p<(Cs.length:Int)):Cs[p.toNat]?=some (cl Cs p):=by
 unfold cl
 rw[zas,zaa ⋯]
 rfl
theorem qjb9{p:Int}(h0:0<=p)(h1:p<(Cs.length:Int)):cl Cs p∈Cs:=zac (cl_at h0 h1)
theorem cl_set{p:Int}(h0:0<=p)(h1:p<(Cs.length:Int))(g0:0<=q)(g1:q<(Cs.length:Int)):cl (Cs.set q.toNat R) p=if q=p then R else cl Cs p:=by
 unfold cl
 rw[zas,zas,zbd]
 by_cases e:q=p
 ·subst e
  rw[if_pos rfl,if_pos rfl,if_pos ⋯]
  rfl
 ·rw[if_neg e,if_neg ⋯]
theorem cl_stay{p:Int}(h0:0<=q)(h1:q<(n:Int)):cl (stay d n p) q=if q=p then [(0,d-1,0)] else []:=by
 unfold cl stay
 rw[zas,zaf,List.getElem?_range ⋯]
 show(if((q.toNat:Nat):Int)=p then _ else _)=_
 rw[show((q.toNat:Nat):Int)=q by omega]
def TOk(d:Int)(M:Nat)(Cs:Tb):Prop:=∀C∈Cs,Ma.MuR d C M
def FOk(d size:Int)(m:Nat)(F:List RdT):Prop:=∀f∈F,(0<=f.1/\f.1<size)/\(0<=f.2.1/\f.2.1<size)/\Ma.MuR d f.2.2.2 m
theorem TOk.le{d:Int}{M M':Nat}{Cs:Tb}(h:TOk d M Cs)(l:M<=M'):TOk d M' Cs:=λ C hC=>(h C hC).le l
def mxT(f m:Nat):Nat->Nat
 |0=>2
 |k+1=>mxT f m k+f*(m+mxT f m k)
structure NetOk(d size:Int)(N:List RdT):Prop where
 all:∀m∈N,(0<=m.1/\m.1<size)/\(0<=m.2.1/\m.2.1<size)/\m.2.2.2.length<=100/\∀w∈m.2.2.2,0<=w.1/\w.1<=w.2.1/\w.2.1<d/\1<=w.2.2
def Fords(d:Int)(N F:List RdT):Prop:=F.length=N.length/\∀(i:Nat) m f,N[i]?=some m->F[i]?=some f->f.1=m.1/\f.2.1=m.2.1/\Ma.CK d f.2.2.2/\f.2.2.2.length<=2*m.2.2.2.length+1/\∀t,Ma.bt d f.2.2.2 t=Ma.bt d m.2.2.2 t
theorem NetOk.wins(h:NetOk d size N)(hm:m∈N):Ma.Wins d m.2.2.2:=λ w hw=>by
 obtain⟨a,b,c,e⟩:=(h.all m hm).2.2.2 w hw
 exact⟨a,b,c,⋯⟩
theorem Fords.ok{m:Nat}(h:Fords d N F)(hN:NetOk d size N)(l:∀x∈N,4*x.2.2.2.length+2<=m):FOk d size m F:=λ f hf=>by
 obtain⟨i,hi⟩:=zaw hf
 have lt:=(zab.mp hi).1
 have hx:=zaa (show i<N.length by rw[<- h.1];exact lt)
 obtain⟨e1,e2,ck,ln,_⟩:=h.2 i _ f hx hi
 have hm:=zac hx
 have:=hN.all _ hm
 have:=l _ hm
 exact⟨by rw[e1];exact(hN.all _ hm).1,by rw[e2];exact(hN.all _ hm).2.1,ck,λ z=>(Ma.mu_of ck (Ma.tells_bf z)).le ⋯⟩
structure FA(H:Hp)(p:Addr)(F:List RdT):Prop where
 la:LA encK H p (F.map keyN)
 bd:∀m∈F,LA enc3 H m.2.2.1 m.2.2.2
theorem FA.u{H H':Hp}{p:Addr}{F:List RdT}(h:FA H p F)(s:SameU H H'):FA H' p F:=⟨h.la.u s,λ m hm=>(h.bd m hm).u s⟩
theorem NA.u{H H':Hp}{p:Addr}{N:List RdT}(h:NA H p N)(s:SameU H H'):NA H' p N:=⟨h.la.u s,λ m hm=>⟨(h.bd m hm).1.u s,(h.bd m hm).2⟩,h.nd⟩
theorem NA.net(h:NA H p N)(hN:NetOk d size N)(h1:1<=size):netV H d (.int size) (.ref p)=true:=by
 obtain⟨vs,e1,e2,e3⟩:=h.la.lst
 unfold netV
 rw[qgd9 e1]
 simp only[zbm,decide_eq_true_eq]
 refine⟨h1,zba.mpr λ y hy=>?_⟩
 obtain⟨i,hi⟩:=zcn.mp hy
 obtain⟨r,x,rfl,ex,er⟩:=e3 i y hi
 obtain⟨m,hm,rfl⟩:=zbi.mp (zac ex)
 obtain⟨⟨a1,a2⟩,⟨b1,b2⟩,_,w⟩:=hN.all m hm
 unfold roadV
 rw[qhn9 er]
 have hb:=(h.bd m hm).1
 have hB:=qou9 hb (hN.wins hm)
 show(numV size (.int m.1)&&(numV size (.int m.2.1)&&(qev9 H d (.ref m.2.2.1)&&posB H (.ref m.2.2.1))))=true
 rw[hB]
 simp only[numV,zbm,decide_eq_true_eq]
 refine⟨⟨a1,a2⟩,⟨b1,b2⟩,trivial,?_⟩
 obtain⟨us,u1,u2,u3⟩:=hb.lst
 unfold posB
 rw[qgd9 u1]
 refine zba.mpr λ y hy=>?_
 obtain⟨i,hi⟩:=zcn.mp hy
 obtain⟨r,x,rfl,ex,er⟩:=u3 i y hi
 unfold posW
 rw[qhn9 er]
 have:=(w x (zac ex)).2.2.2
 simp only[enc3,decide_eq_true_eq]
 omega
theorem BA.at{i:Int}(h:BA H p Cs)(h0:0<=i)(h1:i<(Cs.length:Int)):∃(rs:List Addr)(r:Addr),H p=some (.lst (rs.map V.ref))/\atI (rs.map V.ref) i=some (.ref r)/\rs[i.toNat]?=some r/\rs.length=Cs.length/\LA enc3 H r (cl Cs i):=by
 obtain⟨rs,e1,e2,e3,e4,e5⟩:=h
 have hr:rs[i.toNat]?=some (rs[i.toNat]'⋯):=zaa ⋯
 refine⟨rs,_,e1,?_,hr,e2,e5 _ _ _ hr (cl_at h0 h1)⟩
 have:=qgh9 (j:=i.toNat) (v:=V.ref (rs[i.toNat]'⋯)) (xs:=rs.map V.ref) (by rw[zaf,hr];rfl)
 rw[show((i.toNat:Nat):Int)=i by omega] at this
 exact this
theorem qnd9{i:Int}(h0:0<=i)(h1:i<(n:Int)):ixN n i=some i.toNat:=by
 unfold ixN
 rw[if_pos h0,if_pos h1]
theorem BA.set{H:Hp}{p r:Addr}{Cs:Tb}{rs:List Addr}{i:Nat}{R:List T3}(h:BA H p Cs)(hx:H p=some (.lst (rs.map V.ref)))(hr:LA enc3 H r R)(n1:r≠p)(n2:r∉rs)(hi:i<Cs.length):BA (upd H p (.lst ((rs.map V.ref).set i (.ref r)))) p (Cs.set i R):=by
 obtain⟨rs',e1,e2,e3,e4,e5⟩:=h
 rw[hx] at e1
 have e:=qfl9 (Option.some.inj e1)
 subst e
 have ms:(rs.map V.ref).set i (.ref r)=(rs.set i r).map V.ref:=by rw[zfh]
 refine⟨rs.set i r,by rw[qaf9,ms],by simp[e2],λ z=>?_,?_,λ j r' B a b=>?_⟩
 ·rcases zbt z with z|z
  ·exact e3 z
  ·exact n1 z.symm
 ·rw[List.nodup_iff_pairwise_ne,zec]
  intro a b ha hb hab
  rw[zgc,zgc]
  have ha':a<rs.length:=by simpa using ha
  have hb':b<rs.length:=by simpa using hb
  by_cases z1:i=a
  ·rw[if_pos z1,if_neg ⋯]
   exact λ z=>n2 (z ▸ zby hb')
  ·rw[if_neg z1]
   by_cases z2:i=b
   ·rw[if_pos z2]
    exact λ z=>n2 (z ▸ zby ha')
   ·rw[if_neg z2]
    intro z
    have:=(zep e4).mp z
    omega
 ·rw[zbd] at a b
  by_cases z:i=j
  ·rw[if_pos z,if_pos ⋯] at a b
   cases a
   cases b
   exact qdb9 hr hx n1
  ·rw[if_neg z] at a b
   exact qdb9 (e5 j r' B a b) hx λ z=>e3 (z ▸ zac a)
theorem comp_copy{σ:L2.St}{Q:VK}(hB:BA H p Cs)(hl:Cs.length<=1000)(q:∀(l:Addr)(H':Hp),Same H H'->H l=none->BA H' l Cs->Yg H H' l->Q (.ref l) H') :
  cBody [none] (gName 0) tTrue (tCB (λ xs H Q=>∃p ys,xs=[V.ref p]/\(SqL K H p ys\/SqT K H p ys)/\∀l,H l=none->Q (V.ref l) (upd H l (.lst ys))) (tCons (tVar 0) tNil)) σ Q (Itl K p) H:=by
 obtain⟨rs,h1,h2,h3,h4,h5⟩:=id hB
 have hrl:(rs.map V.ref).length=Cs.length:=by simp[h2]
 refine qbz9 (K:=K) (a:=p) (xs:=rs.map V.ref) (λ D i H'=>Same H H'/\BA H' D (Cs.take i)/\Yg H H' D) (λ D hD=>⟨qan9 hD _,BA.nil qaf9,Yg.of (rs:=[]) qaf9 (λ r hr=>by cases hr)⟩) (λ D i H' _ _ h=>SqL.of (h.1 _ _ h1)) ?_ ?_
 ·intro D i y H' hD hi z9;obtain⟨sD,hB',hY⟩ := z9
  have hil:i<rs.length:=by
   have:=(zab.mp hi).1
   simpa using this
  have hr':rs[i]?=some rs[i]:=zaa hil
  have ey:y=.ref rs[i]:=by
   rw[zaf,hr'] at hi
   exact(Option.some.inj hi).symm
  subst ey
  have hb:Cs[i]?=some (Cs[i]'⋯):=zaa ⋯
  have la:=(h5 i _ _ hr' hb).same sD
  generalize Cs[i]'⋯=C at hb la
  generalize rs[i]=rc at la
  obtain⟨us,hu1,hu2,hu3⟩:=la.lst
  refine⟨λ k v e=>?_,?_⟩
  ·match k,e with
   |0,e=>cases e
   |k+1,e=>cases e
  refine⟨_,rfl,rc,_,rfl,.inl (SqL.of hu1),λ l hl'=>?_⟩
  have hl0:=hl'
  have s1:=qan9 hl' (.lst us)
  have hc:=la.copy s1 hu1 qaf9
  generalize upd H' l (.lst us)=H1 at *
  obtain⟨os,o1,o2,o3,o4,o5⟩:=id hB'
  have hol:os.length=i:=by rw[o2,zbf];omega
  have nlD:l≠D:=λ z=>by rw[z,o1] at hl0;cases hl0
  have nlo:l∉os:=λ z=>by
   obtain⟨j,hj⟩:=zaw z
   have lj:=(zab.mp hj).1
   exact la_ne (enc':=enc3) (o5 j l _ hj (zaa ⋯)) hl0 rfl
  refine⟨_,s1 _ _ o1,qbe9 (by simp;omega),qci9 hD (sD.trans s1),?_,Yg.of (rs:=os++[l]) (by rw[qaf9];simp) λ r hr=>?_⟩
  ·rw[qdi9 hb]
   exact(hB'.u (SameU.of s1)).snoc (s1 _ _ o1) hc nlD nlo
  ·rcases zau.mp hr with hr|hr
   ·exact hY os o1 r hr
   ·rw[zag] at hr
    subst hr
    exact sD.free hl0
 ·intro D H' hD z9;obtain⟨sD,hB',hY⟩ := z9
  rw[hrl,zbq] at hB'
  exact q D H' sD hD hB' hY
inductive spNeedNet(vs:List V)(H:Hp)(Q:VK)(z3q:XK):Prop
 |mk (d size:Int) (p:Addr) (N:List RdT):vs=[.int d,.int size,.ref p]->NA H p N->N.length<=1000->NetOk d size N->1<=size->(∀H',Same H H'->Q .non H')->spNeedNet vs H Q z3q
inductive spNeedPlace(vs:List V)(H:Hp)(Q:VK)(z3q:XK):Prop
 |mk (size p:Int):vs=[.int size,.int p]->0<=p->p<size->Q .non H->spNeedPlace vs H Q z3q
inductive spFordsOf(vs:List V)(H:Hp)(Q:VK)(z3q:XK):Prop
 |mk (d size:Int) (p:Addr) (N:List RdT):vs=[.int d,.ref p]->NA H p N->N.length<=1000->0<d->NetOk d size N->(∀(l:Addr)(F:List RdT)(H':Hp),Same H H'->FA H' l F->Fords d N F->Q (.ref l) H')->spFordsOf vs H Q z3q
inductive spStand(vs:List V)(H:Hp)(Q:VK)(z3q:XK):Prop
 |mk (day:Int):vs=[.int day]->(∀(l:Addr)(H':Hp),Same H H'->H l=none->LA enc3 H' l [(0,day-1,0)]->Q (.ref l) H')->spStand vs H Q z3q
inductive spStaying(vs:List V)(H:Hp)(Q:VK)(z3q:XK):Prop
 |mk (d:Int) (n:Nat) (p:Int):vs=[.int d,.int n,.int p]->n<=1000->(∀(l:Addr)(H':Hp),Same H H'->H l=none->BA H' l (stay d n p)->Yg H H' l->Q (.ref l) H')->spStaying vs H Q z3q
inductive spCopied(vs:List V)(H:Hp)(Q:VK)(z3q:XK):Prop
 |mk (p:Addr) (Cs:Tb):vs=[.ref p]->BA H p Cs->Cs.length<=1000->(∀(l:Addr)(H':Hp),Same H H'->H l=none->BA H' l Cs->Yg H H' l->Q (.ref l) H')->spCopied vs H Q z3q
def qkl9(T:Hp->Prop)(stp:Int->List RdT->Tb->Int->Int->Option Int):Sp:=λ vs H Q _=>∃(d:Int)(pF:Addr)(F:List RdT)(pt:Addr)(Cs:Tb)(M m:Nat),vs=[.int d,.ref pF,.ref pt]/\FA H pF F/\BA H pt Cs/\T H/\FOk d Cs.length m F/\TOk d M Cs/\M+F.length*(m+M)<=1000000/\(2*(m+1)+2)*(2*(M+1)+2)<=16000000/\Cs.length<=1000 /\
 ∀(l:Addr)(Ds:Tb)(H':Hp),SameU H H'->T H'->H l=none->BA H' l Ds->Yg H H' l->Ds.length=Cs.length->TOk d (M+F.length*(m+M)) Ds->(∀p,0<=p->p<(Cs.length:Int)->∀t,Ma.bt d (cl Ds p) t=stp d F Cs p t)->Q (.ref l) H'
theorem qht9(F:Fun K "need_net" "need_net" qcs9 f fd)(Cw0:Callee P w K mg base n "is_net" ["day","size","roads"] spIsNet):FnOk P w K mg base CX0 (n+1) f fd ["day","size","roads"] spNeedNet:=by
 refine F.okQ qhy9 (λ vs H Q E h=>?_) (λ cdv A outer s H vs Q E hr h=>?_)
 ·obtain⟨_,_,_,_,rfl,_⟩:=h
  rfl
 obtain⟨d,size,p,N,rfl,hN,nl,ok,h1,q⟩:=h
 refine⟨_,(qae9 (qs_if (qea9 (qcb9 (qe_fn Cw0 hr rfl (qa_c (qv 0) (qa_c (qv 1) (qa_c (qv 2) qaa9)))))) (qae9 qgx9) qat9)),?_⟩
 walk_at "d"
 have ew:=hN.ew (λ m hm=>by have:=(ok.all m hm).2.2.1;omega) nl
 refine⟨_,rfl,_,rfl,_,rfl,d,.int size,.ref p,rfl,.int _,Ew.dn (n:=0) ew,λ H1 s1=>?_⟩
 rw[hN.net ok h1]
 exact⟨_,rfl,iteF (q H1 s1)⟩
theorem qgf9(F:Fun K "need_place" "need_place" qbu9 f fd)(Cb0:Callee P w K mg base n "is_number" ["count","thing"] spNumber):FnOk P w K mg base CX0 (n+1) f fd ["size","thing"] spNeedPlace:=by
 refine F.okQ qgc9 (λ vs H Q E h=>?_) (λ cdv A outer s H vs Q E hr h=>?_)
 ·obtain⟨_,_,rfl,_⟩:=h
  rfl
 obtain⟨size,p,rfl,h0,h1,q⟩:=h
 refine⟨_,(qae9 (qs_if (qea9 (qcb9 (qe_fn Cb0 hr rfl (qa_c (qv 0) (qa_c (qv 1) qaa9))))) (qae9 qgx9) qat9)),?_⟩
 walk_at "d"
 refine⟨_,rfl,_,rfl,size,.int p,rfl,.int _,?_⟩
 have e:numV size (.int p)=true:=by simp[numV,h0,h1]
 rw[e]
 exact⟨_,rfl,iteF q⟩
theorem ok_stand(F:Fun K "standing" "standing" qdo9 f fd):FnOk P w K mg base CX0 (n+1) f fd ["day"] spStand:=by
 refine F.okQ qml9 (λ vs H Q E h=>?_) (λ cdv A outer s H vs Q E hr h=>?_)
 ·obtain⟨_,rfl,_⟩:=h
  rfl
 obtain⟨day,rfl,q⟩:=h
 refine⟨_,(qae9 (qao9 (qbj9 (qa_c (qbd9 (qa_c qac9 (qa_c (qe_op qdf9 (qv 0) qac9) (qa_c qac9 qaa9)))) qaa9)))),?_⟩
 walk_at "d"
 refine⟨_,rfl,_,_,rfl,rfl,(by show 3<=sizeLine;decide),λ r1 hr1=>?_⟩
 generalize hgH1:upd _ r1 _=H1
 revert H1
 refine qal9 hr1 λ H1 s1 e1=>?_
 refine⟨(by show 1<=sizeLine;decide),λ pl hpl=>?_⟩
 generalize hgH2:upd _ pl _=H2
 revert H2
 refine qal9 hpl λ H2 s2 e2=>?_
 exact q pl H2 (s1.trans s2) (s1.free hpl) (LA.one e2 (s2 _ _ e1))
theorem qmm9(F:Fun K "fords_of" "fords_of" qdp9 f fd)(Co1:Callee P w K mg base n "clock_of" ["day","board"] spClockOf):FnOk P w K mg base CX0 (n+1) f fd ["day","roads"] spFordsOf:=by
 refine F.okQ qmi9 (λ vs H Q E h=>?_) (λ cdv A outer s H vs Q E hr h=>?_)
 ·obtain⟨_,_,_,_,rfl,_⟩:=h
  rfl
 obtain⟨d,size,pr,N,rfl,hN,nl,hd,ok,q⟩:=h
 refine⟨_,(qae9 (qao9 (qej9 ["start","end","board","day"] [none,none,none,some 0] (BlkOk.of rfl rfl (SubL.to (subC rfl subN)) rfl) rfl (qcv9 (qv 1)) (λ _ _ _ _=>(qpl9 (n:=3) K rfl rfl (qaw9 (qar9 (i:=0) (show(["start","end","board","day"]:List Str).Nodup by decide) rfl (zai rfl)) (qaw9 (qar9 (i:=1) (show(["start","end","board","day"]:List Str).Nodup by decide) rfl (zai rfl)) (qaw9 (qar9 (i:=2) (show(["start","end","board","day"]:List Str).Nodup by decide) rfl (zai rfl)) qed9))))) (λ _ _ _ _=>(qbd9 (qa_c (qv 0) (qa_c (qv 1) (qa_c (qe_fn Co1 hr rfl (qa_c (qv 3) (qa_c (qv 2) qaa9))) qaa9)))))))),?_⟩
 walk_at "d"
 obtain⟨ws,hw1,hw2,hw3⟩:=hN.la.lst
 rw[zah] at hw2
 refine⟨_,rfl,pr,rfl,⟨_,SqL.of hw1⟩,?_⟩
 refine qbz9 (K:=K) (a:=pr) (xs:=ws) (λ D i H'=>Same H H'/\∃F,FA H' D F/\(∀m∈F,m.2.2.1≠D)/\Fords d (N.take i) F) (λ D hD=>⟨qan9 hD _,[],⟨LA.nil qaf9,λ m hm=>by cases hm⟩,(λ m hm=>by cases hm),by simp,λ i m f a b=>by simp at b⟩) (λ D i H' _ _ h=>SqL.of (h.1 _ _ hw1)) ?_ ?_
 ·intro D i y H' hD hi z9;obtain⟨sD,F,hF,hne,fo⟩ := z9
  obtain⟨r,x,rfl,ex,er⟩:=hw3 i y hi
  have hi2:i<N.length:=by
   have:=(zab.mp hi).1
   omega
  have em:=zaa hi2
  rw[zaf,em] at ex
  cases ex
  have hm:=zby hi2
  have hb:=(hN.bd _ hm).1
  generalize N[i]=m at *
  refine⟨r,_,rfl,SqT.of (sD _ _ er),rfl,_,_,rfl,_,_,rfl,_,_,rfl,rfl,λ k v e=>?_,?_⟩
  ·match k,e with
   |0,e=>cases e
   |1,e=>cases e
   |2,e=>cases e
   |3,e=>exact e
   |k+4,e=>cases e
  have lb:=(ok.all m hm).2.2.1
  refine⟨_,rfl,_,rfl,_,rfl,_,rfl,d,m.2.2.1,m.2.2.2,rfl,hb.same sD,⋯,hd,ok.wins hm,λ l R' H1 s1 f1 la1 l1 ck1 e1=>?_⟩
  refine⟨(by show 3<=sizeLine;decide),λ rr hrr=>?_⟩
  generalize hgH2:upd _ rr _=H2
  revert H2
  refine qal9 hrr λ H2 s2 e2=>?_
  have s12:=s1.trans s2
  obtain⟨vs,hv1,hv2,_⟩:=(hF.u (SameU.of s12)).la.lst
  have ml:F.length=i:=by rw[fo.1,zbf];omega
  rw[zah] at hv2
  have nlD:l≠D:=λ z=>by
   obtain⟨us,u1,_⟩:=hF.la.lst
   rw[z,u1] at f1
   cases f1
  refine⟨_,hv1,qbe9 ⋯,qci9 hD (sD.trans s12),F++[(m.1,m.2.1,l,R')],⟨?_,λ x hx=>?_⟩,λ x hx=>?_,?_,λ j a b ha hb'=>?_⟩
  ·rw[zbs]
   exact(hF.u (SameU.of s12)).la.append (x:=(m.1,m.2.1,l)) hv1 e2
  ·rcases zau.mp hx with hx|hx
   ·exact qdb9 ((hF.u (SameU.of s12)).bd x hx) hv1 (hne x hx)
   ·rw[zag] at hx
    subst hx
    exact qdb9 (la1.same s2) hv1 nlD
  ·rcases zau.mp hx with hx|hx
   ·exact hne x hx
   ·rw[zag] at hx
    subst hx
    exact nlD
  ·rw[zal,ml,zbf]
   simp
   omega
  ·rw[qdi9 em] at ha
   rcases zca j i with z|z
   ·rw[zao (by simp;omega)] at ha
    rw[zao ⋯] at hb'
    exact fo.2 j a b ha hb'
   ·have:=(zab.mp hb').1
    simp at this
    have ej:j=i:=⋯
    subst ej
    rw[zan (by simp;omega),zbf,show j-min j N.length=0 by omega] at ha
    rw[zan ⋯,ml,zck] at hb'
    cases ha
    cases hb'
    exact⟨rfl,rfl,ck1,l1,e1⟩
 ·intro D H' hD z9;obtain⟨sD,F,hF,hne,fo⟩ := z9
  rw[hw2,zbq] at fo
  exact q D F H' sD hF fo
theorem ok_copied(F:Fun K "copied_table" "copied_table" qbw9 f fd)(B:Bl mg):FnOk P w K mg base CX0 (n+1) f fd ["told"] spCopied:=by
 refine F.okQ qhf9 (λ vs H Q E h=>?_) (λ cdv A outer s H vs Q E hr h=>?_)
 ·obtain⟨_,_,rfl,_⟩:=h
  rfl
 obtain⟨p,Cs,rfl,hB,hl,q⟩:=h
 refine⟨_,(qae9 (qao9 (qej9 ["clock"] [none] (BlkOk.of rfl rfl (SubL.to subN) rfl) rfl (qcv9 (qv 0)) (λ _ _ _ _=>(qar9 (i:=0) (show(["clock"]:List Str).Nodup by decide) rfl (zai rfl))) (λ _ _ _ _=>(qe_ct (qhx9 K rfl) rfl B.list_ qfy9 (qa_c (qv 0) qaa9)))))),?_⟩
 walk_at "d"
 obtain⟨rs,h1,h2,h3,h4,h5⟩:=id hB
 refine⟨_,rfl,p,rfl,⟨_,SqL.of h1⟩,?_⟩
 exact comp_copy hB hl q
theorem qqf9(F:Fun K "staying" "staying" qec9 f fd)(B:Bl mg)(Cr0:Callee P w K mg base n "standing" ["day"] spStand):FnOk P w K mg base CX0 (n+1) f fd ["day","size","place"] spStaying:=by
 refine F.okQ qnv9 (λ vs H Q E h=>?_) (λ cdv A outer s H vs Q E hr h=>?_)
 ·obtain⟨_,_,_,rfl,_⟩:=h
  rfl
 obtain⟨d,m,p,rfl,ml,q⟩:=h
 refine⟨_,(qae9 (qao9 (qej9 ["number","day","place"] [none,some 0,some 2] (BlkOk.of rfl rfl (SubL.to (subC rfl (subC rfl subN))) rfl) rfl (qdy9 rfl B.range (qa_c (qv 1) qaa9)) (λ _ _ _ _=>(qar9 (i:=0) (show(["number","day","place"]:List Str).Nodup by decide) rfl (zai rfl))) (λ _ _ _ _=>(qkt9 (qdt9 (qam9 qcf9 (qv 0) (qv 2) (qau9 _)) (qe_fn Cr0 hr rfl (qa_c (qv 1) qaa9)) (qbj9 qaa9))))))),?_⟩
 walk_at "d"
 refine⟨_,rfl,(m:Int),rfl,⋯,⋯,?_⟩
 have mt:((m:Nat):Int).toNat=m:=⋯
 refine qhk9 (lo:=0) (n:=((m:Nat):Int).toNat) (λ D i H'=>Same H H'/\BA H' D (stay d i p)/\Yg H H' D) (λ D hD=>⟨qan9 hD _,BA.nil qaf9,Yg.of (rs:=[]) qaf9 (λ r hr=>by cases hr)⟩) ?_ ?_
 ·intro D i H' hD hi z9;obtain⟨sD,hB,hY⟩ := z9
  refine⟨λ k v e=>?_,?_⟩
  ·match k,e with
   |0,e=>cases e
   |1,e=>exact e
   |2,e=>exact e
   |k+3,e=>cases e
  have fin:∀(l:Addr)(C:List T3)(H1:Hp),Same H' H1->H' l=none->LA enc3 H1 l C->C=(if(i:Int)=p then [(0,d-1,0)] else [])->∃ys,H1 D=some (.lst ys)/\ys.length<sizeLine/\Same H (upd H1 D (.lst (ys++[.ref l])))/\BA (upd H1 D (.lst (ys++[.ref l]))) D (stay d (i+1) p)/\Yg H (upd H1 D (.lst (ys++[.ref l]))) D:=λ l C H1 s1 fl hC eC=>by
   obtain⟨os,o1,o2,o3,o4,o5⟩:=id hB
   have hol:os.length=i:=by rw[o2];simp[stay]
   have nlD:l≠D:=λ z=>by rw[z,o1] at fl;cases fl
   have nlo:l∉os:=λ z=>by
    obtain⟨j,hj⟩:=zaw z
    have lj:=(zab.mp hj).1
    exact la_ne (enc':=enc3) (o5 j l _ hj (zaa ⋯)) fl rfl
   refine⟨_,s1 _ _ o1,qbe9 (by simp;omega),qci9 hD (sD.trans s1),?_,Yg.of (rs:=os++[l]) (by rw[qaf9];simp) λ r hr=>?_⟩
   ·have:=(hB.u (SameU.of s1)).snoc (s1 _ _ o1) hC nlD nlo
    have e:stay d (i+1) p=stay d i p++[C]:=by
     unfold stay
     rw[zgk,zbs,eC]
     rfl
    rw[e]
    exact this
   ·rcases zau.mp hr with hr|hr
    ·exact hY os o1 r hr
    ·rw[zag] at hr
     subst hr
     exact sD.free fl
  rw[show(0:Int)+((i:Nat):Int)=(i:Int) by omega]
  refine⟨λ v H1=>∃(l:Addr)(C:List T3),v=.ref l/\Same H' H1/\H' l=none/\LA enc3 H1 l C/\C=(if(i:Int)=p then [(0,d-1,0)] else []),?_,?_⟩
  ·refine⟨_,rfl,_,rfl,rfl,_,rfl,ite2 (λ c=>?_) (λ c=>?_)⟩
   ·have c':(i:Int)=p:=by
     have:=of_decide_eq_true c
     injection this
    refine⟨_,rfl,d,rfl,λ l H1 s1 f1 la1=>⟨l,_,rfl,s1,f1,la1,by rw[if_pos c']⟩⟩
   ·have c':¬(i:Int)=p:=λ z=>c (decide_eq_true (by rw[z]))
    refine⟨(by show 0<=sizeLine;decide),λ l hl=>⟨l,[],rfl,qan9 hl _,hl,LA.nil qaf9,by rw[if_neg c']⟩⟩
  intro v H1 z9;obtain⟨l,C,rfl,s1,f1,la1,eC⟩ := z9
  exact fin l C H1 s1 f1 la1 eC
 ·intro D H' hD z9;obtain⟨sD,hB,hY⟩ := z9
  rw[mt] at hB
  exact q D H' sD hD hB hY
theorem qjd9(hTB:TB T)(F:Fun K "ride_first" "ride_first" qcp9 f fd)(Ca0:Callee P w K mg base n "copied_table" ["told"] spCopied)(Cf0:Callee P w K mg base n "sooner" ["day","one","other"] (spTwo Ma.omin))(Cn0:Callee P w K mg base n "behind" ["day","one","other"] (spBehind T)):FnOk P w K mg base CX0 (n+1) f fd ["day","fords","told"] (qkl9 T stepT):=by
 refine F.okQ sc_ride_first (λ vs H Q E h=>?_) (λ cdv A outer s H vs Q E hr h=>?_)
 ·obtain⟨_,_,_,_,_,_,_,rfl,_⟩:=h
  rfl
 obtain⟨d,pF,F,pt,Cs,M,m,rfl,hF,hB,hT,fok,tok,b1,b2,nl,q⟩:=h
 refine⟨_,(qab9 (qai9 (i:=3) sc_ride_first.nd rfl (zai rfl) (qe_fn Ca0 hr rfl (qa_c (qv 2) qaa9))) (qab9 (qeo9 PassesOwn.never rfl (qcv9 (qv 1)) (qgw9 rfl (qaw9 (qar9 (i:=4) sc_ride_first.nd rfl (zai rfl)) (qaw9 (qar9 (i:=5) sc_ride_first.nd rfl (zai rfl)) (qaw9 (qar9 (i:=6) sc_ride_first.nd rfl (zai rfl)) qed9)))) (qae9 (qs_asg (qe_fn Cf0 hr rfl (qa_c (qv 0) (qa_c (qe_ix qaj9 (qv 3) (qv 4) (λ _ _=>rfl)) (qa_c (qe_fn Cn0 hr rfl (qa_c (qv 0) (qa_c (qv 6) (qa_c (qe_ix qaj9 (qv 2) (qv 5) (λ _ _=>rfl)) qaa9)))) qaa9)))) (qg_sub (qv 3) (qv 4) qkh9)))) (qae9 (qao9 (qv 3))))),?_⟩
 walk_at "d"
 refine⟨_,rfl,pt,Cs,rfl,hB,nl,λ pn H1 s1 f1 B1 Y1=>?_⟩
 have u1:=SameU.of s1
 obtain⟨ws,hw1,hw2,hw3⟩:=hF.la.lst
 rw[zah] at hw2
 refine⟨_,rfl,pF,rfl,⟨_,SqL.of (s1 _ _ hw1)⟩,qex9 (K:=K) (a:=pF) (xs:=ws)
  (λ i σ H'=>∃(Ds:Tb)(v4 v5 v6:Option V),σ=[some (.int d),some (.ref pF),some (.ref pt),some (.ref pn),v4,v5,v6]/\SameU H H'/\T H'/\BA H' pn Ds/\Yg H H' pn/\Ds.length=Cs.length/\TOk d (M+i*(m+M)) Ds/\∀p,0<=p->p<(Cs.length:Int)->∀t,Ma.bt d (cl Ds p) t=ways d (F.take i) Cs p t (Ma.bt d (cl Cs p) t))
  ⟨Cs,_,_,_,rfl,u1,hTB.same _ _ hT s1,B1,Y1,rfl,by simpa using tok,λ p _ _ t=>rfl⟩ (λ i σ H' _ z9=>by obtain⟨_,_,_,_,_,u,_⟩ := z9;exact SqL.of (u.lst hw1)) ?_ ?_⟩
 ·intro i y σ H2 hi z9;obtain⟨Ds,v4,v5,v6,rfl,u2,t2,B2,Y2,l2,tok2,e2⟩ := z9
  obtain⟨r,x,rfl,ex,er⟩:=hw3 i y hi
  have hi2:i<F.length:=by
   have:=(zab.mp hi).1
   omega
  have em:=zaa hi2
  rw[zaf,em] at ex
  cases ex
  have hm:=zby hi2
  generalize F[i]=g at *
  obtain⟨⟨a0,a1⟩,⟨b0,b1'⟩,mu⟩:=fok g hm
  refine⟨r,_,rfl,SqT.of (u2.tup er),rfl,_,_,rfl,_,_,rfl,_,_,rfl,rfl,?_⟩
  obtain⟨rs,rc,r1,r2,r3,r4,r5⟩:=B2.at a0 (by rw[l2];exact a1)
  obtain⟨ts,tc,q1,q2,q3,q4,q5⟩:=(hB.u u2).at b0 b1'
  have muD:=tok2 _ (qjb9 a0 (by rw[l2];exact a1))
  have muC:=tok _ (qjb9 b0 b1')
  have lg:=mu.len
  have lC:=muC.len
  have lD:=muD.len
  have im:M+i*(m+M)<=M+F.length*(m+M):=zco (zbv _ ⋯) _
  have im2:M+(i+1)*(m+M)<=M+F.length*(m+M):=zco (zbv _ ⋯) _
  have ie:M+(i+1)*(m+M)=M+i*(m+M)+(m+M):=by rw[zen,zgw];omega
  have bnd:(2*g.2.2.2.length+1)*(2*(cl Cs g.2.1).length+2)<=16000000:=zbe (zdq ⋯ ⋯) b2
  refine⟨_,rfl,_,rfl,_,rfl,pn,_,_,_,rfl,rfl,SqL.of r1,r2,_,rfl,_,rfl,_,rfl,_,rfl,pt,_,_,_,rfl,rfl,SqL.of q1,q2,d,g.2.2.1,tc,g.2.2.2,cl Cs g.2.1,rfl,(hF.u u2).bd g hm,q5,t2,⋯,⋯,bnd,mu.1,muC.1,λ l3 R3 H3 u3 t3 f3 la3 _ ck3 e3=>?_⟩
  have mu3:=Ma.MuR.bind ck3 mu muC e3
  have l3':=mu3.len
  refine⟨d,rc,l3,cl Ds g.1,R3,rfl,r5.u u3,la3,⋯,⋯,muD.1,ck3,λ l4 R4 H4 s4 f4 la4 _ ck4 e4=>?_⟩
  have mu4:=Ma.MuR.min ck4 muD mu3 e4
  have u24:=u3.trans (SameU.of s4)
  have r14:=u24.lst r1
  have nlp:l4≠pn:=λ z=>by rw[z,u3.lst r1] at f4;cases f4
  have nlr:l4∉rs:=λ z=>by
   obtain⟨rs',x1,x2,x3,x4,x5⟩:=B2.u u3
   rw[u3.lst r1] at x1
   have:=qfl9 (Option.some.inj x1)
   subst this
   obtain⟨j,hj⟩:=zaw z
   have lj:=(zab.mp hj).1
   exact la_ne (enc':=enc3) (x5 j l4 _ hj (zaa ⋯)) f4 rfl
  refine⟨_,rfl,_,rfl,pn,_,_,g.1.toNat,rfl,rfl,r14,qnd9 a0 (by rw[zah,r4,l2];exact a1),?_⟩
  refine⟨Ds.set g.1.toNat R4,_,_,_,rfl,SameU.wr f1 (u2.trans u24),hTB.wr _ _ _ _ (hTB.same _ _ t3 s4) r14,(B2.u u24).set r14 la4 nlp nlr ⋯,Yg.of (rs:=rs.set g.1.toNat l4) (by rw[qaf9,zfh]) λ r' hr'=>?_,by simp[l2],λ C hC=>?_,λ p p0 p1 t=>?_⟩
  ·rcases zbt hr' with z|z
   ·exact Y2 rs r1 r' z
   ·subst z
    exact(u2.trans u3).free f4
  ·rw[ie]
   rcases zbt hC with z|z
   ·exact(tok2 C z).le ⋯
   ·subst z
    exact mu4
  ·rw[qdi9 em,ways_snoc,cl_set p0 (by rw[l2];exact p1) a0 (by rw[l2];exact a1)]
   by_cases z:g.1=p
   ·rw[if_pos z,if_pos z,e4,e2 g.1 a0 a1,e3,z]
   ·rw[if_neg z,if_neg z,e2 p p0 p1]
 ·intro σ H2 z9;obtain⟨Ds,v4,v5,v6,rfl,u2,t2,B2,Y2,l2,tok2,e2⟩ := z9
  rw[hw2] at tok2 e2
  rw[zbq] at e2
  exact⟨_,rfl,q pn Ds H2 u2 t2 f1 B2 Y2 l2 tok2 e2⟩
def TL(H0 H:Hp)(p:Addr)(Ts:List Tb):Prop:=∃qs:List (Addr×List Addr),H p=some (.lst (qs.map λ q=>V.ref q.1))/\qs.length=Ts.length/\(p::qs.flatMap λ q=>q.1::q.2).Nodup/\(∀a∈p::qs.flatMap λ q=>q.1::q.2,H0 a=none) /\
 ∀(i:Nat) q B,qs[i]?=some q->Ts[i]?=some B->H q.1=some (.lst (q.2.map V.ref))/\q.2.length=B.length/\∀(j:Nat) r C,q.2[j]?=some r->B[j]?=some C->LA enc3 H r C
section
variable {H0 H H':Hp}{p:Addr}{Ts:List Tb}
theorem TL.live{qs:List (Addr×List Addr)}(e1:H p=some (.lst (qs.map λ q=>V.ref q.1)))(e2:qs.length=Ts.length)(e5:∀(i:Nat) q B,qs[i]?=some q->Ts[i]?=some B->H q.1=some (.lst (q.2.map V.ref))/\q.2.length=B.length/\∀(j:Nat) r C,q.2[j]?=some r->B[j]?=some C->LA enc3 H r C) :
  ∀a∈p::qs.flatMap λ q=>q.1::q.2,H a≠none:=λ a ha z=>by
 rcases zae.mp ha with e|e
 ·rw[e,e1] at z
  cases z
 ·obtain⟨q,hq,hm⟩:=zer.mp e
  obtain⟨i,hi⟩:=zaw hq
  have lt:=(zab.mp hi).1
  obtain⟨g1,g2,g3⟩:=e5 i q _ hi (zaa ⋯)
  rcases zae.mp hm with e|e
  ·rw[e,g1] at z
   cases z
  ·obtain⟨j,hj⟩:=zaw e
   have lj:=(zab.mp hj).1
   exact la_ne (enc':=enc3) (g3 j a _ hj (zaa ⋯)) z rfl
theorem TL.old(h:TL H1 H p Ts)(s:SameU H0 H1):TL H0 H p Ts:=by
 obtain⟨qs,e1,e2,e3,e4,e5⟩:=h
 exact⟨qs,e1,e2,e3,λ a ha=>s.free (e4 a ha),e5⟩
theorem TL.lst(h:TL H0 H p Ts):∃xs:List V,H p=some (.lst xs)/\xs.length=Ts.length:=by
 obtain⟨qs,e1,e2,_⟩:=h
 exact⟨_,e1,by simp[e2]⟩
theorem TL.at(h:TL H0 H p Ts)(hx:H p=some (.lst xs))(hi:Ts[i]?=some B):∃q:Addr,xs[i]?=some (.ref q)/\BA H q B/\H0 q=none/\Yg H0 H q/\q≠p:=by
 obtain⟨qs,e1,e2,e3,e4,e5⟩:=h
 rw[e1] at hx
 cases hx
 have lt:=(zab.mp hi).1
 have hq:qs[i]?=some (qs[i]'⋯):=zaa ⋯
 have hm:=zac hq
 generalize qs[i]'⋯=q at hq hm
 obtain⟨g1,g2,g3⟩:=e5 i q B hq hi
 have fm:∀a∈q.1::q.2,a∈qs.flatMap λ q=>q.1::q.2:=λ a ha=>zer.mpr ⟨q,hm,ha⟩
 have nd:(q.1::q.2).Nodup:=by
  have:=(zbl.mp e3).2
  obtain⟨as,bs,rfl⟩:=zfk hm
  rw[zea,zem] at this
  exact(zdf.mp ((zdf.mp this).2.1)).1
 obtain⟨nd1,nd2⟩:=zbl.mp nd
 refine⟨q.1,by rw[zaf,hq];rfl,⟨q.2,g1,g2,nd1,nd2,g3⟩,e4 _ (zam _ (fm _ (zak ..))),Yg.of g1 λ r hr=>e4 _ (zam _ (fm _ (zam _ hr))),λ z=>?_⟩
 exact(zbl.mp e3).1 (z ▸ fm _ (zak ..))
theorem TL.one{q:Addr}(hB:BA H q B)(hp:H p=none)(fp:H0 p=none)(fq:H0 q=none)(Y:Yg H0 H q):TL H0 (upd H p (.lst [.ref q])) p [B]:=by
 obtain⟨rs,b1,b2,b3,b4,b5⟩:=hB
 have fr:=Y rs b1
 have nq:q≠p:=λ z=>by rw[z,hp] at b1;cases b1
 have nr:p∉rs:=λ z=>by
  obtain⟨j,hj⟩:=zaw z
  have lj:=(zab.mp hj).1
  exact la_ne (enc':=enc3) (b5 j p _ hj (zaa ⋯)) hp rfl
 refine⟨[(q,rs)],qaf9,rfl,?_,λ a ha=>?_,λ i q' B' a b=>?_⟩
 ·show(p::(q::rs++[])).Nodup
  rw[zbr]
  refine zbl.mpr ⟨λ z=>?_,zbl.mpr ⟨b3,b4⟩⟩
  rcases zae.mp z with e|e
  ·exact nq e.symm
  ·exact nr e
 ·have ha:a∈p::(q::rs++[]):=ha
  rw[zbr] at ha
  rcases zae.mp ha with e|e
  ·rw[e];exact fp
  ·rcases zae.mp e with e|e
   ·rw[e];exact fq
   ·exact fr a e
 ·match i,a,b with
  |0,a,b =>
   cases a
   cases b
   exact⟨by rw[qaq9 nq];exact b1,b2,λ j r C x y=>(b5 j r C x y).same (qan9 hp _)⟩
  |i+1,a,b=>simp at a
theorem qik9{α:Type}{xs:List α}{k:Nat}(h1:1<=k)(h2:k<=xs.length):atI xs (-(k:Int))=xs[xs.length-k]?:=by
 unfold atI ixN
 rw[if_neg ⋯,if_pos ⋯]
 show xs[(-(k:Int)+(xs.length:Int)).toNat]?=_
 congr 1
 omega
theorem TL.snoc{Ha:Hp}{q:Addr}(h:TL H0 Ha p Ts)(s:SameU Ha H)(fq:Ha q=none)(hB:BA H q B)(hY:Yg Ha H q)(u:SameU H0 Ha)(hx:H p=some (.lst xs)):TL H0 (upd H p (.lst (xs++[.ref q]))) p (Ts++[B]):=by
 obtain⟨qs,e1,e2,e3,e4,e5⟩:=h
 have lv:=TL.live e1 e2 e5
 obtain⟨rs,b1,b2,b3,b4,b5⟩:=hB
 have fr:=hY rs b1
 rw[s.lst e1] at hx
 cases hx
 have ap:∀a∈q::rs,a≠p/\a∉(qs.flatMap λ q=>q.1::q.2)/\Ha a=none:=λ a ha=>by
  have z:Ha a=none:=by
   rcases zae.mp ha with e|e
   ·rw[e];exact fq
   ·exact fr a e
  exact⟨λ y=>lv a (by rw[y];exact zak ..) z,λ y=>lv a (zam _ y) z,z⟩
 have hp:∀{r:Addr}{C:List T3},r≠p->LA enc3 H r C->LA enc3 (upd H p (.lst ((qs.map λ q=>V.ref q.1)++[.ref q]))) r C:=λ n h=>qdb9 h (s.lst e1) n
 refine⟨qs++[(q,rs)],by rw[qaf9,zbs];rfl,by simp[e2],?_,λ a ha=>?_,λ i q' B' a b=>?_⟩
 ·obtain⟨n1,n2⟩:=zbl.mp e3
  rw[zea,zem,zgd,zbr]
  refine zbl.mpr ⟨λ z=>?_,zdf.mpr ⟨n2,zbl.mpr ⟨b3,b4⟩,λ a ha b hb e=>(ap b hb).2.1 (e ▸ ha)⟩⟩
  rcases zau.mp z with z|z
  ·exact n1 z
  ·exact(ap p z).1 rfl
 ·rw[zea,zem,zgd,zbr] at ha
  rcases zae.mp ha with e|e
  ·exact e4 a (by rw[e];exact zak ..)
  ·rcases zau.mp e with e|e
   ·exact e4 a (zam _ e)
   ·exact u.free (ap a e).2.2
 ·rcases zca i qs.length with z|z
  ·rw[zao z] at a
   rw[zao ⋯] at b
   obtain⟨g1,g2,g3⟩:=e5 i q' B' a b
   have hm:=zac a
   have np:∀x∈q'.1::q'.2,x≠p:=λ x hx e=>(zbl.mp e3).1 (e ▸ zer.mpr ⟨q',hm,hx⟩)
   exact⟨by rw[qaq9 (np _ (zak ..))];exact s.lst g1,g2,λ j r C x y=>hp (np r (zam _ (zac x))) ((g3 j r C x y).u s)⟩
  ·have lt:=(zab.mp a).1
   simp at lt
   have ei:i=qs.length:=⋯
   subst ei
   rw[zan (zaj _),zck] at a
   rw[zan ⋯,show qs.length-Ts.length=0 by omega] at b
   cases a
   cases b
   exact⟨by rw[qaq9 (ap q (zak ..)).1];exact b1,b2,λ j r C x y=>hp (ap r (zam _ (zac x))).1 (b5 j r C x y)⟩
end
def spStep(T:Hp->Prop)(stp:Int->List RdT->Tb->Int->Int->Option Int)(qual:Str)(v1 v2:V)(c':Addr):Sp:=match v1,v2 with
 | .int d,.ref pF=>λ vs H Q E=>H c'=some (.ext (CodeQ c' qual))/\∃pt:Addr,vs=[.ref pt]/\qkl9 T stp [.int d,.ref pF,.ref pt] H Q E
 |_,_=>λ _ _ _ _=>False
structure TsOk(d:Int)(n:Nat)(p:Int)(F:List RdT)(m:Nat)(stp:Int->List RdT->Tb->Int->Int->Option Int)(Ts:List Tb):Prop where
 first:Ts[0]?=some (stay d n p)
 each:∀(i:Nat) A,Ts[i]?=some A->A.length=n/\TOk d (mxT F.length m i) A
 grow:∀(i:Nat) A B,Ts[i]?=some A->Ts[i+1]?=some B->∀p,0<=p->p<(n:Int)->∀t,Ma.bt d (cl B p) t=stp d F A p t
def Few(f m n:Nat):Prop:=∀k,k+1<n->mxT f m (k+1)<=1000000/\(2*(m+1)+2)*(2*(mxT f m k+1)+2)<=16000000
def qlv9(T:Hp->Prop)(stp:Int->List RdT->Tb->Int->Int->Option Int)(qual:Str)(v1 v2:V)(fl c':Addr):Sp:=match v1,v2 with
 | .int d,.ref pF=>λ vs H Q _=>∃(n:Nat)(p:Int)(F:List RdT)(m:Nat),vs=[.int d,.int n,.int p,.ref fl]/\H c'=some (.ext (CodeQ c' qual))/\FA H pF F/\T H/\1<=n/\n<=1000/\0<d/\FOk d n m F/\Few F.length m n /\
  ∀(l:Addr)(Ts:List Tb)(H':Hp),SameU H H'->T H'->TL H H' l Ts->Ts.length=n->TsOk d n p F m stp Ts->Q (.ref l) H'
 |_,_=>λ _ _ _ _=>False
theorem stay_ok(hd:0<d){p:Int}:TOk d 2 (stay d n p):=λ C hC=>by
 obtain⟨i,_,rfl⟩:=zbi.mp hC
 split
 ·exact Ma.mur_one (Ma.ck_still hd)
 ·exact Ma.mur_nil hd
theorem qok9{stp:Int->List RdT->Tb->Int->Int->Option Int}(hTB:TB T)(F:Fun K "grown" "grown" qdu9 f fd)(B:Bl mg)(Ch0:Callee P w K mg base n "staying" ["day","size","place"] spStaying)(Ca0:Callee P w K mg base n "copied_table" ["told"] spCopied)
  (G:FnOk P w K mg base CX0 n fl fdl ["told"] (spStep T stp qual v1 v2 c')) (bG:Binds K fdl ["told"] []) (ho:W.FnAt fl base):FnOk P w K mg base CX0 (n+1) f fd ["day","size","place","step"] (qlv9 T stp qual v1 v2 fl c'):=by
 unfold qlv9
 split
 case h_2=>exact qds9
 rename_i d pF
 refine F.okQ sc_grown (λ vs H Q E h=>?_) (λ cdv A outer s H vs Q E hr h=>?_)
 ·obtain⟨_,_,_,_,rfl,_⟩:=h
  rfl
 obtain⟨N,p,Fs,m,rfl,hc,hF,hT,N1,N2,hd,fok,few,q⟩:=h
 refine⟨_,(qab9 (qai9 (i:=4) sc_grown.nd rfl (zai rfl) (qbj9 (qa_c (qe_fn Ch0 hr rfl (qa_c (qv 0) (qa_c (qv 1) (qa_c (qv 2) qaa9)))) qaa9))) (qab9 (qfv9 PassesOwn.never (qam9 qel9 (qe_cb qap9 rfl B.len qcc9 (qa_c (qv 4) qaa9)) (qv 1) (qau9 _)) (qae9 (qs_if (qhb9 (QW.pt (qnj9 (qam9 qgs9 (qe_cb qap9 rfl B.len qcc9 (qa_c (qv 4) qaa9)) qac9 (qau9 _)) (qlo9 (qam9 (qpd9 hr.units) (qe_ix qaj9 (qv 4) (qem9 qac9) (λ _ _=>rfl)) (qe_ix qaj9 (qv 4) (qem9 qac9) (λ _ _=>rfl)) (qau9 _)))))) (qae9 (qbi9 (qbv9 (qv 4) (qa_c (qe_fn Ca0 hr rfl (qa_c (qe_ix qaj9 (qv 4) (qem9 qac9) (λ _ _=>rfl)) qaa9)) qaa9)))) (qae9 (qbi9 (qbv9 (qv 4) (qa_c ⟨pe_clo 3 G hr bG ho (qa_c (qe_ix qaj9 (qv 4) (qem9 qac9) (λ _ _=>rfl)) qaa9).run⟩ qaa9))))))) (qae9 (qao9 (qv 4))))),?_⟩
 walk_at "d"
 refine⟨_,rfl,_,rfl,_,rfl,d,N,p,rfl,N2,λ q0 H1 s1 f1 B1 Y1=>⟨(by show 1<=sizeLine;decide),λ pf hpf=>?_⟩⟩
 have L1:=TL.one (H0:=H) B1 hpf (s1.free hpf) f1 Y1
 have s12:=qan9 hpf (.lst [.ref q0])
 have S2:=s1.trans s12
 have k0:stay d N p∈[stay d N p]:=zag.mpr rfl
 have ok1:TsOk d N p Fs m stp [stay d N p]:=⟨rfl,λ i A hA=>by
   match i,hA with
   |0,hA =>
    cases hA
    exact⟨by simp[stay],stay_ok hd⟩
   |i+1,hA=>simp at hA,λ i A B hA hB=>by simp at hB⟩
 generalize upd H1 pf (.lst [.ref q0])=H2 at *
 refine qfu9 (λ σ H'=>σ=[some (.int d),some (.int N),some (.int p),some (.ref fl),some (.ref pf)]/\SameU H H'/\T H'/\∃Ts:List Tb,TL H H' pf Ts/\1<=Ts.length/\Ts.length<=N/\TsOk d N p Fs m stp Ts)
  (λ _ H'=>match H' pf with|some (.lst xs)=>N-xs.length|_=>0) ⟨rfl,SameU.of S2,hTB.same _ _ hT S2,_,L1,zaj _,N1,ok1⟩ ?_ ?_
 ·intro σ H3 z9;obtain⟨rfl,u3,t3,Ts,L3,l1,l2,ok⟩ := z9
  obtain⟨xs,x1,xl⟩:=L3.lst
  refine⟨_,rfl,pf,_,rfl,.inl (SqL.of x1),_,rfl,_,_,rfl,rfl,_,rfl,ite2 (λ c=>?_) (λ c=>?_)⟩
  ·have c':(xs.length:Int)<(N:Int):=of_decide_eq_true c
   have hA:Ts[Ts.length-1]?=some (Ts[Ts.length-1]'⋯):=zaa ⋯
   generalize Ts[Ts.length-1]'⋯=A at hA
   obtain⟨qa,qa1,qa2,qa3,qa4,qa5⟩:=L3.at x1 hA
   obtain⟨oA1,oA2⟩:=ok.each _ A hA
   have a1:atI xs (-1)=some (.ref qa):=by
    have:=qik9 (xs:=xs) (k:=1) (zaj _) ⋯
    rw[xl] at this
    exact this.trans qa1
   have mu0:∀ys:List V,H3 pf=some (.lst ys)->ys=xs:=λ ys e=>by
    rw[x1] at e
    cases e
    rfl
   have fin:∀(l:Addr)(B:Tb)(H4:Hp),SameU H3 H4->T H4->H3 l=none->BA H4 l B->Yg H3 H4 l->B.length=N->TOk d (mxT Fs.length m Ts.length) B->(∀p,0<=p->p<(N:Int)->∀t,Ma.bt d (cl B p) t=stp d Fs A p t)->∃p_1 xs v,(V.ref pf:V)=.ref p_1/\[V.ref l]=[v]/\H4 p_1=some (.lst xs)/\xs.length<sizeLine /\
     ((([some (.int d),some (.int N),some (.int p),some (.ref fl),some (.ref pf)]:L2.St)=[some (.int d),some (.int N),some (.int p),some (.ref fl),some (.ref pf)]/\SameU H (upd H4 p_1 (.lst (xs++[v])))/\T (upd H4 p_1 (.lst (xs++[v])))/\∃Ts:List Tb,TL H (upd H4 p_1 (.lst (xs++[v]))) pf Ts/\1<=Ts.length/\Ts.length<=N/\TsOk d N p Fs m stp Ts) /\
     (match upd H4 p_1 (.lst (xs++[v])) pf with|some (.lst xs)=>N-xs.length|_=>0)<(match H3 pf with|some (.lst xs)=>N-xs.length|_=>0)):=by
    intro l B H4 u4 t4 fl4 hB hY bl tB gB
    have x4:=u4.lst x1
    have L4:=L3.snoc u4 fl4 hB hY u3 x4
    obtain⟨qs0,z1,_,_,z4,_⟩:=id L3
    have fpf:H pf=none:=z4 pf (zak ..)
    refine⟨pf,xs,_,rfl,rfl,x4,qbe9 ⋯,⟨rfl,SameU.wr fpf (u3.trans u4),hTB.wr _ _ _ _ t4 x4,Ts++[B],L4,by simp,by simp;omega,?_,?_,?_⟩,?_⟩
    ·rw[zao ⋯]
     exact ok.first
    ·intro i C hC
     rcases zca i Ts.length with z|z
     ·rw[zao z] at hC
      exact ok.each i C hC
     ·have:=(zab.mp hC).1
      simp at this
      have ei:i=Ts.length:=⋯
      subst ei
      rw[zan (zaj _),zck] at hC
      cases hC
      exact⟨bl,tB⟩
    ·intro i C D hC hD
     rcases zca (i+1) Ts.length with z|z
     ·rw[zao ⋯] at hC
      rw[zao z] at hD
      exact ok.grow i C D hC hD
     ·have:=(zab.mp hD).1
      simp at this
      have ei:i=Ts.length-1:=⋯
      subst ei
      rw[zao ⋯,hA] at hC
      rw[zan ⋯,show Ts.length-1+1-Ts.length=0 by omega] at hD
      cases hC
      cases hD
      exact gB
    ·rw[qaf9,x1]
     show N-(xs++[V.ref l]).length<N-xs.length
     rw[zal,zbh]
     omega
   have em:mxT Fs.length m Ts.length=mxT Fs.length m (Ts.length-1)+Fs.length*(m+mxT Fs.length m (Ts.length-1)):=by
    rw[show Ts.length=Ts.length-1+1 by omega]
    rfl
   refine⟨λ b H'=>H'=H3/\(b=true->∃A',Ts[Ts.length-1-1]?=some A'/\2<=Ts.length/\A'=A),?_,?_⟩
   ·refine⟨_,rfl,pf,_,rfl,.inl (SqL.of x1),_,_,rfl,rfl,_,rfl,ite2 (λ c2=>?_) (λ c2=>⟨rfl,λ z=>by cases z⟩)⟩
    have c2':(1:Int)<(xs.length:Int):=of_decide_eq_true c2
    have hA':Ts[Ts.length-1-1]?=some (Ts[Ts.length-1-1]'⋯):=zaa ⋯
    generalize Ts[Ts.length-1-1]'⋯=A' at hA'
    obtain⟨qb,qb1,qb2,qb3,qb4,qb5⟩:=L3.at x1 hA'
    have a2:atI xs (-2)=some (.ref qb):=by
     have:=qik9 (xs:=xs) (k:=2) ⋯ ⋯
     rw[xl,show Ts.length-2=Ts.length-1-1 by omega] at this
     exact this.trans qb1
    refine⟨_,rfl,_,rfl,pf,_,_,_,rfl,rfl,SqL.of x1,a1,_,rfl,_,rfl,pf,_,_,_,rfl,rfl,SqL.of x1,a2,_,_,qa2.rd,qb2.rd,qln9 _,qln9 _,_,rfl,rfl,λ z=>⟨A',hA',⋯,?_⟩⟩
    rw[qia9 eqvB] at z
    exact(of_decide_eq_true z).symm
   intro b H3' z9;obtain⟨rfl,hb⟩ := z9
   refine ite2 (λ cb=>?_) (λ cb=>?_)
   ·obtain⟨A',hA',l2',rfl⟩:=hb cb
    refine⟨_,rfl,.inl ⟨rfl,_,SqL.of x1⟩,_,rfl,_,rfl,pf,_,_,_,rfl,rfl,SqL.of x1,a1,qa,A',rfl,qa2,⋯,λ l H4 s4 f4 B4 Y4=>?_⟩
    refine fin l A' H4 (SameU.of s4) (hTB.same _ _ t3 s4) f4 B4 Y4 oA1 (oA2.le (by rw[em];omega)) λ p' p0 p1 t=>?_
    exact ok.grow _ A' A' hA' (by rw[show Ts.length-1-1+1=Ts.length-1 by omega];exact hA) p' p0 p1 t
   ·have fw:=few (Ts.length-1) ⋯
    rw[show Ts.length-1+1=Ts.length by omega] at fw
    refine⟨_,rfl,.inl ⟨rfl,_,SqL.of x1⟩,rfl,_,rfl,_,rfl,pf,_,_,_,rfl,rfl,SqL.of x1,a1,u3.1 _ _ hc (λ z y=>by cases y),qa,rfl,d,pF,Fs,qa,A,_,m,rfl,hF.u u3,qa2,t3,by rw[oA1];exact fok,oA2,by rw[<- em];exact fw.1,fw.2,⋯,λ l Ds H4 u4 t4 f4 B4 Y4 l4 tk4 e4=>?_⟩
    refine fin l Ds H4 u4 t4 f4 B4 Y4 (l4.trans oA1) (by rw[em];exact tk4) λ p' p0 p1 t=>e4 p' p0 (by rw[oA1];exact p1) t
  ·have c':¬(xs.length:Int)<(N:Int):=λ z=>c (decide_eq_true z)
   exact⟨_,rfl,q pf Ts H3 u3 t3 L3 ⋯ ok⟩
 ·intro σ H' Q1 Q2 hq z9;obtain⟨v,e1,p1,ys,e2,e3,v2,e4,i,j,e5,e6,k,e7,q1⟩ := z9
  exact⟨v,e1,p1,ys,e2,e3,v2,e4,i,j,e5,e6,k,e7,hq _ _ q1⟩
def lamRet:Stmt->Expr
 | .Return (some (.Call _ [_,_,_,l] _ _)) _=>l
 |_=>.Constant .none 0 ⟨0,0,0,0⟩
theorem qgm9(z:Str)(d:Addr)(e:([(y2,c2),(y1,c1)]:List (Str×Addr)).lookup z=some d):(z=y1/\d=c1)\/(z=y2/\d=c2):=by
 rw[zcj] at e
 cases h:z==y2 with
 |true=>rw[h] at e;cases e;exact .inr ⟨eq_of_beq h,rfl⟩
 |false =>
  rw[h] at e
  exact .inl (qfn9 z d e)
theorem qli9(ne:c1≠c2)(x y:Str)(c:Addr)(h1:([(y2,c2),(y1,c1)]:List (Str×Addr)).lookup x=some c)(h2:([(y2,c2),(y1,c1)]:List (Str×Addr)).lookup y=some c):x=y:=by
 rcases qgm9 x c h1 with⟨a,b⟩|⟨a,b⟩<;>rcases qgm9 y c h2 with⟨a',b'⟩|⟨a',b'⟩
 ·exact a.trans a'.symm
 ·exact absurd (b.symm.trans b') ne
 ·exact absurd (b'.symm.trans b) ne
 ·exact a.trans a'.symm
theorem qnh9{sc:Scope}(h:∀y∈sc.names,y.2=.free->y.1=y1\/y.1=y2)(x:Str)(e:sc.names.lookup x=some .free):∃d,([(y2,c2),(y1,c1)]:List (Str×Addr)).lookup x=some d:=by
 have hm:=PySem.mem_of_lookup e
 rw[zcj]
 rcases h _ hm rfl with z|z
 ·have z:x=y1:=z
  cases h2:x==y2 with
  |true=>exact⟨c2,rfl⟩
  |false =>
   refine⟨c1,?_⟩
   rw[z,zcj]
   simp
 ·have z:x=y2:=z
  rw[z]
  exact⟨c2,by simp⟩
abbrev lamT:Expr:=lamRet ((qag9 qbg9).getD 1 (.Pass ⟨0,0,0,0⟩))
theorem sc_lamT(c1 c2:Addr)(ne:c1≠c2):LamScope ["told","day","fords"] ["told"] (lamSc lamT) [("fords",c2),("day",c1)]:=⟨rfl,rfl,rfl,by decide,rfl,by decide +kernel,by decide +kernel,qnh9 (by decide +kernel),qli9 ne⟩
theorem ok_lamT(ne:c1≠c2)(hTB:TB T)(FG:Fun K "grown" "grown" qdu9 g gd)(B:Bl mg)(Ch0:Callee P w K mg base (n+1) "staying" ["day","size","place"] spStaying)(Ca0:Callee P w K mg base (n+1) "copied_table" ["told"] spCopied)(Co0:Callee P w K mg base n "ride_first" ["day","fords","told"] (qkl9 T stepT))
  (hfl:base.get? fl=some (W.kla_obj "<lambda>" (lamQ "rounds_to") (qlq9 lamT) (qlr9 lamT) (lamSc lamT) [("fords",c2),("day",c1)] pm c' ctv)) (hca:qim9 base (lamSc lamT) [("fords",c2),("day",c1)] ["told","day","fords"] ["told"] [v1,v2]) :
  FnOk P w K mg base CX0 (n+2) g gd ["day","size","place","step"] (qlv9 T stepT (lamQ "rounds_to") v1 v2 fl c'):=by
 refine qok9 (n:=n+1) hTB FG B Ch0 Ca0 (lam_ok (k:=n) (N:=["told","day","fords"]) (cs:=[v1,v2]) hfl (λ vs H Q E h=>?_) (sc_lamT c1 c2 ne) hca (λ vs H Q E h=>?_) (λ A outer s H vs Q E hr h=>?_)) (Binds.all λ us hl=>match us,hl with | [_],_=>rfl) ⟨_,_,_,_,hfl⟩
 all_goals unfold spStep at h
 all_goals split at h
 all_goals first|exact h.elim|skip
 ·exact h.1
 ·obtain⟨_,_,rfl,_⟩:=h
  rfl
 ·obtain⟨hc,pt,rfl,h⟩:=h
  refine⟨_,pe_fn Co0 hr rfl (pa_c (pv 1) (pa_c (pv 2) (pa_c (pv 0) pa_nil))),?_⟩
  exact⟨_,rfl,_,rfl,_,rfl,h⟩
inductive spRounds(T:Hp->Prop)(vs:List V)(H:Hp)(Q:VK)(z3q:XK):Prop
 |mk (d:Int) (n:Nat) (pr:Addr) (N:List RdT) (goal:Int) (m:Nat):vs=[.int d,.int n,.ref pr,.int goal]->NA H pr N->T H->0<d->NetOk d n N->1<=n->n<=1000->N.length<=1000->((∀x∈N,4*x.2.2.2.length+2<=m))->Few N.length m n->0<=goal->(goal<(n:Int))->(∀(l:Addr)(F:List RdT)(Ts:List Tb)(H':Hp),SameU H H'->T H'->Fords d N F->TL H H' l Ts->Ts.length=n->TsOk d n goal F m stepT Ts->Q (.ref l) H')->spRounds T vs H Q z3q
inductive spTable(T:Hp->Prop)(vs:List V)(H:Hp)(Q:VK)(z3q:XK):Prop
 |mk (d:Int) (n:Nat) (pr:Addr) (N:List RdT) (goal:Int) (m:Nat):vs=[.int d,.int n,.ref pr,.int goal]->NA H pr N->T H->0<d->NetOk d n N->1<=n->n<=1000->N.length<=1000->((∀x∈N,4*x.2.2.2.length+2<=m))->Few N.length m n->0<=goal->(goal<(n:Int))->(∀(l:Addr)(F:List RdT)(Ts:List Tb)(C:Tb)(H':Hp),SameU H H'->T H'->Fords d N F->Ts.length=n->TsOk d n goal F m stepT Ts->Ts[n-1]?=some C->BA H' l C->H l=none->Yg H H' l->Q (.ref l) H')->spTable T vs H Q z3q
theorem qjo9{kV:Value}(lk:K.lookup f=some ⟨oc,od,.func (W.fnOf "rounds_to" "rounds_to" (qah9 qbg9) (qag9 qbg9) (qad9 qbg9) .none kV doc pm an (.ref c) ct),osl⟩)(hcd:W.codeIn K (.ref c) "rounds_to"=true)
  (B:Bl mg) (hC:W.CodeHd base c P0) (hB:BMain mg base) (FG:Fun K "grown" "grown" qdu9 g gd) (bG:Binds K gd ["day","size","place","step"] []) (mG:mg "grown"=some (.ref g)) (hTB:TB T) (h1:∀H,T H->TabOk H P0 ⟨244,34,244,75⟩ (lamQ "rounds_to")) (h2:∀H H',T H->SameT P0 H H'->TabOk H' P0 ⟨244,34,244,75⟩ (lamQ "rounds_to")->T H')
  (Cs0:Callee P w K mg base (n+2) "fords_of" ["day","roads"] spFordsOf) (Ch0:Callee P w K mg base (n+1) "staying" ["day","size","place"] spStaying) (Ca0:Callee P w K mg base (n+1) "copied_table" ["told"] spCopied) (Co0:Callee P w K mg base n "ride_first" ["day","fords","told"] (qkl9 T stepT)) :
  FnOk P w K mg base CX0 (n+3) f (W.fnOf "rounds_to" "rounds_to" (qah9 qbg9) (qag9 qbg9) (qad9 qbg9) .none kV doc pm an (.ref c) ct) ["day","size","roads","goal"] (spRounds T):=by
 refine fn_of lk hcd sc_rounds_to (λ vs H Q E h=>?_) (λ A outer s H vs Q E hr h=>?_)
 ·obtain⟨_,_,_,_,_,_,rfl,_⟩:=h
  rfl
 obtain⟨d,N,pr,Ns,goal,m,rfl,hN,hT,hd,nok,N1,N2,nl,lm,few,g0,g1,q⟩:=h
 refine⟨_,PSs.nox (QSs.run (qab9 (qai9 (i:=4) sc_rounds_to.nd rfl (zct rfl) (qe_fn Cs0 hr rfl (qa_c (qv 0) (qa_c (qv 2) qaa9)))) (qae9 (qao9 ⟨qhr9 (N:=["told","day","fords"]) (ps:=["told"]) 0 4 hr rfl mG FG.kp bG rfl rfl hC hB rfl rfl rfl (zct (zai rfl)) rfl rfl rfl rfl rfl (zct (zai rfl)) rfl rfl rfl qgm9 rfl rfl rfl (pv 0) (pv 1) (pv 3) (λ base' fl c' v1 v2 pm ctv md hk hz hfl hca=>ok_lamT (zaz (zel _)) hTB FG B (Ch0.widen md hk hz) (Ca0.widen md hk hz) (Co0.widen md hk hz) hfl hca)⟩)))),?_⟩
 walk_at "d"
 refine⟨_,rfl,_,rfl,d,N,pr,Ns,rfl,hN,nl,hd,nok,λ pF F H1 s1 hF fo=>?_⟩
 have t1:=hTB.same _ _ hT s1
 refine⟨_,_,rfl,rfl,_,rfl,_,rfl,_,rfl,h1 _ t1,λ fl c' H2 sm tb hc'=>?_⟩
 have u2:=SameU.tab sm (h1 _ t1) tb
 have u02:=(SameU.of s1).trans u2
 refine⟨N,goal,F,m,rfl,hc',hF.u u2,h2 _ _ t1 sm tb,N1,N2,hd,fo.ok nok lm,by rw[fo.1];exact few,λ l Ts H3 u3 t3 L3 l3 ok3=>?_⟩
 exact q l F Ts H3 (u02.trans u3) t3 fo (L3.old u02) l3 ok3
theorem ok_rounds(F:Fun K "rounds" "rounds" qdx9 f fd)(hTB:TB T)(Ci0:Callee P w K mg base n "need_net" ["day","size","roads"] spNeedNet)(Cl0:Callee P w K mg base n "need_place" ["size","thing"] spNeedPlace)(Cl1:Callee P w K mg base n "rounds_to" ["day","size","roads","goal"] (spRounds T)):FnOk P w K mg base CX0 (n+1) f fd ["day","size","roads","goal"] (spRounds T):=by
 refine F.okQ qlg9 (λ vs H Q E h=>?_) (λ cdv A outer s H vs Q E hr h=>?_)
 ·obtain⟨_,_,_,_,_,_,rfl,_⟩:=h
  rfl
 obtain⟨d,N,pr,Ns,goal,m,rfl,hN,hT,hd,nok,N1,N2,nl,lm,few,g0,g1,q⟩:=h
 refine⟨_,(qab9 (qbi9 (qe_fn Ci0 hr rfl (qa_c (qv 0) (qa_c (qv 1) (qa_c (qv 2) qaa9))))) (qab9 (qbi9 (qe_fn Cl0 hr rfl (qa_c (qv 1) (qa_c (qv 3) qaa9)))) (qae9 (qao9 (qe_fn Cl1 hr rfl (qa_c (qv 0) (qa_c (qv 1) (qa_c (qv 2) (qa_c (qv 3) qaa9))))))))),?_⟩
 walk_at "d"
 refine⟨_,rfl,_,rfl,_,rfl,d,N,pr,Ns,rfl,hN,nl,nok,⋯,λ H1 s1=>?_⟩
 refine⟨_,rfl,_,rfl,N,goal,rfl,g0,g1,?_⟩
 refine⟨_,rfl,_,rfl,_,rfl,_,rfl,d,N,pr,Ns,goal,m,rfl,hN.same s1,hTB.same _ _ hT s1,hd,nok,N1,N2,nl,lm,few,g0,g1,λ l F Ts H2 u2 t2 fo Lq l2 ok2=>?_⟩
 exact q l F Ts H2 ((SameU.of s1).trans u2) t2 fo (Lq.old (SameU.of s1)) l2 ok2
theorem ok_table(F:Fun K "table" "table" qeu9 f fd)(Cu1:Callee P w K mg base n "rounds" ["day","size","roads","goal"] (spRounds T)):FnOk P w K mg base CX0 (n+1) f fd ["day","size","roads","goal"] (spTable T):=by
 refine F.okQ qpv9 (λ vs H Q E h=>?_) (λ cdv A outer s H vs Q E hr h=>?_)
 ·obtain⟨_,_,_,_,_,_,rfl,_⟩:=h
  rfl
 obtain⟨d,N,pr,Ns,goal,m,rfl,hN,hT,hd,nok,N1,N2,nl,lm,few,g0,g1,q⟩:=h
 refine⟨_,(qae9 (qao9 (qe_ix qaj9 (qe_fn Cu1 hr rfl (qa_c (qv 0) (qa_c (qv 1) (qa_c (qv 2) (qa_c (qv 3) qaa9))))) (qem9 qac9) (λ _ _=>rfl)))),?_⟩
 walk_at "d"
 refine⟨_,rfl,_,rfl,_,rfl,_,rfl,d,N,pr,Ns,goal,m,rfl,hN,hT,hd,nok,N1,N2,nl,lm,few,g0,g1,λ l F Ts H2 u2 t2 fo Lq l2 ok2=>?_⟩
 obtain⟨xs,x1,xl⟩:=Lq.lst
 have hC:Ts[N-1]?=some (Ts[N-1]'⋯):=zaa ⋯
 generalize Ts[N-1]'⋯=C at hC
 obtain⟨qa,qa1,qa2,qa3,qa4,qa5⟩:=Lq.at x1 hC
 have a1:atI xs (-1)=some (.ref qa):=by
  have:=qik9 (xs:=xs) (k:=1) (zaj _) ⋯
  rw[xl,l2] at this
  exact this.trans qa1
 exact⟨_,rfl,l,_,_,_,rfl,rfl,SqL.of x1,a1,q qa F Ts C H2 u2 t2 fo l2 ok2 hC qa2 qa3 qa4⟩
def Mn(S:Int->Prop)(o:Option Int):Prop:=(∀y,o=some y->S y/\∀z,S z->y<=z)/\(o=none->∀z,¬S z)
theorem Mn.eq{S:Int->Prop}{b:Option Int}(h:Mn S a)(h':Mn S' b)(h1:∀y,S y->∃x,x<=y/\S' x)(h2:∀y,S' y->∃x,x<=y/\S x):a=b:=by
 cases a with
 |none =>
  cases b with
  |none=>rfl
  |some y =>
   obtain⟨x,_,s⟩:=h2 y (h'.1 y rfl).1
   exact absurd s (h.2 rfl x)
 |some x =>
  obtain⟨s1,s2⟩:=h.1 x rfl
  obtain⟨z,l,sz⟩:=h1 x s1
  cases b with
  |none=>exact absurd sz (h'.2 rfl z)
  |some y =>
   obtain⟨t1,t2⟩:=h'.1 y rfl
   obtain⟨z',l',sz'⟩:=h2 y t1
   have:=t2 z sz
   have:=s2 z' sz'
   rw[show x=y by omega]
theorem Mn.uniq{S:Int->Prop}{b:Option Int}(h:Mn S a)(h':Mn S b):a=b:=h.eq h' (λ y s=>⟨y,zax _,s⟩) λ y s=>⟨y,zax _,s⟩
theorem Mn.dom{S:Int->Prop}(h:Mn S a)(h1:∀y,S y->S' y)(h2:∀y,S' y->∃x,x<=y/\S x):Mn S' a:=by
 refine⟨λ y e=>⟨h1 y (h.1 y e).1,λ z s=>?_⟩,λ e z s=>?_⟩
 ·obtain⟨x,l,sx⟩:=h2 z s
  have:=(h.1 y e).2 x sx
  omega
 ·obtain⟨x,l,sx⟩:=h2 z s
  exact h.2 e x sx
theorem Mn.congr{S:Int->Prop}(h:Mn S a)(e:∀y,S y↔S' y):Mn S' a:=h.dom (λ y s=>(e y).mp s) λ y s=>⟨y,zax _,(e y).mpr s⟩
theorem Mn.omin{S S':Int->Prop}{a b:Option Int}(h:Mn S a)(h':Mn S' b):Mn (λ y=>S y\/S' y) (Ma.omin a b):=by
 cases a with
 |none=>exact⟨λ y e=>⟨.inr (h'.1 y e).1,λ z s=>s.elim (λ s=>absurd s (h.2 rfl z)) ((h'.1 y e).2 z)⟩,λ e z s=>s.elim (h.2 rfl z) (h'.2 e z)⟩
 |some x =>
  cases b with
  |none=>exact⟨λ y e=>⟨.inl (h.1 y e).1,λ z s=>s.elim ((h.1 y e).2 z) λ s=>absurd s (h'.2 rfl z)⟩,λ e=>by cases e⟩
  |some x' =>
   obtain⟨s1,s2⟩:=h.1 x rfl
   obtain⟨t1,t2⟩:=h'.1 x' rfl
   refine⟨λ y e=>?_,λ e=>by cases e⟩
   have e:(if x'<x then x' else x)=y:=Option.some.inj e
   split at e
   ·subst e
    exact⟨.inr t1,λ z s=>s.elim (λ s=>by have:=s2 z s;omega) (t2 z)⟩
   ·subst e
    exact⟨.inl s1,λ z s=>s.elim (s2 z) λ s=>by have:=t2 z s;omega⟩
theorem Mn.none{S:Int->Prop}(h:∀z,¬S z):Mn S none:=⟨λ y e=>(nomatch e),λ _=>h⟩
theorem Mn.one{S:Int->Prop}{x:Int}(h1:S x)(h2:∀z,S z->x<=z):Mn S (some x):=⟨λ y e=>by cases e;exact⟨h1,h2⟩,λ e=>by cases e⟩
theorem bt_up(ck:Ma.CK d C){t':Int}(h:Ma.bt d C t=some z)(l:t'<=t):∃z',Ma.bt d C t'=some z'/\z'<=z:=by
 have n0:C≠[]:=λ e=>by rw[e] at h;cases h
 have T:=Ma.tells_bf (d:=d) n0
 have r:=ck.rise T
 rw[T t] at h
 cases h
 exact⟨_,T t',r.mono _ _ l⟩
theorem qpw9(ck:Ma.CK d C)(h:Ma.bt d C t=some z):t<=z:=by
 have n0:C≠[]:=λ e=>by rw[e] at h;cases h
 have T:=Ma.tells_bf (d:=d) n0
 rw[T t] at h
 cases h
 exact(ck.rise T).ge t
def CkF(d:Int)(F:List RdT):Prop:=∀m∈F,Ma.CK d m.2.2.2
def Jo(d:Int)(F:List RdT):Nat->Int->Int->Int->Int->Prop
 |0,p,t,q,y=>p=q/\t=y
 |k+1,p,t,q,y=>Jo d F k p t q y\/∃m∈F,m.1=p/\∃z,Ma.bt d m.2.2.2 t=some z/\Jo d F k m.2.1 z q y
theorem qpx9{d:Int}{A:Tb}{p t:Int}{S:Int->Int->Int->Prop}:∀{F:List RdT}{o:Option Int}{S0:Int->Prop},Mn S0 o->(∀m∈F,∀z,Mn (S m.2.1 z) (Ma.bt d (cl A m.2.1) z))->Mn (λ y=>S0 y\/∃m∈F,m.1=p/\∃z,Ma.bt d m.2.2.2 t=some z/\S m.2.1 z y) (ways d F A p t o)
 | [],o,S0,h,_=>h.congr λ y=>⟨.inl,λ s=>s.elim id λ⟨m,hm,_⟩=>by cases hm⟩
 |m::F,o,S0,h,hS=>by
  have hF:=λ x hx=>hS x (zam _ hx)
  by_cases e:m.1=p
  ·have hb:Mn (λ y=>∃z,Ma.bt d m.2.2.2 t=some z/\S m.2.1 z y) (Ma.obind (Ma.bt d m.2.2.2) (Ma.bt d (cl A m.2.1)) t):=by
    unfold Ma.obind
    cases e':Ma.bt d m.2.2.2 t with
    |none=>exact Mn.none λ z ⟨x,hx,_⟩=>by cases hx
    |some z=>exact(hS m (zak ..) z).congr λ y=>⟨λ s=>⟨z,rfl,s⟩,λ⟨x,hx,s⟩=>by cases hx;exact s⟩
   have:=qpx9 (p:=p) (t:=t) (F:=F) (h.omin hb) hF
   have e2:ways d (m::F) A p t o=ways d F A p t (Ma.omin o (Ma.obind (Ma.bt d m.2.2.2) (Ma.bt d (cl A m.2.1)) t)):=by
    show ways d F A p t (if m.1=p then _ else _)=_
    rw[if_pos e]
   rw[e2]
   refine this.congr λ y=>⟨λ s=>?_,λ s=>?_⟩
   ·rcases s with(s|s)|⟨x,hx,s⟩
    ·exact .inl s
    ·exact .inr ⟨m,zak ..,e,s⟩
    ·exact .inr ⟨x,zam _ hx,s⟩
   ·rcases s with s|⟨x,hx,s1,s2⟩
    ·exact .inl (.inl s)
    ·rcases zae.mp hx with rfl|hx
     ·exact .inl (.inr s2)
     ·exact .inr ⟨x,hx,s1,s2⟩
  ·have:=qpx9 (p:=p) (t:=t) (F:=F) h hF
   have e2:ways d (m::F) A p t o=ways d F A p t o:=by
    show ways d F A p t (if m.1=p then _ else _)=_
    rw[if_neg e]
   rw[e2]
   refine this.congr λ y=>⟨λ s=>?_,λ s=>?_⟩
   ·rcases s with s|⟨x,hx,s⟩
    ·exact .inl s
    ·exact .inr ⟨x,zam _ hx,s⟩
   ·rcases s with s|⟨x,hx,s1,s2⟩
    ·exact .inl s
    ·rcases zae.mp hx with rfl|hx
     ·exact absurd s1 e
     ·exact .inr ⟨x,hx,s1,s2⟩
theorem TsOk.mn{d:Int}{n:Nat}{goal:Int}{F:List RdT}{m:Nat}{Ts:List Tb}(hd:0<d)(fok:FOk d n m F)(ok:TsOk d n goal F m stepT Ts):∀{k:Nat}{A:Tb},Ts[k]?=some A->∀p,0<=p->p<(n:Int)->∀t,Mn (Jo d F k p t goal) (Ma.bt d (cl A p) t)
 |0,A,hA,p,p0,p1,t=>by
  rw[ok.first] at hA
  cases hA
  rw[cl_stay p0 p1]
  by_cases e:p=goal
  ·rw[if_pos e,Ma.bt_still hd]
   exact Mn.one ⟨e,rfl⟩ λ z s=>zgs s.2
  ·rw[if_neg e]
   exact Mn.none λ z s=>e s.1
 |k+1,A,hA,p,p0,p1,t=>by
  have lt:=(zab.mp hA).1
  have hA':=zaa (show k<Ts.length by omega)
  rw[ok.grow k _ A hA' hA p p0 p1 t]
  exact qpx9 (S:=λ q z=>Jo d F k q z goal) (ok.mn hd fok hA' p p0 p1 t) λ x hx z=>ok.mn hd fok hA' _ (fok x hx).2.1.1 (fok x hx).2.1.2 z
def Pa(d:Int)(F:List RdT):List Int->Int->Int->Int->Int->Prop
 | [],p,t,q,y=>p=q/\t=y
 |x::ps,p,t,q,y=>∃m∈F,m.1=p/\m.2.1=x/\∃z,Ma.bt d m.2.2.2 t=some z/\Pa d F ps x z q y
theorem Jo.up:∀{k:Nat}{p t q y:Int},Jo d F k p t q y->Jo d F (k+1) p t q y:=λ h=>.inl h
theorem Jo.le{k j:Nat}{p y:Int}(h:Jo d F k p t q y)(l:k<=j):Jo d F j p t q y:=by
 induction j with
 |zero =>
  have:k=0:=⋯
  subst this
  exact h
 |succ j ih =>
  rcases(by omega:k=j+1\/k<=j) with e|e
  ·subst e
   exact h
  ·exact(ih e).up
theorem Jo.pa:∀{k:Nat}{p t q y:Int},Jo d F k p t q y->∃ps,ps.length<=k/\Pa d F ps p t q y
 |0,p,t,q,y,h=>⟨[],zaj _,h⟩
 |k+1,p,t,q,y,h=>by
  rcases h with h|⟨m,hm,e,z,hz,h⟩
  ·obtain⟨ps,l,h⟩:=h.pa
   exact⟨ps,⋯,h⟩
  ·obtain⟨ps,l,h⟩:=h.pa
   exact⟨m.2.1::ps,by simp;omega,m,hm,e,rfl,z,hz,h⟩
theorem Pa.jo:∀{ps:List Int}{p t q y:Int},Pa d F ps p t q y->Jo d F ps.length p t q y
 | [],p,t,q,y,h=>h
 |x::ps,p,t,q,y,⟨m,hm,e,ex,z,hz,h⟩=>.inr ⟨m,hm,e,z,hz,by rw[ex];exact h.jo⟩
theorem Pa.early(ck:CkF d F):∀{ps:List Int}{p t t' q y:Int},Pa d F ps p t q y->t'<=t->∃y',y'<=y/\Pa d F ps p t' q y'
 | [],p,t,t',q,y,⟨e1,e2⟩,l=>⟨t',⋯,e1,rfl⟩
 |x::ps,p,t,t',q,y,⟨m,hm,e,ex,z,hz,h⟩,l=>by
  obtain⟨z',hz',lz⟩:=bt_up (ck m hm) hz l
  obtain⟨y',ly,h'⟩:=h.early ck lz
  exact⟨y',ly,m,hm,e,ex,z',hz',h'⟩
theorem Pa.from(ck:CkF d F):∀{ps:List Int}{p t q y a:Int},Pa d F ps p t q y->a∈ps->∃ps' z,ps'.length<ps.length/\t<=z/\Pa d F ps' a z q y/\∀b∈ps',b∈ps
 |x::ps,p,t,q,y,a,⟨m,hm,e,ex,z,hz,h⟩,ha=>by
  have tz:=qpw9 (ck m hm) hz
  rcases zae.mp ha with rfl|ha
  ·exact⟨ps,z,by simp,tz,h,λ b hb=>zam _ hb⟩
  ·obtain⟨ps',z',l,tz',h',s⟩:=h.from ck ha
   exact⟨ps',z',by simp;omega,⋯,h',λ b hb=>zam _ (s b hb)⟩
theorem Pa.nodup(ck:CkF d F):∀(n:Nat){ps:List Int}{p t q y:Int},ps.length<=n->Pa d F ps p t q y->∃ps' y',y'<=y/\Pa d F ps' p t q y'/\(p::ps').Nodup/\∀b∈ps',b∈ps
 |n,[],p,t,q,y,_,h=>⟨[],y,zax _,h,by simp,λ b hb=>hb⟩
 |0,x::ps,_,_,_,_,l,_=>by simp at l
 |n+1,x::ps,p,t,q,y,l,h=>by
  simp at l
  by_cases hp:p∈x::ps
  ·obtain⟨ps',z,l',tz,h',s⟩:=h.from ck hp
   obtain⟨y',ly,h''⟩:=h'.early ck tz
   obtain⟨ps'',y'',ly',h3,nd,s'⟩:=Pa.nodup ck n (by simp at l';omega) h''
   exact⟨ps'',y'',⋯,h3,nd,λ b hb=>s b (s' b hb)⟩
  ·obtain⟨m,hm,e,ex,z,hz,h⟩:=h
   obtain⟨ps',y',ly,h',nd,s⟩:=Pa.nodup ck n l h
   refine⟨x::ps',y',ly,⟨m,hm,e,ex,z,hz,h'⟩,zbl.mpr ⟨λ z=>hp ?_,nd⟩,λ b hb=>?_⟩
   ·rcases zae.mp z with z|z
    ·exact zae.mpr (.inl z)
    ·exact zam _ (s _ z)
   ·rcases zae.mp hb with z|z
    ·exact zae.mpr (.inl z)
    ·exact zam _ (s _ z)
theorem qgy9:∀(n:Nat){L:List Int},L.Nodup->(∀x∈L,0<=x/\x<(n:Int))->L.length<=n
 |0,L,nd,h=>by
  cases L with
  |nil=>exact zaj _
  |cons x L =>
   have:=h x (zak ..)
   omega
 |n+1,L,nd,h=>by
  by_cases hn:(n:Int)∈L
  ·have h1:=qgy9 n (nd.erase (n:Int)) λ x hx=>by
    have h2:=h x (List.mem_of_mem_erase hx)
    have h3:x≠(n:Int):=λ e=>nd.not_mem_erase (e ▸ hx)
    omega
   rw[List.length_erase_of_mem hn] at h1
   omega
  ·have:=qgy9 n nd λ x hx=>by
    have h2:=h x hx
    have h3:x≠(n:Int):=λ e=>hn (e ▸ hx)
    omega
   omega
theorem Pa.in(hF:∀m∈F,0<=m.2.1/\m.2.1<(n:Int)):∀{ps:List Int}{p t q y:Int},Pa d F ps p t q y->∀b∈ps,0<=b/\b<(n:Int)
 |x::ps,p,t,q,y,⟨m,hm,e,ex,z,hz,h⟩,b,hb=>by
  rcases zae.mp hb with rfl|hb
  ·rw[<- ex]
   exact hF m hm
  ·exact h.in hF b hb
theorem Jo.enough(ck:CkF d F)(hF:∀m∈F,0<=m.2.1/\m.2.1<(n:Int)){k:Nat}{p y:Int}(p0:0<=p)(p1:p<(n:Int))(h:Jo d F k p t q y):∃y',y'<=y/\Jo d F (n-1) p t q y':=by
 obtain⟨ps,l,h⟩:=h.pa
 have hin:=h.in hF
 obtain⟨ps',y',ly,h',nd,s⟩:=Pa.nodup ck _ (zaj _) h
 have:=qgy9 n nd λ x hx=>by
  rcases zae.mp hx with rfl|hx
  ·exact⟨p0,p1⟩
  ·exact hin x (s x hx)
 simp at this
 exact⟨y',ly,h'.jo.le ⋯⟩
theorem FOk.ck{m:Nat}(h:FOk d size m F):CkF d F:=λ x hx=>(h x hx).2.2.1
theorem TsOk.all{m:Nat}{Ts:List Tb}{A:Tb}(hd:0<d)(fok:FOk d n m F)(ok:TsOk d n goal F m stepT Ts)(hA:Ts[n-1]?=some A)(p:Int)(p0:0<=p)(p1:p<(n:Int))(t:Int):Mn (λ y=>∃k,Jo d F k p t goal y) (Ma.bt d (cl A p) t) :=
 (ok.mn hd fok hA p p0 p1 t).dom (λ y s=>⟨_,s⟩) λ y ⟨k,s⟩=>s.enough fok.ck (λ x hx=>(fok x hx).2.1) p0 p1
theorem strip_at(h:M.map strip=N.map strip){x:RdT}(hx:N[i]?=some x):∃m,M[i]?=some m/\x.1=m.1/\x.2.1=m.2.1/\x.2.2.2=m.2.2.2:=by
 have:=congrArg (λ l=>l[i]?) h
 simp only[zaf,hx] at this
 cases e:M[i]? with
 |none=>rw[e] at this;cases this
 |some m =>
  rw[e] at this
  have:=Option.some.inj this
  simp only[strip,Prod.mk.injEq] at this
  exact⟨m,rfl,this.1.symm,this.2.1.symm,this.2.2.symm⟩
theorem Fords.of(h:Fords d N F){f:RdT}(hf:f∈F):∃x∈N,x.1=f.1/\x.2.1=f.2.1/\∀t,Ma.bt d f.2.2.2 t=Ma.bt d x.2.2.2 t:=by
 obtain⟨i,hi⟩:=zaw hf
 have lt:=(zab.mp hi).1
 have hx:=zaa (show i<N.length by rw[<- h.1];exact lt)
 obtain⟨e1,e2,_,_,e3⟩:=h.2 i _ f hx hi
 exact⟨_,zac hx,e1.symm,e2.symm,e3⟩
theorem Fords.to(h:Fords d N F){x:RdT}(hx:x∈N):∃f∈F,f.1=x.1/\f.2.1=x.2.1/\∀t,Ma.bt d f.2.2.2 t=Ma.bt d x.2.2.2 t:=by
 obtain⟨i,hi⟩:=zaw hx
 have lt:=(zab.mp hi).1
 have hf:=zaa (show i<F.length by rw[h.1];exact lt)
 obtain⟨e1,e2,_,_,e3⟩:=h.2 i _ _ hi hf
 exact⟨_,zac hf,e1,e2,e3⟩
theorem RoadsIn.ok(h:RoadsIn d size N):NetOk d size N:=⟨λ m hm=>by
 obtain⟨a,b,c,e⟩:=h m hm
 exact⟨a,b,⋯,λ w hw=>⟨(e w hw).1,(e w hw).2.1,(e w hw).2.2.1,(e w hw).2.2.2.1⟩⟩⟩
theorem qig9{f f' m:Nat}(h:f<=f'):∀k,mxT f m k<=mxT f' m k
 |0=>zaj _
 |k+1=>by
  have:=qig9 (m:=m) h k
  exact zgi this (zdq h ⋯)
theorem few16{f:Nat}(h:f<=16)(hn:n<=4):Few f 66 n:=λ k hk=>by
 have h1:=qig9 (m:=66) h (k+1)
 have h2:=qig9 (m:=66) h k
 have b1:mxT 16 66 (k+1)<=1000000:=by
  match k,hk with
  |0,_=>decide
  |1,_=>decide
  |2,_=>decide
  |k+3,hk=>omega
 have b2:mxT 16 66 k<=19586:=by
  match k,hk with
  |0,_=>decide
  |1,_=>decide
  |2,_=>decide
  |k+3,hk=>omega
 exact⟨⋯,zbe (Nat.mul_le_mul_left _ (show 2*(mxT f 66 k+1)+2<=2*19587+2 by omega)) (by decide)⟩
theorem big16{f k:Nat}(h:f<=16)(hn:n<=4)(hk:k<n):mxT f 66 k<=400000:=by
 refine zbe (qig9 (m:=66) h k) ?_
 match k,hk with
 |0,_=>decide
 |1,_=>decide
 |2,_=>decide
 |3,_=>decide
 |k+4,hk=>omega
theorem qnl9(h:Ma.bt d R t=some z):∃w∈R,Ma.bt d [w] t=some z:=by
 obtain⟨⟨w,hw,e⟩,_⟩:=Ma.bt_min h
 exact⟨w,hw,by rw[e];rfl⟩
theorem bt_le_of{w:T3}(hw:w∈R)(h:Ma.bt d [w] t=some z):∃z',Ma.bt d R t=some z'/\z'<=z:=by
 rcases Ma.bt_spec d t R with⟨e,_⟩|⟨y,e,m⟩
 ·rw[e] at hw
  cases hw
 ·refine⟨y,e,?_⟩
  have e2:Ma.bt d [w] t=some (Ma.nextO d w.1 w.2.1 t+w.2.2):=rfl
  rw[e2] at h
  cases h
  exact m.2 w hw
section
variable {F':List RdT}
theorem Jo.to(h:∀m∈F,∃m'∈F',m'.1=m.1/\m'.2.1=m.2.1/\∀t,Ma.bt d m'.2.2.2 t=Ma.bt d m.2.2.2 t):∀{k:Nat}{p t q y:Int},Jo d F k p t q y->Jo d F' k p t q y
 |0,p,t,q,y,j=>j
 |k+1,p,t,q,y,j=>by
  rcases j with j|⟨m,hm,e,z,hz,j⟩
  ·exact .inl (j.to h)
  ·obtain⟨m',hm',e1,e2,e3⟩:=h m hm
   exact .inr ⟨m',hm',e1.trans e,z,by rw[e3];exact hz,by rw[e2];exact j.to h⟩
end
def waysL(d:Int)(F:List RdT)(Cs:Tb)(p t:Int)(o:Option Int):Option Int:=F.foldl (λ acc m=>if m.2.1=p then Ma.omin acc (Ma.obind (Ma.bt d (cl Cs m.1)) (Ma.bt d m.2.2.2) t) else acc) o
def stepL(d:Int)(F:List RdT)(Cs:Tb)(p t:Int):Option Int:=waysL d F Cs p t (Ma.bt d (cl Cs p) t)
theorem qnz9{p:Int}{o:Option Int}:waysL d (F++[m]) Cs p t o=if m.2.1=p then Ma.omin (waysL d F Cs p t o) (Ma.obind (Ma.bt d (cl Cs m.1)) (Ma.bt d m.2.2.2) t) else waysL d F Cs p t o:=by simp[waysL]
theorem qjr9(hTB:TB T)(F:Fun K "ride_last" "ride_last" qdc9 f fd)(Ca0:Callee P w K mg base n "copied_table" ["told"] spCopied)(Cf0:Callee P w K mg base n "sooner" ["day","one","other"] (spTwo Ma.omin))(Cn0:Callee P w K mg base n "behind" ["day","one","other"] (spBehind T)):FnOk P w K mg base CX0 (n+1) f fd ["day","fords","told"] (qkl9 T stepL):=by
 refine F.okQ sc_ride_last (λ vs H Q E h=>?_) (λ cdv A outer s H vs Q E hr h=>?_)
 ·obtain⟨_,_,_,_,_,_,_,rfl,_⟩:=h
  rfl
 obtain⟨d,pF,F,pt,Cs,M,m,rfl,hF,hB,hT,fok,tok,b1,b2,nl,q⟩:=h
 refine⟨_,(qab9 (qai9 (i:=3) sc_ride_last.nd rfl (zai rfl) (qe_fn Ca0 hr rfl (qa_c (qv 2) qaa9))) (qab9 (qeo9 PassesOwn.never rfl (qcv9 (qv 1)) (qgw9 rfl (qaw9 (qar9 (i:=4) sc_ride_last.nd rfl (zai rfl)) (qaw9 (qar9 (i:=5) sc_ride_last.nd rfl (zai rfl)) (qaw9 (qar9 (i:=6) sc_ride_last.nd rfl (zai rfl)) qed9)))) (qae9 (qs_asg (qe_fn Cf0 hr rfl (qa_c (qv 0) (qa_c (qe_ix qaj9 (qv 3) (qv 5) (λ _ _=>rfl)) (qa_c (qe_fn Cn0 hr rfl (qa_c (qv 0) (qa_c (qe_ix qaj9 (qv 2) (qv 4) (λ _ _=>rfl)) (qa_c (qv 6) qaa9)))) qaa9)))) (qg_sub (qv 3) (qv 5) qkh9)))) (qae9 (qao9 (qv 3))))),?_⟩
 walk_at "d"
 refine⟨_,rfl,pt,Cs,rfl,hB,nl,λ pn H1 s1 f1 B1 Y1=>?_⟩
 have u1:=SameU.of s1
 obtain⟨ws,hw1,hw2,hw3⟩:=hF.la.lst
 rw[zah] at hw2
 refine⟨_,rfl,pF,rfl,⟨_,SqL.of (s1 _ _ hw1)⟩,qex9 (K:=K) (a:=pF) (xs:=ws)
  (λ i σ H'=>∃(Ds:Tb)(v4 v5 v6:Option V),σ=[some (.int d),some (.ref pF),some (.ref pt),some (.ref pn),v4,v5,v6]/\SameU H H'/\T H'/\BA H' pn Ds/\Yg H H' pn/\Ds.length=Cs.length/\TOk d (M+i*(m+M)) Ds/\∀p,0<=p->p<(Cs.length:Int)->∀t,Ma.bt d (cl Ds p) t=waysL d (F.take i) Cs p t (Ma.bt d (cl Cs p) t))
  ⟨Cs,_,_,_,rfl,u1,hTB.same _ _ hT s1,B1,Y1,rfl,by simpa using tok,λ p _ _ t=>rfl⟩ (λ i σ H' _ z9=>by obtain⟨_,_,_,_,_,u,_⟩ := z9;exact SqL.of (u.lst hw1)) ?_ ?_⟩
 ·intro i y σ H2 hi z9;obtain⟨Ds,v4,v5,v6,rfl,u2,t2,B2,Y2,l2,tok2,e2⟩ := z9
  obtain⟨r,x,rfl,ex,er⟩:=hw3 i y hi
  have hi2:i<F.length:=by
   have:=(zab.mp hi).1
   omega
  have em:=zaa hi2
  rw[zaf,em] at ex
  cases ex
  have hm:=zby hi2
  generalize F[i]=g at *
  obtain⟨⟨b0,b1'⟩,⟨a0,a1⟩,mu⟩:=fok g hm
  refine⟨r,_,rfl,SqT.of (u2.tup er),rfl,_,_,rfl,_,_,rfl,_,_,rfl,rfl,?_⟩
  obtain⟨rs,rc,r1,r2,r3,r4,r5⟩:=B2.at a0 (by rw[l2];exact a1)
  obtain⟨ts,tc,q1,q2,q3,q4,q5⟩:=(hB.u u2).at b0 b1'
  have muD:=tok2 _ (qjb9 a0 (by rw[l2];exact a1))
  have muC:=tok _ (qjb9 b0 b1')
  have lg:=mu.len
  have lC:=muC.len
  have lD:=muD.len
  have im:M+i*(m+M)<=M+F.length*(m+M):=zco (zbv _ ⋯) _
  have im2:M+(i+1)*(m+M)<=M+F.length*(m+M):=zco (zbv _ ⋯) _
  have ie:M+(i+1)*(m+M)=M+i*(m+M)+(m+M):=by rw[zen,zgw];omega
  have bnd:(2*(cl Cs g.1).length+1)*(2*g.2.2.2.length+2)<=16000000:=by
   rw[zfo]
   exact zbe (zdq ⋯ ⋯) b2
  refine⟨_,rfl,_,rfl,_,rfl,pn,_,_,_,rfl,rfl,SqL.of r1,r2,_,rfl,_,rfl,_,rfl,pt,_,_,_,rfl,rfl,SqL.of q1,q2,_,rfl,d,tc,g.2.2.1,cl Cs g.1,g.2.2.2,rfl,q5,(hF.u u2).bd g hm,t2,⋯,⋯,bnd,muC.1,mu.1,λ l3 R3 H3 u3 t3 f3 la3 _ ck3 e3=>?_⟩
  have mu3:=Ma.MuR.bind ck3 muC mu e3
  have l3':=mu3.len
  refine⟨d,rc,l3,cl Ds g.2.1,R3,rfl,r5.u u3,la3,⋯,⋯,muD.1,ck3,λ l4 R4 H4 s4 f4 la4 _ ck4 e4=>?_⟩
  have mu4:=Ma.MuR.min ck4 muD mu3 e4
  have u24:=u3.trans (SameU.of s4)
  have r14:=u24.lst r1
  have nlp:l4≠pn:=λ z=>by rw[z,u3.lst r1] at f4;cases f4
  have nlr:l4∉rs:=λ z=>by
   obtain⟨rs',x1,x2,x3,x4,x5⟩:=B2.u u3
   rw[u3.lst r1] at x1
   have:=qfl9 (Option.some.inj x1)
   subst this
   obtain⟨j,hj⟩:=zaw z
   have lj:=(zab.mp hj).1
   exact la_ne (enc':=enc3) (x5 j l4 _ hj (zaa ⋯)) f4 rfl
  refine⟨_,rfl,_,rfl,pn,_,_,g.2.1.toNat,rfl,rfl,r14,qnd9 a0 (by rw[zah,r4,l2];exact a1),?_⟩
  refine⟨Ds.set g.2.1.toNat R4,_,_,_,rfl,SameU.wr f1 (u2.trans u24),hTB.wr _ _ _ _ (hTB.same _ _ t3 s4) r14,(B2.u u24).set r14 la4 nlp nlr ⋯,Yg.of (rs:=rs.set g.2.1.toNat l4) (by rw[qaf9,zfh]) λ r' hr'=>?_,by simp[l2],λ C hC=>?_,λ p p0 p1 t=>?_⟩
  ·rcases zbt hr' with z|z
   ·exact Y2 rs r1 r' z
   ·subst z
    exact(u2.trans u3).free f4
  ·rw[ie]
   rcases zbt hC with z|z
   ·exact(tok2 C z).le ⋯
   ·subst z
    exact mu4.le ⋯
  ·rw[qdi9 em,qnz9,cl_set p0 (by rw[l2];exact p1) a0 (by rw[l2];exact a1)]
   by_cases z:g.2.1=p
   ·rw[if_pos z,if_pos z,e4,e2 g.2.1 a0 a1,e3,z]
   ·rw[if_neg z,if_neg z,e2 p p0 p1]
 ·intro σ H2 z9;obtain⟨Ds,v4,v5,v6,rfl,u2,t2,B2,Y2,l2,tok2,e2⟩ := z9
  rw[hw2] at tok2 e2
  rw[zbq] at e2
  exact⟨_,rfl,q pn Ds H2 u2 t2 f1 B2 Y2 l2 tok2 e2⟩
def lamRet2:Stmt->Expr
 | .Return (some (.Subscript (.Call _ [_,_,_,l] _ _) _ _)) _=>l
 |_=>.Constant .none 0 ⟨0,0,0,0⟩
abbrev lamL:Expr:=lamRet2 ((qag9 qaz9).getD 3 (.Pass ⟨0,0,0,0⟩))
theorem sc_lamL(c1 c2:Addr)(ne:c1≠c2):LamScope ["told","day","fords"] ["told"] (lamSc lamL) [("fords",c2),("day",c1)]:=⟨rfl,rfl,rfl,by decide,rfl,by decide +kernel,by decide +kernel,qnh9 (by decide +kernel),qli9 ne⟩
inductive spTabFrom(T:Hp->Prop)(vs:List V)(H:Hp)(Q:VK)(z3q:XK):Prop
 |mk (d:Int) (n:Nat) (pr:Addr) (N:List RdT) (goal:Int) (m:Nat):vs=[.int d,.int n,.ref pr,.int goal]->NA H pr N->T H->0<d->NetOk d n N->1<=n->n<=1000->N.length<=1000->((∀x∈N,4*x.2.2.2.length+2<=m))->Few N.length m n->0<=goal->(goal<(n:Int))->(∀(l:Addr)(F:List RdT)(Ts:List Tb)(C:Tb)(H':Hp),SameU H H'->T H'->Fords d N F->Ts.length=n->TsOk d n goal F m stepL Ts->Ts[n-1]?=some C->BA H' l C->H l=none->Yg H H' l->Q (.ref l) H')->spTabFrom T vs H Q z3q
theorem ok_lamL(ne:c1≠c2)(hTB:TB T)(FG:Fun K "grown" "grown" qdu9 g gd)(B:Bl mg)(Ch0:Callee P w K mg base (n+1) "staying" ["day","size","place"] spStaying)(Ca0:Callee P w K mg base (n+1) "copied_table" ["told"] spCopied)(Cu0:Callee P w K mg base n "ride_last" ["day","fords","told"] (qkl9 T stepL))
  (hfl:base.get? fl=some (W.kla_obj "<lambda>" (lamQ "table_from") (qlq9 lamL) (qlr9 lamL) (lamSc lamL) [("fords",c2),("day",c1)] pm c' ctv)) (hca:qim9 base (lamSc lamL) [("fords",c2),("day",c1)] ["told","day","fords"] ["told"] [v1,v2]) :
  FnOk P w K mg base CX0 (n+2) g gd ["day","size","place","step"] (qlv9 T stepL (lamQ "table_from") v1 v2 fl c'):=by
 refine qok9 (n:=n+1) hTB FG B Ch0 Ca0 (lam_ok (k:=n) (N:=["told","day","fords"]) (cs:=[v1,v2]) hfl (λ vs H Q E h=>?_) (sc_lamL c1 c2 ne) hca (λ vs H Q E h=>?_) (λ A outer s H vs Q E hr h=>?_)) (Binds.all λ us hl=>match us,hl with | [_],_=>rfl) ⟨_,_,_,_,hfl⟩
 all_goals unfold spStep at h
 all_goals split at h
 all_goals first|exact h.elim|skip
 ·exact h.1
 ·obtain⟨_,_,rfl,_⟩:=h
  rfl
 ·obtain⟨hc,pt,rfl,h⟩:=h
  refine⟨_,pe_fn Cu0 hr rfl (pa_c (pv 1) (pa_c (pv 2) (pa_c (pv 0) pa_nil))),?_⟩
  exact⟨_,rfl,_,rfl,_,rfl,h⟩
theorem qjn9{kV:Value}(lk:K.lookup f=some ⟨oc,od,.func (W.fnOf "table_from" "table_from" (qah9 qaz9) (qag9 qaz9) (qad9 qaz9) .none kV doc pm an (.ref c) ct),osl⟩)(hcd:W.codeIn K (.ref c) "table_from"=true)
  (B:Bl mg) (hC:W.CodeHd base c P0) (hB:BMain mg base) (FG:Fun K "grown" "grown" qdu9 g gd) (bG:Binds K gd ["day","size","place","step"] []) (mG:mg "grown"=some (.ref g)) (hTB:TB T) (h1:∀H,T H->TabOk H P0 ⟨255,35,255,75⟩ (lamQ "table_from")) (h2:∀H H',T H->SameT P0 H H'->TabOk H' P0 ⟨255,35,255,75⟩ (lamQ "table_from")->T H')
  (Ci0:Callee P w K mg base (n+2) "need_net" ["day","size","roads"] spNeedNet) (Cl0:Callee P w K mg base (n+2) "need_place" ["size","thing"] spNeedPlace) (Cs0:Callee P w K mg base (n+2) "fords_of" ["day","roads"] spFordsOf) (Ch0:Callee P w K mg base (n+1) "staying" ["day","size","place"] spStaying) (Ca0:Callee P w K mg base (n+1) "copied_table" ["told"] spCopied) (Cu0:Callee P w K mg base n "ride_last" ["day","fords","told"] (qkl9 T stepL)) :
  FnOk P w K mg base CX0 (n+3) f (W.fnOf "table_from" "table_from" (qah9 qaz9) (qag9 qaz9) (qad9 qaz9) .none kV doc pm an (.ref c) ct) ["day","size","roads","start"] (spTabFrom T):=by
 refine fn_of lk hcd sc_table_from (λ vs H Q E h=>?_) (λ A outer s H vs Q E hr h=>?_)
 ·obtain⟨_,_,_,_,_,_,rfl,_⟩:=h
  rfl
 obtain⟨d,N,pr,Ns,goal,m,rfl,hN,hT,hd,nok,N1,N2,nl,lm,few,g0,g1,q⟩:=h
 refine⟨_,PSs.nox (QSs.run (qab9 (qbi9 (qe_fn Ci0 hr rfl (qa_c (qv 0) (qa_c (qv 1) (qa_c (qv 2) qaa9))))) (qab9 (qbi9 (qe_fn Cl0 hr rfl (qa_c (qv 1) (qa_c (qv 3) qaa9)))) (qab9 (qai9 (i:=4) sc_table_from.nd rfl (zct rfl) (qe_fn Cs0 hr rfl (qa_c (qv 0) (qa_c (qv 2) qaa9)))) (qae9 (qao9 (qe_ix qaj9 ⟨qhr9 (N:=["told","day","fords"]) (ps:=["told"]) 0 4 hr rfl mG FG.kp bG rfl rfl hC hB rfl rfl rfl (zct (zai rfl)) rfl rfl rfl rfl rfl (zct (zai rfl)) rfl rfl rfl qgm9 rfl rfl rfl (pv 0) (pv 1) (pv 3) (λ base' fl c' v1 v2 pm ctv md hk hz hfl hca=>ok_lamL (zaz (zel _)) hTB FG B (Ch0.widen md hk hz) (Ca0.widen md hk hz) (Cu0.widen md hk hz) hfl hca)⟩ (qem9 qac9) (λ _ _=>rfl)))))))),?_⟩
 walk_at "d"
 refine⟨_,rfl,_,rfl,_,rfl,d,N,pr,Ns,rfl,hN,nl,nok,⋯,λ H0 s0=>?_⟩
 refine⟨_,rfl,_,rfl,N,goal,rfl,g0,g1,?_⟩
 refine⟨_,rfl,_,rfl,d,N,pr,Ns,rfl,hN.same s0,nl,hd,nok,λ pF F H1 s01 hF fo=>?_⟩
 have s1:=s0.trans s01
 have t1:=hTB.same _ _ hT s1
 refine⟨_,_,rfl,rfl,_,rfl,_,rfl,_,rfl,h1 _ t1,λ fl c' H2 sm tb hc'=>?_⟩
 have u2:=SameU.tab sm (h1 _ t1) tb
 have u02:=(SameU.of s1).trans u2
 refine⟨N,goal,F,m,rfl,hc',hF.u u2,h2 _ _ t1 sm tb,N1,N2,hd,fo.ok nok lm,by rw[fo.1];exact few,λ l Ts H3 u3 t3 L3 l3 ok3=>?_⟩
 have Lq:=L3.old u02
 obtain⟨xs,x1,xl⟩:=Lq.lst
 have hC:Ts[N-1]?=some (Ts[N-1]'⋯):=zaa ⋯
 generalize Ts[N-1]'⋯=C at hC
 obtain⟨qa,qa1,qa2,qa3,qa4,qa5⟩:=Lq.at x1 hC
 have a1:atI xs (-1)=some (.ref qa):=by
  have:=qik9 (xs:=xs) (k:=1) (zaj _) ⋯
  rw[xl,l3] at this
  exact this.trans qa1
 exact⟨_,rfl,l,_,_,_,rfl,rfl,SqL.of x1,a1,q qa F Ts C H3 (u02.trans u3) t3 fo l3 ok3 hC qa2 qa3 qa4⟩
section
variable {F':List RdT}
theorem Jo.snoc:∀{k:Nat}{p t q y z:Int}{m:RdT},Jo d F k p t q y->m∈F->m.1=q->Ma.bt d m.2.2.2 y=some z->Jo d F (k+1) p t m.2.1 z
 |0,p,t,q,y,z,m,⟨e1,e2⟩,hm,e,hz=>.inr ⟨m,hm,e.trans e1.symm,z,by rw[e2];exact hz,rfl,rfl⟩
 |k+1,p,t,q,y,z,m,h,hm,e,hz=>by
  rcases h with h|⟨x,hx,ex,u,hu,h⟩
  ·exact(h.snoc hm e hz).up
  ·exact .inr ⟨x,hx,ex,u,hu,h.snoc hm e hz⟩
theorem Jo.last:∀{k:Nat}{p t q y:Int},Jo d F (k+1) p t q y->Jo d F k p t q y\/∃m∈F,m.2.1=q/\∃z,Jo d F k p t m.1 z/\Ma.bt d m.2.2.2 z=some y
 |0,p,t,q,y,h=>by
  rcases h with h|⟨m,hm,e,z,hz,e1,e2⟩
  ·exact .inl h
  ·exact .inr ⟨m,hm,e1,t,⟨e.symm,rfl⟩,by rw[<- e2];exact hz⟩
 |k+1,p,t,q,y,h=>by
  rcases h with h|⟨m,hm,e,z,hz,h⟩
  ·exact .inl h
  ·rcases h.last with h|⟨x,hx,ex,u,hu,hy⟩
   ·exact .inl (.inr ⟨m,hm,e,z,hz,h⟩)
   ·exact .inr ⟨x,hx,ex,u,.inr ⟨m,hm,e,z,hz,hu⟩,hy⟩
theorem Jo.last_iff{k:Nat}{p y:Int}:Jo d F (k+1) p t q y↔(Jo d F k p t q y\/∃m∈F,m.2.1=q/\∃z,Jo d F k p t m.1 z/\Ma.bt d m.2.2.2 z=some y):=⟨Jo.last,λ h=>h.elim Jo.up λ⟨_,hm,e,_,hz,hy⟩=>e ▸ hz.snoc hm rfl hy⟩
theorem qkj9{A:Tb}{q t:Int}{S:Int->Int->Prop}:∀{F:List RdT}{o:Option Int}{S0:Int->Prop},CkF d F->Mn S0 o->(∀m∈F,Mn (S m.1) (Ma.bt d (cl A m.1) t))->Mn (λ y=>S0 y\/∃m∈F,m.2.1=q/\∃z,S m.1 z/\Ma.bt d m.2.2.2 z=some y) (waysL d F A q t o)
 | [],o,S0,_,h,_=>h.congr λ y=>⟨.inl,λ s=>s.elim id λ⟨m,hm,_⟩=>by cases hm⟩
 |m::F,o,S0,ck,h,hS=>by
  have hF:=λ x hx=>hS x (zam _ hx)
  have ckF:CkF d F:=λ x hx=>ck x (zam _ hx)
  have ckm:=ck m (zak ..)
  by_cases e:m.2.1=q
  ·have hb:Mn (λ y=>∃z,S m.1 z/\Ma.bt d m.2.2.2 z=some y) (Ma.obind (Ma.bt d (cl A m.1)) (Ma.bt d m.2.2.2) t):=by
    have hm:=hS m (zak ..)
    unfold Ma.obind
    cases e':Ma.bt d (cl A m.1) t with
    |none =>
     rw[e'] at hm
     exact Mn.none λ y ⟨z,hz,_⟩=>hm.2 rfl z hz
    |some z =>
     rw[e'] at hm
     obtain⟨s1,s2⟩:=hm.1 z rfl
     show Mn _ (Ma.bt d m.2.2.2 z)
     cases ey:Ma.bt d m.2.2.2 z with
     |none =>
      refine Mn.none λ y z9=>?_
      obtain⟨z',hz',hy⟩ := z9
      obtain⟨y',hy',_⟩:=bt_up ckm hy (s2 z' hz')
      rw[ey] at hy'
      cases hy'
     |some y =>
      refine Mn.one ⟨z,s1,ey⟩ λ y' z9=>?_
      obtain⟨z',hz',hy⟩ := z9
      obtain⟨y'',hy'',l⟩:=bt_up ckm hy (s2 z' hz')
      rw[ey] at hy''
      cases hy''
      exact l
   have:=qkj9 (q:=q) (F:=F) ckF (h.omin hb) hF
   have e2:waysL d (m::F) A q t o=waysL d F A q t (Ma.omin o (Ma.obind (Ma.bt d (cl A m.1)) (Ma.bt d m.2.2.2) t)):=by
    show waysL d F A q t (if m.2.1=q then _ else _)=_
    rw[if_pos e]
   rw[e2]
   refine this.congr λ y=>⟨λ s=>?_,λ s=>?_⟩
   ·rcases s with(s|s)|⟨x,hx,s⟩
    ·exact .inl s
    ·exact .inr ⟨m,zak ..,e,s⟩
    ·exact .inr ⟨x,zam _ hx,s⟩
   ·rcases s with s|⟨x,hx,s1,s2⟩
    ·exact .inl (.inl s)
    ·rcases zae.mp hx with rfl|hx
     ·exact .inl (.inr s2)
     ·exact .inr ⟨x,hx,s1,s2⟩
  ·have:=qkj9 (q:=q) (F:=F) ckF h hF
   have e2:waysL d (m::F) A q t o=waysL d F A q t o:=by
    show waysL d F A q t (if m.2.1=q then _ else _)=_
    rw[if_neg e]
   rw[e2]
   refine this.congr λ y=>⟨λ s=>?_,λ s=>?_⟩
   ·rcases s with s|⟨x,hx,s⟩
    ·exact .inl s
    ·exact .inr ⟨x,zam _ hx,s⟩
   ·rcases s with s|⟨x,hx,s1,s2⟩
    ·exact .inl s
    ·rcases zae.mp hx with rfl|hx
     ·exact absurd s1 e
     ·exact .inr ⟨x,hx,s1,s2⟩
end
theorem TsOk.mnL{d:Int}{n:Nat}{st:Int}{F:List RdT}{m:Nat}{Ts:List Tb}(hd:0<d)(fok:FOk d n m F)(ok:TsOk d n st F m stepL Ts)(t:Int):∀{k:Nat}{A:Tb},Ts[k]?=some A->∀q,0<=q->q<(n:Int)->Mn (Jo d F k st t q) (Ma.bt d (cl A q) t)
 |0,A,hA,q,q0,q1=>by
  rw[ok.first] at hA
  cases hA
  rw[cl_stay q0 q1]
  by_cases e:q=st
  ·rw[if_pos e,Ma.bt_still hd]
   exact Mn.one ⟨e.symm,rfl⟩ λ z s=>zgs s.2
  ·rw[if_neg e]
   exact Mn.none λ z s=>e s.1.symm
 |k+1,A,hA,q,q0,q1=>by
  have lt:=(zab.mp hA).1
  have hA':=zaa (show k<Ts.length by omega)
  rw[ok.grow k _ A hA' hA q q0 q1 t]
  exact(qkj9 (S:=λ p z=>Jo d F k st t p z) fok.ck (ok.mnL hd fok t hA' q q0 q1) λ x hx=>ok.mnL hd fok t hA' _ (fok x hx).1.1 (fok x hx).1.2).congr λ y=>Jo.last_iff.symm
inductive spRide70(vs:List V)(H:Hp)(Q:VK)(z3q:XK):Prop
 |mk (cell day:Int):vs=[.int cell,.int day]->1<=day->day<=1000000000000000->(∀(c:Int)(H':Hp),Same H H'->1<=c->c<=1000000000000000->Q (.int c) H')->spRide70 vs H Q z3q
inductive spRoads70(K:W.Frag)(vs:List V)(H:Hp)(Q:VK)(z3q:XK):Prop
 |mk (a:Addr) (ns:List Int) (day size goal most:Int):vs=[.ref a,.int day,.int size,.int goal,.int most]->SqL K H a (ns.map V.int)->ns.length<=63->1<=day->day<=1000000000000000->1<=size->0<=most->most<=6->(∀(l:Addr)(N:List RdT)(H':Hp),Same H H'->NA H' l N->RoadsIn day size N->N.length<=4->(∀m∈N,m.2.2.2.length<=most.toNat)->Q (.ref l) H')->spRoads70 K vs H Q z3q
theorem menu5(h0:0<=j)(h1:j<5):∃v:Int,atI [V.int 2,V.int 3,V.int 4,V.int 1,V.int 0] j=some (.int v)/\0<=v/\v<=4:=by
 rcases(by omega:j=0\/j=1\/j=2\/j=3\/j=4) with rfl|rfl|rfl|rfl|rfl
 all_goals exact⟨_,rfl,by decide,by decide⟩
theorem menu5b(h0:0<=j)(h1:j<5):∃v:Int,atI [V.int 1,V.int 1,V.int 2,V.int 1,V.int 0] j=some (.int v):=by
 rcases(by omega:j=0\/j=1\/j=2\/j=3\/j=4) with rfl|rfl|rfl|rfl|rfl
 all_goals exact⟨_,rfl⟩
theorem ok_ride70(F:Fun K "_law_ride" "_law_ride" qdd9 f fd)(B:Bl mg):FnOk P w K mg base CX0 (n+1) f fd ["cell","day"] spRide70:=by
 refine F.okQ qks9 (λ vs H Q E h=>?_) (λ cdv A outer s H vs Q E hr h=>?_)
 ·obtain⟨_,_,rfl,_⟩:=h
  rfl
 obtain⟨c,day,rfl,d1,d2,q⟩:=h
 refine⟨_,(qae9 (qao9 (qe_op qav9 qac9 (qe_op qba9 (qe_op qbb9 (qv 0) qac9) (qe_ix qaj9 (qbj9 (qa_c qac9 (qa_c qac9 (qa_c (qe_cb (qdw9 rfl) rfl B.min bt_min (qa_c (qe_op qlm9 qac9 (qv 1)) (qa_c (qe_op qfm9 qac9 qac9) qaa9))) (qa_c (qe_op qfm9 qac9 qac9) qaa9))))) (qe_op qba9 (qv 0) qac9) (λ _ _=>rfl)))))),?_⟩
 walk_at "d"
 refine⟨_,rfl,_,_,rfl,rfl,⟨by decide,by decide⟩,_,rfl,_,_,rfl,rfl,.inl ⟨by decide,by decide⟩,_,_,rfl,rfl,⟨by decide,by decide,by decide⟩,_,_,rfl,_,_,rfl,rfl,⟨by decide,by decide,by decide⟩,(by show 4<=sizeLine;decide),λ p hp=>?_⟩
 dsimp only
 have hm:1<=(if(10:Int) ^ (15:Int).toNat<2*day then(10:Int) ^ (15:Int).toNat else 2*day)/\(if(10:Int) ^ (15:Int).toNat<2*day then(10:Int) ^ (15:Int).toNat else 2*day)<=1000000000000000:=by
  rw[pow15]
  split<;>omega
 generalize (if(10:Int) ^ (15:Int).toNat<2*day then(10:Int) ^ (15:Int).toNat else 2*day)=x at *
 generalize hgH1:upd _ p _=H1
 revert H1
 refine qal9 hp λ H1 s1 e1=>?_
 obtain⟨v,hv,v0,v1⟩:∃v:Int,atI [V.int 3,V.int 8,V.int x,V.int ((10:Int) ^ (15:Int).toNat)] (c%4)=some (.int v)/\1<=v/\v<=1000000000000000:=by
  have e0:=zcg c (by decide:(4:Int)≠0)
  have e1:=zbw c (by decide:(0:Int)<4)
  rcases(by omega:c%4=0\/c%4=1\/c%4=2\/c%4=3) with e|e|e|e
  ·exact⟨3,by rw[e];rfl,by decide,by decide⟩
  ·exact⟨8,by rw[e];rfl,by decide,by decide⟩
  ·exact⟨x,by rw[e];rfl,hm.1,hm.2⟩
  ·exact⟨(10:Int) ^ (15:Int).toNat,by rw[e];rfl,by rw[pow15];decide,by rw[pow15];decide⟩
 have em:=qdj9 (c/4) (show 0<v by omega)
 exact⟨_,rfl,_,_,rfl,rfl,(by show(0:Int)<4;decide),p,_,_,.int v,rfl,rfl,SqL.of e1,hv,_,_,rfl,rfl,⋯,_,_,rfl,rfl,q _ H1 s1 ⋯ ⋯⟩
theorem qni9(F:Fun K "_law_roads" "_law_roads" qco9 f fd)(B:Bl mg)(Cc0:Callee P w K mg base n "_law_cell_at" ["script","k"] (spCell K))(Cl2:Callee P w K mg base n "_law_stay" ["cell","room"] spStay)(Cm2:Callee P w K mg base n "_law_ride" ["cell","day"] spRide70):FnOk P w K mg base CX0 (n+1) f fd ["script","day","size","goal","most"] (spRoads70 K):=by
 refine F.okQ sc__law_roads (λ vs H Q E h=>?_) (λ cdv A outer s H vs Q E hr h=>?_)
 ·obtain⟨_,_,_,_,_,_,rfl,_⟩:=h
  rfl
 obtain⟨a,ns,day,size,goal,most,rfl,hS,h63,d1,d2,z1,m0,m1,q⟩:=h
 refine⟨_,(qab9 (qai9 (i:=5) sc__law_roads.nd rfl (zai rfl) (qe_ix qaj9 (qbj9 (qa_c qac9 (qa_c qac9 (qa_c qac9 (qa_c qac9 (qa_c qac9 qaa9)))))) (qe_op qba9 (qe_op qbb9 (qe_fn Cc0 hr rfl (qa_c (qv 0) (qa_c qac9 qaa9))) qac9) qac9) (λ _ _=>rfl))) (qab9 (qjc9 (i:=6) ["k"] [none] sc__law_roads.nd rfl (zai rfl) (BlkOk.of rfl rfl (SubL.to subN) rfl) rfl (qdy9 rfl B.range (qa_c (qv 5) qaa9)) (λ _ _ _ _=>(qar9 (i:=0) (show(["k"]:List Str).Nodup by decide) rfl (zai rfl))) (λ _ _ _ _=>(qbj9 qaa9))) (qab9 (qeo9 PassesOwn.never rfl (qi_range3 rfl B.range (qa_c qac9 (qa_c (qe_cb (qdw9 rfl) rfl B.min bt_min (qa_c (qe_op qdf9 (qe_cb qap9 rfl B.len qcc9 (qa_c (qv 0) qaa9)) qac9) (qa_c (qe_op qav9 qac9 (qe_op qlm9 qac9 (qv 4))) qaa9))) (qa_c qac9 qaa9)))) (qar9 (i:=7) sc__law_roads.nd rfl (zai rfl)) (qae9 (qs_if (qam9 qgs9 (qv 5) qac9 (qau9 _)) (qab9 (qai9 (i:=8) sc__law_roads.nd rfl (zai rfl) (qe_op qba9 (qe_ix qaj9 (qv 0) (qv 7) (λ _ _=>rfl)) (qv 1))) (qab9 (qai9 (i:=9) sc__law_roads.nd rfl (zai rfl) (qe_op qav9 (qv 8) (qe_fn Cl2 hr rfl (qa_c (qe_ix qaj9 (qv 0) (qe_op qav9 (qv 7) qac9) (λ _ _=>rfl)) (qa_c (qe_op qdf9 (qv 1) (qv 8)) qaa9))))) (qab9 (qai9 (i:=10) sc__law_roads.nd rfl (zai rfl) (qe_op qav9 (qe_op qbb9 (qv 7) qac9) (qe_op qlm9 (qe_op qbb9 (qe_ix qaj9 (qv 0) (qe_op qav9 (qv 7) qac9) (λ _ _=>rfl)) qac9) (qe_op qbb9 (qe_op qba9 (qe_ix qaj9 (qv 0) (qe_op qav9 (qv 7) qac9) (λ _ _=>rfl)) qac9) qac9)))) (qae9 (qbi9 (qbv9 (qe_ix qaj9 (qv 6) (qe_op qba9 (qv 10) (qv 5)) (λ _ _=>rfl)) (qa_c (qbd9 (qa_c (qv 8) (qa_c (qv 9) (qa_c (qe_fn Cm2 hr rfl (qa_c (qe_ix qaj9 (qv 0) (qe_op qav9 (qv 7) qac9) (λ _ _=>rfl)) (qa_c (qv 1) qaa9))) qaa9)))) qaa9))))))) qat9))) (qab9 (qai9 (i:=11) sc__law_roads.nd rfl (zai rfl) (qbj9 qaa9)) (qab9 (qeo9 PassesOwn.never rfl (qdy9 rfl B.range (qa_c (qv 5) qaa9)) (qar9 (i:=7) sc__law_roads.nd rfl (zai rfl)) (qab9 (qai9 (i:=12) sc__law_roads.nd rfl (zai rfl) (qe_fn Cc0 hr rfl (qa_c (qv 0) (qa_c (qe_op qav9 qac9 (qv 7)) qaa9)))) (qab9 (qai9 (i:=13) sc__law_roads.nd rfl (zai rfl) (qe_op qba9 (qe_op qav9 (qe_op qav9 (qv 3) (qv 7)) qac9) (qv 2))) (qab9 (qai9 (i:=14) sc__law_roads.nd rfl (zai rfl) (qe_op qba9 (qe_op qav9 (qv 3) (qv 7)) (qv 2))) (qek9 (qs_if (qhb9 (QW.pt (qw_or (qam9 qop_ge (qv 7) (qe_op qdf9 (qv 2) qac9) (qau9 _)) (qer9 (qam9 qcf9 (qe_op qba9 (qv 12) qac9) qac9 (qau9 _)))))) (qab9 (qai9 (i:=13) sc__law_roads.nd rfl (zai rfl) (qe_op qba9 (qe_op qbb9 (qv 12) qac9) (qv 2))) (qae9 (qai9 (i:=14) sc__law_roads.nd rfl (zai rfl) (qe_op qba9 (qe_op qav9 (qv 13) (qe_ix qaj9 (qbj9 (qa_c qac9 (qa_c qac9 (qa_c qac9 (qa_c qac9 (qa_c qac9 qaa9)))))) (qe_op qba9 (qe_op qbb9 (qv 12) qac9) qac9) (λ _ _=>rfl))) (qv 2))))) qat9) (qae9 (qbi9 (qbv9 (qv 11) (qa_c (qbd9 (qa_c (qv 13) (qa_c (qv 14) (qa_c (qe_ix qaj9 (qv 6) (qv 7) (λ _ _=>rfl)) qaa9)))) qaa9))))))))) (qae9 (qao9 (qv 11)))))))),?_⟩
 walk_at "d"
 have hl:(ns.map V.int).length=ns.length:=zah _
 refine⟨(by show 5<=sizeLine;decide),λ p1 hp1=>?_⟩
 generalize hgH1:upd _ p1 _=H1
 revert H1
 refine qal9 hp1 λ H1 s1 e1=>?_
 refine⟨_,rfl,a,ns,1,rfl,s1.seq hS,by decide,λ c1=>?_⟩
 obtain⟨mv,hv,mv0,mv1⟩:=menu5 (j:=c1/3%5) (zcg _ (by decide)) (zbw _ (by decide))
 obtain⟨many,rfl⟩:∃k:Nat,mv=(k:Int):=⟨mv.toNat,⋯⟩
 refine⟨_,_,rfl,rfl,⟨by decide,by decide⟩,_,_,rfl,rfl,(by show(0:Int)<5;decide),p1,_,_,.int (many:Int),rfl,rfl,SqL.of e1,hv,?_⟩
 refine⟨_,rfl,(many:Int),rfl,⋯,⋯,?_⟩
 refine qhk9 (lo:=0) (n:=((many:Nat):Int).toNat) (λ D i H'=>Same H1 H'/\BA H' D (zbk i [])/\Yg H1 H' D) (λ D hD=>⟨qan9 hD _,BA.nil qaf9,Yg.of (rs:=[]) qaf9 (λ r hr=>by cases hr)⟩) ?_ ?_
 ·intro D i H' hD hi z9;obtain⟨sD,hB,hY⟩ := z9
  refine⟨λ k v e=>?_,?_⟩
  ·match k,e with
   |0,e=>cases e
   |k+1,e=>cases e
  refine⟨(by show 0<=sizeLine;decide),λ l fl=>?_⟩
  obtain⟨os,o1,o2,o3,o4,o5⟩:=id hB
  have hol:os.length=i:=by rw[o2];simp
  have nlD:l≠D:=λ z=>by rw[z,o1] at fl;cases fl
  have nlo:l∉os:=λ z=>by
   obtain⟨j,hj⟩:=zaw z
   have lj:=(zab.mp hj).1
   exact la_ne (enc':=enc3) (o5 j l _ hj (zaa ⋯)) fl rfl
  have s2:=qan9 fl (.lst [])
  refine⟨_,s2 _ _ o1,qbe9 (by simp;omega),qci9 hD (sD.trans s2),?_,Yg.of (rs:=os++[l]) (by rw[qaf9];simp) λ r hr=>?_⟩
  ·have:=(hB.u (SameU.of s2)).snoc (s2 _ _ o1) (LA.nil qaf9) nlD nlo
   rw[zfa]
   exact this
  ·rcases zau.mp hr with hr|hr
   ·exact hY os o1 r hr
   ·rw[zag] at hr
    subst hr
    exact sD.free fl
 intro pb H2 hpb z9;obtain⟨s2,hB,hY⟩ := z9
 rw[show((many:Nat):Int).toNat=many by omega] at hB
 have s02:=s1.trans s2
 obtain⟨os,o1,o2⟩:=hB.lst
 have o3:∀r∈os,H1 r=none:=hY os o1
 refine⟨_,rfl,a,_,rfl,.inl (s02.seq hS),_,_,rfl,rfl,_,rfl,_,_,rfl,rfl,.inl ⟨by decide,by decide⟩,_,_,rfl,rfl,_,_,rfl,?_⟩
 generalize hhi:(if 10+4*most<(((ns.map V.int).length:Nat):Int)-3 then 10+4*most else(((ns.map V.int).length:Nat):Int)-3)=hi
 have hh1:hi<=(ns.length:Int)-3:=by rw[<- hhi];split<;>omega
 have hh2:-10<=hi:=by rw[<- hhi];split<;>omega
 have hh3:hi<=10+4*most:=by rw[<- hhi];split<;>omega
 have hcn:∀i,i<cnt3 10 hi 4->10+(i:Int)*4<hi:=λ i hi'=>cnt3_lt (by decide) hi'
 have hcl:cnt3 10 hi 4<=most.toNat:=by
  rcases zch (cnt3 10 hi 4) with z|z
  ·omega
  ·have:=hcn (cnt3 10 hi 4-1) ⋯
   omega
 refine⟨10,hi,4,rfl,⟨⋯,⋯,⋯,⋯,by decide,by decide⟩,qpp9 (lo:=10) (st:=4) (n:=cnt3 10 hi 4)
  (λ i σ H'=>∃(Cs:List (List T3)) (v7 v8 v9 v10:Option V),σ=[some (.ref a),some (.int day),some (.int size),some (.int goal),some (.int most),some (.int many),some (.ref pb),v7,v8,v9,v10,none,none,none,none]/\Same H H'/\BA H' pb Cs/\H' pb=some (.lst (os.map V.ref))/\Cs.length=many/\∀C∈Cs,C.length<=i/\∀w∈C,0<=w.1/\w.1<=w.2.1/\w.2.1<day/\1<=w.2.2/\w.2.2<=1000000000000000)
  ⟨_,_,_,_,_,rfl,s02,hB,o1,by simp,λ C hC=>?_⟩ ?_ ?_⟩
 ·have:=(List.mem_replicate.mp hC).2
  subst this
  exact⟨zaj _,λ w hw=>by cases hw⟩
 ·intro i σ H3 hi' z9;obtain⟨Cs,v7,v8,v9,v10,rfl,s3,hB3,o13,lC,aC⟩ := z9
  have hk:=hcn i hi'
  have k0:0<=10+(i:Int)*4:=⋯
  generalize 10+(i:Int)*4=k at *
  refine⟨_,rfl,_,_,rfl,rfl,_,rfl,ite2 (λ c=>?_) (λ c=>⟨Cs,_,_,_,_,rfl,s3,hB3,o13,lC,λ C hC=>⟨by have:=(aC C hC).1;omega,(aC C hC).2⟩⟩)⟩
  have mp:(0:Int)<(many:Int):=of_decide_eq_true c
  have hS3:=s3.seq hS
  have at_:∀j:Int,0<=j->j<(ns.length:Int)->∃v:Int,atI (ns.map V.int) j=some (.int v):=λ j j0 j1=>at_int j0 j1
  obtain⟨x1,hx1⟩:=at_ k k0 ⋯
  obtain⟨x2,hx2⟩:=at_ (k+1) ⋯ ⋯
  obtain⟨x3,hx3⟩:=at_ (k+2) ⋯ ⋯
  obtain⟨x4,hx4⟩:=at_ (k+3) ⋯ ⋯
  have em:=qdj9 x1 (show 0<day by omega)
  refine⟨_,rfl,_,rfl,a,_,_,_,rfl,rfl,hS3,hx1,_,rfl,_,_,rfl,rfl,(by show 0<day;omega),?_⟩
  dsimp only
  generalize x1%day=ax at *
  refine⟨_,rfl,_,rfl,_,rfl,_,_,rfl,rfl,a,_,_,_,rfl,rfl,hS3,hx2,_,rfl,_,rfl,_,_,rfl,rfl,x2,day-ax,rfl,⋯,λ sy y0 y1=>⟨_,_,rfl,rfl,?_⟩⟩
  refine⟨_,rfl,_,_,rfl,rfl,⟨by decide,by decide⟩,_,rfl,_,rfl,_,_,rfl,rfl,a,_,_,_,rfl,rfl,hS3,hx4,_,_,rfl,rfl,⟨by decide,by decide⟩,_,rfl,_,rfl,_,_,rfl,rfl,a,_,_,_,rfl,rfl,hS3,hx4,_,_,rfl,rfl,(by show(0:Int)<3;decide),_,_,rfl,rfl,⟨by decide,by decide⟩,_,_,rfl,rfl,?_,_,_,rfl,rfl,?_⟩
  ·right
   have:=qdj9 x4 (show(0:Int)<3 by decide)
   refine⟨?_,?_⟩
   ·show -(2 ^ 64)<x4%3/2
    omega
   ·show x4%3/2<2 ^ 64
    omega
  dsimp only
  generalize k/4+x4/3*(x4%3/2)=at'
  have ab:=qdj9 at' mp
  obtain⟨j,hj⟩:=zeh ab.1
  have lo:os.length=many:=by
   obtain⟨_,_,e,_⟩:=hB3.self o13
   omega
  have hr:=zaa (show j<os.length by omega)
  have hC:=zaa (show j<Cs.length by omega)
  have mC:=zac hC
  have mr:=zac hr
  generalize os[j]=rb at hr mr
  generalize Cs[j]=C at hC mC
  have laC:LA enc3 H3 rb C:=by
   obtain⟨rs',h1,h2,h3,h4,h5⟩:=id hB3
   rw[o13] at h1
   have e:=qfl9 (Option.some.inj h1)
   subst e
   exact h5 j rb C hr hC
  obtain⟨us,u1,u2,u3⟩:=laC.lst
  have av:atI (os.map V.ref) (at'%(many:Int))=some (.ref rb):=by
   rw[hj]
   exact qgh9 (by rw[zaf,hr];rfl)
  refine⟨_,rfl,_,rfl,_,rfl,_,_,rfl,rfl,mp,pb,_,_,_,rfl,rfl,SqL.of o13,av,.inl ⟨rfl,_,SqL.of u1⟩,_,rfl,_,rfl,_,rfl,_,rfl,_,_,rfl,rfl,a,_,_,_,rfl,rfl,hS3,hx3,_,rfl,x3,day,rfl,d1,d2,λ c' H4 s4 c0 c1'=>?_⟩
  refine⟨(by show 3<=sizeLine;decide),λ rr hrr=>?_⟩
  generalize hgH5:upd _ rr _=H5
  revert H5
  refine qal9 hrr λ H5 s5 e5=>?_
  have s45:=s4.trans s5
  have fresh:H rb=none:=s1.free (o3 rb mr)
  have aCC:=aC C mC
  have npb:pb≠rb:=λ z=>(hB3.self o13).1 (z ▸ mr)
  refine⟨rb,us,.ref rr,rfl,rfl,s45 _ _ u1,qbe9 ⋯,Cs.set j (C++[(ax,ax+sy,c')]),_,_,_,_,rfl,qci9 fresh (s3.trans s45),(hB3.u (SameU.of s45)).pushAt (s45 _ _ o13) hr hC (s45 _ _ u1) e5,?_,by simp[lC],λ C' hC'=>?_⟩
  ·rw[qaq9 npb]
   exact s45 _ _ o13
  ·rcases zbt hC' with z|z
   ·exact⟨by have:=(aC C' z).1;omega,(aC C' z).2⟩
   ·subst z
    refine⟨by simp;omega,λ w hw=>?_⟩
    rcases zau.mp hw with hw|hw
    ·exact aCC.2 w hw
    ·rw[zag] at hw
     subst hw
     exact⟨em.1,by show ax<=ax+sy;omega,by show ax+sy<day;omega,c0,c1'⟩
 intro σ H3 z9;obtain⟨Cs,v7,v8,v9,v10,rfl,s3,hB3,o13,lC,aC⟩ := z9
 refine⟨(by show 0<=sizeLine;decide),λ pr hpr=>?_⟩
 have hpr':=hpr
 generalize hgH4:upd _ pr _=H4
 revert H4
 refine qal9 hpr λ H4 s4 e4=>?_
 have o14:=s4 _ _ o13
 have hB4:=hB3.u (SameU.of s4)
 obtain⟨ns1,ns2,ns3,_⟩:=hB4.self o14
 have nop:pr≠pb/\pr∉os:=by
  refine⟨λ z=>(by rw[z,o13] at hpr';cases hpr'),λ z=>?_⟩
  exact(hB3.self o13).2.2.2 pr z hpr'
 refine⟨_,rfl,(many:Int),rfl,⋯,⋯,qfg9 (lo:=0) (n:=((many:Nat):Int).toNat)
  (λ i σ H'=>∃(N:List RdT)(v7 v12 v13 v14:Option V),σ=[some (.ref a),some (.int day),some (.int size),some (.int goal),some (.int most),some (.int many),some (.ref pb),v7,v8,v9,v10,some (.ref pr),v12,v13,v14]/\Same H H'/\BA H' pb Cs/\H' pb=some (.lst (os.map V.ref))/\NA H' pr N/\N.length=i/\RoadsIn day size N/\(N.map λ m=>m.2.2.1)=os.take i/\∀m∈N,m.2.2.2∈Cs)
  ⟨[],_,_,_,_,rfl,s3.trans s4,hB4,o14,NA.nil e4,rfl,(λ m hm=>by cases hm),rfl,λ m hm=>by cases hm⟩ ?_ ?_⟩
 ·intro i σ H5 hi z9;obtain⟨N,v7',v12,v13,v14,rfl,s5,hB5,o15,hN,lN,inN,mN,bN⟩ := z9
  rw[show(0:Int)+((i:Nat):Int)=(i:Int) by omega]
  have i1:i<os.length:=⋯
  have i2:i<Cs.length:=⋯
  have sp:0<size:=⋯
  refine⟨_,rfl,_,rfl,_,_,rfl,rfl,a,ns,6+(i:Int),rfl,s5.seq hS,⋯,λ cell=>?_⟩
  refine⟨_,rfl,_,rfl,_,_,rfl,rfl,_,_,rfl,rfl,_,rfl,_,_,rfl,rfl,sp,?_⟩
  refine⟨_,rfl,_,rfl,_,_,rfl,rfl,_,rfl,_,_,rfl,rfl,sp,?_⟩
  refine⟨λ σ' H'=>∃here there:Int,σ'=[some (.ref a),some (.int day),some (.int size),some (.int goal),some (.int most),some (.int many),some (.ref pb),some (.int (i:Int)),v8,v9,v10,some (.ref pr),some (.int cell),some (.int here),some (.int there)]/\Same H5 H'/\(0<=here/\here<size)/\(0<=there/\there<size),?_,?_⟩
  ·refine⟨λ b H'=>H'=H5,?_,?_⟩
   ·refine⟨_,rfl,_,rfl,_,_,rfl,rfl,_,_,rfl,rfl,_,rfl,ite2 (λ c=>rfl) (λ c=>?_)⟩
    exact⟨_,rfl,_,_,rfl,rfl,(by show(0:Int)<4;decide),rfl,_,rfl,rfl⟩
   rintro b H6 rfl
   refine ite2 (λ c=>?_) (λ c=>⟨_,_,rfl,Same.refl _,qdj9 _ sp,qdj9 _ sp⟩)
   refine⟨_,rfl,_,_,rfl,rfl,⟨by decide,by decide⟩,_,rfl,_,_,rfl,rfl,sp,?_⟩
   refine⟨_,rfl,(by show 5<=sizeLine;decide),λ p6 hp6=>?_⟩
   generalize hgH7:upd _ p6 _=H7
   revert H7
   refine qal9 hp6 λ H7 s7 e7=>?_
   obtain⟨v,hv⟩:=menu5b (j:=cell/12%5) (zcg _ (by decide)) (zbw _ (by decide))
   exact⟨_,rfl,_,_,rfl,rfl,⟨by decide,by decide⟩,_,_,rfl,rfl,(by show(0:Int)<5;decide),p6,_,_,.int v,rfl,rfl,SqL.of e7,hv,_,_,rfl,rfl,_,rfl,_,_,rfl,rfl,sp,_,_,rfl,s7,qdj9 _ sp,qdj9 _ sp⟩
  intro σ' H6 z9;obtain⟨here,there,rfl,s6,b1,b2⟩ := z9
  have hN6:=hN.same s6
  obtain⟨vs,w1,w2,_⟩:=hN6.la.lst
  rw[zah] at w2
  have hr:=zaa i1
  have hC:=zaa i2
  have mr:=zac hr
  have mC:=zac hC
  have ndx:os[i]∉os.take i:=λ z=>by
   obtain⟨j,hj⟩:=zaw z
   have lj:=(zab.mp hj).1
   rw[zbf] at lj
   rw[zdg ⋯] at hj
   have:=(zfw ⋯ ns2).mp (hj.trans hr.symm)
   omega
  generalize os[i]=rb at hr mr ndx
  generalize Cs[i]=C at hC mC
  have B6:=hB5.u (SameU.of s6)
  have laC:LA enc3 H6 rb C:=by
   obtain⟨rs',h1,h2,h3,h4,h5⟩:=id B6
   rw[s6 _ _ o15] at h1
   have e:=qfl9 (Option.some.inj h1)
   subst e
   exact h5 i rb C hr hC
  have av:atI (os.map V.ref) (i:Int)=some (.ref rb):=qgh9 (by rw[zaf,hr];rfl)
  refine⟨_,rfl,.inl ⟨rfl,_,SqL.of w1⟩,_,rfl,_,rfl,_,rfl,_,rfl,pb,_,_,_,rfl,rfl,SqL.of (s6 _ _ o15),av,(by show 3<=sizeLine;decide),λ rr hrr=>?_⟩
  generalize hgH7:upd _ rr _=H7
  revert H7
  refine qal9 hrr λ H7 s7 e7=>?_
  have fb:rb≠pr/\rb∉N.map λ m=>m.2.2.1:=⟨λ z=>nop.2 (z ▸ mr),by rw[mN];exact ndx⟩
  have aC':=aC C mC
  refine⟨pr,vs,.ref rr,rfl,rfl,s7 _ _ w1,qbe9 ⋯,N++[(here,there,rb,C)],_,_,_,_,rfl,qci9 (s3.free hpr') ((s5.trans s6).trans s7),?_,?_,(hN6.same s7).add fb (s7 _ _ w1) (laC.same s7) e7,by simp[lN],λ m hm=>?_,?_,λ m hm=>?_⟩
  ·exact(B6.u (SameU.of s7)).off (s7 _ _ (s6 _ _ o15)) (s7 _ _ w1) nop.1.symm nop.2
  ·rw[qaq9 nop.1.symm]
   exact s7 _ _ (s6 _ _ o15)
  ·rcases zau.mp hm with hm|hm
   ·exact inN m hm
   ·rw[zag] at hm
    subst hm
    exact⟨b1,b2,by show C.length<=16;omega,aC'.2⟩
  ·rw[zbs,mN,qdi9 hr]
   rfl
  ·rcases zau.mp hm with hm|hm
   ·exact bN m hm
   ·rw[zag] at hm
    subst hm
    exact mC
 intro σ H5 z9;obtain⟨N,v7',v12,v13,v14,rfl,s5,hB5,o15,hN,lN,inN,mN,bN⟩ := z9
 exact⟨_,rfl,q pr N H5 s5 hN inN ⋯ λ m hm=>zbe (aC _ (bN m hm)).1 hcl⟩
theorem LA.get{α:Type}{enc:α->List V}{xs:List α}{x:α}(h:LA enc H p xs)(g:xs[i]?=some x):∃(ws:List V)(r:Addr),H p=some (.lst ws)/\ws.length=xs.length/\atI ws (i:Int)=some (.ref r)/\H r=some (.tup (enc x)):=by
 obtain⟨ws,hw1,hw2,hw3⟩:=h.lst
 have hi:=(zab.mp g).1
 obtain⟨r,x',y,ex,er⟩:=hw3 i _ (zaa ⋯)
 rw[g] at ex
 cases ex
 exact⟨ws,r,hw1,hw2,by rw[<- y];exact qgh9 (zaa ⋯),er⟩
theorem NA.get{H:Hp}{p:Addr}{N:List RdT}{i:Nat}{m:RdT}(h:NA H p N)(g:N[i]?=some m):∃(ws:List V)(r:Addr),H p=some (.lst ws)/\ws.length=N.length/\atI ws (i:Int)=some (.ref r)/\H r=some (.tup [.int m.1,.int m.2.1,.ref m.2.2.1])/\LA enc3 H m.2.2.1 m.2.2.2:=by
 obtain⟨ws,r,a,b,c,e⟩:=h.la.get (i:=i) (x:=keyN m) (by rw[zaf,g];rfl)
 exact⟨ws,r,a,by rw[b,zah],c,e,(h.bd m (zac g)).1⟩
theorem NA.setB{j:Nat}{us:List V}(h:NA H p N)(hj:N[j]?=some m)(hu:H m.2.2.1=some (.lst us))(hR:LA enc3 (upd H m.2.2.1 (.lst ys)) m.2.2.1 R):NA (upd H m.2.2.1 (.lst ys)) p (N.set j (m.1,m.2.1,m.2.2.1,R)):=by
 have hm:=zac hj
 have lj:=(zab.mp hj).1
 have np:=(h.bd m hm).2
 have ek:(N.set j (m.1,m.2.1,m.2.2.1,R)).map keyN=N.map keyN:=by
  refine zce λ i=>?_
  rw[zaf,zaf,zbd]
  by_cases e:j=i
  ·subst e
   rw[if_pos rfl,if_pos lj,hj]
   rfl
  ·rw[if_neg e]
 have eb:(N.set j (m.1,m.2.1,m.2.2.1,R)).map (λ m=>m.2.2.1)=N.map λ m=>m.2.2.1:=by
  refine zce λ i=>?_
  rw[zaf,zaf,zbd]
  by_cases e:j=i
  ·subst e
   rw[if_pos rfl,if_pos lj,hj]
   rfl
  ·rw[if_neg e]
 refine⟨by rw[ek];exact qdb9 h.la hu (Ne.symm np),λ x hx=>?_,by rw[eb];exact h.nd⟩
 obtain⟨i,hi⟩:=zaw hx
 rw[zbd] at hi
 by_cases e:j=i
 ·subst e
  rw[if_pos rfl,if_pos lj] at hi
  cases hi
  exact⟨hR,np⟩
 ·rw[if_neg e] at hi
  have hx':=zac hi
  refine⟨qdb9 (h.bd x hx').1 hu λ z=>e ?_,(h.bd x hx').2⟩
  have h1:(N.map λ m=>m.2.2.1)[i]?=some x.2.2.1:=by rw[zaf,hi];rfl
  have h2:(N.map λ m=>m.2.2.1)[j]?=some m.2.2.1:=by rw[zaf,hj];rfl
  exact(zfw (by simpa using lj) h.nd).mp (h2.trans (by rw[h1,z]))
inductive spCopyF(vs:List V)(H:Hp)(Q:VK)(z3q:XK):Prop
 |mk (p:Addr) (N:List RdT):vs=[.ref p]->NA H p N->N.length<=100->(∀(l:Addr)(M:List RdT)(H':Hp),Same H H'->NA H' l M->M.map strip=N.map strip->NFr H M->Q (.ref l) H')->spCopyF vs H Q z3q
theorem qlw9(F:Fun K "copied" "copied" qfc9 f fd)(B:Bl mg):FnOk P w K mg base CX0 (n+1) f fd ["roads"] spCopyF:=by
 refine F.okQ sc_copied (λ vs H Q E h=>?_) (λ cdv A outer s H vs Q E hr h=>?_)
 ·obtain⟨_,_,rfl,_⟩:=h
  rfl
 obtain⟨pr,N,rfl,hN,hl,q⟩:=h
 refine⟨_,(qae9 (qao9 (qej9 ["start","end","board"] [none,none,none] (BlkOk.of rfl rfl (SubL.to subN) rfl) rfl (qcv9 (qv 0)) (λ _ _ _ _=>(qpl9 (n:=3) K rfl rfl (qaw9 (qar9 (i:=0) (show(["start","end","board"]:List Str).Nodup by decide) rfl (zai rfl)) (qaw9 (qar9 (i:=1) (show(["start","end","board"]:List Str).Nodup by decide) rfl (zai rfl)) (qaw9 (qar9 (i:=2) (show(["start","end","board"]:List Str).Nodup by decide) rfl (zai rfl)) qed9))))) (λ _ _ _ _=>(qbd9 (qa_c (qv 0) (qa_c (qv 1) (qa_c (qe_ct (qhx9 K rfl) rfl B.list_ qfy9 (qa_c (qv 2) qaa9)) qaa9)))))))),?_⟩
 walk_at "d"
 obtain⟨ws,hw1,hw2,hw3⟩:=hN.la.lst
 rw[zah] at hw2
 refine⟨_,rfl,pr,rfl,⟨_,SqL.of hw1⟩,?_⟩
 refine qbz9 (K:=K) (a:=pr) (xs:=ws) (λ D i H'=>Same H H'/\∃M,NA H' D M/\M.map strip=(N.take i).map strip/\NFr H M) (λ D hD=>⟨qan9 hD _,[],NA.nil qaf9,rfl,λ m hm=>by cases hm⟩) (λ D i H' _ _ h=>SqL.of (h.1 _ _ hw1)) ?_ ?_
 ·intro D i y H' hD hi z9;obtain⟨sD,M,hM,eM,fM⟩ := z9
  obtain⟨r,x,rfl,ex,er⟩:=hw3 i y hi
  have hi2:i<N.length:=by
   have:=(zab.mp hi).1
   omega
  have em:=zaa hi2
  rw[zaf,em] at ex
  cases ex
  have hb:=(hN.bd _ (zby hi2)).1
  generalize hm:N[i]=m at *
  refine⟨r,_,rfl,SqT.of (sD _ _ er),rfl,_,_,rfl,_,_,rfl,_,_,rfl,rfl,λ k v e=>?_,?_⟩
  ·match k,e with
   |0,e=>cases e
   |1,e=>cases e
   |2,e=>cases e
   |k+3,e=>cases e
  obtain⟨bs,hb1,hb2,hb3⟩:=(hb.same sD).lst
  refine⟨_,rfl,_,rfl,_,rfl,m.2.2.1,_,rfl,.inl (SqL.of hb1),λ p1 hp1=>?_⟩
  have fb:=hM.fresh hp1
  have f0:=sD.free hp1
  generalize hgH1:upd _ p1 _=H1
  revert H1
  refine qal9 hp1 λ H1 s1 e1=>?_
  have hc:=(hb.same sD).copy s1 hb1 e1
  refine⟨(by show 3<=sizeLine;decide),λ rr hrr=>?_⟩
  generalize hgH2:upd _ rr _=H2
  revert H2
  refine qal9 hrr λ H2 s2 e2=>?_
  obtain⟨vs,hv1,hv2,_⟩:=((hM.same s1).same s2).la.lst
  have ml:M.length=i:=by
   have:=congrArg zex eM
   rw[zah,zah,zbf] at this
   omega
  rw[zah] at hv2
  refine⟨_,hv1,qbe9 ⋯,qci9 hD ((sD.trans s1).trans s2),M++[(m.1,m.2.1,p1,m.2.2.2)],((hM.same s1).same s2).add fb hv1 (hc.same s2) e2,?_,fM.snoc f0⟩
  rw[zbs,eM,qei9 strip em]
  rfl
 ·intro D H' hD z9;obtain⟨sD,M,hM,eM,fM⟩ := z9
  rw[hw2,zbq] at eM
  exact q D M H' sD hM eM fM
abbrev S3:=Int×Int×List T3
variable {S:List S3}
def unS(x:S3):RdT:=(x.1,x.2.1,0,x.2.2)
def TabV(d:Int)(n:Nat)(goal:Int)(S:List S3)(C:Tb):Prop:=C.length=n/\∀p:Int,0<=p->p<(n:Int)->Ma.CK d (cl C p)/\∀t,Mn (λ y=>∃k,Jo d (S.map unS) k p t goal y) (Ma.bt d (cl C p) t)/\Mn (Jo d (S.map unS) (n-1) p t goal) (Ma.bt d (cl C p) t)
theorem qlj9{C:Tb}(h:i<C.length):C[i]?=some (cl C (i:Int)):=by
 rw[zaa h]
 simp[cl,zas,zaa h]
theorem TabV.uniq{d:Int}{n:Nat}{goal:Int}{S:List S3}{C C':Tb}(h:TabV d n goal S C)(h':TabV d n goal S C'):C=C':=by
 refine zce λ i=>?_
 rcases zca i n with c|c
 ·rw[qlj9 (by rw[h.1];exact c),qlj9 (by rw[h'.1];exact c)]
  congr 1
  have a:=h.2 i ⋯ ⋯
  have b:=h'.2 i ⋯ ⋯
  exact a.1.uniq b.1 λ t=>(a.2 t).1.uniq (b.2 t).1
 ·rw[zbo (by rw[h.1];exact c),zbo (by rw[h'.1];exact c)]
theorem TabV.of{d:Int}{n:Nat}{goal:Int}{N F:List RdT}{m:Nat}{Ts:List Tb}{C:Tb}(hd:0<d)(fok:FOk d n m F)(ok:TsOk d n goal F m stepT Ts)(hC:Ts[n-1]?=some C)(fo:Fords d N F):TabV d n goal (N.map strip) C:=by
 obtain⟨lC,tok⟩:=ok.each _ C hC
 refine⟨lC,λ p p0 p1=>⟨(tok _ (qjb9 p0 (by rw[lC];exact p1))).1,λ t=>?_⟩⟩
 have h1:∀f∈F,∃m'∈(N.map strip).map unS,m'.1=f.1/\m'.2.1=f.2.1/\∀t,Ma.bt d m'.2.2.2 t=Ma.bt d f.2.2.2 t:=λ f hf=>by
  obtain⟨x,hx,e1,e2,e3⟩:=fo.of hf
  exact⟨unS (strip x),zbi.mpr ⟨_,zbi.mpr ⟨x,hx,rfl⟩,rfl⟩,e1,e2,λ t=>(e3 t).symm⟩
 have h2:∀f∈(N.map strip).map unS,∃m'∈F,m'.1=f.1/\m'.2.1=f.2.1/\∀t,Ma.bt d m'.2.2.2 t=Ma.bt d f.2.2.2 t:=λ f hf=>by
  obtain⟨s,hs,rfl⟩:=zbi.mp hf
  obtain⟨x,hx,rfl⟩:=zbi.mp hs
  obtain⟨f',hf',a,b,c⟩:=fo.to hx
  exact⟨f',hf',a,b,c⟩
 exact⟨(ok.all hd fok hC p p0 p1 t).congr λ y=>⟨λ⟨k,j⟩=>⟨k,j.to h1⟩,λ⟨k,j⟩=>⟨k,j.to h2⟩⟩,(ok.mn hd fok hC p p0 p1 t).congr λ y=>⟨λ j=>j.to h1,λ j=>j.to h2⟩⟩
open Classical in
def ask(d:Int)(n:Nat)(goal:Int)(S0 S:List S3):Bool:=decide (∃C,TabV d n goal S0 C/\TabV d n goal S C)
open Classical in
theorem qjp9{S0:List S3}{C:Tb}(h0:TabV d n goal S0 C0)(h:TabV d n goal S C):ask d n goal S0 S=true↔C=C0:=by
 unfold ask
 rw[decide_eq_true_iff]
 exact⟨λ⟨C',a,b⟩=>(h.uniq b).trans (a.uniq h0),λ e=>⟨C,e ▸ h0,h⟩⟩
def wb(S:List S3)(Bs:List (List T3)):List S3:=S.zipWith (λ x B=>(x.1,x.2.1,B)) Bs
def bds(S:List S3):List (List T3):=S.map λ x=>x.2.2
def gb(ask:List (List T3)->Bool)(k:Nat)(Bs:List (List T3)):List T3->List T3->List (List T3)
 |done,[]=>Bs.set k done
 |done,w::rest=>if ask (Bs.set k (done++rest))=true then gb ask k Bs done rest else gb ask k Bs (done++[w]) rest
def qcl9(ask:List (List T3)->Bool):Nat->List (List T3)->List (List T3)
 |0,Bs=>Bs
 |k+1,Bs=>gb ask k (qcl9 ask k Bs) [] ((qcl9 ask k Bs).getD k [])
def thinS(d:Int)(n:Nat)(goal:Int)(S:List S3):List S3:=wb S (qcl9 (λ Bs=>ask d n goal S (wb S Bs)) S.length (bds S))
theorem gb_len{ask:List (List T3)->Bool}{k:Nat}{Bs:List (List T3)}:∀{done rest:List T3},(gb ask k Bs done rest).length=Bs.length
 |done,[]=>by simp[gb]
 |done,w::rest=>by
  unfold gb
  split
  ·exact gb_len
  ·exact gb_len
theorem qfo9{ask:List (List T3)->Bool}{Bs:List (List T3)}:∀k,(qcl9 ask k Bs).length=Bs.length
 |0=>rfl
 |k+1=>by
  unfold qcl9
  rw[gb_len,qfo9 k]
theorem qov9(S:List S3):wb S (bds S)=S:=by
 induction S with
 |nil=>rfl
 |cons x S ih =>
  show(x.1,x.2.1,x.2.2)::wb S (bds S)=x::S
  rw[ih]
theorem wb_at{y:S3}(h:(wb S Bs)[i]?=some y):∃x B,S[i]?=some x/\Bs[i]?=some B/\y=(x.1,x.2.1,B):=by
 unfold wb at h
 rw[zbp] at h
 cases e1:S[i]? with
 |none=>rw[e1] at h;cases h
 |some x =>
  cases e2:Bs[i]? with
  |none=>rw[e1,e2] at h;cases h
  |some B =>
   rw[e1,e2] at h
   exact⟨x,B,rfl,rfl,(Option.some.inj h).symm⟩
theorem qmb9{x:S3}(hx:S[i]?=some x)(hi:i<Bs.length):wb S (Bs.set i R)=(wb S Bs).set i (x.1,x.2.1,R):=by
 refine zce λ j=>?_
 have li:=(zab.mp hx).1
 rw[zbd]
 unfold wb
 rw[zbp,zbp,zbd]
 by_cases e:i=j
 ·subst e
  rw[if_pos rfl,if_pos rfl,if_pos hi,if_pos (by rw[zcs];omega),hx]
 ·rw[if_neg e,if_neg e]
def SubB(B0 Bs:List (List T3)):Prop:=Bs.length=B0.length/\∀(i:Nat) B,Bs[i]?=some B->∃C,B0[i]?=some C/\B.Sublist C
theorem SubB.set{B0 Bs:List (List T3)}{k:Nat}{R R':List T3}(h:SubB B0 (Bs.set k R))(hk:k<Bs.length)(s:R'.Sublist R):SubB B0 (Bs.set k R'):=by
 refine⟨by rw[zdp,<- h.1,zdp],λ i B e=>?_⟩
 rw[zbd] at e
 by_cases z:k=i
 ·subst z
  rw[if_pos rfl,if_pos hk] at e
  cases e
  obtain⟨C,hC,hs⟩:=h.2 k R (by rw[zbd,if_pos rfl,if_pos hk])
  exact⟨C,hC,s.trans hs⟩
 ·rw[if_neg z] at e
  exact h.2 i B (by rw[zbd,if_neg z];exact e)
theorem qhs9{k:Nat}(hk:k<Bs.length):Bs.set k (Bs.getD k [])=Bs:=by
 refine zce λ i=>?_
 rw[zbd]
 by_cases z:k=i
 ·subst z
  rw[if_pos rfl,if_pos hk,zas,zaa hk]
  rfl
 ·rw[if_neg z]
theorem qlh9{b:Nat}(nok:NetOk d n N)(lb:∀m∈N,m.2.2.2.length<=b)(e:M.map strip=wb (N.map strip) Bs)(s:SubB (bds (N.map strip)) Bs):NetOk d n M/\(∀m∈M,m.2.2.2.length<=b)/\M.length=N.length:=by
 have key:∀m∈M,∃x∈N,m.1=x.1/\m.2.1=x.2.1/\m.2.2.2.Sublist x.2.2.2:=λ m hm=>by
  obtain⟨i,hi⟩:=zaw hm
  have h1:(wb (N.map strip) Bs)[i]?=some (strip m):=by rw[<- e,zaf,hi];rfl
  obtain⟨x,B,hx,hB,ey⟩:=wb_at h1
  rw[zaf] at hx
  cases ex:N[i]? with
  |none=>rw[ex] at hx;cases hx
  |some x0 =>
   rw[ex] at hx
   cases hx
   obtain⟨C,hC,hs⟩:=s.2 i B hB
   have:C=x0.2.2.2:=by
    unfold bds at hC
    rw[zaf,zaf,ex] at hC
    exact(Option.some.inj hC).symm
   subst this
   have e1:m.1=x0.1:=congrArg (λ y:S3=>y.1) ey
   have e2:m.2.1=x0.2.1:=congrArg (λ y:S3=>y.2.1) ey
   have e3:m.2.2.2=B:=congrArg (λ y:S3=>y.2.2) ey
   exact⟨x0,zac ex,e1,e2,by rw[e3];exact hs⟩
 refine⟨⟨λ m hm=>?_⟩,λ m hm=>?_,?_⟩
 ·obtain⟨x,hx,e1,e2,hs⟩:=key m hm
  obtain⟨a,b,c,w⟩:=nok.all x hx
  exact⟨by rw[e1];exact a,by rw[e2];exact b,zbe hs.length_le c,λ v hv=>w v (hs.subset hv)⟩
 ·obtain⟨x,hx,_,_,hs⟩:=key m hm
  exact zbe hs.length_le (lb x hx)
 ·have h1:=congrArg zex e
  have h2:=s.1
  simp[wb,bds] at h1 h2
  omega
inductive spWithout(vs:List V)(H:Hp)(Q:VK)(z3q:XK):Prop
 |mk (pr:Addr) (N:List RdT) (k w:Nat) (m:RdT):vs=[.ref pr,.int k,.int w]->NA H pr N->N.length<=100->N[k]?=some m->w<m.2.2.2.length->m.2.2.2.length<=1000->(∀(l:Addr)(M:List RdT)(H':Hp),Same H H'->NA H' l M->M.map strip=(N.map strip).set k (m.1,m.2.1,m.2.2.2.eraseIdx w)->NFr H M->Q (.ref l) H')->spWithout vs H Q z3q
inductive spThin(T:Hp->Prop)(vs:List V)(H:Hp)(Q:VK)(z3q:XK):Prop
 |mk (d:Int) (n:Nat) (pr:Addr) (N:List RdT) (goal:Int):vs=[.int d,.int n,.ref pr,.int goal]->NA H pr N->T H->0<d->NetOk d n N->1<=n->n<=4->N.length<=6->((∀m∈N,m.2.2.2.length<=16))->0<=goal->(goal<(n:Int))->(∀(l:Addr)(M:List RdT)(H':Hp),SameU H H'->T H'->NA H' l M->M.map strip=thinS d n goal (N.map strip)->SubB (bds (N.map strip)) (bds (M.map strip))->NFr H M->∀C0,TabV d n goal (N.map strip) C0->Q (.ref l) H')->spThin T vs H Q z3q
def mThin(σ:L2.St)(H:Hp):Nat:=match σ with
 | [_,_,_,_,_,some (.ref l),some (.int k),some (.int w),_]=>match H l with
  |some (.lst vs)=>match vs[k.toNat]? with
   |some (.ref r)=>match H r with
    |some (.tup [_,_,.ref b])=>match H b with
     |some (.lst ws)=>ws.length-w.toNat
     |_=>0
    |_=>0
   |_=>0
  |_=>0
 |_=>0
theorem NA.atN(h:NA H p N)(g:N[i]?=some m):∃(ws:List V)(r:Addr)(us:List V),H p=some (.lst ws)/\ws.length=N.length/\ws[i]?=some (.ref r)/\H r=some (.tup [.int m.1,.int m.2.1,.ref m.2.2.1])/\H m.2.2.1=some (.lst us)/\us.length=m.2.2.2.length:=by
 obtain⟨ws,hw1,hw2,hw3⟩:=h.la.lst
 have hi:=(zab.mp g).1
 rw[zah] at hw2
 have e:=zaa (show i<ws.length by omega)
 obtain⟨r,x',y,ex,er⟩:=hw3 i _ e
 rw[zaf,g] at ex
 cases ex
 obtain⟨us,u1,u2,_⟩:=(h.bd m (zac g)).1.lst
 exact⟨ws,r,us,hw1,hw2,by rw[e,y],er,u1,u2⟩
theorem qku9{w:Nat}{v0 v1 v2 v3 v4 v8:Option V}(h:NA H p N)(g:N[i]?=some m):mThin [v0,v1,v2,v3,v4,some (.ref p),some (.int i),some (.int w),v8] H=m.2.2.2.length-w:=by
 obtain⟨ws,r,us,h1,_,h3,h4,h5,h6⟩:=h.atN g
 simp[mThin,h1,h3,h4,h5,h6]
theorem qoi9(F:Fun K "without" "without" qef9 f fd)(Cx0:Callee P w K mg base n "copied" ["roads"] spCopyF):FnOk P w K mg base CX0 (n+1) f fd ["roads","number","window"] spWithout:=by
 refine F.okQ sc_without (λ vs H Q E h=>?_) (λ cdv A outer s H vs Q E hr h=>?_)
 ·obtain⟨_,_,_,_,_,rfl,_⟩:=h
  rfl
 obtain⟨pr,N,k,w',m,rfl,hN,nl,hk,hw,lm,q⟩:=h
 refine⟨_,(qab9 (qai9 (i:=3) sc_without.nd rfl (zai rfl) (qe_fn Cx0 hr rfl (qa_c (qv 0) qaa9))) (qab9 (qbi9 (qe_popAt (qe_ix qas9 (qe_ix qaj9 (qv 3) (qv 1) (λ _ _=>rfl)) qac9 (λ _ _=>rfl)) (qa_c (qv 2) qaa9))) (qae9 (qao9 (qv 3))))),?_⟩
 walk_at "d"
 refine⟨_,rfl,pr,N,rfl,hN,nl,λ pl M H1 s1 hM eM fM=>?_⟩
 obtain⟨g,hg,e1,e2,e3⟩:=strip_at eM hk
 have mem:=zac hg
 obtain⟨us,r,h1,h2,h3,h4,h5⟩:=hM.get hg
 obtain⟨gs,g1,g2,g3⟩:=h5.lst
 have lg:gs.length=m.2.2.2.length:=by rw[g2,<- e3]
 have ix:ixN gs.length (w':Int)=some w':=by
  have:=qnd9 (n:=gs.length) (i:=(w':Int)) ⋯ ⋯
  rw[zdk] at this
  exact this
 have iy:=zaa (show w'<gs.length by omega)
 refine⟨_,rfl,_,rfl,pl,_,_,_,rfl,rfl,SqL.of h1,h3,r,_,_,_,rfl,rfl,SqT.of h4,rfl,.inl ⟨rfl,_,SqL.of g1⟩,_,rfl,g.2.2.1,gs,(w':Int),w',_,rfl,rfl,g1,⋯,⋯,(qot9 ix).1,iy,?_⟩
 have hR:LA enc3 (upd H1 g.2.2.1 (.lst (gs.eraseIdx w'))) g.2.2.1 (g.2.2.2.eraseIdx w'):=by
  refine LA.of qaf9 (by rw[zfb,zfb,g2]) λ i y hy=>?_
  have key:∀j,gs[j]?=some y->(∀x,g.2.2.2[j]?=some x->(g.2.2.2.eraseIdx w')[i]?=some x)->(∀x,(g.2.2.2.eraseIdx w')[i]?=some x->g.2.2.2[j]?=some x)->∃r,y=.ref r/\∀x,(g.2.2.2.eraseIdx w')[i]?=some x->upd H1 g.2.2.1 (.lst (gs.eraseIdx w')) r=some (.tup (enc3 x)):=λ j hj _ back=>by
   obtain⟨r',x,e,ex,er⟩:=g3 j y hj
   refine⟨r',e,λ x' hx'=>?_⟩
   have:=back x' hx'
   rw[ex] at this
   cases this
   rw[qaq9 (λ z=>by rw[z,g1] at er;cases er)]
   exact er
  rw[zcl] at hy
  by_cases c:i<w'
  ·rw[if_pos c] at hy
   exact key i hy (λ x hx=>by rw[zcl,if_pos c];exact hx) (λ x hx=>by rw[zcl,if_pos c] at hx;exact hx)
  ·rw[if_neg c] at hy
   exact key (i+1) hy (λ x hx=>by rw[zcl,if_neg c];exact hx) (λ x hx=>by rw[zcl,if_neg c] at hx;exact hx)
 refine⟨_,rfl,q pl _ _ (qci9 (fM g mem) s1) (hM.setB hg g1 hR) ?_ λ x hx=>?_⟩
 ·rw[zfh,eM]
  show(N.map strip).set k (g.1,g.2.1,g.2.2.2.eraseIdx w')=_
  rw[e1,e2,e3]
 ·rcases zbt hx with z|z
  ·exact fM x z
  ·subst z
   exact fM g mem
theorem qiv9(hTB:TB T)(F:Fun K "thinned" "thinned" qdh9 f fd)(B:Bl mg)(Ct0:Callee P w K mg base n "table" ["day","size","roads","goal"] (spTable T))(Cx0:Callee P w K mg base n "copied" ["roads"] spCopyF)(Cp0:Callee P w K mg base n "without" ["roads","number","window"] spWithout):FnOk P w K mg base CX0 (n+1) f fd ["day","size","roads","goal"] (spThin T):=by
 refine F.okQ sc_thinned (λ vs H Q E h=>?_) (λ cdv A outer s H vs Q E hr h=>?_)
 ·obtain⟨_,_,_,_,_,rfl,_⟩:=h
  rfl
 obtain⟨d,n',pr,N,goal,rfl,hN,hT,hd,nok,n1,n4,nl,lb,g0,g1,q⟩:=h
 refine⟨_,(qab9 (qai9 (i:=4) sc_thinned.nd rfl (zai rfl) (qe_fn Ct0 hr rfl (qa_c (qv 0) (qa_c (qv 1) (qa_c (qv 2) (qa_c (qv 3) qaa9)))))) (qab9 (qai9 (i:=5) sc_thinned.nd rfl (zai rfl) (qe_fn Cx0 hr rfl (qa_c (qv 2) qaa9))) (qab9 (qeo9 PassesOwn.never rfl (qdy9 rfl B.range (qa_c (qe_cb qap9 rfl B.len qcc9 (qa_c (qv 2) qaa9)) qaa9)) (qar9 (i:=6) sc_thinned.nd rfl (zai rfl)) (qab9 (qai9 (i:=7) sc_thinned.nd rfl (zai rfl) qac9) (qae9 (qfv9 PassesOwn.never (qam9 qel9 (qv 7) (qe_cb qap9 rfl B.len qcc9 (qa_c (qe_ix qas9 (qe_ix qaj9 (qv 5) (qv 6) (λ _ _=>rfl)) qac9 (λ _ _=>rfl)) qaa9)) (qau9 _)) (qab9 (qai9 (i:=8) sc_thinned.nd rfl (zai rfl) (qe_fn Cp0 hr rfl (qa_c (qv 5) (qa_c (qv 6) (qa_c (qv 7) qaa9))))) (qae9 (qs_if (qam9 (qpd9 hr.units) (qe_fn Ct0 hr rfl (qa_c (qv 0) (qa_c (qv 1) (qa_c (qv 8) (qa_c (qv 3) qaa9))))) (qv 4) (qau9 _)) (qae9 (qai9 (i:=5) sc_thinned.nd rfl (zai rfl) (qv 8))) (qae9 (qpf9 (i:=7) sc_thinned.nd rfl (zai rfl) qoy9 qac9))))))))) (qae9 (qao9 (qv 5)))))),?_⟩
 walk_at "d"
 have lm:∀x∈N,4*x.2.2.2.length+2<=66:=λ x hx=>by have:=lb x hx;omega
 refine⟨_,rfl,_,rfl,_,rfl,_,rfl,d,n',pr,N,goal,66,rfl,hN,hT,hd,nok,n1,⋯,⋯,lm,few16 ⋯ n4,g0,g1,λ pt Fs Ts Cs H1 u1 t1 fo lT ok hC hB fpt Yt=>?_⟩
 have tv0:=TabV.of hd (fo.ok nok lm) ok hC fo
 have hN1:=hN.u u1
 refine⟨_,rfl,pr,N,rfl,hN1,⋯,λ pl M0 H2 s2 hM0 e0 f0=>?_⟩
 have hN2:=hN1.same s2
 have t2:=hTB.same _ _ t1 s2
 have hB2:=hB.u (SameU.of s2)
 obtain⟨ws,hw1,hw2,_⟩:=hN2.la.lst
 rw[zah] at hw2
 generalize hS:N.map strip=S at *
 have lS:S.length=N.length:=by rw[<- hS,zah]
 have lb0:(bds S).length=N.length:=by unfold bds;rw[zah,lS]
 have th:=λ k=>(qfo9 (ask:=λ Bs=>ask d n' goal S (wb S Bs)) (Bs:=bds S) k).trans lb0
 refine⟨_,rfl,pr,_,rfl,.inl (SqL.of hw1),((ws.length:Nat):Int),rfl,⋯,⋯,qfg9 (lo:=0) (n:=((ws.length:Nat):Int).toNat)
  (λ i σ H'=>∃(pl':Addr)(M:List RdT)(v6 v7 v8:Option V),σ=[some (.int d),some (.int n'),some (.ref pr),some (.int goal),some (.ref pt),some (.ref pl'),v6,v7,v8]/\SameU H2 H'/\T H'/\NA H' pl' M/\M.map strip=wb S (qcl9 (λ Bs=>ask d n' goal S (wb S Bs)) i (bds S))/\SubB (bds S) (qcl9 (λ Bs=>ask d n' goal S (wb S Bs)) i (bds S))/\NFr H M)
  ⟨pl,M0,_,_,_,rfl,SameU.refl _,t2,hM0,by rw[e0];exact(qov9 S).symm,⟨rfl,λ i B e=>⟨B,e,List.Sublist.refl _⟩⟩,λ m hm=>u1.free (f0 m hm)⟩ ?_ ?_⟩
 ·intro i σ H3 hi z9;obtain⟨pl',M,v6,v7,v8,rfl,u3,t3,hM,eM,sM,fM⟩ := z9
  rw[show(0:Int)+((i:Nat):Int)=(i:Int) by omega]
  have i1:i<N.length:=⋯
  have hTh:qcl9 (λ Bs=>ask d n' goal S (wb S Bs)) (i+1) (bds S)=gb (λ Bs=>ask d n' goal S (wb S Bs)) i (qcl9 (λ Bs=>ask d n' goal S (wb S Bs)) i (bds S)) [] ((qcl9 (λ Bs=>ask d n' goal S (wb S Bs)) i (bds S)).getD i []):=rfl
  rw[hTh]
  have hlen:=th i
  generalize qcl9 (λ Bs=>ask d n' goal S (wb S Bs)) i (bds S)=Bs at *
  have iB:i<Bs.length:=⋯
  have hSx:=zaa (show i<S.length by omega)
  generalize S[i]=x0 at hSx
  refine qfu9 (λ σ H'=>∃(pl':Addr)(M:List RdT)(done rest:List T3)(v8:Option V),σ=[some (.int d),some (.int n'),some (.ref pr),some (.int goal),some (.ref pt),some (.ref pl'),some (.int (i:Int)),some (.int (done.length:Nat)),v8]/\SameU H2 H'/\T H'/\NA H' pl' M/\M.map strip=wb S (Bs.set i (done++rest))/\SubB (bds S) (Bs.set i (done++rest))/\gb (λ Bs=>ask d n' goal S (wb S Bs)) i Bs done rest=gb (λ Bs=>ask d n' goal S (wb S Bs)) i Bs [] (Bs.getD i [])/\NFr H M)
   mThin ⟨pl',M,[],Bs.getD i [],_,rfl,u3,t3,hM,by rw[zbz,qhs9 iB];exact eM,by rw[zbz,qhs9 iB];exact sM,rfl,fM⟩ ?_ ?_
  ·intro σ H4 z9;obtain⟨pl',M,done,rest,v8,rfl,u4,t4,hM,eM,sM,hg,fM⟩ := z9
   rw[qmb9 hSx iB] at eM
   have lM:M.length=N.length:=by
    have:=congrArg zex eM
    rw[zah,zdp] at this
    rw[this]
    unfold wb
    rw[zcs]
    omega
   have hm:=zaa (show i<M.length by omega)
   generalize M[i]=m at hm
   have em:strip m=(x0.1,x0.2.1,done++rest):=by
    have h1:(M.map strip)[i]?=some (strip m):=by rw[zaf,hm];rfl
    rw[eM,zbd,if_pos rfl,if_pos (by unfold wb;rw[zcs];omega)] at h1
    exact(Option.some.inj h1).symm
   have em1:m.1=x0.1:=congrArg (λ y:S3=>y.1) em
   have em2:m.2.1=x0.2.1:=congrArg (λ y:S3=>y.2.1) em
   have em3:m.2.2.2=done++rest:=congrArg (λ y:S3=>y.2.2) em
   obtain⟨us,r,h1,h2,h3,h4,h5⟩:=hM.get hm
   obtain⟨gs,g1',g2',g3'⟩:=h5.lst
   rw[qku9 hM hm]
   have eM':=eM.trans (qmb9 hSx iB).symm
   obtain⟨nokM,lbM,_⟩:=qlh9 (M:=M) (Bs:=Bs.set i (done++rest)) nok lb (by rw[hS];exact eM') (by rw[hS];exact sM)
   have l16:=lbM m (zac hm)
   refine⟨_,rfl,_,rfl,_,rfl,pl',_,_,_,rfl,rfl,SqL.of h1,h3,r,_,_,_,rfl,rfl,SqT.of h4,rfl,m.2.2.1,_,rfl,.inl (SqL.of g1'),_,_,rfl,rfl,_,rfl,ite2 (λ c=>?_) (λ c=>?_)⟩
   ·have c':((done.length:Nat):Int)<((gs.length:Nat):Int):=of_decide_eq_true c
    cases rest with
    |nil =>
     rw[em3,zbr] at g2'
     omega
    |cons w0 rest =>
    have er:(done++w0::rest).eraseIdx done.length=done++rest:=by
     rw[zcm (zaj _),zck]
     rfl
    refine⟨_,rfl,_,rfl,_,rfl,pl',M,i,done.length,m,rfl,hM,⋯,hm,by rw[em3];simp,⋯,λ l2 M2 H5 s5 hM2 eM2 fM2=>?_⟩
    rw[em3,er,em1,em2,eM,zgf,<- qmb9 hSx iB] at eM2
    have sub2:SubB (bds S) (Bs.set i (done++rest)):=sM.set iB (List.Sublist.append (List.Sublist.refl _) (zdm _ _))
    obtain⟨nok2,lb2,ll2⟩:=qlh9 (M:=M2) (Bs:=Bs.set i (done++rest)) nok lb (by rw[hS];exact eM2) (by rw[hS];exact sub2)
    have lm2:∀x∈M2,4*x.2.2.2.length+2<=66:=λ x hx=>by have:=lb2 x hx;omega
    refine⟨_,rfl,_,rfl,_,rfl,_,rfl,d,n',l2,M2,goal,66,rfl,hM2,hTB.same _ _ t4 s5,hd,nok2,n1,⋯,⋯,lm2,few16 ⋯ n4,g0,g1,λ pt2 Fs2 Ts2 Cs2 H6 u6 t6 fo2 lT2 ok2 hC2 hB6 fpt2 Yt2=>?_⟩
    have tv2:=TabV.of hd (fo2.ok nok2 lm2) ok2 hC2 fo2
    rw[eM2] at tv2
    have U6:=(u4.trans (SameU.of s5)).trans u6
    have hm2:∃m2,M2[i]?=some m2/\m2.2.2.2=done++rest:=by
     have hh:=zaa (show i<M2.length by omega)
     refine⟨_,hh,?_⟩
     have h1:(M2.map strip)[i]?=some (strip M2[i]):=by rw[zaf,hh];rfl
     rw[eM2,qmb9 hSx iB,zbd,if_pos rfl,if_pos (by unfold wb;rw[zcs];omega)] at h1
     exact congrArg (λ y:S3=>y.2.2) (Option.some.inj h1).symm
    refine⟨_,rfl,_,_,hB6.rd,(hB2.u U6).rd,qln9 _,qln9 _,_,rfl,ite2 (λ c=>?_) (λ c=>?_)⟩
    ·rw[qia9 eqvB] at c
     have ce:Cs2=Cs:=of_decide_eq_true c
     have ha:ask d n' goal S (wb S (Bs.set i (done++rest)))=true:=(qjp9 tv0 tv2).mpr ce
     refine⟨_,rfl,⟨l2,M2,done,rest,_,rfl,U6,t6,hM2.u u6,eM2,sub2,?_,λ x hx=>u1.free (s2.free (u4.free (fM2 x hx)))⟩,?_⟩
     ·rw[<- hg]
      show _=if _ then _ else _
      rw[if_pos ha]
     ·obtain⟨m2,hm2,e2⟩:=hm2
      show mThin [_,_,_,_,_,some (.ref l2),some (.int (i:Int)),some (.int ((done.length:Nat):Int)),_] H6<_
      rw[qku9 (hM2.u u6) hm2,e2,em3]
      simp
    ·rw[qia9 eqvB] at c
     have ce:¬Cs2=Cs:=λ z=>c (decide_eq_true z)
     have ha:¬ask d n' goal S (wb S (Bs.set i (done++rest)))=true:=λ z=>ce ((qjp9 tv0 tv2).mp z)
     have hM6:=(hM.same s5).u u6
     refine⟨_,rfl,_,_,rfl,rfl,⟨pl',M,done++[w0],rest,some (.ref l2),?_,U6,t6,hM6,by rw[zcd];exact eM',by rw[zcd];exact sM,?_,fM⟩,?_⟩
     ·rw[zal]
      rfl
     ·rw[<- hg]
      show _=if _ then _ else _
      rw[if_neg ha]
     ·show mThin [_,_,_,_,_,some (.ref pl'),some (.int (i:Int)),some (.int ((done.length:Nat)+1:Int)),_] H6<_
      rw[show((done.length:Nat)+1:Int)=((done.length+1:Nat):Int) by omega,qku9 hM6 hm,em3]
      simp
      omega
   ·have c':¬((done.length:Nat):Int)<((gs.length:Nat):Int):=λ z=>c (decide_eq_true z)
    have:rest=[]:=by
     rw[em3,zal] at g2'
     exact zay.mp ⋯
    subst this
    rw[zbr] at eM' sM
    rw[<- hg]
    exact⟨pl',M,_,_,_,rfl,u4,t4,hM,eM',sM,fM⟩
  ·intro σ H' Q1 Q2 hq z9;obtain⟨v1,e1,v2,e2,v3,e3,l,xs,ii,y,f1,f2,f3,f4,l2,xs2,i2,y2,k1,k2,k3,k4,l5,ys5,o1,o2,i6,j6,o3,o4,b,o5,q1⟩ := z9
   exact⟨v1,e1,v2,e2,v3,e3,l,xs,ii,y,f1,f2,f3,f4,l2,xs2,i2,y2,k1,k2,k3,k4,l5,ys5,o1,o2,i6,j6,o3,o4,b,o5,hq _ _ q1⟩
 intro σ H3 z9;obtain⟨pl',M,v6,v7,v8,rfl,u3,t3,hM,eM,sM,fM⟩ := z9
 rw[show((ws.length:Nat):Int).toNat=S.length by omega] at eM sM
 refine⟨_,rfl,q pl' M H3 (u1.trans ((SameU.of s2).trans u3)) t3 hM eM ?_ fM _ tv0⟩
 rw[eM]
 have:bds (wb S (qcl9 (λ Bs=>ask d n' goal S (wb S Bs)) S.length (bds S)))=qcl9 (λ Bs=>ask d n' goal S (wb S Bs)) S.length (bds S):=by
  have l1:=th S.length
  generalize qcl9 (λ Bs=>ask d n' goal S (wb S Bs)) S.length (bds S)=Bs at l1
  refine zce λ j=>?_
  unfold bds wb
  rw[zaf,zbp]
  rcases zca j N.length with c|c
  ·rw[zaa (show j<S.length by omega),zaa (show j<Bs.length by omega)]
   rfl
  ·rw[zbo (show S.length<=j by omega),zbo (show Bs.length<=j by omega)]
   rfl
 rw[this]
 exact sM
def OL(H:Hp)(p:Addr)(os:List (Option Int)):Prop:=H p=some (.lst (os.map optV))
def enc2(x:Int×Int):List V:=[.int x.1,.int x.2]
def dat2(x:Int×Int):PyData:=.tuple [.int x.1,.int x.2]
theorem shaped2(xs:List (Int×Int)):SeqAt.shaped (.list (xs.map dat2))=true:=qix9 (n:=2) (λ x=>by simp[dat2,PyData.canLay0,PyData.canLayAll0]) (λ x=>by simp[dat2,PyData.depth,PyData.depthAll]) (by decide) xs
theorem rd2{g:List (Int×Int)}(h:LA enc2 H p g):RdV K H (.ref p) (.list (g.map dat2)):=h.rd λ x=>.cons (.int _) (.cons (.int _) .nil)
def qgi9(size:Int)(P:List (Int×Int)):Prop:=∀x∈P,0<=x.1/\x.1<size/\0<=x.2/\x.2<=1000000000000000
def TD(T:Hp->Prop):Prop:=∀(H:Hp)(p:Addr) (k k':List (Key×V)),T H->H p=some (.dK k)->T (upd H p (.dK k'))
theorem td_one(P:Addr)(pos:Pos)(q:Str):TD λ H=>TabOk H P pos q:=λ H p k k' t e=>by
 obtain⟨ps,h1,h2,h3⟩:=t
 refine⟨ps,by rw[qaq9 (λ z=>by rw[z,e] at h1;cases h1)];exact h1,h2,?_⟩
 rcases h3 with h3|⟨c,h3,h4⟩
 ·exact .inl h3
 ·exact .inr ⟨c,h3,by rw[qaq9 (λ z=>by rw[z,e] at h4;cases h4)];exact h4⟩
theorem TD.and{T':Hp->Prop}(h:TD T)(h':TD T'):TD λ H=>T H/\T' H:=λ H p k k' t e=>⟨h H p k k' t.1 e,h' H p k k' t.2 e⟩
theorem LA.offD{α:Type}{enc:α->List V}{q:Addr}{xs:List α}{k:List (Key×V)}(h:LA enc H p xs)(hd:H q=some (.dK k)):LA enc (upd H q o) p xs:=by
 obtain⟨rs,h1,h2,h3⟩:=h.ex
 refine⟨rs,by rw[qaq9 (λ z=>by rw[z,hd] at h1;cases h1)];exact h1,h2,λ i r x e1 e2=>?_⟩
 have:=h3 i r x e1 e2
 rw[qaq9 (λ z=>by rw[z,hd] at this;cases this)]
 exact this
theorem BA.offD{H:Hp}{p q:Addr}{Cs:Tb}{k:List (Key×V)}{o:HO}(h:BA H p Cs)(hd:H q=some (.dK k)):BA (upd H q o) p Cs:=by
 obtain⟨rs,h1,h2,h3,h4,h5⟩:=h
 exact⟨rs,by rw[qaq9 (λ z=>by rw[z,hd] at h1;cases h1)];exact h1,h2,h3,h4,λ i r B a b=>(h5 i r B a b).offD hd⟩
theorem SameU.dict{k:List (Key×V)}(a:SameU H H1)(e:H p=some (.dK k)):H1 p=some (.dK k):=a.1 _ _ e λ _ z=>nomatch z
structure FromV(d:Int)(n:Nat)(N:List RdT)(M:Nat)(st:Int)(C:Tb):Prop where
 len:C.length=n
 few:∀q:Int,0<=q->q<(n:Int)->Ma.MuR d (cl C q) M
 mn:∀q:Int,0<=q->q<(n:Int)->∀t,Mn (λ y=>∃k,Jo d N k st t q y) (Ma.bt d (cl C q) t)
 mn1:∀q:Int,0<=q->q<(n:Int)->∀t,Mn (Jo d N (n-1) st t q) (Ma.bt d (cl C q) t)
theorem qjv9(fo:Fords d N F){k:Nat}{p y:Int}:Jo d F k p t q y↔Jo d N k p t q y:=⟨λ j=>j.to λ f hf=>by
  obtain⟨x,hx,e1,e2,e3⟩:=fo.of hf
  exact⟨x,hx,e1,e2,λ t=>(e3 t).symm⟩,λ j=>j.to λ x hx=>by
  obtain⟨f',hf',a,b,c⟩:=fo.to hx
  exact⟨f',hf',a,b,c⟩⟩
theorem FromV.of{st:Int}{m:Nat}{Ts:List Tb}{C:Tb}(hd:0<d)(fok:FOk d n m F)(ok:TsOk d n st F m stepL Ts)(hC:Ts[n-1]?=some C)(fo:Fords d N F)(s0:0<=st)(s1:st<(n:Int)):FromV d n N (mxT N.length m (n-1)) st C:=by
 obtain⟨lC,tok⟩:=ok.each _ C hC
 rw[fo.1] at tok
 refine⟨lC,λ q q0 q1=>tok _ (qjb9 q0 (by rw[lC];exact q1)),λ q q0 q1 t=>?_,λ q q0 q1 t=>(ok.mnL hd fok t hC q q0 q1).congr λ y=>qjv9 fo⟩
 exact(ok.mnL hd fok t hC q q0 q1).dom (λ y j=>⟨_,(qjv9 fo).mp j⟩) λ y ⟨k,j⟩=>((qjv9 fo).mpr j).enough fok.ck (λ x hx=>(fok x hx).2.1) s0 s1
def DTab(d:Int)(n:Nat)(N:List RdT)(M:Nat)(H:Hp)(kvs:List (Key×V)):Prop:=∀(s:Int)(v:V),valV kvs (Sum.inl s)=some v->∃(l:Addr)(C:Tb),v=.ref l/\BA H l C/\FromV d n N M s C
theorem DTab.u{d:Int}{n:Nat}{N:List RdT}{M:Nat}{H H':Hp}{kvs:List (Key×V)}(h:DTab d n N M H kvs)(s:SameU H H'):DTab d n N M H' kvs:=λ k v e=>by
 obtain⟨l,C,a,b,c⟩:=h k v e
 exact⟨l,C,a,b.u s,c⟩
inductive spMember(vs:List V)(H:Hp)(Q:VK)(z3q:XK):Prop
 |mk (size:Int) (r:Addr) (x:Int×Int):vs=[.int size,.ref r]->H r=some (.tup (enc2 x))->0<=x.1->x.1<size->0<=x.2->Q (.bl true) H->spMember vs H Q z3q
inductive spNeedParty(vs:List V)(H:Hp)(Q:VK)(z3q:XK):Prop
 |mk (size:Int) (pp:Addr) (P:List (Int×Int)):vs=[.int size,.ref pp]->LA enc2 H pp P->qgi9 size P->1<=P.length->P.length<=6->(∀H',Same H H'->Q .non H')->spNeedParty vs H Q z3q
inductive spByStart(T:Hp->Prop)(vs:List V)(H:Hp)(Q:VK)(z3q:XK):Prop
 |mk (d:Int) (n:Nat) (pr:Addr) (N:List RdT) (pp:Addr) (P:List (Int×Int)) (m:Nat):vs=[.int d,.int n,.ref pr,.ref pp]->NA H pr N->LA enc2 H pp P->T H->0<d->NetOk d n N->1<=n->n<=1000->N.length<=1000->((∀x∈N,4*x.2.2.2.length+2<=m))->Few N.length m n->qgi9 n P->1<=P.length->P.length<=6->(∀(l:Addr) (kvs:List (Key×V)) (H':Hp),SameU H H'->T H'->H' l=some (.dK kvs)->DTab d n N (mxT N.length m (n-1)) H' kvs->(∀x∈P,∃v,valV kvs (Sum.inl x.1)=some v)->Q (.ref l) H')->spByStart T vs H Q z3q
theorem qkn9(F:Fun K "is_member" "is_member" qca9 f fd)(B:Bl mg)(Cb0:Callee P w K mg base n "is_number" ["count","thing"] spNumber)(Cd0:Callee P w K mg base n "is_whole" ["thing"] spIsWhole):FnOk P w K mg base CX0 (n+1) f fd ["size","thing"] spMember:=by
 refine F.okQ qgq9 (λ vs H Q E h=>?_) (λ cdv A outer s H vs Q E hr h=>?_)
 ·obtain⟨_,_,_,rfl,_⟩:=h
  rfl
 obtain⟨size,r,x,rfl,er,a0,a1,b0,q⟩:=h
 refine⟨_,(qab9 (qs_if (QW.pt (qw_or (qea9 (qcb9 (qe_cb qde9 rfl B.isinstance qak9 (qa_c (qv 1) (qa_c (qfk9 (v:=.ty "tuple") rfl B.tuple_ qft9 rfl) qaa9))))) (qer9 (qam9 qop_ne (qe_cb qap9 rfl B.len qcc9 (qa_c (qv 1) qaa9)) qac9 (qau9 _))))) (qae9 (qao9 qe_bl)) qat9) (qae9 (qao9 (qie9 (qe_fn Cb0 hr rfl (qa_c (qv 0) (qa_c (qe_ix qas9 (qv 1) qac9 (λ _ _=>rfl)) qaa9))) (qie9 (qe_fn Cd0 hr rfl (qa_c (qe_ix qas9 (qv 1) qac9 (λ _ _=>rfl)) qaa9)) (qiz9 (qja9 qop_ge (qe_ix qas9 (qv 1) qac9 (λ _ _=>rfl)) qac9 (qau9 _)))))))),?_⟩
 walk_at "d"
 obtain⟨t,hty,hk⟩:=(Dv.tup er).isTup (K:=K)
 rw[qhn9 er] at hk
 have e:numV size (.int x.1)=true:=by simp[numV,a0,a1]
 have fin:∀b:Bool,b=true->Q (.bl b) H:=λ b z=>by rw[z];exact q
 refine⟨_,rfl,_,"tuple",t,_,rfl,hty,hk,_,rfl,iteF ?_⟩
 refine⟨_,rfl,r,_,rfl,.inr (SqT.of er),rfl,_,rfl,iteN (by simp[enc2]) ?_⟩
 refine⟨_,rfl,_,rfl,r,_,_,_,rfl,rfl,SqT.of er,rfl,size,.int x.1,rfl,.int _,?_⟩
 rw[e]
 refine⟨_,rfl,iteT ⟨_,rfl,r,_,_,_,rfl,rfl,SqT.of er,rfl,.int x.2,rfl,.int _,_,rfl,iteT ?_⟩⟩
 exact⟨_,rfl,r,_,_,_,rfl,rfl,SqT.of er,rfl,_,_,rfl,rfl,fin _ (decide_eq_true b0)⟩
theorem qjj9(F:Fun K "need_party" "need_party" qbs9 f fd)(B:Bl mg)(Cv0:Callee P w K mg base n "is_member" ["size","thing"] spMember):FnOk P w K mg base CX0 (n+1) f fd ["size","thing"] spNeedParty:=by
 refine F.okQ qgg9 (λ vs H Q E h=>?_) (λ cdv A outer s H vs Q E hr h=>?_)
 ·obtain⟨_,_,_,rfl,_⟩:=h
  rfl
 obtain⟨size,pp,P,rfl,hP,inP,l1,l6,q⟩:=h
 refine⟨_,(qab9 (qs_if (QW.pt (qw_or (qea9 (qcb9 (qe_cb qde9 rfl B.isinstance qak9 (qa_c (qv 1) (qa_c (qfk9 (v:=.ty "list") rfl B.list_ qfy9 rfl) qaa9))))) (qer9 (qea9 (qnr9 qhe9 qhe9 qac9 (qe_cb qap9 rfl B.len qcc9 (qa_c (qv 1) qaa9)) qac9))))) (qae9 qgx9) qat9) (qae9 (qs_if (qea9 (qcb9 (qe_cb (qfa9 rfl) rfl B.all qmd9 (qa_c (qej9 ["part","size"] [none,some 0] (BlkOk.of rfl rfl (SubL.to (subC rfl subN)) rfl) rfl (qcv9 (qv 1)) (λ _ _ _ _=>(qar9 (i:=0) (show(["part","size"]:List Str).Nodup by decide) rfl (zai rfl))) (λ _ _ _ _=>(qe_fn Cv0 hr rfl (qa_c (qv 1) (qa_c (qv 0) qaa9))))) qaa9)))) (qae9 qgx9) qat9))),?_⟩
 walk_at "d"
 obtain⟨ws,w1,w2,w3⟩:=hP.lst
 obtain⟨t,hty,hk⟩:=(Dv.lst w1).isLst (K:=K)
 rw[qgd9 w1] at hk
 refine⟨_,rfl,_,"list",t,_,rfl,hty,hk,_,rfl,iteF ?_⟩
 refine⟨_,rfl,pp,_,rfl,.inl (SqL.of w1),_,_,rfl,rfl,_,rfl,iteP (by simp;omega) ?_⟩
 refine⟨_,_,rfl,rfl,_,rfl,iteN (by simp;omega) ?_⟩
 refine⟨_,rfl,pp,rfl,⟨_,SqL.of w1⟩,?_⟩
 refine qbz9 (K:=K) (a:=pp) (xs:=ws) (λ D i H'=>Same H H'/\H' D=some (.lst ((zbk i true).map V.bl))) (λ D hD=>⟨qan9 hD _,qaf9⟩) (λ D i H' _ _ h=>SqL.of (h.1 _ _ w1)) ?_ ?_
 ·intro D i y H' hD hi z9;obtain⟨sD,eD⟩ := z9
  obtain⟨r,x,rfl,ex,er⟩:=w3 i y hi
  have hi2:=(zab.mp ex).1
  obtain⟨x0,x1,x2,_⟩:=inP x (zac ex)
  refine⟨λ k v e=>?_,?_⟩
  ·match k,e with
   |0,e=>cases e
   |1,e=>exact e
   |k+2,e=>cases e
  refine⟨_,rfl,_,rfl,size,r,x,rfl,sD _ _ er,x0,x1,x2,_,eD,qbe9 (by simp;omega),qci9 hD sD,?_⟩
  rw[qaf9,zfa,zbs]
  rfl
 ·intro D H' hD z9;obtain⟨sD,eD⟩ := z9
  refine⟨D,_,rfl,SqL.of eD,_,rfl,iteN (by simp) (q H' sD)⟩
theorem qmy9(hTB:TB T)(hTD:TD T)(F:Fun K "tables_by_start" "tables_by_start" qay9 f fd)(Ci0:Callee P w K mg base n "need_net" ["day","size","roads"] spNeedNet)(Ch1:Callee P w K mg base n "need_party" ["size","thing"] spNeedParty)(Ci1:Callee P w K mg base n "table_from" ["day","size","roads","start"] (spTabFrom T)):FnOk P w K mg base CX0 (n+1) f fd ["day","size","roads","party"] (spByStart T):=by
 refine F.okQ sc_tables_by_start (λ vs H Q E h=>?_) (λ cdv A outer s H vs Q E hr h=>?_)
 ·obtain⟨_,_,_,_,_,_,_,rfl,_⟩:=h
  rfl
 obtain⟨d,N,pr,Ns,pp,P,m,rfl,hN,hP,hT,hd,nok,N1,N2,nl,lm,few,inP,l1,l6,q⟩:=h
 refine⟨_,(qab9 (qbi9 (qe_fn Ci0 hr rfl (qa_c (qv 0) (qa_c (qv 1) (qa_c (qv 2) qaa9))))) (qab9 (qbi9 (qe_fn Ch1 hr rfl (qa_c (qv 1) (qa_c (qv 3) qaa9)))) (qab9 (qai9 (i:=4) sc_tables_by_start.nd rfl (zai rfl) qe_dnew) (qab9 (qeo9 PassesOwn.never rfl (qcv9 (qv 3)) (qgw9 rfl (qaw9 (qar9 (i:=5) sc_tables_by_start.nd rfl (zai rfl)) (qaw9 (qar9 (i:=6) sc_tables_by_start.nd rfl (zai rfl)) qed9))) (qae9 (qs_if (qt_dnotin (hu_of hr) (qv 5) (qv 4)) (qae9 (qs_dput (hu_of hr) (qv 4) (qv 5) (qe_fn Ci1 hr rfl (qa_c (qv 0) (qa_c (qv 1) (qa_c (qv 2) (qa_c (qv 5) qaa9))))))) qat9))) (qae9 (qao9 (qv 4))))))),?_⟩
 walk_at "d"
 refine⟨_,rfl,_,rfl,_,rfl,d,N,pr,Ns,rfl,hN,nl,nok,⋯,λ H1 s1=>?_⟩
 refine⟨_,rfl,_,rfl,(N:Int),pp,P,rfl,hP.same s1,inP,l1,l6,λ H2 s2=>?_⟩
 have s02:=s1.trans s2
 refine λ pd hpd=>?_
 have fpd:=s02.free hpd
 generalize hgH3:upd _ pd _=H3
 revert H3
 refine qal9 hpd λ H3 s3 e3=>?_
 have s03:=s02.trans s3
 obtain⟨ws,w1,w2,w3⟩:=hP.lst
 refine⟨_,rfl,pp,rfl,⟨_,SqL.of (s03 _ _ w1)⟩,qex9 (K:=K) (a:=pp) (xs:=ws)
  (λ i σ H'=>∃(kvs:List (Key×V)) (v5 v6:Option V),σ=[some (.int d),some (.int N),some (.ref pr),some (.ref pp),some (.ref pd),v5,v6]/\SameU H H'/\T H'/\H' pd=some (.dK kvs)/\kvs.length<=i/\DTab d N Ns (mxT Ns.length m (N-1)) H' kvs/\∀x∈P.take i,∃v,valV kvs (Sum.inl x.1)=some v)
  ⟨[],_,_,rfl,SameU.of s03,hTB.same _ _ hT s03,e3,zaj _,λ k v e=>(by cases e),λ x hx=>(by simp at hx)⟩ (λ i σ H' _ z9=>by obtain⟨_,_,_,_,u,_⟩ := z9;exact SqL.of (u.lst w1)) ?_ ?_⟩
 ·intro i y σ H4 hi z9;obtain⟨kvs,v5,v6,rfl,u4,t4,e4,kl,dt,dom⟩ := z9
  obtain⟨r,x,rfl,ex,er⟩:=w3 i y hi
  have hi2:=(zab.mp ex).1
  obtain⟨x0,x1,_⟩:=inP x (zac ex)
  refine⟨r,_,rfl,SqT.of (u4.tup er),rfl,_,_,rfl,_,_,rfl,rfl,?_⟩
  have hg:DGet H4 pd (.int x.1) (valV kvs (Sum.inl x.1)):=DGet.k (k:=Sum.inl x.1) e4
  refine⟨_,rfl,_,rfl,pd,_,rfl,hg,_,rfl,?_⟩
  cases hv:valV kvs (Sum.inl x.1) with
  |some v =>
   refine iteF ⟨kvs,_,_,rfl,u4,t4,e4,⋯,dt,λ z hz=>?_⟩
   rw[qdi9 ex] at hz
   rcases zau.mp hz with hz|hz
   ·exact dom z hz
   ·rw[zag] at hz
    subst hz
    exact⟨v,hv⟩
  |none =>
   refine iteT ?_
   refine⟨_,rfl,_,rfl,_,rfl,_,rfl,d,N,pr,Ns,x.1,m,rfl,hN.u u4,t4,hd,nok,N1,N2,nl,lm,few,x0,x1,λ l Fs Ts C H5 u5 t5 fo lT ok hC hB fl Yl=>?_⟩
   have fv:=FromV.of hd (fo.ok nok lm) ok hC fo x0 x1
   have e5:=u5.dict e4
   refine⟨_,rfl,_,rfl,pd,_,rfl,DPut.k (k:=Sum.inl x.1) e5 (qbe9 ⋯),?_⟩
   refine⟨putK kvs (Sum.inl x.1) (.ref l),_,_,rfl,SameU.wr fpd (u4.trans u5),hTD _ _ _ _ t5 e5,qaf9,zbe (qfx9 _ _ _) ⋯,λ s' v' e'=>?_,λ z hz=>?_⟩
   ·rw[qpb9] at e'
    by_cases c:(Sum.inl s':Key)=Sum.inl x.1
    ·rw[if_pos c] at e'
     cases e'
     cases c
     exact⟨l,C,rfl,hB.offD e5,fv⟩
    ·rw[if_neg c] at e'
     obtain⟨l',C',a,b,c'⟩:=dt s' v' e'
     exact⟨l',C',a,(b.u u5).offD e5,c'⟩
   ·rw[qpb9]
    by_cases c:(Sum.inl z.1:Key)=Sum.inl x.1
    ·rw[if_pos c]
     exact⟨_,rfl⟩
    ·rw[if_neg c]
     rw[qdi9 ex] at hz
     rcases zau.mp hz with hz|hz
     ·exact dom z hz
     ·rw[zag] at hz
      subst hz
      exact absurd rfl c
 ·intro σ H4 z9;obtain⟨kvs,v5,v6,rfl,u4,t4,e4,kl,dt,dom⟩ := z9
  rw[w2,zbq] at dom
  exact⟨_,rfl,q pd kvs H4 u4 t4 e4 dt dom⟩
def Sn(d:Int)(N:List RdT)(p t:Int)(x:Int×Int)(y:Int):Prop:=Mn (λ y=>∃k,Jo d N k x.1 (t+x.2) p y) (some y)
theorem Sn.uniq{d:Int}{N:List RdT}{p t:Int}{x:Int×Int}{y z:Int}(h:Sn d N p t x y)(h':Sn d N p t x z):y=z:=Option.some.inj (Mn.uniq h h')
def MtAt(d:Int)(N:List RdT)(P:List (Int×Int))(t p m:Int):Prop:=(∀x∈P,∃y,Sn d N p t x y/\y<=m)/\∃x∈P,Sn d N p t x m
theorem MtAt.uniq{d:Int}{N:List RdT}{P:List (Int×Int)}{t p m m':Int}(h:MtAt d N P t p m)(h':MtAt d N P t p m'):m=m':=by
 obtain⟨x,hx,e⟩:=h.2
 obtain⟨x',hx',e'⟩:=h'.2
 obtain⟨y,hy,l⟩:=h'.1 x hx
 obtain⟨y',hy',l'⟩:=h.1 x' hx'
 have:=e.uniq hy
 have:=e'.uniq hy'
 omega
def Meet(d:Int)(n:Nat)(N:List RdT)(P:List (Int×Int))(t:Int):Option (Int×Int)->Prop
 |none=>∀p:Int,0<=p->p<(n:Int)->∀m,¬MtAt d N P t p m
 |some r=>0<=r.1/\r.1<(n:Int)/\MtAt d N P t r.1 r.2/\∀p:Int,0<=p->p<(n:Int)->∀m,MtAt d N P t p m->r.2<=m/\(p<r.1->r.2<m)
def SnAll(d:Int)(n:Nat)(N:List RdT)(P:List (Int×Int))(t:Int):Prop:=∀x∈P,∀p:Int,0<=p->p<(n:Int)->∃o,Mn (λ y=>∃k,Jo d N k x.1 (t+x.2) p y) o/\Mn (Jo d N (n-1) x.1 (t+x.2) p) o
theorem Meet.skip{P:List (Int×Int)}{r:Option (Int×Int)}(h:Meet d n N P t r)(hn:∀m,¬MtAt d N P t n m):Meet d (n+1) N P t r:=by
 have key:∀p:Int,0<=p->p<((n+1:Nat):Int)->∀m,MtAt d N P t p m->p<(n:Int):=λ p p0 p1 m hm=>by
  rcases(by omega:p<(n:Int)\/p=(n:Int)) with z|z
  ·exact z
  ·rw[z] at hm
   exact absurd hm (hn m)
 cases r with
 |none=>exact λ p p0 p1 m hm=>h p p0 (key p p0 p1 m hm) m hm
 |some r =>
  obtain⟨a,b,c,e⟩:=h
  exact⟨a,⋯,c,λ p p0 p1 m hm=>e p p0 (key p p0 p1 m hm) m hm⟩
theorem Meet.take{P:List (Int×Int)}{m:Int}{r:Option (Int×Int)}(h:Meet d n N P t r)(hm:MtAt d N P t n m)(hl:∀x,r=some x->m<x.2):Meet d (n+1) N P t (some ((n:Int),m)):=by
 refine⟨by show 0<=(n:Int);omega,by show(n:Int)<((n+1:Nat):Int);omega,hm,λ p p0 p1 m' hm'=>?_⟩
 rcases(by omega:p<(n:Int)\/p=(n:Int)) with z|z
 ·have lt:m<m':=by
   cases r with
   |none=>exact absurd hm' (h p p0 z m')
   |some r =>
    have:=hl r rfl
    have:=(h.2.2.2 p p0 z m' hm').1
    omega
  exact⟨by show m<=m';omega,λ _=>lt⟩
 ·subst z
  have:=hm.uniq hm'
  exact⟨by show m<=m';omega,λ z=>absurd z (by show ¬(n:Int)<(n:Int);omega)⟩
theorem Meet.keep{P:List (Int×Int)}{m:Int}{r:Int×Int}(h:Meet d n N P t (some r))(hm:MtAt d N P t n m)(hl:¬m<r.2):Meet d (n+1) N P t (some r):=by
 obtain⟨a,b,c,e⟩:=h
 refine⟨a,⋯,c,λ p p0 p1 m' hm'=>?_⟩
 rcases(by omega:p<(n:Int)\/p=(n:Int)) with z|z
 ·exact e p p0 z m' hm'
 ·subst z
  have:=hm.uniq hm'
  exact⟨⋯,λ z=>⋯⟩
def Cm(d:Int)(N:List RdT)(P:List (Int×Int))(t p:Int)(os:List (Option Int)):Prop:=os.length=P.length/\∀(i:Nat) x o,P[i]?=some x->os[i]?=some o->Mn (λ y=>∃k,Jo d N k x.1 (t+x.2) p y) o
theorem Cm.not{P:List (Int×Int)}{p:Int}{os:List (Option Int)}(h:Cm d N P t p os)(hn:none∈os)(m:Int):¬MtAt d N P t p m:=λ hm=>by
 obtain⟨i,hi⟩:=zaw hn
 have li:=(zab.mp hi).1
 have hx:=zaa (show i<P.length by rw[<- h.1];exact li)
 have e:=h.2 i _ none hx hi
 obtain⟨y,hy,_⟩:=hm.1 _ (zac hx)
 cases Mn.uniq e hy
theorem Cm.mt{P:List (Int×Int)}{p:Int}{ns:List Int}(h:Cm d N P t p (ns.map some)){m:Int}(hm:m∈ns)(le:∀x∈ns,x<=m):MtAt d N P t p m:=by
 have hl:ns.length=P.length:=by simpa using h.1
 refine⟨λ x hx=>?_,?_⟩
 ·obtain⟨i,hi⟩:=zaw hx
  have li:=(zab.mp hi).1
  have hy:=zaa (show i<ns.length by omega)
  exact⟨_,h.2 i x (some _) hi (by rw[zaf,hy];rfl),le _ (zac hy)⟩
 ·obtain⟨i,hi⟩:=zaw hm
  have li:=(zab.mp hi).1
  have hy:=zaa (show i<P.length by omega)
  exact⟨_,zac hy,h.2 i _ (some m) hy (by rw[zaf,hi];rfl)⟩
theorem qkq9:∀{os:List (Option Int)},none∉os->∃ns:List Int,os=ns.map some
 | [],_=>⟨[],rfl⟩
 |none::os,h=>absurd (zak ..) h
 |some x::os,h=>by
  obtain⟨ns,e⟩:=qkq9 (os:=os) λ z=>h (zam _ z)
  exact⟨x::ns,by rw[e];rfl⟩
theorem some_ints{ns:List Int}:(ns.map some).map optV=ns.map V.int:=by
 rw[zff]
 rfl
def MV(H:Hp)(v:V):Option (Int×Int)->Prop
 |none=>v=.non
 |some r=>∃a,v=.ref a/\H a=some (.tup (enc2 r))
theorem MV.u{r:Option (Int×Int)}(h:MV H v r)(s:SameU H H'):MV H' v r:=by
 cases r with
 |none=>exact h
 |some r =>
  obtain⟨a,e,h⟩:=h
  exact⟨a,e,s.tup h⟩
theorem MV.same{r:Option (Int×Int)}(h:MV H v r)(s:Same H H'):MV H' v r:=h.u (SameU.of s)
inductive spMeetAt(T:Hp->Prop)(vs:List V)(H:Hp)(Q:VK)(z3q:XK):Prop
 |mk (d:Int) (n:Nat) (pr:Addr) (N:List RdT) (pp:Addr) (P:List (Int×Int)) (t:Int) (m:Nat):vs=[.int d,.int n,.ref pr,.ref pp,.int t]->NA H pr N->LA enc2 H pp P->T H->0<d->NetOk d n N->1<=n->n<=1000->N.length<=1000->((∀x∈N,4*x.2.2.2.length+2<=m))->Few N.length m n->qgi9 n P->1<=P.length->P.length<=6->(∀(v:V) (r:Option (Int×Int)) (H':Hp),SameU H H'->T H'->MV H' v r->Meet d n N P t r->SnAll d n N P t->Q v H')->spMeetAt T vs H Q z3q
theorem qow9(hTB:TB T)(F:Fun K "meet_at" "meet_at" qdg9 f fd)(B:Bl mg)(Cg0:Callee P w K mg base n "tables_by_start" ["day","size","roads","party"] (spByStart T))(Cq1:Callee P w K mg base n "come" ["day","clock","t"] (spComeT T)):FnOk P w K mg base CX0 (n+1) f fd ["day","size","roads","party","t"] (spMeetAt T):=by
 refine F.okQ sc_meet_at (λ vs H Q E h=>?_) (λ cdv A outer s H vs Q E hr h=>?_)
 ·obtain⟨_,_,_,_,_,_,_,_,rfl,_⟩:=h
  rfl
 obtain⟨d,N,pr,Ns,pp,P,t,m,rfl,hN,hP,hT,hd,nok,N1,N2,nl,lm,few,inP,l1,l6,q⟩:=h
 refine⟨_,(qab9 (qai9 (i:=5) sc_meet_at.nd rfl (zct rfl) (qe_fn Cg0 hr rfl (qa_c (qv 0) (qa_c (qv 1) (qa_c (qv 2) (qa_c (qv 3) qaa9)))))) (qab9 (qai9 (i:=6) sc_meet_at.nd rfl (zai rfl) qen9) (qab9 (qeo9 PassesOwn.never rfl (qdy9 rfl B.range (qa_c (qv 1) qaa9)) (qar9 (i:=7) sc_meet_at.nd rfl (zct rfl)) (qab9 (qjc9 (i:=8) ["start","delay","day","t","tables","place"] [none,none,some 0,some 4,some 5,some 7] sc_meet_at.nd rfl (zai rfl) (BlkOk.of rfl rfl (SubL.to (subC rfl (subC rfl (subC rfl (subC rfl subN))))) rfl) rfl (qcv9 (qv 3)) (λ _ _ _ _=>(qpl9 (n:=2) K rfl rfl (qaw9 (qar9 (i:=0) (show(["start","delay","day","t","tables","place"]:List Str).Nodup by decide) rfl (zai rfl)) (qaw9 (qar9 (i:=1) (show(["start","delay","day","t","tables","place"]:List Str).Nodup by decide) rfl (zai rfl)) qed9)))) (λ _ _ _ _=>(qe_fn Cq1 hr rfl (qa_c (qv 2) (qa_c (qe_ix (qix_listK K rfl) (qe_dget (hu_of hr) (qv 4) (qv 0) (λ _ _=>rfl)) (qv 5) (λ _ _=>rfl)) (qa_c (qe_op qav9 (qv 3) (qv 1)) qaa9)))))) (qek9 (qs_if (qcb9 (qe_cb (qcall_any rfl) rfl B.any bt_any (qa_c (qej9 ["moment"] [none] (BlkOk.of rfl rfl (SubL.to subN) rfl) rfl (qcv9 (qv 8)) (λ _ _ _ _=>(qar9 (i:=0) (show(["moment"]:List Str).Nodup by decide) rfl (zai rfl))) (λ _ _ _ _=>(qe_isN (qv 0)))) qaa9))) (qae9 qna9) qat9) (qae9 (qs_if (qhb9 (QW.pt (qw_or (qt_isN (qv 6)) (qer9 (qam9 qel9 (qe_cb (qje9 rfl) rfl B.max qmn9 (qa_c (qv 8) qaa9)) (qe_ix qas9 (qv 6) qac9 (λ _ _=>rfl)) (qau9 _)))))) (qae9 (qai9 (i:=6) sc_meet_at.nd rfl (zai rfl) (qbd9 (qa_c (qv 7) (qa_c (qe_cb (qje9 rfl) rfl B.max qmn9 (qa_c (qv 8) qaa9)) qaa9))))) qat9))))) (qae9 (qao9 (qv 6)))))),?_⟩
 walk_at "d"
 refine⟨_,rfl,_,rfl,_,rfl,_,rfl,d,N,pr,Ns,pp,P,m,rfl,hN,hP,hT,hd,nok,N1,N2,nl,lm,few,inP,l1,l6,λ pd kvs H1 u1 t1 e1 dt dom=>?_⟩
 obtain⟨ws,w1,w2,w3⟩:=hP.lst
 refine⟨_,rfl,(N:Int),rfl,⋯,⋯,qfg9 (lo:=0) (n:=((N:Nat):Int).toNat)
  (λ i σ H'=>∃(r:Option (Int×Int)) (fv:V) (v7 v8:Option V),σ=[some (.int d),some (.int N),some (.ref pr),some (.ref pp),some (.int t),some (.ref pd),some fv,v7,v8]/\SameU H1 H'/\T H'/\MV H' fv r/\Meet d i Ns P t r)
  ⟨none,.non,_,_,rfl,SameU.refl _,t1,rfl,λ p p0 p1=>⋯⟩ ?_ ?_⟩
 ·intro i σ H2 hi z9;obtain⟨r,fv,v7,v8,rfl,u2,t2,mv,mt⟩ := z9
  rw[show(0:Int)+((i:Nat):Int)=(i:Int) by omega]
  have i0:0<=(i:Int):=⋯
  have i1:(i:Int)<(N:Int):=⋯
  refine⟨_,rfl,pp,rfl,⟨_,SqL.of (u2.lst (u1.lst w1))⟩,?_⟩
  refine qbz9 (K:=K) (a:=pp) (xs:=ws) (λ D j H'=>SameU H2 H'/\T H'/\∃os,OL H' D os/\os.length=j/\∀(i':Nat) x o,P[i']?=some x->os[i']?=some o->Mn (λ y=>∃k,Jo d Ns k x.1 (t+x.2) (i:Int) y) o) (λ D hD=>⟨SameU.of (qan9 hD _),hTB.same _ _ t2 (qan9 hD _),[],qaf9,rfl,λ i' x o _ e=>(by simp at e)⟩) (λ D j H' _ _ h=>SqL.of (h.1.lst (u2.lst (u1.lst w1)))) ?_ ?_
  ·intro D j y H3 hD hj z9;obtain⟨u3,t3,os,hO,lo,ho⟩ := z9
   obtain⟨rr,x,rfl,ex,er⟩:=w3 j y hj
   have hj2:=(zab.mp ex).1
   have hx:=zac ex
   obtain⟨v,hv⟩:=dom x hx
   have u13:=u2.trans u3
   have hg:DGet H3 pd (.int x.1) (some v):=by
    have:=DGet.k (k:=Sum.inl x.1) (u13.dict e1)
    rw[hv] at this
    exact this
   obtain⟨l,C,rfl,hB,fv'⟩:=(dt.u u13) x.1 v hv
   obtain⟨rs,rc,r1,r2,r3,r4,r5⟩:=hB.at i0 (by rw[fv'.len];exact i1)
   refine⟨rr,_,rfl,SqT.of (u3.tup (u2.tup (u1.tup er))),rfl,_,_,rfl,_,_,rfl,rfl,λ k v e=>?_,?_⟩
   ·match k,e with
    |0,e=>cases e
    |1,e=>cases e
    |2,e=>exact e
    |3,e=>exact e
    |4,e=>exact e
    |5,e=>exact e
    |k+6,e=>cases e
   refine⟨_,rfl,_,rfl,_,rfl,pd,_,rfl,hg,_,rfl,l,_,_,_,rfl,rfl,SqL.of r1,r2,_,rfl,_,rfl,_,_,rfl,rfl,d,rc,t+x.2,cl C i,rfl,r5,t3,(fv'.few i i0 i1).1,λ H4 u4 t4=>?_⟩
   have e4:=u4.lst hO
   refine⟨_,e4,qbe9 (by simp;omega),SameU.wr hD (u3.trans u4),hTB.wr _ _ _ _ t4 e4,os++[Ma.bt d (cl C i) (t+x.2)],?_,by simp[lo],λ i' x' o a b=>?_⟩
   ·show upd H4 D _ D=_
    rw[qaf9,zbs]
    rfl
   ·rcases zca i' os.length with c|c
    ·rw[zao c] at b
     exact ho i' x' o a b
    ·have li:=(zab.mp b).1
     rw[zal,zbh] at li
     have:i'=os.length:=⋯
     subst this
     rw[zan (zaj _),zck] at b
     cases b
     rw[lo,ex] at a
     cases a
     exact fv'.mn i i0 i1 _
  intro D H3 hD z9;obtain⟨u3,t3,os,hO,lo,ho⟩ := z9
  rw[w2] at lo
  have cm:Cm d Ns P t (i:Int) os:=⟨lo,ho⟩
  have u13:=u2.trans u3
  refine⟨λ σ' H'=>σ'=[some (.int d),some (.int N),some (.ref pr),some (.ref pp),some (.int t),some (.ref pd),some fv,some (.int i),some (.ref D)]/\Same H3 H'/\none∉os,?_,?_⟩
  ·refine⟨_,rfl,D,rfl,⟨_,SqL.of hO⟩,?_⟩
   refine qbz9 (K:=K) (a:=D) (xs:=os.map optV) (λ D' j H'=>Same H3 H'/\H' D'=some (.lst (((os.take j).map λ o=>decide (o=none)).map V.bl))) (λ D' hD'=>⟨qan9 hD' _,qaf9⟩) (λ D' j H' _ _ h=>SqL.of (h.1 _ _ hO)) ?_ ?_
   ·intro D' j y H4 hD' hj z9;obtain⟨s4,e4⟩ := z9
    rw[zaf] at hj
    obtain⟨o,ho',rfl⟩:=zdb.mp hj
    have lj:=(zab.mp ho').1
    refine⟨λ k v e=>?_,?_⟩
    ·match k,e with
     |0,e=>cases e
     |k+1,e=>cases e
    refine⟨_,rfl,_,e4,qbe9 (by simp;omega),qci9 hD' s4,?_⟩
    rw[qaf9,qei9 _ ho',zbs]
    cases o<;>rfl
   ·intro D' H4 hD' z9;obtain⟨s4,e4⟩ := z9
    refine⟨D',_,rfl,SqL.of e4,_,rfl,ite2 (λ c=>?_) (λ c=>?_)⟩
    ·rw[zdx] at c
     obtain⟨b,hb,eb⟩:=c
     obtain⟨o,ho',rfl⟩:=zbi.mp hb
     have hn:o=none:=of_decide_eq_true eb
     subst hn
     have hn:none∈os:=zdu ho'
     exact⟨r,fv,_,_,rfl,u13.trans (SameU.of s4),hTB.same _ _ t3 s4,(mv.u u3).same s4,mt.skip λ m=>cm.not hn m⟩
    ·refine⟨rfl,s4,λ hn=>c ?_⟩
     rw[zdx]
     refine⟨true,zbi.mpr ⟨none,?_,rfl⟩,rfl⟩
     rw[zah,zbq]
     exact hn
  intro σ' H4 z9;obtain⟨rfl,s4,hn⟩ := z9
  obtain⟨ns,rfl⟩:=qkq9 hn
  have e4:H4 D=some (.lst (ns.map V.int)):=by
   have:=s4 _ _ hO
   rw[some_ints] at this
   exact this
  have n0:ns≠[]:=λ z=>by
   rw[z] at lo
   simp at lo
   omega
  have mv4:=(mv.u u3).same s4
  have u14:=u13.trans (SameU.of s4)
  have t4:=hTB.same _ _ t3 s4
  refine⟨λ b H'=>H'=H4/\(b=true->∀m,MtAt d Ns P t i m->∀x,r=some x->m<x.2)/\(b=false->∃x m,r=some x/\MtAt d Ns P t i m/\¬m<x.2),?_,?_⟩
  ·cases r with
   |none =>
    have e:fv=.non:=mv4
    subst e
    exact⟨_,rfl,_,rfl,iteP (by simp) ⟨rfl,(λ _ m _ x z=>(by cases z)),(λ z=>(by cases z))⟩⟩
   |some x =>
    obtain⟨a,rfl,ea⟩:=mv4
    refine⟨_,rfl,_,rfl,iteN (by simp) ?_⟩
    refine⟨_,rfl,D,ns,rfl,SqL.of e4,n0,λ mx hm hle=>?_⟩
    have mt':=cm.mt hm hle
    refine⟨_,rfl,a,_,_,_,rfl,rfl,SqT.of ea,rfl,_,_,rfl,rfl,_,rfl,rfl,λ c m' hm' z hz=>?_,λ c=>⟨x,mx,rfl,mt',of_decide_eq_false c⟩⟩
    cases hz
    have:=mt'.uniq hm'
    have c':mx<x.2:=of_decide_eq_true c
    omega
  intro b H5 z9;obtain⟨rfl,hb1,hb2⟩ := z9
  refine ite2 (λ c=>?_) (λ c=>?_)
  ·refine⟨_,rfl,_,rfl,D,ns,rfl,SqL.of e4,n0,λ mx hm hle=>⟨(by show 2<=sizeLine;decide),λ rr hrr=>?_⟩⟩
   generalize hgH6:upd _ rr _=H6
   revert H6
   refine qal9 hrr λ H6 s6 e6=>?_
   have mt':=cm.mt hm hle
   exact⟨some ((i:Int),mx),.ref rr,_,_,rfl,u14.trans (SameU.of s6),hTB.same _ _ t4 s6,⟨rr,rfl,e6⟩,mt.take mt' (hb1 c mx mt')⟩
  ·obtain⟨x,mx,e,mt',lt⟩:=hb2 (zbj.mpr c)
   subst e
   exact⟨some x,fv,_,_,rfl,u14,t4,mv4,mt.keep mt' lt⟩
 ·intro σ H2 z9;obtain⟨r,fv,v7,v8,rfl,u2,t2,mv,mt⟩ := z9
  rw[show((N:Nat):Int).toNat=N by omega] at mt
  refine⟨_,rfl,q fv r H2 (u1.trans u2) t2 mv mt λ x hx p p0 p1=>?_⟩
  obtain⟨v,hv⟩:=dom x hx
  obtain⟨l,C,_,_,fv'⟩:=dt x.1 v hv
  exact⟨_,fv'.mn p p0 p1 _,fv'.mn1 p p0 p1 _⟩
inductive rNotInD(K:W.Frag)(x:V)(y:V)(H:Hp)(Q:VK):Prop
 |mk (d:_) (es:_):RdV K H x d->RdV K H y (.list es)->PyData.canLayAll0 es=true->d.canLay0=true->min (PyData.depthAll es) d.depth<=8->(Q (.bl (!es.any λ e=>PyData.eqv e d)) H)->rNotInD K x y H Q
theorem op_notInD(hu:X.A.units+64<cLine):OpR X (compareOp .NotIn) (rNotInD X.K):=by
 intro pins s σ H x y v u Q I rx ry h
 obtain⟨d,es,hd,he,c1,c2,dp,q⟩:=h
 obtain⟨as,ra⟩:=I.rd hd v rx
 obtain⟨bs,rb⟩:=I.rd he u ry
 exact SeqAt.notIn_list_reads rb ra c1 c2 ⋯ ⟨.bl _,H,I,rfl,q⟩
theorem qop_notInDK(K:W.Frag)(hK:X.K=K)(hu:X.A.units+64<cLine):QOp X (compareOp .NotIn) (rNotInD K):=by
 subst hK
 exact⟨op_notInD hu⟩
theorem Ma.bt_wait(hd:0<d)(c t:Int):Ma.bt d [(0,d-1,c)] t=some (t+c):=by
 have h:=Ma.bt_snoc d [] (0,d-1,c) t
 rw[zbz,Ma.bt_nil] at h
 rw[h]
 unfold Ma.btS
 dsimp only
 rw[Ma.nextO_eq d 0 (d-1) t ⋯]
 have m:=qdj9 t hd
 rw[if_neg ⋯,if_neg ⋯]
theorem Ma.ck_wait{c:Int}(hd:0<d)(c0:0<=c):Ma.CK d [(0,d-1,c)]:=Ma.ck_one hd ⟨zax _,by show 0<=d-1;omega,by show d-1<d;omega,c0⟩
theorem fm_none:∀{os:List (Option Int)},os.foldl Ma.omax none=none
 | []=>rfl
 |o::os=>by
  show os.foldl Ma.omax (Ma.omax none o)=none
  have:Ma.omax none o=none:=by cases o<;>rfl
  rw[this]
  exact fm_none
theorem fm_not:∀{os:List (Option Int)} {a:Option Int},none∈os->os.foldl Ma.omax a=none
 |o::os,a,h=>by
  show os.foldl Ma.omax (Ma.omax a o)=none
  rcases zae.mp h with e|h
  ·subst e
   have:Ma.omax a none=none:=by cases a<;>rfl
   rw[this]
   exact fm_none
  ·exact fm_not h
theorem jn_max(a b:Int):Ma.jn true a b=a/\b<=a\/Ma.jn true a b=b/\a<=b:=by
 rcases Ma.jn_cases true a b with⟨_,h1,h2,h3⟩|⟨h,_⟩
 ·rcases h3 with h3|h3
  ·exact .inl ⟨h3,⋯⟩
  ·exact .inr ⟨h3,⋯⟩
 ·cases h
theorem fm_some:∀{ns:List Int}{a:Int},∃m,(ns.map some).foldl Ma.omax (some a)=some m/\a<=m/\(∀x∈ns,x<=m)/\(m=a\/m∈ns)
 | [],a=>⟨a,rfl,zax _,(λ x hx=>by cases hx),.inl rfl⟩
 |b::ns,a=>by
  obtain⟨m,h1,h2,h3,h4⟩:=fm_some (ns:=ns) (a:=Ma.jn true a b)
  refine⟨m,h1,?_,λ x hx=>?_,?_⟩
  ·rcases jn_max a b with⟨e,l⟩|⟨e,l⟩<;>omega
  ·rcases zae.mp hx with rfl|hx
   ·rcases jn_max a x with⟨e,l⟩|⟨e,l⟩<;>omega
   ·exact h3 x hx
  ·rcases h4 with h4|h4
   ·rcases jn_max a b with⟨e,l⟩|⟨e,l⟩
    ·exact .inl ⋯
    ·exact .inr (by rw[h4,e];exact zak ..)
   ·exact .inr (zam _ h4)
def Th(d:Int)(N:List RdT)(P:List (Int×Int))(p:Int)(R:List T3):Prop:=∀t,∃os,Cm d N P t p os/\(∀y,some y∈os->t<=y)/\Ma.bt d R t=os.foldl Ma.omax (some t)
theorem Th.mn{P:List (Int×Int)}{p:Int}(h:Th d N P p R)(n0:P≠[])(t:Int):Mn (λ m=>MtAt d N P t p m) (Ma.bt d R t):=by
 obtain⟨os,cm,ge,e⟩:=h t
 rw[e]
 by_cases hn:none∈os
 ·rw[fm_not hn]
  exact Mn.none λ m=>cm.not hn m
 ·obtain⟨ns,rfl⟩:=qkq9 hn
  obtain⟨m,h1,h2,h3,h4⟩:=fm_some (ns:=ns) (a:=t)
  rw[h1]
  have ne:ns≠[]:=λ z=>n0 (zay.mp (by rw[<- cm.1,z];rfl))
  have mm:m∈ns:=by
   rcases h4 with h4|h4
   ·cases ns with
    |nil=>exact absurd rfl ne
    |cons b ns =>
     have g1:=ge b (zbi.mpr ⟨b,zak ..,rfl⟩)
     have g2:=h3 b (zak ..)
     rw[show m=b by omega]
     exact zak ..
   ·exact h4
  have mt:=cm.mt mm h3
  exact Mn.one mt λ z hz=>by rw[mt.uniq hz];exact zax _
theorem Cm.snoc{P:List (Int×Int)}{p:Int}{os:List (Option Int)}{x:Int×Int}{o:Option Int}(h:Cm d N (P.take i) t p os)(ex:P[i]?=some x)(ho:Mn (λ y=>∃k,Jo d N k x.1 (t+x.2) p y) o):Cm d N (P.take (i+1)) t p (os++[o]):=by
 have li:=(zab.mp ex).1
 have lo:os.length=i:=by rw[h.1,zbf];omega
 refine⟨by rw[zal,lo,zbf,zbh];omega,λ j y u a b=>?_⟩
 rw[qdi9 ex] at a
 have lt:(P.take i).length=i:=by rw[zbf];omega
 rcases zca j i with c|c
 ·rw[zao ⋯] at a b
  exact h.2 j y u a b
 ·have lj:=(zab.mp b).1
  rw[zal,zbh,lo] at lj
  have:j=i:=⋯
  subst this
  rw[zan ⋯,lt,zck] at a
  rw[zan ⋯,lo,zck] at b
  cases a
  cases b
  exact ho
inductive spThere(T:Hp->Prop)(vs:List V)(H:Hp)(Q:VK)(z3q:XK):Prop
 |mk (d:Int) (n:Nat) (N:List RdT) (M:Nat) (pp pd:Addr) (P:List (Int×Int)) (kvs:List (Key×V)) (p:Int):vs=[.int d,.ref pp,.ref pd,.int p]->LA enc2 H pp P->T H->H pd=some (.dK kvs)->DTab d n N M H kvs->((∀x∈P,∃v,valV kvs (Sum.inl x.1)=some v))->0<d->0<=p->(p<(n:Int))->qgi9 n P->P.length<=6->M<=10000->(∀(l:Addr)(R:List T3)(H':Hp),SameU H H'->T H'->H l=none->LA enc3 H' l R->Ma.MuR d R (2+P.length*(M+2))->Th d N P p R->Q (.ref l) H')->spThere T vs H Q z3q
inductive spMeetingP(T:Hp->Prop)(vs:List V)(H:Hp)(Q:VK)(z3q:XK):Prop
 |mk (d:Int) (n:Nat) (pr:Addr) (N:List RdT) (pp:Addr) (P:List (Int×Int)) (m:Nat):vs=[.int d,.int n,.ref pr,.ref pp]->NA H pr N->LA enc2 H pp P->T H->0<d->NetOk d n N->1<=n->n<=10->N.length<=1000->((∀x∈N,4*x.2.2.2.length+2<=m))->Few N.length m n->mxT N.length m (n-1)<=10000->qgi9 n P->1<=P.length->P.length<=6->(∀(l:Addr)(R:List T3)(H':Hp),SameU H H'->T H'->LA enc3 H' l R->Ma.CK d R->R.length<=1000000->(∀t,Mn (λ m=>∃p:Int,0<=p/\p<(n:Int)/\MtAt d N P t p m) (Ma.bt d R t))->(∀t,SnAll d n N P t)->Q (.ref l) H')->spMeetingP T vs H Q z3q
theorem ok_there(hTB:TB T)(F:Fun K "meeting_there" "meeting_there" qbp9 f fd)(Cr0:Callee P w K mg base n "standing" ["day"] spStand)(Cb2:Callee P w K mg base n "later" ["day","one","other"] (spTwo Ma.omax))(Cn0:Callee P w K mg base n "behind" ["day","one","other"] (spBehind T)):FnOk P w K mg base CX0 (n+1) f fd ["day","party","tables","place"] (spThere T):=by
 refine F.okQ sc_meeting_there (λ vs H Q E h=>?_) (λ cdv A outer s H vs Q E hr h=>?_)
 ·obtain⟨_,_,_,_,_,_,_,_,_,rfl,_⟩:=h
  rfl
 obtain⟨d,n',N,M,pp,pd,P,kvs,p,rfl,hP,hT,ed,dt,dom,hd,p0,p1,inP,l6,M4,q⟩:=h
 refine⟨_,(qab9 (qai9 (i:=4) sc_meeting_there.nd rfl (zai rfl) (qe_fn Cr0 hr rfl (qa_c (qv 0) qaa9))) (qab9 (qeo9 PassesOwn.never rfl (qcv9 (qv 1)) (qgw9 rfl (qaw9 (qar9 (i:=5) sc_meeting_there.nd rfl (zai rfl)) (qaw9 (qar9 (i:=6) sc_meeting_there.nd rfl (zai rfl)) qed9))) (qae9 (qai9 (i:=4) sc_meeting_there.nd rfl (zai rfl) (qe_fn Cb2 hr rfl (qa_c (qv 0) (qa_c (qv 4) (qa_c (qe_fn Cn0 hr rfl (qa_c (qv 0) (qa_c (qbj9 (qa_c (qbd9 (qa_c qac9 (qa_c (qe_op qdf9 (qv 0) qac9) (qa_c (qv 6) qaa9)))) qaa9)) (qa_c (qe_ix qaj9 (qe_dget (hu_of hr) (qv 2) (qv 5) (λ _ _=>rfl)) (qv 3) (λ _ _=>rfl)) qaa9)))) qaa9))))))) (qae9 (qao9 (qv 4))))),?_⟩
 walk_at "d"
 refine⟨_,rfl,d,rfl,λ l0 H1 s1 f1 la1=>?_⟩
 obtain⟨ws,w1,w2,w3⟩:=hP.lst
 refine⟨_,rfl,pp,rfl,⟨_,SqL.of (s1 _ _ w1)⟩,qex9 (K:=K) (a:=pp) (xs:=ws)
  (λ i σ H'=>∃(l:Addr)(R:List T3)(v5 v6:Option V),σ=[some (.int d),some (.ref pp),some (.ref pd),some (.int p),some (.ref l),v5,v6]/\SameU H H'/\T H'/\H l=none/\LA enc3 H' l R/\Ma.MuR d R (2+i*(M+2))/\Th d N (P.take i) p R)
  ⟨l0,_,_,_,rfl,SameU.of s1,hTB.same _ _ hT s1,f1,la1,(Ma.mur_one (Ma.ck_still hd)).le ⋯,λ t=>⟨[],⟨(by simp),λ i x o _ e=>(by simp at e)⟩,λ y hy=>(by cases hy),Ma.bt_still hd t⟩⟩ (λ i σ H' _ z9=>by obtain⟨_,_,_,_,_,u,_⟩ := z9;exact SqL.of (u.lst w1)) ?_ ?_⟩
 ·intro i y σ H2 hi z9;obtain⟨l,R,v5,v6,rfl,u2,t2,fl,la2,mu,th⟩ := z9
  obtain⟨rr,x,rfl,ex,er⟩:=w3 i y hi
  have li:=(zab.mp ex).1
  have hx:=zac ex
  obtain⟨x0,x1,x2,_⟩:=inP x hx
  obtain⟨v,hv⟩:=dom x hx
  have im:i*(M+2)<=6*(M+2):=zbv _ ⋯
  refine⟨rr,_,rfl,SqT.of (u2.tup er),rfl,_,_,rfl,_,_,rfl,rfl,?_⟩
  refine⟨_,rfl,_,rfl,_,rfl,_,rfl,_,_,rfl,rfl,_,rfl,(by show 3<=sizeLine;decide),λ r3 hr3=>?_⟩
  generalize hgH3:upd _ r3 _=H3
  revert H3
  refine qal9 hr3 λ H3 s3 e3=>?_
  refine⟨(by show 1<=sizeLine;decide),λ p4 hp4=>?_⟩
  generalize hgH4:upd _ p4 _=H4
  revert H4
  refine qal9 hp4 λ H4 s4 e4=>?_
  have l4:LA enc3 H4 p4 [(0,d-1,x.2)]:=LA.one e4 (s4 _ _ e3)
  have s24:=s3.trans s4
  have u4:=u2.trans (SameU.of s24)
  have hg:DGet H4 pd (.int x.1) (some v):=by
   have:=DGet.k (k:=Sum.inl x.1) (u4.dict ed)
   rw[hv] at this
   exact this
  obtain⟨lt,C,rfl,hB,fv⟩:=(dt.u u4) x.1 v hv
  obtain⟨rs,rc,r1,r2,r3',r4,r5⟩:=hB.at p0 (by rw[fv.len];exact p1)
  have muC:=fv.few p p0 p1
  have lC:=muC.len
  have mu1:=Ma.mur_one (Ma.ck_wait (c:=x.2) hd x2)
  refine⟨_,rfl,_,rfl,pd,_,rfl,hg,_,rfl,lt,_,_,_,rfl,rfl,SqL.of r1,r2,d,p4,rc,_,cl C p,rfl,l4,r5,hTB.same _ _ t2 s24,by simp,⋯,?_,mu1.1,muC.1,λ l5 R5 H5 u5 t5 f5 la5 _ ck5 e5=>?_⟩
  ·show(2*1+1)*(2*(cl C p).length+2)<=16000000
   omega
  have mu5:=Ma.MuR.bind ck5 mu1 muC e5
  have lR:=mu.len
  have l5':=mu5.len
  have u25:=(SameU.of s24).trans u5
  refine⟨d,l,l5,R,R5,rfl,la2.u u25,la5,⋯,⋯,mu.1,ck5,λ l6' R6 H6 s6 f6 la6 _ ck6 e6=>?_⟩
  have mu6:=Ma.MuR.max ck6 mu mu5 e6
  have u6:=(u2.trans u25).trans (SameU.of s6)
  refine⟨l6',R6,_,_,rfl,u6,hTB.same _ _ t5 s6,(u2.trans u25).free f6,la6,mu6.le (by rw[zen];omega),λ t=>?_⟩
  obtain⟨os,cm,ge,e⟩:=th t
  have eo:Ma.bt d R5 t=Ma.bt d (cl C p) (t+x.2):=by
   rw[e5 t]
   unfold Ma.obind
   rw[Ma.bt_wait hd]
   rfl
  refine⟨os++[Ma.bt d (cl C p) (t+x.2)],cm.snoc ex (fv.mn p p0 p1 _),λ y hy=>?_,?_⟩
  ·rcases zau.mp hy with hy|hy
   ·exact ge y hy
   ·rw[zag] at hy
    have:=qpw9 muC.1 hy.symm
    omega
  ·rw[e6,e,eo,zek]
   rfl
 ·intro σ H2 z9;obtain⟨l,R,v5,v6,rfl,u2,t2,fl,la2,mu,th⟩ := z9
  rw[w2] at mu th
  rw[zbq] at th
  exact⟨_,rfl,q l R H2 u2 t2 fl la2 mu th⟩
theorem qmq9(hTB:TB T)(F:Fun K "meeting" "meeting" qdk9 f fd)(B:Bl mg)(Cg0:Callee P w K mg base n "tables_by_start" ["day","size","roads","party"] (spByStart T))(Cf0:Callee P w K mg base n "sooner" ["day","one","other"] (spTwo Ma.omin))(Cb1:Callee P w K mg base n "meeting_there" ["day","party","tables","place"] (spThere T)):FnOk P w K mg base CX0 (n+1) f fd ["day","size","roads","party"] (spMeetingP T):=by
 refine F.okQ sc_meeting (λ vs H Q E h=>?_) (λ cdv A outer s H vs Q E hr h=>?_)
 ·obtain⟨_,_,_,_,_,_,_,rfl,_⟩:=h
  rfl
 obtain⟨d,N,pr,Ns,pp,P,m,rfl,hN,hP,hT,hd,nok,N1,N2,nl,lm,few,M4,inP,l1,l6,q⟩:=h
 refine⟨_,(qab9 (qai9 (i:=4) sc_meeting.nd rfl (zai rfl) (qe_fn Cg0 hr rfl (qa_c (qv 0) (qa_c (qv 1) (qa_c (qv 2) (qa_c (qv 3) qaa9)))))) (qab9 (qai9 (i:=5) sc_meeting.nd rfl (zai rfl) (qbj9 qaa9)) (qab9 (qeo9 PassesOwn.never rfl (qdy9 rfl B.range (qa_c (qv 1) qaa9)) (qar9 (i:=6) sc_meeting.nd rfl (zai rfl)) (qae9 (qai9 (i:=5) sc_meeting.nd rfl (zai rfl) (qe_fn Cf0 hr rfl (qa_c (qv 0) (qa_c (qv 5) (qa_c (qe_fn Cb1 hr rfl (qa_c (qv 0) (qa_c (qv 3) (qa_c (qv 4) (qa_c (qv 6) qaa9))))) qaa9))))))) (qae9 (qao9 (qv 5)))))),?_⟩
 walk_at "d"
 refine⟨_,rfl,_,rfl,_,rfl,_,rfl,d,N,pr,Ns,pp,P,m,rfl,hN,hP,hT,hd,nok,N1,⋯,nl,lm,few,inP,l1,l6,λ pd kvs H1 u1 t1 e1 dt dom=>?_⟩
 generalize mxT Ns.length m (N-1)=M at *
 have P0:P≠[]:=λ z=>by rw[z] at l1;simp at l1
 refine⟨(by show 0<=sizeLine;decide),λ pf hpf=>?_⟩
 generalize hgH2:upd _ pf _=H2
 revert H2
 refine qal9 hpf λ H2 s2 e2=>?_
 have pm:P.length*(M+2)<=6*(M+2):=zbv _ l6
 refine⟨_,rfl,(N:Int),rfl,⋯,⋯,qfg9 (lo:=0) (n:=((N:Nat):Int).toNat)
  (λ i σ H'=>∃(l:Addr)(R:List T3)(v6:Option V),σ=[some (.int d),some (.int N),some (.ref pr),some (.ref pp),some (.ref pd),some (.ref l),v6]/\SameU H1 H'/\T H'/\LA enc3 H' l R/\Ma.MuR d R (i*(2+P.length*(M+2)))/\∀t,Mn (λ m=>∃p:Int,0<=p/\p<(i:Int)/\MtAt d Ns P t p m) (Ma.bt d R t))
  ⟨pf,[],_,rfl,SameU.of s2,hTB.same _ _ t1 s2,LA.nil e2,Ma.mur_nil hd,λ t=>Mn.none λ m ⟨p,p0,p1,_⟩=>⋯⟩ ?_ ?_⟩
 ·intro i σ H3 hi z9;obtain⟨l,R,v6,rfl,u3,t3,la3,mu,mn⟩ := z9
  rw[show(0:Int)+((i:Nat):Int)=(i:Int) by omega]
  have i0:0<=(i:Int):=⋯
  have i1:(i:Int)<(N:Int):=⋯
  have iw:i*(2+P.length*(M+2))<=10*(2+P.length*(M+2)):=zbv _ ⋯
  refine⟨_,rfl,_,rfl,_,rfl,_,rfl,_,rfl,_,rfl,d,N,Ns,M,pp,pd,P,kvs,(i:Int),rfl,(hP.u u1).u u3,t3,u3.dict e1,dt.u u3,dom,hd,i0,i1,inP,l6,M4,λ l4 R4 H4 u4 t4 f4 la4 mu4 th4=>?_⟩
  have lR:=mu.len
  have lR4:=mu4.len
  refine⟨d,l,l4,R,R4,rfl,la3.u u4,la4,⋯,⋯,mu.1,mu4.1,λ l5 R5 H5 s5 f5 la5 _ ck5 e5=>?_⟩
  have mu5:=Ma.MuR.min ck5 mu mu4 e5
  refine⟨l5,R5,_,rfl,(u3.trans u4).trans (SameU.of s5),hTB.same _ _ t4 s5,la5,mu5.le (by rw[zen];omega),λ t=>?_⟩
  rw[e5]
  refine((mn t).omin (th4.mn P0 t)).congr λ y=>⟨λ h=>?_,λ⟨p,p0,p1,hm⟩=>?_⟩
  ·rcases h with⟨p,p0,p1,hm⟩|hm
   ·exact⟨p,p0,⋯,hm⟩
   ·exact⟨i,i0,⋯,hm⟩
  ·rcases(by omega:p<(i:Int)\/p=(i:Int)) with z|z
   ·exact .inl ⟨p,p0,z,hm⟩
   ·rw[z] at hm
    exact .inr hm
 ·intro σ H3 z9;obtain⟨l,R,v6,rfl,u3,t3,la3,mu,mn⟩ := z9
  rw[show((N:Nat):Int).toNat=N by omega] at mu mn
  have iw:N*(2+P.length*(M+2))<=10*(2+P.length*(M+2)):=zbv _ ⋯
  have lR:=mu.len
  refine⟨_,rfl,q l R H3 (u1.trans u3) t3 la3 mu.1 ⋯ mn λ t x hx p p0 p1=>?_⟩
  obtain⟨v,hv⟩:=dom x hx
  obtain⟨_,C,_,_,fv⟩:=dt x.1 v hv
  exact⟨_,fv.mn p p0 p1 _,fv.mn1 p p0 p1 _⟩
def kp(g:List (Int×Int))(k:Nat):Nat->List T3->List T3
 |_,[]=>[]
 |j,w::R=>if((k:Int),(j:Int))∈g then kp g k (j+1) R else w::kp g k (j+1) R
theorem qio9{A:List (List T3)->Bool}{k:Nat}{Bs:List (List T3)}:∀{rest done:List T3},A (Bs.set k (done++rest))=true->A (gb A k Bs done rest)=true
 | [],done,h=>by rw[zbr] at h;exact h
 |w::rest,done,h=>by
  unfold gb
  split
  ·rename_i c
   exact qio9 c
  ·exact qio9 (by rw[zcd];exact h)
theorem qhp9{A:List (List T3)->Bool}{Bs:List (List T3)}(h:A Bs=true):∀k,k<=Bs.length->A (qcl9 A k Bs)=true
 |0,_=>h
 |k+1,hk=>by
  unfold qcl9
  refine qio9 ?_
  rw[zbz,qhs9 (by rw[qfo9];omega)]
  exact qhp9 h k ⋯
theorem SubB.refl(Bs:List (List T3)):SubB Bs Bs:=⟨rfl,λ i B e=>⟨B,e,List.Sublist.refl _⟩⟩
theorem qnp9{A:List (List T3)->Bool}{k:Nat}{B0 Bs:List (List T3)}(hk:k<Bs.length):∀{rest done:List T3},SubB B0 (Bs.set k (done++rest))->(∀j,j<done.length->∃Bw,A Bw=false/\SubB B0 Bw/\SubB Bw (Bs.set k ((done++rest).eraseIdx j)))->∃R,gb A k Bs done rest=Bs.set k R/\R.Sublist (done++rest)/\∀j,j<R.length->∃Bw,A Bw=false/\SubB B0 Bw/\SubB Bw (Bs.set k (R.eraseIdx j))
 | [],done,_,h=>⟨done,rfl,by rw[zbr];exact List.Sublist.refl _,λ j hj=>by have:=h j hj;rw[zbr] at this;exact this⟩
 |w::rest,done,h0,h=>by
  unfold gb
  have ss:(done++rest).Sublist (done++w::rest):=List.Sublist.append (List.Sublist.refl _) (zdm _ _)
  by_cases c:A (Bs.set k (done++rest))=true
  ·rw[if_pos c]
   obtain⟨R,e,s,n⟩:=qnp9 (A:=A) hk (rest:=rest) (done:=done) (h0.set hk ss) λ j hj=>by
    obtain⟨Bw,a,a',b⟩:=h j hj
    refine⟨Bw,a,a',b.set hk ?_⟩
    rw[zdi hj,zdi hj]
    exact List.Sublist.append (List.Sublist.refl _) (zdm _ _)
   exact⟨R,e,s.trans ss,n⟩
  ·rw[if_neg c]
   obtain⟨R,e,s,n⟩:=qnp9 (A:=A) hk (rest:=rest) (done:=done++[w]) (by rw[zcd];exact h0) λ j hj=>by
    rw[zcd]
    rcases zca j done.length with z|z
    ·exact h j z
    ·have:j=done.length:=by rw[zal] at hj;simp at hj;omega
     subst this
     refine⟨Bs.set k (done++rest),zbj.mpr c,h0.set hk ss,?_⟩
     rw[zcm (zaj _),zck]
     exact SubB.refl _
   exact⟨R,e,by rw[zcd] at s;exact s,n⟩
theorem SubB.put{B0:List (List T3)}{k:Nat}(h:SubB B0 Bs)(hk:k<Bs.length)(s:R.Sublist (Bs.getD k [])):SubB B0 (Bs.set k R):=by
 have h':SubB B0 (Bs.set k (Bs.getD k [])):=by rw[qhs9 hk];exact h
 exact h'.set hk s
theorem qhz9{A:List (List T3)->Bool}{B0:List (List T3)}:∀n,n<=B0.length->SubB B0 (qcl9 A n B0)/\∀k,k<n->∀j,j<((qcl9 A n B0).getD k []).length->∃Bw,A Bw=false/\SubB B0 Bw/\SubB Bw ((qcl9 A n B0).set k (((qcl9 A n B0).getD k []).eraseIdx j))
 |0,_=>⟨SubB.refl _,λ k hk=>absurd hk (zdy _)⟩
 |n+1,hn=>by
  obtain⟨sB,ih⟩:=qhz9 (A:=A) (B0:=B0) n ⋯
  have hl:=qfo9 (ask:=A) (Bs:=B0) n
  have e0:qcl9 A (n+1) B0=gb A n (qcl9 A n B0) [] ((qcl9 A n B0).getD n []):=rfl
  rw[e0]
  generalize qcl9 A n B0=Bs at *
  have hk:n<Bs.length:=⋯
  obtain⟨R,e,s,nd⟩:=qnp9 (A:=A) (B0:=B0) hk (rest:=Bs.getD n []) (done:=[]) (by rw[zbz,qhs9 hk];exact sB) λ j hj=>absurd hj (zdy _)
  rw[zbz] at s
  rw[e]
  refine⟨sB.put hk s,λ k hkn j hj=>?_⟩
  by_cases z:k=n
  ·subst z
   have eR:(Bs.set k R).getD k []=R:=by
    rw[zas,zbd,if_pos rfl,if_pos hk]
    rfl
   rw[eR] at hj ⊢
   rw[zgf]
   exact nd j hj
  ·have eR:(Bs.set n R).getD k []=Bs.getD k []:=by
    rw[zas,zbd,if_neg (Ne.symm z),zas]
   rw[eR] at hj ⊢
   obtain⟨Bw,a,a',b⟩:=ih k ⋯ j hj
   refine⟨Bw,a,a',?_⟩
   rw[List.set_comm _ _ (Ne.symm z)]
   refine b.put (by rw[zdp];exact hk) ?_
   rw[zas,zbd,if_neg z,<- zas]
   exact s
theorem bt_upW(hd:0<d)(W:Ma.Wins d C){t':Int}(h:Ma.bt d C t=some z)(l:t'<=t):∃z',Ma.bt d C t'=some z'/\z'<=z:=by
 have n0:C≠[]:=λ e=>by rw[e] at h;cases h
 have T:=Ma.tells_bf (d:=d) n0
 rw[T t] at h
 cases h
 exact⟨_,T t',(Ma.board_rise hd W T).mono _ _ l⟩
theorem Jo.sub{d:Int}(hd:0<d){F F':List RdT}(W:∀m∈F,Ma.Wins d m.2.2.2)(h:∀m'∈F',∃m∈F,m'.1=m.1/\m'.2.1=m.2.1/\∀w∈m'.2.2.2,w∈m.2.2.2):∀{k:Nat}{p t q y t0:Int},Jo d F' k p t q y->t0<=t->∃x,x<=y/\Jo d F k p t0 q x
 |0,p,t,q,y,t0,⟨e1,e2⟩,l=>⟨t0,⋯,e1,rfl⟩
 |k+1,p,t,q,y,t0,j,l=>by
  rcases j with j|⟨m',hm',e,z,hz,j⟩
  ·obtain⟨x,lx,jx⟩:=Jo.sub hd W h j l
   exact⟨x,lx,.inl jx⟩
  ·obtain⟨m,hm,e1,e2,e3⟩:=h m' hm'
   obtain⟨w,hw,ew⟩:=qnl9 hz
   obtain⟨z1,hz1,l1⟩:=bt_le_of (e3 w hw) ew
   obtain⟨z0,hz0,l0⟩:=bt_upW hd (W m hm) hz1 l
   rw[e2] at j
   obtain⟨x,lx,jx⟩:=Jo.sub hd W h j (show z0<=z by omega)
   exact⟨x,lx,.inr ⟨m,hm,e1.symm.trans e,z0,hz0,jx⟩⟩
theorem wb_sub{Bs':List (List T3)}(h:SubB Bs Bs'):∀m'∈(wb S Bs').map unS,∃m∈(wb S Bs).map unS,m'.1=m.1/\m'.2.1=m.2.1/\∀w∈m'.2.2.2,w∈m.2.2.2:=λ m' hm'=>by
 obtain⟨y,hy,rfl⟩:=zbi.mp hm'
 obtain⟨i,hi⟩:=zaw hy
 obtain⟨x,B,hx,hB,rfl⟩:=wb_at hi
 obtain⟨C,hC,s⟩:=h.2 i B hB
 refine⟨unS (x.1,x.2.1,C),zbi.mpr ⟨_,zac (i:=i) ?_,rfl⟩,rfl,rfl,λ w hw=>s.subset hw⟩
 unfold wb
 rw[zbp,hx,hC]
theorem wb_win(nok:NetOk d n N)(s:SubB (bds (N.map strip)) Bs):∀m∈(wb (N.map strip) Bs).map unS,Ma.Wins d m.2.2.2:=λ m hm=>by
 obtain⟨y,hy,rfl⟩:=zbi.mp hm
 obtain⟨i,hi⟩:=zaw hy
 obtain⟨x,B,hx,hB,rfl⟩:=wb_at hi
 obtain⟨C,hC,sb⟩:=s.2 i B hB
 unfold bds at hC
 rw[zaf,hx] at hC
 cases hC
 rw[zaf] at hx
 cases e:N[i]? with
 |none=>rw[e] at hx;cases hx
 |some m0 =>
  rw[e] at hx
  cases hx
  exact λ w hw=>nok.wins (zac e) w (sb.subset hw)
open Classical in
theorem ask_ex{S0:List S3}(h:ask d n goal S0 S=true):∃C,TabV d n goal S0 C/\TabV d n goal S C:=by
 unfold ask at h
 exact of_decide_eq_true h
theorem qpr9{Bw X:List (List T3)}(hd:0<d)(nok:NetOk d n N)(tv0:TabV d n goal (N.map strip) C0)(tvX:TabV d n goal (wb (N.map strip) X) C0)(sw:SubB (bds (N.map strip)) Bw)(sX:SubB Bw X):TabV d n goal (wb (N.map strip) Bw) C0:=by
 have toS:∀{k:Nat}{p t q y:Int},Jo d ((wb (N.map strip) Bw).map unS) k p t q y->∃x,x<=y/\Jo d ((N.map strip).map unS) k p t q x:=λ {k p t q y} j=>by
  have W:=wb_win nok (SubB.refl (bds (N.map strip)))
  have S:=wb_sub (S:=N.map strip) sw
  rw[qov9] at W S
  exact j.sub hd W S (zax _)
 refine⟨tv0.1,λ p p0 p1=>⟨(tv0.2 p p0 p1).1,λ t=>?_⟩⟩
 have a:=(tv0.2 p p0 p1).2 t
 have b:=(tvX.2 p p0 p1).2 t
 refine⟨⟨λ y e=>⟨?_,λ z ⟨k',jz⟩=>?_⟩,λ e z ⟨k',jz⟩=>?_⟩,⟨λ y e=>⟨?_,λ z jz=>?_⟩,λ e z jz=>?_⟩⟩
 ·obtain⟨k',jy⟩:=(b.1.1 y e).1
  obtain⟨z,lz,jz⟩:=jy.sub hd (wb_win nok sw) (wb_sub sX) (zax _)
  obtain⟨z',lz',jz'⟩:=toS jz
  have:=(a.1.1 y e).2 z' ⟨_,jz'⟩
  rw[show y=z by omega]
  exact⟨_,jz⟩
 ·obtain⟨z',lz',jz'⟩:=toS jz
  have:=(a.1.1 y e).2 z' ⟨_,jz'⟩
  omega
 ·obtain⟨z',lz',jz'⟩:=toS jz
  exact a.1.2 e z' ⟨_,jz'⟩
 ·have jy:=(b.2.1 y e).1
  obtain⟨z,lz,jz⟩:=jy.sub hd (wb_win nok sw) (wb_sub sX) (zax _)
  obtain⟨z',lz',jz'⟩:=toS jz
  have:=(a.1.1 y e).2 z' ⟨_,jz'⟩
  rw[show y=z by omega]
  exact jz
 ·obtain⟨z',lz',jz'⟩:=toS jz
  have:=(a.1.1 y e).2 z' ⟨_,jz'⟩
  omega
 ·obtain⟨z',lz',jz'⟩:=toS jz
  exact a.1.2 e z' ⟨_,jz'⟩
theorem bds_wb(l:Bs.length=S.length):bds (wb S Bs)=Bs:=by
 refine zce λ j=>?_
 unfold bds wb
 rw[zaf,zbp]
 rcases zca j S.length with c|c
 ·rw[zaa c,zaa (show j<Bs.length by omega)]
  rfl
 ·rw[zbo c,zbo (show Bs.length<=j by omega)]
  rfl
theorem wb_wb{Cs:List (List T3)}(l:Bs.length=S.length):wb (wb S Bs) Cs=wb S Cs:=by
 refine zce λ j=>?_
 unfold wb
 rw[zbp,zbp,zbp]
 rcases zca j S.length with c|c
 ·rw[zaa c,zaa (show j<Bs.length by omega)]
  cases Cs[j]?<;>rfl
 ·rw[zbo c]
theorem gb_fix{A:List (List T3)->Bool}{k:Nat}{Bf:List (List T3)}(hk:k<Bf.length)(h:∀j,j<(Bf.getD k []).length->A (Bf.set k ((Bf.getD k []).eraseIdx j))=false):∀{rest done:List T3},done++rest=Bf.getD k []->gb A k Bf done rest=Bf
 | [],done,e=>by
  rw[zbr] at e
  show Bf.set k done=Bf
  rw[e,qhs9 hk]
 |w::rest,done,e=>by
  unfold gb
  have h1:=h done.length (by rw[<- e];simp)
  rw[<- e,zcm (zaj _),zck] at h1
  have h2:A (Bf.set k (done++rest))=false:=h1
  rw[if_neg (by rw[h2];simp)]
  exact gb_fix hk h (by rw[zcd];exact e)
theorem qqc9{A:List (List T3)->Bool}{Bf:List (List T3)}(h:∀k,k<Bf.length->∀j,j<(Bf.getD k []).length->A (Bf.set k ((Bf.getD k []).eraseIdx j))=false):∀m,m<=Bf.length->qcl9 A m Bf=Bf
 |0,_=>rfl
 |m+1,hm=>by
  show gb A m (qcl9 A m Bf) [] ((qcl9 A m Bf).getD m [])=Bf
  rw[qqc9 h m ⋯]
  exact gb_fix ⋯ (h m ⋯) rfl
theorem qoj9(hd:0<d)(nok:NetOk d n N)(tv0:TabV d n goal (N.map strip) C0):thinS d n goal (thinS d n goal (N.map strip))=thinS d n goal (N.map strip)/\TabV d n goal (thinS d n goal (N.map strip)) C0:=by
 have lb0:(bds (N.map strip)).length=(N.map strip).length:=by unfold bds;rw[zah]
 obtain⟨sB,need⟩:=qhz9 (A:=λ Bs=>ask d n goal (N.map strip) (wb (N.map strip) Bs)) (B0:=bds (N.map strip)) (N.map strip).length ⋯
 have tru:=qhp9 (A:=λ Bs=>ask d n goal (N.map strip) (wb (N.map strip) Bs)) (Bs:=bds (N.map strip)) (by rw[qov9];exact(qjp9 tv0 tv0).mpr rfl) (N.map strip).length ⋯
 have hl:=(qfo9 (ask:=λ Bs=>ask d n goal (N.map strip) (wb (N.map strip) Bs)) (Bs:=bds (N.map strip)) (N.map strip).length).trans lb0
 have eS:thinS d n goal (N.map strip)=wb (N.map strip) (qcl9 (λ Bs=>ask d n goal (N.map strip) (wb (N.map strip) Bs)) (N.map strip).length (bds (N.map strip))):=rfl
 rw[eS]
 generalize qcl9 (λ Bs=>ask d n goal (N.map strip) (wb (N.map strip) Bs)) (N.map strip).length (bds (N.map strip))=Bf at *
 obtain⟨C,a,b⟩:=ask_ex tru
 have:C=C0:=a.uniq tv0
 subst this
 refine⟨?_,b⟩
 have same:∀X,ask d n goal (wb (N.map strip) Bf) X=ask d n goal (N.map strip) X:=λ X=>by
  rw[zcb]
  refine⟨λ h=>?_,λ h=>?_⟩
  ·obtain⟨C',a',b'⟩:=ask_ex h
   have:C'=C:=a'.uniq b
   subst this
   exact(qjp9 a b').mpr rfl
  ·obtain⟨C',a',b'⟩:=ask_ex h
   have:C'=C:=a'.uniq a
   subst this
   exact(qjp9 b b').mpr rfl
 have lw:(wb (N.map strip) Bf).length=Bf.length:=by
  unfold wb
  rw[zcs]
  omega
 unfold thinS
 rw[bds_wb hl,lw]
 have ef:(λ Bs=>ask d n goal (wb (N.map strip) Bf) (wb (wb (N.map strip) Bf) Bs))=λ Bs=>ask d n goal (N.map strip) (wb (N.map strip) Bs):=funext λ Bs=>by rw[wb_wb hl,same]
 rw[ef,wb_wb hl,qqc9 ?_ _ (zaj _)]
 intro k hk j hj
 obtain⟨Bw,aw,sw,bw⟩:=need k ⋯ j hj
 refine zbj.mpr λ z=>?_
 obtain⟨C',a',b'⟩:=ask_ex z
 have:C'=C:=a'.uniq a
 subst this
 have:=(qjp9 a (qpr9 hd nok a b' sw bw)).mpr rfl
 rw[show ask d n goal (N.map strip) (wb (N.map strip) Bw)=false from aw] at this
 cases this
def qpi9(P:Int->Prop)(lo hi:Int)(o:Option Int):Prop:=(o=none/\∀x,lo<=x->x<hi->¬P x)\/∃z,o=some z/\lo<=z/\z<hi/\P z/\∀x,lo<=x->x<z->¬P x
def Later(d:Int)(R1 R2:List T3)(x:Int):Prop:=∃y2,Ma.bt d R2 x=some y2/\(Ma.bt d R1 x=none\/∃y1,Ma.bt d R1 x=some y1/\y2<y1)
inductive spLWithin(vs:List V)(H:Hp)(Q:VK)(z3q:XK):Prop
 |mk (r:Addr) (x:Ma.T6):vs=[.ref r]->H r=some (.tup (enc6 x))->x.1<=x.2.1->(∀o,qpi9 (λ y=>Ma.tl x.2.2.2.2.1 x.2.2.2.2.2 y<Ma.tl x.2.2.1 x.2.2.2.1 y) x.1 (x.2.1+1) o->Q (optV o) H)->spLWithin vs H Q z3q
inductive spFirstL(vs:List V)(H:Hp)(Q:VK)(z3q:XK):Prop
 |mk (day:Int) (p1 p2:Addr) (R1 R2:List T3):vs=[.int day,.ref p1,.ref p2]->LA enc3 H p1 R1->LA enc3 H p2 R2->R1.length<=1900000->R2.length<=1900000->Ma.CK day R1->Ma.CK day R2->(∀(o:Option Int)(H':Hp),Same H H'->qpi9 (Later day R1 R2) 0 day o->Q (optV o) H')->spFirstL vs H Q z3q
theorem qqe9(F:Fun K "later_within" "later_within" qby9 f fd)(B:Bl mg):FnOk P w K mg base CX0 (n+1) f fd ["row"] spLWithin:=by
 refine F.okQ sc_later_within (λ vs H Q E h=>?_) (λ cdv A outer s H vs Q E hr h=>?_)
 ·obtain⟨_,_,rfl,_⟩:=h
  rfl
 obtain⟨r,x,rfl,er,pq,q⟩:=h
 obtain⟨p,u,st,v,st',v'⟩:=x
 have pq:p<=u:=pq
 have q:∀o,qpi9 (λ y=>Ma.tl st' v' y<Ma.tl st v y) p (u+1) o->Q (optV o) H:=q
 refine⟨_,(qab9 (qai9 (i:=1) sc_later_within.nd rfl (zai rfl) (qe_ix qas9 (qv 0) qac9 (λ _ _=>rfl))) (qab9 (qai9 (i:=2) sc_later_within.nd rfl (zai rfl) (qe_ix qas9 (qv 0) qac9 (λ _ _=>rfl))) (qab9 (qai9 (i:=3) sc_later_within.nd rfl (zai rfl) (qe_ix qas9 (qv 0) qac9 (λ _ _=>rfl))) (qek9 (qs_if (qam9 qcf9 (qe_ix qas9 (qv 0) qac9 (λ _ _=>rfl)) (qe_ix qas9 (qv 0) qac9 (λ _ _=>rfl)) (qau9 _)) (qae9 (qai9 (i:=4) sc_later_within.nd rfl (zai rfl) (qdt9 (qam9 qgs9 (qv 2) (qv 3) (qau9 _)) (qv 1) qen9))) (qae9 (qs_if (qcb9 (qe_ix qas9 (qv 0) qac9 (λ _ _=>rfl))) (qae9 (qai9 (i:=4) sc_later_within.nd rfl (zai rfl) (qdt9 (qam9 qgs9 (qv 2) (qe_op qav9 (qv 1) (qv 3)) (qau9 _)) (qv 1) qen9))) (qae9 (qai9 (i:=4) sc_later_within.nd rfl (zai rfl) (qe_cb (qgn9 rfl) rfl B.max qmn9 (qa_c (qv 1) (qa_c (qe_op qav9 (qe_op qdf9 (qv 3) (qv 2)) qac9) qaa9)))))))) (qae9 (qao9 (qdt9 (QW.pt (qnj9 (qpo9 (qv 4)) (qlo9 (qam9 qhe9 (qv 4) (qe_ix qas9 (qv 0) qac9 (λ _ _=>rfl)) (qau9 _))))) (qv 4) qen9))))))),?_⟩
 walk_at "d"
 refine⟨_,rfl,r,_,_,_,rfl,rfl,SqT.of er,rfl,?_⟩
 refine⟨_,rfl,r,_,_,_,rfl,rfl,SqT.of er,rfl,?_⟩
 refine⟨_,rfl,r,_,_,_,rfl,rfl,SqT.of er,rfl,?_⟩
 refine⟨λ σ' H'=>H'=H/\∃o:Option Int,σ'=[some (.ref r),some (.int p),some (.int v),some (.int v'),some (optV o)] /\
  ((o=none/\∀y,p<=y->y<=u->Ma.tl st v y<=Ma.tl st' v' y)\/∃z,o=some z/\p<=z/\(z<=u->Ma.tl st' v' z<Ma.tl st v z)/\∀y,p<=y->y<z->Ma.tl st v y<=Ma.tl st' v' y),?_,?_⟩
 ·refine⟨_,rfl,r,_,_,_,rfl,rfl,SqT.of er,rfl,_,rfl,r,_,_,_,rfl,rfl,SqT.of er,rfl,rfl,_,rfl,?_⟩
  refine ite2 (λ c=>?_) (λ c=>?_)
  ·have c':st=st':=by
    have:=of_decide_eq_true c
    injection this
   subst c'
   have tt:∀y,Ma.tl st v y<=Ma.tl st v' y↔v<=v':=λ y=>by unfold Ma.tl;split<;>omega
   have tt2:∀y,Ma.tl st v' y<Ma.tl st v y↔v'<v:=λ y=>by unfold Ma.tl;split<;>omega
   refine⟨_,rfl,_,rfl,_,_,rfl,rfl,_,rfl,?_⟩
   refine ite2 (λ c2=>?_) (λ c2=>?_)
   ·have c3:v'<v:=of_decide_eq_true c2
    exact⟨_,rfl,rfl,some p,rfl,.inr ⟨p,rfl,⋯,λ _=>(tt2 p).mpr c3,λ y y0 y1=>⋯⟩⟩
   ·have c3:¬v'<v:=λ z=>c2 (decide_eq_true z)
    exact⟨rfl,none,rfl,.inl ⟨rfl,λ y _ _=>(tt y).mpr ⋯⟩⟩
  ·have c':¬st=st':=λ e=>c (decide_eq_true (by rw[e]))
   refine⟨_,rfl,r,_,_,_,rfl,rfl,SqT.of er,rfl,_,rfl,?_⟩
   cases st with
   |true =>
    have e':st'=false:=by cases st' with|true=>exact absurd rfl c'|false=>rfl
    subst e'
    have t1:∀y,Ma.tl true v y=v:=λ y=>by unfold Ma.tl;simp
    have t2:∀y,Ma.tl false v' y=y+v':=λ y=>by unfold Ma.tl;simp
    refine iteT ⟨_,rfl,_,rfl,_,rfl,_,_,rfl,rfl,_,_,rfl,rfl,_,rfl,?_⟩
    refine ite2 (λ c2=>?_) (λ c2=>?_)
    ·have c3:p+v'<v:=of_decide_eq_true c2
     exact⟨_,rfl,rfl,some p,rfl,.inr ⟨p,rfl,⋯,λ _=>by rw[t1,t2];omega,λ y y0 y1=>⋯⟩⟩
    ·have c3:¬p+v'<v:=λ z=>c2 (decide_eq_true z)
     exact⟨rfl,none,rfl,.inl ⟨rfl,λ y _ _=>by rw[t1,t2];omega⟩⟩
   |false =>
    have e':st'=true:=by cases st' with|false=>exact absurd rfl c'|true=>rfl
    subst e'
    have t1:∀y,Ma.tl true v' y=v':=λ y=>by unfold Ma.tl;simp
    have t2:∀y,Ma.tl false v y=y+v:=λ y=>by unfold Ma.tl;simp
    refine iteF ⟨_,rfl,_,rfl,_,rfl,_,_,rfl,rfl,_,_,rfl,rfl,_,_,rfl,?_⟩
    generalize hz:(if v'-v+1>p then v'-v+1 else p)=z
    have z1:p<=z/\v'-v+1<=z/\(z=p\/z=v'-v+1):=by rw[<- hz];split<;>omega
    exact⟨rfl,some z,rfl,.inr ⟨z,rfl,⋯,λ _=>by rw[t1,t2];omega,λ y y0 y1=>by rw[t1,t2];omega⟩⟩
 intro σ' H1 z9;obtain⟨rfl,o,rfl,ho⟩ := z9
 rcases ho with⟨rfl,ho⟩|⟨z,rfl,z0,z1,z2⟩
 ·refine⟨_,rfl,_,rfl,iteN (by simp[optV]) ?_⟩
  exact q none (.inl ⟨rfl,λ y y0 y1=>by have:=ho y y0 ⋯;show ¬(_<_);omega⟩)
 ·refine⟨_,rfl,_,rfl,iteP (by simp[optV]) ⟨_,rfl,_,rfl,r,_,_,_,rfl,rfl,SqT.of er,rfl,_,_,rfl,rfl,_,rfl,?_⟩⟩
  refine ite2 (λ c=>?_) (λ c=>?_)
  ·have c':z<=u:=of_decide_eq_true c
   exact⟨_,rfl,q (some z) (.inr ⟨z,rfl,z0,⋯,z1 c',λ y y0 y1=>by have:=z2 y y0 y1;show ¬(_<_);omega⟩)⟩
  ·have c':¬z<=u:=λ e=>c (decide_eq_true e)
   exact q none (.inl ⟨rfl,λ y y0 y1=>by have:=z2 y y0 ⋯;show ¬(_<_);omega⟩)
theorem ok_firstl(F:Fun K "first_later" "first_later" qcg9 f fd)(B:Bl mg)(Cd1:Callee P w K mg base n "later_within" ["row"] spLWithin)(Cy0:Callee P w K mg base n "overlay" ["day","one","other"] spOverlay):FnOk P w K mg base CX0 (n+1) f fd ["day","one","other"] spFirstL:=by
 refine F.okQ sc_first_later (λ vs H Q E h=>?_) (λ cdv A outer s H vs Q E hr h=>?_)
 ·obtain⟨_,_,_,_,_,rfl,_⟩:=h
  rfl
 obtain⟨day,p1,p2,R1,R2,rfl,hR1,hR2,hl1,hl2,ck1,ck2,q⟩:=h
 refine⟨_,(qab9 (qs_if (qam9 qcf9 (qe_cb qap9 rfl B.len qcc9 (qa_c (qv 2) qaa9)) qac9 (qau9 _)) (qae9 (qao9 qen9)) qat9) (qab9 (qs_if (qam9 qcf9 (qe_cb qap9 rfl B.len qcc9 (qa_c (qv 1) qaa9)) qac9 (qau9 _)) (qae9 (qao9 qac9)) qat9) (qab9 (qeo9 PassesOwn.never rfl (qcv9 (qe_fn Cy0 hr rfl (qa_c (qv 0) (qa_c (qv 1) (qa_c (qv 2) qaa9))))) (qar9 (i:=3) sc_first_later.nd rfl (zai rfl)) (qab9 (qai9 (i:=4) sc_first_later.nd rfl (zai rfl) (qe_fn Cd1 hr rfl (qa_c (qv 3) qaa9))) (qae9 (qs_if (qpo9 (qv 4)) (qae9 (qao9 (qv 4))) qat9)))) (qae9 (qao9 qen9))))),?_⟩
 walk_at "d"
 obtain⟨us,hu1,hu2,hu3⟩:=hR1.lst
 obtain⟨ws,hw1,hw2,hw3⟩:=hR2.lst
 refine⟨_,rfl,p2,_,rfl,.inl (SqL.of hw1),rfl,_,rfl,?_⟩
 refine ite2 (λ c=>?_) (λ c=>?_)
 ·have c':=of_decide_eq_true c
  injection c' with c'
  have e:R2=[]:=zay.mp ⋯
  exact q none H (Same.refl H) (.inl ⟨rfl,λ x _ _ ⟨y,h,_⟩=>by rw[e,Ma.bt_nil] at h;cases h⟩)
 have n2:R2≠[]:=λ e=>c (decide_eq_true (by rw[hw2,e];rfl))
 have T2:=Ma.tells_bf (d:=day) n2
 refine⟨_,rfl,p1,_,rfl,.inl (SqL.of hu1),rfl,_,rfl,?_⟩
 refine ite2 (λ c=>?_) (λ c=>?_)
 ·have c':=of_decide_eq_true c
  injection c' with c'
  have e:R1=[]:=zay.mp ⋯
  exact q (some 0) H (Same.refl H) (.inr ⟨0,rfl,⋯,ck1.d0,⟨_,T2 0,.inl (by rw[e,Ma.bt_nil])⟩,λ x _ _=>⋯⟩)
 have n1:R1≠[]:=λ e=>c (decide_eq_true (by rw[hu2,e];rfl))
 have T1:=Ma.tells_bf (d:=day) n1
 generalize Ma.bf day R1=f1 at *
 generalize Ma.bf day R2=f2 at *
 have lat:∀x,Later day R1 R2 x↔f2 x<f1 x:=λ x=>by
  unfold Later
  rw[T1 x,T2 x]
  constructor
  ·intro z9;obtain⟨y2,e2,h|⟨y1,e1,h⟩⟩ := z9
   ·cases h
   ·cases e1
    cases e2
    exact h
  ·exact λ h=>⟨_,rfl,.inr ⟨_,rfl,h⟩⟩
 refine⟨_,rfl,_,rfl,_,rfl,day,p1,p2,R1,R2,f1,f2,rfl,hR1,hR2,hl1,hl2,ck1,ck2,T1,T2,λ lo O H1 s1 fr1 hO hOl cv=>?_⟩
 obtain⟨xs,hx1,hx2,hx3⟩:=hO.lst
 refine⟨lo,rfl,⟨_,SqL.of hx1⟩,qex9 (K:=K) (a:=lo) (xs:=xs)
  (λ i σ H'=>H'=H1/\∃(at_:Int)(v1 v2:Option V),σ=[some (.int day),some (.ref p1),some (.ref p2),v1,v2]/\(∀r,O[i]?=some r->r.1=at_)/\(i=O.length->at_=day)/\(∀x,0<=x->x<at_->f1 x<=f2 x))
  ⟨rfl,0,_,_,rfl,λ r e=>(cv.get e).2.2.2.2.1 rfl,λ e=>?_,λ x _ _=>⋯⟩
  (λ i σ H' _ h=>by rw[h.1];exact SqL.of hx1) ?_ ?_⟩
 ·rw[zay.mp e.symm] at cv
  exact cv
 ·intro i y σ H2 hi z9;obtain⟨rfl,at_,v1,v2,rfl,hat,_,hle⟩ := z9
  obtain⟨r,x,rfl,ex,er⟩:=hx3 i y hi
  have e1:=hat x ex
  obtain⟨g1,g2,g3,g4,g5,g6,g7⟩:=cv.get ex
  refine⟨_,rfl,r,x,rfl,er,g2,λ o ho=>?_⟩
  rcases ho with⟨rfl,ho⟩|⟨z,rfl,z0,z1,z2,z3⟩
  ·refine⟨_,rfl,_,rfl,iteN (by simp[optV]) ⟨rfl,x.2.1+1,_,_,rfl,λ r' e'=>g6 r' e',λ e=>g7 e,λ y y0 y1=>?_⟩⟩
   rcases(by omega:y<at_\/at_<=y) with c|c
   ·exact hle y y0 c
   ·have a1:=ho y ⋯ ⋯
    have a2:=g4 y ⋯ ⋯
    rw[a2.1,a2.2]
    exact Int.not_lt.mp a1
  ·refine⟨_,rfl,_,rfl,iteP (by simp[optV]) ⟨_,rfl,q (some z) H2 s1 (.inr ⟨z,rfl,⋯,⋯,(lat z).mpr ?_,λ y y0 y1=>?_⟩)⟩⟩
   ·have a2:=g4 z ⋯ ⋯
    rw[a2.1,a2.2]
    exact z2
   ·rw[lat]
    rcases(by omega:y<at_\/at_<=y) with c|c
    ·have:=hle y y0 c
     omega
    ·have a1:=z3 y ⋯ ⋯
     have a2:=g4 y ⋯ ⋯
     rw[a2.1,a2.2]
     exact a1
 ·intro σ H2 z9;obtain⟨rfl,at_,v1,v2,rfl,_,hend,hle⟩ := z9
  have e:=hend hx2
  subst e
  exact q none H2 s1 (.inl ⟨rfl,λ x x0 x1=>by rw[lat];have:=hle x x0 x1;omega⟩)
theorem Later.iff{R2:List T3}{f1 f2:Int->Int}(T1:Ma.Tells d R1 f1)(T2:Ma.Tells d R2 f2)(x:Int):Later d R1 R2 x↔f2 x<f1 x:=by
 unfold Later
 rw[T1 x,T2 x]
 constructor
 ·intro z9;obtain⟨y2,e2,h|⟨y1,e1,h⟩⟩ := z9
  ·cases h
  ·cases e1
   cases e2
   exact h
 ·exact λ h=>⟨_,rfl,.inr ⟨_,rfl,h⟩⟩
theorem Later.nil2(x:Int):¬Later d R1 [] x:=λ⟨y,h,_⟩=>by rw[Ma.bt_nil] at h;cases h
theorem Later.nil1{R2:List T3}{f2:Int->Int}(T2:Ma.Tells d R2 f2)(x:Int):Later d [] R2 x:=⟨_,T2 x,.inl (Ma.bt_nil ..)⟩
theorem Later.all{R2:List T3}(ck1:Ma.CK d R1)(ck2:Ma.CK d R2)(h:∀x,0<=x->x<d->¬Later d R1 R2 x)(x:Int):¬Later d R1 R2 x:=by
 by_cases n2:R2=[]
 ·subst n2
  exact Later.nil2 x
 have T2:=Ma.tells_bf (d:=d) n2
 by_cases n1:R1=[]
 ·subst n1
  exact absurd (Later.nil1 T2 0) (h 0 (zax _) ck1.d0)
 have T1:=Ma.tells_bf (d:=d) n1
 obtain⟨q,e,e0,e1⟩:=Ma.split d x ck1.d0
 have l:=h _ e0 e1
 rw[Later.iff T1 T2] at l ⊢
 have m1:=(ck1.rise T1).mul (x%d) q
 have m2:=(ck2.rise T2).mul (x%d) q
 rw[show x%d+d*q=x by omega] at m1 m2
 omega
theorem qkk9{Cf:Tb}(hd:0<d)(nok:NetOk d n N)(tv0:TabV d n goal (N.map strip) C0){k j:Nat}{x:S3}(hx:(thinS d n goal (N.map strip))[k]?=some x)(hj:j<x.2.2.length)(tf:TabV d n goal ((thinS d n goal (N.map strip)).set k (x.1,x.2.1,x.2.2.eraseIdx j)) Cf):Cf≠C0:=by
 have lb0:(bds (N.map strip)).length=(N.map strip).length:=by unfold bds;rw[zah]
 obtain⟨sB,need⟩:=qhz9 (A:=λ Bs=>ask d n goal (N.map strip) (wb (N.map strip) Bs)) (B0:=bds (N.map strip)) (N.map strip).length ⋯
 have hl:=(qfo9 (ask:=λ Bs=>ask d n goal (N.map strip) (wb (N.map strip) Bs)) (Bs:=bds (N.map strip)) (N.map strip).length).trans lb0
 have eS:thinS d n goal (N.map strip)=wb (N.map strip) (qcl9 (λ Bs=>ask d n goal (N.map strip) (wb (N.map strip) Bs)) (N.map strip).length (bds (N.map strip))):=rfl
 rw[eS] at hx tf
 generalize qcl9 (λ Bs=>ask d n goal (N.map strip) (wb (N.map strip) Bs)) (N.map strip).length (bds (N.map strip))=Bf at *
 obtain⟨s,B,hs,hB,rfl⟩:=wb_at hx
 have lk:=(zab.mp hB).1
 have eg:Bf.getD k []=B:=by rw[zas,hB];rfl
 rw[show((s.1,s.2.1,B):S3).1=s.1 from rfl] at tf
 have tf':TabV d n goal (wb (N.map strip) (Bf.set k (B.eraseIdx j))) Cf:=by
  rw[qmb9 hs lk]
  exact tf
 intro e
 subst e
 obtain⟨Bw,aw,sw,bw⟩:=need k ⋯ j (by rw[eg];exact hj)
 rw[eg] at bw
 have:=(qjp9 tv0 (qpr9 hd nok tv0 tf' sw bw)).mpr rfl
 rw[show ask d n goal (N.map strip) (wb (N.map strip) Bw)=false from aw] at this
 cases this
theorem set_wb{k:Nat}{x:S3}(hx:S[k]?=some x):S.set k (x.1,x.2.1,R)=wb S ((bds S).set k R):=by
 have lk:=(zab.mp hx).1
 rw[qmb9 hx (by unfold bds;rw[zah];exact lk),qov9]
theorem sub_set{k:Nat}{x:S3}(hx:S[k]?=some x)(s:R.Sublist x.2.2):SubB (bds S) ((bds S).set k R):=by
 have lk:=(zab.mp hx).1
 refine(SubB.refl (bds S)).put (by unfold bds;rw[zah];exact lk) ?_
 have:(bds S).getD k []=x.2.2:=by
  unfold bds
  rw[zas,zaf,hx]
  rfl
 rw[this]
 exact s
theorem net_less{M2:List RdT}{k w b:Nat}(nok:NetOk d n M)(lb:∀m∈M,m.2.2.2.length<=b)(hm:M[k]?=some m)(e:M2.map strip=(M.map strip).set k (m.1,m.2.1,m.2.2.2.eraseIdx w)):NetOk d n M2/\(∀m∈M2,m.2.2.2.length<=b)/\M2.length=M.length:=by
 have hx:(M.map strip)[k]?=some (strip m):=by rw[zaf,hm];rfl
 exact qlh9 nok lb (e.trans (set_wb (x:=strip m) hx)) (sub_set hx (zeu _ _))
theorem qpu9{Cf:Tb}{k j:Nat}{x:S3}(hd:0<d)(nok:NetOk d n M)(hx:(M.map strip)[k]?=some x)(tv:TabV d n goal (M.map strip) C0)(tf:TabV d n goal ((M.map strip).set k (x.1,x.2.1,x.2.2.eraseIdx j)) Cf)(ne:Cf≠C0):∃p:Int,0<=p/\p<(n:Int)/\∃y,Later d (cl Cf p) (cl C0 p) y:=by
 refine zev λ no=>ne ?_
 rw[set_wb hx] at tf
 have toS:∀{k':Nat}{p t q y:Int},Jo d ((wb (M.map strip) ((bds (M.map strip)).set k (x.2.2.eraseIdx j))).map unS) k' p t q y->∃z,z<=y/\Jo d ((M.map strip).map unS) k' p t q z:=λ {k' p t q y} jj=>by
  have W:=wb_win nok (SubB.refl (bds (M.map strip)))
  have S:=wb_sub (S:=M.map strip) (sub_set hx (zeu x.2.2 j))
  rw[qov9] at W S
  exact jj.sub hd W S (zax _)
 refine zce λ i=>?_
 rcases zca i n with c|c
 ·rw[qlj9 (by rw[tf.1];exact c),qlj9 (by rw[tv.1];exact c)]
  congr 1
  have a:=tf.2 i ⋯ ⋯
  have b:=tv.2 i ⋯ ⋯
  refine a.1.uniq b.1 λ t=>?_
  have nl:¬Later d (cl Cf i) (cl C0 i) t:=λ l=>no ⟨i,⋯,⋯,t,l⟩
  have a1:=(a.2 t).1
  have b1:=(b.2 t).1
  cases e1:Ma.bt d (cl Cf i) t with
  |none =>
   cases e2:Ma.bt d (cl C0 i) t with
   |none=>rfl
   |some y0=>exact absurd ⟨y0,e2,.inl e1⟩ nl
  |some y =>
   obtain⟨k',jy⟩:=(a1.1 y e1).1
   obtain⟨z,lz,jz⟩:=toS jy
   cases e2:Ma.bt d (cl C0 i) t with
   |none=>exact absurd ⟨k',jz⟩ (b1.2 e2 z)
   |some y0 =>
    have h1:=(b1.1 y0 e2).2 z ⟨k',jz⟩
    have h2:¬y0<y:=λ h=>nl ⟨y0,e2,.inr ⟨y,e1,h⟩⟩
    rw[show y=y0 by omega]
 ·rw[zbo (by rw[tf.1];exact c),zbo (by rw[tv.1];exact c)]
def LP(d:Int)(n:Nat)(C1 C2:Tb)(x:Int×Int):Prop:=(0<=x.1/\x.1<(n:Int))/\(0<=x.2/\x.2<d)/\Later d (cl C1 x.1) (cl C2 x.1) x.2/\(∀y,0<=y->y<x.2->¬Later d (cl C1 x.1) (cl C2 x.1) y)/\∀p:Int,0<=p->p<x.1->∀y,¬Later d (cl C1 p) (cl C2 p) y
abbrev N4:=Int×Int×Int×Int
def encN(x:N4):List V:=[.int x.1,.int x.2.1,.int x.2.2.1,.int x.2.2.2]
def keyE(x:N4):Int×Int:=(x.1,x.2.1)
def Need(d:Int)(n:Nat)(goal:Int)(S:List S3)(C0:Tb)(x:N4):Prop:=∃(k j:Nat)(s:S3)(Cf:Tb),x.1=(k:Int)/\x.2.1=(j:Int)/\S[k]?=some s/\j<s.2.2.length/\TabV d n goal (S.set k (s.1,s.2.1,s.2.2.eraseIdx j)) Cf/\LP d n Cf C0 x.2.2
def prs(S:List S3):Nat->List (Int×Int)
 |0=>[]
 |k+1=>prs S k++(zdn ((bds S).getD k []).length).map λ(j:Nat)=>((k:Int),(j:Int))
theorem prs_len{S:List S3}{b:Nat}(h:∀x∈S,x.2.2.length<=b):∀k,(prs S k).length<=k*b
 |0=>zbn _
 |k+1=>by
  have ih:=prs_len h k
  show(prs S k++_).length<=_
  rw[zal,zah,zfx,zen]
  have:((bds S).getD k []).length<=b:=by
   unfold bds
   rw[zas,zaf]
   cases e:S[k]? with
   |none=>exact zbn _
   |some x=>exact h x (zac e)
  omega
inductive spLPlace(vs:List V)(H:Hp)(Q:VK)(z3q:XK):Prop
 |mk (d:Int) (n:Nat) (p1 p2:Addr) (C1 C2:Tb):vs=[.int d,.ref p1,.ref p2]->BA H p1 C1->BA H p2 C2->C1.length=n->C2.length=n->((∀C∈C1,Ma.CK d C/\C.length<=1900000))->((∀C∈C2,Ma.CK d C/\C.length<=1900000))->((∃p:Int,0<=p/\p<(n:Int)/\∃y,Later d (cl C1 p) (cl C2 p) y))->(∀(l:Addr)(x:Int×Int)(H':Hp),Same H H'->H' l=some (.tup [.int x.1,.int x.2])->LP d n C1 C2 x->Q (.ref l) H')->spLPlace vs H Q z3q
inductive spNeeds(T:Hp->Prop)(vs:List V)(H:Hp)(Q:VK)(z3q:XK):Prop
 |mk (d:Int) (n:Nat) (pr:Addr) (N:List RdT) (goal:Int):vs=[.int d,.int n,.ref pr,.int goal]->NA H pr N->T H->0<d->NetOk d n N->1<=n->n<=4->N.length<=6->((∀m∈N,m.2.2.2.length<=16))->0<=goal->(goal<(n:Int))->(∀(l:Addr)(E:List N4)(C0:Tb)(H':Hp),SameU H H'->T H'->LA encN H' l E->E.map keyE=prs (thinS d n goal (N.map strip)) N.length->TabV d n goal (thinS d n goal (N.map strip)) C0->(∀x∈E,Need d n goal (thinS d n goal (N.map strip)) C0 x)->Q (.ref l) H')->spNeeds T vs H Q z3q
theorem qiq9(F:Fun K "later_place" "later_place" qce9 f fd)(B:Bl mg)(Cf1:Callee P w K mg base n "first_later" ["day","one","other"] spFirstL):FnOk P w K mg base CX0 (n+1) f fd ["day","one","other"] spLPlace:=by
 refine F.okQ sc_later_place (λ vs H Q E h=>?_) (λ cdv A outer s H vs Q E hr h=>?_)
 ·obtain⟨_,_,_,_,_,_,rfl,_⟩:=h
  rfl
 obtain⟨d,N,p1,p2,C1,C2,rfl,B1,B2,l1,l2,k1,k2,ex,q⟩:=h
 refine⟨_,(qab9 (qeo9 PassesOwn.never rfl (qpc9 rfl B.enumerate (qa_c (qv 1) qaa9)) (qgw9 rfl (qaw9 (qar9 (i:=3) sc_later_place.nd rfl (zai rfl)) (qaw9 (qar9 (i:=4) sc_later_place.nd rfl (zai rfl)) qed9))) (qab9 (qai9 (i:=5) sc_later_place.nd rfl (zai rfl) (qe_fn Cf1 hr rfl (qa_c (qv 0) (qa_c (qv 4) (qa_c (qe_ix qaj9 (qv 2) (qv 3) (λ _ _=>rfl)) qaa9))))) (qae9 (qs_if (qpo9 (qv 5)) (qae9 (qao9 (qbd9 (qa_c (qv 3) (qa_c (qv 5) qaa9))))) qat9)))) (qae9 (qao9 qen9))),?_⟩
 walk_at "d"
 obtain⟨rs,a1,a2,_⟩:=id B1
 refine⟨_,rfl,p1,rfl,⟨_,SqL.of a1⟩,qkf9 (K:=K) (a:=p1) (xs:=rs.map V.ref)
  (λ i σ H'=>∃v3 v4 v5:Option V,σ=[some (.int d),some (.ref p1),some (.ref p2),v3,v4,v5]/\Same H H'/\∀p:Int,0<=p->p<(i:Int)->∀y,¬Later d (cl C1 p) (cl C2 p) y)
  ⟨_,_,_,rfl,Same.refl _,λ p p0 p1=>⋯⟩ (λ i σ H' _ z9=>by obtain⟨_,_,_,_,s,_⟩ := z9;exact SqL.of (s _ _ a1)) ?_ ?_⟩
 ·intro i y pe σ H1 hi z9 hpe;obtain⟨v3,v4,v5,rfl,s1,nl⟩ := z9
  have li:=(zab.mp hi).1
  rw[zah] at li
  generalize hgH2:upd _ pe _=H2
  revert H2
  refine qal9 hpe λ H2 s2 e2=>?_
  have s02:=s1.trans s2
  have i0:0<=(i:Int):=⋯
  have i1:(i:Int)<(N:Int):=⋯
  obtain⟨rs1,c1,x1,x2,x3,x4,x5⟩:=(B1.u (SameU.of s02)).at i0 (by rw[l1];exact i1)
  obtain⟨rs2,c2,y1,y2,y3,y4,y5⟩:=(B2.u (SameU.of s02)).at i0 (by rw[l2];exact i1)
  rw[s02 _ _ a1] at x1
  have er:=qfl9 (Option.some.inj x1)
  subst er
  rw[zdk] at x3
  rw[zaf,x3] at hi
  cases hi
  obtain⟨ck1,len1⟩:=k1 _ (qjb9 (p:=(i:Int)) i0 (by rw[l1];exact i1))
  obtain⟨ck2,len2⟩:=k2 _ (qjb9 (p:=(i:Int)) i0 (by rw[l2];exact i1))
  refine⟨pe,_,rfl,SqT.of e2,rfl,_,_,rfl,_,_,rfl,rfl,?_⟩
  refine⟨_,rfl,_,rfl,_,rfl,_,rfl,p2,_,_,_,rfl,rfl,SqL.of y1,y2,d,c1,c2,_,_,rfl,x5,y5,len1,len2,ck1,ck2,λ o H3 s3 ho=>?_⟩
  have s03:=s02.trans s3
  rcases ho with⟨rfl,ho⟩|⟨z,rfl,z0,z1,z2,z3⟩
  ·refine⟨_,rfl,_,rfl,iteN (by simp[optV]) ⟨_,_,_,rfl,s03,λ p p0 p1=>?_⟩⟩
   rcases(by omega:p<(i:Int)\/p=(i:Int)) with c|c
   ·exact nl p p0 c
   ·rw[c]
    exact Later.all ck1 ck2 ho
  ·refine⟨_,rfl,_,rfl,iteP (by simp[optV]) ⟨_,rfl,_,rfl,(by show 2<=sizeLine;decide),λ rr hrr=>?_⟩⟩
   generalize hgH4:upd _ rr _=H4
   revert H4
   refine qal9 hrr λ H4 s4 e4=>?_
   exact q rr ((i:Int),z) H4 (s03.trans s4) e4 ⟨⟨i0,i1⟩,⟨z0,z1⟩,z2,z3,nl⟩
 ·intro σ H1 z9;obtain⟨v3,v4,v5,rfl,s1,nl⟩ := z9
  obtain⟨p,p0,p1',y,l⟩:=ex
  rw[zah,a2,l1] at nl
  exact absurd l (nl p p0 p1' y)
theorem ok_needs(hTB:TB T)(F:Fun K "needs" "needs" qew9 f fd)(B:Bl mg)(Cs1:Callee P w K mg base n "thinned" ["day","size","roads","goal"] (spThin T))(Ct0:Callee P w K mg base n "table" ["day","size","roads","goal"] (spTable T))(Cp0:Callee P w K mg base n "without" ["roads","number","window"] spWithout)(Cg1:Callee P w K mg base n "later_place" ["day","one","other"] spLPlace):FnOk P w K mg base CX0 (n+1) f fd ["day","size","roads","goal"] (spNeeds T):=by
 refine F.okQ sc_needs (λ vs H Q E h=>?_) (λ cdv A outer s H vs Q E hr h=>?_)
 ·obtain⟨_,_,_,_,_,rfl,_⟩:=h
  rfl
 obtain⟨d,n',pr,N,goal,rfl,hN,hT,hd,nok,n1,n4,nl,lb,g0,g1,q⟩:=h
 refine⟨_,(qab9 (qai9 (i:=4) sc_needs.nd rfl (zai rfl) (qe_fn Cs1 hr rfl (qa_c (qv 0) (qa_c (qv 1) (qa_c (qv 2) (qa_c (qv 3) qaa9)))))) (qab9 (qai9 (i:=5) sc_needs.nd rfl (zai rfl) (qe_fn Ct0 hr rfl (qa_c (qv 0) (qa_c (qv 1) (qa_c (qv 4) (qa_c (qv 3) qaa9)))))) (qab9 (qai9 (i:=6) sc_needs.nd rfl (zai rfl) (qbj9 qaa9)) (qab9 (qeo9 PassesOwn.never rfl (qpc9 rfl B.enumerate (qa_c (qv 4) qaa9)) (qgw9 rfl (qaw9 (qar9 (i:=7) sc_needs.nd rfl (zai rfl)) (qaw9 (qar9 (i:=8) sc_needs.nd rfl (zai rfl)) qed9))) (qae9 (qeo9 PassesOwn.never rfl (qdy9 rfl B.range (qa_c (qe_cb qap9 rfl B.len qcc9 (qa_c (qe_ix qas9 (qv 8) qac9 (λ _ _=>rfl)) qaa9)) qaa9)) (qar9 (i:=9) sc_needs.nd rfl (zai rfl)) (qab9 (qai9 (i:=10) sc_needs.nd rfl (zai rfl) (qe_fn Ct0 hr rfl (qa_c (qv 0) (qa_c (qv 1) (qa_c (qe_fn Cp0 hr rfl (qa_c (qv 4) (qa_c (qv 7) (qa_c (qv 9) qaa9)))) (qa_c (qv 3) qaa9)))))) (qae9 (qbi9 (qbv9 (qv 6) (qa_c (qe_op qop_catT (qbd9 (qa_c (qv 7) (qa_c (qv 9) qaa9))) (qe_fn Cg1 hr rfl (qa_c (qv 0) (qa_c (qv 10) (qa_c (qv 5) qaa9))))) qaa9)))))))) (qae9 (qao9 (qv 6))))))),?_⟩
 walk_at "d"
 refine⟨_,rfl,_,rfl,_,rfl,_,rfl,d,n',pr,N,goal,rfl,hN,hT,hd,nok,n1,n4,nl,lb,g0,g1,λ pl M H1 u1 t1 hM eM sM fM C0 tv0=>?_⟩
 obtain⟨_,tvS⟩:=qoj9 hd nok tv0
 have wM:M.map strip=wb (N.map strip) (bds (M.map strip)):=by
  rw[eM]
  unfold thinS
  have hl:=qfo9 (ask:=λ Bs=>ask d n' goal (N.map strip) (wb (N.map strip) Bs)) (Bs:=bds (N.map strip)) (N.map strip).length
  rw[bds_wb (by rw[hl];unfold bds;rw[zah])]
 obtain⟨nokM,lbM,llM⟩:=qlh9 nok lb wM sM
 have dif:=λ {k j:Nat} {x:S3} {Cf:Tb} (hx:(thinS d n' goal (N.map strip))[k]?=some x) (hj:j<x.2.2.length) (tf:TabV d n' goal ((thinS d n' goal (N.map strip)).set k (x.1,x.2.1,x.2.2.eraseIdx j)) Cf)=>qkk9 hd nok tv0 hx hj tf
 rw[<- eM] at dif tvS q
 have lmM:∀x∈M,4*x.2.2.2.length+2<=66:=λ x hx=>by have:=lbM x hx;omega
 refine⟨_,rfl,_,rfl,_,rfl,_,rfl,d,n',pl,M,goal,66,rfl,hM,t1,hd,nokM,n1,⋯,⋯,lmM,few16 ⋯ n4,g0,g1,λ pw Fs Ts Cw H2 u2 t2 fo lT ok hC hB fpw Yw=>?_⟩
 have tvw:=TabV.of hd (fo.ok nokM lmM) ok hC fo
 have:Cw=C0:=tvw.uniq tvS
 subst this
 have big:mxT Fs.length 66 (n'-1)<=400000:=big16 (n:=n') (by rw[fo.1];omega) ⋯ ⋯
 have ckw:∀C∈Cw,Ma.CK d C/\C.length<=1900000:=λ C hC'=>⟨((ok.each _ Cw hC).2 C hC').1,by have:=((ok.each _ Cw hC).2 C hC').len;omega⟩
 have lCw:=(ok.each _ Cw hC).1
 have hM2:=hM.u u2
 refine⟨(by show 0<=sizeLine;decide),λ pf hpf=>?_⟩
 have fpf:=hpf
 generalize hgH3:upd _ pf _=H3
 revert H3
 refine qal9 hpf λ H3 s3 e3=>?_
 obtain⟨ws,w1,w2,w3⟩:=hM2.la.lst
 rw[zah] at w2
 refine⟨_,rfl,pl,rfl,⟨_,SqL.of (s3 _ _ w1)⟩,qkf9 (K:=K) (a:=pl) (xs:=ws)
  (λ i σ H'=>∃(E:List N4)(v7 v8 v9 v10:Option V),σ=[some (.int d),some (.int n'),some (.ref pr),some (.int goal),some (.ref pl),some (.ref pw),some (.ref pf),v7,v8,v9,v10]/\SameU H2 H'/\T H'/\LA encN H' pf E/\E.map keyE=prs (M.map strip) i/\∀x∈E,Need d n' goal (M.map strip) Cw x)
  ⟨[],_,_,_,_,rfl,SameU.of s3,hTB.same _ _ t2 s3,LA.nil e3,rfl,λ x hx=>(by cases hx)⟩ (λ i σ H' _ z9=>by obtain⟨_,_,_,_,_,_,u,_⟩ := z9;exact SqL.of (u.lst w1)) ?_ ?_⟩
 ·intro i y pe σ H4 hi z9 hpe;obtain⟨E,v7,v8,v9,v10,rfl,u4,t4,hE,kE,nE⟩ := z9
  obtain⟨r,x,rfl,ex,er⟩:=w3 i y hi
  have hi2:i<M.length:=by
   have:=(zab.mp hi).1
   omega
  have em:=zaa hi2
  rw[zaf,em] at ex
  cases ex
  have hm:=zby hi2
  generalize M[i]=m at *
  have hSx:(M.map strip)[i]?=some (strip m):=by rw[zaf,em];rfl
  have lm:=lbM m hm
  generalize hgH5:upd _ pe _=H5
  revert H5
  refine qal9 hpe λ H5 s5 e5=>?_
  have u5:=u4.trans (SameU.of s5)
  have t5:=hTB.same _ _ t4 s5
  have hE5:=hE.same s5
  clear hE t4 s5 u4
  refine⟨pe,_,rfl,SqT.of e5,rfl,_,_,rfl,_,_,rfl,rfl,?_⟩
  clear e5
  obtain⟨us,b1,b2,_⟩:=((hM2.bd m hm).1.u u5).lst
  refine⟨_,rfl,r,_,_,_,rfl,rfl,SqT.of (u5.tup er),rfl,m.2.2.1,_,rfl,.inl (SqL.of b1),((us.length:Nat):Int),rfl,⋯,⋯,qfg9 (lo:=0) (n:=((us.length:Nat):Int).toNat)
   (λ j σ H'=>∃(E:List N4)(v9 v10:Option V),σ=[some (.int d),some (.int n'),some (.ref pr),some (.int goal),some (.ref pl),some (.ref pw),some (.ref pf),some (.int (i:Int)),some (.ref r),v9,v10]/\SameU H2 H'/\T H'/\LA encN H' pf E/\E.map keyE=prs (M.map strip) i++(zdn j).map (λ(j:Nat)=>((i:Int),(j:Int)))/\∀x∈E,Need d n' goal (M.map strip) Cw x)
   ⟨E,_,_,rfl,u5,t5,hE5,by simpa using kE,nE⟩ ?_ ?_⟩
  ·intro j σ H6 hj z9;obtain⟨E6,v9',v10',rfl,u6,t6,hE6,kE6,nE6⟩ := z9
   rw[show(0:Int)+((j:Nat):Int)=(j:Int) by omega]
   have hj':j<m.2.2.2.length:=⋯
   have hM6:=hM2.u u6
   refine⟨_,rfl,_,rfl,_,rfl,_,rfl,_,rfl,pl,M,i,j,m,rfl,hM6,⋯,em,hj',⋯,λ l2 M2 H7 s7 hM7 eM7 _=>?_⟩
   obtain⟨nok2,lb2,ll2⟩:=net_less nokM lbM em eM7
   have lm2:∀x∈M2,4*x.2.2.2.length+2<=66:=λ x hx=>by have:=lb2 x hx;omega
   refine⟨_,rfl,d,n',l2,M2,goal,66,rfl,hM7,hTB.same _ _ t6 s7,hd,nok2,n1,⋯,⋯,lm2,few16 ⋯ n4,g0,g1,λ pt Fs2 Ts2 Cf H8 u8 t8 fo2 lT2 ok2 hC2 hB8 fpt Yt=>?_⟩
   have tf:=TabV.of hd (fo2.ok nok2 lm2) ok2 hC2 fo2
   rw[eM7] at tf
   have ne:=dif hSx hj' tf
   have lat:=qpu9 hd nokM hSx tvS tf ne
   have big2:mxT Fs2.length 66 (n'-1)<=400000:=big16 (n:=n') (by rw[fo2.1];omega) ⋯ ⋯
   have ckf:∀C∈Cf,Ma.CK d C/\C.length<=1900000:=λ C hC'=>⟨((ok2.each _ Cf hC2).2 C hC').1,by have:=((ok2.each _ Cf hC2).2 C hC').len;omega⟩
   have u28:=u6.trans ((SameU.of s7).trans u8)
   have hE8:=hE6.u ((SameU.of s7).trans u8)
   obtain⟨vs,f1,f2,_⟩:=hE8.lst
   refine⟨_,rfl,.inl ⟨rfl,_,SqL.of f1⟩,_,rfl,_,rfl,(by show 2<=sizeLine;decide),λ r9 hr9=>?_⟩
   generalize hgH9:upd _ r9 _=H9
   revert H9
   refine qal9 hr9 λ H9 s9 e9=>?_
   refine⟨_,rfl,_,rfl,_,rfl,d,n',pt,pw,Cf,Cw,rfl,hB8.u (SameU.of s9),hB.u (u28.trans (SameU.of s9)),(ok2.each _ Cf hC2).1,lCw,ckf,ckw,lat,λ lx x H10 s10 e10 lp=>?_⟩
   have s910:=s9.trans s10
   refine⟨r9,lx,_,_,rfl,rfl,SqT.of (s10 _ _ e9),SqT.of e10,(by simp),(by show 4<=sizeLine;decide),(λ z=>(by cases z)),λ _ r11 hr11=>?_⟩
   generalize hgH11:upd _ r11 _=H11
   revert H11
   refine qal9 hr11 λ H11 s11 e11=>?_
   have s811:=s910.trans s11
   have kl:E6.length<=200:=by
    have h1:=congrArg zex kE6
    rw[zah,zal,zah,zfx] at h1
    have h2:=prs_len (S:=M.map strip) (b:=16) (λ x hx=>by
     obtain⟨y,hy,rfl⟩:=zbi.mp hx
     exact lbM y hy) i
    omega
   refine⟨pf,vs,.ref r11,rfl,rfl,s811 _ _ f1,qbe9 ⋯,E6++[((i:Int),(j:Int),x.1,x.2)],_,_,rfl,SameU.wr fpf (u28.trans (SameU.of s811)),hTB.wr _ _ _ _ (hTB.same _ _ t8 s811) (s811 _ _ f1),(hE8.same s811).append (x:=((i:Int),(j:Int),x.1,x.2)) (s811 _ _ f1) e11,?_,λ z hz=>?_⟩
   ·rw[zbs,kE6,zgk,zbs,zcd]
    rfl
   ·rcases zau.mp hz with hz|hz
    ·exact nE6 z hz
    ·rw[zag] at hz
     subst hz
     exact⟨i,j,strip m,Cf,rfl,rfl,hSx,hj',tf,lp⟩
  ·intro σ H6 z9;obtain⟨E6,v9',v10',rfl,u6,t6,hE6,kE6,nE6⟩ := z9
   refine⟨E6,_,_,_,_,rfl,u6,t6,hE6,?_,nE6⟩
   rw[kE6]
   show _=prs (M.map strip) i++_
   have:(bds (M.map strip)).getD i []=m.2.2.2:=by
    unfold bds
    rw[zas,zaf,hSx]
    rfl
   rw[this,show((us.length:Nat):Int).toNat=m.2.2.2.length by omega]
 ·intro σ H4 z9;obtain⟨E,v7,v8,v9,v10,rfl,u4,t4,hE,kE,nE⟩ := z9
  rw[w2,llM] at kE
  exact⟨_,rfl,q pf E Cw H4 (u1.trans (u2.trans u4)) t4 hE kE tvS nE⟩
def XCl(K:W.Frag)(mg:Str->Option Value)(x:Str)(C:Addr)(bm:List Value):Prop:=ExC K C bm/\mg x=some (.ref C)
theorem DvN.same{H H':Hp}{x:V}(h:DvN H x)(s:Same H H'):DvN H' x:=⟨h.1.same s,λ xs e=>by
 rw[h.1.lstV_same s] at e
 exact⟨(h.2 xs e).1,λ y hy=>((h.2 xs e).2 y hy).same s⟩⟩
theorem DvN.netV_same(h:DvN H x)(s:Same H H')(day:Int)(size:V):netV H' day size x=netV H day size x:=by
 unfold netV
 rw[h.1.lstV_same s]
 split
 ·congr 1
  cases e:lstV H x with
  |none=>rfl
  |some xs =>
   rw[zcb,zba,zba]
   exact⟨λ z y hy=>by rw[<- ((h.2 xs e).2 y hy).roadV_same s];exact z y hy,λ z y hy=>by rw[((h.2 xs e).2 y hy).roadV_same s];exact z y hy⟩
 ·rfl
inductive spNetX(CN:Addr)(vs:List V)(H:Hp)(z2q:VK)(E:XK):Prop
 |mk (d:Int) (size x:V):vs=[.int d,size,x]->Dv H size->DvN H x->netV H d size x=false->(∀H',Same H H'->E (.ref CN) none H')->spNetX CN vs H z2q E
inductive spPlaceX(CP:Addr)(vs:List V)(H:Hp)(z2q:VK)(E:XK):Prop
 |mk (size:Int) (x:V):vs=[.int size,x]->Dv H x->numV size x=false->E (.ref CP) none H->spPlaceX CP vs H z2q E
def RefA(CN CP:Addr)(d:Int)(size roads place:V)(H:Hp)(E:XK):Prop:=(Dv H size/\DvN H roads/\netV H d size roads=false/\∀H',Same H H'->E (.ref CN) none H') \/
 ∃(N:Int)(p:Addr)(Ns:List RdT),size=.int N/\roads=.ref p/\NA H p Ns/\Ns.length<=1000/\NetOk d N Ns/\1<=N/\Dv H place/\numV N place=false/\∀H',Same H H'->E (.ref CP) none H'
inductive spRef4(CN CP:Addr)(vs:List V)(H:Hp)(z2q:VK)(E:XK):Prop
 |mk (d:Int) (size roads place:V):vs=[.int d,size,roads,place]->RefA CN CP d size roads place H E->spRef4 CN CP vs H z2q E
section
variable {bm bmP:List Value}
abbrev spNetB(CN:Addr):Sp:=λ vs H Q E=>spNeedNet vs H Q E\/spNetX CN vs H Q E
abbrev spPlaceB(CP:Addr):Sp:=λ vs H Q E=>spNeedPlace vs H Q E\/spPlaceX CP vs H Q E
theorem qjz9(X_NoNet:XCl K mg "NoNet" CN bm)(F:Fun K "need_net" "need_net" qcs9 f fd)(Cw0:Callee P w K mg base n "is_net" ["day","size","roads"] spIsNet):FnOk P w K mg base (CXE P w) (n+1) f fd ["day","size","roads"] (spNetX CN):=by
 refine F.okX qhy9 (λ vs H Q E h=>?_) (λ cdv A outer s H vs Q E hr h=>?_)
 ·obtain⟨_,_,_,rfl,_⟩:=h
  rfl
 obtain⟨d,size,x,rfl,dv,dn,hb,q⟩:=h
 refine⟨_,(qae9 (qs_if (qea9 (qcb9 (qe_fn Cw0 hr rfl (qa_c (qv 0) (qa_c (qv 1) (qa_c (qv 2) qaa9)))))) (qae9 (qih9 makeE X_NoNet.1 rfl X_NoNet.2 (qa_c qkb9 qaa9))) qat9)),?_⟩
 walk_at "d"
 refine⟨_,rfl,_,rfl,_,rfl,d,size,x,rfl,dv,dn,λ H1 s1=>?_⟩
 rw[hb]
 exact⟨_,rfl,iteT ⟨by decide,q H1 s1⟩⟩
theorem qic9(X_NoPlace:XCl K mg "NoPlace" CP bmP)(F:Fun K "need_place" "need_place" qbu9 f fd)(Cb0:Callee P w K mg base n "is_number" ["count","thing"] spNumber):FnOk P w K mg base (CXE P w) (n+1) f fd ["size","thing"] (spPlaceX CP):=by
 refine F.okX qgc9 (λ vs H Q E h=>?_) (λ cdv A outer s H vs Q E hr h=>?_)
 ·obtain⟨_,_,rfl,_⟩:=h
  rfl
 obtain⟨N,x,rfl,dv,hb,q⟩:=h
 refine⟨_,(qae9 (qs_if (qea9 (qcb9 (qe_fn Cb0 hr rfl (qa_c (qv 0) (qa_c (qv 1) qaa9))))) (qae9 (qih9 makeE X_NoPlace.1 rfl X_NoPlace.2 (qa_c qkb9 qaa9))) qat9)),?_⟩
 walk_at "d"
 refine⟨_,rfl,_,rfl,N,x,rfl,dv,?_⟩
 rw[hb]
 exact⟨_,rfl,iteT ⟨by decide,q⟩⟩
theorem qon9(F:Fun K "rounds" "rounds" qdx9 f fd)(CX_need_net:CalleeX P w K mg base n "need_net" ["day","size","roads"] (spNetB CN))(CX_need_place:CalleeX P w K mg base n "need_place" ["size","thing"] (spPlaceB CP)):FnOk P w K mg base (CXE P w) (n+1) f fd ["day","size","roads","goal"] (spRef4 CN CP):=by
 refine F.okX qlg9 (λ vs H Q E h=>?_) (λ cdv A outer s H vs Q E hr h=>?_)
 ·obtain⟨_,_,_,_,rfl,_⟩:=h
  rfl
 obtain⟨d,size,roads,place,rfl,alt⟩:=h
 refine⟨_,qab9 (qbi9 (qib9 CX_need_net hr rfl passE (qa_c (qv 0) (qa_c (qv 1) (qa_c (qv 2) qaa9))))) (qab9 (qbi9 (qib9 CX_need_place hr rfl passE (qa_c (qv 1) (qa_c (qv 3) qaa9)))) qff9),?_⟩
 rcases alt with⟨dv,dn,hb,q⟩|⟨N,p,Ns,rfl,rfl,hN,hl,nok,n1,dv,hb,q⟩
 ·exact⟨_,rfl,_,rfl,_,rfl,.inr ⟨d,size,roads,rfl,dv,dn,hb,q⟩⟩
 ·exact⟨_,rfl,_,rfl,_,rfl,.inl ⟨d,N,p,Ns,rfl,hN,hl,nok,n1,λ H1 s1=>⟨_,rfl,_,rfl,.inr ⟨N,place,rfl,dv.same s1,hb,q H1 s1⟩⟩⟩⟩
theorem ok_tableX(F:Fun K "table" "table" qeu9 f fd)(CX_rounds:CalleeX P w K mg base n "rounds" ["day","size","roads","goal"] (spRef4 CN CP)):FnOk P w K mg base (CXE P w) (n+1) f fd ["day","size","roads","goal"] (spRef4 CN CP):=by
 refine F.okX qpv9 (λ vs H Q E h=>?_) (λ cdv A outer s H vs Q E hr h=>?_)
 ·obtain⟨_,_,_,_,rfl,_⟩:=h
  rfl
 obtain⟨d,size,roads,place,rfl,alt⟩:=h
 refine⟨_,(qae9 (qao9 (qe_ix qaj9 (qib9 CX_rounds hr rfl passE (qa_c (qv 0) (qa_c (qv 1) (qa_c (qv 2) (qa_c (qv 3) qaa9))))) (qem9 qac9) (λ _ _=>rfl)))),?_⟩
 walk_at "d"
 exact⟨_,rfl,_,rfl,_,rfl,_,rfl,d,size,roads,place,rfl,alt⟩
theorem qhv9(F:Fun K "thinned" "thinned" qdh9 f fd)(CX_table:CalleeX P w K mg base n "table" ["day","size","roads","goal"] (spRef4 CN CP)):FnOk P w K mg base (CXE P w) (n+1) f fd ["day","size","roads","goal"] (spRef4 CN CP):=by
 refine F.okX sc_thinned (λ vs H Q E h=>?_) (λ cdv A outer s H vs Q E hr h=>?_)
 ·obtain⟨_,_,_,_,rfl,_⟩:=h
  rfl
 obtain⟨d,size,roads,place,rfl,alt⟩:=h
 refine⟨_,qab9 (qai9 (i:=4) sc_thinned.nd rfl (zai rfl) (qib9 CX_table hr rfl passE (qa_c (qv 0) (qa_c (qv 1) (qa_c (qv 2) (qa_c (qv 3) qaa9)))))) qff9,?_⟩
 exact⟨_,rfl,_,rfl,_,rfl,_,rfl,d,size,roads,place,rfl,alt⟩
theorem ok_needsX(F:Fun K "needs" "needs" qew9 f fd)(CX_thinned:CalleeX P w K mg base n "thinned" ["day","size","roads","goal"] (spRef4 CN CP)):FnOk P w K mg base (CXE P w) (n+1) f fd ["day","size","roads","goal"] (spRef4 CN CP):=by
 refine F.okX sc_needs (λ vs H Q E h=>?_) (λ cdv A outer s H vs Q E hr h=>?_)
 ·obtain⟨_,_,_,_,rfl,_⟩:=h
  rfl
 obtain⟨d,size,roads,place,rfl,alt⟩:=h
 refine⟨_,qab9 (qai9 (i:=4) sc_needs.nd rfl (zai rfl) (qib9 CX_thinned hr rfl passE (qa_c (qv 0) (qa_c (qv 1) (qa_c (qv 2) (qa_c (qv 3) qaa9)))))) qff9,?_⟩
 exact⟨_,rfl,_,rfl,_,rfl,_,rfl,d,size,roads,place,rfl,alt⟩
end
def geV:V->Bool
 | .int k=>decide (0<=k)
 |_=>false
def memL(size:Int):List V->Bool
 | [a,b]=>numV size a&&geV b
 |_=>false
def memV(H:Hp)(size:Int)(x:V):Bool:=match tupV H x with
 |some xs=>memL size xs
 |none=>false
inductive spMemB(vs:List V)(H:Hp)(Q:VK)(z3q:XK):Prop
 |mk (size:Int) (x:V):vs=[.int size,x]->Dv2 H x->Q (.bl (memV H size x)) H->spMemB vs H Q z3q
theorem memL_ne:∀{xs:List V},xs.length≠2->memL size xs=false
 | [],_=>rfl
 | [_],_=>rfl
 | [_,_],h=>absurd rfl h
 |_::_::_::_,_=>rfl
theorem qqb9(F:Fun K "is_member" "is_member" qca9 f fd)(B:Bl mg)(Cb0:Callee P w K mg base n "is_number" ["count","thing"] spNumber)(Cd0:Callee P w K mg base n "is_whole" ["thing"] spIsWhole):FnOk P w K mg base CX0 (n+1) f fd ["size","thing"] spMemB:=by
 refine F.okQ qgq9 (λ vs H Q E h=>?_) (λ cdv A outer s H vs Q E hr h=>?_)
 ·obtain⟨_,_,rfl,_⟩:=h
  rfl
 obtain⟨size,x,rfl,dv,q⟩:=h
 refine⟨_,(qab9 (qs_if (QW.pt (qw_or (qea9 (qcb9 (qe_cb qde9 rfl B.isinstance qak9 (qa_c (qv 1) (qa_c (qfk9 (v:=.ty "tuple") rfl B.tuple_ qft9 rfl) qaa9))))) (qer9 (qam9 qop_ne (qe_cb qap9 rfl B.len qcc9 (qa_c (qv 1) qaa9)) qac9 (qau9 _))))) (qae9 (qao9 qe_bl)) qat9) (qae9 (qao9 (qie9 (qe_fn Cb0 hr rfl (qa_c (qv 0) (qa_c (qe_ix qas9 (qv 1) qac9 (λ _ _=>rfl)) qaa9))) (qie9 (qe_fn Cd0 hr rfl (qa_c (qe_ix qas9 (qv 1) qac9 (λ _ _=>rfl)) qaa9)) (qiz9 (qja9 qop_ge (qe_ix qas9 (qv 1) qac9 (λ _ _=>rfl)) qac9 (qau9 _)))))))),?_⟩
 walk_at "d"
 obtain⟨t,hty,hk⟩:=dv.1.isTup (K:=K)
 have q0:memV H size x=false->Q (.bl false) H:=λ e=>by
  rw[e] at q
  exact q
 cases ht:tupV H x with
 |none =>
  rw[ht] at hk
  exact⟨_,rfl,_,"tuple",t,_,rfl,hty,hk,_,rfl,iteT (iteT (q0 (by unfold memV;rw[ht])))⟩
 |some xs =>
  rw[ht] at hk
  have hwl:memV H size x=memL size xs:=by unfold memV;rw[ht]
  have dz:=dv.2 xs ht
  obtain⟨r,rfl,er⟩:=qhw9 ht
  refine⟨_,rfl,_,"tuple",t,_,rfl,hty,hk,_,rfl,iteF ?_⟩
  refine⟨_,rfl,r,xs,rfl,.inr (SqT.of er),rfl,_,rfl,?_⟩
  by_cases hl:xs.length=2
  ·obtain⟨u,v,rfl⟩:∃u v,xs=[u,v]:=match xs,hl with | [u,v],_=>⟨u,v,rfl⟩
   refine iteN (by simp) ?_
   have eL:memL size [u,v]=(numV size u&&geV v):=rfl
   rw[eL] at hwl
   refine⟨_,rfl,_,rfl,r,_,_,_,rfl,rfl,SqT.of er,rfl,size,u,rfl,dz u (by simp),_,rfl,?_⟩
   cases hu:numV size u with
   |false=>exact iteF (q0 (by rw[hwl,hu];rfl))
   |true =>
    refine iteT ⟨_,rfl,r,_,_,_,rfl,rfl,SqT.of er,rfl,v,rfl,dz v (by simp),_,rfl,?_⟩
    cases hv:isWh v with
    |false=>exact iteF (q0 (by
      rw[hwl,hu]
      cases v<;>first|rfl|cases hv))
    |true =>
     obtain⟨k,rfl⟩:∃k,v=.int k:=by
      cases v<;>first|exact⟨_,rfl⟩|cases hv
     rw[hwl,hu] at q
     exact iteT ⟨_,rfl,r,_,_,_,rfl,rfl,SqT.of er,rfl,_,_,rfl,rfl,q⟩
  ·refine iteP (by simp;omega) ?_
   exact q0 (by rw[hwl];exact memL_ne hl)
def DvP(H:Hp)(x:V):Prop:=Dv H x/\∀xs,lstV H x=some xs->xs.length<=1000/\∀y∈xs,Dv2 H y
def qfq9(H:Hp)(size:Int)(x:V):Bool:=match lstV H x with
 |some xs=>decide (1<=xs.length/\xs.length<=6)&&xs.all (memV H size)
 |none=>false
inductive spPartyX(CP:Addr)(vs:List V)(H:Hp)(z2q:VK)(E:XK):Prop
 |mk (size:Int) (x:V):vs=[.int size,x]->DvP H x->qfq9 H size x=false->(∀H',Same H H'->E (.ref CP) none H')->spPartyX CP vs H z2q E
theorem Dv2.memV_same(h:Dv2 H x)(s:Same H H')(size:Int):memV H' size x=memV H size x:=by
 unfold memV
 rw[h.1.tupV_same s]
section
variable {bm bmP:List Value}
theorem qin9(X_NoPlace:XCl K mg "NoPlace" CP bmP)(F:Fun K "need_party" "need_party" qbs9 f fd)(B:Bl mg)(Cv0:Callee P w K mg base n "is_member" ["size","thing"] spMemB):FnOk P w K mg base (CXE P w) (n+1) f fd ["size","thing"] (spPartyX CP):=by
 refine F.okX qgg9 (λ vs H Q E h=>?_) (λ cdv A outer s H vs Q E hr h=>?_)
 ·obtain⟨_,_,rfl,_⟩:=h
  rfl
 obtain⟨size,x,rfl,dv,hb,q⟩:=h
 refine⟨_,(qab9 (qs_if (QW.pt (qw_or (qea9 (qcb9 (qe_cb qde9 rfl B.isinstance qak9 (qa_c (qv 1) (qa_c (qfk9 (v:=.ty "list") rfl B.list_ qfy9 rfl) qaa9))))) (qer9 (qea9 (qnr9 qhe9 qhe9 qac9 (qe_cb qap9 rfl B.len qcc9 (qa_c (qv 1) qaa9)) qac9))))) (qae9 (qih9 makeE X_NoPlace.1 rfl X_NoPlace.2 (qa_c qkb9 qaa9))) qat9) (qae9 (qs_if (qea9 (qcb9 (qe_cb (qfa9 rfl) rfl B.all qmd9 (qa_c (qej9 ["part","size"] [none,some 0] (BlkOk.of rfl rfl (SubL.to (subC rfl subN)) rfl) rfl (qcv9 (qv 1)) (λ _ _ _ _=>(qar9 (i:=0) (show(["part","size"]:List Str).Nodup by decide) rfl (zai rfl))) (λ _ _ _ _=>(qe_fn Cv0 hr rfl (qa_c (qv 1) (qa_c (qv 0) qaa9))))) qaa9)))) (qae9 (qih9 makeE X_NoPlace.1 rfl X_NoPlace.2 (qa_c qkb9 qaa9))) qat9))),?_⟩
 walk_at "d"
 obtain⟨t,hty,hk⟩:=dv.1.isLst (K:=K)
 unfold qfq9 at hb
 cases ht:lstV H x with
 |none =>
  rw[ht] at hk
  exact⟨_,rfl,_,"list",t,_,rfl,hty,hk,_,rfl,iteT (iteT ⟨by decide,q H (Same.refl H)⟩)⟩
 |some xs =>
  rw[ht] at hk hb
  obtain⟨hlen,dz⟩:=dv.2 xs ht
  obtain⟨p,rfl,ep⟩:=qhm9 ht
  refine⟨_,rfl,_,"list",t,_,rfl,hty,hk,_,rfl,iteF ?_⟩
  refine⟨_,rfl,p,_,rfl,.inl (SqL.of ep),_,_,rfl,rfl,_,rfl,ite2 (λ c1=>?_) (λ c1=>?_)⟩
  ·refine⟨_,_,rfl,rfl,_,rfl,ite2 (λ c2=>?_) (λ c2=>?_)⟩
   ·exact⟨by decide,q H (Same.refl H)⟩
   have all0:xs.all (memV H size)=false:=by
    rw[Bool.and_eq_false_iff] at hb
    rcases hb with z|z
    ·have:=of_decide_eq_false z
     simp at c1 c2
     omega
    ·exact z
   refine⟨_,rfl,p,rfl,⟨_,SqL.of ep⟩,?_⟩
   refine qbz9 (K:=K) (a:=p) (xs:=xs) (λ D i H'=>Same H H'/\H' D=some (.lst (((xs.take i).map (memV H size)).map V.bl))) (λ D hD=>⟨qan9 hD _,qaf9⟩) (λ D i H' _ _ h=>SqL.of (h.1 _ _ ep)) ?_ ?_
   ·intro D i y H' hD hi z9;obtain⟨s2,hD2⟩ := z9
    have d2:=dz y (zac hi)
    refine⟨λ k v' e=>?_,?_⟩
    ·match k,e with
     |0,e=>cases e
     |1,e=>exact e
     |k+2,e=>cases e
    refine⟨_,rfl,_,rfl,size,y,rfl,d2.same s2,_,hD2,qbe9 (by rw[zah,zah,zbf];omega),qci9 hD s2,?_⟩
    rw[qaf9,qei9 _ hi,d2.memV_same s2,zbs]
    rfl
   ·intro D H' hD z9;obtain⟨s2,hD2⟩ := z9
    rw[zbq] at hD2
    refine⟨D,_,rfl,SqL.of hD2,?_⟩
    rw[show((xs.map (memV H size)).all id)=false by rw[zfg];exact all0]
    exact⟨_,rfl,iteT ⟨by decide,q H' s2⟩⟩
  ·exact⟨_,rfl,iteT ⟨by decide,q H (Same.refl H)⟩⟩
end
theorem DvP.same{H H':Hp}{x:V}(h:DvP H x)(s:Same H H'):DvP H' x:=⟨h.1.same s,λ xs e=>by
 rw[h.1.lstV_same s] at e
 exact⟨(h.2 xs e).1,λ y hy=>((h.2 xs e).2 y hy).same s⟩⟩
theorem DvP.partyV_same(h:DvP H x)(s:Same H H')(size:Int):qfq9 H' size x=qfq9 H size x:=by
 unfold qfq9
 rw[h.1.lstV_same s]
 cases e:lstV H x with
 |none=>rfl
 |some xs =>
  show(_&&_)=(_&&_)
  congr 1
  rw[zcb,zba,zba]
  exact⟨λ z y hy=>by rw[<- ((h.2 xs e).2 y hy).memV_same s];exact z y hy,λ z y hy=>by rw[((h.2 xs e).2 y hy).memV_same s];exact z y hy⟩
def RefP(CN CP:Addr)(d:Int)(size roads party:V)(H:Hp)(E:XK):Prop:=(Dv H size/\DvN H roads/\netV H d size roads=false/\∀H',Same H H'->E (.ref CN) none H') \/
 ∃(N:Int)(p:Addr)(Ns:List RdT),size=.int N/\roads=.ref p/\NA H p Ns/\Ns.length<=1000/\NetOk d N Ns/\1<=N/\DvP H party/\qfq9 H N party=false/\∀H',Same H H'->E (.ref CP) none H'
inductive spBSX(CN CP:Addr)(vs:List V)(H:Hp)(z2q:VK)(E:XK):Prop
 |mk (d:Int) (size roads party:V):vs=[.int d,size,roads,party]->RefP CN CP d size roads party H E->spBSX CN CP vs H z2q E
inductive spMAX(CN CP:Addr)(vs:List V)(H:Hp)(z2q:VK)(E:XK):Prop
 |mk (d:Int) (size roads party:V) (t:Int):vs=[.int d,size,roads,party,.int t]->RefP CN CP d size roads party H E->spMAX CN CP vs H z2q E
theorem qjq9(F:Fun K "tables_by_start" "tables_by_start" qay9 f fd)(CX_need_net:CalleeX P w K mg base n "need_net" ["day","size","roads"] (spNetB CN))(CX_need_party:CalleeX P w K mg base n "need_party" ["size","thing"] (spPartyX CP)):FnOk P w K mg base (CXE P w) (n+1) f fd ["day","size","roads","party"] (spBSX CN CP):=by
 refine F.okX sc_tables_by_start (λ vs H Q E h=>?_) (λ cdv A outer s H vs Q E hr h=>?_)
 ·obtain⟨_,_,_,_,rfl,_⟩:=h
  rfl
 obtain⟨d,size,roads,party,rfl,alt⟩:=h
 refine⟨_,qab9 (qbi9 (qib9 CX_need_net hr rfl passE (qa_c (qv 0) (qa_c (qv 1) (qa_c (qv 2) qaa9))))) (qab9 (qbi9 (qib9 CX_need_party hr rfl passE (qa_c (qv 1) (qa_c (qv 3) qaa9)))) qff9),?_⟩
 rcases alt with⟨dv,dn,hb,q⟩|⟨N,p,Ns,rfl,rfl,hN,hl,nok,n1,dv,hb,q⟩
 ·exact⟨_,rfl,_,rfl,_,rfl,.inr ⟨d,size,roads,rfl,dv,dn,hb,q⟩⟩
 ·exact⟨_,rfl,_,rfl,_,rfl,.inl ⟨d,N,p,Ns,rfl,hN,hl,nok,n1,λ H1 s1=>⟨_,rfl,_,rfl,N,party,rfl,dv.same s1,by rw[dv.partyV_same s1];exact hb,λ H2 s2=>q H2 (s1.trans s2)⟩⟩⟩
theorem qmw9(F:Fun K "meeting" "meeting" qdk9 f fd)(CX_tables_by_start:CalleeX P w K mg base n "tables_by_start" ["day","size","roads","party"] (spBSX CN CP)):FnOk P w K mg base (CXE P w) (n+1) f fd ["day","size","roads","party"] (spBSX CN CP):=by
 refine F.okX sc_meeting (λ vs H Q E h=>?_) (λ cdv A outer s H vs Q E hr h=>?_)
 ·obtain⟨_,_,_,_,rfl,_⟩:=h
  rfl
 obtain⟨d,size,roads,party,rfl,alt⟩:=h
 refine⟨_,qab9 (qai9 (i:=4) sc_meeting.nd rfl (zai rfl) (qib9 CX_tables_by_start hr rfl passE (qa_c (qv 0) (qa_c (qv 1) (qa_c (qv 2) (qa_c (qv 3) qaa9)))))) qff9,?_⟩
 exact⟨_,rfl,_,rfl,_,rfl,_,rfl,d,size,roads,party,rfl,alt⟩
theorem qmx9(F:Fun K "meet_at" "meet_at" qdg9 f fd)(CX_tables_by_start:CalleeX P w K mg base n "tables_by_start" ["day","size","roads","party"] (spBSX CN CP)):FnOk P w K mg base (CXE P w) (n+1) f fd ["day","size","roads","party","t"] (spMAX CN CP):=by
 refine F.okX sc_meet_at (λ vs H Q E h=>?_) (λ cdv A outer s H vs Q E hr h=>?_)
 ·obtain⟨_,_,_,_,_,rfl,_⟩:=h
  rfl
 obtain⟨d,size,roads,party,t,rfl,alt⟩:=h
 refine⟨_,qab9 (qai9 (i:=5) sc_meet_at.nd rfl (zct rfl) (qib9 CX_tables_by_start hr rfl passE (qa_c (qv 0) (qa_c (qv 1) (qa_c (qv 2) (qa_c (qv 3) qaa9)))))) qff9,?_⟩
 exact⟨_,rfl,_,rfl,_,rfl,_,rfl,d,size,roads,party,rfl,alt⟩
def exkB(K:W.Frag)(D:Addr):Bool:=(W.clsIn K D).isSome&&(W.findIn K (.ref D) "__getattribute__"==some (some (.builtin "BaseException.__getattribute__"))&&(W.findIn K (.ref D) "__getattr__"==some none&&(W.findIn K (.ref D) "__class__"==some (some (.builtin "object.__class__")) &&
 (W.specialIn K (.builtin "object.__class__") "__get__"==some (some (.builtin "getset_descriptor.__get__"))&&(W.takesIn K (.builtin "object.__class__")==some true&&(W.mroIn K D (.type "object")==some true&&W.mroIn K D (.type "BaseException")==some true))))))
theorem exk_of(h:exkB K D=true):ExK K D:=by
 simp only[exkB,zbm,beq_iff_eq] at h
 obtain⟨a,b,c,d,e,f,g,i⟩:=h
 exact⟨a,b,c,d,e,f,g,i⟩
def isB(K:W.Frag)(D c:Addr)(y:Bool):Bool:=(y&&Nat.beq D c)||(!y&&(!Nat.beq D c&&((W.clsIn K c).isSome&&(W.typeIn K (.ref c)==some (.type "type")&&W.subIn K (.ref D) (.ref c)==some false))))
theorem kit_is{y:Bool}(h:isB K D c y=true):W.kitOne K (.ref D) (.ref c)=some y:=by
 cases y with
 |true =>
  simp only[isB,zcp,zfp,zda,Bool.or_false] at h
  have:D=c:=Nat.eq_of_beq_eq_true h
  subst this
  exact kit_self
 |false =>
  simp only[isB,zda,zgn,zcp,zfq,zbm,beq_iff_eq] at h
  obtain⟨ne,hs,t,s⟩:=h
  obtain⟨cd,hc⟩:=zcf.mp hs
  refine kit_no hc t s λ z=>?_
  subst z
  simp at ne
def kindB(K:W.Frag)(D:Addr)(cs:List (Addr×Bool)):Bool:=exkB K D&&(W.kitMeta "ValueError"&&(W.subIn K (.ref D) (.type "ValueError")==some true&&cs.all λ c=>isB K D c.1 c.2))
structure Kd(K:W.Frag)(D:Addr)(cs:List (Addr×Bool)):Prop where
 ek:ExK K D
 kv:W.kitOne K (.ref D) (.type "ValueError")=some true
 ks:∀c∈cs,W.kitOne K (.ref D) (.ref c.1)=some c.2
theorem kd_of{cs:List (Addr×Bool)}(h:kindB K D cs=true):Kd K D cs:=by
 simp only[kindB,zbm,beq_iff_eq] at h
 obtain⟨a,b,c,d⟩:=h
 exact⟨exk_of a,kit_ty b c,λ c hc=>kit_is (zba.mp d c hc)⟩
theorem qfz9:bootBuiltins "ValueError"=some (.type "ValueError"):=by decide +kernel
structure Mgs(mg:Str->Option Value)(cb cn cp cr ct cx cw cm co:Addr):Prop where
 ve:mg "ValueError"=none
 b:mg "NoBoard"=some (.ref cb)
 n:mg "NoNet"=some (.ref cn)
 p:mg "NoPlace"=some (.ref cp)
 r:mg "NoRoad"=some (.ref cr)
 t:mg "NoTurn"=some (.ref ct)
 x:mg "NoText"=some (.ref cx)
 w:mg "NoRow"=some (.ref cw)
 m:mg "NoName"=some (.ref cm)
 o:mg "NoWindow"=some (.ref co)
abbrev due73(cb cn cp cr ct cx cw cm co:Addr)(i:Nat):List (Addr×Bool):=[(cb,false),(cn,i==1),(cp,i==2),(cr,false),(ct,false),(cx,false),(cw,false),(cm,false),(co,false)]
inductive spOther(K:W.Frag)(cb cn cp cr ct cx cw cm co:Addr)(vs:List V)(H:Hp)(Q:VK)(z3q:XK):Prop
 |mk (a D:Addr) (i:Nat):vs=[.ref a]->H a=some (.ext (ExQ a D))->Kd K D (due73 cb cn cp cr ct cx cw cm co i)->Q (.bl false) H->spOther K cb cn cp cr ct cx cw cm co vs H Q z3q
section
variable {ct:Addr}
theorem ok_other(ms:Mgs mg cb cn cp cr ct cx cw cm co)(F:Fun K "_law_other" "_law_other" qcm9 f fd)(B:Bl mg):FnOk P w K mg base CX0 (n+1) f fd ["e"] (spOther K cb cn cp cr ct cx cw cm co):=by
 refine F.okQ qjm9 (λ vs H Q E h=>?_) (λ cdv A outer s H vs Q E hr h=>?_)
 ·obtain⟨_,_,_,rfl,_⟩:=h
  rfl
 obtain⟨a,D,i,rfl,e,kd,q⟩:=h
 refine⟨_,(qab9 (qs_if (QW.pt (qw_or (qcb9 (qe_cb qbq9 rfl B.isinstance qak9 (qa_c (qv 0) (qa_c (qha9 rfl ms.b) qaa9)))) (qw_or (qcb9 (qe_cb qbq9 rfl B.isinstance qak9 (qa_c (qv 0) (qa_c (qha9 rfl ms.r) qaa9)))) (qw_or (qcb9 (qe_cb qbq9 rfl B.isinstance qak9 (qa_c (qv 0) (qa_c (qha9 rfl ms.t) qaa9)))) (qer9 (qcb9 (qe_cb qbq9 rfl B.isinstance qak9 (qa_c (qv 0) (qa_c (qha9 rfl ms.x) qaa9))))))))) (qae9 (qao9 qe_bl)) qat9) (qae9 (qao9 (qe_or (qe_cb qbq9 rfl B.isinstance qak9 (qa_c (qv 0) (qa_c (qha9 rfl ms.w) qaa9))) (qe_or (qe_cb qbq9 rfl B.isinstance qak9 (qa_c (qv 0) (qa_c (qha9 rfl ms.m) qaa9))) (qiz9 (qe_cb qbq9 rfl B.isinstance qak9 (qa_c (qv 0) (qa_c (qha9 rfl ms.o) qaa9))))))))),?_⟩
 walk_at "d"
 have kb:W.kitOne K (.ref D) (.ref cb)=some false:=kd.ks (cb,false) (by simp)
 have kr:W.kitOne K (.ref D) (.ref cr)=some false:=kd.ks (cr,false) (by simp)
 have kt:W.kitOne K (.ref D) (.ref ct)=some false:=kd.ks (ct,false) (by simp)
 have kx:W.kitOne K (.ref D) (.ref cx)=some false:=kd.ks (cx,false) (by simp)
 have kw:W.kitOne K (.ref D) (.ref cw)=some false:=kd.ks (cw,false) (by simp)
 have km:W.kitOne K (.ref D) (.ref cm)=some false:=kd.ks (cm,false) (by simp)
 have ko:W.kitOne K (.ref D) (.ref co)=some false:=kd.ks (co,false) (by simp)
 refine⟨_,rfl,a,D,_,false,rfl,e,kd.ek,.inl ⟨_,rfl,kb⟩,_,rfl,iteF ?_⟩
 refine⟨_,rfl,a,D,_,false,rfl,e,kd.ek,.inl ⟨_,rfl,kr⟩,_,rfl,iteF ?_⟩
 refine⟨_,rfl,a,D,_,false,rfl,e,kd.ek,.inl ⟨_,rfl,kt⟩,_,rfl,iteF ?_⟩
 refine⟨_,rfl,a,D,_,false,rfl,e,kd.ek,.inl ⟨_,rfl,kx⟩,_,rfl,iteF ?_⟩
 refine⟨_,rfl,a,D,_,false,rfl,e,kd.ek,.inl ⟨_,rfl,kw⟩,_,rfl,iteF ?_⟩
 refine⟨_,rfl,a,D,_,false,rfl,e,kd.ek,.inl ⟨_,rfl,km⟩,_,rfl,iteF ?_⟩
 exact⟨_,rfl,a,D,_,false,rfl,e,kd.ek,.inl ⟨_,rfl,ko⟩,q⟩
end
def Cl(K:W.Frag)(CF:Addr)(L:Nat->List (Addr×Bool))(D:Addr)(i:Nat):Prop:=∃bm,ExC K D bm/\(Value.ref D::bm).contains (.ref CF)=true/\Kd K D (L i)
abbrev spMeetB(T:Hp->Prop)(CN CP:Addr):Sp:=λ vs H Q E=>spMeetingP T vs H Q E\/spBSX CN CP vs H Q E
abbrev qkw9(T:Hp->Prop)(CN CP:Addr):Sp:=λ vs H Q E=>spMeetAt T vs H Q E\/spMAX CN CP vs H Q E
abbrev spThinB(T:Hp->Prop)(CN CP:Addr):Sp:=λ vs H Q E=>spThin T vs H Q E\/spRef4 CN CP vs H Q E
abbrev qom9(T:Hp->Prop)(CN CP:Addr):Sp:=λ vs H Q E=>spNeeds T vs H Q E\/spRef4 CN CP vs H Q E
def RefW(CN CP:Addr)(way d:Int)(size roads last:V)(H:Hp)(E:XK):Prop:=(way<2->RefP CN CP d size roads last H E)/\(¬way<2->RefA CN CP d size roads last H E)
inductive spRefuX(CN CP:Addr)(vs:List V)(H:Hp)(Q:VK)(z3q:XK):Prop
 |mk (way d:Int) (size roads last:V) (G:Addr) (i:Nat):vs=[.int way,.int d,size,roads,last]->0<=way->way<4->(((G=CN/\i=1)\/(G=CP/\i=2)))->(RefW CN CP way d size roads last H (λ cls _ H'=>cls=.ref G/\Same H H'))->(∀(l:Addr)(H':Hp),Same H H'->H' l=some (.tup [.bl true,.bl (i==1),.bl (i==2),.bl false])->Q (.ref l) H')->spRefuX CN CP vs H Q z3q
section
variable {ct:Addr}
theorem qmf9(ms:Mgs mg cb cn cp cr ct cx cw cm co)(X_FordError:XCl K mg "FordError" CF bmF)(l1:Cl K CF (due73 cb cn cp cr ct cx cw cm co) cn 1)(l2:Cl K CF (due73 cb cn cp cr ct cx cw cm co) cp 2)(F:Fun K "_law_refused" "_law_refused" qbh9 f fd)(B:Bl mg)(CX_meeting:CalleeX P w K mg base n "meeting" ["day","size","roads","party"] (spMeetB T cn cp))(CX_meet_at:CalleeX P w K mg base n "meet_at" ["day","size","roads","party","t"] (qkw9 T cn cp))(CX_thinned:CalleeX P w K mg base n "thinned" ["day","size","roads","goal"] (spThinB T cn cp))(CX_needs:CalleeX P w K mg base n "needs" ["day","size","roads","goal"] (qom9 T cn cp))(Cm0:Callee P w K mg base n "_law_other" ["e"] (spOther K cb cn cp cr ct cx cw cm co))(Cm1:Callee P w K mg base n "_law_other" ["e"] (spOther K cb cn cp cr ct cx cw cm co)):FnOk P w K mg base CX0 (n+1) f fd ["way","day","size","roads","last"] (spRefuX cn cp):=by
 refine F.okQ sc__law_refused (λ vs H Q E h=>?_) (λ cdv A outer s H vs Q E hr h=>?_)
 ·obtain⟨_,_,_,_,_,_,_,rfl,_⟩:=h
  rfl
 obtain⟨way,d,size,roads,last,G,i,rfl,w0,w4,gi,rf,q⟩:=h
 obtain⟨bmG,xG,subG,kdG⟩:Cl K CF (due73 cb cn cp cr ct cx cw cm co) G i:=by
  rcases gi with⟨rfl,rfl⟩|⟨rfl,rfl⟩
  ·exact l1
  ·exact l2
 refine⟨_,(qab9 (qai9 (i:=5) sc__law_refused.nd rfl (zai rfl) qen9) (qab9 (qng9 (i:=6) (qmu9 (qam9 qcf9 (qv 0) qac9 (qau9 _)) (qep9 (qiw9 CX_meeting hr rfl (qa_c (qv 1) (qa_c (qv 2) (qa_c (qv 3) (qa_c (qv 4) qaa9)))))) (qmu9 (qam9 qcf9 (qv 0) qac9 (qau9 _)) (qep9 (qiw9 CX_meet_at hr rfl (qa_c (qv 1) (qa_c (qv 2) (qa_c (qv 3) (qa_c (qv 4) (qa_c qac9 qaa9))))))) (qmu9 (qam9 qcf9 (qv 0) qac9 (qau9 _)) (qep9 (qiw9 CX_thinned hr rfl (qa_c (qv 1) (qa_c (qv 2) (qa_c (qv 3) (qa_c (qv 4) qaa9)))))) (qep9 (qiw9 CX_needs hr rfl (qa_c (qv 1) (qa_c (qv 2) (qa_c (qv 3) (qa_c (qv 4) qaa9))))))))) X_FordError.1 rfl X_FordError.2 own0 (λ _=>(qae9 (qai9 (i:=5) sc__law_refused.nd rfl (zai rfl) (qv 6)))) sc__law_refused.nd rfl rfl) (qab9 (qs_if (qt_isN (qv 5)) (qae9 (qao9 (qbd9 qaa9))) qat9) (qae9 (qao9 (qbd9 (qa_c (qe_cb qbq9 rfl B.isinstance qak9 (qa_c (qv 5) (qa_c (qe_tyB rfl ms.ve qfz9) qaa9))) (qa_c (qe_cb qbq9 rfl B.isinstance qak9 (qa_c (qv 5) (qa_c (qha9 rfl ms.n) qaa9))) (qa_c (qe_cb qbq9 rfl B.isinstance qak9 (qa_c (qv 5) (qa_c (qha9 rfl ms.p) qaa9))) (qa_c (qe_fn Cm1 hr rfl (qa_c (qv 5) qaa9)) qaa9)))))))))),?_⟩
 walk_at "d"
 refine⟨λ cls _ H'=>cls=.ref G/\Same H H',G,bmG,?_,λ cls H' z=>z.1,xG,subG,?_⟩
 ·have wE:∀{k:Int},decide (V.int way=V.int k)=true↔way=k:=by
   intro k
   rw[decide_eq_true_eq]
   exact⟨λ z=>by injection z,λ z=>by rw[z]⟩
  refine⟨_,rfl,rfl,_,rfl,ite2 (λ c=>?_) (λ c=>?_)⟩
  ·have c':=wE.mp c
   exact⟨_,rfl,_,rfl,_,rfl,_,rfl,.inr ⟨d,size,roads,last,rfl,rf.1 ⋯⟩⟩
  have c0:¬way=0:=λ z=>c (wE.mpr z)
  refine⟨_,rfl,rfl,_,rfl,ite2 (λ c=>?_) (λ c=>?_)⟩
  ·have c':=wE.mp c
   exact⟨_,rfl,_,rfl,_,rfl,_,rfl,.inr ⟨d,size,roads,last,5,rfl,rf.1 ⋯⟩⟩
  have c1:¬way=1:=λ z=>c (wE.mpr z)
  refine⟨_,rfl,rfl,_,rfl,ite2 (λ c=>?_) (λ c=>?_)⟩
  ·exact⟨_,rfl,_,rfl,_,rfl,_,rfl,.inr ⟨d,size,roads,last,rfl,rf.2 ⋯⟩⟩
  ·exact⟨_,rfl,_,rfl,_,rfl,_,rfl,.inr ⟨d,size,roads,last,rfl,rf.2 ⋯⟩⟩
 intro a H1 z9 ha;obtain⟨_,s1⟩ := z9
 have s2:Same H1 (upd H1 a (.ext (ExQ a G))):=qan9 ha _
 have e2:upd H1 a (.ext (ExQ a G)) a=some (.ext (ExQ a G)):=qaf9
 generalize upd H1 a (.ext (ExQ a G))=H2 at *
 have kn:W.kitOne K (.ref G) (.ref cn)=some (i==1):=kdG.ks (cn,i==1) (by simp)
 have kp:W.kitOne K (.ref G) (.ref cp)=some (i==2):=kdG.ks (cp,i==2) (by simp)
 refine⟨_,rfl,?_⟩
 refine⟨_,rfl,_,rfl,iteN (by simp) ?_⟩
 refine⟨_,rfl,a,G,_,true,rfl,e2,kdG.ek,.inl ⟨_,rfl,kdG.kv⟩,_,rfl,a,G,_,_,rfl,e2,kdG.ek,.inl ⟨_,rfl,kn⟩,_,rfl,a,G,_,_,rfl,e2,kdG.ek,.inl ⟨_,rfl,kp⟩,_,rfl,a,G,i,rfl,e2,kdG,(by show 4<=sizeLine;decide),λ l hl=>?_⟩
 generalize hgH3:upd _ l _=H3
 revert H3
 refine qal9 hl λ H3 s3 e3=>?_
 exact q l H3 (s1.trans (s2.trans s3)) e3
end
inductive spOddG(vs:List V)(H:Hp)(Q:VK)(z3q:XK):Prop
 |mk (cell N:Int):vs=[.int cell,.int N]->0<=N->(∀(v:V)(H':Hp),Same H H'->Dv H' v->numV N v=false->Q v H')->spOddG vs H Q z3q
inductive spOddS(vs:List V)(H:Hp)(Q:VK)(z3q:XK):Prop
 |mk (cell:Int):vs=[.int cell]->(∀(v:V)(H':Hp),Same H H'->Dv H' v->(∀k:Int,v=.int k->k<1)->Q v H')->spOddS vs H Q z3q
theorem pow30:(10:Int) ^ (30:Int).toNat=1000000000000000000000000000000:=by decide +kernel
theorem ok_oddG(F:Fun K "_law_odd_goal" "_law_odd_goal" qbo9 f fd):FnOk P w K mg base CX0 (n+1) f fd ["cell","size"] spOddG:=by
 refine F.okQ qhc9 (λ vs H Q E h=>?_) (λ cdv A outer s H vs Q E hr h=>?_)
 ·obtain⟨_,_,rfl,_⟩:=h
  rfl
 obtain⟨cell,N,rfl,n0,q⟩:=h
 refine⟨_,(qae9 (qao9 (qe_ix qaj9 (qbj9 (qa_c (qv 1) (qa_c (qem9 qac9) (qa_c qen9 (qa_c qe_bl (qa_c qkb9 (qa_c (qbj9 (qa_c qac9 qaa9)) (qa_c (qbd9 (qa_c qac9 qaa9)) (qa_c qe_bl (qa_c (qe_op qav9 (qv 1) (qe_op qfm9 qac9 qac9)) qaa9)))))))))) (qe_op qba9 (qv 0) qac9) (λ _ _=>rfl)))),?_⟩
 walk_at "d"
 refine⟨_,rfl,_,rfl,(by show 1<=sizeLine;decide),λ p1 hp1=>?_⟩
 generalize hgH1:upd _ p1 _=H1
 revert H1
 refine qal9 hp1 λ H1 s1 e1=>?_
 refine⟨(by show 1<=sizeLine;decide),λ p2 hp2=>?_⟩
 generalize hgH2:upd _ p2 _=H2
 revert H2
 refine qal9 hp2 λ H2 s2 e2=>?_
 refine⟨_,rfl,_,_,rfl,rfl,⟨by decide,by decide,by decide⟩,_,_,rfl,rfl,(by show 9<=sizeLine;decide),λ p3 hp3=>?_⟩
 generalize hgH3:upd _ p3 _=H3
 revert H3
 refine qal9 hp3 λ H3 s3 e3=>?_
 have em:=qdj9 cell (show(0:Int)<9 by decide)
 obtain⟨v,hv,vm⟩:=qol9 (xs:=[V.int N,V.int (-1),V.non,V.bl true,V.str "0",V.ref p1,V.ref p2,V.bl false,V.int (N+10 ^ (30:Int).toNat)]) em.1 em.2
 refine⟨_,rfl,_,_,rfl,rfl,(by show(0:Int)<9;decide),p3,_,_,v,rfl,rfl,SqL.of e3,hv,q v H3 (s1.trans (s2.trans s3)) ?_ ?_⟩
 ·simp only[zae,zav,or_false] at vm
  rcases vm with rfl|rfl|rfl|rfl|rfl|rfl|rfl|rfl|rfl
  ·exact .int _
  ·exact .int _
  ·exact .non
  ·exact .bl _
  ·exact .str _
  ·exact .lst (s3 _ _ (s2 _ _ e1))
  ·exact .tup (s3 _ _ e2)
  ·exact .bl _
  ·exact .int _
 ·have p30:=pow30
  simp only[zae,zav,or_false] at vm
  rcases vm with rfl|rfl|rfl|rfl|rfl|rfl|rfl|rfl|rfl<;>simp[numV]<;>omega
theorem ok_oddS(F:Fun K "_law_odd_size" "_law_odd_size" qbn9 f fd):FnOk P w K mg base CX0 (n+1) f fd ["cell"] spOddS:=by
 refine F.okQ qgo9 (λ vs H Q E h=>?_) (λ cdv A outer s H vs Q E hr h=>?_)
 ·obtain⟨_,rfl,_⟩:=h
  rfl
 obtain⟨cell,rfl,q⟩:=h
 refine⟨_,(qae9 (qao9 (qe_ix qaj9 (qbj9 (qa_c qac9 (qa_c (qem9 qac9) (qa_c qe_bl (qa_c qen9 (qa_c qkb9 (qa_c (qbj9 (qa_c qac9 qaa9)) (qa_c (qbd9 (qa_c qac9 qaa9)) (qa_c qe_bl (qa_c (qem9 (qe_op qfm9 qac9 qac9)) qaa9)))))))))) (qe_op qba9 (qv 0) qac9) (λ _ _=>rfl)))),?_⟩
 walk_at "d"
 refine⟨_,rfl,(by show 1<=sizeLine;decide),λ p1 hp1=>?_⟩
 generalize hgH1:upd _ p1 _=H1
 revert H1
 refine qal9 hp1 λ H1 s1 e1=>?_
 refine⟨(by show 1<=sizeLine;decide),λ p2 hp2=>?_⟩
 generalize hgH2:upd _ p2 _=H2
 revert H2
 refine qal9 hp2 λ H2 s2 e2=>?_
 refine⟨_,_,rfl,rfl,⟨by decide,by decide,by decide⟩,_,rfl,(by show 9<=sizeLine;decide),λ p3 hp3=>?_⟩
 generalize hgH3:upd _ p3 _=H3
 revert H3
 refine qal9 hp3 λ H3 s3 e3=>?_
 have em:=qdj9 cell (show(0:Int)<9 by decide)
 obtain⟨v,hv,vm⟩:=qol9 (xs:=[V.int 0,V.int (-1),V.bl true,V.non,V.str "1",V.ref p1,V.ref p2,V.bl false,V.int (-10 ^ (30:Int).toNat)]) em.1 em.2
 refine⟨_,rfl,_,_,rfl,rfl,(by show(0:Int)<9;decide),p3,_,_,v,rfl,rfl,SqL.of e3,hv,q v H3 (s1.trans (s2.trans s3)) ?_ ?_⟩
 ·simp only[zae,zav,or_false] at vm
  rcases vm with rfl|rfl|rfl|rfl|rfl|rfl|rfl|rfl|rfl
  ·exact .int _
  ·exact .int _
  ·exact .bl _
  ·exact .non
  ·exact .str _
  ·exact .lst (s3 _ _ (s2 _ _ e1))
  ·exact .tup (s3 _ _ e2)
  ·exact .bl _
  ·exact .int _
 ·have p30:=pow30
  intro k ek
  simp only[zae,zav,or_false] at vm
  rcases vm with rfl|rfl|rfl|rfl|rfl|rfl|rfl|rfl|rfl<;>cases ek<;>omega
inductive spRefuV(T:Hp->Prop)(vs:List V)(H:Hp)(Q:VK)(z3q:XK):Prop
 |mk (way d:Int) (n:Nat) (pr:Addr) (N:List RdT) (last:V) (m:Nat):vs=[.int way,.int d,.int n,.ref pr,last]->0<=way->way<4->NA H pr N->T H->0<d->NetOk d n N->1<=n->n<=4->N.length<=6->((∀x∈N,x.2.2.2.length<=16))->((∀x∈N,4*x.2.2.2.length+2<=m))->Few N.length m n->mxT N.length m (n-1)<=10000->((way<2->∃pp P,last=.ref pp/\LA enc2 H pp P/\qgi9 n P/\1<=P.length/\P.length<=6))->((¬way<2->∃g:Int,last=.int g/\0<=g/\g<(n:Int)))->(∀(l:Addr)(H':Hp),SameU H H'->T H'->H' l=some (.tup [])->Q (.ref l) H')->spRefuV T vs H Q z3q
section
variable {ct:Addr}
theorem qmv9(hTB:TB T)(ms:Mgs mg cb cn cp cr ct cx cw cm co)(X_FordError:XCl K mg "FordError" CF bmF)(l1:Cl K CF (due73 cb cn cp cr ct cx cw cm co) cn 1)(l2:Cl K CF (due73 cb cn cp cr ct cx cw cm co) cp 2)(F:Fun K "_law_refused" "_law_refused" qbh9 f fd)(B:Bl mg)(CX_meeting:CalleeX P w K mg base n "meeting" ["day","size","roads","party"] (spMeetB T cn cp))(CX_meet_at:CalleeX P w K mg base n "meet_at" ["day","size","roads","party","t"] (qkw9 T cn cp))(CX_thinned:CalleeX P w K mg base n "thinned" ["day","size","roads","goal"] (spThinB T cn cp))(CX_needs:CalleeX P w K mg base n "needs" ["day","size","roads","goal"] (qom9 T cn cp))(Cm0:Callee P w K mg base n "_law_other" ["e"] (spOther K cb cn cp cr ct cx cw cm co))(Cm1:Callee P w K mg base n "_law_other" ["e"] (spOther K cb cn cp cr ct cx cw cm co)):FnOk P w K mg base CX0 (n+1) f fd ["way","day","size","roads","last"] (spRefuV T):=by
 refine F.okQ sc__law_refused (λ vs H Q E h=>?_) (λ cdv A outer s H vs Q E hr h=>?_)
 ·obtain⟨_,_,_,_,_,_,_,rfl,_⟩:=h
  rfl
 obtain⟨way,d,n',pr,N,last,m,rfl,w0,w4,hN,hT,hd,nok,n1,n4,nl,b16,few,fw,mx,pa,go,q⟩:=h
 obtain⟨bmG,xG,subG,_⟩:=l1
 refine⟨_,(qab9 (qai9 (i:=5) sc__law_refused.nd rfl (zai rfl) qen9) (qab9 (qng9 (i:=6) (qmu9 (qam9 qcf9 (qv 0) qac9 (qau9 _)) (qep9 (qiw9 CX_meeting hr rfl (qa_c (qv 1) (qa_c (qv 2) (qa_c (qv 3) (qa_c (qv 4) qaa9)))))) (qmu9 (qam9 qcf9 (qv 0) qac9 (qau9 _)) (qep9 (qiw9 CX_meet_at hr rfl (qa_c (qv 1) (qa_c (qv 2) (qa_c (qv 3) (qa_c (qv 4) (qa_c qac9 qaa9))))))) (qmu9 (qam9 qcf9 (qv 0) qac9 (qau9 _)) (qep9 (qiw9 CX_thinned hr rfl (qa_c (qv 1) (qa_c (qv 2) (qa_c (qv 3) (qa_c (qv 4) qaa9)))))) (qep9 (qiw9 CX_needs hr rfl (qa_c (qv 1) (qa_c (qv 2) (qa_c (qv 3) (qa_c (qv 4) qaa9))))))))) X_FordError.1 rfl X_FordError.2 own0 (λ _=>(qae9 (qai9 (i:=5) sc__law_refused.nd rfl (zai rfl) (qv 6)))) sc__law_refused.nd rfl rfl) (qab9 (qs_if (qt_isN (qv 5)) (qae9 (qao9 (qbd9 qaa9))) qat9) (qae9 (qao9 (qbd9 (qa_c (qe_cb qbq9 rfl B.isinstance qak9 (qa_c (qv 5) (qa_c (qe_tyB rfl ms.ve qfz9) qaa9))) (qa_c (qe_cb qbq9 rfl B.isinstance qak9 (qa_c (qv 5) (qa_c (qha9 rfl ms.n) qaa9))) (qa_c (qe_cb qbq9 rfl B.isinstance qak9 (qa_c (qv 5) (qa_c (qha9 rfl ms.p) qaa9))) (qa_c (qe_fn Cm1 hr rfl (qa_c (qv 5) qaa9)) qaa9)))))))))),?_⟩
 walk_at "d"
 refine⟨λ _ _ _=>False,cn,bmG,?_,λ cls H' z=>z.elim,xG,subG,λ a H1 z=>z.elim⟩
 have wE:∀{k:Int},decide (V.int way=V.int k)=true↔way=k:=by
  intro k
  rw[decide_eq_true_eq]
  exact⟨λ z=>by injection z,λ z=>by rw[z]⟩
 refine⟨_,rfl,rfl,_,rfl,ite2 (λ c=>?_) (λ c=>?_)⟩
 ·have c':=wE.mp c
  obtain⟨pp,P,rfl,hP,inP,p1,p6⟩:=pa ⋯
  refine⟨_,rfl,_,rfl,_,rfl,_,rfl,.inl ⟨d,n',pr,N,pp,P,m,rfl,hN,hP,hT,hd,nok,n1,⋯,⋯,few,fw,mx,inP,p1,p6,λ l R H1 u1 t1 _ _ _ _ _=>?_⟩⟩
  refine⟨_,rfl,_,rfl,iteP (by simp) ⟨(by show 0<=sizeLine;decide),λ p0 hp0=>?_⟩⟩
  generalize hgH2:upd _ p0 _=H2
  revert H2
  refine qal9 hp0 λ H2 s2 e2=>?_
  exact q p0 H2 (u1.trans (SameU.of s2)) (hTB.same _ _ t1 s2) e2
 have c0:¬way=0:=λ z=>c (wE.mpr z)
 refine⟨_,rfl,rfl,_,rfl,ite2 (λ c=>?_) (λ c=>?_)⟩
 ·have c':=wE.mp c
  obtain⟨pp,P,rfl,hP,inP,p1,p6⟩:=pa ⋯
  refine⟨_,rfl,_,rfl,_,rfl,_,rfl,.inl ⟨d,n',pr,N,pp,P,5,m,rfl,hN,hP,hT,hd,nok,n1,⋯,⋯,few,fw,inP,p1,p6,λ v r H1 u1 t1 _ _ _=>?_⟩⟩
  refine⟨_,rfl,_,rfl,iteP (by simp) ⟨(by show 0<=sizeLine;decide),λ p0 hp0=>?_⟩⟩
  generalize hgH2:upd _ p0 _=H2
  revert H2
  refine qal9 hp0 λ H2 s2 e2=>?_
  exact q p0 H2 (u1.trans (SameU.of s2)) (hTB.same _ _ t1 s2) e2
 have c1:¬way=1:=λ z=>c (wE.mpr z)
 obtain⟨g,rfl,g0,g1⟩:=go ⋯
 refine⟨_,rfl,rfl,_,rfl,ite2 (λ c=>?_) (λ c=>?_)⟩
 ·refine⟨_,rfl,_,rfl,_,rfl,_,rfl,.inl ⟨d,n',pr,N,g,rfl,hN,hT,hd,nok,n1,n4,nl,b16,g0,g1,λ l M H1 u1 t1 _ _ _ _ _ _=>?_⟩⟩
  refine⟨_,rfl,_,rfl,iteP (by simp) ⟨(by show 0<=sizeLine;decide),λ p0 hp0=>?_⟩⟩
  generalize hgH2:upd _ p0 _=H2
  revert H2
  refine qal9 hp0 λ H2 s2 e2=>?_
  exact q p0 H2 (u1.trans (SameU.of s2)) (hTB.same _ _ t1 s2) e2
 ·refine⟨_,rfl,_,rfl,_,rfl,_,rfl,.inl ⟨d,n',pr,N,g,rfl,hN,hT,hd,nok,n1,n4,nl,b16,g0,g1,λ l M C0 H1 u1 t1 _ _ _ _=>?_⟩⟩
  refine⟨_,rfl,_,rfl,iteP (by simp) ⟨(by show 0<=sizeLine;decide),λ p0 hp0=>?_⟩⟩
  generalize hgH2:upd _ p0 _=H2
  revert H2
  refine qal9 hp0 λ H2 s2 e2=>?_
  exact q p0 H2 (u1.trans (SameU.of s2)) (hTB.same _ _ t1 s2) e2
end
theorem roadV_tup{N:Int}(e:H p=some (.tup xs)):roadV H d N (.ref p)=roadL H d N xs:=by
 unfold roadV
 rw[show tupV H (.ref p)=some xs by simp[tupV,e]]
theorem roadV_non{N:Int}(e:tupV H x=none):roadV H d N x=false:=by
 unfold roadV
 rw[e]
theorem board_bad(e:H p=some (.lst xs))(hy:y∈xs)(h:(winV H d y&&posW H y)=false):(qev9 H d (.ref p)&&posB H (.ref p))=false:=by
 have el:lstV H (.ref p)=some xs:=by simp[lstV,e]
 refine zbj.mpr λ z=>?_
 rw[zbm] at z
 unfold qev9 posB at z
 rw[el] at z
 have h1:=zba.mp z.1 y hy
 have h2:=zba.mp z.2 y hy
 rw[h1,h2] at h
 cases h
def Bd(d N:Int)(H0 H:Hp)(v:V):Prop:=Nw H0 H 3 v/\roadV H d N v=false
theorem Bd.same{d N:Int}{H0 H H':Hp}{v:V}(h:Bd d N H0 H v)(s:Same H H'):Bd d N H0 H' v:=⟨h.1.same s,by rw[(Nw.ew h.1).dr.roadV_same s];exact h.2⟩
theorem bd_tup{N:Int}{t:Addr}(f:H0 t=none)(e:H t=some (.tup xs))(h:∀y∈xs,Nw H0 H 2 y)(hr:roadL H d N xs=false):Bd d N H0 H (.ref t):=⟨Ew.tup (qeq9 f e) h,by rw[roadV_tup e];exact hr⟩
theorem qpy9{N:Int}{t l:Addr}(ft:H0 t=none)(fl:H0 l=none)(et:H t=some (.tup [.int 0,.int 0,.ref l]))(el:H l=some (.lst xs))(l3:xs.length<=3)(hx:∀z∈xs,Nw H0 H 1 z)(hy:y∈xs)(hw:(winV H d y&&posW H y)=false):Bd d N H0 H (.ref t):=by
 refine bd_tup ft et (λ z hz=>?_) ?_
 ·simp only[zae,zav,or_false] at hz
  rcases hz with rfl|rfl|rfl
  ·exact .int _
  ·exact .int _
  ·exact Ew.lst (qeq9 fl el) ⋯ hx
 ·have:=board_bad (d:=d) el hy hw
  simp only[roadL,this,zfi]
theorem win_tup(e:H p=some (.tup xs)):winV H d (.ref p)=winL d xs:=by
 unfold winV
 rw[show tupV H (.ref p)=some xs by simp[tupV,e]]
theorem net_bad{N:Int}(e:H p=some (.lst xs))(hy:y∈xs)(h:roadV H d N y=false):netV H d (.int N) (.ref p)=false:=by
 unfold netV
 rw[show lstV H (.ref p)=some xs by simp[lstV,e]]
 refine zbj.mpr λ z=>?_
 rw[zbm] at z
 have:=zba.mp z.2 y hy
 rw[h] at this
 cases this
theorem net_no{N:Int}(e:lstV H v=none):netV H d (.int N) v=false:=by
 unfold netV
 rw[e]
 simp
theorem qe_slLK{e:Expr}{te:TE}(K:W.Frag)(hK:X.K=K){lo hi:Option Expr}{tl th:TO}{p2:Pos}(he:QE X e te)(hl:QO X lo tl)(hu:QO X hi th):QE X (.Subscript e (.Slice lo hi none p2) pos) (tSl (rSlL K) te tl th):=by
 subst hK
 exact qjh9 he hl hu
theorem qnm9{lo hi:Option Int}(h:v∈cutV xs lo hi):v∈xs:=zez (zdu h)
theorem bd3{N:Int}{t:Addr}{z:V}(f:H0 t=none)(e:H t=some (.tup [x,y,z]))(hx:Nw H0 H 2 x)(hy:Nw H0 H 2 y)(hz:Nw H0 H 2 z)(hr:roadL H d N [x,y,z]=false):Bd d N H0 H (.ref t):=bd_tup f e (λ u hu=>by
 simp only[zae,zav,or_false] at hu
 rcases hu with rfl|rfl|rfl
 ·exact hx
 ·exact hy
 ·exact hz) hr
theorem nw_one{l:Addr}(f:H0 l=none)(e:H l=some (.lst [v]))(h:Nw H0 H 1 v):Nw H0 H 2 (.ref l):=Ew.lst (qeq9 f e) (by simp) λ z hz=>by rw[zag.mp hz];exact h
theorem qor9{a b c:Int}(f:H0 r=none)(e:H r=some (.tup [.int a,.int b,.int c])):Nw H0 H 1 (.ref r):=Ew.tup (qeq9 f e) λ y hy=>by
 simp only[zae,zav,or_false] at hy
 rcases hy with rfl|rfl|rfl<;>exact .int _
theorem hide_in(s:Same H H')(h:H D=none):Same H (hide D H'):=λ b o e=>qgp9 (s _ _ e) λ z=>by rw[z,h] at e;cases e
theorem hide_wr:Same (hide D H) (hide D (upd H D o)):=λ b u e=>by
 unfold hide at e
 split at e
 ·cases e
 ·rename_i n
  exact qgp9 (by rw[qaq9 n];exact e) n
def BdN(d N:Int)(D:Addr)(H:Hp)(v:V):Prop:=Ew (hide D H) 4 v/\netV (hide D H) d (.int N) v=false
theorem BdN.same{d N:Int}{D:Addr}{H H':Hp}{v:V}(h:BdN d N D H v)(s:Same (hide D H) (hide D H')):BdN d N D H' v:=⟨h.1.same s,by rw[h.1.dn.netV_same s];exact h.2⟩
inductive spOddR(vs:List V)(H:Hp)(Q:VK)(z3q:XK):Prop
 |mk (cell d N:Int):vs=[.int cell,.int d,.int N]->1<=d->(∀(l:Addr)(xs:List V)(H':Hp),Same H H'->H' l=some (.lst xs)->xs.length=11->(∀v∈xs,DvN H' v/\netV H' d (.int N) v=false)->Q (.ref l) H')->spOddR vs H Q z3q
theorem ok_oddR(F:Fun K "_law_odd_roads" "_law_odd_roads" qbk9 f fd)(B:Bl mg):FnOk P w K mg base CX0 (n+1) f fd ["cell","day","size"] spOddR:=by
 refine F.okQ sc__law_odd_roads (λ vs H Q E h=>?_) (λ cdv A outer s H vs Q E hr h=>?_)
 ·obtain⟨_,_,_,rfl,_⟩:=h
  rfl
 obtain⟨cell,d,N,rfl,d1,q⟩:=h
 refine⟨_,(qab9 (qai9 (i:=3) sc__law_odd_roads.nd rfl (zai rfl) (qbd9 (qa_c qac9 (qa_c (qe_op qdf9 (qv 1) qac9) (qa_c qac9 qaa9))))) (qab9 (qai9 (i:=4) sc__law_odd_roads.nd rfl (zai rfl) (qbj9 (qa_c (qbd9 (qa_c qac9 (qa_c (qv 2) (qa_c (qbj9 (qa_c (qv 3) qaa9)) qaa9)))) (qa_c (qbd9 (qa_c (qem9 qac9) (qa_c qac9 (qa_c (qbj9 (qa_c (qv 3) qaa9)) qaa9)))) (qa_c (qbd9 (qa_c qac9 (qa_c qac9 (qa_c (qbd9 (qa_c (qv 3) qaa9)) qaa9)))) (qa_c (qbd9 (qa_c qac9 (qa_c qac9 qaa9))) (qa_c (qbj9 (qa_c qac9 (qa_c qac9 (qa_c (qbj9 (qa_c (qv 3) qaa9)) qaa9)))) qaa9))))))) (qab9 (qai9 (i:=4) sc__law_odd_roads.nd rfl (zai rfl) (qe_op qge9 (qv 4) (qbj9 (qa_c (qbd9 (qa_c qe_bl (qa_c qac9 (qa_c (qbj9 (qa_c (qv 3) qaa9)) qaa9)))) (qa_c (qbd9 (qa_c qac9 (qa_c qac9 (qa_c (qbj9 (qa_c (qv 3) (qa_c (qbd9 (qa_c qac9 (qa_c (qv 1) (qa_c qac9 qaa9)))) qaa9))) qaa9)))) (qa_c (qbd9 (qa_c qac9 (qa_c qac9 (qa_c (qbj9 (qa_c (qbd9 (qa_c qac9 (qa_c qac9 (qa_c qac9 qaa9)))) (qa_c (qv 3) qaa9))) qaa9)))) (qa_c (qbd9 (qa_c qac9 (qa_c qac9 (qa_c qen9 qaa9)))) qaa9))))))) (qab9 (qai9 (i:=5) sc__law_odd_roads.nd rfl (zct rfl) (qe_op qop_rep (qbj9 (qa_c (qbd9 (qa_c qac9 (qa_c qac9 (qa_c (qbj9 (qa_c (qv 3) qaa9)) qaa9)))) qaa9)) (qe_op qba9 (qe_op qbb9 (qv 0) qac9) qac9))) (qae9 (qao9 (qe_op qge9 (qbj9 (qa_c qen9 (qa_c (qe_ct qhu9 rfl B.tuple_ qft9 (qa_c (qjh9 (qv 4) qgb9 (qga9 qac9)) qaa9)) qaa9))) (qej9 ["one","good"] [none,some 5] (BlkOk.of rfl rfl (SubL.to (subC rfl subN)) rfl) rfl (qcv9 (qv 4)) (λ _ _ _ _=>(qar9 (i:=0) (show(["one","good"]:List Str).Nodup by decide) rfl (zai rfl))) (λ _ _ _ _=>(qe_op qge9 (qe_op qge9 (qv 1) (qbj9 (qa_c (qv 0) qaa9))) (qe_slLK K rfl (qv 1) (qga9 qac9) qgb9))))))))))),?_⟩
 walk_at "d"
 have z1:(1:Nat)<=sizeLine:=by decide
 have z2:(2:Nat)<=sizeLine:=by decide
 have z3:(3:Nat)<=sizeLine:=by decide
 refine⟨_,rfl,_,_,rfl,rfl,z3,λ w0 hw0=>?_⟩
 have fw0:=hw0
 generalize hgH1:upd _ w0 _=H1
 revert H1
 refine qal9 hw0 λ H1 s1 e1=>?_
 have nw0:Nw H H1 1 (.ref w0):=qor9 fw0 e1
 have win:∀{Hx:Hp}{l:Addr},Same H1 Hx->H l=none->Hx l=some (.lst [.ref w0])->Nw H Hx 2 (.ref l):=λ s f e=>nw_one f e (nw0.same s)
 refine⟨_,rfl,_,rfl,z1,λ l1 hl1=>?_⟩
 have fl1:=s1.free hl1
 generalize hgH2:upd _ l1 _=H2
 revert H2
 refine qal9 hl1 λ H2 s2 e2=>?_
 refine⟨z3,λ t1 ht1=>?_⟩
 have ft1:=(s1.trans s2).free ht1
 generalize hgH3:upd _ t1 _=H3
 revert H3
 refine qal9 ht1 λ H3 s3 e3=>?_
 have x3:=s2.trans s3
 have b1:Bd d N H H3 (.ref t1):=bd3 ft1 e3 (.int _) (.int _) (win x3 fl1 (s3 _ _ e2)) (by simp[roadL,numV])
 refine⟨_,rfl,_,rfl,z1,λ l2 hl2=>?_⟩
 have fl2:=(s1.trans x3).free hl2
 generalize hgH4:upd _ l2 _=H4
 revert H4
 refine qal9 hl2 λ H4 s4 e4=>?_
 refine⟨z3,λ t2 ht2=>?_⟩
 have ft2:=(s1.trans (x3.trans s4)).free ht2
 generalize hgH5:upd _ t2 _=H5
 revert H5
 refine qal9 ht2 λ H5 s5 e5=>?_
 have x5:=x3.trans (s4.trans s5)
 have b2:Bd d N H H5 (.ref t2):=bd3 ft2 e5 (.int _) (.int _) (win x5 fl2 (s5 _ _ e4)) (by simp[roadL,numV])
 refine⟨_,rfl,z1,λ v3 hv3=>?_⟩
 have fv3:=(s1.trans x5).free hv3
 generalize hgH6:upd _ v3 _=H6
 revert H6
 refine qal9 hv3 λ H6 s6 e6=>?_
 refine⟨z3,λ t3 ht3=>?_⟩
 have ft3:=(s1.trans (x5.trans s6)).free ht3
 generalize hgH7:upd _ t3 _=H7
 revert H7
 refine qal9 ht3 λ H7 s7 e7=>?_
 have x7:=x5.trans (s6.trans s7)
 have b3:Bd d N H H7 (.ref t3):=bd3 ft3 e7 (.int _) (.int _) (Ew.tup (qeq9 fv3 (s7 _ _ e6)) λ z hz=>by rw[zag.mp hz];exact nw0.same x7) (by
  have:qev9 H7 d (.ref v3)=false:=by simp[qev9,lstV,s7 _ _ e6]
  simp[roadL,this])
 refine⟨z2,λ t4 ht4=>?_⟩
 have ft4:=(s1.trans x7).free ht4
 generalize hgH8:upd _ t4 _=H8
 revert H8
 refine qal9 ht4 λ H8 s8 e8=>?_
 have x8:=x7.trans s8
 have b4:Bd d N H H8 (.ref t4):=bd_tup ft4 e8 (λ y hy=>by
  simp at hy
  subst hy
  exact .int _) rfl
 refine⟨_,rfl,z1,λ l5 hl5=>?_⟩
 have fl5:=(s1.trans x8).free hl5
 generalize hgH9:upd _ l5 _=H9
 revert H9
 refine qal9 hl5 λ H9 s9 e9=>?_
 refine⟨z3,λ t5 ht5=>?_⟩
 have ft5:=(s1.trans (x8.trans s9)).free ht5
 generalize hgH10:upd _ t5 _=H10
 revert H10
 refine qal9 ht5 λ H10 s10 e10=>?_
 have x10:=x8.trans (s9.trans s10)
 have b5:Bd d N H H10 (.ref t5):=⟨Ew.lst (qeq9 ft5 e10) (by simp) (λ y hy=>by
  simp only[zae,zav,or_false] at hy
  rcases hy with rfl|rfl|rfl
  ·exact .int _
  ·exact .int _
  ·exact win x10 fl5 (s10 _ _ e9)),roadV_non (by simp[tupV,e10])⟩
 refine⟨(by show 5<=sizeLine;decide),λ q1 hq1=>?_⟩
 generalize hgH11:upd _ q1 _=H11
 revert H11
 refine qal9 hq1 λ H11 s11 e11=>?_
 have x11:=x10.trans s11
 refine⟨_,rfl,_,rfl,z1,λ l6 hl6=>?_⟩
 have fl6:=(s1.trans x11).free hl6
 generalize hgH12:upd _ l6 _=H12
 revert H12
 refine qal9 hl6 λ H12 s12 e12=>?_
 refine⟨z3,λ t6 ht6=>?_⟩
 have ft6:=(s1.trans (x11.trans s12)).free ht6
 generalize hgH13:upd _ t6 _=H13
 revert H13
 refine qal9 ht6 λ H13 s13 e13=>?_
 have x13:=x11.trans (s12.trans s13)
 have b6:Bd d N H H13 (.ref t6):=bd3 ft6 e13 (.bl _) (.int _) (win x13 fl6 (s13 _ _ e12)) (by simp[roadL,numV])
 refine⟨_,rfl,_,rfl,z3,λ w7 hw7=>?_⟩
 have fw7:=(s1.trans x13).free hw7
 generalize hgH14:upd _ w7 _=H14
 revert H14
 refine qal9 hw7 λ H14 s14 e14=>?_
 refine⟨z2,λ l7 hl7=>?_⟩
 have fl7:=(s1.trans (x13.trans s14)).free hl7
 generalize hgH15:upd _ l7 _=H15
 revert H15
 refine qal9 hl7 λ H15 s15 e15=>?_
 refine⟨z3,λ t7 ht7=>?_⟩
 have ft7:=(s1.trans (x13.trans (s14.trans s15))).free ht7
 generalize hgH16:upd _ t7 _=H16
 revert H16
 refine qal9 ht7 λ H16 s16 e16=>?_
 have x16:=x13.trans (s14.trans (s15.trans s16))
 have g7:=s16 _ _ (s15 _ _ e14)
 have b7:Bd d N H H16 (.ref t7):=qpy9 ft7 fl7 e16 (s16 _ _ e15) (by simp) (λ z hz=>by
  simp only[zae,zav,or_false] at hz
  rcases hz with rfl|rfl
  ·exact nw0.same x16
  ·exact qor9 fw7 g7) (y:=.ref w7) (by simp) (by rw[win_tup g7,show winL d [.int 0,.int d,.int 1]=false by simp[winL]];rfl)
 refine⟨z3,λ w8 hw8=>?_⟩
 have fw8:=(s1.trans x16).free hw8
 generalize hgH17:upd _ w8 _=H17
 revert H17
 refine qal9 hw8 λ H17 s17 e17=>?_
 refine⟨_,rfl,z2,λ l8 hl8=>?_⟩
 have fl8:=(s1.trans (x16.trans s17)).free hl8
 generalize hgH18:upd _ l8 _=H18
 revert H18
 refine qal9 hl8 λ H18 s18 e18=>?_
 refine⟨z3,λ t8 ht8=>?_⟩
 have ft8:=(s1.trans (x16.trans (s17.trans s18))).free ht8
 generalize hgH19:upd _ t8 _=H19
 revert H19
 refine qal9 ht8 λ H19 s19 e19=>?_
 have x19:=x16.trans (s17.trans (s18.trans s19))
 have g8:=s19 _ _ (s18 _ _ e17)
 have b8:Bd d N H H19 (.ref t8):=qpy9 ft8 fl8 e19 (s19 _ _ e18) (by simp) (λ z hz=>by
  simp only[zae,zav,or_false] at hz
  rcases hz with rfl|rfl
  ·exact qor9 fw8 g8
  ·exact nw0.same x19) (y:=.ref w8) (by simp) (by
   have:posW H19 (.ref w8)=false:=by
    unfold posW
    rw[show tupV H19 (.ref w8)=some [.int 0,.int 0,.int 0] by simp[tupV,g8]]
    rfl
   rw[this,zfi])
 refine⟨z3,λ t9 ht9=>?_⟩
 have ft9:=(s1.trans x19).free ht9
 generalize hgH20:upd _ t9 _=H20
 revert H20
 refine qal9 ht9 λ H20 s20 e20=>?_
 have x20:=x19.trans s20
 have b9:Bd d N H H20 (.ref t9):=bd3 ft9 e20 (.int _) (.int _) .non (by simp[roadL,qev9,lstV])
 refine⟨(by show 4<=sizeLine;decide),λ q2 hq2=>?_⟩
 generalize hgH21:upd _ q2 _=H21
 revert H21
 refine qal9 hq2 λ H21 s21 e21=>?_
 have y11:Same H11 H21:=(s12.trans s13).trans ((s14.trans (s15.trans s16)).trans ((s17.trans (s18.trans s19)).trans (s20.trans s21)))
 refine⟨q1,q2,_,_,rfl,rfl,y11 _ _ e11,e21,(by show 9<=sizeLine;decide),λ q3 hq3=>?_⟩
 generalize hgH22:upd _ q3 _=H22
 revert H22
 refine qal9 hq3 λ H22 s22 e22=>?_
 have x22:=x20.trans (s21.trans s22)
 have all:∀v∈[V.ref t1,V.ref t2,V.ref t3,V.ref t4,V.ref t5]++[V.ref t6,V.ref t7,V.ref t8,V.ref t9],Bd d N H H22 v:=λ v hv=>by
  have y20:=s21.trans s22
  have y19:=s20.trans y20
  have y16:=(s17.trans (s18.trans s19)).trans y19
  have y13:=(s14.trans (s15.trans s16)).trans y16
  have y10:=s11.trans ((s12.trans s13).trans y13)
  have y8:=(s9.trans s10).trans y10
  have y7:=s8.trans y8
  have y5:=(s6.trans s7).trans y7
  simp only[zae,zav,or_false,zeq,zbz] at hv
  rcases hv with rfl|rfl|rfl|rfl|rfl|rfl|rfl|rfl|rfl
  ·exact b1.same ((s4.trans s5).trans y5)
  ·exact b2.same y5
  ·exact b3.same y7
  ·exact b4.same y8
  ·exact b5.same y10
  ·exact b6.same y13
  ·exact b7.same y16
  ·exact b8.same y19
  ·exact b9.same y20
 have hb1:=b1.1
 clear b1 b2 b3 b4 b5 b6 b7 b8 b9
 have S22:=s1.trans x22
 generalize hL:[V.ref t1,V.ref t2,V.ref t3,V.ref t4,V.ref t5]++[V.ref t6,V.ref t7,V.ref t8,V.ref t9]=os at *
 have lo:os.length=9:=by rw[<- hL];rfl
 refine⟨_,rfl,z1,λ l10 hl10=>?_⟩
 have fl10:=S22.free hl10
 generalize hgH23:upd _ l10 _=H23
 revert H23
 refine qal9 hl10 λ H23 s23 e23=>?_
 refine⟨z3,λ t10 ht10=>?_⟩
 have ft10:=(S22.trans s23).free ht10
 generalize hgH24:upd _ t10 _=H24
 revert H24
 refine qal9 ht10 λ H24 s24 e24=>?_
 refine⟨z1,λ q4 hq4=>?_⟩
 generalize hgH25:upd _ q4 _=H25
 revert H25
 refine qal9 hq4 λ H25 s25 e25=>?_
 have em:=qdj9 (cell/11) (show(0:Int)<3 by decide)
 refine⟨_,rfl,_,_,rfl,rfl,⟨by decide,by decide⟩,_,_,rfl,rfl,(by show(0:Int)<3;decide),q4,_,_,rfl,rfl,e25,⋯,⋯,(show 1*(cell/11%3).toNat<=sizeLine from zbu (qbe9 ⋯)),λ q5 hq5=>?_⟩
 dsimp only
 have gl:(zbk (cell/11%3).toNat [V.ref t10]).flatten.length<=2:=by rw[len_rep];simp;omega
 have gm:∀v∈(zbk (cell/11%3).toNat [V.ref t10]).flatten,v=V.ref t10:=λ v hv=>by
  obtain⟨l,hl,h⟩:=List.mem_flatten.mp hv
  rw[zei hl] at h
  exact zag.mp h
 generalize (zbk (cell/11%3).toNat [V.ref t10]).flatten=gs at *
 generalize hgH26:upd _ q5 _=H26
 revert H26
 refine qal9 hq5 λ H26 s26 e26=>?_
 have x26:Same H22 H26:=s23.trans (s24.trans (s25.trans s26))
 have hg:∀v∈gs,Nw H H26 3 v:=λ v hv=>by
  rw[gm v hv]
  have:=win (x22.trans (s23.trans s24)) fl10 (s24 _ _ e23)
  refine Nw.same (H1:=H24) (Ew.tup (qeq9 ft10 e24) λ u hu=>?_) (s25.trans s26)
  simp only[zae,zav,or_false] at hu
  rcases hu with rfl|rfl|rfl
  ·exact .int _
  ·exact .int _
  ·exact this
 have S26:=S22.trans x26
 refine⟨_,rfl,_,rfl,q3,_,rfl,SqL.of (x26 _ _ e22),λ q6 hq6=>?_⟩
 generalize hgH27:upd _ q6 _=H27
 revert H27
 refine qal9 hq6 λ H27 s27 e27=>?_
 refine⟨q6,_,rfl,.inl ⟨SqL.of e27,λ q7 hq7=>?_⟩⟩
 generalize hgH28:upd _ q7 _=H28
 revert H28
 refine qal9 hq7 λ H28 s28 e28=>?_
 refine⟨z2,λ q8 hq8=>?_⟩
 generalize hgH29:upd _ q8 _=H29
 revert H29
 refine qal9 hq8 λ H29 s29 e29=>?_
 have x29:Same H26 H29:=s27.trans (s28.trans s29)
 have e22':=x29 _ _ (x26 _ _ e22)
 have S29:=S26.trans x29
 refine⟨_,rfl,q3,rfl,⟨_,SqL.of e22'⟩,?_⟩
 refine qbz9 (K:=K) (a:=q3) (xs:=os) (λ D i H'=>Same H29 H'/\∃ys,H' D=some (.lst ys)/\ys.length=i/\∀v∈ys,BdN d N D H' v) (λ D hD=>⟨qan9 hD _,[],qaf9,rfl,λ v hv=>(by cases hv)⟩) (λ D i H' _ _ h=>SqL.of (h.1 _ _ e22')) ?_ ?_
 ·intro D i y H' hD hi z9;obtain⟨sD,ys,eD,ly,hy⟩ := z9
  refine⟨λ k v e=>?_,?_⟩
  ·match k,e with
   |0,e=>cases e
   |1,e=>exact e
   |k+2,e=>cases e
  have e26':=sD _ _ (x29 _ _ e26)
  refine⟨_,rfl,_,rfl,z1,λ pa hpa=>?_⟩
  generalize hgHa:upd _ pa _=Ha
  revert Ha
  refine qal9 hpa λ Ha sa ea=>?_
  refine⟨q5,pa,_,_,rfl,rfl,sa _ _ e26',ea,zbu (qbe9 (by simp;omega)),λ pb hpb=>?_⟩
  generalize hgHb:upd _ pb _=Hb
  revert Hb
  refine qal9 hpb λ Hb sb eb=>?_
  refine⟨_,rfl,_,rfl,q5,_,rfl,SqL.of (sb _ _ (sa _ _ e26')),λ pc hpc=>?_⟩
  have hcl:=qfd9 gs (some 1) none
  have hcm:∀v∈cutV gs (some 1) none,v∈gs:=λ v hv=>qnm9 hv
  generalize cutV gs (some 1) none=cs at *
  generalize hgHc:upd _ pc _=Hc
  revert Hc
  refine qal9 hpc λ Hc sc ec=>?_
  refine⟨pb,pc,_,_,rfl,rfl,sc _ _ eb,ec,zbu (qbe9 (by simp;omega)),λ pe hpe=>?_⟩
  generalize hgHe:upd _ pe _=He
  revert He
  refine qal9 hpe λ He se ee=>?_
  have sE:Same H' He:=sa.trans (sb.trans (sc.trans se))
  have ne:pe≠D:=λ z=>by
   rw[z,(sa.trans (sb.trans sc)) _ _ eD] at hpe
   cases hpe
  refine⟨_,sE _ _ eD,qbe9 (by have:=(zab.mp hi).1;omega),qci9 hD (sD.trans sE),_,qaf9,by simp[ly],λ v hv=>?_⟩
  rcases zau.mp hv with hv|hv
  ·exact(hy v hv).same (Same.trans (hide_mono sE) hide_wr)
  rw[zag.mp hv]
  have gy:=all y (zac hi)
  have Z:Same H26 (hide D He):=hide_in (x29.trans (sD.trans sE)) (x29.free hD)
  have hp:=qgp9 ee ne
  have h3:Ew (hide D He) 4 (.ref pe):=by
   refine .lst hp (by simp;omega) λ u hu=>?_
   simp only[zau,zae,zav,or_false] at hu
   rcases hu with(hu|rfl)|hu
   ·exact(hg u hu).ew.same Z
   ·exact(gy.1.ew.same x26).same Z
   ·exact(hg u (hcm u hu)).ew.same Z
  refine BdN.same (H:=He) ⟨h3,net_bad hp (y:=y) (by simp) ?_⟩ hide_wr
  rw[gy.1.ew.dr.roadV_same (x26.trans Z)]
  exact gy.2
 ·intro D H' hD z9;obtain⟨sD,ys,eD,ly,hy⟩ := z9
  refine⟨q8,D,_,_,rfl,rfl,sD _ _ e29,eD,zbu (qbe9 (by simp;omega)),λ qe hqe=>?_⟩
  generalize hgHe:upd _ qe _=He
  revert He
  refine qal9 hqe λ He se ee=>?_
  refine q qe _ He (S29.trans (sD.trans se)) ee (by simp;omega) λ v hv=>?_
  rcases zau.mp hv with hv|hv
  ·simp only[zae,zav,or_false] at hv
   rcases hv with rfl|rfl
   ·exact⟨Ew.dn (n:=0) .non,net_no rfl⟩
   ·have e7:=se _ _ (sD _ _ (s29 _ _ e28))
    exact⟨⟨.tup e7,λ xs e=>(by simp[lstV,e7] at e)⟩,net_no (by simp[lstV,e7])⟩
  ·obtain⟨h1,h2⟩:=hy v hv
   have z:=Same.trans (hide_to (p:=D)) se
   exact⟨h1.dn.same z,by rw[h1.dn.netV_same z];exact h2⟩
theorem d2_tup(e:H p=some (.tup xs))(h:∀y∈xs,Dv H y):Dv2 H (.ref p):=⟨.tup e,λ zs ez=>by
 rw[qhn9 e] at ez
 cases ez
 exact h⟩
theorem d2_int{a b:Int}(e:H p=some (.tup [.int a,.int b])):Dv2 H (.ref p):=d2_tup e λ y hy=>by
 simp only[zae,zav,or_false] at hy
 rcases hy with rfl|rfl<;>exact .int _
def BdM(N:Int)(H:Hp)(v:V):Prop:=Dv2 H v/\memV H N v=false
theorem BdM.same{N:Int}{H H':Hp}{v:V}(h:BdM N H v)(s:Same H H'):BdM N H' v:=⟨h.1.same s,by rw[h.1.memV_same s];exact h.2⟩
theorem qhg9{N:Int}(e:H p=some (.tup xs))(h:∀y∈xs,Dv H y)(hm:memL N xs=false):BdM N H (.ref p):=⟨d2_tup e h,by
 unfold memV
 rw[qhn9 e]
 exact hm⟩
inductive spOddP(vs:List V)(H:Hp)(Q:VK)(z3q:XK):Prop
 |mk (cell N:Int) (pp:Addr) (P:List (Int×Int)):vs=[.int cell,.int N,.ref pp]->LA enc2 H pp P->1<=P.length->P.length<=6->(∀(v:V)(H':Hp),Same H H'->DvP H' v->qfq9 H' N v=false->Q v H')->spOddP vs H Q z3q
theorem ok_oddP(F:Fun K "_law_odd_party" "_law_odd_party" qbl9 f fd)(B:Bl mg):FnOk P w K mg base CX0 (n+1) f fd ["cell","size","party"] spOddP:=by
 refine F.okQ sc__law_odd_party (λ vs H Q E h=>?_) (λ cdv A outer s H vs Q E hr h=>?_)
 ·obtain⟨_,_,_,_,rfl,_⟩:=h
  rfl
 obtain⟨cell,N,pp,P,rfl,hP,l1,l6,q⟩:=h
 refine⟨_,(qab9 (qai9 (i:=3) sc__law_odd_party.nd rfl (zai rfl) (qbj9 (qa_c qen9 (qa_c (qbj9 (qa_c qac9 (qa_c qac9 qaa9))) (qa_c (qbd9 (qa_c qac9 qaa9)) (qa_c (qbd9 (qa_c qac9 (qa_c qac9 (qa_c qac9 qaa9)))) (qa_c (qbd9 (qa_c (qv 1) (qa_c qac9 qaa9))) (qa_c (qbd9 (qa_c (qem9 qac9) (qa_c qac9 qaa9))) (qa_c (qbd9 (qa_c qac9 (qa_c (qem9 qac9) qaa9))) (qa_c (qbd9 (qa_c qac9 (qa_c (qem9 (qe_op qfm9 qac9 qac9)) qaa9))) (qa_c (qbd9 (qa_c qe_bl (qa_c qac9 qaa9))) (qa_c (qbd9 (qa_c qac9 (qa_c qen9 qaa9))) qaa9)))))))))))) (qab9 (qai9 (i:=3) sc__law_odd_party.nd rfl (zai rfl) (qe_op qge9 (qv 3) (qbj9 (qa_c (qbd9 (qa_c qkb9 (qa_c qac9 qaa9))) (qa_c (qbd9 (qa_c qac9 (qa_c qe_bl qaa9))) qaa9))))) (qab9 (qai9 (i:=4) sc__law_odd_party.nd rfl (zai rfl) (qbj9 (qa_c (qbj9 qaa9) (qa_c qen9 (qa_c (qe_ct qhu9 rfl B.tuple_ qft9 (qa_c (qv 2) qaa9)) (qa_c (qe_op qop_rep (qbj9 (qa_c (qbd9 (qa_c qac9 (qa_c qac9 qaa9))) qaa9)) qac9) (qa_c qac9 qaa9))))))) (qab9 (qs_if (qam9 qel9 (qe_op qba9 (qv 0) qac9) qac9 (qau9 _)) (qab9 (qai9 (i:=5) sc__law_odd_party.nd rfl (zai rfl) (qe_op qba9 (qe_op qbb9 (qv 0) qac9) (qe_cb qap9 rfl B.len qcc9 (qa_c (qv 2) qaa9)))) (qae9 (qao9 (qe_op qge9 (qe_op qge9 (qjh9 (qv 2) qgb9 (qga9 (qv 5))) (qbj9 (qa_c (qe_ix qaj9 (qv 3) (qe_op qba9 (qv 0) qac9) (λ _ _=>rfl)) qaa9))) (qjh9 (qv 2) (qga9 (qe_op qav9 (qv 5) qac9)) qgb9))))) qat9) (qae9 (qao9 (qe_ix qaj9 (qv 4) (qe_op qdf9 (qe_op qba9 (qv 0) qac9) qac9) (λ _ _=>rfl)))))))),?_⟩
 walk_at "d"
 have z1:(1:Nat)<=sizeLine:=by decide
 have z2:(2:Nat)<=sizeLine:=by decide
 have z3:(3:Nat)<=sizeLine:=by decide
 have two:∀{Hx:Hp}{a b y:V},Dv Hx a->Dv Hx b->y∈[a,b]->Dv Hx y:=λ ha hb hy=>by
  simp only[zae,zav,or_false] at hy
  rcases hy with rfl|rfl
  ·exact ha
  ·exact hb
 refine⟨z2,λ p1 hp1=>?_⟩
 generalize hgH1:upd _ p1 _=H1
 revert H1
 refine qal9 hp1 λ H1 s1 e1=>?_
 have b1:BdM N H1 (.ref p1):=⟨⟨.lst e1,λ zs e=>(by simp[tupV,e1] at e)⟩,by unfold memV;simp[tupV,e1]⟩
 refine⟨z1,λ p2 hp2=>?_⟩
 generalize hgH2:upd _ p2 _=H2
 revert H2
 refine qal9 hp2 λ H2 s2 e2=>?_
 have b2:BdM N H2 (.ref p2):=qhg9 e2 (λ y hy=>by rw[zag.mp hy];exact .int _) rfl
 refine⟨z3,λ p3 hp3=>?_⟩
 generalize hgH3:upd _ p3 _=H3
 revert H3
 refine qal9 hp3 λ H3 s3 e3=>?_
 have b3:BdM N H3 (.ref p3):=qhg9 e3 (λ y hy=>by simp at hy;rw[hy];exact .int _) rfl
 refine⟨_,rfl,z2,λ p4 hp4=>?_⟩
 generalize hgH4:upd _ p4 _=H4
 revert H4
 refine qal9 hp4 λ H4 s4 e4=>?_
 have b4:BdM N H4 (.ref p4):=qhg9 e4 (λ y=>two (.int _) (.int _)) (by simp[memL,numV])
 refine⟨_,rfl,z2,λ p5 hp5=>?_⟩
 generalize hgH5:upd _ p5 _=H5
 revert H5
 refine qal9 hp5 λ H5 s5 e5=>?_
 have b5:BdM N H5 (.ref p5):=qhg9 e5 (λ y=>two (.int _) (.int _)) (by simp[memL,numV])
 refine⟨_,rfl,z2,λ p6 hp6=>?_⟩
 generalize hgH6:upd _ p6 _=H6
 revert H6
 refine qal9 hp6 λ H6 s6 e6=>?_
 have b6:BdM N H6 (.ref p6):=qhg9 e6 (λ y=>two (.int _) (.int _)) (by simp[memL,geV])
 refine⟨_,_,rfl,rfl,⟨by decide,by decide,by decide⟩,_,rfl,z2,λ p7 hp7=>?_⟩
 generalize hgH7:upd _ p7 _=H7
 revert H7
 refine qal9 hp7 λ H7 s7 e7=>?_
 have b7:BdM N H7 (.ref p7):=qhg9 e7 (λ y=>two (.int _) (.int _)) (by
  have:=pow15
  simp[memL,geV])
 refine⟨z2,λ p8 hp8=>?_⟩
 generalize hgH8:upd _ p8 _=H8
 revert H8
 refine qal9 hp8 λ H8 s8 e8=>?_
 have b8:BdM N H8 (.ref p8):=qhg9 e8 (λ y=>two (.bl _) (.int _)) (by simp[memL,numV])
 refine⟨z2,λ p9 hp9=>?_⟩
 generalize hgH9:upd _ p9 _=H9
 revert H9
 refine qal9 hp9 λ H9 s9 e9=>?_
 have b9:BdM N H9 (.ref p9):=qhg9 e9 (λ y=>two (.int _) .non) (by simp[memL,geV])
 refine⟨(by show 10<=sizeLine;decide),λ q1 hq1=>?_⟩
 generalize hgH10:upd _ q1 _=H10
 revert H10
 refine qal9 hq1 λ H10 s10 e10=>?_
 refine⟨_,rfl,z2,λ p10 hp10=>?_⟩
 generalize hgH11:upd _ p10 _=H11
 revert H11
 refine qal9 hp10 λ H11 s11 e11=>?_
 have b10:BdM N H11 (.ref p10):=qhg9 e11 (λ y=>two (.str _) (.int _)) (by simp[memL,numV])
 refine⟨z2,λ p11 hp11=>?_⟩
 generalize hgH12:upd _ p11 _=H12
 revert H12
 refine qal9 hp11 λ H12 s12 e12=>?_
 have b11:BdM N H12 (.ref p11):=qhg9 e12 (λ y=>two (.int _) (.bl _)) (by simp[memL,geV])
 refine⟨z2,λ q2 hq2=>?_⟩
 generalize hgH13:upd _ q2 _=H13
 revert H13
 refine qal9 hq2 λ H13 s13 e13=>?_
 refine⟨q1,q2,_,_,rfl,rfl,s13 _ _ (s12 _ _ (s11 _ _ e10)),e13,(by show 12<=sizeLine;decide),λ q3 hq3=>?_⟩
 generalize hgH14:upd _ q3 _=H14
 revert H14
 refine qal9 hq3 λ H14 s14 e14=>?_
 have y12:=s13.trans s14
 have y11:=s12.trans y12
 have y9:=(s10.trans s11).trans y11
 have y8:=s9.trans y9
 have y7:=s8.trans y8
 have y6:=s7.trans y7
 have y5:=s6.trans y6
 have y4:=s5.trans y5
 have y3:=s4.trans y4
 have y2:=s3.trans y3
 have y1:=s2.trans y2
 have S14:=s1.trans y1
 have all:∀v∈[V.non,V.ref p1,V.ref p2,V.ref p3,V.ref p4,V.ref p5,V.ref p6,V.ref p7,V.ref p8,V.ref p9]++[V.ref p10,V.ref p11],BdM N H14 v:=λ v hv=>by
  simp only[zae,zav,or_false,zeq,zbz] at hv
  rcases hv with rfl|rfl|rfl|rfl|rfl|rfl|rfl|rfl|rfl|rfl|rfl|rfl
  ·exact⟨⟨.non,λ zs e=>(by cases e)⟩,rfl⟩
  ·exact b1.same y1
  ·exact b2.same y2
  ·exact b3.same y3
  ·exact b4.same y4
  ·exact b5.same y5
  ·exact b6.same y6
  ·exact b7.same y7
  ·exact b8.same y8
  ·exact b9.same y9
  ·exact b10.same y11
  ·exact b11.same y12
 clear b1 b2 b3 b4 b5 b6 b7 b8 b9 b10 b11
 have lo:([V.non,V.ref p1,V.ref p2,V.ref p3,V.ref p4,V.ref p5,V.ref p6,V.ref p7,V.ref p8,V.ref p9]++[V.ref p10,V.ref p11]).length=12:=rfl
 generalize [V.non,V.ref p1,V.ref p2,V.ref p3,V.ref p4,V.ref p5,V.ref p6,V.ref p7,V.ref p8,V.ref p9]++[V.ref p10,V.ref p11]=os at *
 clear y1 y2 y3 y4 y5 y6 y7 y8 y9 y11 y12
 obtain⟨ps,w1,w2,w3⟩:=hP.lst
 refine⟨(by show 0<=sizeLine;decide),λ m1 hm1=>?_⟩
 generalize hgH15:upd _ m1 _=H15
 revert H15
 refine qal9 hm1 λ H15 s15 f15=>?_
 refine⟨_,rfl,pp,_,rfl,.inl ⟨SqL.of (s15 _ _ (S14 _ _ w1)),λ m2 hm2=>?_⟩⟩
 generalize hgH16:upd _ m2 _=H16
 revert H16
 refine qal9 hm2 λ H16 s16 f16=>?_
 refine⟨z2,λ m3 hm3=>?_⟩
 generalize hgH17:upd _ m3 _=H17
 revert H17
 refine qal9 hm3 λ H17 s17 f17=>?_
 refine⟨z1,λ m4 hm4=>?_⟩
 generalize hgH18:upd _ m4 _=H18
 revert H18
 refine qal9 hm4 λ H18 s18 f18=>?_
 refine⟨m4,7,_,rfl,rfl,f18,by decide,by decide,(by show 1*7<=sizeLine;decide),λ m5 hm5=>?_⟩
 generalize hgH19:upd _ m5 _=H19
 revert H19
 refine qal9 hm5 λ H19 s19 f19=>?_
 refine⟨(by show 5<=sizeLine;decide),λ m6 hm6=>?_⟩
 generalize hgH20:upd _ m6 _=H20
 revert H20
 refine qal9 hm6 λ H20 s20 f20=>?_
 have x20:Same H14 H20:=s15.trans (s16.trans (s17.trans (s18.trans (s19.trans s20))))
 have S20:=S14.trans x20
 have em:=qdj9 cell (show(0:Int)<17 by decide)
 refine⟨_,rfl,_,_,rfl,rfl,(by show(0:Int)<17;decide),_,_,rfl,rfl,_,rfl,ite2 (λ c=>?_) (λ c=>?_)⟩
 ·have c':cell%17<12:=of_decide_eq_true c
  have lp:(0:Int)<((ps.length:Nat):Int):=⋯
  refine⟨_,rfl,_,_,rfl,rfl,⟨by decide,by decide⟩,_,rfl,pp,_,rfl,.inl (SqL.of (S20 _ _ w1)),_,_,rfl,rfl,lp,?_⟩
  have am:=qdj9 (cell/17) lp
  dsimp only
  generalize cell/17%((ps.length:Nat):Int)=at_ at *
  refine⟨_,rfl,_,rfl,_,rfl,pp,_,rfl,SqL.of (S20 _ _ w1),λ g1 hg1=>?_⟩
  have hl1:=qfd9 ps none (some at_)
  have hm1:∀v∈cutV ps none (some at_),v∈ps:=λ v hv=>qnm9 hv
  generalize cutV ps none (some at_)=c1 at *
  generalize hgG1:upd _ g1 _=G1
  revert G1
  refine qal9 hg1 λ G1 t1 i1=>?_
  obtain⟨v,hv,vm⟩:=qol9 (xs:=os) (j:=cell%17) em.1 ⋯
  have i14:=t1 _ _ (x20 _ _ e14)
  refine⟨_,rfl,_,rfl,_,_,rfl,rfl,(by show(0:Int)<17;decide),q3,_,_,v,rfl,rfl,SqL.of i14,hv,z1,λ g2 hg2=>?_⟩
  generalize hgG2:upd _ g2 _=G2
  revert G2
  refine qal9 hg2 λ G2 t2 i2=>?_
  refine⟨g1,g2,_,_,rfl,rfl,t2 _ _ i1,i2,zbu (qbe9 (by simp;omega)),λ g3 hg3=>?_⟩
  generalize hgG3:upd _ g3 _=G3
  revert G3
  refine qal9 hg3 λ G3 t3 i3=>?_
  have T3:=t1.trans (t2.trans t3)
  refine⟨_,rfl,_,rfl,_,_,rfl,rfl,_,rfl,pp,_,rfl,SqL.of (T3 _ _ (S20 _ _ w1)),λ g4 hg4=>?_⟩
  have hl2:=qfd9 ps (some (at_+1)) none
  have hm2:∀v∈cutV ps (some (at_+1)) none,v∈ps:=λ v hv=>qnm9 hv
  dsimp only
  generalize cutV ps (some (at_+1)) none=c2 at *
  generalize hgG4:upd _ g4 _=G4
  revert G4
  refine qal9 hg4 λ G4 t4 i4=>?_
  refine⟨g3,g4,_,_,rfl,rfl,t4 _ _ i3,i4,zbu (qbe9 (by simp;omega)),λ g5 hg5=>?_⟩
  generalize hgG5:upd _ g5 _=G5
  revert G5
  refine qal9 hg5 λ G5 t5 i5=>?_
  have T5:=x20.trans (T3.trans (t4.trans t5))
  have S5:=S14.trans T5
  have bv:=(all v vm).same T5
  have dp:∀y∈ps,Dv2 G5 y:=λ y hy=>by
   obtain⟨k,hk⟩:=zcn.mp hy
   obtain⟨r,x,rfl,_,er⟩:=w3 k y hk
   exact d2_int (S5 _ _ er)
  have el:lstV G5 (.ref g5)=some (c1++[v]++c2):=qgd9 i5
  refine q (.ref g5) G5 S5 ⟨.lst i5,λ xs ex=>?_⟩ ?_
  ·rw[el] at ex
   cases ex
   refine⟨by simp;omega,λ y hy=>?_⟩
   simp only[zau,zae,zav,or_false] at hy
   rcases hy with(hy|rfl)|hy
   ·exact dp y (hm1 y hy)
   ·exact bv.1
   ·exact dp y (hm2 y hy)
  ·unfold qfq9
   rw[el]
   refine zbj.mpr λ z=>?_
   have:=zba.mp (zdv.mp z).2 v (by simp)
   rw[bv.2] at this
   cases this
 ·have c':¬cell%17<12:=of_decide_eq_false (by simpa using c)
  obtain⟨v,hv,vm⟩:=qol9 (xs:=[V.ref m1,V.non,V.ref m2,V.ref m5,V.int 0]) (j:=cell%17-12) ⋯ (by show cell%17-12<5;omega)
  refine⟨_,rfl,_,rfl,_,_,rfl,rfl,(by show(0:Int)<17;decide),_,_,rfl,rfl,m6,_,_,v,rfl,rfl,SqL.of f20,hv,?_⟩
  have g1:=s20 _ _ (s19 _ _ (s18 _ _ (s17 _ _ (s16 _ _ f15))))
  have g2:=s20 _ _ (s19 _ _ (s18 _ _ (s17 _ _ f16)))
  have g5:=s20 _ _ f19
  have e5:lstV H20 (.ref m5)=some (zbk 7 (V.ref m3)):=qgd9 g5
  simp only[zae,zav,or_false] at vm
  have no:∀u:V,lstV H20 u=none->Dv H20 u->DvP H20 u/\qfq9 H20 N u=false:=λ u e du=>⟨⟨du,λ xs ex=>(by rw[e] at ex;cases ex)⟩,by unfold qfq9;rw[e]⟩
  have fin:DvP H20 v/\qfq9 H20 N v=false:=by
   rcases vm with rfl|rfl|rfl|rfl|rfl
   ·have el:lstV H20 (.ref m1)=some []:=qgd9 g1
    exact⟨⟨.lst g1,λ xs ex=>(by rw[el] at ex;cases ex;exact⟨zbn _,λ y hy=>(by cases hy)⟩)⟩,by unfold qfq9;rw[el];rfl⟩
   ·exact no _ rfl .non
   ·exact no _ (by simp[lstV,g2]) (.tup g2)
   ·refine⟨⟨.lst g5,λ xs ex=>?_⟩,by unfold qfq9;rw[e5];rfl⟩
    rw[e5] at ex
    cases ex
    exact⟨by simp,λ y hy=>(by rw[zei hy];exact d2_int (s20 _ _ (s19 _ _ (s18 _ _ f17))))⟩
   ·exact no _ rfl (.int _)
  exact q v H20 S20 fin.1 fin.2
inductive spParty(K:W.Frag)(vs:List V)(H:Hp)(Q:VK)(z3q:XK):Prop
 |mk (a:Addr) (ns:List Int) (day size:Int):vs=[.ref a,.int day,.int size]->SqL K H a (ns.map V.int)->1<=day->day<=1000000000000000->1<=size->size<=100->(∀(l:Addr) (P:List (Int×Int)) (H':Hp),Same H H'->H l=none->LA enc2 H' l P->qgi9 size P->1<=P.length->P.length<=6->Q (.ref l) H')->spParty K vs H Q z3q
theorem menu4p{x:Int}(hx:1<=x/\x<=1000000000000000)(h0:0<=j)(h1:j<4):∃v:Int,atI [V.int 1,V.int 4,V.int x,V.int ((10:Int) ^ (15:Int).toNat+1)] j=some (.int v)/\1<=v/\v<=1000000000000001:=by
 rcases(by omega:j=0\/j=1\/j=2\/j=3) with rfl|rfl|rfl|rfl
 ·exact⟨1,rfl,by decide,by decide⟩
 ·exact⟨4,rfl,by decide,by decide⟩
 ·exact⟨x,rfl,hx.1,⋯⟩
 ·exact⟨(10:Int) ^ (15:Int).toNat+1,rfl,by rw[pow15];decide,by rw[pow15];decide⟩
theorem ok_party(F:Fun K "_law_party" "_law_party" qcr9 f fd)(B:Bl mg)(Cc0:Callee P w K mg base n "_law_cell_at" ["script","k"] (spCell K)):FnOk P w K mg base CX0 (n+1) f fd ["script","day","size"] (spParty K):=by
 refine F.okQ sc__law_party (λ vs H Q E h=>?_) (λ cdv A outer s H vs Q E hr h=>?_)
 ·obtain⟨_,_,_,_,rfl,_⟩:=h
  rfl
 obtain⟨a,ns,day,size,rfl,hS,d1,d2,z1,z2,q⟩:=h
 refine⟨_,(qab9 (qai9 (i:=3) sc__law_party.nd rfl (zai rfl) (qbj9 qaa9)) (qab9 (qeo9 PassesOwn.never rfl (qdy9 rfl B.range (qa_c (qe_op qav9 qac9 (qe_op qba9 (qe_op qbb9 (qe_fn Cc0 hr rfl (qa_c (qv 0) (qa_c qac9 qaa9))) qac9) qac9)) qaa9)) (qar9 (i:=4) sc__law_party.nd rfl (zai rfl)) (qab9 (qai9 (i:=5) sc__law_party.nd rfl (zai rfl) (qe_fn Cc0 hr rfl (qa_c (qv 0) (qa_c (qe_op qav9 qac9 (qv 4)) qaa9)))) (qab9 (qai9 (i:=6) sc__law_party.nd rfl (zai rfl) (qe_op qbb9 (qv 5) (qv 2))) (qae9 (qbi9 (qbv9 (qv 3) (qa_c (qbd9 (qa_c (qe_op qba9 (qv 5) (qv 2)) (qa_c (qe_op qba9 (qe_op qbb9 (qv 6) qac9) (qe_ix qaj9 (qbj9 (qa_c qac9 (qa_c qac9 (qa_c (qe_cb (qdw9 rfl) rfl B.min bt_min (qa_c (qe_op qlm9 qac9 (qv 1)) (qa_c (qe_op qfm9 qac9 qac9) qaa9))) (qa_c (qe_op qav9 (qe_op qfm9 qac9 qac9) qac9) qaa9))))) (qe_op qba9 (qv 6) qac9) (λ _ _=>rfl))) qaa9))) qaa9))))))) (qae9 (qao9 (qv 3))))),?_⟩
 walk_at "d"
 refine⟨(by show 0<=sizeLine;decide),λ pf hpf=>?_⟩
 have fpf:=hpf
 generalize hgH1:upd _ pf _=H1
 revert H1
 refine qal9 hpf λ H1 s1 e1=>?_
 have sp:0<size:=⋯
 refine⟨_,rfl,a,ns,2,rfl,s1.seq hS,by decide,λ c2=>?_⟩
 have em:=qdj9 (c2/3) (show(0:Int)<3 by decide)
 refine⟨_,_,rfl,rfl,⟨by decide,by decide⟩,_,_,rfl,rfl,(by show(0:Int)<3;decide),_,_,rfl,rfl,1+c2/3%3,rfl,⋯,⋯,qfg9 (lo:=0) (n:=(1+c2/3%3).toNat)
  (λ i σ H'=>∃(P:List (Int×Int)) (v4 v5 v6:Option V),σ=[some (.ref a),some (.int day),some (.int size),some (.ref pf),v4,v5,v6]/\Same H H'/\LA enc2 H' pf P/\P.length=i/\qgi9 size P)
  ⟨[],_,_,_,rfl,s1,LA.nil e1,rfl,λ x hx=>(by cases hx)⟩ ?_ ?_⟩
 ·intro i σ H2 hi z9;obtain⟨P,v4,v5,v6,rfl,s2,hP,lP,inP⟩ := z9
  rw[show(0:Int)+((i:Nat):Int)=(i:Int) by omega]
  refine⟨_,rfl,_,rfl,_,_,rfl,rfl,a,ns,3+(i:Int),rfl,s2.seq hS,⋯,λ cell=>?_⟩
  refine⟨_,rfl,_,rfl,_,_,rfl,rfl,⟨⋯,⋯⟩,?_⟩
  obtain⟨vs,w1,w2,_⟩:=hP.lst
  refine⟨_,rfl,.inl ⟨rfl,_,SqL.of w1⟩,_,rfl,_,rfl,_,_,rfl,rfl,sp,_,rfl,_,_,rfl,rfl,⟨by decide,by decide⟩,_,rfl,_,_,rfl,rfl,.inl ⟨by decide,by decide⟩,_,_,rfl,rfl,⟨by decide,by decide,by decide⟩,_,_,rfl,_,_,rfl,rfl,⟨by decide,by decide,by decide⟩,_,_,rfl,rfl,(by show 4<=sizeLine;decide),λ p hp=>?_⟩
  dsimp only
  have hm:1<=(if(10:Int) ^ (15:Int).toNat<2*day then(10:Int) ^ (15:Int).toNat else 2*day)/\(if(10:Int) ^ (15:Int).toNat<2*day then(10:Int) ^ (15:Int).toNat else 2*day)<=1000000000000000:=by
   rw[pow15]
   split<;>omega
  generalize (if(10:Int) ^ (15:Int).toNat<2*day then(10:Int) ^ (15:Int).toNat else 2*day)=x at *
  generalize hgH3:upd _ p _=H3
  revert H3
  refine qal9 hp λ H3 s3 e3=>?_
  obtain⟨v,hv,v0,v1⟩:=menu4p (j:=cell/size%4) hm (zcg _ (by decide)) (zbw _ (by decide))
  refine⟨_,rfl,_,_,rfl,rfl,(by show(0:Int)<4;decide),p,_,_,.int v,rfl,rfl,SqL.of e3,hv,_,_,rfl,rfl,⋯,(by show 2<=sizeLine;decide),λ rr hrr=>?_⟩
  generalize hgH4:upd _ rr _=H4
  revert H4
  refine qal9 hrr λ H4 s4 e4=>?_
  have s24:=s3.trans s4
  have m1:=qdj9 cell sp
  have m2:=qdj9 (cell/size/4) (show 0<v by omega)
  refine⟨pf,vs,.ref rr,rfl,rfl,s24 _ _ w1,qbe9 ⋯,P++[(cell%size,cell/size/4%v)],_,_,_,rfl,qci9 fpf (s2.trans s24),(hP.same s24).append (x:=(cell%size,cell/size/4%v)) (s24 _ _ w1) e4,by simp[lP],λ y hy=>?_⟩
  rcases zau.mp hy with hy|hy
  ·exact inP y hy
  ·rw[zag] at hy
   subst hy
   exact⟨m1.1,m1.2,m2.1,by show cell/size/4%v<=1000000000000000;omega⟩
 ·intro σ H2 z9;obtain⟨P,v4,v5,v6,rfl,s2,hP,lP,inP⟩ := z9
  exact⟨_,rfl,q pf P H2 s2 fpf hP inP ⋯ ⋯⟩
theorem mx4{f:Nat}(h:f<=4)(hn:n<=3):mxT f 66 (n-1)<=10000:=by
 rcases(by omega:f=0\/f=1\/f=2\/f=3\/f=4) with rfl|rfl|rfl|rfl|rfl<;>rcases(by omega:n=0\/n=1\/n=2\/n=3) with rfl|rfl|rfl|rfl<;>decide
theorem rd_bls{K:W.Frag}{H:Hp}:∀bs:List Bool,RdAll K H (bs.map V.bl) (bs.map PyData.bool)
 | []=>.nil
 |b::bs=>.cons (.bl b) (rd_bls bs)
theorem eqv_bls:∀bs:List Bool,PyData.eqvAll (bs.map PyData.bool) (bs.map PyData.bool)=true
 | []=>by simp[PyData.eqvAll]
 |b::bs=>by simp[PyData.eqvAll,PyData.eqv,eqv_bls bs]
abbrev spRefuB(T:Hp->Prop)(CN CP:Addr):Sp:=λ vs H Q E=>spRefuV T vs H Q E\/spRefuX CN CP vs H Q E
section
variable {ct:Addr}
theorem ok_law{tabs:List (Addr×Addr)}(hTB:TB T)(h0:∀H:Hp,(∀t∈tabs,H t.2=some (.tbl #[]))->T H)(F:Fun K "law" "law" qhd9 f fd)(B:Bl mg)(Cc0:Callee P w K mg base n "_law_cell_at" ["script","k"] (spCell K))(Co2:Callee P w K mg base n "_law_day" ["cell"] spDay)(Ch2:Callee P w K mg base n "_law_roads" ["script","day","size","goal","most"] (spRoads70 K))(Ci2:Callee P w K mg base n "_law_party" ["script","day","size"] (spParty K))
  (Cx1:Callee P w K mg base n "_law_odd_party" ["cell","size","party"] spOddP) (Cc2:Callee P w K mg base n "_law_odd_goal" ["cell","size"] spOddG) (Cd2:Callee P w K mg base n "_law_odd_size" ["cell"] spOddS) (Cy1:Callee P w K mg base n "_law_odd_roads" ["cell","day","size"] spOddR) (Ce2:Callee P w K mg base n "_law_refused" ["way","day","size","roads","last"] (spRefuB T cn cp)):FnOk P w K mg base CX0 (n+1) f fd ["script"] (spLaw K tabs):=by
 refine F.okQ sc_law (λ vs H Q E h=>?_) (λ cdv A outer s H vs Q E hr h=>?_)
 ·obtain⟨_,_,rfl,_⟩:=h
  rfl
 obtain⟨a,ns,rfl,hS,h63,hT,q⟩:=h
 have t0:=h0 H hT
 refine⟨_,(qab9 (qai9 (i:=1) sc_law.nd rfl (zai rfl) (qe_fn Co2 hr rfl (qa_c (qe_fn Cc0 hr rfl (qa_c (qv 0) (qa_c qac9 qaa9))) qaa9))) (qab9 (qai9 (i:=2) sc_law.nd rfl (zai rfl) (qe_op qav9 qac9 (qe_op qba9 (qe_fn Cc0 hr rfl (qa_c (qv 0) (qa_c qac9 qaa9))) qac9))) (qab9 (qai9 (i:=3) sc_law.nd rfl (zai rfl) (qe_fn Ch2 hr rfl (qa_c (qv 0) (qa_c (qv 1) (qa_c (qv 2) (qa_c (qe_op qba9 (qe_fn Cc0 hr rfl (qa_c (qv 0) (qa_c qac9 qaa9))) (qv 2)) (qa_c qac9 qaa9))))))) (qab9 (qai9 (i:=4) sc_law.nd rfl (zai rfl) (qe_fn Ci2 hr rfl (qa_c (qv 0) (qa_c (qv 1) (qa_c (qv 2) qaa9))))) (qab9 (qai9 (i:=5) sc_law.nd rfl (zai rfl) (qe_fn Cc0 hr rfl (qa_c (qv 0) (qa_c qac9 qaa9)))) (qab9 (qai9 (i:=6) sc_law.nd rfl (zai rfl) (qe_op qba9 (qe_fn Cc0 hr rfl (qa_c (qv 0) (qa_c qac9 qaa9))) qac9)) (qab9 (qai9 (i:=7) sc_law.nd rfl (zai rfl) (qe_op qba9 (qe_fn Cc0 hr rfl (qa_c (qv 0) (qa_c qac9 qaa9))) qac9)) (qab9 (qai9 (i:=8) sc_law.nd rfl (zai rfl) (qv 4)) (qek9 (qs_if (qam9 qgs9 (qv 7) qac9 (qau9 _)) (qae9 (qai9 (i:=8) sc_law.nd rfl (zai rfl) (qe_op qba9 (qv 5) (qv 2)))) qat9) (qek9 (qs_if (qhb9 (QW.pt (qw_or (qam9 qcf9 (qv 6) qac9 (qau9 _)) (qer9 (qam9 qcf9 (qv 6) qac9 (qau9 _)))))) (qab9 (qai9 (i:=8) sc_law.nd rfl (zai rfl) (qe_fn Cx1 hr rfl (qa_c (qv 5) (qa_c (qv 2) (qa_c (qv 4) qaa9))))) (qae9 (qs_if (qam9 qgs9 (qv 7) qac9 (qau9 _)) (qae9 (qai9 (i:=8) sc_law.nd rfl (zai rfl) (qe_fn Cc2 hr rfl (qa_c (qv 5) (qa_c (qv 2) qaa9))))) qat9))) qat9) (qab9 (qai9 (i:=9) sc_law.nd rfl (zai rfl) (qbd9 qaa9)) (qek9 (qs_if (qhb9 (QW.pt (qw_or (qam9 qcf9 (qv 6) qac9 (qau9 _)) (qer9 (qam9 qcf9 (qv 6) qac9 (qau9 _)))))) (qae9 (qai9 (i:=9) sc_law.nd rfl (zai rfl) (qbd9 (qa_c qe_bl (qa_c qe_bl (qa_c qe_bl (qa_c qe_bl qaa9))))))) qat9) (qek9 (qs_if (qhb9 (QW.pt (qw_or (qam9 qcf9 (qv 6) qac9 (qau9 _)) (qer9 (qam9 qcf9 (qv 6) qac9 (qau9 _)))))) (qab9 (qai9 (i:=9) sc_law.nd rfl (zai rfl) (qbd9 (qa_c qe_bl (qa_c qe_bl (qa_c qe_bl (qa_c qe_bl qaa9)))))) (qae9 (qs_if (qam9 qcf9 (qe_op qba9 (qe_op qbb9 (qv 5) qac9) qac9) qac9 (qau9 _)) (qae9 (qai9 (i:=2) sc_law.nd rfl (zai rfl) (qe_fn Cd2 hr rfl (qa_c (qe_op qbb9 (qv 5) qac9) qaa9)))) (qae9 (qai9 (i:=3) sc_law.nd rfl (zai rfl) (qe_ix qaj9 (qe_fn Cy1 hr rfl (qa_c (qe_op qbb9 (qv 5) qac9) (qa_c (qv 1) (qa_c (qv 2) qaa9)))) (qe_op qba9 (qe_op qbb9 (qv 5) qac9) qac9) (λ _ _=>rfl))))))) qat9) (qae9 (qao9 (qja9 (qpd9 hr.units) (qe_fn Ce2 hr rfl (qa_c (qv 7) (qa_c (qv 1) (qa_c (qv 2) (qa_c (qv 3) (qa_c (qv 8) qaa9)))))) (qv 9) (qau9 _))))))))))))))))),?_⟩
 walk_at "d"
 refine⟨_,rfl,a,ns,0,rfl,hS,by decide,λ c0=>⟨c0,rfl,λ d H1 d1 d2 s1=>?_⟩⟩
 have hd:0<d:=⋯
 refine⟨_,rfl,a,ns,1,rfl,s1.seq hS,by decide,λ c1=>⟨_,_,rfl,rfl,(by show(0:Int)<3;decide),_,_,rfl,rfl,?_⟩⟩
 dsimp only
 obtain⟨N,hsz,N1,N3⟩:∃N:Nat,1+c1%3=(N:Int)/\1<=N/\N<=3:=by
  have:=qdj9 c1 (show(0:Int)<3 by decide)
  exact⟨(1+c1%3).toNat,⋯,⋯,⋯⟩
 rw[hsz]
 have NP:(0:Int)<N:=⋯
 refine⟨_,rfl,_,rfl,_,rfl,_,rfl,a,ns,2,rfl,s1.seq hS,by decide,λ c2=>⟨_,rfl,_,_,rfl,rfl,NP,?_⟩⟩
 refine⟨a,ns,d,N,c2%(N:Int),4,rfl,s1.seq hS,h63,d1,d2,⋯,by decide,by decide,λ pr Ns H2 s2 hN hIn hNl hNb=>?_⟩
 have s02:=s1.trans s2
 have nokN:=hIn.ok
 have hb4:∀m∈Ns,m.2.2.2.length<=4:=hNb
 refine⟨_,rfl,_,rfl,_,rfl,a,ns,d,(N:Int),rfl,s02.seq hS,d1,d2,⋯,⋯,λ pp P H3 s3 fpp hP inP l1 l6=>?_⟩
 have s03:=s02.trans s3
 have hN3:=hN.same s3
 have t3:=hTB.same _ _ t0 s03
 have S3:=s03.seq hS
 refine⟨_,rfl,a,ns,26,rfl,S3,by decide,λ cell=>?_⟩
 refine⟨_,rfl,a,ns,27,rfl,S3,by decide,λ c3=>⟨_,_,rfl,rfl,(by show(0:Int)<6;decide),?_⟩⟩
 refine⟨_,rfl,a,ns,28,rfl,S3,by decide,λ c4=>⟨_,_,rfl,rfl,(by show(0:Int)<4;decide),?_⟩⟩
 have wb:=qdj9 c4 (show(0:Int)<4 by decide)
 dsimp only
 generalize c3%6=bent
 generalize c4%4=way at *
 have bw:∀{x k:Int},decide (V.int x=V.int k)=true↔x=k:=by simp
 refine⟨_,rfl,λ σ' H'=>H'=H3/\∃last:V,σ'=[some (.ref a),some (.int d),some (.int N),some (.ref pr),some (.ref pp),some (.int cell),some (.int bent),some (.int way),some last,none]/\(way<2->last=.ref pp)/\(¬way<2->last=.int (cell%N)),?_,?_⟩
 ·refine⟨_,rfl,_,_,rfl,rfl,_,rfl,ite2 (λ c=>?_) (λ c=>?_)⟩
  ·have c':way>1:=of_decide_eq_true c
   exact⟨_,rfl,_,rfl,_,_,rfl,rfl,NP,rfl,_,rfl,λ z=>⋯,λ _=>rfl⟩
  ·have c':¬way>1:=λ z=>c (decide_eq_true z)
   exact⟨rfl,_,rfl,λ _=>rfl,λ z=>⋯⟩
 intro σ' H3' z9;obtain⟨rfl,last0,rfl,la0,lb0⟩ := z9
 refine⟨λ σ' H'=>Same H3' H'/\∃last:V,σ'=[some (.ref a),some (.int d),some (.int N),some (.ref pr),some (.ref pp),some (.int cell),some (.int bent),some (.int way),some last,none]/\(¬(bent=1\/bent=2)->last=last0)/\(bent=1\/bent=2->(way<2->DvP H' last/\qfq9 H' N last=false)/\(¬way<2->Dv H' last/\numV N last=false)),?_,?_⟩
 ·refine⟨λ b H'=>H'=H3'/\(b=true↔(bent=1\/bent=2)),?_,?_⟩
  ·refine⟨_,rfl,rfl,_,rfl,ite2 (λ c=>?_) (λ c=>?_)⟩
   ·exact⟨rfl,iff_of_true rfl (.inl (bw.mp c))⟩
   ·refine⟨_,rfl,rfl,_,rfl,rfl,?_⟩
    have:=λ z=>c (bw.mpr z)
    exact bw.trans ⟨.inr,λ z=>z.resolve_left this⟩
  intro b H' z9;obtain⟨rfl,hb⟩ := z9
  refine ite2 (λ c=>?_) (λ c=>?_)
  ·have c':=hb.mp c
   refine⟨_,rfl,_,rfl,_,rfl,cell,(N:Int),pp,P,rfl,hP,l1,l6,λ v H4 s4 dv pv=>?_⟩
   refine⟨_,rfl,_,_,rfl,rfl,_,rfl,ite2 (λ c=>?_) (λ c=>?_)⟩
   ·have c'':way>1:=of_decide_eq_true c
    exact⟨_,rfl,_,rfl,cell,(N:Int),rfl,⋯,λ v5 H5 s5 dv5 nv=>⟨s4.trans s5,_,rfl,λ z=>absurd c' z,λ _=>⟨λ z=>⋯,λ _=>⟨dv5,nv⟩⟩⟩⟩
   ·have c'':¬way>1:=λ z=>c (decide_eq_true z)
    exact⟨s4,_,rfl,λ z=>absurd c' z,λ _=>⟨λ _=>⟨dv,pv⟩,λ z=>⋯⟩⟩
  ·exact⟨Same.refl _,_,rfl,λ _=>rfl,λ z=>absurd (hb.mpr z) c⟩
 intro σ' H4 z9;obtain⟨s4,last,rfl,la,lb⟩ := z9
 refine⟨(by show 0<=sizeLine;decide),λ pu hpu=>?_⟩
 generalize hgH5:upd _ pu _=H5
 revert H5
 refine qal9 hpu λ H5 s5 e5=>?_
 refine⟨λ σ' H'=>Same H5 H'/\∃pd:Addr,σ'=[some (.ref a),some (.int d),some (.int N),some (.ref pr),some (.ref pp),some (.int cell),some (.int bent),some (.int way),some last,some (.ref pd)]/\(¬(bent=1\/bent=2)->H' pd=some (.tup []))/\(bent=1\/bent=2->H' pd=some (.tup [.bl true,.bl false,.bl true,.bl false])),?_,?_⟩
 ·refine⟨λ b H'=>H'=H5/\(b=true↔(bent=1\/bent=2)),?_,?_⟩
  ·refine⟨_,rfl,rfl,_,rfl,ite2 (λ c=>?_) (λ c=>?_)⟩
   ·exact⟨rfl,iff_of_true rfl (.inl (bw.mp c))⟩
   ·refine⟨_,rfl,rfl,_,rfl,rfl,?_⟩
    have:=λ z=>c (bw.mpr z)
    exact bw.trans ⟨.inr,λ z=>z.resolve_left this⟩
  intro b H' z9;obtain⟨rfl,hb⟩ := z9
  refine ite2 (λ c=>?_) (λ c=>?_)
  ·refine⟨(by show 4<=sizeLine;decide),λ pv hpv=>?_⟩
   generalize hgH6:upd _ pv _=H6
   revert H6
   refine qal9 hpv λ H6 s6 e6=>?_
   exact⟨s6,pv,rfl,λ z=>absurd (hb.mp c) z,λ _=>e6⟩
  ·exact⟨Same.refl _,pu,rfl,λ _=>e5,λ z=>absurd (hb.mpr z) c⟩
 intro σ' H6 z9;obtain⟨s6,pd,rfl,ua,ub⟩ := z9
 have s36:=s4.trans (s5.trans s6)
 have hN6:=hN3.same s36
 have dN6:DvN H6 (.ref pr):=(hN6.ew (λ m hm=>zbe (hb4 m hm) (by decide)) ⋯).dn
 refine⟨λ σ' H'=>Same H6 H'/\∃(size roads:V)(pd':Addr),σ'=[some (.ref a),some (.int d),some size,some roads,some (.ref pp),some (.int cell),some (.int bent),some (.int way),some last,some (.ref pd')]/\(¬(bent=2\/bent=3)->size=.int N/\roads=.ref pr/\pd'=pd)/\(bent=2\/bent=3->H' pd'=some (.tup [.bl true,.bl true,.bl false,.bl false])/\Dv H' size/\DvN H' roads/\netV H' d size roads=false),?_,?_⟩
 ·refine⟨λ b H'=>H'=H6/\(b=true↔(bent=2\/bent=3)),?_,?_⟩
  ·refine⟨_,rfl,rfl,_,rfl,ite2 (λ c=>?_) (λ c=>?_)⟩
   ·exact⟨rfl,iff_of_true rfl (.inl (bw.mp c))⟩
   ·refine⟨_,rfl,rfl,_,rfl,rfl,?_⟩
    have:=λ z=>c (bw.mpr z)
    exact bw.trans ⟨.inr,λ z=>z.resolve_left this⟩
  intro b H' z9;obtain⟨rfl,hb⟩ := z9
  refine ite2 (λ c=>?_) (λ c=>?_)
  ·have c':=hb.mp c
   refine⟨(by show 4<=sizeLine;decide),λ pv hpv=>?_⟩
   generalize hgH7:upd _ pv _=H7
   revert H7
   refine qal9 hpv λ H7 s7 e7=>?_
   refine⟨_,rfl,_,_,rfl,rfl,⟨by decide,by decide⟩,_,_,rfl,rfl,(by show(0:Int)<2;decide),rfl,_,rfl,ite2 (λ c2=>?_) (λ c2=>?_)⟩
   ·refine⟨_,rfl,_,_,rfl,rfl,⟨by decide,by decide⟩,_,rfl,λ v H8 s8 dv hv=>?_⟩
    refine⟨s7.trans s8,v,_,pv,rfl,λ z=>absurd c' z,λ _=>⟨s8 _ _ e7,dv,dN6.same (s7.trans s8),?_⟩⟩
    unfold netV
    split
    ·rename_i k
     rw[decide_eq_false (by have:=hv k rfl;omega)]
     rfl
    ·rfl
   ·refine⟨_,rfl,_,_,rfl,rfl,⟨by decide,by decide⟩,_,rfl,_,rfl,_,d,(N:Int),rfl,d1,λ l xs H8 s8 el lx hx=>?_⟩
    have em:=qdj9 (cell/6600) (show(0:Int)<11 by decide)
    obtain⟨v,hv,vm⟩:=qol9 (xs:=xs) (j:=cell/6600%11) em.1 ⋯
    refine⟨_,rfl,_,_,rfl,rfl,⟨by decide,by decide⟩,_,_,rfl,rfl,(by show(0:Int)<11;decide),l,_,_,v,rfl,rfl,SqL.of el,hv,?_⟩
    exact⟨s7.trans s8,_,v,pv,rfl,λ z=>absurd c' z,λ _=>⟨s8 _ _ e7,.int _,(hx v vm).1,(hx v vm).2⟩⟩
  ·exact⟨Same.refl _,_,_,pd,rfl,λ _=>⟨rfl,rfl,rfl⟩,λ z=>absurd (hb.mpr z) c⟩
 intro σ' H7 z9;obtain⟨s7,size,roads,pd',rfl,va,vb⟩ := z9
 have s37:=s36.trans s7
 have fin:∀(bs:List Bool)(l pd:Addr)(H':Hp),SeqAt.shaped (.tuple (bs.map PyData.bool))=true->H' l=some (.tup (bs.map V.bl))->H' pd=some (.tup (bs.map V.bl))->rEqD K (.ref l) (.ref pd) H' Q:=λ bs l pd H' hs e1 e2=>by
  refine⟨_,_,.tup (SqT.of e1) (rd_bls _),.tup (SqT.of e2) (rd_bls _),hs,hs,?_⟩
  rw[show PyData.eqv (.tuple (bs.map PyData.bool)) (.tuple (bs.map PyData.bool))=true by simp[PyData.eqv,eqv_bls]]
  exact q H'
 refine⟨_,rfl,_,rfl,_,rfl,_,rfl,_,rfl,?_⟩
 by_cases cB:bent=2\/bent=3
 ·obtain⟨e7,dsz,drd,nv⟩:=vb cB
  refine .inr ⟨way,d,size,roads,last,cn,1,rfl,wb.1,wb.2,.inl ⟨rfl,rfl⟩,⟨λ _=>.inl ⟨dsz,drd,nv,λ H' s'=>⟨rfl,s'⟩⟩,λ _=>.inl ⟨dsz,drd,nv,λ H' s'=>⟨rfl,s'⟩⟩⟩,λ l H8 s8 e8=>?_⟩
  exact⟨_,rfl,fin [true,true,false,false] l pd' H8 rfl e8 (s8 _ _ e7)⟩
 obtain⟨rfl,rfl,rfl⟩:=va cB
 have hN7:=hN3.same s37
 by_cases cA:bent=1\/bent=2
 ·obtain⟨pA,gA⟩:=lb cA
  have s47:=s5.trans (s6.trans s7)
  refine .inr ⟨way,d,_,_,last,cp,2,rfl,wb.1,wb.2,.inr ⟨rfl,rfl⟩,⟨λ z=>.inr ⟨N,pr,Ns,rfl,rfl,hN7,⋯,nokN,⋯,(pA z).1.same s47,by rw[(pA z).1.partyV_same s47];exact(pA z).2,λ H' s'=>⟨rfl,s'⟩⟩,λ z=>.inr ⟨N,pr,Ns,rfl,rfl,hN7,⋯,nokN,⋯,(gA z).1.same s47,(gA z).2,λ H' s'=>⟨rfl,s'⟩⟩⟩,λ l H8 s8 e8=>?_⟩
  exact⟨_,rfl,fin [true,false,true,false] l pd' H8 rfl e8 (s8 _ _ (s7 _ _ (ub cA)))⟩
 ·have gm:=qdj9 cell NP
  have e0:=la cA
  subst e0
  refine .inl ⟨way,d,N,pr,Ns,last,66,rfl,wb.1,wb.2,hN7,hTB.same _ _ t3 s37,hd,nokN,N1,⋯,⋯,λ x hx=>zbe (hb4 x hx) (by decide),λ x hx=>?_,few16 ⋯ ⋯,mx4 ⋯ N3,λ z=>⟨pp,P,la0 z,hP.same s37,inP,l1,l6⟩,λ z=>⟨_,lb0 z,gm.1,gm.2⟩,λ l H8 u8 t8 e8=>?_⟩
  ·have:=hb4 x hx
   omega
  ·exact⟨_,rfl,fin [] l pd' H8 rfl e8 (u8.tup (s7 _ _ (ua cA)))⟩
end
def Rw(K:W.Frag)(x:Str)(st:Stmt):Prop:=∃(f:Addr)(oc:Value)(od:Option Addr)(kV dc pm:Value)(an:Option Addr)(cd ct:Value) (sl:Array (Option Value)),W.nsIn K mainGlobals x=some (some (.ref f))/\K.lookup f=some ⟨oc,od,.func (W.fnOf x x (qah9 st) (qag9 st) (qad9 st) .none kV dc pm an cd ct),sl⟩/\W.codeIn K cd x=true/\W.keepIn K (.ref f)=true
theorem Rw.mk{K:W.Frag}{x:Str}{st:Stmt}{f:Addr}{oc:Value}{od:Option Addr}{kV dc pm:Value}{an:Option Addr}{cd ct:Value}{sl:Array (Option Value)}(a:W.nsIn K mainGlobals x=some (some (.ref f)))(l:K.lookup f=some ⟨oc,od,.func (W.fnOf x x (qah9 st) (qag9 st) (qad9 st) .none kV dc pm an cd ct),sl⟩)(c:W.codeIn K cd x=true)(k:W.keepIn K (.ref f)=true):Rw K x st:=⟨f,oc,od,kV,dc,pm,an,cd,ct,sl,a,l,c,k⟩
structure Has(K:W.Frag)(mg:Str->Option Value)(x:Str)(st:Stmt)(ps:List Str):Prop where
 ex:∃(f:Addr)(fd:FuncData),Fun K x x st f fd/\Binds K fd ps []/\mg x=some (.ref f)
section
variable {P:Program}{w:World}{base h:Heap}{K:W.Frag}{mg:Str->Option Value}{n:Nat}{x:Str}{st:Stmt}{ps:List Str}{sp:Sp}
theorem Rw.has(r:Rw K x st)(X:K.In h/\h.Ns mainGlobals mg)(hb:∀(kV dc pm:Value)(an:Option Addr)(cd ct:Value)(us:List Value),us.length=ps.length->bindArgs (W.fnOf x x (qah9 st) (qag9 st) (qad9 st) .none kV dc pm an cd ct) ⟨us,[]⟩=pure (ps.zip us)):Has K mg x st ps:=by
 obtain⟨f,oc,od,kV,dc,pm,an,cd,ct,sl,a,l,c,k⟩:=r
 have F:=qdz9 (st:=st) l c k
 exact⟨⟨f,_,F,F.binds hb,W.mg_of X.1 X.2 a⟩⟩
theorem Has.cal(H:Has K mg x st ps)(ok:∀{f:Addr}{fd:FuncData},Fun K x x st f fd->FnOk P w K mg base CX0 n f fd ps sp):Callee P w K mg base n x ps sp:=by
 obtain⟨f,fd,F,b,m⟩:=H.ex
 exact Callee.mk' (ok F) b F.kp m
theorem Rw.h1(r:Rw K x st)(p0:Str)(X:K.In h/\h.Ns mainGlobals mg)(hb:∀(kV dc pm:Value)(an:Option Addr)(cd ct a0:Value),bindArgs (W.fnOf x x (qah9 st) (qag9 st) (qad9 st) .none kV dc pm an cd ct) ⟨[a0],[]⟩=pure [(p0,a0)]):Has K mg x st [p0]:=r.has X λ _ _ _ _ _ _ us hl=>by
 obtain⟨_,rfl⟩:=bl_1 hl
 exact hb _ _ _ _ _ _ _
theorem Rw.h2(r:Rw K x st)(p0 p1:Str)(X:K.In h/\h.Ns mainGlobals mg)(hb:∀(kV dc pm:Value)(an:Option Addr)(cd ct a0 a1:Value),bindArgs (W.fnOf x x (qah9 st) (qag9 st) (qad9 st) .none kV dc pm an cd ct) ⟨[a0,a1],[]⟩=pure [(p0,a0),(p1,a1)]):Has K mg x st [p0,p1]:=r.has X λ _ _ _ _ _ _ us hl=>by
 obtain⟨_,_,rfl⟩:=bl_2 hl
 exact hb _ _ _ _ _ _ _ _
theorem Rw.h3(r:Rw K x st)(p0 p1 p2:Str)(X:K.In h/\h.Ns mainGlobals mg)(hb:∀(kV dc pm:Value)(an:Option Addr)(cd ct a0 a1 a2:Value),bindArgs (W.fnOf x x (qah9 st) (qag9 st) (qad9 st) .none kV dc pm an cd ct) ⟨[a0,a1,a2],[]⟩=pure [(p0,a0),(p1,a1),(p2,a2)]):Has K mg x st [p0,p1,p2]:=r.has X λ _ _ _ _ _ _ us hl=>by
 obtain⟨_,_,_,rfl⟩:=bl_3 hl
 exact hb _ _ _ _ _ _ _ _ _
theorem Rw.h4(r:Rw K x st)(p0 p1 p2 p3:Str)(X:K.In h/\h.Ns mainGlobals mg)(hb:∀(kV dc pm:Value)(an:Option Addr)(cd ct a0 a1 a2 a3:Value),bindArgs (W.fnOf x x (qah9 st) (qag9 st) (qad9 st) .none kV dc pm an cd ct) ⟨[a0,a1,a2,a3],[]⟩=pure [(p0,a0),(p1,a1),(p2,a2),(p3,a3)]):Has K mg x st [p0,p1,p2,p3]:=r.has X λ _ _ _ _ _ _ us hl=>by
 obtain⟨_,_,_,_,rfl⟩:=bl_4 hl
 exact hb _ _ _ _ _ _ _ _ _ _
theorem Rw.h5(r:Rw K x st)(p0 p1 p2 p3 p4:Str)(X:K.In h/\h.Ns mainGlobals mg)(hb:∀(kV dc pm:Value)(an:Option Addr)(cd ct a0 a1 a2 a3 a4:Value),bindArgs (W.fnOf x x (qah9 st) (qag9 st) (qad9 st) .none kV dc pm an cd ct) ⟨[a0,a1,a2,a3,a4],[]⟩=pure [(p0,a0),(p1,a1),(p2,a2),(p3,a3),(p4,a4)]):Has K mg x st [p0,p1,p2,p3,p4]:=r.has X λ _ _ _ _ _ _ us hl=>by
 obtain⟨_,_,_,_,_,rfl⟩:=bl_5 hl
 exact hb _ _ _ _ _ _ _ _ _ _ _
end
abbrev NI(K:W.Frag)(x:Str)(f:Addr):Prop:=W.nsIn K mainGlobals x=some (some (.ref f))
abbrev LK(K:W.Frag)(f:Addr)(x:Str)(st:Stmt)(oc:Value)(od:Option Addr)(kV dc pm:Value)(an:Option Addr)(cd ct:Value)(sl:Array (Option Value)):Prop:=K.lookup f=some ⟨oc,od,.func (W.fnOf x x (qah9 st) (qag9 st) (qad9 st) .none kV dc pm an cd ct),sl⟩
abbrev CI(K:W.Frag)(cd:Value)(x:Str):Prop:=W.codeIn K cd x=true
abbrev KI(K:W.Frag)(f:Addr):Prop:=W.keepIn K (.ref f)=true
theorem all_mk{l:W.OpenLaw}{q:Program}{loose:List Str}{mean:ExcName->Option Value}{w:World}{K:W.Frag}{h:Heap}{mg mb:Str->Option Value}{fa:Addr}(X:K.In h)(G:PyProof.Rows.Top q (W.looseW q loose) mean mg mb h)(hfa:mg "law"=some (.ref fa))
  {f4 f5 f11 f12 f23 f25 f32 f35 f36 f37 f38 f39 f40 f41 f43 f44 f46 f48 f56 f61 tc0 tp0 tc1 tp1 tc2 tp2 tc3 tp3:Addr} {dr0 dr1 dr2 dr3:DefRec} {od4 an4 od5 an5 od11 an11 od12 an12 od23 an23 od25 an25 od32 an32 od35 an35 od36 an36 od37 an37 od38 an38 od39 an39 od40 an40 od41 an41 od43 an43 od44 an44 od46 an46 od48 an48 od56 an56 od61 an61:Option Addr} {sl4 sl5 sl11 sl12 sl23 sl25 sl32 sl35 sl36 sl37 sl38 sl39 sl40 sl41 sl43 sl44 sl46 sl48 sl56 sl61:Array (Option Value)} {oc4 kV4 dc4 pm4 cd4 ct4 oc5 kV5 dc5 pm5 ct5 oc11 kV11 dc11 pm11 cd11 ct11 oc12 kV12 dc12 pm12 cd12 ct12 oc23 kV23 dc23 pm23 ct23 oc25 kV25 dc25 pm25 cd25 ct25 oc32 kV32 dc32 pm32 cd32 ct32 oc35 kV35 dc35 pm35 ct35 oc36 kV36 dc36 pm36 cd36 ct36 oc37 kV37 dc37 pm37 cd37 ct37 oc38 kV38 dc38 pm38 ct38 oc39 kV39 dc39 pm39 cd39 ct39 oc40 kV40 dc40 pm40 cd40 ct40 oc41 kV41 dc41 pm41 cd41 ct41 oc43 kV43 dc43 pm43 cd43 ct43 oc44 kV44 dc44 pm44 cd44 ct44 oc46 kV46 dc46 pm46 cd46 ct46 oc48 kV48 dc48 pm48 cd48 ct48 oc56 kV56 dc56 pm56 cd56 ct56 oc61 kV61 dc61 pm61 cd61 ct61:Value} {cNoBoard cNoNet cNoPlace cNoRoad cNoTurn cNoText cNoRow cNoName cNoWindow cFordError:Addr} {bmNoNet bmNoPlace bmFordError:List Value}
  (r0_:Rw K "is_whole" qdq9)
  (r1_:Rw K "is_window" qcy9)
  (r2_:Rw K "is_board" qdm9)
  (r3_:Rw K "next_open" qcz9)
  (a4:NI K "first_where" f4) (l4:LK K f4 "first_where" qax9 oc4 od4 kV4 dc4 pm4 an4 cd4 ct4 sl4) (c4:CI K cd4 "first_where") (k4:KI K f4)
  (a5:NI K "set_off" f5) (l5:LK K f5 "set_off" qbr9 oc5 od5 kV5 dc5 pm5 an5 (.ref tc0) ct5 sl5) (c5:CI K (.ref tc0) "set_off") (k5:KI K f5)
  (r6_:Rw K "come" qho9)
  (r7_:Rw K "standing" qdo9)
  (r8_:Rw K "is_number" qcw9)
  (r9_:Rw K "is_road" qeg9)
  (r10_:Rw K "is_net" qey9)
  (a11:NI K "need_net" f11) (l11:LK K f11 "need_net" qcs9 oc11 od11 kV11 dc11 pm11 an11 cd11 ct11 sl11) (c11:CI K cd11 "need_net") (k11:KI K f11)
  (a12:NI K "need_place" f12) (l12:LK K f12 "need_place" qbu9 oc12 od12 kV12 dc12 pm12 an12 cd12 ct12 sl12) (c12:CI K cd12 "need_place") (k12:KI K f12)
  (r13_:Rw K "copied" qfc9)
  (r14_:Rw K "stretches" qcx9)
  (r15_:Rw K "first_told" qcn9)
  (r16_:Rw K "overlay" qeb9)
  (r17_:Rw K "put_window" qct9)
  (r18_:Rw K "clock_from" qcq9)
  (r19_:Rw K "picked" qez9)
  (r20_:Rw K "joined" qfe9)
  (r21_:Rw K "sooner" qfb9)
  (r22_:Rw K "later" qfw9)
  (a23:NI K "ridden" f23) (l23:LK K f23 "ridden" qch9 oc23 od23 kV23 dc23 pm23 an23 (.ref tc1) ct23 sl23) (c23:CI K (.ref tc1) "ridden") (k23:KI K f23)
  (r24_:Rw K "behind" qfj9)
  (a25:NI K "clock_within" f25) (l25:LK K f25 "clock_within" qbm9 oc25 od25 kV25 dc25 pm25 an25 cd25 ct25 sl25) (c25:CI K cd25 "clock_within") (k25:KI K f25)
  (r26_:Rw K "clock_of" qdn9)
  (r27_:Rw K "later_within" qby9)
  (r28_:Rw K "first_later" qcg9)
  (r29_:Rw K "fords_of" qdp9)
  (r30_:Rw K "staying" qec9)
  (r31_:Rw K "copied_table" qbw9)
  (a32:NI K "grown" f32) (l32:LK K f32 "grown" qdu9 oc32 od32 kV32 dc32 pm32 an32 cd32 ct32 sl32) (c32:CI K cd32 "grown") (k32:KI K f32)
  (r33_:Rw K "ride_first" qcp9)
  (r34_:Rw K "ride_last" qdc9)
  (a35:NI K "rounds_to" f35) (l35:LK K f35 "rounds_to" qbg9 oc35 od35 kV35 dc35 pm35 an35 (.ref tc2) ct35 sl35) (c35:CI K (.ref tc2) "rounds_to") (k35:KI K f35)
  (a36:NI K "rounds" f36) (l36:LK K f36 "rounds" qdx9 oc36 od36 kV36 dc36 pm36 an36 cd36 ct36 sl36) (c36:CI K cd36 "rounds") (k36:KI K f36)
  (a37:NI K "table" f37) (l37:LK K f37 "table" qeu9 oc37 od37 kV37 dc37 pm37 an37 cd37 ct37 sl37) (c37:CI K cd37 "table") (k37:KI K f37)
  (a38:NI K "table_from" f38) (l38:LK K f38 "table_from" qaz9 oc38 od38 kV38 dc38 pm38 an38 (.ref tc3) ct38 sl38) (c38:CI K (.ref tc3) "table_from") (k38:KI K f38)
  (a39:NI K "is_member" f39) (l39:LK K f39 "is_member" qca9 oc39 od39 kV39 dc39 pm39 an39 cd39 ct39 sl39) (c39:CI K cd39 "is_member") (k39:KI K f39)
  (a40:NI K "need_party" f40) (l40:LK K f40 "need_party" qbs9 oc40 od40 kV40 dc40 pm40 an40 cd40 ct40 sl40) (c40:CI K cd40 "need_party") (k40:KI K f40)
  (a41:NI K "tables_by_start" f41) (l41:LK K f41 "tables_by_start" qay9 oc41 od41 kV41 dc41 pm41 an41 cd41 ct41 sl41) (c41:CI K cd41 "tables_by_start") (k41:KI K f41)
  (r42_:Rw K "meeting_there" qbp9)
  (a43:NI K "meeting" f43) (l43:LK K f43 "meeting" qdk9 oc43 od43 kV43 dc43 pm43 an43 cd43 ct43 sl43) (c43:CI K cd43 "meeting") (k43:KI K f43)
  (a44:NI K "meet_at" f44) (l44:LK K f44 "meet_at" qdg9 oc44 od44 kV44 dc44 pm44 an44 cd44 ct44 sl44) (c44:CI K cd44 "meet_at") (k44:KI K f44)
  (r45_:Rw K "without" qef9)
  (a46:NI K "thinned" f46) (l46:LK K f46 "thinned" qdh9 oc46 od46 kV46 dc46 pm46 an46 cd46 ct46 sl46) (c46:CI K cd46 "thinned") (k46:KI K f46)
  (r47_:Rw K "later_place" qce9)
  (a48:NI K "needs" f48) (l48:LK K f48 "needs" qew9 oc48 od48 kV48 dc48 pm48 an48 cd48 ct48 sl48) (c48:CI K cd48 "needs") (k48:KI K f48)
  (r49_:Rw K "_law_cell_at" qbx9)
  (r50_:Rw K "_law_day" qdl9)
  (r51_:Rw K "_law_stay" qda9)
  (r52_:Rw K "_law_ride" qdd9)
  (r53_:Rw K "_law_roads" qco9)
  (r54_:Rw K "_law_party" qcr9)
  (r55_:Rw K "_law_other" qcm9)
  (a56:NI K "_law_refused" f56) (l56:LK K f56 "_law_refused" qbh9 oc56 od56 kV56 dc56 pm56 an56 cd56 ct56 sl56) (c56:CI K cd56 "_law_refused") (k56:KI K f56)
  (r57_:Rw K "_law_odd_size" qbn9)
  (r58_:Rw K "_law_odd_roads" qbk9)
  (r59_:Rw K "_law_odd_party" qbl9)
  (r60_:Rw K "_law_odd_goal" qbo9)
  (a61:NI K "law" f61) (l61:LK K f61 "law" qhd9 oc61 od61 kV61 dc61 pm61 an61 cd61 ct61 sl61) (c61:CI K cd61 "law") (k61:KI K f61)
  (z0:W.nsIn K mainGlobals "len"=some none) (z1:W.nsIn K mainGlobals "max"=some none) (z2:W.nsIn K mainGlobals "min"=some none) (z3:W.nsIn K mainGlobals "all"=some none) (z4:W.nsIn K mainGlobals "any"=some none) (z5:W.nsIn K mainGlobals "range"=some none) (z6:W.nsIn K mainGlobals "enumerate"=some none) (z7:W.nsIn K mainGlobals "isinstance"=some none) (z8:W.nsIn K mainGlobals "bool"=some none) (z9:W.nsIn K mainGlobals "int"=some none) (z10:W.nsIn K mainGlobals "tuple"=some none) (z11:W.nsIn K mainGlobals "list"=some none) (xa_NoBoard:W.nsIn K mainGlobals "NoBoard"=some (some (.ref cNoBoard))) (xa_NoNet:W.nsIn K mainGlobals "NoNet"=some (some (.ref cNoNet))) (xa_NoPlace:W.nsIn K mainGlobals "NoPlace"=some (some (.ref cNoPlace))) (xa_NoRoad:W.nsIn K mainGlobals "NoRoad"=some (some (.ref cNoRoad))) (xa_NoTurn:W.nsIn K mainGlobals "NoTurn"=some (some (.ref cNoTurn))) (xa_NoText:W.nsIn K mainGlobals "NoText"=some (some (.ref cNoText))) (xa_NoRow:W.nsIn K mainGlobals "NoRow"=some (some (.ref cNoRow))) (xa_NoName:W.nsIn K mainGlobals "NoName"=some (some (.ref cNoName))) (xa_NoWindow:W.nsIn K mainGlobals "NoWindow"=some (some (.ref cNoWindow))) (xa_FordError:W.nsIn K mainGlobals "FordError"=some (some (.ref cFordError))) (xz_ValueError:W.nsIn K mainGlobals "ValueError"=some none) (xw_NoNet:ExC K cNoNet bmNoNet) (xw_NoPlace:ExC K cNoPlace bmNoPlace) (xw_FordError:ExC K cFordError bmFordError) (xb_NoNet:(Value.ref cNoNet::bmNoNet).contains (.ref cFordError)=true) (xy_NoNet:kindB K cNoNet (due73 cNoBoard cNoNet cNoPlace cNoRoad cNoTurn cNoText cNoRow cNoName cNoWindow 1)=true) (xb_NoPlace:(Value.ref cNoPlace::bmNoPlace).contains (.ref cFordError)=true) (xy_NoPlace:kindB K cNoPlace (due73 cNoBoard cNoNet cNoPlace cNoRoad cNoTurn cNoText cNoRow cNoName cNoWindow 2)=true)
  (r0:(PyProof.Rows.recsOf q).find? (λ e=>e.name==Str.ofString "set_off")=some dr0) (t0:W.tabIn K "set_off"=some (tc0,tp0)) (n0:K.lookup tp0=none) (r1:(PyProof.Rows.recsOf q).find? (λ e=>e.name==Str.ofString "ridden")=some dr1) (t1:W.tabIn K "ridden"=some (tc1,tp1)) (n1:K.lookup tp1=none) (r2:(PyProof.Rows.recsOf q).find? (λ e=>e.name==Str.ofString "rounds_to")=some dr2) (t2:W.tabIn K "rounds_to"=some (tc2,tp2)) (n2:K.lookup tp2=none) (r3:(PyProof.Rows.recsOf q).find? (λ e=>e.name==Str.ofString "table_from")=some dr3) (t3:W.tabIn K "table_from"=some (tc3,tp3)) (n3:K.lookup tp3=none) (ne01:tp0≠tp1) (ne02:tp0≠tp2) (ne03:tp0≠tp3) (ne12:tp1≠tp2) (ne13:tp1≠tp3) (ne23:tp2≠tp3) :
  ∃(fd:FuncData) (tabs:List (Addr×Addr)),(∀(s:Shared)(v:Value),BindsTo s fd ⟨[v],[]⟩ [("script",v)])/\(∀t∈tabs,W.CodeHd h t.1 t.2/\h.get? t.2=some (W.tabObj #[])/\K.lookup t.2=none)/\∀base:Heap,K.In base->base.Ns mainGlobals mg->BMain mg base->(∀t∈tabs,W.CodeHd base t.1 t.2)->FnOk l.prog w K mg base CX0 27 fa fd ["script"] (spLaw K tabs):=by
 have e:=hfa.symm.trans (W.mg_of X G.g a61)
 cases e
 have XG:=And.intro X G.g
 have H0:=r0_.h1 "thing" XG λ _ _ _ _ _ _ _=>rfl
 have H1:=r1_.h2 "day" "thing" XG λ _ _ _ _ _ _ _ _=>rfl
 have H2:=r2_.h2 "day" "thing" XG λ _ _ _ _ _ _ _ _=>rfl
 have H3:=r3_.h3 "day" "window" "t" XG λ _ _ _ _ _ _ _ _ _=>rfl
 have F4:=qdz9 (st:=qax9) l4 c4 k4
 have b4:=F4.binds (ps:=["clock","holds"]) λ _ _ _ _ _ _ us hl=>by
  obtain⟨_,_,rfl⟩:=bl_2 hl
  rfl
 have m4:=W.mg_of X G.g a4
 have F5:=qdz9 (st:=qbr9) l5 c5 k5
 have b5:=F5.binds (ps:=["day","clock","t"]) λ _ _ _ _ _ _ us hl=>by
  obtain⟨_,_,_,rfl⟩:=bl_3 hl
  rfl
 have m5:=W.mg_of X G.g a5
 have H6:=r6_.h3 "day" "clock" "t" XG λ _ _ _ _ _ _ _ _ _=>rfl
 have H7:=r7_.h1 "day" XG λ _ _ _ _ _ _ _=>rfl
 have H8:=r8_.h2 "count" "thing" XG λ _ _ _ _ _ _ _ _=>rfl
 have H9:=r9_.h3 "day" "size" "thing" XG λ _ _ _ _ _ _ _ _ _=>rfl
 have H10:=r10_.h3 "day" "size" "roads" XG λ _ _ _ _ _ _ _ _ _=>rfl
 have F11:=qdz9 (st:=qcs9) l11 c11 k11
 have b11:=F11.binds (ps:=["day","size","roads"]) λ _ _ _ _ _ _ us hl=>by
  obtain⟨_,_,_,rfl⟩:=bl_3 hl
  rfl
 have m11:=W.mg_of X G.g a11
 have F12:=qdz9 (st:=qbu9) l12 c12 k12
 have b12:=F12.binds (ps:=["size","thing"]) λ _ _ _ _ _ _ us hl=>by
  obtain⟨_,_,rfl⟩:=bl_2 hl
  rfl
 have m12:=W.mg_of X G.g a12
 have H13:=r13_.h1 "roads" XG λ _ _ _ _ _ _ _=>rfl
 have H14:=r14_.h2 "day" "clock" XG λ _ _ _ _ _ _ _ _=>rfl
 have H15:=r15_.h1 "row" XG λ _ _ _ _ _ _ _=>rfl
 have H16:=r16_.h3 "day" "one" "other" XG λ _ _ _ _ _ _ _ _ _=>rfl
 have H17:=r17_.h4 "clock" "a" "b" "c" XG λ _ _ _ _ _ _ _ _ _ _=>rfl
 have H18:=r18_.h2 "day" "rows" XG λ _ _ _ _ _ _ _ _=>rfl
 have H19:=r19_.h5 "p" "q" "waiting" "riding" "late" XG λ _ _ _ _ _ _ _ _ _ _ _=>rfl
 have H20:=r20_.h4 "day" "one" "other" "late" XG λ _ _ _ _ _ _ _ _ _ _=>rfl
 have H21:=r21_.h3 "day" "one" "other" XG λ _ _ _ _ _ _ _ _ _=>rfl
 have H22:=r22_.h3 "day" "one" "other" XG λ _ _ _ _ _ _ _ _ _=>rfl
 have F23:=qdz9 (st:=qch9) l23 c23 k23
 have b23:=F23.binds (ps:=["day","p","q","ride","others"]) λ _ _ _ _ _ _ us hl=>by
  obtain⟨_,_,_,_,_,rfl⟩:=bl_5 hl
  rfl
 have m23:=W.mg_of X G.g a23
 have H24:=r24_.h3 "day" "one" "other" XG λ _ _ _ _ _ _ _ _ _=>rfl
 have F25:=qdz9 (st:=qbm9) l25 c25 k25
 have b25:=F25.binds (ps:=["day","board"]) λ _ _ _ _ _ _ us hl=>by
  obtain⟨_,_,rfl⟩:=bl_2 hl
  rfl
 have m25:=W.mg_of X G.g a25
 have H26:=r26_.h2 "day" "board" XG λ _ _ _ _ _ _ _ _=>rfl
 have H27:=r27_.h1 "row" XG λ _ _ _ _ _ _ _=>rfl
 have H28:=r28_.h3 "day" "one" "other" XG λ _ _ _ _ _ _ _ _ _=>rfl
 have H29:=r29_.h2 "day" "roads" XG λ _ _ _ _ _ _ _ _=>rfl
 have H30:=r30_.h3 "day" "size" "place" XG λ _ _ _ _ _ _ _ _ _=>rfl
 have H31:=r31_.h1 "told" XG λ _ _ _ _ _ _ _=>rfl
 have F32:=qdz9 (st:=qdu9) l32 c32 k32
 have b32:=F32.binds (ps:=["day","size","place","step"]) λ _ _ _ _ _ _ us hl=>by
  obtain⟨_,_,_,_,rfl⟩:=bl_4 hl
  rfl
 have m32:=W.mg_of X G.g a32
 have H33:=r33_.h3 "day" "fords" "told" XG λ _ _ _ _ _ _ _ _ _=>rfl
 have H34:=r34_.h3 "day" "fords" "told" XG λ _ _ _ _ _ _ _ _ _=>rfl
 have F35:=qdz9 (st:=qbg9) l35 c35 k35
 have b35:=F35.binds (ps:=["day","size","roads","goal"]) λ _ _ _ _ _ _ us hl=>by
  obtain⟨_,_,_,_,rfl⟩:=bl_4 hl
  rfl
 have m35:=W.mg_of X G.g a35
 have F36:=qdz9 (st:=qdx9) l36 c36 k36
 have b36:=F36.binds (ps:=["day","size","roads","goal"]) λ _ _ _ _ _ _ us hl=>by
  obtain⟨_,_,_,_,rfl⟩:=bl_4 hl
  rfl
 have m36:=W.mg_of X G.g a36
 have F37:=qdz9 (st:=qeu9) l37 c37 k37
 have b37:=F37.binds (ps:=["day","size","roads","goal"]) λ _ _ _ _ _ _ us hl=>by
  obtain⟨_,_,_,_,rfl⟩:=bl_4 hl
  rfl
 have m37:=W.mg_of X G.g a37
 have F38:=qdz9 (st:=qaz9) l38 c38 k38
 have b38:=F38.binds (ps:=["day","size","roads","start"]) λ _ _ _ _ _ _ us hl=>by
  obtain⟨_,_,_,_,rfl⟩:=bl_4 hl
  rfl
 have m38:=W.mg_of X G.g a38
 have F39:=qdz9 (st:=qca9) l39 c39 k39
 have b39:=F39.binds (ps:=["size","thing"]) λ _ _ _ _ _ _ us hl=>by
  obtain⟨_,_,rfl⟩:=bl_2 hl
  rfl
 have m39:=W.mg_of X G.g a39
 have F40:=qdz9 (st:=qbs9) l40 c40 k40
 have b40:=F40.binds (ps:=["size","thing"]) λ _ _ _ _ _ _ us hl=>by
  obtain⟨_,_,rfl⟩:=bl_2 hl
  rfl
 have m40:=W.mg_of X G.g a40
 have F41:=qdz9 (st:=qay9) l41 c41 k41
 have b41:=F41.binds (ps:=["day","size","roads","party"]) λ _ _ _ _ _ _ us hl=>by
  obtain⟨_,_,_,_,rfl⟩:=bl_4 hl
  rfl
 have m41:=W.mg_of X G.g a41
 have H42:=r42_.h4 "day" "party" "tables" "place" XG λ _ _ _ _ _ _ _ _ _ _=>rfl
 have F43:=qdz9 (st:=qdk9) l43 c43 k43
 have b43:=F43.binds (ps:=["day","size","roads","party"]) λ _ _ _ _ _ _ us hl=>by
  obtain⟨_,_,_,_,rfl⟩:=bl_4 hl
  rfl
 have m43:=W.mg_of X G.g a43
 have F44:=qdz9 (st:=qdg9) l44 c44 k44
 have b44:=F44.binds (ps:=["day","size","roads","party","t"]) λ _ _ _ _ _ _ us hl=>by
  obtain⟨_,_,_,_,_,rfl⟩:=bl_5 hl
  rfl
 have m44:=W.mg_of X G.g a44
 have H45:=r45_.h3 "roads" "number" "window" XG λ _ _ _ _ _ _ _ _ _=>rfl
 have F46:=qdz9 (st:=qdh9) l46 c46 k46
 have b46:=F46.binds (ps:=["day","size","roads","goal"]) λ _ _ _ _ _ _ us hl=>by
  obtain⟨_,_,_,_,rfl⟩:=bl_4 hl
  rfl
 have m46:=W.mg_of X G.g a46
 have H47:=r47_.h3 "day" "one" "other" XG λ _ _ _ _ _ _ _ _ _=>rfl
 have F48:=qdz9 (st:=qew9) l48 c48 k48
 have b48:=F48.binds (ps:=["day","size","roads","goal"]) λ _ _ _ _ _ _ us hl=>by
  obtain⟨_,_,_,_,rfl⟩:=bl_4 hl
  rfl
 have m48:=W.mg_of X G.g a48
 have H49:=r49_.h2 "script" "k" XG λ _ _ _ _ _ _ _ _=>rfl
 have H50:=r50_.h1 "cell" XG λ _ _ _ _ _ _ _=>rfl
 have H51:=r51_.h2 "cell" "room" XG λ _ _ _ _ _ _ _ _=>rfl
 have H52:=r52_.h2 "cell" "day" XG λ _ _ _ _ _ _ _ _=>rfl
 have H53:=r53_.h5 "script" "day" "size" "goal" "most" XG λ _ _ _ _ _ _ _ _ _ _ _=>rfl
 have H54:=r54_.h3 "script" "day" "size" XG λ _ _ _ _ _ _ _ _ _=>rfl
 have H55:=r55_.h1 "e" XG λ _ _ _ _ _ _ _=>rfl
 have F56:=qdz9 (st:=qbh9) l56 c56 k56
 have b56:=F56.binds (ps:=["way","day","size","roads","last"]) λ _ _ _ _ _ _ us hl=>by
  obtain⟨_,_,_,_,_,rfl⟩:=bl_5 hl
  rfl
 have m56:=W.mg_of X G.g a56
 have H57:=r57_.h1 "cell" XG λ _ _ _ _ _ _ _=>rfl
 have H58:=r58_.h3 "cell" "day" "size" XG λ _ _ _ _ _ _ _ _ _=>rfl
 have H59:=r59_.h3 "cell" "size" "party" XG λ _ _ _ _ _ _ _ _ _=>rfl
 have H60:=r60_.h2 "cell" "size" XG λ _ _ _ _ _ _ _ _=>rfl
 have F61:=qdz9 (st:=qhd9) l61 c61 k61
 have b61:=F61.binds (ps:=["script"]) λ _ _ _ _ _ _ us hl=>by
  obtain⟨_,rfl⟩:=bl_1 hl
  rfl
 have m61:=W.mg_of X G.g a61
 obtain⟨hd0,ho0⟩:=W.tab_of G X r0 t0
 obtain⟨hd1,ho1⟩:=W.tab_of G X r1 t1
 obtain⟨hd2,ho2⟩:=W.tab_of G X r2 t2
 obtain⟨hd3,ho3⟩:=W.tab_of G X r3 t3
 have B:Bl mg:=⟨W.mg_none_of X G.g z0,W.mg_none_of X G.g z1,W.mg_none_of X G.g z2,W.mg_none_of X G.g z3,W.mg_none_of X G.g z4,W.mg_none_of X G.g z5,W.mg_none_of X G.g z6,W.mg_none_of X G.g z7,W.mg_none_of X G.g z8,W.mg_none_of X G.g z9,W.mg_none_of X G.g z10,W.mg_none_of X G.g z11⟩
 refine⟨W.fnOf "law" "law" (qah9 qhd9) (qag9 qhd9) (qad9 qhd9) .none kV61 dc61 pm61 an61 cd61 ct61,[(tc0,tp0),(tc1,tp1),(tc2,tp2),(tc3,tp3)],λ s v=>.of_eq rfl,λ t ht=>?_,λ base _ _ hB hT=>?_⟩
 ·simp only[zae,zav,or_false] at ht
  rcases ht with rfl|rfl|rfl|rfl
  ·exact⟨hd0,ho0,n0⟩
  ·exact⟨hd1,ho1,n1⟩
  ·exact⟨hd2,ho2,n2⟩
  ·exact⟨hd3,ho3,n3⟩
 have T0:=hT (tc0,tp0) (by simp)
 have T1:=hT (tc1,tp1) (by simp)
 have T2:=hT (tc2,tp2) (by simp)
 have T3:=hT (tc3,tp3) (by simp)
 have cal:=@Has.cal l.prog w base
 have Cd0:=cal H0 λ F=>qlx9 (n:=0) F B
 have Cj1:=cal H1 λ F=>qkm9 (n:=1) F B Cd0
 have Cq0:=cal H2 λ F=>qnc9 (n:=2) F B Cj1
 have Ck1:=cal H3 λ F=>ok_next (n:=1) F B
 have Cp1:=Callee.mk' (P:=l.prog) (w:=w) (base:=base) (qof9 l5 c5 B T0 hB F4 b4 m4 Ck1) b5 k5 m5
 have Cq1:=cal H6 λ F=>ok_come (n:=3) F Cp1
 have Cj0:=cal H14 λ F=>qka9 (n:=3) F B
 have Cz0:=cal H15 λ F=>qiy9 (n:=3) F
 have Cy0:=cal H16 λ F=>qod9 (n:=4) F B Cj0
 have Ca1:=cal H17 λ F=>ok_put (n:=3) F B
 have Ck0:=cal H18 λ F=>qiu9 (n:=4) F B Cz0 Ca1
 have Cn1:=cal H19 λ F=>ok_picked (n:=4) F B
 have Cc1:=cal H20 λ F=>ok_joined (n:=5) F B Cy0 Cn1 Ck0
 have Cf0:=cal H21 λ F=>ok_sooner (n:=6) F B Cc1
 have Ce0:=Callee.mk' (P:=l.prog) (w:=w) (base:=base) (qle9 F25 B b25 k25 m25 Cf0 10) b25 k25 m25
 have Co1:=cal H26 λ F=>qmz9 (n:=18) F (Cq0.up (by decide)) Ce0
 have Cb0:=cal H8 λ F=>qjw9 (n:=1) F Cd0
 have Cr1:=cal H9 λ F=>qnq9 (n:=3) F B (Cb0.up (by decide)) Cq0
 have Cw0:=cal H10 λ F=>ok_is_net (n:=4) F B (Cd0.up (by decide)) Cr1
 have Ct1:=Callee.mk' (P:=l.prog) (w:=w) (base:=base) (ok_ridden l23 c23 B T1 hB F4 b4 m4) b23 k23 m23
 have TBx:TB λ H=>TabOk H tp0 ⟨33,32,33,64⟩ (lamQ "set_off")/\TabOk H tp1 ⟨161,28,161,54⟩ (lamQ "ridden")/\TabOk H tp2 ⟨244,34,244,75⟩ (lamQ "rounds_to")/\TabOk H tp3 ⟨255,35,255,75⟩ (lamQ "table_from"):=(tb_one _ _ _).and ((tb_one _ _ _).and ((tb_one _ _ _).and (tb_one _ _ _)))
 have TDx:TD λ H=>TabOk H tp0 ⟨33,32,33,64⟩ (lamQ "set_off")/\TabOk H tp1 ⟨161,28,161,54⟩ (lamQ "ridden")/\TabOk H tp2 ⟨244,34,244,75⟩ (lamQ "rounds_to")/\TabOk H tp3 ⟨255,35,255,75⟩ (lamQ "table_from"):=(td_one _ _ _).and ((td_one _ _ _).and ((td_one _ _ _).and (td_one _ _ _)))
 have CT:=come_T (T:=λ H=>TabOk H tp0 ⟨33,32,33,64⟩ (lamQ "set_off")/\TabOk H tp1 ⟨161,28,161,54⟩ (lamQ "ridden")/\TabOk H tp2 ⟨244,34,244,75⟩ (lamQ "rounds_to")/\TabOk H tp3 ⟨255,35,255,75⟩ (lamQ "table_from")) Cq1 (λ _ t=>t.1) (λ _ _ t s t'=>⟨t',qck9 t.2.1 t.1 s ne01.symm,qck9 t.2.2.1 t.1 s ne02.symm,qck9 t.2.2.2 t.1 s ne03.symm⟩)
 have CR:=ridden_T (T:=λ H=>TabOk H tp0 ⟨33,32,33,64⟩ (lamQ "set_off")/\TabOk H tp1 ⟨161,28,161,54⟩ (lamQ "ridden")/\TabOk H tp2 ⟨244,34,244,75⟩ (lamQ "rounds_to")/\TabOk H tp3 ⟨255,35,255,75⟩ (lamQ "table_from")) Ct1 (λ _ t=>t.2.1) (λ _ _ t s t'=>⟨qck9 t.1 t.2.1 s ne01,t',qck9 t.2.2.1 t.2.1 s ne12.symm,qck9 t.2.2.2 t.2.1 s ne13.symm⟩)
 have Cn0:=cal H24 λ F=>ok_behind (n:=5) TBx F B (Cj0.up (by decide)) (CT.up (by decide)) (CR.up (by decide)) Ck0
 have Ci0:=Callee.mk' (P:=l.prog) (w:=w) (base:=base) (qht9 (n:=5) F11 Cw0) b11 k11 m11
 have Cl0:=Callee.mk' (P:=l.prog) (w:=w) (base:=base) (qgf9 (n:=2) F12 Cb0) b12 k12 m12
 have Cr0:=cal H7 λ F=>ok_stand (n:=0) F
 have Cs0:=cal H29 λ F=>qmm9 (n:=19) F Co1
 have Ch0:=cal H30 λ F=>qqf9 (n:=1) F B Cr0
 have Ca0:=cal H31 λ F=>ok_copied (n:=0) F B
 have Co0:=cal H33 λ F=>qjd9 (n:=7) TBx F (Ca0.up (by decide)) Cf0 (Cn0.up (by decide))
 have Cl1:=Callee.mk' (P:=l.prog) (w:=w) (base:=base) (qjo9 (n:=18) l35 c35 B T2 hB F32 b32 m32 TBx (λ _ t=>t.2.2.1) (λ _ _ t s t'=>⟨qck9 t.1 t.2.2.1 s ne02,qck9 t.2.1 t.2.2.1 s ne12,t',qck9 t.2.2.2 t.2.2.1 s ne23.symm⟩) Cs0 (Ch0.up (by decide)) (Ca0.up (by decide)) (Co0.up (by decide))) b35 k35 m35
 have Cu0:=cal H34 λ F=>qjr9 (n:=7) TBx F (Ca0.up (by decide)) Cf0 (Cn0.up (by decide))
 have Ci1:=Callee.mk' (P:=l.prog) (w:=w) (base:=base) (qjn9 (n:=18) l38 c38 B T3 hB F32 b32 m32 TBx (λ _ t=>t.2.2.2) (λ _ _ t s t'=>⟨qck9 t.1 t.2.2.2 s ne03,qck9 t.2.1 t.2.2.2 s ne13,qck9 t.2.2.1 t.2.2.2 s ne23,t'⟩) (Ci0.up (by decide)) (Cl0.up (by decide)) Cs0 (Ch0.up (by decide)) (Ca0.up (by decide)) (Cu0.up (by decide))) b38 k38 m38
 have Cu1:=Callee.mk' (P:=l.prog) (w:=w) (base:=base) (ok_rounds (n:=21) F36 TBx (Ci0.up (by decide)) (Cl0.up (by decide)) Cl1) b36 k36 m36
 have Ct0:=Callee.mk' (P:=l.prog) (w:=w) (base:=base) (ok_table (n:=22) F37 Cu1) b37 k37 m37
 have Cx0:=cal H13 λ F=>qlw9 (n:=19) F B
 have Cp0:=cal H45 λ F=>qoi9 (n:=20) F Cx0
 have Cs1:=Callee.mk' (P:=l.prog) (w:=w) (base:=base) (qiv9 (n:=23) TBx F46 B Ct0 (Cx0.up (by decide)) (Cp0.up (by decide))) b46 k46 m46
 have Cd1:=cal H27 λ F=>qqe9 (n:=3) F B
 have Cf1:=cal H28 λ F=>ok_firstl (n:=5) F B (Cd1.up (by decide)) Cy0
 have Cg1:=cal H47 λ F=>qiq9 (n:=6) F B Cf1
 have Cv0:=Callee.mk' (P:=l.prog) (w:=w) (base:=base) (qkn9 (n:=2) F39 B Cb0 (Cd0.up (by decide))) b39 k39 m39
 have Ch1:=Callee.mk' (P:=l.prog) (w:=w) (base:=base) (qjj9 (n:=3) F40 B Cv0) b40 k40 m40
 have Cg0:=Callee.mk' (P:=l.prog) (w:=w) (base:=base) (qmy9 (n:=21) TBx TDx F41 (Ci0.up (by decide)) (Ch1.up (by decide)) Ci1) b41 k41 m41
 have Cb2:=cal H22 λ F=>ok_later (n:=6) F B Cc1
 have Cb1:=cal H42 λ F=>ok_there (n:=7) TBx F (Cr0.up (by decide)) Cb2 (Cn0.up (by decide))
 have Ce1:=cal H49 λ F=>ok_cell (n:=17) F B
 have Cn2:=cal H50 λ F=>ok_dayB (n:=18) F
 have Cj2:=cal H51 λ F=>ok_stay (n:=17) F B
 have Ck2:=cal H52 λ F=>ok_ride70 (n:=17) F B
 have Cf2:=cal H53 λ F=>qni9 (n:=18) F B Ce1 Cj2 Ck2
 have Cg2:=cal H54 λ F=>ok_party (n:=18) F B Ce1
 have X_NoNet:XCl K mg "NoNet" cNoNet bmNoNet:=⟨xw_NoNet,W.mg_of X G.g xa_NoNet⟩
 have X_NoPlace:XCl K mg "NoPlace" cNoPlace bmNoPlace:=⟨xw_NoPlace,W.mg_of X G.g xa_NoPlace⟩
 have X_FordError:XCl K mg "FordError" cFordError bmFordError:=⟨xw_FordError,W.mg_of X G.g xa_FordError⟩
 have ms:Mgs mg cNoBoard cNoNet cNoPlace cNoRoad cNoTurn cNoText cNoRow cNoName cNoWindow:=⟨W.mg_none_of X G.g xz_ValueError,W.mg_of X G.g xa_NoBoard,W.mg_of X G.g xa_NoNet,W.mg_of X G.g xa_NoPlace,W.mg_of X G.g xa_NoRoad,W.mg_of X G.g xa_NoTurn,W.mg_of X G.g xa_NoText,W.mg_of X G.g xa_NoRow,W.mg_of X G.g xa_NoName,W.mg_of X G.g xa_NoWindow⟩
 have CX_need_net:=CalleeX.mk' (P:=l.prog) (w:=w) (base:=base) ((qht9 (n:=5) F11 Cw0).toX.or (qjz9 (n:=5) X_NoNet F11 Cw0)) b11 k11 m11
 have CX_need_place:=CalleeX.mk' (P:=l.prog) (w:=w) (base:=base) ((qgf9 (n:=2) F12 Cb0).toX.or (qic9 (n:=2) X_NoPlace F12 Cb0)) b12 k12 m12
 have CX_rounds:=CalleeX.mk' (P:=l.prog) (w:=w) (base:=base) (qon9 (n:=21) F36 (CX_need_net.up (by decide)) (CX_need_place.up (by decide))) b36 k36 m36
 have CX_table:=CalleeX.mk' (P:=l.prog) (w:=w) (base:=base) (ok_tableX (n:=22) F37 CX_rounds) b37 k37 m37
 have CX_thinned0:=CalleeX.mk' (P:=l.prog) (w:=w) (base:=base) (qhv9 (n:=23) F46 CX_table) b46 k46 m46
 have CX_thinned:=CalleeX.mk' (P:=l.prog) (w:=w) (base:=base) ((qiv9 (n:=23) TBx F46 B Ct0 (Cx0.up (by decide)) (Cp0.up (by decide))).toX.or (qhv9 (n:=23) F46 CX_table)) b46 k46 m46
 have CX_needs:=CalleeX.mk' (P:=l.prog) (w:=w) (base:=base) ((ok_needs (n:=24) TBx F48 B Cs1 (Ct0.up (by decide)) (Cp0.up (by decide)) (Cg1.up (by decide))).toX.or (ok_needsX (n:=24) F48 CX_thinned0)) b48 k48 m48
 have Cq2:=Callee.mk' (P:=l.prog) (w:=w) (base:=base) (qqb9 (n:=2) F39 B Cb0 (Cd0.up (by decide))) b39 k39 m39
 have CX_need_party:=CalleeX.mk' (P:=l.prog) (w:=w) (base:=base) (qin9 (n:=3) X_NoPlace F40 B Cq2) b40 k40 m40
 have CX_by_start:=CalleeX.mk' (P:=l.prog) (w:=w) (base:=base) (qjq9 (n:=21) F41 (CX_need_net.up (by decide)) (CX_need_party.up (by decide))) b41 k41 m41
 have CX_meeting:=CalleeX.mk' (P:=l.prog) (w:=w) (base:=base) ((qmq9 (n:=22) TBx F43 B Cg0 (Cf0.up (by decide)) (Cb1.up (by decide))).toX.or (qmw9 (n:=22) F43 CX_by_start)) b43 k43 m43
 have CX_meet_at:=CalleeX.mk' (P:=l.prog) (w:=w) (base:=base) ((qow9 (n:=22) TBx F44 B Cg0 (CT.up (by decide))).toX.or (qmx9 (n:=22) F44 CX_by_start)) b44 k44 m44
 have Cm0:=cal H55 λ F=>ok_other (n:=0) ms F B
 have Cz1:=cal H60 λ F=>ok_oddG (n:=0) F
 have Ca2:=cal H57 λ F=>ok_oddS (n:=0) F
 have Cv1:=cal H58 λ F=>ok_oddR (n:=0) F B
 have Cw1:=cal H59 λ F=>ok_oddP (n:=0) F B
 have kN:Cl K cFordError (due73 cNoBoard cNoNet cNoPlace cNoRoad cNoTurn cNoText cNoRow cNoName cNoWindow) cNoNet 1:=⟨_,xw_NoNet,xb_NoNet,kd_of xy_NoNet⟩
 have kP:Cl K cFordError (due73 cNoBoard cNoNet cNoPlace cNoRoad cNoTurn cNoText cNoRow cNoName cNoWindow) cNoPlace 2:=⟨_,xw_NoPlace,xb_NoPlace,kd_of xy_NoPlace⟩
 have Cr2:=Callee.mk' (P:=l.prog) (w:=w) (base:=base) ((qmv9 (n:=25) TBx ms X_FordError kN kP F56 B (CX_meeting.up (by decide)) (CX_meet_at.up (by decide)) (CX_thinned.up (by decide)) CX_needs (Cm0.up (by decide)) (Cm0.up (by decide))).or (qmf9 (n:=25) ms X_FordError kN kP F56 B (CX_meeting.up (by decide)) (CX_meet_at.up (by decide)) (CX_thinned.up (by decide)) CX_needs (Cm0.up (by decide)) (Cm0.up (by decide)))) b56 k56 m56
 exact ok_law (n:=26) TBx (λ H h=>⟨qkz9 (h (tc0,tp0) (by simp)),qkz9 (h (tc1,tp1) (by simp)),qkz9 (h (tc2,tp2) (by simp)),qkz9 (h (tc3,tp3) (by simp))⟩) F61 B (Ce1.up (by decide)) (Cn2.up (by decide)) (Cf2.up (by decide)) (Cg2.up (by decide)) (Cw1.up (by decide)) (Cz1.up (by decide)) (Ca2.up (by decide)) (Cv1.up (by decide)) Cr2
theorem walk{l:W.OpenLaw}{q:Program}{loose:List Str}{XP:(Str->Option Value)->Heap->Prop}{YP:World->Heap->Prop}{d:DefRec}{K:Params->W.Frag}(hn:l.most=some 63)(hdf:d.params.defaults=[])
  (hY:∀(w:World)(h:Heap),YP w h->(K w.params).In h)
  (F:∀(w:World)(mg mb:Str->Option Value)(mean:ExcName->Option Value)(fa:Addr)(h:Heap),(K w.params).In h->PyProof.Rows.Top q (W.looseW q loose) mean mg mb h->mg d.name=some (.ref fa) ->
   ∃(fd:FuncData) (tabs:List (Addr×Addr)),(∀(s:Shared)(u:Value),BindsTo s fd ⟨[u],[]⟩ [("script",u)])/\(∀t∈tabs,W.CodeHd h t.1 t.2/\h.get? t.2=some (W.tabObj #[])/\(K w.params).lookup t.2=none) /\
    ∀base:Heap,(K w.params).In base->base.Ns mainGlobals mg->BMain mg base->(∀t∈tabs,W.CodeHd base t.1 t.2)->FnOk l.prog w (K w.params) mg base CX0 27 fa fd ["script"] (spLaw (K w.params) tabs)) :
  W.WalkO q loose XP YP l.row.toRowW d [] (λ f vs=>PySem.call f vs) :=
 L2.walk_ofT (n:=63) (k:=27) (x := "script") (sp:=spLaw) hn (by decide) hdf ⟨rfl,by decide,by decide⟩ hY F (λ K tabs H a ns hl hT hS=>⟨a,ns,rfl,hS,hl,hT,λ _=>rfl⟩)
end My
open PySem PySem.W PyProof.Rows
set_option maxRecDepth 100000 in
set_option maxHeartbeats 0 in
theorem PySem.Challenge.cw_fordbook_k73_no_net_no_party_holds : PySem.Challenge.rw_fordbook_k73_no_net_no_party.Holds := by
 w_on
 refine W.holds_law My.k_ws λ said=>?_
 refine W.holds_open (q:=My.view) (loose:=[]) (Xt:=(λ s=>W.xlAt My.view [] s&&W.recOk (W.RowW.records (W.OpenRow.toRowW PySem.Challenge.rw_fordbook_k73_no_net_no_party.row)) s)) (XP:=W.XL My.view []) (Yf:=W.Hook.obs (W.kmHook My.KK My.kAs My.k_as [364,286,47,385])) (Ya:=W.Hook.val (W.kmHook My.KK My.kAs My.k_as [364,286,47,385])) (YP:=W.Hook.says (W.kmHook My.KK My.kAs My.k_as [364,286,47,385])) (N:=8490) My.k_left (W.Hook.of (W.kmHook My.KK My.kAs My.k_as [364,286,47,385])) (W.Hook.keeps (W.kmHook My.KK My.kAs My.k_as [364,286,47,385]))
  (λ s e=>W.xl_of s (zdv.mp e).1) W.XL.keeps (by rfl) (by rfl) (by rfl) (λ s e=>W.recFacts_of (zdv.mp e).2) (by rfl) (by assumption) (by decide +kernel) ⟨rfl,rfl,rfl,rfl,rfl,by decide +kernel⟩ ?hw ?hc
 case hw=>w_witness2
 k_fill
 refine My.walk (l:=PySem.Challenge.rw_fordbook_k73_no_net_no_party) rfl rfl (λ w h Y=>W.km_in_of Y) ?F
 case F =>
  intro w mg mb mean fa h KX G hmg
  refine' My.all_mk KX G hmg ?r0_ ?r1_ ?r2_ ?r3_ ?a4 ?l4 ?c4 ?k4 ?a5 ?l5 ?c5 ?k5 ?r6_ ?r7_ ?r8_ ?r9_ ?r10_ ?a11 ?l11 ?c11 ?k11 ?a12 ?l12 ?c12 ?k12 ?r13_ ?r14_ ?r15_ ?r16_ ?r17_ ?r18_ ?r19_ ?r20_ ?r21_ ?r22_ ?a23 ?l23 ?c23 ?k23 ?r24_ ?a25 ?l25 ?c25 ?k25 ?r26_ ?r27_ ?r28_ ?r29_ ?r30_ ?r31_ ?a32 ?l32 ?c32 ?k32 ?r33_ ?r34_ ?a35 ?l35 ?c35 ?k35 ?a36 ?l36 ?c36 ?k36 ?a37 ?l37 ?c37 ?k37 ?a38 ?l38 ?c38 ?k38 ?a39 ?l39 ?c39 ?k39 ?a40 ?l40 ?c40 ?k40 ?a41 ?l41 ?c41 ?k41 ?r42_ ?a43 ?l43 ?c43 ?k43 ?a44 ?l44 ?c44 ?k44 ?r45_ ?a46 ?l46 ?c46 ?k46 ?r47_ ?a48 ?l48 ?c48 ?k48 ?r49_ ?r50_ ?r51_ ?r52_ ?r53_ ?r54_ ?r55_ ?a56 ?l56 ?c56 ?k56 ?r57_ ?r58_ ?r59_ ?r60_ ?a61 ?l61 ?c61 ?k61 ?z0 ?z1 ?z2 ?z3 ?z4 ?z5 ?z6 ?z7 ?z8 ?z9 ?z10 ?z11 ?xa_NoBoard ?xa_NoNet ?xa_NoPlace ?xa_NoRoad ?xa_NoTurn ?xa_NoText ?xa_NoRow ?xa_NoName ?xa_NoWindow ?xa_FordError ?xz_ValueError ?xw_NoNet ?xw_NoPlace ?xw_FordError ?xb_NoNet ?xy_NoNet ?xb_NoPlace ?xy_NoPlace ?r0 ?t0 ?n0 ?r1 ?t1 ?n1 ?r2 ?t2 ?n2 ?r3 ?t3 ?n3 ?ne01 ?ne02 ?ne03 ?ne12 ?ne13 ?ne23
  (case r0_|r1_|r2_|r3_=>(refine' My.Rw.mk ?a ?b ?c ?d;(case a=>k_is);(case b=>k_is);(case c=>k_is);(case d=>k_is)))
  (case a4|l4|c4|k4|a5|l5|c5|k5=>(try unfold My.NI);(try unfold My.LK);(try unfold My.CI);(try unfold My.KI);k_is)
  (case r6_|r7_|r8_|r9_|r10_=>(refine' My.Rw.mk ?a ?b ?c ?d;(case a=>k_is);(case b=>k_is);(case c=>k_is);(case d=>k_is)))
  (case a11|l11|c11|k11|a12|l12|c12|k12=>(try unfold My.NI);(try unfold My.LK);(try unfold My.CI);(try unfold My.KI);k_is)
  (case r13_|r14_|r15_|r16_|r17_|r18_|r19_|r20_|r21_|r22_=>(refine' My.Rw.mk ?a ?b ?c ?d;(case a=>k_is);(case b=>k_is);(case c=>k_is);(case d=>k_is)))
  (case a23|l23|c23|k23=>(try unfold My.NI);(try unfold My.LK);(try unfold My.CI);(try unfold My.KI);k_is)
  (case r24_=>(refine' My.Rw.mk ?a ?b ?c ?d;(case a=>k_is);(case b=>k_is);(case c=>k_is);(case d=>k_is)))
  (case a25|l25|c25|k25=>(try unfold My.NI);(try unfold My.LK);(try unfold My.CI);(try unfold My.KI);k_is)
  (case r26_|r27_|r28_|r29_|r30_|r31_=>(refine' My.Rw.mk ?a ?b ?c ?d;(case a=>k_is);(case b=>k_is);(case c=>k_is);(case d=>k_is)))
  (case a32|l32|c32|k32=>(try unfold My.NI);(try unfold My.LK);(try unfold My.CI);(try unfold My.KI);k_is)
  (case r33_|r34_=>(refine' My.Rw.mk ?a ?b ?c ?d;(case a=>k_is);(case b=>k_is);(case c=>k_is);(case d=>k_is)))
  (case a35|l35|c35|k35|a36|l36|c36|k36|a37|l37|c37|k37|a38|l38|c38|k38|a39|l39|c39|k39|a40|l40|c40|k40|a41|l41|c41|k41=>(try unfold My.NI);(try unfold My.LK);(try unfold My.CI);(try unfold My.KI);k_is)
  (case r42_=>(refine' My.Rw.mk ?a ?b ?c ?d;(case a=>k_is);(case b=>k_is);(case c=>k_is);(case d=>k_is)))
  (case a43|l43|c43|k43|a44|l44|c44|k44=>(try unfold My.NI);(try unfold My.LK);(try unfold My.CI);(try unfold My.KI);k_is)
  (case r45_=>(refine' My.Rw.mk ?a ?b ?c ?d;(case a=>k_is);(case b=>k_is);(case c=>k_is);(case d=>k_is)))
  (case a46|l46|c46|k46=>(try unfold My.NI);(try unfold My.LK);(try unfold My.CI);(try unfold My.KI);k_is)
  (case r47_=>(refine' My.Rw.mk ?a ?b ?c ?d;(case a=>k_is);(case b=>k_is);(case c=>k_is);(case d=>k_is)))
  (case a48|l48|c48|k48=>(try unfold My.NI);(try unfold My.LK);(try unfold My.CI);(try unfold My.KI);k_is)
  (case r49_|r50_|r51_|r52_|r53_|r54_|r55_=>(refine' My.Rw.mk ?a ?b ?c ?d;(case a=>k_is);(case b=>k_is);(case c=>k_is);(case d=>k_is)))
  (case a56|l56|c56|k56=>(try unfold My.NI);(try unfold My.LK);(try unfold My.CI);(try unfold My.KI);k_is)
  (case r57_|r58_|r59_|r60_=>(refine' My.Rw.mk ?a ?b ?c ?d;(case a=>k_is);(case b=>k_is);(case c=>k_is);(case d=>k_is)))
  (case a61|l61|c61|k61=>(try unfold My.NI);(try unfold My.LK);(try unfold My.CI);(try unfold My.KI);k_is)
  (case z0|z1|z2|z3|z4|z5|z6|z7|z8|z9|z10|z11|xa_NoBoard|xa_NoNet|xa_NoPlace|xa_NoRoad|xa_NoTurn|xa_NoText|xa_NoRow|xa_NoName|xa_NoWindow|xa_FordError|xz_ValueError=>k_is)
  (case xw_NoNet|xw_NoPlace|xw_FordError=>(refine' L2.exc_of ?a ?b ?c;(case a=>k_is);(case b=>k_exc);(case c=>first|rfl|decide +kernel)))
  (case xb_NoNet=>first|rfl|decide +kernel)
  (case xy_NoNet=>kernel_rfl)
  (case xb_NoPlace=>first|rfl|decide +kernel)
  (case xy_NoPlace=>kernel_rfl)
  (case r0=>first|rfl|decide +kernel)
  (case t0=>first|k_is|rfl)
  (case n0|r1=>first|rfl|decide +kernel)
  (case t1=>first|k_is|rfl)
  (case n1|r2=>first|rfl|decide +kernel)
  (case t2=>first|k_is|rfl)
  (case n2|r3=>first|rfl|decide +kernel)
  (case t3=>first|k_is|rfl)
  (case n3|ne01|ne02|ne03|ne12|ne13|ne23=>first|rfl|decide +kernel)
