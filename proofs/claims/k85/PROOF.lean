import PyProof.Rows.All
import Wide.All
import OpenK.AllK
import Wide.FinOn
import PyProof.EqAt
import PyProof.EqKinds
import PyProof.TupleCall
import PySem.Challenge.RW_fordbook_k85_rows_refused
set_option Elab.async false
set_option linter.all false
set_option maxRecDepth 100000
open Array renaming getElem?_toList→zcg,mem_toList_iff→zef,getElem?_eq_some_iff→zep,length_toList→zfx,append_assoc→zgb,getElem_mem→zgo,toList→zgu,mk→zhp
open Bool renaming false_ne_true→zay,and_eq_true→zaz,eq_false_iff→zbp,and_eq_true_iff→zbt,eq_iff_iff→zcc,true_and→zcw,false_and→zdq,or_eq_true→zdw,false_or→zgg,and_true→zgi,and_false→zgx,and_assoc→zgy,or_false→zha,not_true→zhb
open PySem.Heap renaming get?_push_of_some→zao,get?_push_size→zav,lt_size→zax,size_push→zdr,hide_ne→zhg,nsMap→zhm
open Int renaming le_refl→zbq,eq_ofNat_of_zero_le→zbz,emod_lt_of_pos→zdb,lt_or_le→zdo,emod_nonneg→zdp,mul_le_mul_of_nonneg_left→zdv,toNat_natCast→zer,le_of_lt→zgf,natCast_add→zgj,ediv_nonneg→zgk,mul_one→zgq,mul_add→zgr,le_total→zhc,negSucc→zhi
open List renaming getElem?_eq_some_iff→zab,length_map→zac,getElem?_eq_getElem→zad,mem_singleton→zae,mem_of_getElem?→zaf,mem_cons→zag,getElem?_map→zah,map_append→zaj,mem_append→zak,mem_cons_of_mem→zal,not_mem_nil→zam,mem_cons_self→zan,length_append→zap,mem_append_right→zar,mem_map→zas,getElem?_append_left→zat,getElem?_append_right→zau,size_toArray→zaw,length_cons→zbb,replicate→zbc,length_take→zbd,take_add_one→zbe,map_cons→zbh,mem_append_left→zbi,take_length→zbk,all_eq_true→zbl,getD_eq_getElem?_getD→zbn,getElem_mem→zbs,idxOf_lt_length_of_mem→zbu,flatMap_cons→zbw,take_of_length_le→zby,replicate_succ→zca,length_singleton→zcd,append_nil→zce,find?_cons→zcf,getElem?_set_self→zch,drop_eq_nil_of_le→zci,flatMap_singleton→zcj,append_assoc→zck,map_map→zcl,findIdx?_eq_some_iff_getElem→zcm,flatMap_append→zcn,mem_range→zcp,foldl_cons→zcq,length_filter_le→zcr,mem_or_eq_of_mem_set→zcs,getElem?_of_mem→zct,mem_of_mem_take→zcu,getLast?_append→zcv,nodup_append→zcx,foldl_append→zcz,filterMap_cons→zda,any_eq_true→zdc,mem_flatMap→zdd,range→zde,getElem_idxOf→zdf,filter_append→zdg,drop_zero→zdi,getElem?_set_ne→zdj,flatten_cons→zdk,replicate_succ'→zdl,findIdx?_eq_none_iff→zdm,getElem?_take_of_lt→zdn,getElem?_drop→zds,getElem?_eraseIdx→zdt,mem_filter→zdu,nil_append→zdx,length_replicate→zdy,sum_cons→zeb,mem_iff_getElem→zec,pairwise_append→zed,length_drop→zee,lookup→zeg,length→zeh,map_nil→zei,map_congr_left→zej,getElem?_eq_none_iff→zel,nodup_cons→zem,any_cons→zen,getLast?_eq_none_iff→zeo,pairwise_cons→zeq,findIdx?_cons→zes,map_inj_right→zet,eq_of_mem_replicate→zeu,length_eq_zero_iff→zew,pairwise_singleton→zex,append_cancel_left→zey,idxOf_append→zez,getElem?_inj→zfa,getElem?_set→zfb,getElem_inj→zfc,filter_cons→zfd,cons_append→zfe,flatMap_nil→zff,drop_append→zfg,take_append_drop→zfi,of_mem_zip→zfk,foldl→zfl,forIn_cons→zfn,mem_of_mem_drop→zfo,all_append→zfp,length_eraseIdx→zfq,mem_map_of_mem→zfs,map_set→zft,forIn_nil→zfu,take_left→zfv,foldl_map→zfw,mem_filterMap→zfy,set_cons_zero→zfz,set_cons_succ→zga,all_cons→zge,pairwise_map→zgh,zipIdx_cons→zgn,zipIdx_nil→zgs,length_set→zgt,foldl_nil→zgz,set_set→zhh,all_map→zhj,any_map→zhk,getD→zhl
open Nat renaming le_refl→zaq,lt_of_lt_of_le→zba,le_trans→zbj,ne_of_lt→zbo,zero_le→zbx,lt_irrefl→zco,toDigits→zdh,lt_or_ge→zdz,sub_self→zea,eq_zero_or_pos→zek,lt_succ_self→zev,le_of_lt→zfh,le_succ→zfr,ne_of_gt→zgc,le_of_eq→zgd,min_eq_left→zgm,sub_zero→zhd,mul_comm→zhe,log2_lt→zhf,beq→zhn
open Option renaming isSome_iff_exists→zcb,map_eq_some_iff→zfj,isSome_some→zgl,toList_some→zgp,getD_none→zgv,getD_some→zgw,none→zho
open Or renaming inl→zai,inr→zfm
open PySem.Str renaming length_append→zaa,append_assoc→zbf,join→zbg,length→zbm,empty→zbr,ofString→zbv,empty_append→zcy
open Inhabited renaming default→zmv
open Option renaming some→zhq,none→zhr
open PyProof.Rows renaming AllBare→zjl,envOfC→zjn,subscriptTail_builtinR→zkw,IntsAre→zkz,Constant_none→zlm,subscriptTail→zln,IsTup→zml,boot_range→zmo,chain_link→zmp,Subscript_→zmq,Compare_chain→zni,ite_ff→znp,ite_tt→znq,Call_→zoe
open PySem renaming Value→zhs,Addr→zht,sizeLine→zhu,wpAny_bind→zhv,PyData→zhw,Shared→zhx,World→zhy,Stmt→zhz,model→zia,wpAny→zib,Heap→zic,wpAny_pure→zid,mainGlobals→zie,starEach→zif,compareOp→zig,Program→zih,eval→zii,bootBuiltins→zij,FuncData→zik,Around→zil,wpAny_truthy_bool→zim,attributeBase→zin,wpAny_mono→zio,PassesOwn→ziq,binaryOp→zir,Params→zis,wpAny_ite_false→zit,backTo→ziu,OsState→ziv,assignEach→ziw,wpAny_field→zix,behindInMarks→ziy,foldedSetIterable→ziz,call_meets→zja,wpAny_Call_Name_kw→zjb,Scope→zjc,swapsWith→zjd,wpAny_seqItems→zje,codeAny_mono→zjf,wpAny_getItem_str_slice→zjg,wpAny_callSpecial?_slot→zjh,callerA→zji,wpAny_execs_nil→zjj,wpAny_setField_rec→zjk,wpAny_execs_cons→zjm,IsPair→zjo,sliceBounds→zjp,wpAny_passesOwn→zjq,codeAny→zjr,BindsTo→zjs,typeIs_str→zjt,wpAny_pyIter_list→zju,excClassObj→zjv,cLine→zjw,wpAny_call_entry→zjx,DictEntry→zjy,CmpOp→zjz,builtinsNs→zka,wpAny_call→zkb,post_val_or_str→zkc,relabel→zkd,valueAt→zke,IsRangeIter→zkf,keywordEach→zkg,lastMarks→zkh,wpAny_onRaise→zki,wpAny_attempt→zkj,wpAny_newObj_type→zkk,wpAny_loadPart_at→zkl,sysModules→zkm,IsZip→zkn,Keyword→zko,Code→zkp,NameKind→zkq,letOwnedTupleGo→zkr,codeAny_builtin→zks,wpAny_pyNext_range_end→zkt,wpAny_pyIter_rangeiter→zku,subscripted→zkv,wpAny_isTrue_Compare1→zkx,rawInt→zky,wpAny_setFlight_noneW→zla,wpAny_ite_true→zlb,bindL→zlc,bindC→zld,backToKw→zle,atKey→zlf,evalEach→zlg,field→zlh,ZipApart→zli,wpAny_updateSeq_pair→zlj,codeAny_call_builtin→zlk,unbindBehindTheSuite→zll,wpAny_standAt→zlo,wpAny_holding→zlp,wpAny_isSubtype_exc→zlq,treeTable→zlr,pyNext→zls,wpAny_pyIter_tuple→zlu,wpAny_pyIter_range→zlv,rule→zlw,getMethod→zlx,strValues→zly,holding→zlz,getItem→zma,Meets→zmb,wpAny_Assign_Name→zmc,slot_list_getitem→zmd,wpAny_of_eq→zme,bindArgs→zmf,noFill_tuple_add→zmg,wpAny_pyIter_zip→zmh,checkBuiltinCall→zmi,importedModules→zmj,Model→zmk,wpAny_Name→zmm,assign→zmn,typeIs_int→zmr,wpAny_rule→zms,wpAny_updateSeq→zmt,isInstance→zmu,wpAny_Compare1→zmw,standAt→zmx,wpAny_Expr_any→zmy,wpAny_loadPart→zmz,recursionLimit→zna,wpAny_setField→znb,firstArgMember→znc,intText_digits→znd,Arguments→zne,cellsFrom→znf,fenceModules?→zng,intBits_le_64→znh,seq_tuple_add→znj,evalPart_none→znk,call_list_seq→znl,plainId_quiet→znm,Thread→znn,GenState→zno,concat_meets→znr,seqIndex_neg→zns,typeOf→znt,DefRec→znu,OldK→znv,callSpecial?→znw,interactive→znx,sizeLine_eq→zny,seqIndex_of→znz,wpAny_letGo→zoa,getAttr→zob,operate→zoc,ExcName→zod
local macro_rules|`(tactic|omega)=>`(tactic|first|lia|omega +splitNatSub)
local macro_rules|`(⋯)=>`(by omega)
local macro_rules|`(command|def $d:declId $s:optDeclSig $v:declVal)=>`(command|noncomputable def $d:declId $s:optDeclSig $v:declVal)
local macro_rules|`(command|abbrev $d:declId $s:optDeclSig $v:declVal)=>`(command|noncomputable abbrev $d:declId $s:optDeclSig $v:declVal)
local macro_rules|`(tactic|walk_at "d")=>`(tactic|try dsimp only [cx_k,cx_kn,qax9,qaq9,Nat.reduceAdd])
local macro_rules|`(tactic|obtain ⟨$p,$q,$r,*⟩:=$e)=>`(tactic|first|(refine Classical.byContradiction fun h=>?_;rcases $e:term with ⟨$p,$q,$r,*⟩<;>(refine h ?_;clear h))|rcases $e:term with ⟨$p,$q,$r,*⟩)
namespace L2
open PySem
def inClass(s:zhz)(j:Nat):zhz:=match s with
 | .ClassDef _ _ _ body _ _ _ _ _ _ _=>body.getD j (.Pass ⟨0,0,0,0⟩)
 |_=>.Pass ⟨0,0,0,0⟩
def qai9(s:zhz):zne:=match s with
 | .FunctionDef _ a _ _ _ _ _ _ _ _=>a
 |_=>{ posonlyargs:=[],args:=[],vararg:=zhr,kwonlyargs:=[],kw_defaults:=[],kwarg:=zhr,defaults:=[] }
def qag9(s:zhz):List zhz:=match s with
 | .FunctionDef _ _ b _ _ _ _ _ _ _=>b
 |_=>[]
def qab9(s:zhz):zjc:=match s with
 | .FunctionDef _ _ _ _ _ _ sc _ _ _=>sc
 |_=>{ kind:=.function,names:=[],isGenerator:=false,isCoroutine:=false }
end L2
namespace My
open PySem L2
def top(i:Nat):zhz:=PySem.Challenge.pw_fordbook_k85_rows_refused.main.body.getD i (.Pass ⟨0,0,0,0⟩)
abbrev qes9:zhz:=top 12
abbrev qea9:zhz:=top 13
abbrev qby9:zhz:=top 82
abbrev qer9:zhz:=top 83
abbrev qcx9:zhz:=top 84
abbrev qcv9:zhz:=top 85
abbrev qbv9:zhz:=top 86
abbrev qdl9:zhz:=top 87
abbrev qcm9:zhz:=top 88
abbrev qdw9:zhz:=top 89
abbrev qdn9:zhz:=top 90
abbrev qcr9:zhz:=top 91
abbrev qdb9:zhz:=top 92
abbrev qds9:zhz:=top 93
abbrev qek9:zhz:=top 94
abbrev qdm9:zhz:=top 100
abbrev qbx9:zhz:=top 101
abbrev qck9:zhz:=top 102
abbrev qcj9:zhz:=top 103
abbrev qcn9:zhz:=top 104
abbrev qdk9:zhz:=top 105
abbrev qbo9:zhz:=top 118
abbrev qem9:zhz:=top 119
abbrev qev9:zhz:=top 120
abbrev qfw9:zhz:=top 121
abbrev qce9:zhz:=top 125
abbrev qeu9:zhz:=top 126
abbrev qdo9:zhz:=top 127
abbrev qdp9:zhz:=top 128
abbrev qdd9:zhz:=top 129
abbrev qdx9:zhz:=top 130
abbrev qda9:zhz:=top 131
abbrev qde9:zhz:=top 132
abbrev qdz9:zhz:=top 133
abbrev qdc9:zhz:=top 134
abbrev qdy9:zhz:=top 135
abbrev qci9:zhz:=top 136
abbrev qbt9:zhz:=top 137
abbrev qcg9:zhz:=top 138
abbrev qbs9:zhz:=top 139
abbrev qdu9:zhz:=top 140
abbrev qdt9:zhz:=top 141
abbrev qsg9:zhz:=top 142
abbrev qaw9:zhz:=inClass (top 123) 0
abbrev qbp9:zhz:=inClass (top 123) 1
abbrev qcy9:zhz:=top 75
abbrev qgb9:zhz:=top 55
abbrev qlz9:zhz:=top 54
abbrev qgj9:zhz:=top 30
abbrev qiv9:zhz:=top 47
abbrev qhl9:zhz:=top 28
abbrev qfa9:zhz:=top 111
abbrev qkc9:zhz:=top 39
abbrev qlx9:zhz:=top 109
abbrev qii9:zhz:=top 25
abbrev qgq9:zhz:=top 52
abbrev qka9:zhz:=top 53
abbrev qgl9:zhz:=top 114
abbrev qgi9:zhz:=top 51
abbrev qfl9:zhz:=top 50
abbrev qki9:zhz:=top 41
abbrev qfz9:zhz:=top 34
abbrev qkg9:zhz:=top 37
abbrev qiz9:zhz:=top 33
abbrev qgn9:zhz:=top 15
abbrev qgh9:zhz:=top 57
abbrev qfp9:zhz:=top 22
abbrev qfq9:zhz:=top 74
abbrev qhh9:zhz:=top 21
abbrev qhd9:zhz:=top 117
abbrev qik9:zhz:=top 76
abbrev qey9:zhz:=top 116
abbrev qit9:zhz:=top 107
abbrev qjs9:zhz:=top 62
abbrev qei9:zhz:=top 61
abbrev qng9:zhz:=top 27
abbrev qff9:zhz:=top 69
abbrev qfu9:zhz:=top 112
abbrev qmr9:zhz:=top 40
abbrev qgo9:zhz:=top 16
abbrev qhb9:zhz:=top 113
abbrev qjr9:zhz:=top 38
abbrev qip9:zhz:=top 19
abbrev qgf9:zhz:=top 18
abbrev qjw9:zhz:=top 20
abbrev qge9:zhz:=top 73
abbrev qhn9:zhz:=top 14
abbrev qdf9:zhz:=top 60
abbrev qiw9:zhz:=top 58
abbrev qlu9:zhz:=top 49
abbrev qks9:zhz:=top 65
abbrev qhe9:zhz:=top 46
abbrev qfe9:zhz:=top 24
abbrev qfs9:zhz:=top 32
abbrev qfy9:zhz:=top 31
abbrev qez9:zhz:=top 64
abbrev qej9:zhz:=top 71
abbrev qjy9:zhz:=top 66
abbrev qeg9:zhz:=top 48
abbrev qhg9:zhz:=top 68
abbrev qsp9:zhz:=top 26
abbrev qeh9:zhz:=top 43
abbrev qhj9:zhz:=top 44
abbrev qga9:zhz:=top 35
abbrev qec9:zhz:=top 110
abbrev qgg9:zhz:=top 115
abbrev qkh9:zhz:=top 42
abbrev qgm9:zhz:=top 59
def fO9(a b:Str)(s:zhz)(m:Str)(k c:Nat):Obj:=(Obj.mk (.type "function") zhr (.func (.mk a b (qai9 s) (.stmts (qag9 s)) (qab9 s) 3 [] .none .none .none (.str m k) zhr (.ref c) .none 0)) #[])
def dE9(P:zis)(x:Str)(n:Nat)(v:zhs):zjy:=zjy.mk (zhw.keyHash P x) (.str x n) v
def eC9(x:Str)(b a d e f g:Nat):Obj:=(Obj.mk (.type "type") zhr (@PySem.Data.cls (@PySem.ClassData.mk x [(.ref b)] [(.ref a),(.ref b),(.type "ValueError"),(.type "Exception"),(.type "BaseException"),(.type "object")] d x @Bool.true [] [] @Bool.false zhr @Bool.false)) #[(@Option.some @PySem.Value (.ref e)),zhr,(@Option.some @PySem.Value (.str x f)),(@Option.some @PySem.Value (.str x g)),(@Option.some @PySem.Value (.builtin "ValueError.__new__")),(@Option.some @PySem.Value (.bool @Bool.true))])
def cod(x:Str)(a:Tok)(y:Str)(b c:Tok)(d e f g i:Int)(j:zht)(k:Int)(l:zht)(m n o:zhs)(p:zht)(q r:Int)(s:Tok):Obj:=⟨.type "code",zhr,.fields #[.str x a,.str y b,.str "/claim/cut.py" c,.int d 0,.int e 0,.int f 0,.int g 0,.int i 0,.ref j,.bool true,.int k 0,.ref l,m,n,o,.ref p,.int q 0,.int r 0,.str "/claim/cut.py" s],#[]⟩
def o_2:Obj:=(Obj.mk .none zhr (.dict #[] 0) #[])
def o_3(P:zis):Obj:=(Obj.mk (.type "dict") zhr (.dict #[(dE9 P "__name__" 165 (.str "law_fordbook_k85_rows_refused" 1336)),(dE9 P "__doc__" 166 .none),(dE9 P "__package__" 167 .none),(dE9 P "__loader__" 168 (.builtin "__main__.__loader__#opaque")),(dE9 P "__spec__" 169 .none),(dE9 P "__annotations__" 170 (.ref 6)),(dE9 P "__builtins__" 171 (.ref 4)),(dE9 P "__file__" 173 (.str "/claim/cut.py" 172)),(dE9 P "__cached__" 174 .none),(dE9 P "FordError" 206 (.ref 24)),(dE9 P "NoBoard" 222 (.ref 37)),(dE9 P "NoNet" 238 (.ref 49)),(dE9 P "NoPlace" 254 (.ref 61)),(dE9 P "NoRoad" 270 (.ref 73)),(dE9 P "NoTurn" 286 (.ref 85)),(dE9 P "NoText" 302 (.ref 97)),(dE9 P "NoRow" 318 (.ref 109)),(dE9 P "NoName" 334 (.ref 121)),(dE9 P "NoWindow" 350 (.ref 133)),(dE9 P "is_whole" 359 (.ref 142)),(dE9 P "is_window" 365 (.ref 147)),(dE9 P "is_board" 371 (.ref 152)),(dE9 P "next_open" 382 (.ref 159)),(dE9 P "last_open" 393 (.ref 166)),(dE9 P "is_number" 403 (.ref 173)),(dE9 P "is_road" 409 (.ref 178)),(dE9 P "is_net" 415 (.ref 183)),(dE9 P "need_net" 424 (.ref 190)),(dE9 P "need_place" 432 (.ref 197)),(dE9 P "first_where" 445 (.ref 204)),(dE9 P "set_off" 458 (.ref 211)),(dE9 P "come" 468 (.ref 218)),(dE9 P "leave" 481 (.ref 225)),(dE9 P "standing" 488 (.ref 232)),(dE9 P "stretches" 503 (.ref 239)),(dE9 P "first_told" 510 (.ref 246)),(dE9 P "first_wait" 517 (.ref 253)),(dE9 P "overlay" 533 (.ref 260)),(dE9 P "put_window" 543 (.ref 267)),(dE9 P "clock_from" 557 (.ref 274)),(dE9 P "picked" 565 (.ref 279)),(dE9 P "joined" 582 (.ref 286)),(dE9 P "sooner" 591 (.ref 293)),(dE9 P "later" 600 (.ref 300)),(dE9 P "ridden" 616 (.ref 307)),(dE9 P "behind" 631 (.ref 314)),(dE9 P "clock_within" 640 (.ref 321)),(dE9 P "clock_of" 648 (.ref 328)),(dE9 P "fords_of" 656 (.ref 333)),(dE9 P "staying" 662 (.ref 338)),(dE9 P "copied_table" 668 (.ref 343)),(dE9 P "grown" 679 (.ref 350)),(dE9 P "ride_first" 692 (.ref 357)),(dE9 P "ride_last" 705 (.ref 364)),(dE9 P "rounds_to" 717 (.ref 371)),(dE9 P "rounds" 727 (.ref 378)),(dE9 P "table" 737 (.ref 385)),(dE9 P "table_from" 749 (.ref 392)),(dE9 P "need_turn" 758 (.ref 399)),(dE9 P "guarded" 774 (.ref 406)),(dE9 P "ask_first" 789 (.ref 413)),(dE9 P "guarded_rounds" 802 (.ref 420)),(dE9 P "level_rounds" 814 (.ref 427)),(dE9 P "levels" 820 (.ref 432)),(dE9 P "first_harms" 828 (.ref 437)),(dE9 P "groups" 842 (.ref 444)),(dE9 P "fewest" 848 (.ref 449)),(dE9 P "comes_by" 861 (.ref 456)),(dE9 P "least_round" 874 (.ref 463)),(dE9 P "fewest_rides" 890 (.ref 470)),(dE9 P "is_member" 900 (.ref 477)),(dE9 P "need_party" 906 (.ref 482)),(dE9 P "tables_by_start" 919 (.ref 489)),(dE9 P "meet_at" 925 (.ref 494)),(dE9 P "FIGURES" 929 (.str "0123456789" 928)),(dE9 P "LETTERS" 931 (.str "abcdefghijklmnopqrstuvwxyz" 930)),(dE9 P "MOST_FIGURES_texts" 933 (.int 16 932)),(dE9 P "MOST" 935 (.int 1000000000000000 934)),(dE9 P "read_number" 941 (.ref 499)),(dE9 P "is_name" 947 (.ref 504)),(dE9 P "read_ends" 955 (.ref 511)),(dE9 P "read_span" 965 (.ref 518)),(dE9 P "read_window" 977 (.ref 525)),(dE9 P "read_day" 986 (.ref 532)),(dE9 P "read_board" 992 (.ref 537)),(dE9 P "number_of" 1000 (.ref 544)),(dE9 P "read_net" 1016 (.ref 551)),(dE9 P "show_window" 1025 (.ref 558)),(dE9 P "show_board" 1031 (.ref 563)),(dE9 P "show_road" 1041 (.ref 570)),(dE9 P "show_net" 1047 (.ref 575)),(dE9 P "MOST_FIGURES_rows" 1051 (.int 30 1050)),(dE9 P "MOST_TURNS" 1053 (.int 3 1052)),(dE9 P "MOST_PARTY" 1055 (.int 6 1054)),(dE9 P "SHAPES" 1095 (.ref 576)),(dE9 P "shape_of" 1102 (.ref 592)),(dE9 P "read_moment" 1110 (.ref 599)),(dE9 P "read_turns" 1118 (.ref 606)),(dE9 P "read_names" 1126 (.ref 613)),(dE9 P "read_value" 1135 (.ref 620)),(dE9 P "read_row" 1151 (.ref 627)),(dE9 P "longest" 1164 (.ref 634)),(dE9 P "shown" 1173 (.ref 641)),(dE9 P "clock_between" 1181 (.ref 648)),(dE9 P "soonest_row" 1190 (.ref 655)),(dE9 P "latest_row" 1199 (.ref 662)),(dE9 P "kept_row" 1209 (.ref 669)),(dE9 P "rides_row" 1220 (.ref 676)),(dE9 P "board_row" 1229 (.ref 683)),(dE9 P "longest_row" 1239 (.ref 690)),(dE9 P "meet_row" 1245 (.ref 695)),(dE9 P "boards_between" 1251 (.ref 700)),(dE9 P "open_row" 1261 (.ref 707)),(dE9 P "shut_row" 1267 (.ref 712)),(dE9 P "net_row" 1276 (.ref 719)),(dE9 P "ANSWERS" 1297 (.ref 720)),(dE9 P "Desk" 1335 (.ref 742)),(dE9 P "_law_cell_at" 1345 (.ref 753)),(dE9 P "_law_day" 1352 (.ref 760)),(dE9 P "_law_stay" 1360 (.ref 767)),(dE9 P "_law_ride" 1368 (.ref 774)),(dE9 P "_law_roads" 1374 (.ref 779)),(dE9 P "_law_word" 1387 (.ref 786)),(dE9 P "_law_words" 1397 (.ref 793)),(dE9 P "_law_shown" 1404 (.ref 800)),(dE9 P "_law_text" 1419 (.ref 807)),(dE9 P "_law_order" 1431 (.ref 814)),(dE9 P "_law_said" 1444 (.ref 821)),(dE9 P "_law_no_desk" 1453 (.ref 828)),(dE9 P "_law_no_desks" 1459 (.ref 833)),(dE9 P "_law_no_rows" 1473 (.ref 840)),(dE9 P "_law_no_names" 1484 (.ref 847)),(dE9 P "_law_free" 1498 (.ref 854)),(dE9 P "_law_shut" 1507 (.ref 861)),(dE9 P "law" 1513 (.ref 866))] 135) #[])
def o_15:Obj:=(Obj.mk (.type "tuple") zhr (.seq #[(.type "ValueError")] 0) #[])
def o_22:Obj:=(Obj.mk (.type "tuple") zhr (.seq #[] 0) #[])
def o_23(P:zis):Obj:=(Obj.mk (.type "dict") zhr (.dict #[(dE9 P "__module__" 196 (.str "fordbook.errors" 187)),(dE9 P "__firstlineno__" 200 (.int 2 199)),(dE9 P "__static_attributes__" 201 (.ref 22)),(dE9 P "__weakref__" 203 (.ref 25)),(dE9 P "__doc__" 204 .none)] 3) #[])
def o_24:Obj:=(Obj.mk (.type "type") zhr (@PySem.Data.cls (@PySem.ClassData.mk (.ofString "FordError") [(.type "ValueError")] [(.ref 24),(.type "ValueError"),(.type "Exception"),(.type "BaseException"),(.type "object")] 23 (.ofString "FordError") @Bool.true [] [(.ref 37),(.ref 49),(.ref 61),(.ref 73),(.ref 85),(.ref 97),(.ref 109),(.ref 121),(.ref 133)] @Bool.false zhr @Bool.false)) #[(@Option.some @PySem.Value (.ref 15)),zhr,(@Option.some @PySem.Value (.str "FordError" 189)),(@Option.some @PySem.Value (.str "FordError" 197)),(@Option.some @PySem.Value (.builtin "ValueError.__new__")),(@Option.some @PySem.Value (.bool @Bool.true))])
def o_25:Obj:=(Obj.mk (.type "getset_descriptor") zhr (.fields #[(.str "__weakref__" 202),(.ref 24),(.builtin "ExceptionGroup.__weakref__"),.none]) #[])
def o_28:Obj:=(Obj.mk (.type "tuple") zhr (.seq #[(.ref 24)] 0) #[])
def o_36(P:zis):Obj:=(Obj.mk (.type "dict") zhr (.dict #[(dE9 P "__module__" 214 (.str "fordbook.errors" 187)),(dE9 P "__firstlineno__" 218 (.int 4 217)),(dE9 P "__static_attributes__" 219 (.ref 35)),(dE9 P "__doc__" 220 .none)] 2) #[])
def o_37:Obj:=eC9 "NoBoard" 24 37 36 28 207 215
def o_48(P:zis):Obj:=(Obj.mk (.type "dict") zhr (.dict #[(dE9 P "__module__" 230 (.str "fordbook.errors" 187)),(dE9 P "__firstlineno__" 234 (.int 6 233)),(dE9 P "__static_attributes__" 235 (.ref 47)),(dE9 P "__doc__" 236 .none)] 2) #[])
def o_49:Obj:=eC9 "NoNet" 24 49 48 40 223 231
def o_60(P:zis):Obj:=(Obj.mk (.type "dict") zhr (.dict #[(dE9 P "__module__" 246 (.str "fordbook.errors" 187)),(dE9 P "__firstlineno__" 250 (.int 8 249)),(dE9 P "__static_attributes__" 251 (.ref 59)),(dE9 P "__doc__" 252 .none)] 2) #[])
def o_61:Obj:=eC9 "NoPlace" 24 61 60 52 239 247
def o_72(P:zis):Obj:=(Obj.mk (.type "dict") zhr (.dict #[(dE9 P "__module__" 262 (.str "fordbook.errors" 187)),(dE9 P "__firstlineno__" 266 (.int 10 265)),(dE9 P "__static_attributes__" 267 (.ref 71)),(dE9 P "__doc__" 268 .none)] 2) #[])
def o_73:Obj:=eC9 "NoRoad" 24 73 72 64 255 263
def o_84(P:zis):Obj:=(Obj.mk (.type "dict") zhr (.dict #[(dE9 P "__module__" 278 (.str "fordbook.errors" 187)),(dE9 P "__firstlineno__" 282 (.int 12 281)),(dE9 P "__static_attributes__" 283 (.ref 83)),(dE9 P "__doc__" 284 .none)] 2) #[])
def o_85:Obj:=eC9 "NoTurn" 24 85 84 76 271 279
def o_96(P:zis):Obj:=(Obj.mk (.type "dict") zhr (.dict #[(dE9 P "__module__" 294 (.str "fordbook.errors" 187)),(dE9 P "__firstlineno__" 298 (.int 14 297)),(dE9 P "__static_attributes__" 299 (.ref 95)),(dE9 P "__doc__" 300 .none)] 2) #[])
def o_97:Obj:=eC9 "NoText" 24 97 96 88 287 295
def o_108(P:zis):Obj:=(Obj.mk (.type "dict") zhr (.dict #[(dE9 P "__module__" 310 (.str "fordbook.errors" 187)),(dE9 P "__firstlineno__" 314 (.int 16 313)),(dE9 P "__static_attributes__" 315 (.ref 107)),(dE9 P "__doc__" 316 .none)] 2) #[])
def o_109:Obj:=eC9 "NoRow" 24 109 108 100 303 311
def o_120(P:zis):Obj:=(Obj.mk (.type "dict") zhr (.dict #[(dE9 P "__module__" 326 (.str "fordbook.errors" 187)),(dE9 P "__firstlineno__" 330 (.int 18 329)),(dE9 P "__static_attributes__" 331 (.ref 119)),(dE9 P "__doc__" 332 .none)] 2) #[])
def o_121:Obj:=eC9 "NoName" 24 121 120 112 319 327
def o_132(P:zis):Obj:=(Obj.mk (.type "dict") zhr (.dict #[(dE9 P "__module__" 342 (.str "fordbook.errors" 187)),(dE9 P "__firstlineno__" 346 (.int 20 345)),(dE9 P "__static_attributes__" 347 (.ref 131)),(dE9 P "__doc__" 348 .none)] 2) #[])
def o_133:Obj:=eC9 "NoWindow" 24 133 132 124 335 343
def o_141:Obj:=cod "is_whole" 353 "is_whole" 354 355 23 1 0 0 3 136 181 137 .none (.ref 138) (.ref 139) 140 357 23 358
def o_142:Obj:=fO9 "is_whole" "is_whole" qes9 "fordbook.windows" 351 141
def o_146:Obj:=cod "is_window" 360 "is_window" 361 362 25 2 0 0 3 143 181 144 .none .none .none 145 363 25 364
def o_147:Obj:=fO9 "is_window" "is_window" qea9 "fordbook.windows" 351 146
def o_151:Obj:=cod "is_board" 366 "is_board" 367 368 31 2 0 0 3 148 181 149 .none .none .none 150 369 31 370
def o_152:Obj:=fO9 "is_board" "is_board" qhn9 "fordbook.windows" 351 151
def o_158:Obj:=cod "next_open" 372 "next_open" 373 374 33 3 0 0 3 153 181 154 .none (.ref 155) (.ref 156) 157 380 33 381
def o_159:Obj:=fO9 "next_open" "next_open" qgn9 "fordbook.windows" 351 158
def o_165:Obj:=cod "last_open" 383 "last_open" 384 385 39 3 0 0 3 160 181 161 .none (.ref 162) (.ref 163) 164 391 39 392
def o_166:Obj:=fO9 "last_open" "last_open" qgo9 "fordbook.windows" 351 165
def o_172:Obj:=cod "is_number" 396 "is_number" 397 398 46 2 0 0 3 167 181 168 .none (.ref 169) (.ref 170) 171 401 46 402
def o_173:Obj:=fO9 "is_number" "is_number" qgf9 "fordbook.nets" 394 172
def o_177:Obj:=cod "is_road" 404 "is_road" 405 406 48 3 0 0 3 174 181 175 .none .none .none 176 407 48 408
def o_178:Obj:=fO9 "is_road" "is_road" qip9 "fordbook.nets" 394 177
def o_182:Obj:=cod "is_net" 410 "is_net" 411 412 54 3 0 0 3 179 181 180 .none .none .none 181 413 54 414
def o_183:Obj:=fO9 "is_net" "is_net" qjw9 "fordbook.nets" 394 182
def o_189:Obj:=cod "need_net" 416 "need_net" 417 418 58 3 0 0 3 184 181 185 .none (.ref 186) (.ref 187) 188 422 58 423
def o_190:Obj:=fO9 "need_net" "need_net" qhh9 "fordbook.nets" 394 189
def o_196:Obj:=cod "need_place" 425 "need_place" 426 427 61 2 0 0 3 191 181 192 .none (.ref 193) (.ref 194) 195 430 61 431
def o_197:Obj:=fO9 "need_place" "need_place" qfp9 "fordbook.nets" 394 196
def o_203:Obj:=cod "first_where" 435 "first_where" 436 437 65 2 0 0 3 198 181 199 .none (.ref 200) (.ref 201) 202 443 65 444
def o_204:Obj:=fO9 "first_where" "first_where" qfe9 "fordbook.clocks" 433 203
def o_210:Obj:=cod "set_off" 446 "set_off" 447 448 75 3 0 0 3 205 181 206 .none (.ref 207) (.ref 208) 209 456 75 457
def o_211:Obj:=fO9 "set_off" "set_off" qii9 "fordbook.clocks" 433 210
def o_217:Obj:=cod "come" 459 "come" 460 461 83 3 0 0 3 212 181 213 .none (.ref 214) (.ref 215) 216 466 83 467
def o_218:Obj:=fO9 "come" "come" qsp9 "fordbook.clocks" 433 217
def o_224:Obj:=cod "leave" 469 "leave" 470 471 88 3 0 0 3 219 181 220 .none (.ref 221) (.ref 222) 223 479 88 480
def o_225:Obj:=fO9 "leave" "leave" qng9 "fordbook.clocks" 433 224
def o_231:Obj:=cod "standing" 482 "standing" 483 484 96 1 0 0 3 226 181 227 .none (.ref 228) (.ref 229) 230 486 96 487
def o_232:Obj:=fO9 "standing" "standing" qhl9 "fordbook.clocks" 433 231
def o_238:Obj:=cod "stretches" 491 "stretches" 492 493 99 2 0 0 3 233 181 234 .none (.ref 235) (.ref 236) 237 501 99 502
def o_239:Obj:=fO9 "stretches" "stretches" qgj9 "fordbook.stretches" 489 238
def o_245:Obj:=cod "first_told" 504 "first_told" 505 506 110 1 0 0 3 240 181 241 .none (.ref 242) (.ref 243) 244 508 110 509
def o_246:Obj:=fO9 "first_told" "first_told" qfy9 "fordbook.stretches" 489 245
def o_252:Obj:=cod "first_wait" 511 "first_wait" 512 513 112 1 0 0 3 247 181 248 .none (.ref 249) (.ref 250) 251 515 112 516
def o_253:Obj:=fO9 "first_wait" "first_wait" qfs9 "fordbook.stretches" 489 252
def o_259:Obj:=cod "overlay" 518 "overlay" 519 520 114 3 0 0 3 254 181 255 .none (.ref 256) (.ref 257) 258 531 114 532
def o_260:Obj:=fO9 "overlay" "overlay" qiz9 "fordbook.stretches" 489 259
def o_266:Obj:=cod "put_window" 534 "put_window" 535 536 130 4 0 0 3 261 181 262 .none (.ref 263) (.ref 264) 265 541 130 542
def o_267:Obj:=fO9 "put_window" "put_window" qfz9 "fordbook.stretches" 489 266
def o_273:Obj:=cod "clock_from" 544 "clock_from" 545 546 137 2 0 0 3 268 181 269 .none (.ref 270) (.ref 271) 272 555 137 556
def o_274:Obj:=fO9 "clock_from" "clock_from" qga9 "fordbook.stretches" 489 273
def o_278:Obj:=cod "picked" 560 "picked" 561 562 149 5 0 0 3 275 181 276 .none .none .none 277 563 149 564
def o_279:Obj:=fO9 "picked" "picked" qkg9 "fordbook.reckon" 558 278
def o_285:Obj:=cod "joined" 566 "joined" 567 568 154 4 0 0 3 280 181 281 .none (.ref 282) (.ref 283) 284 580 154 581
def o_286:Obj:=fO9 "joined" "joined" qjr9 "fordbook.reckon" 558 285
def o_292:Obj:=cod "sooner" 583 "sooner" 584 585 164 3 0 0 3 287 181 288 .none (.ref 289) (.ref 290) 291 589 164 590
def o_293:Obj:=fO9 "sooner" "sooner" qkc9 "fordbook.reckon" 558 292
def o_299:Obj:=cod "later" 592 "later" 593 594 168 3 0 0 3 294 181 295 .none (.ref 296) (.ref 297) 298 598 168 599
def o_300:Obj:=fO9 "later" "later" qmr9 "fordbook.reckon" 558 299
def o_306:Obj:=cod "ridden" 601 "ridden" 602 603 172 5 0 0 3 301 181 302 .none (.ref 303) (.ref 304) 305 614 172 615
def o_307:Obj:=fO9 "ridden" "ridden" qki9 "fordbook.reckon" 558 306
def o_313:Obj:=cod "behind" 617 "behind" 618 619 189 3 0 0 3 308 181 309 .none (.ref 310) (.ref 311) 312 629 189 630
def o_314:Obj:=fO9 "behind" "behind" qkh9 "fordbook.reckon" 558 313
def o_320:Obj:=cod "clock_within" 632 "clock_within" 633 634 200 2 0 0 3 315 181 316 .none (.ref 317) (.ref 318) 319 638 200 639
def o_321:Obj:=fO9 "clock_within" "clock_within" qeh9 "fordbook.reckon" 558 320
def o_327:Obj:=cod "clock_of" 641 "clock_of" 642 643 205 2 0 0 3 322 181 323 .none (.ref 324) (.ref 325) 326 646 205 647
def o_328:Obj:=fO9 "clock_of" "clock_of" qhj9 "fordbook.reckon" 558 327
def o_332:Obj:=cod "fords_of" 651 "fords_of" 652 653 210 2 0 0 3 329 181 330 .none .none .none 331 654 210 655
def o_333:Obj:=fO9 "fords_of" "fords_of" qhe9 "fordbook.tables" 649 332
def o_337:Obj:=cod "staying" 657 "staying" 658 659 212 3 0 0 3 334 181 335 .none .none .none 336 660 212 661
def o_338:Obj:=fO9 "staying" "staying" qiv9 "fordbook.tables" 649 337
def o_342:Obj:=cod "copied_table" 663 "copied_table" 664 665 214 1 0 0 3 339 181 340 .none .none .none 341 666 214 667
def o_343:Obj:=fO9 "copied_table" "copied_table" qeg9 "fordbook.tables" 649 342
def o_349:Obj:=cod "grown" 669 "grown" 670 671 216 4 0 0 3 344 181 345 .none (.ref 346) (.ref 347) 348 677 216 678
def o_350:Obj:=fO9 "grown" "grown" qlu9 "fordbook.tables" 649 349
def o_356:Obj:=cod "ride_first" 680 "ride_first" 681 682 224 3 0 0 3 351 181 352 .none (.ref 353) (.ref 354) 355 690 224 691
def o_357:Obj:=fO9 "ride_first" "ride_first" qfl9 "fordbook.tables" 649 356
def o_363:Obj:=cod "ride_last" 693 "ride_last" 694 695 229 3 0 0 3 358 181 359 .none (.ref 360) (.ref 361) 362 703 229 704
def o_364:Obj:=fO9 "ride_last" "ride_last" qgi9 "fordbook.tables" 649 363
def o_370:Obj:=cod "rounds_to" 706 "rounds_to" 707 708 234 4 0 0 3 365 181 366 .none (.ref 367) (.ref 368) 369 715 234 716
def o_371:Obj:=fO9 "rounds_to" "rounds_to" qgq9 "fordbook.tables" 649 370
def o_377:Obj:=cod "rounds" 718 "rounds" 719 720 237 4 0 0 3 372 181 373 .none (.ref 374) (.ref 375) 376 725 237 726
def o_378:Obj:=fO9 "rounds" "rounds" qka9 "fordbook.tables" 649 377
def o_384:Obj:=cod "table" 728 "table" 729 730 241 4 0 0 3 379 181 380 .none (.ref 381) (.ref 382) 383 735 241 736
def o_385:Obj:=fO9 "table" "table" qlz9 "fordbook.tables" 649 384
def o_391:Obj:=cod "table_from" 738 "table_from" 739 740 243 4 0 0 3 386 181 387 .none (.ref 388) (.ref 389) 390 747 243 748
def o_392:Obj:=fO9 "table_from" "table_from" qgb9 "fordbook.tables" 649 391
def o_398:Obj:=cod "need_turn" 752 "need_turn" 753 754 249 1 0 0 3 393 181 394 .none (.ref 395) (.ref 396) 397 756 249 757
def o_399:Obj:=fO9 "need_turn" "need_turn" qgh9 "fordbook.asks" 750 398
def o_405:Obj:=cod "guarded" 759 "guarded" 760 761 252 3 0 0 3 400 181 401 .none (.ref 402) (.ref 403) 404 772 252 773
def o_406:Obj:=fO9 "guarded" "guarded" qiw9 "fordbook.asks" 750 405
def o_412:Obj:=cod "ask_first" 775 "ask_first" 776 777 258 3 0 0 3 407 181 408 .none (.ref 409) (.ref 410) 411 787 258 788
def o_413:Obj:=fO9 "ask_first" "ask_first" qgm9 "fordbook.asks" 750 412
def o_419:Obj:=cod "guarded_rounds" 790 "guarded_rounds" 791 792 264 5 0 0 3 414 181 415 .none (.ref 416) (.ref 417) 418 800 264 801
def o_420:Obj:=fO9 "guarded_rounds" "guarded_rounds" qdf9 "fordbook.asks" 750 419
def o_426:Obj:=cod "level_rounds" 803 "level_rounds" 804 805 267 5 0 0 3 421 181 422 .none (.ref 423) (.ref 424) 425 812 267 813
def o_427:Obj:=fO9 "level_rounds" "level_rounds" qei9 "fordbook.asks" 750 426
def o_431:Obj:=cod "levels" 815 "levels" 816 817 275 5 0 0 3 428 181 429 .none .none .none 430 818 275 819
def o_432:Obj:=fO9 "levels" "levels" qjs9 "fordbook.asks" 750 431
def o_436:Obj:=cod "first_harms" 823 "first_harms" 824 825 278 2 0 0 3 433 181 434 .none .none .none 435 826 278 827
def o_437:Obj:=fO9 "first_harms" "first_harms" qez9 "fordbook.fewest" 821 436
def o_443:Obj:=cod "groups" 829 "groups" 830 831 287 2 0 0 3 438 181 439 .none (.ref 440) (.ref 441) 442 840 287 841
def o_444:Obj:=fO9 "groups" "groups" qks9 "fordbook.fewest" 821 443
def o_448:Obj:=cod "fewest" 843 "fewest" 844 845 301 2 0 0 3 445 181 446 .none .none .none 447 846 301 847
def o_449:Obj:=fO9 "fewest" "fewest" qjy9 "fordbook.fewest" 821 448
def o_455:Obj:=cod "comes_by" 851 "comes_by" 852 853 304 4 0 0 3 450 181 451 .none (.ref 452) (.ref 453) 454 859 304 860
def o_456:Obj:=fO9 "comes_by" "comes_by" qhg9 "fordbook.walks" 849 455
def o_462:Obj:=cod "least_round" 862 "least_round" 863 864 307 5 0 0 3 457 181 458 .none (.ref 459) (.ref 460) 461 872 307 873
def o_463:Obj:=fO9 "least_round" "least_round" qff9 "fordbook.walks" 849 462
def o_469:Obj:=cod "fewest_rides" 877 "fewest_rides" 878 879 313 7 0 0 3 464 181 465 .none (.ref 466) (.ref 467) 468 888 313 889
def o_470:Obj:=fO9 "fewest_rides" "fewest_rides" qej9 "fordbook.journeys" 875 469
def o_476:Obj:=cod "is_member" 893 "is_member" 894 895 318 2 0 0 3 471 181 472 .none (.ref 473) (.ref 474) 475 898 318 899
def o_477:Obj:=fO9 "is_member" "is_member" qge9 "fordbook.meetings" 891 476
def o_481:Obj:=cod "need_party" 901 "need_party" 902 903 322 2 0 0 3 478 181 479 .none .none .none 480 904 322 905
def o_482:Obj:=fO9 "need_party" "need_party" qfq9 "fordbook.meetings" 891 481
def o_488:Obj:=cod "tables_by_start" 907 "tables_by_start" 908 909 327 4 0 0 3 483 181 484 .none (.ref 485) (.ref 486) 487 917 327 918
def o_489:Obj:=fO9 "tables_by_start" "tables_by_start" qcy9 "fordbook.meetings" 891 488
def o_493:Obj:=cod "meet_at" 920 "meet_at" 921 922 335 5 0 0 3 490 181 491 .none .none .none 492 923 335 924
def o_494:Obj:=fO9 "meet_at" "meet_at" qik9 "fordbook.meetings" 891 493
def o_498:Obj:=cod "read_number" 936 "read_number" 937 938 350 2 0 0 3 495 181 496 .none .none .none 497 939 350 940
def o_499:Obj:=fO9 "read_number" "read_number" qby9 "fordbook.texts" 926 498
def o_503:Obj:=cod "is_name" 942 "is_name" 943 944 356 1 0 0 3 500 181 501 .none .none .none 502 945 356 946
def o_504:Obj:=fO9 "is_name" "is_name" qer9 "fordbook.texts" 926 503
def o_510:Obj:=cod "read_ends" 948 "read_ends" 949 950 358 1 0 0 3 505 181 506 .none (.ref 507) (.ref 508) 509 953 358 954
def o_511:Obj:=fO9 "read_ends" "read_ends" qcx9 "fordbook.texts" 926 510
def o_517:Obj:=cod "read_span" 956 "read_span" 957 958 363 1 0 0 3 512 181 513 .none (.ref 514) (.ref 515) 516 963 363 964
def o_518:Obj:=fO9 "read_span" "read_span" qcv9 "fordbook.texts" 926 517
def o_524:Obj:=cod "read_window" 966 "read_window" 967 968 372 2 0 0 3 519 181 520 .none (.ref 521) (.ref 522) 523 975 372 976
def o_525:Obj:=fO9 "read_window" "read_window" qbv9 "fordbook.texts" 926 524
def o_531:Obj:=cod "read_day" 978 "read_day" 979 980 380 1 0 0 3 526 181 527 .none (.ref 528) (.ref 529) 530 984 380 985
def o_532:Obj:=fO9 "read_day" "read_day" qdl9 "fordbook.texts" 926 531
def o_536:Obj:=cod "read_board" 987 "read_board" 988 989 386 2 0 0 3 533 181 534 .none .none .none 535 990 386 991
def o_537:Obj:=fO9 "read_board" "read_board" qcm9 "fordbook.texts" 926 536
def o_543:Obj:=cod "number_of" 993 "number_of" 994 995 389 2 0 0 3 538 181 539 .none (.ref 540) (.ref 541) 542 998 389 999
def o_544:Obj:=fO9 "number_of" "number_of" qdw9 "fordbook.texts" 926 543
def o_550:Obj:=cod "read_net" 1001 "read_net" 1002 1003 393 1 0 0 3 545 181 546 .none (.ref 547) (.ref 548) 549 1014 393 1015
def o_551:Obj:=fO9 "read_net" "read_net" qdn9 "fordbook.texts" 926 550
def o_557:Obj:=cod "show_window" 1017 "show_window" 1018 1019 411 3 0 0 3 552 181 553 .none (.ref 554) (.ref 555) 556 1023 411 1024
def o_558:Obj:=fO9 "show_window" "show_window" qcr9 "fordbook.texts" 926 557
def o_562:Obj:=cod "show_board" 1026 "show_board" 1027 1028 413 1 0 0 3 559 181 560 .none .none .none 561 1029 413 1030
def o_563:Obj:=fO9 "show_board" "show_board" qdb9 "fordbook.texts" 926 562
def o_569:Obj:=cod "show_road" 1032 "show_road" 1033 1034 415 3 0 0 3 564 181 565 .none (.ref 566) (.ref 567) 568 1039 415 1040
def o_570:Obj:=fO9 "show_road" "show_road" qds9 "fordbook.texts" 926 569
def o_574:Obj:=cod "show_net" 1042 "show_net" 1043 1044 418 3 0 0 3 571 181 572 .none .none .none 573 1045 418 1046
def o_575:Obj:=fO9 "show_net" "show_net" qek9 "fordbook.texts" 926 574
def o_576(P:zis):Obj:=(Obj.mk (.type "dict") zhr (.dict #[(dE9 P "soonest" 1056 (.ref 577)),(dE9 P "latest" 1060 (.ref 578)),(dE9 P "kept" 1064 (.ref 579)),(dE9 P "rides" 1069 (.ref 580)),(dE9 P "board" 1073 (.ref 581)),(dE9 P "longest" 1076 (.ref 582)),(dE9 P "open" 1079 (.ref 583)),(dE9 P "shut" 1082 (.ref 584)),(dE9 P "net" 1085 (.ref 585))] 9) #[])
def o_577:Obj:=(Obj.mk (.type "tuple") zhr (.seq #[(.str "name" 1057),(.str "name" 1058),(.str "moment" 1059)] 0) #[])
def o_578:Obj:=(Obj.mk (.type "tuple") zhr (.seq #[(.str "name" 1061),(.str "name" 1062),(.str "moment" 1063)] 0) #[])
def o_579:Obj:=(Obj.mk (.type "tuple") zhr (.seq #[(.str "name" 1065),(.str "name" 1066),(.str "moment" 1067),(.str "turns" 1068)] 0) #[])
def o_580:Obj:=(Obj.mk (.type "tuple") zhr (.seq #[(.str "name" 1070),(.str "name" 1071),(.str "moment" 1072)] 0) #[])
def o_581:Obj:=(Obj.mk (.type "tuple") zhr (.seq #[(.str "name" 1074),(.str "name" 1075)] 0) #[])
def o_582:Obj:=(Obj.mk (.type "tuple") zhr (.seq #[(.str "name" 1077),(.str "name" 1078)] 0) #[])
def o_583:Obj:=(Obj.mk (.type "tuple") zhr (.seq #[(.str "road" 1080),(.str "window" 1081)] 0) #[])
def o_584:Obj:=(Obj.mk (.type "tuple") zhr (.seq #[(.str "road" 1083),(.str "window" 1084)] 0) #[])
def o_591:Obj:=cod "shape_of" 1096 "shape_of" 1097 1098 425 1 0 0 3 586 181 587 .none (.ref 588) (.ref 589) 590 1100 425 1101
def o_592:Obj:=fO9 "shape_of" "shape_of" qdm9 "fordbook.rows" 1048 591
def o_598:Obj:=cod "read_moment" 1103 "read_moment" 1104 1105 429 1 0 0 3 593 181 594 .none (.ref 595) (.ref 596) 597 1108 429 1109
def o_599:Obj:=fO9 "read_moment" "read_moment" qbx9 "fordbook.rows" 1048 598
def o_605:Obj:=cod "read_turns" 1111 "read_turns" 1112 1113 434 1 0 0 3 600 181 601 .none (.ref 602) (.ref 603) 604 1116 434 1117
def o_606:Obj:=fO9 "read_turns" "read_turns" qck9 "fordbook.rows" 1048 605
def o_612:Obj:=cod "read_names" 1119 "read_names" 1120 1121 437 2 0 0 3 607 181 608 .none (.ref 609) (.ref 610) 611 1124 437 1125
def o_613:Obj:=fO9 "read_names" "read_names" qcj9 "fordbook.rows" 1048 612
def o_619:Obj:=cod "read_value" 1127 "read_value" 1128 1129 441 3 0 0 3 614 181 615 .none (.ref 616) (.ref 617) 618 1133 441 1134
def o_620:Obj:=fO9 "read_value" "read_value" qcn9 "fordbook.rows" 1048 619
def o_626:Obj:=cod "read_row" 1136 "read_row" 1137 1138 447 2 0 0 3 621 181 622 .none (.ref 623) (.ref 624) 625 1149 447 1150
def o_627:Obj:=fO9 "read_row" "read_row" qdk9 "fordbook.rows" 1048 626
def o_633:Obj:=cod "longest" 1154 "longest" 1155 1156 467 2 0 0 3 628 181 629 .none (.ref 630) (.ref 631) 632 1162 467 1163
def o_634:Obj:=fO9 "longest" "longest" qit9 "fordbook.waits" 1152 633
def o_640:Obj:=cod "shown" 1167 "shown" 1168 1169 475 1 0 0 3 635 181 636 .none (.ref 637) (.ref 638) 639 1171 475 1172
def o_641:Obj:=fO9 "shown" "shown" qlx9 "fordbook.desk" 1165 640
def o_647:Obj:=cod "clock_between" 1174 "clock_between" 1175 1176 477 2 0 0 3 642 181 643 .none (.ref 644) (.ref 645) 646 1179 477 1180
def o_648:Obj:=fO9 "clock_between" "clock_between" qec9 "fordbook.desk" 1165 647
def o_654:Obj:=cod "soonest_row" 1182 "soonest_row" 1183 1184 479 3 0 0 3 649 181 650 .none (.ref 651) (.ref 652) 653 1188 479 1189
def o_655:Obj:=fO9 "soonest_row" "soonest_row" qfa9 "fordbook.desk" 1165 654
def o_661:Obj:=cod "latest_row" 1191 "latest_row" 1192 1193 481 3 0 0 3 656 181 657 .none (.ref 658) (.ref 659) 660 1197 481 1198
def o_662:Obj:=fO9 "latest_row" "latest_row" qfu9 "fordbook.desk" 1165 661
def o_668:Obj:=cod "kept_row" 1200 "kept_row" 1201 1202 483 3 0 0 3 663 181 664 .none (.ref 665) (.ref 666) 667 1207 483 1208
def o_669:Obj:=fO9 "kept_row" "kept_row" qhb9 "fordbook.desk" 1165 668
def o_675:Obj:=cod "rides_row" 1210 "rides_row" 1211 1212 486 3 0 0 3 670 181 671 .none (.ref 672) (.ref 673) 674 1218 486 1219
def o_676:Obj:=fO9 "rides_row" "rides_row" qgl9 "fordbook.desk" 1165 675
def o_682:Obj:=cod "board_row" 1221 "board_row" 1222 1223 492 3 0 0 3 677 181 678 .none (.ref 679) (.ref 680) 681 1227 492 1228
def o_683:Obj:=fO9 "board_row" "board_row" qgg9 "fordbook.desk" 1165 682
def o_689:Obj:=cod "longest_row" 1230 "longest_row" 1231 1232 494 3 0 0 3 684 181 685 .none (.ref 686) (.ref 687) 688 1237 494 1238
def o_690:Obj:=fO9 "longest_row" "longest_row" qey9 "fordbook.desk" 1165 689
def o_694:Obj:=cod "meet_row" 1240 "meet_row" 1241 1242 497 3 0 0 3 691 181 692 .none .none .none 693 1243 497 1244
def o_695:Obj:=fO9 "meet_row" "meet_row" qhd9 "fordbook.desk" 1165 694
def o_699:Obj:=cod "boards_between" 1246 "boards_between" 1247 1248 501 2 0 0 3 696 181 697 .none .none .none 698 1249 501 1250
def o_700:Obj:=fO9 "boards_between" "boards_between" qbo9 "fordbook.desk" 1165 699
def o_706:Obj:=cod "open_row" 1252 "open_row" 1253 1254 503 3 0 0 3 701 181 702 .none (.ref 703) (.ref 704) 705 1259 503 1260
def o_707:Obj:=fO9 "open_row" "open_row" qem9 "fordbook.desk" 1165 706
def o_711:Obj:=cod "shut_row" 1262 "shut_row" 1263 1264 510 3 0 0 3 708 181 709 .none .none .none 710 1265 510 1266
def o_712:Obj:=fO9 "shut_row" "shut_row" qev9 "fordbook.desk" 1165 711
def o_718:Obj:=cod "net_row" 1268 "net_row" 1269 1270 516 3 0 0 3 713 181 714 .none (.ref 715) (.ref 716) 717 1274 516 1275
def o_719:Obj:=fO9 "net_row" "net_row" qfw9 "fordbook.desk" 1165 718
def o_720(P:zis):Obj:=(Obj.mk (.type "dict") zhr (.dict #[(dE9 P "soonest" 1277 (.ref 655)),(dE9 P "latest" 1278 (.ref 662)),(dE9 P "kept" 1279 (.ref 669)),(dE9 P "rides" 1280 (.ref 676)),(dE9 P "board" 1281 (.ref 683)),(dE9 P "longest" 1282 (.ref 690)),(dE9 P "meet" 1283 (.ref 695)),(dE9 P "open" 1284 (.ref 707)),(dE9 P "shut" 1285 (.ref 712)),(dE9 P "net" 1286 (.ref 719))] 10) #[])
def o_733:Obj:=cod "__init__" 1310 "Desk.__init__" 1311 1312 521 2 0 0 3 728 181 729 .none (.ref 730) (.ref 731) 732 1316 521 1317
def o_734:Obj:=fO9 "__init__" "Desk.__init__" qaw9 "fordbook.desk" 1165 733
def o_738:Obj:=cod "say" 1319 "Desk.say" 1320 1321 527 2 0 0 3 735 181 736 .none .none .none 737 1322 527 1323
def o_739:Obj:=fO9 "say" "Desk.say" qbp9 "fordbook.desk" 1165 738
def o_740:Obj:=(Obj.mk (.type "tuple") zhr (.seq #[(.str "day" 1325),(.str "names" 1326),(.str "roads" 1327)] 0) #[])
def o_741(P:zis):Obj:=(Obj.mk (.type "dict") zhr (.dict #[(dE9 P "__module__" 1305 (.str "fordbook.desk" 1165)),(dE9 P "__firstlineno__" 1309 (.int 519 1308)),(dE9 P "__init__" 1318 (.ref 734)),(dE9 P "say" 1324 (.ref 739)),(dE9 P "__static_attributes__" 1328 (.ref 740)),(dE9 P "__dict__" 1330 (.ref 743)),(dE9 P "__weakref__" 1332 (.ref 744)),(dE9 P "__doc__" 1333 .none)] 4) #[])
def o_742:Obj:=(Obj.mk (.type "type") zhr (@PySem.Data.cls (@PySem.ClassData.mk (.ofString "Desk") [(.type "object")] [(.ref 742),(.type "object")] 741 (.ofString "Desk") @Bool.true [] [] @Bool.false zhr @Bool.false)) #[zhr,zhr,(@Option.some @PySem.Value (.str "Desk" 1298)),(@Option.some @PySem.Value (.str "Desk" 1306)),(@Option.some @PySem.Value (.builtin "object.__new__")),(@Option.some @PySem.Value (.bool @Bool.true))])
def o_743:Obj:=(Obj.mk (.type "getset_descriptor") zhr (.fields #[(.str "__dict__" 1329),(.ref 742),(.builtin "function.__dict__"),(.builtin "function.__dict__#set")]) #[])
def o_744:Obj:=(Obj.mk (.type "getset_descriptor") zhr (.fields #[(.str "__weakref__" 1331),(.ref 742),(.builtin "ExceptionGroup.__weakref__"),.none]) #[])
def o_752:Obj:=cod "_law_cell_at" 1338 "_law_cell_at" 1339 1340 536 2 0 0 3 747 181 748 .none (.ref 749) (.ref 750) 751 1343 536 1344
def o_753:Obj:=fO9 "_law_cell_at" "_law_cell_at" qce9 "law_fordbook_k85_rows_refused" 1336 752
def o_759:Obj:=cod "_law_day" 1346 "_law_day" 1347 1348 540 1 0 0 3 754 181 755 .none (.ref 756) (.ref 757) 758 1350 540 1351
def o_760:Obj:=fO9 "_law_day" "_law_day" qeu9 "law_fordbook_k85_rows_refused" 1336 759
def o_766:Obj:=cod "_law_stay" 1353 "_law_stay" 1354 1355 544 2 0 0 3 761 181 762 .none (.ref 763) (.ref 764) 765 1358 544 1359
def o_767:Obj:=fO9 "_law_stay" "_law_stay" qdo9 "law_fordbook_k85_rows_refused" 1336 766
def o_773:Obj:=cod "_law_ride" 1361 "_law_ride" 1362 1363 550 2 0 0 3 768 181 769 .none (.ref 770) (.ref 771) 772 1366 550 1367
def o_774:Obj:=fO9 "_law_ride" "_law_ride" qdp9 "law_fordbook_k85_rows_refused" 1336 773
def o_778:Obj:=cod "_law_roads" 1369 "_law_roads" 1370 1371 552 5 0 0 3 775 181 776 .none .none .none 777 1372 552 1373
def o_779:Obj:=fO9 "_law_roads" "_law_roads" qdd9 "law_fordbook_k85_rows_refused" 1336 778
def o_785:Obj:=cod "_law_word" 1375 "_law_word" 1376 1377 571 2 0 0 3 780 181 781 .none (.ref 782) (.ref 783) 784 1385 571 1386
def o_786:Obj:=fO9 "_law_word" "_law_word" qdx9 "law_fordbook_k85_rows_refused" 1336 785
def o_792:Obj:=cod "_law_words" 1388 "_law_words" 1389 1390 585 2 0 0 3 787 181 788 .none (.ref 789) (.ref 790) 791 1395 585 1396
def o_793:Obj:=fO9 "_law_words" "_law_words" qda9 "law_fordbook_k85_rows_refused" 1336 792
def o_799:Obj:=cod "_law_shown" 1398 "_law_shown" 1399 1400 590 1 0 0 3 794 181 795 .none (.ref 796) (.ref 797) 798 1402 590 1403
def o_800:Obj:=fO9 "_law_shown" "_law_shown" qde9 "law_fordbook_k85_rows_refused" 1336 799
def o_806:Obj:=cod "_law_text" 1405 "_law_text" 1406 1407 594 3 0 0 3 801 181 802 .none (.ref 803) (.ref 804) 805 1417 594 1418
def o_807:Obj:=fO9 "_law_text" "_law_text" qdz9 "law_fordbook_k85_rows_refused" 1336 806
def o_813:Obj:=cod "_law_order" 1420 "_law_order" 1421 1422 602 1 0 0 3 808 181 809 .none (.ref 810) (.ref 811) 812 1429 602 1430
def o_814:Obj:=fO9 "_law_order" "_law_order" qdc9 "law_fordbook_k85_rows_refused" 1336 813
def o_820:Obj:=cod "_law_said" 1432 "_law_said" 1433 1434 609 2 0 0 3 815 181 816 .none (.ref 817) (.ref 818) 819 1442 609 1443
def o_821:Obj:=fO9 "_law_said" "_law_said" qdy9 "law_fordbook_k85_rows_refused" 1336 820
def o_827:Obj:=cod "_law_no_desk" 1445 "_law_no_desk" 1446 1447 622 1 0 0 3 822 181 823 .none (.ref 824) (.ref 825) 826 1451 622 1452
def o_828:Obj:=fO9 "_law_no_desk" "_law_no_desk" qci9 "law_fordbook_k85_rows_refused" 1336 827
def o_832:Obj:=cod "_law_no_desks" 1454 "_law_no_desks" 1455 1456 629 1 0 0 3 829 181 830 .none .none .none 831 1457 629 1458
def o_833:Obj:=fO9 "_law_no_desks" "_law_no_desks" qbt9 "law_fordbook_k85_rows_refused" 1336 832
def o_839:Obj:=cod "_law_no_rows" 1460 "_law_no_rows" 1461 1462 632 3 0 0 3 834 181 835 .none (.ref 836) (.ref 837) 838 1471 632 1472
def o_840:Obj:=fO9 "_law_no_rows" "_law_no_rows" qcg9 "law_fordbook_k85_rows_refused" 1336 839
def o_846:Obj:=cod "_law_no_names" 1474 "_law_no_names" 1475 1476 650 3 0 0 3 841 181 842 .none (.ref 843) (.ref 844) 845 1482 650 1483
def o_847:Obj:=fO9 "_law_no_names" "_law_no_names" qbs9 "law_fordbook_k85_rows_refused" 1336 846
def o_853:Obj:=cod "_law_free" 1485 "_law_free" 1486 1487 655 3 0 0 3 848 181 849 .none (.ref 850) (.ref 851) 852 1496 655 1497
def o_854:Obj:=fO9 "_law_free" "_law_free" qdu9 "law_fordbook_k85_rows_refused" 1336 853
def o_860:Obj:=cod "_law_shut" 1499 "_law_shut" 1500 1501 664 3 0 0 3 855 181 856 .none (.ref 857) (.ref 858) 859 1505 664 1506
def o_861:Obj:=fO9 "_law_shut" "_law_shut" qdt9 "law_fordbook_k85_rows_refused" 1336 860
def o_865:Obj:=cod "law" 1508 "law" 1509 1510 670 1 0 0 3 862 181 863 .none .none .none 864 1511 670 1512
def o_866:Obj:=fO9 "law" "law" qsg9 "law_fordbook_k85_rows_refused" 1336 865
def KK:zis->W.Frag:=λ P =>
 (nat_lit 2,o_2)::
 (nat_lit 3,o_3 P)::
 (nat_lit 15,o_15)::
 (nat_lit 22,o_22)::
 (nat_lit 23,o_23 P)::
 (nat_lit 24,o_24)::
 (nat_lit 25,o_25)::
 (nat_lit 28,o_28)::
 (nat_lit 35,o_22)::
 (nat_lit 36,o_36 P)::
 (nat_lit 37,o_37)::
 (nat_lit 40,o_28)::
 (nat_lit 47,o_22)::
 (nat_lit 48,o_48 P)::
 (nat_lit 49,o_49)::
 (nat_lit 52,o_28)::
 (nat_lit 59,o_22)::
 (nat_lit 60,o_60 P)::
 (nat_lit 61,o_61)::
 (nat_lit 64,o_28)::
 (nat_lit 71,o_22)::
 (nat_lit 72,o_72 P)::
 (nat_lit 73,o_73)::
 (nat_lit 76,o_28)::
 (nat_lit 83,o_22)::
 (nat_lit 84,o_84 P)::
 (nat_lit 85,o_85)::
 (nat_lit 88,o_28)::
 (nat_lit 95,o_22)::
 (nat_lit 96,o_96 P)::
 (nat_lit 97,o_97)::
 (nat_lit 100,o_28)::
 (nat_lit 107,o_22)::
 (nat_lit 108,o_108 P)::
 (nat_lit 109,o_109)::
 (nat_lit 112,o_28)::
 (nat_lit 119,o_22)::
 (nat_lit 120,o_120 P)::
 (nat_lit 121,o_121)::
 (nat_lit 124,o_28)::
 (nat_lit 131,o_22)::
 (nat_lit 132,o_132 P)::
 (nat_lit 133,o_133)::
 (nat_lit 141,o_141)::
 (nat_lit 142,o_142)::
 (nat_lit 146,o_146)::
 (nat_lit 147,o_147)::
 (nat_lit 151,o_151)::
 (nat_lit 152,o_152)::
 (nat_lit 158,o_158)::
 (nat_lit 159,o_159)::
 (nat_lit 165,o_165)::
 (nat_lit 166,o_166)::
 (nat_lit 172,o_172)::
 (nat_lit 173,o_173)::
 (nat_lit 177,o_177)::
 (nat_lit 178,o_178)::
 (nat_lit 182,o_182)::
 (nat_lit 183,o_183)::
 (nat_lit 189,o_189)::
 (nat_lit 190,o_190)::
 (nat_lit 196,o_196)::
 (nat_lit 197,o_197)::
 (nat_lit 203,o_203)::
 (nat_lit 204,o_204)::
 (nat_lit 210,o_210)::
 (nat_lit 211,o_211)::
 (nat_lit 217,o_217)::
 (nat_lit 218,o_218)::
 (nat_lit 224,o_224)::
 (nat_lit 225,o_225)::
 (nat_lit 231,o_231)::
 (nat_lit 232,o_232)::
 (nat_lit 238,o_238)::
 (nat_lit 239,o_239)::
 (nat_lit 245,o_245)::
 (nat_lit 246,o_246)::
 (nat_lit 252,o_252)::
 (nat_lit 253,o_253)::
 (nat_lit 259,o_259)::
 (nat_lit 260,o_260)::
 (nat_lit 266,o_266)::
 (nat_lit 267,o_267)::
 (nat_lit 273,o_273)::
 (nat_lit 274,o_274)::
 (nat_lit 278,o_278)::
 (nat_lit 279,o_279)::
 (nat_lit 285,o_285)::
 (nat_lit 286,o_286)::
 (nat_lit 292,o_292)::
 (nat_lit 293,o_293)::
 (nat_lit 299,o_299)::
 (nat_lit 300,o_300)::
 (nat_lit 306,o_306)::
 (nat_lit 307,o_307)::
 (nat_lit 313,o_313)::
 (nat_lit 314,o_314)::
 (nat_lit 320,o_320)::
 (nat_lit 321,o_321)::
 (nat_lit 327,o_327)::
 (nat_lit 328,o_328)::
 (nat_lit 332,o_332)::
 (nat_lit 333,o_333)::
 (nat_lit 337,o_337)::
 (nat_lit 338,o_338)::
 (nat_lit 342,o_342)::
 (nat_lit 343,o_343)::
 (nat_lit 349,o_349)::
 (nat_lit 350,o_350)::
 (nat_lit 356,o_356)::
 (nat_lit 357,o_357)::
 (nat_lit 363,o_363)::
 (nat_lit 364,o_364)::
 (nat_lit 370,o_370)::
 (nat_lit 371,o_371)::
 (nat_lit 377,o_377)::
 (nat_lit 378,o_378)::
 (nat_lit 384,o_384)::
 (nat_lit 385,o_385)::
 (nat_lit 391,o_391)::
 (nat_lit 392,o_392)::
 (nat_lit 398,o_398)::
 (nat_lit 399,o_399)::
 (nat_lit 405,o_405)::
 (nat_lit 406,o_406)::
 (nat_lit 412,o_412)::
 (nat_lit 413,o_413)::
 (nat_lit 419,o_419)::
 (nat_lit 420,o_420)::
 (nat_lit 426,o_426)::
 (nat_lit 427,o_427)::
 (nat_lit 431,o_431)::
 (nat_lit 432,o_432)::
 (nat_lit 436,o_436)::
 (nat_lit 437,o_437)::
 (nat_lit 443,o_443)::
 (nat_lit 444,o_444)::
 (nat_lit 448,o_448)::
 (nat_lit 449,o_449)::
 (nat_lit 455,o_455)::
 (nat_lit 456,o_456)::
 (nat_lit 462,o_462)::
 (nat_lit 463,o_463)::
 (nat_lit 469,o_469)::
 (nat_lit 470,o_470)::
 (nat_lit 476,o_476)::
 (nat_lit 477,o_477)::
 (nat_lit 481,o_481)::
 (nat_lit 482,o_482)::
 (nat_lit 488,o_488)::
 (nat_lit 489,o_489)::
 (nat_lit 493,o_493)::
 (nat_lit 494,o_494)::
 (nat_lit 498,o_498)::
 (nat_lit 499,o_499)::
 (nat_lit 503,o_503)::
 (nat_lit 504,o_504)::
 (nat_lit 510,o_510)::
 (nat_lit 511,o_511)::
 (nat_lit 517,o_517)::
 (nat_lit 518,o_518)::
 (nat_lit 524,o_524)::
 (nat_lit 525,o_525)::
 (nat_lit 531,o_531)::
 (nat_lit 532,o_532)::
 (nat_lit 536,o_536)::
 (nat_lit 537,o_537)::
 (nat_lit 543,o_543)::
 (nat_lit 544,o_544)::
 (nat_lit 550,o_550)::
 (nat_lit 551,o_551)::
 (nat_lit 557,o_557)::
 (nat_lit 558,o_558)::
 (nat_lit 562,o_562)::
 (nat_lit 563,o_563)::
 (nat_lit 569,o_569)::
 (nat_lit 570,o_570)::
 (nat_lit 574,o_574)::
 (nat_lit 575,o_575)::
 (nat_lit 576,o_576 P)::
 (nat_lit 577,o_577)::
 (nat_lit 578,o_578)::
 (nat_lit 579,o_579)::
 (nat_lit 580,o_580)::
 (nat_lit 581,o_581)::
 (nat_lit 582,o_582)::
 (nat_lit 583,o_583)::
 (nat_lit 584,o_584)::
 (nat_lit 585,o_22)::
 (nat_lit 591,o_591)::
 (nat_lit 592,o_592)::
 (nat_lit 598,o_598)::
 (nat_lit 599,o_599)::
 (nat_lit 605,o_605)::
 (nat_lit 606,o_606)::
 (nat_lit 612,o_612)::
 (nat_lit 613,o_613)::
 (nat_lit 619,o_619)::
 (nat_lit 620,o_620)::
 (nat_lit 626,o_626)::
 (nat_lit 627,o_627)::
 (nat_lit 633,o_633)::
 (nat_lit 634,o_634)::
 (nat_lit 640,o_640)::
 (nat_lit 641,o_641)::
 (nat_lit 647,o_647)::
 (nat_lit 648,o_648)::
 (nat_lit 654,o_654)::
 (nat_lit 655,o_655)::
 (nat_lit 661,o_661)::
 (nat_lit 662,o_662)::
 (nat_lit 668,o_668)::
 (nat_lit 669,o_669)::
 (nat_lit 675,o_675)::
 (nat_lit 676,o_676)::
 (nat_lit 682,o_682)::
 (nat_lit 683,o_683)::
 (nat_lit 689,o_689)::
 (nat_lit 690,o_690)::
 (nat_lit 694,o_694)::
 (nat_lit 695,o_695)::
 (nat_lit 699,o_699)::
 (nat_lit 700,o_700)::
 (nat_lit 706,o_706)::
 (nat_lit 707,o_707)::
 (nat_lit 711,o_711)::
 (nat_lit 712,o_712)::
 (nat_lit 718,o_718)::
 (nat_lit 719,o_719)::
 (nat_lit 720,o_720 P)::
 (nat_lit 733,o_733)::
 (nat_lit 734,o_734)::
 (nat_lit 738,o_738)::
 (nat_lit 739,o_739)::
 (nat_lit 740,o_740)::
 (nat_lit 741,o_741 P)::
 (nat_lit 742,o_742)::
 (nat_lit 743,o_743)::
 (nat_lit 744,o_744)::
 (nat_lit 752,o_752)::
 (nat_lit 753,o_753)::
 (nat_lit 759,o_759)::
 (nat_lit 760,o_760)::
 (nat_lit 766,o_766)::
 (nat_lit 767,o_767)::
 (nat_lit 773,o_773)::
 (nat_lit 774,o_774)::
 (nat_lit 778,o_778)::
 (nat_lit 779,o_779)::
 (nat_lit 785,o_785)::
 (nat_lit 786,o_786)::
 (nat_lit 792,o_792)::
 (nat_lit 793,o_793)::
 (nat_lit 799,o_799)::
 (nat_lit 800,o_800)::
 (nat_lit 806,o_806)::
 (nat_lit 807,o_807)::
 (nat_lit 813,o_813)::
 (nat_lit 814,o_814)::
 (nat_lit 820,o_820)::
 (nat_lit 821,o_821)::
 (nat_lit 827,o_827)::
 (nat_lit 828,o_828)::
 (nat_lit 832,o_832)::
 (nat_lit 833,o_833)::
 (nat_lit 839,o_839)::
 (nat_lit 840,o_840)::
 (nat_lit 846,o_846)::
 (nat_lit 847,o_847)::
 (nat_lit 853,o_853)::
 (nat_lit 854,o_854)::
 (nat_lit 860,o_860)::
 (nat_lit 861,o_861)::
 (nat_lit 865,o_865)::
 (nat_lit 866,o_866)::
 []
def kAs:List zht:=[2,3,15,22,23,24,25,28,35,36,37,40,47,48,49,52,59,60,61,64,71,72,73,76,83,84,85,88,95,96,97,100,107,108,109,112,119,120,121,124,131,132,133,141,142,146,147,151,152,158,159,165,166,172,173,177,178,182,183,189,190,196,197,203,204,210,211,217,218,224,225,231,232,238,239,245,246,252,253,259,260,266,267,273,274,278,279,285,286,292,293,299,300,306,307,313,314,320,321,327,328,332,333,337,338,342,343,349,350,356,357,363,364,370,371,377,378,384,385,391,392,398,399,405,406,412,413,419,420,426,427,431,432,436,437,443,444,448,449,455,456,462,463,469,470,476,477,481,482,488,489,493,494,498,499,503,504,510,511,517,518,524,525,531,532,536,537,543,544,550,551,557,558,562,563,569,570,574,575,576,577,578,579,580,581,582,583,584,585,591,592,598,599,605,606,612,613,619,620,626,627,633,634,640,641,647,648,654,655,661,662,668,669,675,676,682,683,689,690,694,695,699,700,706,707,711,712,718,719,720,733,734,738,739,740,741,742,743,744,752,753,759,760,766,767,773,774,778,779,785,786,792,793,799,800,806,807,813,814,820,821,827,828,832,833,839,840,846,847,853,854,860,861,865,866]
def view:zih:={ PySem.Challenge.pw_fordbook_k85_rows_refused with main:={ PySem.Challenge.pw_fordbook_k85_rows_refused.main with body:=[top 1,top 2,top 3,top 4,top 5,top 6,top 7,top 8,top 9,top 10,top 12,top 13,top 14,top 15,top 16,top 18,top 19,top 20,top 21,top 22,top 24,top 25,top 26,top 27,top 28,top 30,top 31,top 32,top 33,top 34,top 35,top 37,top 38,top 39,top 40,top 41,top 42,top 43,top 44,top 46,top 47,top 48,top 49,top 50,top 51,top 52,top 53,top 54,top 55,top 57,top 58,top 59,top 60,top 61,top 62,top 64,top 65,top 66,top 68,top 69,top 71,top 73,top 74,top 75,top 76,top 78,top 79,top 80,top 81,top 82,top 83,top 84,top 85,top 86,top 87,top 88,top 89,top 90,top 91,top 92,top 93,top 94,top 96,top 97,top 98,top 99,top 100,top 101,top 102,top 103,top 104,top 105,top 107,top 109,top 110,top 111,top 112,top 113,top 114,top 115,top 116,top 117,top 118,top 119,top 120,top 121,top 122,top 123,top 125,top 126,top 127,top 128,top 129,top 130,top 131,top 132,top 133,top 134,top 135,top 136,top 137,top 138,top 139,top 140,top 141,top 142] } }
theorem k_ws1:PySem.Challenge.rw_fordbook_k85_rows_refused.row.wellSaid=true:=by kernel_rfl
theorem k_ws:PySem.Challenge.rw_fordbook_k85_rows_refused.wellSaid=true:=by
 unfold W.OpenLaw.wellSaid
 repeat' with_reducible refine W.look_both ?_ ?_
 exact k_ws1
 all_goals kernel_rfl
theorem k_as(P:zis):kAs=(KK P).map (·.1):=by kernel_rfl
namespace Tt
open PySem PySem.W PySem.Calls PyProof.Rows
def qlf9(tb:String->Option Builtin)(p:zih)(w:zhy)(n₀:Nat)(ann:Option zhs):Nat->SharedT->znn->Option SharedT
 |0,_,_=>zhr
 |n+1,s,t=>match through t with
  |true=>zhq s
  |false=>match stepOk n₀ ann t with
   |false=>zhr
   |true=>match stepT (denote tb) p w s t with
    |some (s',t')=>qlf9 tb p w n₀ ann n s' t'
    |none=>zhr
theorem qoj9{tb:String->Option Builtin}{p:zih}{w:zhy}{n₀:Nat}{ann:Option zhs}:∀{n:Nat}{s s':SharedT}{t:znn},qlf9 tb p w n₀ ann n s t=zhq s'->topRun tb p w n₀ ann n s.abs t=zhq s'.abs
 |0,_,_,_,h=>by cases h
 |n+1,s,s',t,h=>by
  unfold qlf9 at h
  unfold topRun
  cases he:through t with
  |true=>rw[he] at h;cases h;rfl
  |false =>
   rw[he] at h
   cases hk:stepOk n₀ ann t with
   |false=>rw[hk] at h;cases h
   |true =>
    rw[hk] at h
    cases hs:stepT (denote tb) p w s t with
    |none=>rw[hs] at h;cases h
    |some r=>obtain⟨s₂,t₂⟩:=r;rw[hs] at h;rw[stepT_spec hs];exact qoj9 h
def grow:List Obj->Nat->BT->BT
 | [],_,t=>t
 |o::l,n,t=>grow l (n+1) (t.ins n o)
def s0T(P:zis)(os:ziv):SharedT:=⟨grow (boot_heap P).objs.toList 0 .nil,11,{},zhp [],boot_drawn,boot_toks,os⟩
theorem s0_abs(P:zis)(os:ziv):(s0T P os).abs=⟨boot_heap P,zhp [],boot_drawn,boot_toks,os⟩:=by kernel_rfl
def chk(p:zih)(h₀:zic)(s:zhx):Bool:=staticsOk (zmj p.main.body) h₀ s.heap&&namesBound p s.heap&&gensDone s&&laidKept h₀ s.heap
theorem qqo9(P:zis):((boot_heap P).isNs zie,(boot_heap P).objs.size,(boot_heap P).nsMap zie "__annotations__")=(true,11,zhq (.ref 6)):=by kernel_rfl
def qRun(p:zih)(w:zhy)(n₀:Nat)(ann:Option zhs):Nat->SharedT->znn->Option SharedT
 |0,_,_=>zhr
 |n+1,s,t=>match through t with
  |true=>zhq s
  |false=>match Fast.tw6613529449190102663 n₀ ann t with
   |false=>zhr
   |true=>match Fast.tw10156331382660048174 (Fast.tw11892475500146522536 Fast.tw14364793385576792824) p w s t with
    |some (s',t')=>qRun p w n₀ ann n s' t'
    |none=>zhr
theorem qRun_eq{p:zih}{w:zhy}{n₀:Nat}{ann:Option zhs}:∀(n:Nat)(s:SharedT)(t:znn),qlf9 zlr p w n₀ ann n s t=qRun p w n₀ ann n s t
 |0,_,_=>rfl
 |n+1,s,t=>by
  unfold qlf9 qRun
  rw[<- Fast.te6613529449190102663,<- Fast.te10156331382660048174,<- Fast.te11892475500146522536,<- Fast.te14364793385576792824]
  simp only[qRun_eq n]
def endsT(p:zih)(N:Nat)(w:zhy)(os:ziv):Option SharedT:=qRun p w 11 (zhq (.ref 6)) N (s0T w.params os) (topStub p)
def mrg(g:Nat->Obj):Nat->Nat->W.Frag->List Nat->List Obj
 |0,_,_,_=>[]
 |n+1,a,l,m=>match (match l with|(b,_)::_=>zhn a b | []=>false) with
  |true=>(match l with|(_,o)::_=>o | []=>zmv)::mrg g n (a+1) l.tail m
  |false=>match (match m with|b::_=>zhn a b | []=>false) with
   |true=>tabObj #[]::mrg g n (a+1) l m.tail
   |false=>g a::mrg g n (a+1) l m
def ifO{α β:Type}(o:Option α)(f:α->β)(b:β):β:=match o with
 |some a=>f a
 |none=>b
theorem left_of{p:zih}{N:Nat}{β:Type}{S:zhy->ziv->zhx}{obs:zhx->β}{good:zhy->β}(hb:opening p=plainProg p.main.scope.names)(hN:Nat.ble 600 N=true)(hf:∀s,zng p s=zhq s)
  (hA:∀w os,(endsT p N w os).map SharedT.abs=zhq (S w os)) (h1:∀w os,chk p (boot_heap w.params) (S w os)=true)
  (h2:∀w os,obs (S w os)=good w):∀w,(openEnds zlr p w N).map obs=zhq (good w):=by
 intro w
 obtain⟨⟨hp,gs,dr,tk,os⟩,e,e2⟩:=zfj.mp (boot_open (N:=N) hb hN hf w)
 simp only[Prod.mk.injEq] at e2
 obtain⟨rfl,rfl,rfl,rfl⟩:=e2
 obtain⟨f1,f2,f3⟩:_/\_/\_:=by simpa only[Prod.mk.injEq] using qqo9 w.params
 obtain⟨s,hs,eS⟩:=zfj.mp (hA w os)
 have h1':=h1 w os
 rw[<- eS] at h1'
 have r:=qoj9 ((qRun_eq _ _ _).trans hs)
 rw[s0_abs] at r
 unfold openEnds
 rw[e]
 show(topFrom zlr p w N _).map obs=_
 have t:topFrom zlr p w N ⟨boot_heap w.params,zhp [],boot_drawn,boot_toks,os⟩=zhq s.abs:=by
  unfold topFrom
  dsimp only
  rw[f1,f2,f3,r]
  show(match chk p (boot_heap w.params) s.abs with|true=>_|false=>_)=_
  rw[h1']
 rw[t,eS]
 exact congrArg zhq (h2 w os)
end Tt
section
open PySem PySem.W PySem.Spec PyProof.Rows
def pG:zih:=PySem.Challenge.rw_fordbook_k85_rows_refused.row.prog
def eT(w:zhy)(os:ziv):=Tt.endsT pG 12564 w os
def lO:List Str:=["SHAPES","ANSWERS"]
def xT:zhx->Bool:=(λ s=>W.xlAt My.view [] s&&W.recOk (W.RowW.records (W.OpenRow.toRowW PySem.Challenge.rw_fordbook_k85_rows_refused.row)) s)
abbrev hK:=W.kmHook My.KK My.kAs My.k_as [387,415,220,302,366,206]
theorem k_b:opening pG=plainProg pG.main.scope.names:=by kernel_rfl
theorem k_f(s:zhx):zng pG s=zhq s:=by kernel_rfl
def gO(w:zhy)(os:ziv)(a:Nat):Obj:=match Nat.blt a 7 with
 |true=>(boot_heap w.params).objs.toList.getD a zmv
 |false=>Tt.ifO (eT w os) (λ s=>(s.tree.get a).getD zmv) zmv
def sS(w:zhy)(os:ziv):zhx:=⟨⟨(Tt.mrg (gO w os) 867 0 (KK w.params) [19,32,44,56,68,80,92,104,116,128,137,144,149,154,161,168,175,180,185,192,199,206,213,220,227,234,241,248,255,262,269,276,281,288,295,302,309,316,323,330,335,340,345,352,359,366,373,380,387,394,401,408,415,422,429,434,439,446,451,458,465,472,479,484,491,496,501,506,513,520,527,534,539,546,553,560,565,572,587,594,601,608,615,622,629,636,643,650,657,664,671,678,685,692,697,702,709,714,729,736,748,755,762,769,776,781,788,795,802,809,816,823,830,835,842,849,856,863]).toArray,Tt.ifO (eT w os) (·.life) {}⟩,#[],Tt.ifO (eT w os) (·.drawn) boot_drawn,Tt.ifO (eT w os) (·.toks) 0,Tt.ifO (eT w os) (·.os) os⟩
def wF(v:zhy):zhy:=v.withFollow "special-get-raises" false
def wT(v:zhy):zhy:=v.withFollow "special-get-raises" true
theorem k_AF(v:zhy)(os:ziv):(eT (wF v) os).map SharedT.abs=zhq (sS (wF v) os):=by kernel_rfl
theorem k_AT(v:zhy)(os:ziv):(eT (wT v) os).map SharedT.abs=zhq (sS (wT v) os):=by kernel_rfl
theorem k_A(w:zhy):∀os:ziv,(eT w os).map SharedT.abs=zhq (sS w os):=byRow2 "special-get-raises" (P:=λ w:zhy=>∀os:ziv,(eT w os).map SharedT.abs=zhq (sS w os)) k_AF k_AT w
theorem k_c(w:zhy)(os:ziv):Tt.chk pG (boot_heap w.params) (sS w os)=true:=by kernel_rfl
theorem k_s0(w:zhy)(os:ziv):seen ((recsOf view).map (·.name)) (ownsOf view) [] { sS w os with gens:=#[] }=expectedOf view:=by kernel_rfl
theorem k_s1(w:zhy)(os:ziv):tabsOk view (sS w os)=true:=by kernel_rfl
theorem k_s2(w:zhy)(os:ziv):pinSeenD view (drecsOf view) (sS w os)=pinGoodD (drecsOf view):=by kernel_rfl
theorem k_s3(w:zhy)(os:ziv):plainSeenE view (looseW view lO) (sS w os)=plainGoodE view (looseW view lO):=by kernel_rfl
theorem k_s4(w:zhy)(os:ziv):wideSeen view (sS w os)=wideGood view:=by kernel_rfl
theorem prE{α β:Type}{a b:α}{c d:β}(h1:a=b)(h2:c=d):(a,c)=(b,d):=by rw[h1,h2]
theorem k_l1(w:zhy)(os:ziv):openSeen view lO (zmj pG.main.body) xT true (sS w os)=openGood view lO:=by
 unfold openSeen openGood
 refine prE (k_s0 w os) (prE ?_ (prE ?_ (prE (k_s1 w os) (prE (k_s2 w os) (prE (k_s3 w os) (prE ?_ (prE (k_s4 w os) ?_)))))))
 all_goals kernel_rfl
theorem k_l2(w:zhy)(os:ziv):W.Hook.obs hK (sS w os)=W.Hook.val hK w:=by kernel_rfl
theorem k_left:W.LeftO PySem.Challenge.rw_fordbook_k85_rows_refused.row.prog My.view lO xT (W.Hook.obs hK) (W.Hook.val hK) 12564:=Tt.left_of k_b rfl k_f k_A k_c λ w os=>Prod.ext (k_l1 w os) (k_l2 w os)
end
end My
namespace L2
open PySem PySem.Spec PyProof.Rows
inductive E1q.{u0}{T0:Sort u0}(p:T0->Prop):Prop
 |mk (x0:T0) (h:p x0):E1q p
inductive E2q.{u0,u1}{T0:Sort u0}{T1:Sort u1}(p:T0->T1->Prop):Prop
 |mk (x0:T0) (x1:T1) (h:p x0 x1):E2q p
inductive E3q.{u0,u1,u2}{T0:Sort u0}{T1:Sort u1}{T2:Sort u2}(p:T0->T1->T2->Prop):Prop
 |mk (x0:T0) (x1:T1) (x2:T2) (h:p x0 x1 x2):E3q p
inductive E4q.{u0,u1,u2,u3}{T0:Sort u0}{T1:Sort u1}{T2:Sort u2}{T3:Sort u3}(p:T0->T1->T2->T3->Prop):Prop
 |mk (x0:T0) (x1:T1) (x2:T2) (x3:T3) (h:p x0 x1 x2 x3):E4q p
inductive E5q.{u0,u1,u2,u3,u4}{T0:Sort u0}{T1:Sort u1}{T2:Sort u2}{T3:Sort u3}{T4:Sort u4}(p:T0->T1->T2->T3->T4->Prop):Prop
 |mk (x0:T0) (x1:T1) (x2:T2) (x3:T3) (x4:T4) (h:p x0 x1 x2 x3 x4):E5q p
inductive E6q.{u0,u1,u2,u3,u4,u5}{T0:Sort u0}{T1:Sort u1}{T2:Sort u2}{T3:Sort u3}{T4:Sort u4}{T5:Sort u5}(p:T0->T1->T2->T3->T4->T5->Prop):Prop
 |mk (x0:T0) (x1:T1) (x2:T2) (x3:T3) (x4:T4) (x5:T5) (h:p x0 x1 x2 x3 x4 x5):E6q p
inductive E7q.{u0,u1,u2,u3,u4,u5,u6}{T0:Sort u0}{T1:Sort u1}{T2:Sort u2}{T3:Sort u3}{T4:Sort u4}{T5:Sort u5}{T6:Sort u6}(p:T0->T1->T2->T3->T4->T5->T6->Prop):Prop
 |mk (x0:T0) (x1:T1) (x2:T2) (x3:T3) (x4:T4) (x5:T5) (x6:T6) (h:p x0 x1 x2 x3 x4 x5 x6):E7q p
inductive A3q(a b c:Prop):Prop
 |mk:a->b->c->A3q a b c
inductive A4q(a b c d:Prop):Prop
 |mk:a->b->c->d->A4q a b c d
inductive A5q(a b c d e:Prop):Prop
 |mk:a->b->c->d->e->A5q a b c d e
inductive A6q(a b c d e f:Prop):Prop
 |mk:a->b->c->d->e->f->A6q a b c d e f
inductive A7q(a b c d e f g:Prop):Prop
 |mk:a->b->c->d->e->f->g->A7q a b c d e f g
inductive A8q(a b c d e f g h:Prop):Prop
 |mk:a->b->c->d->e->f->g->h->A8q a b c d e f g h
inductive A9q(a b c d e f g h i:Prop):Prop
 |mk:a->b->c->d->e->f->g->h->i->A9q a b c d e f g h i
variable {C a b dx:zht}{A:zil}{op:zjz}{c e tg:Expr}{fd:zik}{base h h':zic}{pins:List (zht×Obj)}{kw:List (Str×zhs)}{ch fp:List zht}{es:List Expr}{ps:List Str}{us:List zhs}{M:zmk}{i n t':Nat}{o:Obj}{p pos:Pos}{P:zih}{s:zhx}{m x:Str}{mA mg:Str->Option zhs}{E Q:zhs->zhx->Prop}{K:W.Frag}
abbrev Key:=Sum Int Str
def keyIs:Key->zhs->Bool
 | .inl k,v=>zhs.isInt k v
 | .inr x,v=>zhs.isStrOf x v
def keyH(w:zhy):Key->Int
 | .inl k=>hashInt k
 | .inr x=>hashStr w x
theorem qbz9:∀{k:Key}{v:zhs},keyIs k v=true->(∃i t,k=Sum.inl i/\v=zhs.int i t)\/(∃x t,k=Sum.inr x/\v=zhs.str x t)
 | .inl i,v,h=>by
  obtain⟨t,e⟩:=zhs.isInt_shape (k:=i) (v:=v) h
  exact .inl ⟨i,t,rfl,e⟩
 | .inr x,v,h=>by
  obtain⟨t,e⟩:=zhs.isStrOf_shape (x:=x) (v:=v) h
  exact .inr ⟨x,t,rfl,e⟩
theorem keyIs_int(i:Int)(t:Tok):keyIs (.inl i) (.int i t)=true:=by simp[keyIs,zhs.isInt]
theorem keyIs_str(x:Str)(t:Tok):keyIs (.inr x) (.str x t)=true:=by simp[keyIs,zhs.isStrOf]
theorem key_ll(a b:Int):decide ((Sum.inl a:Key)=Sum.inl b)=(a==b):=by
 by_cases e:a=b
 ·subst e;simp
 ·have h:¬(Sum.inl a:Key)=Sum.inl b:=λ q=>e (Sum.inl.inj q)
  rw[decide_eq_false h]
  exact(beq_eq_false_iff_ne.mpr e).symm
theorem key_rr(a b:Str):decide ((Sum.inr a:Key)=Sum.inr b)=decide (a=b):=by
 by_cases e:a=b
 ·subst e;simp
 ·have h:¬(Sum.inr a:Key)=Sum.inr b:=λ q=>e (Sum.inr.inj q)
  rw[decide_eq_false h,decide_eq_false e]
theorem key_lr(a:Int)(b:Str):decide ((Sum.inl a:Key)=Sum.inr b)=false:=decide_eq_false (λ q=>nomatch q)
theorem key_rl(a:Str)(b:Int):decide ((Sum.inr a:Key)=Sum.inl b)=false:=decide_eq_false (λ q=>nomatch q)
def qih9(prog:zih)(w:zhy):PySem.KeyKind prog w Key where
 is:=keyIs
 hash:=keyH w
 inj:=λ v a b ha hb=>by
  rcases qbz9 ha with⟨i,t,rfl,rfl⟩|⟨x,t,rfl,rfl⟩
  ·rcases qbz9 hb with⟨j,u,rfl,e⟩|⟨y,u,rfl,e⟩
   ·injection e with e1 _;rw[e1]
   ·exact nomatch e
  ·rcases qbz9 hb with⟨j,u,rfl,e⟩|⟨y,u,rfl,e⟩
   ·exact nomatch e
   ·injection e with e1 _;rw[e1]
 byValue:=λ k v h=>by
  rcases qbz9 h with⟨i,t,rfl,rfl⟩|⟨x,t,rfl,rfl⟩<;>rfl
 pyHash:=λ hv h=>by
  rcases qbz9 hv with⟨i,t,rfl,rfl⟩|⟨x,t,rfl,rfl⟩
  ·exact wpAny_pyHash_int h
  ·exact wpAny_pyHash_str h
 eqBool:=λ hu hv h=>by
  rcases qbz9 hu with⟨i,t,rfl,rfl⟩|⟨x,t,rfl,rfl⟩
  ·rcases qbz9 hv with⟨j,u,rfl,rfl⟩|⟨y,u,rfl,rfl⟩
   ·rw[key_ll] at h;exact wpAny_eqBool_int h
   ·rw[key_lr] at h;exact SeqAt.EqAt.int_str i t y u _ _ _ _ h
  ·rcases qbz9 hv with⟨j,u,rfl,rfl⟩|⟨y,u,rfl,rfl⟩
   ·rw[key_rl] at h;exact SeqAt.EqAt.str_int x t j u _ _ _ _ h
   ·rw[key_rr] at h;exact wpAny_eqBool_str h
 «strs»:=λ k x t v h=>by
  rcases qbz9 h with⟨i,u,rfl,e⟩|⟨y,u,rfl,e⟩
  ·exact nomatch e
  ·injection e with e1 _
   subst e1
   cases v<;>rfl
theorem qpf9(prog:zih)(w:zhy)(i:Int)(t:Tok):(qih9 prog w).is (.inl i) (.int i t)=true:=keyIs_int i t
theorem qhf9(prog:zih)(w:zhy)(x:Str)(t:Tok):(qih9 prog w).is (.inr x) (.str x t)=true:=keyIs_str x t
inductive V where
 |non|bl (b:Bool)|int (i:Int)|str (x:Str)|byt (b:Array UInt8)|flt (b:UInt64)|ref (a:zht)|ty (n:String)
 deriving DecidableEq
variable {vs:List V}{v:V}
abbrev sI9(x:Int):Option V:=zhq (.int x)
abbrev sR9(x:zht):Option V:=zhq (.ref x)
abbrev sS9(x:Str):Option V:=zhq (.str x)
def RelV:V->zhs->Prop
 | .non,u=>u=zhs.none
 | .bl b,u=>u=zhs.bool b
 | .int i,u=>∃t,u=zhs.int i t
 | .str x,u=>∃t,u=zhs.str x t
 | .byt b,u=>∃t,u=zhs.bytes b t
 | .flt b,u=>∃t,u=zhs.float b t
 | .ref a,u=>u=zhs.ref a
 | .ty n,u=>u=zhs.type n
abbrev Vals:List V->List zhs->Prop:=Paired RelV
theorem Vals.length{xs:List V}{us:List zhs}(r:Vals xs us):xs.length=us.length:=Paired.length r
theorem Vals.get:∀{xs:List V}{us:List zhs}{i:Nat}{x:V},Vals xs us->xs[i]?=zhq x->∃u,us[i]?=zhq u/\RelV x u
 |_,_,_,_,.nil,e=>by simp at e
 |_,_,0,_,.cons r _,e=>by simp at e;subst e;exact⟨_,rfl,r⟩
 |_,_,i+1,x,.cons _ t,e=>by
  obtain⟨u,h1,h2⟩:=Vals.get (i:=i) (x:=x) t (by simpa using e)
  exact⟨u,by simpa using h1,h2⟩
theorem Vals.set{x:V}{u:zhs}(r:RelV x u):∀{xs:List V}{us:List zhs}(i:Nat),Vals xs us->Vals (xs.set i x) (us.set i u)
 |_,_,_,.nil=>.nil
 |_,_,0,.cons _ t=>.cons r t
 |_,_,i+1,.cons q t=>.cons q (Vals.set r i t)
theorem Vals.append:∀{xs ys:List V}{us ws:List zhs},Vals xs us->Vals ys ws->Vals (xs++ys) (us++ws)
 |_,_,_,_,.nil,s=>s
 |_,_,_,_,.cons r t,s=>.cons r (Vals.append t s)
theorem Vals.take:∀{xs:List V}{us:List zhs}(n:Nat),Vals xs us->Vals (xs.take n) (us.take n)
 |_,_,0,_=>.nil
 |_,_,_+1,.nil=>.nil
 |_,_,n+1,.cons r t=>.cons r (Vals.take n t)
theorem Vals.drop:∀{xs:List V}{us:List zhs}(n:Nat),Vals xs us->Vals (xs.drop n) (us.drop n)
 |_,_,0,r=>r
 |_,_,_+1,.nil=>.nil
 |_,_,n+1,.cons _ t=>Vals.drop n t
theorem Vals.none_of:∀{xs:List V}{us:List zhs}{i:Nat},Vals xs us->xs[i]?=zhr->us[i]?=zhr:=λ {xs us i} r e=>by
 have h1:=r.length
 have h2:xs.length<=i:=zel.mp e
 exact zel.mpr ⋯
def RelO:Option V->Option zhs->Prop
 |some v,zhq u=>RelV v u
 |none,zhr=>True
 |_,_=>False
def KV{κ:Type}:List (κ×V)->List (κ×zhs)->Prop:=Paired λ(p:κ×V) (q:κ×zhs)=>p.1=q.1/\RelV p.2 q.2
def kV:Key->V
 | .inl i=>.int i
 | .inr x=>.str x
inductive HO where
  |lst (xs:List V)
  |tup (xs:List V)
  |dK (kvs:List (Key×V))|dT (kvs:List (List Key×V))
  |set (S:Int->Bool) (n:Nat)
  |ins (C dx:zht) (fs:List (Str×V))
  |own (x:zht)
  |xd (fs:List (Str×V))
  |met (f x:zht)
  |rng (lo hi:Int)
  |frz (o:Obj) (u:HO)
  |tbl (ps:Array zhs)
  |ext (φ:zic->Prop)
abbrev Hp:=zht->Option HO
variable {H H':Hp}
def upd(H:Hp)(a:zht)(o:HO):Hp:=λ b=>if b=a then zhq o else H b
theorem qaj9{o:HO}:upd H a o a=zhq o:=by unfold upd;rw[if_pos rfl]
theorem qao9{o:HO}(h:b≠a):upd H a o b=H b:=by unfold upd;rw[if_neg h]
theorem qbe9{o:HO}(h:H a=zhq o)(h':H b=zhr):a≠b:=by
 intro e;subst e;rw[h] at h';cases h'
section
variable (P:zih)(w:zhy)
def ObjOk(H:Hp)(h:zic)(a:zht):HO->Prop
 | .lst xs=>xs.length<=zhu/\∃(its:List zhs)(n:Nat),Vals xs its/\h.get? a=zhq { cls:=.type "list",data:=.seq its.toArray n }
 | .tup xs=>xs.length<=zhu/\∃its:List zhs,Vals xs its/\zml h a its.toArray
 | .dK kvs=>kvs.length<=zhu/\(a==zkm)=false/\∃vs,KV kvs vs/\h.DictOf (qih9 P w) a vs
 | .dT kvs=>kvs.length<=zhu/\(a==zkm)=false/\∃xs:List (List Key×zht×zhs),
   Paired (λ(p:List Key×V) (q:List Key×zht×zhs)=>p.1=q.1/\H q.2.1=zhq (.tup (p.1.map kV))/\RelV p.2 q.2.2) kvs xs /\
   ∃o es ep,h.get? a=zhq o/\o.ExactDict/\o.data=.dict es ep/\es.toList=xs.map (entryOfKey (tupleKind (qih9 P w)))/\(xs.map (·.1)).Nodup
 | .set S n=>h.SetOf (intKind P w) a S n
 | .ins C dx fs=>H dx=zhq (.own a)/\fs.length<=1000/\dx≠a/\h.get? a=zhq (W.instObj C dx) /\
   ∃mA,h.Ns1 dx mA/\(∀f,RelO (fs.lookup f) (mA f))/\PySem.Within mA (fs.map (·.1))
 | .own _=>∃o,h.get? a=zhq o
 | .xd fs=>∃mA,h.Ns1 a mA/\∀f,RelO (fs.lookup f) (mA f)
 | .rng lo hi=>∃t u v,h.get? a=zhq { cls:=.type "range",data:=.fields #[.int lo t,.int hi u,.int 1 v] }
 | .frz o u=>h.get? a=zhq o/\ObjOk H h a u
 | .tbl ps=>h.get? a=zhq { cls:=.none,data:=.fields ps }
 | .met f x=>h.get? a=zhq (W.methodObj (.ref f) (.ref x))
 | .ext φ=>φ h/\(∃o,h.get? a=zhq o)/\∀h1 h2:zic,φ h1->(∀o,h1.get? a=zhq o->h2.get? a=zhq o)->φ h2
def HOk(H:Hp)(h:zic):Prop:=∀a o,H a=zhq o->ObjOk P w H h a o
end
section
variable {w:zhy}{o:HO}
theorem ObjOk.lt(x:ObjOk P w H h a o):a<h.objs.size:=by
 cases o with
 |lst xs=>obtain⟨_,_,_,_,e⟩:=x;exact zax e
 |tup xs=>obtain⟨_,_,_,p⟩:=x;exact p.lt
 |dK kvs=>obtain⟨_,_,_,_,o,_,_,e,_⟩:=x;exact zax e
 |dT kvs=>obtain⟨_,_,_,_,o,_,_,e,_⟩:=x;exact zax e
 |set S n=>obtain⟨o,_,_,_,e,_⟩:=x;exact zax e
 |ins C dx fs=>obtain⟨_,_,_,e,_⟩:=x;exact zax e
 |own y=>obtain⟨_,e⟩:=x;exact zax e
 |xd fs=>obtain⟨_,⟨_,_,_,e,_⟩,_⟩:=x;exact zax e
 |rng lo hi=>obtain⟨_,_,_,e⟩:=x;exact zax e
 |frz ob u=>obtain⟨e,_⟩:=x;exact zax e
 |tbl ps=>exact zax (show h.get? a=zhq _ from x)
 |met f y=>exact zax (show h.get? a=zhq _ from x)
 |ext φ=>obtain⟨_,⟨_,e⟩,_⟩:=x;exact zax e
theorem Paired.mapP{α β:Type}{F G:α->β->Prop}:∀{l₁:List α}{l₂:List β},Paired F l₁ l₂->(∀a b,F a b->G a b)->Paired G l₁ l₂
 |_,_,.nil,_=>.nil
 |_,_,.cons r t,f=>.cons (f _ _ r) (Paired.mapP t f)
theorem ObjOk.stay(x:ObjOk P w H h a o)(k:∀b u,(b=a\/H b=zhq (.own a))->h.get? b=zhq u->h'.get? b=zhq u)
  (ho:∀b,H b=zhq (.own a)->H' b=zhq (.own a)) (ht:∀b xs,H b=zhq (.tup xs)->H' b=zhq (.tup xs)):ObjOk P w H' h' a o:=by
 induction o with
 |lst xs=>obtain⟨z,its,n,r,e⟩:=x;exact⟨z,its,n,r,k _ _ (.inl rfl) e⟩
 |tup xs=>obtain⟨z,its,r,ob,e,c⟩:=x;exact⟨z,its,r,ob,k _ _ (.inl rfl) e,c⟩
 |dK kvs=>obtain⟨z,y,vs,r,ob,es,ep,e,c⟩:=x;exact⟨z,y,vs,r,ob,es,ep,k _ _ (.inl rfl) e,c⟩
 |dT kvs =>
  obtain⟨z,y,xs,r,ob,es,ep,e,c⟩:=x
  exact⟨z,y,xs,Paired.mapP r λ p q z=>⟨z.1,ht _ _ z.2.1,z.2.2⟩,ob,es,ep,k _ _ (.inl rfl) e,c⟩
 |set S n=>obtain⟨ob,es,ep,t,e,c⟩:=x;exact⟨ob,es,ep,t,k _ _ (.inl rfl) e,c⟩
 |ins C dx fs =>
  obtain⟨d,z,ne,e,mA,⟨od,es,ep,e2,c⟩,r⟩:=x
  exact⟨ho _ d,z,ne,k _ _ (.inl rfl) e,mA,⟨od,es,ep,k _ _ (.inr d) e2,c⟩,r⟩
 |own y=>obtain⟨ob,e⟩:=x;exact⟨ob,k _ _ (.inl rfl) e⟩
 |xd fs=>obtain⟨mA,⟨od,es,ep,e,c⟩,r⟩:=x;exact⟨mA,⟨od,es,ep,k _ _ (.inl rfl) e,c⟩,r⟩
 |rng lo hi=>obtain⟨t,u,v,e⟩:=x;exact⟨t,u,v,k _ _ (.inl rfl) e⟩
 |frz ob u ih=>obtain⟨e,q⟩:=x;exact⟨k _ _ (.inl rfl) e,ih q⟩
 |tbl ps =>
  have e:h.get? a=zhq { cls:=.none,data:=.fields ps }:=x
  show h'.get? a=zhq { cls:=.none,data:=.fields ps }
  exact k a _ (.inl rfl) e
 |met f y =>
  have e:h.get? a=zhq (W.methodObj (.ref f) (.ref y)):=x
  show h'.get? a=zhq (W.methodObj (.ref f) (.ref y))
  exact k a _ (.inl rfl) e
 |ext φ=>obtain⟨p,⟨o,e⟩,st⟩:=x;exact⟨st _ _ p λ o q=>k _ _ (.inl rfl) q,⟨o,k _ _ (.inl rfl) e⟩,st⟩
theorem HOk.lt(x:HOk P w H h)(e:H a=zhq o):a<h.objs.size:=(x a o e).lt
theorem HOk.fresh(x:HOk P w H h)(e:h.objs.size<=a):H a=zhr:=by
 cases q:H a with
 |none=>rfl
 |some u=>exact absurd (zba (x.lt q) e) (zco _)
theorem HOk.kept(x:HOk P w H h)(k:∀b u,h.get? b=zhq u->h'.get? b=zhq u):HOk P w H h':=λ a o e =>
 (x a o e).stay (λ b u _ q=>k b u q) (λ _ q=>q) λ _ _ q=>q
theorem HOk.laid(x:HOk P w H h)(k:∀b u,h.get? b=zhq u->h'.get? b=zhq u)(hp:h.objs.size<=a)(new:ObjOk P w (upd H a o) h' a o):HOk P w (upd H a o) h':=λ b u e=>by
 have hn:=x.fresh hp
 by_cases hb:b=a
 ·subst hb;rw[qaj9] at e;cases e;exact new
 ·rw[qao9 hb] at e
  exact(x b u e).stay (λ c v _ q=>k c v q) (λ c q=>by rw[qao9 (qbe9 q hn)];exact q) λ c xs q=>by rw[qao9 (qbe9 q hn)];exact q
end
def Rd(H:Hp)(a:zht)(u:HO):Prop:=H a=zhq u\/∃o,H a=zhq (.frz o u)
theorem Rd.of{u:HO}(h:H a=zhq u):Rd H a u:=.inl h
theorem Rd.ok{w:zhy}{u:HO}(r:Rd H a u)(x:HOk P w H h):ObjOk P w H h a u:=by
 rcases r with r|⟨o,r⟩
 ·exact x a u r
 ·obtain⟨_,q⟩:=x a _ r
  exact q
def Mut:Option HO->Prop
 |some (.lst _)=>True
 |some (.dK _)=>True
 |some (.dT _)=>True
 |some (.set _ _)=>True
 |some (.ins _ _ _)=>True
 |some (.ext _)=>True
 |_=>False
section
variable {w:zhy}{x e:zht}{o':HO}
theorem HOk.write(ok:HOk P w H h)(mu:Mut (H x))(he:e=x\/H e=zhq (.own x))(k:∀b u,b≠e->h.get? b=zhq u->h'.get? b=zhq u)(heo:∃u,h'.get? e=zhq u)
  (new:ObjOk P w (upd H x o') h' x o'):HOk P w (upd H x o') h':=λ b u q=>by
 have nown:∀c y,H c=zhq (.own y)->c≠x:=λ c y r z=>by subst z;rw[r] at mu;exact mu
 have ntup:∀c xs,H c=zhq (.tup xs)->c≠x:=λ c xs r z=>by subst z;rw[r] at mu;exact mu
 by_cases hb:b=x
 ·subst hb;rw[qaj9] at q;cases q;exact new
 ·rw[qao9 hb] at q
  by_cases hbe:b=e
  ·have q':H b=zhq (.own x):=by
    rcases he with z|z
    ·exact absurd (hbe.trans z) hb
    ·rw[hbe];exact z
   rw[q] at q';cases q'
   obtain⟨v,hv⟩:=heo
   exact⟨v,by rw[hbe];exact hv⟩
  ·refine(ok b u q).stay (λ c v hc r=>k c v ?_ r) (λ c r=>by rw[qao9 (nown c b r)];exact r) λ c xs r=>by rw[qao9 (ntup c xs r)];exact r
   rcases hc with rfl|hc
   ·exact hbe
   ·rintro rfl
    rcases he with z|z
    ·exact nown c b hc z
    ·rw[hc] at z;cases z;exact hb rfl
end
structure Un(fs ex:List zht)(H H':Hp)(h h':zic):Prop where
 keep:∀b o,h.get? b=zhq o->H b=zhr->b∉fs->b∉ex->h'.get? b=zhq o
 slot:∀b o,h.get? b=zhq o->H b=zhr->b∈fs->b∉ex->∃sl,h'.get? b=zhq { o with slots:=sl }
 free:∀b o,h.get? b=zhq o->H b=zhr->b∉ex->H' b=zhr
 there:∀b o,h.get? b=zhq o->b∉ex->∃o',h'.get? b=zhq o'
 tups:∀b xs,H b=zhq (.tup xs)->H' b=zhq (.tup xs)
 frzs:∀b o u,H b=zhq (.frz o u)->H' b=zhq (.frz o u)
 tbls:∀b ps,H b=zhq (.tbl ps)->∃more,H' b=zhq (.tbl (ps++more))
section
variable {fs fs' ex ex':List zht}{H1 H2:Hp}{h1 h2:zic}{x e:zht}{o:HO}
theorem Un.any(u:Un fs ex H H1 h h1){ob:Obj}(q:h.get? b=zhq ob)(n:H b=zhr)(hx:b∉ex):∃sl,h1.get? b=zhq { ob with slots:=sl }:=by
 by_cases hb:b∈fs
 ·exact u.slot b ob q n hb hx
 ·exact⟨ob.slots,u.keep b ob q n hb hx⟩
theorem Un.trans(a:Un fs ex H H1 h h1)(b:Un fs ex H1 H2 h1 h2):Un fs ex H H2 h h2 where
 keep:=λ c ob q n hc hx=>b.keep c ob (a.keep c ob q n hc hx) (a.free c ob q n hx) hc hx
 slot:=λ c ob q n hc hx=>by
  obtain⟨sl,e1⟩:=a.slot c ob q n hc hx
  obtain⟨sl',e2⟩:=b.slot c _ e1 (a.free c ob q n hx) hc hx
  exact⟨sl',e2⟩
 free:=λ c ob q n hx=>by
  obtain⟨o',e1⟩:=a.there c ob q hx
  exact b.free c o' e1 (a.free c ob q n hx) hx
 there:=λ c ob q hx=>by
  obtain⟨o',e1⟩:=a.there c ob q hx
  exact b.there c o' e1 hx
 tups:=λ c xs q=>b.tups c xs (a.tups c xs q)
 frzs:=λ c ob xs q=>b.frzs c ob xs (a.frzs c ob xs q)
 tbls:=λ c ps q=>by
  obtain⟨m1,e1⟩:=a.tbls c ps q
  obtain⟨m2,e2⟩:=b.tbls c _ e1
  exact⟨m1++m2,by rw[e2,zgb]⟩
theorem Un.kept(k:∀b u,h.get? b=zhq u->h'.get? b=zhq u):Un fs ex H H h h' :=
 ⟨λ b ob q _ _ _=>k b ob q,λ b ob q _ _ _=>⟨ob.slots,k b ob q⟩,λ _ _ _ n _=>n,λ b ob q _=>⟨ob,k b ob q⟩,λ _ _ q=>q,λ _ _ _ q=>q,λ _ ps q=>⟨#[],by rw[q];simp⟩⟩
theorem Un.refl:Un fs ex H H h h:=Un.kept λ _ _ q=>q
theorem Un.laid(k:∀b u,h.get? b=zhq u->h'.get? b=zhq u)(hp:h.objs.size<=a)(hn:H a=zhr):Un fs ex H (upd H a o) h h' where
 keep:=λ b u q _ _ _=>k b u q
 slot:=λ b u q _ _ _=>⟨u.slots,k b u q⟩
 free:=λ b u q n _=>by rw[qao9 (zbo (zba (zax q) hp))];exact n
 there:=λ b u q _=>⟨u,k b u q⟩
 tups:=λ b xs q=>by rw[qao9 (qbe9 q hn)];exact q
 frzs:=λ b u xs q=>by rw[qao9 (qbe9 q hn)];exact q
 tbls:=λ b ps q=>⟨#[],by rw[qao9 (qbe9 q hn),q];simp⟩
theorem Un.write(mu:Mut (H x))(he:e=x\/H e=zhq (.own x))(k:∀b u,b≠e->h.get? b=zhq u->h'.get? b=zhq u)(heo:∃u,h'.get? e=zhq u):Un fs ex H (upd H x o) h h':=by
 have hx:∀b,H b=zhr->b≠x:=λ b n z=>by subst z;rw[n] at mu;exact mu
 have hb:∀b,H b=zhr->b≠e:=λ b n z=>by
  subst z
  rcases he with r|r
  ·exact hx b n r
  ·rw[n] at r;cases r
 have hm:∀b u,H b=zhq u->¬Mut (zhq u)->b≠x:=λ b u q nm z=>by subst z;rw[q] at mu;exact nm mu
 refine⟨λ b u q n _ _=>k b u (hb b n) q,λ b u q n _ _=>⟨u.slots,k b u (hb b n) q⟩,λ b u q n _=>by rw[qao9 (hx b n)];exact n,λ b u q _=>?_,
  λ b xs q=>by rw[qao9 (hm b _ q λ z=>z)];exact q,λ b u xs q=>by rw[qao9 (hm b _ q λ z=>z)];exact q,λ b ps q=>⟨#[],by rw[qao9 (hm b _ q λ z=>z),q];simp⟩⟩
 by_cases hbe:b=e
 ·subst hbe;exact heo
 ·exact⟨u,k b u hbe q⟩
theorem Un.mono(u:Un fs ex H H1 h h1)(hs:∀b∈fs,b∈fs')(hx:∀b∈ex,b∈ex'):Un fs' ex' H H1 h h1 :=
 ⟨λ b ob q n hb he=>u.keep b ob q n (λ z=>hb (hs b z)) λ z=>he (hx b z),λ _ _ q n _ he=>u.any q n λ z=>he (hx _ z),λ b ob q n he=>u.free b ob q n λ z=>he (hx b z),λ b ob q he=>u.there b ob q λ z=>he (hx b z),u.tups,u.frzs,u.tbls⟩
end
def trk(h:zic)(H:Hp):List zht:=(zde h.objs.size).filter λ a=>(H a).isSome
def hidT(h:zic)(H:Hp):zic:=W.hideAll h (trk h H)
theorem qnp9(h:zic)(H:Hp):(hidT h H).objs.size=h.objs.size:=W.hideAll_size _ _
theorem qtd9(e:h.get? b=zhq o)(n:H b=zhr):(hidT h H).get? b=zhq o :=
 W.hideAll_get _ e λ hm=>by
  have q:(H b).isSome=true:=(zdu.mp hm).2
  rw[n] at q;simp at q
theorem of_hidT(e:(hidT h H).get? b=zhq o):h.get? b=zhq o/\H b=zhr:=by
 have e':h.get? b=zhq o:=W.of_hideAll (trk h H) e
 refine⟨e',?_⟩
 cases q:H b with
 |none=>rfl
 |some x =>
  have hm:b∈trk h H:=zdu.mpr ⟨zcp.mpr (zax e'),by simp[q]⟩
  have z:(hidT h H).get? b=zhr:=W.hideAll_none (trk h H) hm
  rw[z] at e;cases e
def allNews(g h:zic)(L:zht):List (zht×Obj):=(zde h.objs.size).filterMap λ a=>if a=L\/(g.get? a).isSome=true then zhr else(h.get? a).map λ o=>(a,o)
def rest(g h:zic)(L d:zht):List (zht×Obj):=(allNews g h L).filter λ p=>decide (p.1≠d)
structure Mod(K:W.Frag)(mg:Str->Option zhs)(base:zic):Prop where
 kin:K.In base
 glob:base.Ns zie mg
 blt:∃mb,base.Ns zka mb/\∀x:Str,x≠"__name__" -> mb x=zij x
 nolimit:base.NoLimit
structure Cx where
 prog:zih
 w:zhy
 K:W.Frag
 mg:Str->Option zhs
 base:zic
 A:zil
 N:List Str
 s₀:zhx
 H₀:Hp
 env:Env
 outer:List Env
 stack:List Env
 ex:List zht
 fn:Str->Bool
 calm:Bool
 pn:List (zht×Obj)
 xe:zhs->zhx->Prop
variable {X:Cx}
def frs(l:List Env):List zht:=l.filterMap (·.frame)
abbrev Cx.fs(X:Cx):List zht:=frs X.outer
def Vis(sc:zjc)(x:Str):Prop:=sc.names.lookup x=zhq .local\/sc.names.lookup x=zhq .cell\/sc.names.lookup x=zhq .free
def Loc(sc:zjc)(x:Str):Prop:=sc.names.lookup x=zhq .local\/sc.names.lookup x=zhq .cell
def Look(env:Env)(h:zic)(m:Str->Option zhs)(x:Str)(u:zhs):Prop :=
 (env.kindOf x=zhq .local/\m x=zhq u)\/((env.kindOf x=zhq .cell\/env.kindOf x=zhq .free)/\∃c,env.cells.lookup x=zhq c/\h.IsCell c (zhq u))
structure Cx.Ok(X:Cx):Prop where
 mod:Mod X.K X.mg X.base
 kind:X.env.scope.kind=.function
 glob:X.env.globals=zie
 blt:X.env.builtins=zka
 above:X.s₀.heap.objs.size<=X.env.locals
 inj:∀x y c,X.env.cells.lookup x=zhq c->X.env.cells.lookup y=zhq c->x=y
 has:∀x,(X.env.kindOf x=zhq .cell\/X.env.kindOf x=zhq .free)->∃c,X.env.cells.lookup x=zhq c
 cab:∀x c,X.fn x=true->X.env.cells.lookup x=zhq c->X.s₀.heap.objs.size<=c
 hd:X.calm=true->X.A.handled=zhr
 frames:X.A.frames=zhq X.stack
 stk:X.stack=X.outer\/(X.stack=X.env::X.outer/\X.env.frame=zhq X.env.locals)
 exf:∀b∈X.ex,b≠X.env.locals/\∀x c,X.env.cells.lookup x=zhq c->c≠b
 bs:∀b o,X.base.get? b=zhq o->X.s₀.heap.get? b=zhq o/\X.H₀ b=zhr
 bsz:X.base.objs.size<=X.s₀.heap.objs.size
 noex:∀b o,X.base.get? b=zhq o->b∉X.ex
 exfs:∀b∈X.ex,b∉X.fs
 funs:X.s₀.heap.FunFrames X.base X.outer
 frf:∀b∈X.fs,X.H₀ b=zhr
structure Inv(X:Cx)(pins:List (zht×Obj))(σ:List (Option V))(H:Hp)(s:zhx):Prop where
 ok:X.Ok
 os:s.os=X.s₀.os
 bare:zjl s.gens
 base:Un X.fs X.ex X.H₀ H X.s₀.heap s.heap
 loc:∃m,s.heap.Ns X.env.locals m/\∀(i:Nat)(x:Str)(v:V),X.N[i]?=zhq x->σ[i]?=zhq (zhq v)->Vis X.env.scope x->∃u,RelV v u/\Look X.env s.heap m x u
 cell:∀x c,X.env.cells.lookup x=zhq c->∃v,s.heap.IsCell c v
 free:H X.env.locals=zhr
 freeC:∀x c,X.env.cells.lookup x=zhq c->H c=zhr
 pin:∀p∈X.pn++pins,s.heap.get? p.1=zhq p.2/\H p.1=zhr/\p.1≠X.env.locals/\p.1∉X.fs/\∀v,p.2.data ≠ .cell v
 hok:HOk X.prog X.w H s.heap
 len:σ.length=X.N.length
section
variable {σ:List (Option V)}
theorem Cx.Ok.nofr(ok:X.Ok)(e:X.base.get? b=zhq o):b∉X.fs:=λ hb=>by
 have:=(ok.funs.mem hb).1
 rw[e] at this;cases this
theorem Inv.bs(I:Inv X pins σ H s):∀b o,X.base.get? b=zhq o->s.heap.get? b=zhq o/\H b=zhr:=λ b o e =>
 ⟨I.base.keep b o (I.ok.bs b o e).1 (I.ok.bs b o e).2 (I.ok.nofr e) (I.ok.noex b o e),I.base.free b o (I.ok.bs b o e).1 (I.ok.bs b o e).2 (I.ok.noex b o e)⟩
theorem Inv.bk(I:Inv X pins σ H s):∀b o,X.base.get? b=zhq o->s.heap.get? b=zhq o:=λ b o e=>(I.bs b o e).1
theorem Inv.mod(I:Inv X pins σ H s):Mod X.K X.mg X.base:=I.ok.mod
theorem Inv.kIn(I:Inv X pins σ H s):X.K.In s.heap:=I.ok.mod.kin.keeps I.bk
theorem Inv.nolimit(I:Inv X pins σ H s):s.heap.NoLimit:=I.ok.mod.nolimit.keeps I.bk
theorem Inv.fr(I:Inv X pins σ H s):∃m,Fr X.base X.env.locals s.heap m :=
 let ⟨m,hn,_⟩:=I.loc
 ⟨m,hn,I.bk,zbj I.ok.bsz I.ok.above⟩
theorem Inv.lt(I:Inv X pins σ H s):X.env.locals<s.heap.objs.size:=let ⟨_,hn,_⟩:=I.loc;hn.lt
theorem Inv.sz(I:Inv X pins σ H s):X.s₀.heap.objs.size<=s.heap.objs.size:=zbj I.ok.above (zfh I.lt)
theorem Inv.nofs(I:Inv X pins σ H s)(h:s.heap.objs.size<=a):a∉X.fs:=λ hb=>by
 obtain⟨_,o,ho,_⟩:=I.ok.funs.mem hb
 exact absurd (zba (zax ho) (zbj I.sz h)) (zco _)
theorem Inv.cne(I:Inv X pins σ H s):∀x c,X.env.cells.lookup x=zhq c->c≠X.env.locals:=λ x c e z=>by
 obtain⟨v,o,ho,hd⟩:=I.cell x c e
 obtain⟨m,⟨o',es,ep,ho',hd',_⟩,_⟩:=I.loc
 rw[z,ho'] at ho;cases ho;rw[hd'] at hd;cases hd
theorem Inv.funs(I:Inv X pins σ H s):s.heap.FunFrames X.base X.outer:=by
 have all:∀(l:List Env),(∀b∈frs l,b∈X.fs)->X.s₀.heap.FunFrames X.base l->s.heap.FunFrames X.base l:=by
  intro l
  induction l with
  |nil=>intro _ _;trivial
  |cons env r ih =>
   intro hs hl
   obtain⟨hk,⟨L,o,hf,hn,ho,hd⟩,hr⟩:=hl
   have hL:L∈X.fs:=hs L (by unfold frs;rw[zda,hf];exact zan)
   obtain⟨sl,e⟩:=I.base.slot L o ho (I.ok.frf L hL) hL λ z=>I.ok.exfs L z hL
   exact⟨hk,⟨L,_,hf,hn,e,hd⟩,ih (λ b hb=>hs b (by unfold frs;rw[zda,hf];exact zal _ hb)) hr⟩
 exact all X.outer (λ _ hb=>hb) I.ok.funs
theorem Inv.stack(I:Inv X pins σ H s):s.heap.FunFrames X.base X.stack:=by
 rcases I.ok.stk with e|⟨e,hf⟩
 ·rw[e];exact I.funs
 ·rw[e]
  obtain⟨m,hn,_⟩:=I.loc
  refine .cons (by rw[I.ok.kind];decide) hf hn ?_ I.funs
  exact zic.get?_none_of_le (zbj I.ok.bsz I.ok.above)
theorem Inv.stkSub(I:Inv X pins σ H s):∀b∈frs X.stack,b∈X.env.locals::X.fs:=λ b hb=>by
 rcases I.ok.stk with e|⟨e,hf⟩
 ·rw[e] at hb;exact zal _ hb
 ·rw[e] at hb
  unfold frs at hb
  rw[zda,hf] at hb
  exact hb
theorem Inv.stkFree(I:Inv X pins σ H s):∀b∈frs X.stack,H b=zhr:=λ b hb=>by
 rcases zag.mp (I.stkSub b hb) with e|hb
 ·rw[e];exact I.free
 ·obtain⟨_,o,ho,_⟩:=I.ok.funs.mem hb
  exact I.base.free b o ho (I.ok.frf b hb) λ z=>I.ok.exfs b z hb
theorem Inv.step{g':Array zno}{t':Nat}{d':Drawn}(I:Inv X pins σ H s)
  (hch:∀b∈ch,(b∈X.ex\/X.s₀.heap.objs.size<=b)/\b≠X.env.locals/\(∀x c,X.env.cells.lookup x=zhq c->c≠b)/\∀p∈X.pn++pins,p.1≠b)
  (keep:∀b o,b≠X.env.locals->b∉X.fs->b∉ch->s.heap.get? b=zhq o->H b=zhr->h'.get? b=zhq o)
  (slot:∀b o,b≠X.env.locals->b∈X.fs->b∉ch->s.heap.get? b=zhq o->H b=zhr->∃sl,h'.get? b=zhq { o with slots:=sl }) (free:∀b o,b∉ch->s.heap.get? b=zhq o->H b=zhr->H' b=zhr)
  (there:∀b o,b∉ch->s.heap.get? b=zhq o->∃o',h'.get? b=zhq o')
  (tups:∀b xs,H b=zhq (.tup xs)->H' b=zhq (.tup xs)) (frzs:∀b o u,H b=zhq (.frz o u)->H' b=zhq (.frz o u)) (tbls:∀b ps,H b=zhq (.tbl ps)->∃more,H' b=zhq (.tbl (ps++more)))
  (ns:∀m,s.heap.Ns X.env.locals m->h'.Ns X.env.locals m) (hok:HOk X.prog X.w H' h') (hg:zjl g') :
  Inv X pins σ H' { s with heap:=h',gens:=g',drawn:=d',toks:=t' }:=by
 have neL:∀b o,X.s₀.heap.get? b=zhq o->b≠X.env.locals:=λ b o e=>zbo (zba (zax e) I.ok.above)
 have neC:∀b o,X.s₀.heap.get? b=zhq o->b∉X.ex->b∉ch:=λ b o e hx hb=>by
  rcases(hch b hb).1 with z|z
  ·exact hx z
  ·exact absurd (zba (zax e) z) (zco _)
 have cellK:∀x c,X.env.cells.lookup x=zhq c->∀v,s.heap.IsCell c v->h'.IsCell c v:=λ x c e v ⟨o,ho,hd⟩=>by
  have nch:c∉ch:=λ z=>(hch c z).2.2.1 x c e rfl
  by_cases hc:c∈X.fs
  ·obtain⟨sl,q⟩:=slot c o (I.cne x c e) hc nch ho (I.freeC x c e)
   exact⟨_,q,hd⟩
  ·exact⟨o,keep c o (I.cne x c e) hc nch ho (I.freeC x c e),hd⟩
 refine⟨I.ok,I.os,hg,⟨λ b o e n hb hx=>?_,λ b o e n hb hx=>?_,λ b o e n hx=>?_,λ b o e hx=>?_,λ b xs e=>tups b xs (I.base.tups b xs e),λ b o xs e=>frzs b o xs (I.base.frzs b o xs e),λ b ps e=>?_⟩,?_,λ x c e=>?_,?_,λ x c e=>?_,λ p hp=>?_,hok,I.len⟩
 ·exact keep b o (neL b o e) hb (neC b o e hx) (I.base.keep b o e n hb hx) (I.base.free b o e n hx)
 ·obtain⟨sl,e1⟩:=I.base.slot b o e n hb hx
  obtain⟨sl',e2⟩:=slot b _ (neL b o e) hb (neC b o e hx) e1 (I.base.free b o e n hx)
  exact⟨sl',e2⟩
 ·obtain⟨o',e1⟩:=I.base.there b o e hx
  exact free b o' (neC b o e hx) e1 (I.base.free b o e n hx)
 ·obtain⟨o',e1⟩:=I.base.there b o e hx
  exact there b o' (neC b o e hx) e1
 ·obtain⟨m1,e1⟩:=I.base.tbls b ps e
  obtain⟨m2,e2⟩:=tbls b _ e1
  exact⟨m1++m2,by rw[e2,zgb]⟩
 ·obtain⟨m,hn,hl⟩:=I.loc
  refine⟨m,ns m hn,λ i x v e1 e2 e3=>?_⟩
  obtain⟨u,r,l⟩:=hl i x v e1 e2 e3
  refine⟨u,r,?_⟩
  rcases l with l|⟨k,c,e,z⟩
  ·exact .inl l
  ·exact .inr ⟨k,c,e,cellK x c e _ z⟩
 ·obtain⟨v,z⟩:=I.cell x c e
  exact⟨v,cellK x c e v z⟩
 ·obtain⟨m,⟨o,_,_,ho,_⟩,_⟩:=I.loc
  exact free _ o (λ z=>(hch _ z).2.1 rfl) ho I.free
 ·obtain⟨v,o,ho,hd⟩:=I.cell x c e
  exact free c o (λ z=>(hch c z).2.2.1 x c e rfl) ho (I.freeC x c e)
 ·obtain⟨e,n,ne,nf,d⟩:=I.pin p hp
  have nch:p.1∉ch:=λ z=>(hch p.1 z).2.2.2 p hp rfl
  exact⟨keep p.1 p.2 ne nf nch e n,free p.1 p.2 nch e n,ne,nf,d⟩
theorem Inv.un(I:Inv X pins σ H s)(u:Un X.fs [] H H' s.heap h')(hok:HOk X.prog X.w H' h'):Inv X pins σ H' { s with heap:=h',toks:=t' }:=by
 obtain⟨m,⟨o,es,ep,ho,r⟩,_⟩:=id I.loc
 obtain⟨sl,hL⟩:=u.any ho I.free (by simp)
 exact I.step (g':=s.gens) (d':=s.drawn) (ch:=[]) (λ _ z=>nomatch z) (λ b o _ hb _ e n=>u.keep b o e n hb (by simp)) (λ b o _ hb _ e n=>u.slot b o e n hb (by simp)) (λ b o _ e n=>u.free b o e n (by simp)) (λ b o _ e=>u.there b o e (by simp)) u.tups u.frzs u.tbls (λ m' hm=>by
  obtain⟨o',es',ep',ho',r'⟩:=hm
  rw[ho] at ho';cases ho'
  exact⟨_,es',ep',hL,r'⟩) hok I.bare
theorem Inv.call{g':Array zno}{d':Drawn}(I:Inv X pins σ H s)(u:Un (frs X.stack) ch H H' s.heap h')(hok:HOk X.prog X.w H' h')(hg:zjl g')
  (hch:∀b∈ch,(b∈X.ex\/X.s₀.heap.objs.size<=b)/\b≠X.env.locals/\(∀x c,X.env.cells.lookup x=zhq c->c≠b)/\∀p∈X.pn++pins,p.1≠b) :
  Inv X pins σ H' { s with heap:=h',gens:=g',drawn:=d',toks:=t' }:=by
 obtain⟨m,⟨o,es,ep,ho,r⟩,_⟩:=id I.loc
 obtain⟨sl,hL⟩:=u.any ho I.free λ z=>(hch _ z).2.1 rfl
 exact I.step (ch:=ch) hch (λ b o hL hb hc e n=>u.keep b o e n (λ z=>(zag.mp (I.stkSub b z)).elim hL hb) hc) (λ b o _ _ hc e n=>u.any e n hc) (λ b o hc e n=>u.free b o e n hc) (λ b o hc e=>u.there b o e hc) u.tups u.frzs u.tbls (λ m' hm=>by
  obtain⟨o',es',ep',ho',r'⟩:=hm
  rw[ho] at ho';cases ho'
  exact⟨_,es',ep',hL,r'⟩) hok hg
theorem Inv.turned{it:zht}(I:Inv X pins σ H s)(k:∀b o,b≠it->s.heap.get? b=zhq o->h'.get? b=zhq o)(hn:H it=zhr)(hL:it≠X.env.locals)
  (h1:it∈X.ex\/X.s₀.heap.objs.size<=it) (h2:∀x c,X.env.cells.lookup x=zhq c->c≠it) (h3:∀p∈X.pn++pins,p.1≠it):Inv X pins σ H { s with heap:=h',toks:=t' }:=by
 have nit:∀b u,H b=zhq u->b≠it:=λ b u e z=>by rw[z,hn] at e;cases e
 refine I.step (g':=s.gens) (d':=s.drawn) (ch:=[it]) (λ b hb=>?_) (λ b o _ _ hc e _=>k b o (λ z=>hc (by simp[z])) e) (λ b o _ _ hc e _=>⟨o.slots,k b o (λ z=>hc (by simp[z])) e⟩) (λ _ _ _ _ n=>n)
  (λ b o hc e=>⟨o,k b o (λ z=>hc (by simp[z])) e⟩) (λ _ _ e=>e) (λ _ _ _ e=>e) (λ b ps e=>⟨#[],by rw[e];simp⟩) (λ m hm=>?_) (λ b u e=>?_) I.bare
 ·have e:b=it:=by simpa using hb
  subst e
  exact⟨h1,hL,h2,h3⟩
 ·obtain⟨o,es,ep,ho,r⟩:=hm
  exact⟨o,es,ep,k _ o (Ne.symm hL) ho,r⟩
 ·refine(I.hok b u e).stay (λ c v hc q=>k c v ?_ q) (λ _ q=>q) λ _ _ q=>q
  rcases hc with z|z
  ·rw[z];exact nit b u e
  ·exact nit c _ z
theorem Inv.tok(I:Inv X pins σ H s)(t:Nat):Inv X pins σ H { s with toks:=t }:=I.un (h':=s.heap) (t':=t) Un.refl I.hok
theorem Inv.kept{t':Nat}(I:Inv X pins σ H s)(k:∀b u,s.heap.get? b=zhq u->h'.get? b=zhq u):Inv X pins σ H { s with heap:=h',toks:=t' }:=I.un (Un.kept k) (I.hok.kept k)
theorem Inv.laid{a:zht}{o:HO}{t':Nat}(I:Inv X pins σ H s)(k:∀b u,s.heap.get? b=zhq u->h'.get? b=zhq u)(hp:s.heap.objs.size<=a)(new:ObjOk X.prog X.w (upd H a o) h' a o) :
  Inv X pins σ (upd H a o) { s with heap:=h',toks:=t' }:=I.un (Un.laid k hp (I.hok.fresh hp)) (I.hok.laid k hp new)
theorem Inv.write{x e:zht}{o:HO}{t':Nat}(I:Inv X pins σ H s)(mu:Mut (H x))(he:e=x\/H e=zhq (.own x))(k:∀b u,b≠e->s.heap.get? b=zhq u->h'.get? b=zhq u)(heo:∃u,h'.get? e=zhq u)
  (new:ObjOk X.prog X.w (upd H x o) h' x o):Inv X pins σ (upd H x o) { s with heap:=h',toks:=t' }:=I.un (Un.write mu he k heo) (I.hok.write mu he k heo new)
theorem Inv.weak{σ':List (Option V)}(I:Inv X pins σ H s)(hl:σ'.length=σ.length)(w:∀(i:Nat) v,σ'[i]?=zhq (zhq v)->σ[i]?=zhq (zhq v)):Inv X pins σ' H s :=
 ⟨I.ok,I.os,I.bare,I.base,let ⟨m,hn,hl'⟩:=I.loc;⟨m,hn,λ i x v e1 e2 e3=>hl' i x v e1 (w i v e2) e3⟩,I.cell,I.free,I.freeC,I.pin,I.hok,hl.trans I.len⟩
theorem Inv.pins_of{pins':List (zht×Obj)}(I:Inv X pins σ H s)(h:∀p∈pins',s.heap.get? p.1=zhq p.2/\H p.1=zhr/\p.1≠X.env.locals/\p.1∉X.fs/\∀v,p.2.data ≠ .cell v):Inv X pins' σ H s :=
 ⟨I.ok,I.os,I.bare,I.base,I.loc,I.cell,I.free,I.freeC,λ p hp=>(zak.mp hp).elim (λ z=>I.pin p (zbi _ z)) (h p),I.hok,I.len⟩
theorem qni9{N:List Str}(hN:N.Nodup){j:Nat}(a:N[i]?=zhq x)(b:N[j]?=zhq x):i=j:=by
 obtain⟨h1,e1⟩:=zab.mp a
 obtain⟨h2,e2⟩:=zab.mp b
 exact(zfc hN).mp (e1.trans e2.symm)
theorem store_ok2{M:zmk}{A:zil}{E:zhs->zhx->Prop}{u:zhs}{Q:Unit->zhx->Prop}(I:Inv X pins σ H s)(hN:X.N.Nodup)(hi:X.N[i]?=zhq x)(hx:Loc X.env.scope x)(r:RelV v u)
  (h:∀s',Inv X pins (σ.set i (zhq v)) H s'->(∃a,zic.SameBut a s.heap s'.heap/\(a=X.env.locals\/X.env.cells.lookup x=zhq a))->Q () s') (hf:X.fn x=true\/X.env.scope.names.lookup x=zhq .local:=by first|exact .inl rfl|exact .inr rfl|assumption):zib M A (storeName X.env x u) Q E s:=by
 obtain⟨m,hn,hl⟩:=id I.loc
 have hcls:(X.env.scope.kind == .class||(X.env.scope.kind == .module&&X.env.locals != X.env.globals))=false:=by rw[I.ok.kind];rfl
 have hiσ:i<σ.length:=by rw[I.len];exact(zab.mp hi).1
 have cne:=I.cne
 have tracked:∀{a:zht}{h':zic},(∃o,s.heap.get? a=zhq o/\H a=zhr)->zic.SameBut a s.heap h'->HOk X.prog X.w H h':=λ {a h'} ha hs b ob e=>by
  obtain⟨_,_,hfree⟩:=ha
  refine(I.hok b ob e).stay (λ c w' hc q=>(hs.2 c ?_).trans q) (λ _ q=>q) λ _ _ q=>q
  rintro rfl
  rcases hc with rfl|hc
  ·rw[hfree] at e;cases e
  ·rw[hfree] at hc;cases hc
 rcases hx with hk|hk
 ·refine wpAny_storeName_local hk hn (λ h' hn' hs=>?_) hcls
  obtain⟨oL,_,_,hoL,_⟩:=id hn
  refine h _ ⟨I.ok,I.os,I.bare,⟨λ b o e n hb hx=>?_,λ b o e n hb hx=>?_,I.base.free,λ b o e hx=>?_,I.base.tups,I.base.frzs,I.base.tbls⟩,⟨_,hn',λ j y v' e1 e2 e3=>?_⟩,λ y c e=>?_,I.free,I.freeC,λ p hp=>?_,tracked ⟨oL,hoL,I.free⟩ hs,by simpa using I.len⟩ ⟨_,hs,.inl rfl⟩
  ·exact(hs.2 b (zbo (zba (zax e) I.ok.above))).trans (I.base.keep b o e n hb hx)
  ·obtain⟨sl,e1⟩:=I.base.slot b o e n hb hx
   exact⟨sl,(hs.2 b (zbo (zba (zax e) I.ok.above))).trans e1⟩
  ·obtain⟨o',e1⟩:=I.base.there b o e hx
   exact⟨o',(hs.2 b (zbo (zba (zax e) I.ok.above))).trans e1⟩
  ·by_cases hj:j=i
   ·subst hj
    rw[hi] at e1;cases e1
    rw[zch hiσ] at e2
    cases e2
    exact⟨u,r,.inl ⟨hk,by simp⟩⟩
   ·rw[zdj (Ne.symm hj)] at e2
    obtain⟨u',r',q⟩:=hl j y v' e1 e2 e3
    refine⟨u',r',?_⟩
    rcases q with⟨k,e⟩|⟨k,c,e,z⟩
    ·refine .inl ⟨k,?_⟩
     have:y≠x:=λ e=>hj (qni9 hN e1 (e ▸ hi))
     simp[this,e]
    ·exact .inr ⟨k,c,e,z.sameBut hs (cne y c e)⟩
  ·obtain⟨w',z⟩:=I.cell y c e
   exact⟨w',z.sameBut hs (cne y c e)⟩
  ·obtain⟨e,n,ne,nf,d⟩:=I.pin p hp
   exact⟨(hs.2 p.1 ne).trans e,n,ne,nf,d⟩
 ·have hfn:X.fn x=true:=by
   rcases hf with z|z
   ·exact z
   ·rw[z] at hk;cases hk
  obtain⟨c,hc⟩:=I.ok.has x (.inl hk)
  obtain⟨w',z⟩:=I.cell x c hc
  refine wpAny_storeName_cell I.ok.kind hk hc z (λ h' hc' hs=>?_)
  obtain⟨oc,hoc,hocd⟩:=id z
  refine h { s with heap:=h' } ⟨I.ok,I.os,I.bare,⟨λ b o e n hb hx=>?_,λ b o e n hb hx=>?_,I.base.free,λ b o e hx=>?_,I.base.tups,I.base.frzs,I.base.tbls⟩,⟨m,hn.sameBut hs (Ne.symm (cne x c hc)),λ j y v' e1 e2 e3=>?_⟩,λ y c' e=>?_,I.free,I.freeC,λ p hp=>?_,tracked ⟨oc,hoc,I.freeC x c hc⟩ hs,by simpa using I.len⟩ ⟨c,hs,.inr hc⟩
  ·exact(hs.2 b (zbo (zba (zax e) (I.ok.cab x c hfn hc)))).trans (I.base.keep b o e n hb hx)
  ·obtain⟨sl,e1⟩:=I.base.slot b o e n hb hx
   exact⟨sl,(hs.2 b (zbo (zba (zax e) (I.ok.cab x c hfn hc)))).trans e1⟩
  ·obtain⟨o',e1⟩:=I.base.there b o e hx
   exact⟨o',(hs.2 b (zbo (zba (zax e) (I.ok.cab x c hfn hc)))).trans e1⟩
  ·by_cases hj:j=i
   ·subst hj
    rw[hi] at e1;cases e1
    rw[zch hiσ] at e2
    cases e2
    exact⟨u,r,.inr ⟨.inl hk,c,hc,hc'⟩⟩
   ·rw[zdj (Ne.symm hj)] at e2
    obtain⟨u',r',q⟩:=hl j y v' e1 e2 e3
    refine⟨u',r',?_⟩
    rcases q with q|⟨k,c',e,z'⟩
    ·exact .inl q
    ·refine .inr ⟨k,c',e,z'.sameBut hs ?_⟩
     rintro rfl
     exact hj (qni9 hN e1 (I.ok.inj _ _ _ e hc ▸ hi))
  ·by_cases hcc:c'=c
   ·subst hcc;exact⟨_,hc'⟩
   ·obtain⟨w2,z2⟩:=I.cell y c' e
    exact⟨w2,z2.sameBut hs hcc⟩
  ·obtain⟨e,n,ne,nf,d⟩:=I.pin p hp
   refine⟨(hs.2 p.1 ?_).trans e,n,ne,nf,d⟩
   intro q
   rw[q,hoc] at e
   have q':oc=p.2:=Option.some.inj e
   exact d w' (by rw[<- q'];exact hocd)
theorem qiu9{M:zmk}{A:zil}{E:zhs->zhx->Prop}{u:zhs}{Q:Unit->zhx->Prop}(I:Inv X pins σ H s)(hN:X.N.Nodup)(hi:X.N[i]?=zhq x)(hx:Loc X.env.scope x)(r:RelV v u)
  (h:∀s',Inv X pins (σ.set i (zhq v)) H s'->Q () s') (hf:X.fn x=true\/X.env.scope.names.lookup x=zhq .local:=by first|exact .inl rfl|exact .inr rfl|assumption):zib M A (storeName X.env x u) Q E s :=
 store_ok2 I hN hi hx r (λ s' I' _=>h s' I') hf
theorem Inv.call'{s':zhx}(I:Inv X pins σ H s)(ho:s'.os=s.os)(u:Un (frs X.stack) ch H H' s.heap s'.heap)(hok:HOk X.prog X.w H' s'.heap)(hg:zjl s'.gens)
  (hch:∀b∈ch,(b∈X.ex\/X.s₀.heap.objs.size<=b)/\b≠X.env.locals/\(∀x c,X.env.cells.lookup x=zhq c->c≠b)/\∀p∈X.pn++pins,p.1≠b):Inv X pins σ H' s':=by
 obtain⟨h',g',d',t',o'⟩:=s'
 have e:o'=s.os:=ho
 subst e
 exact I.call (g':=g') (t':=t') (d':=d') u hok hg hch
end
abbrev XK:=zhs->Option zht->Hp->Prop
abbrev St:=List (Option V)
variable {σ:St}
abbrev VK:=V->Hp->Prop
abbrev TE:=St->Hp->VK->Prop
variable {ta te:TE}
abbrev TT:=St->Hp->(Bool->Hp->Prop)->Prop
abbrev TA:=St->Hp->(List V->Hp->Prop)->Prop
structure Ends where
 nx:St->Hp->Prop
 rt:VK
 bk:St->Hp->Prop:=λ _ _=>False
 ct:St->Hp->Prop:=λ _ _=>False
abbrev TS:=Ends->St->Hp->Prop
variable {tb:TS}
def EP(X:Cx)(pins:List (zht×Obj))(σ:St)(Q:VK)(u:zhs)(s':zhx):Prop:=∃v H',Inv X pins σ H' s'/\RelV v u/\Q v H'
def TP(X:Cx)(pins:List (zht×Obj))(σ:St)(Q:Bool->Hp->Prop)(b:Bool)(s':zhx):Prop:=∃H',Inv X pins σ H' s'/\Q b H'
def AP(X:Cx)(pins:List (zht×Obj))(σ:St)(Q:List V->Hp->Prop)(us:List zhs)(s':zhx):Prop:=∃vs H',Inv X pins σ H' s'/\Vals vs us/\Q vs H'
def SP(X:Cx)(pins:List (zht×Obj))(D:Ends)(f:Flow)(s':zhx):Prop :=
 match f with
 | .next=>∃σ' H',Inv X pins σ' H' s'/\D.nx σ' H'
 | .brk=>∃σ' H',Inv X pins σ' H' s'/\D.bk σ' H'
 | .cont=>∃σ' H',Inv X pins σ' H' s'/\D.ct σ' H'
 | .ret u=>∃v σ' H',Inv X pins σ' H' s'/\RelV v u/\D.rt v H'
def PE(X:Cx)(e:Expr)(t:TE):Prop :=
 ∀(pins:List (zht×Obj)) (s:zhx) (σ:St) (H:Hp) (Q:VK),Inv X pins σ H s->t σ H Q->zib (zia X.prog X.w) X.A (zii e X.env) (EP X pins σ Q) X.xe s
def PT(X:Cx)(e:Expr)(t:TT):Prop :=
 ∀(pins:List (zht×Obj)) (s:zhx) (σ:St) (H:Hp) (Q:Bool->Hp->Prop),Inv X pins σ H s->t σ H Q->zib (zia X.prog X.w) X.A (isTrue e X.env (zii e X.env)) (TP X pins σ Q) X.xe s
def PW(X:Cx)(e:Expr)(t:TT):Prop :=
 ∀(whole:Sem zhs) (pins:List (zht×Obj)) (s:zhx) (σ:St) (H:Hp) (Q:Bool->Hp->Prop),Inv X pins σ H s->t σ H Q->zib (zia X.prog X.w) X.A (isTrue e X.env whole) (TP X pins σ Q) X.xe s
theorem PW.pt{t:TT}(h:PW X e t):PT X e t:=h _
def PA(X:Cx)(es:List Expr)(t:TA):Prop :=
 ∀(pos:Pos) (pins:List (zht×Obj)) (s:zhx) (σ:St) (H:Hp) (Q:List V->Hp->Prop),Inv X pins σ H s->t σ H Q->zib (zia X.prog X.w) X.A (spliced (ziu pos (zif es X.env))) (AP X pins σ Q) X.xe s
def PS(X:Cx)(st:zhz)(t:TS):Prop :=
 ∀(pins:List (zht×Obj)) (s:zhx) (σ:St) (H:Hp) (D:Ends),Inv X pins σ H s->t D σ H->zib (zia X.prog X.w) X.A (exec st X.env) (SP X pins D) X.xe s
def PSs(X:Cx)(st:List zhz)(t:TS):Prop :=
 ∀(pins:List (zht×Obj)) (s:zhx) (σ:St) (H:Hp) (D:Ends),Inv X pins σ H s->t D σ H->zib (zia X.prog X.w) X.A (execs st X.env) (SP X pins D) X.xe s
theorem thn{α:Type}{t:Sem α}{Q Q':α->zhx->Prop}(h:zib M A t Q E s)(hQ:∀a s,Q a s->Q' a s):zib M A t Q' E s:=zio h hQ λ _ _ x=>x
section
inductive tVar(i:Nat)(σ:St)(H:Hp)(Q:VK):Prop
 |mk (v:_):σ[i]?=zhq (zhq v)->Q v H->tVar i σ H Q
def tC(v:V):TE:=λ _ H Q=>Q v H
theorem pe_var{pos:Pos}(hN:X.N[i]?=zhq x)(hv:Vis X.env.scope x)(hd:(x==("__debug__":Str))=false:=by decide)(hcd:(x==("__classdict__":Str))=false:=by decide):PE X (.Name x pos) (tVar i):=by
 intro pins s σ H Q I h
 obtain⟨v,e,h⟩:=h
 obtain⟨m,hn,hl⟩:=I.loc
 obtain⟨u,r,l⟩:=hl i x v hN e hv
 have fin:EP X pins σ Q u s:=⟨v,H,I,r,h⟩
 rcases l with⟨hk,hm⟩|⟨hk,c,hc,hcell⟩
 ·exact zmm (wpAny_loadName_local I.ok.kind hk hn hm fin) hd
 ·rcases hk with hk|hk
  ·exact zmm (wpAny_loadName_cell I.ok.kind hk hc hcell fin) hd
  ·exact zmm (wpAny_loadName_free I.ok.kind hk hc hcell fin hcd) hd
theorem pe_int{i j pos}:PE X (.Constant (.int i) j pos) (tC (.int i)):=λ _ _ _ H _ I h=>wpAny_Constant_int ⟨.int i,H,I.tok _,⟨_,rfl⟩,h⟩
theorem pe_bl{b j pos}:PE X (.Constant (.bool b) j pos) (tC (.bl b)):=λ _ _ _ H _ I h=>Constant_bool ⟨.bl b,H,I,rfl,h⟩
theorem pe_non{j pos}:PE X (.Constant .none j pos) (tC .non):=λ _ _ _ H _ I h=>zlm ⟨.non,H,I,rfl,h⟩
theorem pe_str{x j pos}:PE X (.Constant (.str x) j pos) (tC (.str x)):=λ _ _ _ H _ I h=>Calls.Constant_str ⟨.str x,H,I.tok _,⟨_,rfl⟩,h⟩
def Gl(X:Cx)(x:Str):Prop:=X.env.kindOf x=zhq .globalImplicit
theorem qkx9{E:zhs->zhx->Prop}{u:zhs}{pos:Pos}(I:Inv X pins σ H s)(hg:Gl X x)(hm:X.mg x=zhq u)(h:Q u s)
  (hd:(x==("__debug__":Str))=false:=by decide):zib (zia X.prog X.w) X.A (zii (.Name x pos) X.env) Q E s :=
 Calls.Name_function_global I.ok.kind hg (Calls.loadGlobal_global (by rw[I.ok.glob];exact I.mod.glob.keeps I.bk) hm h) hd
theorem qly9{E:zhs->zhx->Prop}{u:zhs}{pos:Pos}(I:Inv X pins σ H s)(hg:Gl X x)(hm:X.mg x=zhr)(hv:zij x=zhq u)(h:Q u s)
  (hn:x≠"__name__" := by decide) (hd:(x==("__debug__":Str))=false:=by decide):zib (zia X.prog X.w) X.A (zii (.Name x pos) X.env) Q E s:=by
 obtain⟨mb,h1,h2⟩:=I.mod.blt
 exact Calls.Name_function_global I.ok.kind hg (Calls.loadGlobal_builtin (by rw[I.ok.glob];exact I.mod.glob.keeps I.bk) hm (by rw[I.ok.blt];exact h1.keeps I.bk) ((h2 x hn).trans hv) h) hd
theorem qlg9{u:zhs}{pos:Pos}(hg:Gl X x)(hm:X.mg x=zhq u)(r:RelV v u)(hd:(x==("__debug__":Str))=false:=by decide):PE X (.Name x pos) (tC v) :=
 λ _ _ _ H _ I h=>qkx9 I hg hm ⟨v,H,I,r,h⟩ hd
theorem pe_bltn{u:zhs}{pos:Pos}(hg:Gl X x)(hm:X.mg x=zhr)(hv:zij x=zhq u)(r:RelV v u)(hn:x≠"__name__" := by decide)(hd:(x==("__debug__":Str))=false:=by decide):PE X (.Name x pos) (tC v) :=
 λ _ _ _ H _ I h=>qly9 I hg hm hv ⟨v,H,I,r,h⟩ hn hd
variable {a b:Expr}{tb:TE}
def PC(X:Cx)(op:zjz)(a b:Expr)(t:TE):Prop :=
 ∀(pins:List (zht×Obj)) (s:zhx) (σ:St) (H:Hp) (Q:VK),Inv X pins σ H s->t σ H Q ->
  zib (zia X.prog X.w) X.A (zii a X.env) (λ v s₁=>zib (zia X.prog X.w) X.A (zii b X.env) (λ u s₂=>zib (zia X.prog X.w) X.A (zig op v u) (EP X pins σ Q) X.xe s₂) X.xe s₁) X.xe s
theorem qql9(b:Expr)(h:op ≠ .In)(h2:op ≠ .NotIn):ziy op b=false:=by
 have e1:(op==zjz.In)=false:=by cases op<;>first|rfl|exact absurd rfl h
 have e2:(op==zjz.NotIn)=false:=by cases op<;>first|rfl|exact absurd rfl h2
 cases b<;>simp[ziy,e1,e2]
def tIsN(ta:TE):TE:=λ σ H Q=>ta σ H λ x H1=>Q (.bl (decide (x=.non))) H1
def tNotN(ta:TE):TE:=λ σ H Q=>ta σ H λ x H1=>Q (.bl (!decide (x=.non))) H1
theorem RelV.none_iff{x:V}{v:zhs}(r:RelV x v):(v==zhs.none)=decide (x=.non):=by
 cases x with
 |non=>cases r;rfl
 |bl _=>cases r;rfl
 |int _=>obtain⟨t,rfl⟩:=r;rfl
 |str _=>obtain⟨t,rfl⟩:=r;rfl
 |byt _=>obtain⟨t,rfl⟩:=r;rfl
 |flt _=>obtain⟨t,rfl⟩:=r;rfl
 |ref _=>cases r;rfl
 |ty _=>cases r;rfl
theorem pc_isN{j pos'}(ha:PE X a ta):PC X .Is a (.Constant .none j pos') (tIsN ta):=by
 intro pins s σ H Q I h
 refine thn (ha pins s σ H _ I h) λ v s1 z9=>?_
 obtain⟨x,H1,I1,r1,q1⟩ := z9
 exact zlm (is_none_gen ⟨.bl _,H1,I1,by rw[r1.none_iff];rfl,q1⟩)
theorem pc_notN{j pos'}(ha:PE X a ta):PC X .IsNot a (.Constant .none j pos') (tNotN ta):=by
 intro pins s σ H Q I h
 refine thn (ha pins s σ H _ I h) λ v s1 z9=>?_
 obtain⟨x,H1,I1,r1,q1⟩ := z9
 exact zlm (isnot_none_gen ⟨.bl _,H1,I1,by rw[r1.none_iff];rfl,q1⟩)
def tB(t:TE):TT:=λ σ H Q=>t σ H λ x H1=>∃c,x=.bl c/\Q c H1
theorem pe_cmp{t:TE}(h:PC X op a b t)(h1:ziy op b=false:=by first|exact qql9 _ (by decide) (by decide)|rfl):PE X (.Compare a [op] [b] pos) t:=λ pins s σ H Q I hw=>zmw (h pins s σ H Q I hw) h1
theorem pt_cmp{t:TE}(h:PC X op a b t)(h1:ziy op b=false:=by first|exact qql9 _ (by decide) (by decide)|rfl):PT X (.Compare a [op] [b] pos) (tB t):=by
 intro pins s σ H Q I hw
 refine zkx (thn (h pins s σ H _ I hw) λ v s1 h1=>thn h1 λ u s2 h2=>thn h2 λ c s3 z9=>?_) h1
 obtain⟨x,H1,I1,r1,q1⟩ := z9
 obtain⟨d,rfl,q⟩:=q1
 cases r1
 exact zim ⟨H1,I1,q⟩
theorem pt_val{t:TE}(h:PE X e t)(he:∀whole,isTrue e X.env whole=(do let v <- whole;zmx e.pos;zlz [v] (truthy v)):=by intro _;rfl):PT X e (tB t):=by
 intro pins s σ H Q I hw
 refine isTrue_plain (thn (h pins s σ H _ I hw) λ v s1 z9=>?_) (he _)
 obtain⟨x,H1,I1,r1,q1⟩ := z9
 obtain⟨d,rfl,q⟩:=q1
 cases r1
 exact zim ⟨H1,I1,q⟩
variable {tA tB':TT}{rest:List Expr}
def tAnd(t u:TT):TT:=λ σ H Q=>t σ H λ c H1=>if c=true then u σ H1 Q else Q false H1
def tOr(t u:TT):TT:=λ σ H Q=>t σ H λ c H1=>if c=true then Q true H1 else u σ H1 Q
def tNot(t:TT):TT:=λ σ H Q=>t σ H λ c H1=>Q (!c) H1
theorem pw_and1(ha:PT X a tA):PW X (.BoolOp .And [a] pos) tA:=by
 intro wh pins s σ H Q I h
 refine isTrue_and (thn (ha pins s σ H Q I h) λ c s1 e=>?_)
 cases c with
 |true=>exact isTrue_and_nil e
 |false=>exact e
theorem pw_or1(ha:PT X a tA):PW X (.BoolOp .Or [a] pos) tA:=by
 intro wh pins s σ H Q I h
 refine isTrue_or (thn (ha pins s σ H Q I h) λ c s1 e=>?_)
 cases c with
 |false=>exact isTrue_or_nil e
 |true=>exact e
theorem pw_and(ha:PT X a tA)(hb:PW X (.BoolOp .And (b::rest) pos) tB'):PW X (.BoolOp .And (a::b::rest) pos) (tAnd tA tB'):=by
 intro wh pins s σ H Q I h
 refine isTrue_and (thn (ha pins s σ H _ I h) λ c s1 z9=>?_)
 obtain⟨H1,I1,q1⟩ := z9
 cases c with
 |true=>exact hb wh pins s1 σ H1 Q I1 q1
 |false=>exact⟨H1,I1,q1⟩
theorem pw_or(ha:PT X a tA)(hb:PW X (.BoolOp .Or (b::rest) pos) tB'):PW X (.BoolOp .Or (a::b::rest) pos) (tOr tA tB'):=by
 intro wh pins s σ H Q I h
 refine isTrue_or (thn (ha pins s σ H _ I h) λ c s1 z9=>?_)
 obtain⟨H1,I1,q1⟩ := z9
 cases c with
 |true=>exact⟨H1,I1,q1⟩
 |false=>exact hb wh pins s1 σ H1 Q I1 q1
theorem pt_not(ha:PT X a tA):PT X (.UnaryOp .Not a pos) (tNot tA):=by
 intro pins s σ H Q I h
 exact isTrue_not (ha pins s σ H (λ c H1=>Q (!c) H1) I h)
def tAndV(ta tb:TE):TE:=λ σ H Q=>ta σ H λ x H1=>∃c,x=.bl c/\if c=true then tb σ H1 Q else Q (.bl false) H1
def tOrV(ta tb:TE):TE:=λ σ H Q=>ta σ H λ x H1=>∃c,x=.bl c/\if c=true then Q (.bl true) H1 else tb σ H1 Q
def tNotV(ta:TE):TE:=λ σ H Q=>ta σ H λ x H1=>∃c,x=.bl c/\Q (.bl (!c)) H1
theorem pe_one{op}{t:TE}(h:PE X a t):PE X (.BoolOp op [a] pos) t:=λ pins s σ H Q I hw=>BoolOp_one (h pins s σ H Q I hw)
theorem pe_and(ha:PE X a ta)(hb:PE X (.BoolOp .And (b::rest) pos) tb):PE X (.BoolOp .And (a::b::rest) pos) (tAndV ta tb):=by
 intro pins s σ H Q I h
 refine BoolOp_and (thn (ha pins s σ H _ I h) λ v s1 z9=>?_)
 obtain⟨x,H1,I1,r1,q1⟩ := z9
 obtain⟨c,rfl,q1⟩:=q1
 cases r1
 refine zim ?_
 cases c with
 |true=>exact hb pins s1 σ H1 Q I1 q1
 |false=>exact⟨.bl false,H1,I1,rfl,q1⟩
theorem pe_or(ha:PE X a ta)(hb:PE X (.BoolOp .Or (b::rest) pos) tb):PE X (.BoolOp .Or (a::b::rest) pos) (tOrV ta tb):=by
 intro pins s σ H Q I h
 refine BoolOp_or (thn (ha pins s σ H _ I h) λ v s1 z9=>?_)
 obtain⟨x,H1,I1,r1,q1⟩ := z9
 obtain⟨c,rfl,q1⟩:=q1
 cases r1
 refine zim ?_
 cases c with
 |false=>exact hb pins s1 σ H1 Q I1 q1
 |true=>exact⟨.bl true,H1,I1,rfl,q1⟩
theorem pe_not(ha:PE X a ta):PE X (.UnaryOp .Not a pos) (tNotV ta):=by
 intro pins s σ H Q I h
 refine UnaryOp_ (thn (ha pins s σ H _ I h) λ v s1 z9=>?_)
 obtain⟨x,H1,I1,r1,q1⟩ := z9
 obtain⟨c,rfl,q1⟩:=q1
 cases r1
 exact not_of (zim ⟨.bl (!c),H1,I1,rfl,q1⟩)
def tIf(t:TT)(ta tb:TE):TE:=λ σ H Q=>t σ H λ c H1=>if c=true then ta σ H1 Q else tb σ H1 Q
theorem pe_ifExp(hc:PT X c tA)(ha:PE X a ta)(hb:PE X b tb):PE X (.IfExp c a b pos) (tIf tA ta tb):=by
 intro pins s σ H Q I h
 refine wpAny_IfExp (thn (hc pins s σ H _ I h) λ d s1 z9=>?_)
 obtain⟨H1,I1,q1⟩ := z9
 cases d with
 |true=>exact ha pins s1 σ H1 Q I1 q1
 |false=>exact hb pins s1 σ H1 Q I1 q1
end
def SqL(K:W.Frag)(H:Hp)(a:zht)(xs:List V):Prop :=
 Rd H a (.lst xs) \/
  ∃(o:Obj)(its:Array zhs)(n:Nat),K.lookup a=zhq o/\o.cls=.type "list" /\ o.dict=zhr/\o.data=.seq its n/\its.size<=zhu/\Vals xs its.toList
def SqT(K:W.Frag)(H:Hp)(a:zht)(xs:List V):Prop :=
 Rd H a (.tup xs) \/
  ∃(o:Obj)(its:Array zhs)(n:Nat),K.lookup a=zhq o/\o.cls=.type "tuple" /\ o.data=.seq its n/\its.size<=zhu/\Vals xs its.toList
def absV:zhs->Option V
 | .none=>zhq .non
 | .bool b=>zhq (.bl b)
 | .int i _=>zhq (.int i)
 | .str x _=>zhq (.str x)
 | .bytes b _=>zhq (.byt b)
 | .float b _=>zhq (.flt b)
 | .ref a=>zhq (.ref a)
 | .type n=>zhq (.ty n)
 |_=>zhr
theorem RelV.abs{x:V}{u:zhs}(r:RelV x u):absV u=zhq x:=by
 cases x with
 |non=>cases r;rfl
 |bl _=>cases r;rfl
 |int _=>obtain⟨t,rfl⟩:=r;rfl
 |str _=>obtain⟨t,rfl⟩:=r;rfl
 |byt _=>obtain⟨t,rfl⟩:=r;rfl
 |flt _=>obtain⟨t,rfl⟩:=r;rfl
 |ref _=>cases r;rfl
 |ty _=>cases r;rfl
theorem RelV.inj{x y:V}{u:zhs}(r:RelV x u)(q:RelV y u):x=y:=Option.some.inj (r.abs.symm.trans q.abs)
theorem Vals.inj:∀{xs ys:List V}{us:List zhs},Vals xs us->Vals ys us->xs=ys
 |_,_,_,.nil,.nil=>rfl
 |_,_,_,.cons r t,.cons r' t'=>by rw[r.inj r',Vals.inj t t']
section
variable {xs ys:List V}
theorem SqL.of(h:H a=zhq (.lst xs)):SqL K H a xs:=.inl (.inl h)
theorem SqT.of(h:H a=zhq (.tup xs)):SqT K H a xs:=.inl (.inl h)
theorem Inv.list(I:Inv X pins σ H s)(h:SqL X.K H a xs):∃its:List zhs,Vals xs its/\PlainL s.heap a its.toArray/\xs.length<=zhu:=by
 rcases h with h|⟨o,its,n,hk,hc,hd,hs,hz,r⟩
 ·obtain⟨z,its,n,r,e⟩:=h.ok I.hok
  exact⟨its,r,⟨_,n,e,rfl,rfl,rfl⟩,z⟩
 ·refine⟨its.toList,r,⟨o,n,I.kIn a o hk,hc,hd,by simpa using hs⟩,?_⟩
  have e:=r.length
  simp only[zfx] at e
  omega
theorem Inv.tuple(I:Inv X pins σ H s)(h:SqT X.K H a xs):∃its:List zhs,Vals xs its/\zml s.heap a its.toArray/\xs.length<=zhu:=by
 rcases h with h|⟨o,its,n,hk,hc,hs,hz,r⟩
 ·obtain⟨z,its,r,p⟩:=h.ok I.hok
  exact⟨its,r,p,z⟩
 ·refine⟨its.toList,r,⟨o,I.kIn a o hk,hc,n,by simpa using hs⟩,?_⟩
  have e:=r.length
  simp only[zfx] at e
  omega
theorem Inv.list_inj(I:Inv X pins σ H s)(h:SqL X.K H a xs)(h':SqL X.K H a ys):xs=ys:=by
 obtain⟨its,r,⟨o,n,e,_,_,d⟩,_⟩:=I.list h
 obtain⟨its',r',⟨o',n',e',_,_,d'⟩,_⟩:=I.list h'
 rw[e] at e';cases e'
 rw[d] at d'
 injection d' with d1 _
 have:its=its':=by simpa using congrArg zgu d1
 subst this
 exact r.inj r'
theorem Inv.tuple_inj(I:Inv X pins σ H s)(h:SqT X.K H a xs)(h':SqT X.K H a ys):xs=ys:=by
 obtain⟨its,r,⟨o,e,_,n,d⟩,_⟩:=I.tuple h
 obtain⟨its',r',⟨o',e',_,n',d'⟩,_⟩:=I.tuple h'
 rw[e] at e';cases e'
 rw[d] at d'
 injection d' with d1 _
 have:its=its':=by simpa using congrArg zgu d1
 subst this
 exact r.inj r'
end
abbrev Cx.wish(X:Cx)(E:zhs->zhx->Prop):Cx:={ X with xe:=E }
abbrev Cx.nox(X:Cx):Cx:=X.wish λ _ _=>False
theorem Cx.Ok.wish{X:Cx}(ok:X.Ok)(E:zhs->zhx->Prop):(X.wish E).Ok :=
 ⟨ok.mod,ok.kind,ok.glob,ok.blt,ok.above,ok.inj,ok.has,ok.cab,ok.hd,ok.frames,ok.stk,ok.exf,ok.bs,ok.bsz,ok.noex,ok.exfs,ok.funs,ok.frf⟩
theorem Cx.Ok.unwish(ok:(X.wish E).Ok):X.Ok :=
 ⟨ok.mod,ok.kind,ok.glob,ok.blt,ok.above,ok.inj,ok.has,ok.cab,ok.hd,ok.frames,ok.stk,ok.exf,ok.bs,ok.bsz,ok.noex,ok.exfs,ok.funs,ok.frf⟩
theorem Inv.wish(I:Inv X pins σ H s)(E:zhs->zhx->Prop):Inv (X.wish E) pins σ H s:=⟨I.ok.wish E,I.os,I.bare,I.base,I.loc,I.cell,I.free,I.freeC,I.pin,I.hok,I.len⟩
theorem Inv.unwish(I:Inv (X.wish E) pins σ H s):Inv X pins σ H s:=⟨I.ok.unwish,I.os,I.bare,I.base,I.loc,I.cell,I.free,I.freeC,I.pin,I.hok,I.len⟩
theorem SP.unwish{D:Ends}{f:Flow}{s':zhx}(h:SP (X.wish E) pins D f s'):SP X pins D f s':=by
 cases f with
 |next=>obtain⟨σ',H',I,q⟩:=h;exact⟨σ',H',I.unwish,q⟩
 |brk=>obtain⟨σ',H',I,q⟩:=h;exact⟨σ',H',I.unwish,q⟩
 |cont=>obtain⟨σ',H',I,q⟩:=h;exact⟨σ',H',I.unwish,q⟩
 |ret u=>obtain⟨v,σ',H',I,r,q⟩:=h;exact⟨v,σ',H',I.unwish,r,q⟩
theorem PE.nox{e:Expr}{t:TE}(h:PE X.nox e t):PE X e t:=λ pins s σ H Q I hw =>
 zio (h pins s σ H Q (I.wish _) hw) (λ _ _ ⟨v,H',I',r,q⟩=>⟨v,H',I'.unwish,r,q⟩) λ _ _ z=>False.elim z
theorem PT.nox{e:Expr}{t:TT}(h:PT X.nox e t):PT X e t:=λ pins s σ H Q I hw =>
 zio (h pins s σ H Q (I.wish _) hw) (λ _ _ ⟨H',I',q⟩=>⟨H',I'.unwish,q⟩) λ _ _ z=>False.elim z
theorem PSs.nox{st:List zhz}{t:TS}(h:PSs X.nox st t):PSs X st t:=λ pins s σ H D I hw =>
 zio (h pins s σ H D (I.wish _) hw) (λ _ _ q=>q.unwish) λ _ _ z=>False.elim z
section
variable {st:zhz}{rest:List zhz}{t u:TS}
def tNext:TS:=λ D σ H=>D.nx σ H
def tSeq(t u:TS):TS:=λ D σ H=>t { D with nx:=u D } σ H
theorem pss_nil:PSs X [] tNext:=λ _ _ σ H _ I h=>zjj ⟨σ,H,I,h⟩
theorem pss_cons(h1:PS X st t)(h2:PSs X rest u):PSs X (st::rest) (tSeq t u):=by
 intro pins s σ H D I h
 refine zjm (thn (h1 pins s σ H { D with nx:=u D } I h) λ f s1 q=>?_)
 cases f with
 |next =>
  obtain⟨σ',H',I',q⟩:=q
  exact h2 pins s1 σ' H' D I' q
 |ret v=>exact q
 |brk=>exact q
 |cont=>exact q
theorem pss_one(h1:PS X st t):PSs X [st] t:=by
 intro pins s σ H D I h
 refine zjm (thn (h1 pins s σ H D I h) λ f s1 q=>?_)
 cases f with
 |next=>exact zjj q
 |ret v=>exact q
 |brk=>exact q
 |cont=>exact q
theorem Inv.quiet(I:Inv X pins σ H s):znx X.env=false:=by simp[znx,I.ok.kind]
def tDrop(te:TE):TS:=λ D σ H=>te σ H λ _ H1=>D.nx σ H1
theorem ps_expr(he:PE X e te)(hs:zjd e zhr pos.line X.env=pure false:=by rfl):PS X (.Expr e pos) (tDrop te):=by
 intro pins s σ H D I h
 exact zmy (thn (he pins s σ H _ I h) λ v s1 ⟨x,H1,I1,r1,q1⟩=>⟨σ,H1,I1,q1⟩) I.quiet hs
def tRet(te:TE):TS:=λ D σ H=>te σ H D.rt
theorem ps_ret(he:PE X e te):PS X (.Return (zhq e) pos) (tRet te):=by
 intro pins s σ H D I h
 exact wpAny_Return_some (thn (he pins s σ H _ I h) λ v s1 ⟨x,H1,I1,r1,q1⟩=>⟨x,σ,H1,I1,r1,q1⟩)
def tIfS(c:TT)(t u:TS):TS:=λ D σ H=>c σ H λ b H1=>if b=true then t D σ H1 else u D σ H1
theorem ps_if{a b:List zhz}{tc:TT}(hc:PT X c tc)(ha:PSs X a t)(hb:PSs X b u):PS X (.If c a b pos) (tIfS tc t u):=by
 intro pins s σ H D I h
 refine wpAny_If (thn (hc pins s σ H _ I h) λ d s1 z9=>?_)
 obtain⟨H1,I1,q1⟩ := z9
 cases d with
 |true=>exact ha pins s1 σ H1 D I1 q1
 |false=>exact hb pins s1 σ H1 D I1 q1
def tNever:TS:=λ _ _ _=>False
theorem ps_never:PS X st tNever:=λ _ _ _ _ _ _ h=>h.elim
end
abbrev TG:=V->St->Hp->(St->Hp->Prop)->Prop
variable {g:TG}
abbrev TGs:=List V->St->Hp->(St->Hp->Prop)->Prop
def PG(X:Cx)(target:Expr)(t:TG):Prop :=
 ∀(pins:List (zht×Obj)) (s:zhx) (σ:St) (H:Hp) (v:V) (u:zhs) (Q:St->Hp->Prop),Inv X pins σ H s->RelV v u->t v σ H Q ->
  zib (zia X.prog X.w) X.A (zmn target X.env u) (λ _ s'=>∃σ' H',Inv X pins σ' H' s'/\Q σ' H') X.xe s
def PGs(X:Cx)(ts:List Expr)(t:TGs):Prop :=
 ∀(pins:List (zht×Obj)) (s:zhx) (σ:St) (H:Hp) (vs:List V) (us:List zhs) (Q:St->Hp->Prop),Inv X pins σ H s->Vals vs us->t vs σ H Q ->
  zib (zia X.prog X.w) X.A (assignInOrder ((ziw ts X.env).map (·.2)) us) (λ _ s'=>∃σ' H',Inv X pins σ' H' s'/\Q σ' H') X.xe s
def gName(i:Nat):TG:=λ v σ H Q=>Q (σ.set i (zhq v)) H
theorem pg_name(hN:X.N.Nodup)(hi:X.N[i]?=zhq x)(hx:Loc X.env.scope x)(hf:X.fn x=true\/X.env.scope.names.lookup x=zhq .local:=by first|exact .inl rfl|exact .inr rfl|assumption):PG X (.Name x pos) (gName i):=by
 intro pins s σ H v u Q I r h
 exact wpAny_assign_Name (qiu9 I hN hi hx r (λ s' I'=>⟨_,H,I',h⟩) hf)
inductive gNil(vs:List V)(σ:St)(H:Hp)(Q:St->Hp->Prop):Prop
 |mk  : vs=[]->Q σ H->gNil vs σ H Q
inductive gCons(t:TG)(u:TGs)(vs:List V)(σ:St)(H:Hp)(Q:St->Hp->Prop):Prop
 |mk (v:_) (r:_):(vs=v::r)->(t v σ H λ σ' H'=>u r σ' H' Q)->gCons t u vs σ H Q
theorem pgs_nil:PGs X [] gNil:=by
 intro pins s σ H vs us Q I r h
 obtain⟨e,h⟩:=h
 subst e
 cases r
 exact assignInOrder_nil ⟨σ,H,I,h⟩
theorem pgs_cons{t:TG}{u:TGs}(h1:PG X e t)(h2:PGs X es u)
  (hs:(ziw (e::es) X.env).map (·.2)=zmn e X.env::(ziw es X.env).map (·.2):=by rfl):PGs X (e::es) (gCons t u):=by
 intro pins s σ H vs us Q I r h
 obtain⟨v,vr,e1,h⟩:=h
 subst e1
 cases r with
 |cons r rr =>
  rw[hs]
  refine assignInOrder_cons (thn (h1 pins s σ H _ _ _ I r h) λ _ s1 z9=>?_)
  obtain⟨σ1,H1,I1,q1⟩ := z9
  exact h2 pins s1 σ1 H1 _ _ Q I1 rr q1
inductive gTup(K:W.Frag)(n:Nat)(t:TGs)(v:V)(σ:St)(H:Hp)(Q:St->Hp->Prop):Prop
 |mk (a:_) (xs:_):v=.ref a->SqT K H a xs->xs.length=n->t xs σ H Q->gTup K n t v σ H Q
theorem pg_tup{k:Nat}{t:TGs}(hc:X.calm=true)(h:PGs X es t)
  (hn:(ziw es X.env).length=n:=by rfl) (hst:(ziw es X.env).findIdx? (·.1)=zhr:=by rfl):PG X (.Tuple es k pos) (gTup X.K n t):=by
 intro pins s σ H v u Q I r hw
 obtain⟨a,xs,e1,hq,hl,hw⟩:=hw
 subst e1
 cases r
 obtain⟨its,rv,ht,hz⟩:=I.tuple hq
 refine assign_Tuple_tuple (I.ok.hd hc) ht (by simp[hn,<- hl,rv.length]) hst λ h' hx=>?_
 have I1:Inv X pins σ H { s with heap:=h' }:=I.kept (t':=s.toks) λ b o e=>hx b o (zbo (zax e)) e
 exact h pins _ σ H xs _ Q I1 (by simpa using rv) hw
def tAsg(te:TE)(g:TG):TS:=λ D σ H=>te σ H λ x H1=>g x σ H1 D.nx
theorem ps_set{pos':Pos}(hN:X.N.Nodup)(hi:X.N[i]?=zhq x)(hx:Loc X.env.scope x)(he:PE X e te)(hs:zjd e (zhq (.Name x pos')) pos.line X.env=pure false:=by rfl)(hf:X.fn x=true\/X.env.scope.names.lookup x=zhq .local:=by first|exact .inl rfl|exact .inr rfl|assumption) :
  PS X (.Assign [.Name x pos'] e pos) (tAsg te (gName i)):=by
 intro pins s σ H D I h
 refine zmc (thn (he pins s σ H _ I h) λ v s1 z9=>?_) hs
 obtain⟨y,H1,I1,r1,q1⟩ := z9
 exact qiu9 I1 hN hi hx r1 (λ s2 I2=>⟨_,H1,I2,q1⟩) hf
structure It where
 go:Nat->Hp->Prop
 yld:Nat->Hp->V->Hp->Prop
 stop:Nat->Hp->Prop
def FpOk(X:Cx)(pins:List (zht×Obj))(H:Hp)(b:zht):Prop :=
 H b=zhr/\b≠X.env.locals/\b∉X.fs/\(b∈X.ex\/X.s₀.heap.objs.size<=b)/\(∀x c,X.env.cells.lookup x=zhq c->c≠b)/\∀p∈X.pn++pins,p.1≠b
theorem Inv.fpOk(I:Inv X pins σ H s)(hb:s.heap.objs.size<=b)(hn:H' b=zhr):FpOk X pins H' b:=by
 refine⟨hn,zgc (zba I.lt hb),I.nofs hb,.inr (zbj I.sz hb),λ x c e z=>?_,λ p hp z=>?_⟩
 ·obtain⟨v,q⟩:=I.cell x c e
  exact absurd (zba q.lt (by rw[z];exact hb)) (zco _)
 ·exact absurd (zba (zax (I.pin p hp).1) (by rw[z];exact hb)) (zco _)
structure Turn(P:zih)(w:zhy)(K:W.Frag)(tg:Expr)(J:It)(fp:List zht)(it:zht)(tn:Nat->zic->Prop):Prop where
 mem:it∈fp
 obj:∀i h,tn i h->∀b∈fp,∃o,h.get? b=zhq o/\∀v,o.data ≠ .cell v
 keep:∀i h h',tn i h->(∀b∈fp,∀o,h.get? b=zhq o->h'.get? b=zhq o)->tn i h'
 item:∀(X:Cx),X.prog=P->X.w=w->X.K=K->X.calm=true->∀(i:Nat) (pins:List (zht×Obj)) (s:zhx) (σ:St) (H:Hp) (E:zhs->zhx->Prop),Inv X pins σ H s->(∀b∈fp,FpOk X pins H b)->tn i s.heap->J.go i H ->
  zib (zia P w) X.A (zls (.ref it)) (λ r s1=>∃u,r=zhq u /\
   zib (zia P w) X.A (zkr tg (.ref it) u) (λ _ s2=>∃x H',Inv X pins σ H' s2/\RelV x u/\J.yld i H x H'/\tn (i+1) s2.heap/\∀b∈fp,H' b=zhr) E s1) E s
 done:∀(X:Cx),X.prog=P->X.w=w->X.K=K->X.calm=true->∀(i:Nat) (pins:List (zht×Obj)) (s:zhx) (σ:St) (H:Hp) (E:zhs->zhx->Prop),Inv X pins σ H s->(∀b∈fp,FpOk X pins H b)->tn i s.heap->J.stop i H ->
  zib (zia P w) X.A (zls (.ref it)) (λ r s1=>r=zhr/\Inv X pins σ H s1) E s
 self:∀(A:zil)(i:Nat)(s:zhx)(Q:zhs->zhx->Prop)(E:zhs->zhx->Prop),tn i s.heap->Q (.ref it) s->zib (zia P w) A (pyIter (.ref it)) Q E s
abbrev TI:=St->Hp->(It->Hp->Prop)->Prop
def PIE(X:Cx)(pins:List (zht×Obj))(σ:St)(tg:Expr)(R:It->Hp->Prop)(itv:zhs)(s2:zhx):Prop :=
 ∃(it:zht)(fp:List zht)(tn:Nat->zic->Prop)(J:It)(H':Hp),itv=.ref it/\Inv X pins σ H' s2/\Turn X.prog X.w X.K tg J fp it tn/\tn 0 s2.heap/\(∀b∈fp,FpOk X pins H' b)/\R J H'
def PI(X:Cx)(tg iter:Expr)(wi:TI):Prop :=
 ∀(pins:List (zht×Obj)) (s:zhx) (σ:St) (H:Hp) (R:It->Hp->Prop),Inv X pins σ H s->wi σ H R ->
  zib (zia X.prog X.w) X.A (zii iter X.env) (λ v s1=>zib (zia X.prog X.w) X.A (pyIter v) (PIE X pins σ tg R) X.xe s1) X.xe s
theorem go_of{it:zht}{u:zhs}{n:String}{vs:Array zhs}{Q:Unit->zhx->Prop}(ho:s.heap.get? it=zhq o)(hc:o.cls=.type n)(hd:o.data=.fields vs)
  (hn:["enumerate","zip","dict_itemiterator","dict_reverseitemiterator","odict_iterator","itertools.zip_longest","itertools.pairwise"].contains n=false) (hQ:Q () s):zib M A (zkr tg (.ref it) u) Q E s:=by
 unfold zkr
 cases tg<;>first
  |exact zid hQ
  | (cases u<;>first
    |exact zid hQ
    | (refine zhv (wpAny_load ho ?_)
       rw[hc,hd]
       show zib M A (if(["enumerate","zip","dict_itemiterator","dict_reverseitemiterator","odict_iterator","itertools.zip_longest","itertools.pairwise"].contains n&&vs[0]? == zhq (zky _))=true then _ else _) Q E s
       rw[if_neg (by intro h;rw[hn,zdq] at h;cases h)]
       exact zid hQ))
def Itl(K:W.Frag)(a:zht):It :=
 ⟨λ i H=>∃xs x,SqL K H a xs/\xs[i]?=zhq x,λ i H x H'=>H'=H/\∀xs,SqL K H a xs->xs[i]?=zhq x,λ i H=>∃xs,SqL K H a xs/\xs.length<=i⟩
def Itt(K:W.Frag)(a:zht):It :=
 ⟨λ i H=>∃xs x,SqT K H a xs/\xs[i]?=zhq x,λ i H x H'=>H'=H/\∀xs,SqT K H a xs->xs[i]?=zhq x,λ i H=>∃xs,SqT K H a xs/\xs.length<=i⟩
def Itr(lo:Int)(n:Nat):It:=⟨λ i _=>i<n,λ i H x H'=>H'=H/\x=.int (lo+i),λ i _=>n<=i⟩
theorem turn_list{w:zhy}(a it:zht):Turn P w K tg (Itl K a) [it] it (λ i h=>h.IsListIter it a i) where
 mem:=by simp
 obj:=λ i h st b hb=>by
  have e:b=it:=by simpa using hb
  subst e
  obtain⟨o,e,c,d⟩:=st
  exact⟨o,e,λ v z=>by rw[d] at z;cases z⟩
 keep:=λ i h h' st k=>st.at λ o e=>k it (by simp) o e
 item:=by
  intro X hP hw hK hc i pins s σ H E I hf st hg
  subst hP hw hK
  obtain⟨xs,x,hq,hx⟩:=hg
  obtain⟨its,rv,p,hz⟩:=I.list hq
  obtain⟨u,hu,ru⟩:=rv.get hx
  obtain⟨f0,f1,f2,f3,f4,f5⟩:=hf it (by simp)
  refine wpAny_pyNext_list_item st p.isList (x:=u) (by simpa using hu) λ h' st' sb=>?_
  have I1:Inv X pins σ H { s with heap:=h' }:=I.turned (t':=s.toks) (λ b o hb e=>(sb.2 b hb).trans e) f0 f1 f3 f4 f5
  obtain⟨o,e,c,d⟩:=id st'
  exact⟨u,rfl,go_of (s:={ s with heap:=h' }) e c d (by decide) ⟨x,H,I1,ru,⟨rfl,λ ys hy=>by rw[I.list_inj hy hq];exact hx⟩,st',λ b hb=>(hf b hb).1⟩⟩
 done:=by
  intro X hP hw hK hc i pins s σ H E I hf st hg
  subst hP hw hK
  obtain⟨xs,hq,hx⟩:=hg
  obtain⟨its,rv,p,hz⟩:=I.list hq
  obtain⟨f0,f1,f2,f3,f4,f5⟩:=hf it (by simp)
  have hl:=rv.length
  exact wpAny_pyNext_list_end (I.ok.hd hc) st p.isList (by simp;omega) λ h' eb=>⟨rfl,I.turned (t':=s.toks) (λ b o hb e=>eb b o hb e) f0 f1 f3 f4 f5⟩
 self:=λ _ _ _ _ _ st h=>wpAny_pyIter_listiter st h
theorem qst9{w:zhy}(a it:zht):Turn P w K tg (Itt K a) [it] it (λ i h=>h.IsTupleIter it a i) where
 mem:=by simp
 obj:=λ i h st b hb=>by
  have e:b=it:=by simpa using hb
  subst e
  obtain⟨o,e,c,d⟩:=st
  exact⟨o,e,λ v z=>by rw[d] at z;cases z⟩
 keep:=λ i h h' st k=>st.at λ o e=>k it (by simp) o e
 item:=by
  intro X hP hw hK hc i pins s σ H E I hf st hg
  subst hP hw hK
  obtain⟨xs,x,hq,hx⟩:=hg
  obtain⟨its,rv,p,hz⟩:=I.tuple hq
  obtain⟨u,hu,ru⟩:=rv.get hx
  obtain⟨f0,f1,f2,f3,f4,f5⟩:=hf it (by simp)
  refine wpAny_pyNext_tuple_item st (show s.heap.IsTuple a its.toArray from p) (x:=u) (by simpa using hu) λ h' st' sb=>?_
  have I1:Inv X pins σ H { s with heap:=h' }:=I.turned (t':=s.toks) (λ b o hb e=>(sb.2 b hb).trans e) f0 f1 f3 f4 f5
  obtain⟨o,e,c,d⟩:=id st'
  exact⟨u,rfl,go_of (s:={ s with heap:=h' }) e c d (by decide) ⟨x,H,I1,ru,⟨rfl,λ ys hy=>by rw[I.tuple_inj hy hq];exact hx⟩,st',λ b hb=>(hf b hb).1⟩⟩
 done:=by
  intro X hP hw hK hc i pins s σ H E I hf st hg
  subst hP hw hK
  obtain⟨xs,hq,hx⟩:=hg
  obtain⟨its,rv,p,hz⟩:=I.tuple hq
  obtain⟨f0,f1,f2,f3,f4,f5⟩:=hf it (by simp)
  have hl:=rv.length
  exact wpAny_pyNext_tuple_end (I.ok.hd hc) st (show s.heap.IsTuple a its.toArray from p) (by simp;omega) λ h' eb=>⟨rfl,I.turned (t':=s.toks) (λ b o hb e=>eb b o hb e) f0 f1 f3 f4 f5⟩
 self:=λ _ _ _ _ _ st h=>wpAny_pyIter_tupleiter st h
theorem qqf9{w:zhy}(it:zht)(lo:Int)(n:Nat):Turn P w K tg (Itr lo n) [it] it (λ i h=>zkf h it (lo+(i:Nat)*1) ((n:Int)-(i:Nat)) 1) where
 mem:=by simp
 obj:=λ i h st b hb=>by
  have e:b=it:=by simpa using hb
  subst e
  exact⟨_,st,λ v z=>by
   have z':Data.fields _=Data.cell v:=z
   cases z'⟩
 keep:=λ i h h' st k=>k it (by simp) _ st
 item:=by
  intro X hP hw hK hc i pins s σ H E I hf st hg
  subst hP hw hK
  obtain⟨f0,f1,f2,f3,f4,f5⟩:=hf it (by simp)
  have W:=Walks.range (prog:=X.prog) (w:=X.w) (I.ok.hd hc) it lo 1 n
  refine W.item i s _ _ hg st λ v h' tk hv st' kk=>?_
  obtain⟨t,rfl⟩:=hv
  have I1:Inv X pins σ H { s with heap:=h',toks:=tk }:=I.turned (λ b o hb e=>kk b o (by simpa using hb) e) f0 f1 f3 f4 f5
  refine⟨_,rfl,go_of (s:={ s with heap:=h',toks:=tk }) (n := "range_iterator") st' rfl rfl (by decide) ⟨.int (lo+i),H,I1,⟨t,?_⟩,⟨rfl,rfl⟩,st',λ b hb=>(hf b hb).1⟩⟩
  rw[zgq]
 done:=by
  intro X hP hw hK hc i pins s σ H E I hf st hg
  subst hP hw hK
  obtain⟨f0,f1,f2,f3,f4,f5⟩:=hf it (by simp)
  exact zkt (I.ok.hd hc) st (by have:n<=i:=hg;omega) λ h' eb=>⟨rfl,I.turned (t':=s.toks) (λ b o hb e=>eb b o hb e) f0 f1 f3 f4 f5⟩
 self:=λ _ _ _ _ _ st h=>zku st h
def iList(K:W.Frag)(tl:TE):TI:=λ σ H R=>tl σ H λ x H1=>∃a,x=.ref a/\(∃xs,SqL K H1 a xs)/\R (Itl K a) H1
def iTup(K:W.Frag)(tl:TE):TI:=λ σ H R=>tl σ H λ x H1=>∃a,x=.ref a/\(∃xs,SqT K H1 a xs)/\R (Itt K a) H1
theorem pi_list{l:Expr}{tl:TE}(hl:PE X l tl):PI X tg l (iList X.K tl):=by
 intro pins s σ H R I h
 refine thn (hl pins s σ H _ I h) λ v s1 z9=>?_
 obtain⟨x,H1,I1,r1,q1⟩ := z9
 obtain⟨a,e,⟨xs,hq⟩,q⟩:=q1
 subst e
 cases r1
 obtain⟨its,rv,p,hz⟩:=I1.list hq
 refine zju p.isList ?_
 refine⟨s1.heap.objs.size,[s1.heap.objs.size],_,_,H1,rfl,I1.kept (t':=s1.toks) λ b o e=>zao _ e,turn_list a _,⟨_,zav _ rfl,rfl,rfl⟩,λ b hb=>?_,q⟩
 have e:b=s1.heap.objs.size:=by simpa using hb
 subst e
 exact I1.fpOk (zaq _) (I1.hok.fresh (zaq _))
theorem pi_tup{l:Expr}{tl:TE}(hl:PE X l tl):PI X tg l (iTup X.K tl):=by
 intro pins s σ H R I h
 refine thn (hl pins s σ H _ I h) λ v s1 z9=>?_
 obtain⟨x,H1,I1,r1,q1⟩ := z9
 obtain⟨a,e,⟨xs,hq⟩,q⟩:=q1
 subst e
 cases r1
 obtain⟨its,rv,p,hz⟩:=I1.tuple hq
 refine zlu (show s1.heap.IsTuple a its.toArray from p) ?_
 refine⟨s1.heap.objs.size,[s1.heap.objs.size],_,_,H1,rfl,I1.kept (t':=s1.toks) λ b o e=>zao _ e,qst9 a _,⟨_,zav _ rfl,rfl,rfl⟩,λ b hb=>?_,q⟩
 have e:b=s1.heap.objs.size:=by simpa using hb
 subst e
 exact I1.fpOk (zaq _) (I1.hok.fresh (zaq _))
theorem qqd9{R:It->Hp->Prop}{lo hi:Int}{t u v:Tok}{tk:Nat}(I:Inv X pins σ H s)(h1:-(2 ^ 62)<=lo)(h2:lo<2 ^ 62)(h3:-(2 ^ 62)<=hi)(h4:hi<2 ^ 62)
  (q:R (Itr lo (hi-lo).toNat) H):zib (zia X.prog X.w) X.A (pyIter (.ref s.heap.objs.size)) (PIE X pins σ tg R) E { s with heap:=s.heap.push { cls:=.type "range",data:=.fields #[.int lo t,.int hi u,.int 1 v] },toks:=tk }:=by
 refine zlv (IsRange.new ..) (small_one h1 h2 h3 h4) ?_
 have I1:Inv X pins σ H { s with heap:=s.heap.push { cls:=.type "range",data:=.fields #[.int lo t,.int hi u,.int 1 v] },toks:=tk }:=I.kept λ b o e=>zao _ e
 refine⟨(s.heap.push { cls:=.type "range",data:=.fields #[.int lo t,.int hi u,.int 1 v] }).objs.size,[(s.heap.push { cls:=.type "range",data:=.fields #[.int lo t,.int hi u,.int 1 v] }).objs.size],_,_,H,rfl,
  I1.kept (t':=tk) λ b o e=>zao _ e,qqf9 _ lo (hi-lo).toNat,?_,λ b hb=>?_,q⟩
 ·have e1:lo+((0:Nat):Int)*1=lo:=by simp
  have e2:(((hi-lo).toNat:Nat):Int)-((0:Nat):Int)=Builtin.Range.rangeSize lo hi 1:=by rw[rangeSize_one];split<;>omega
  show zkf _ _ (lo+((0:Nat):Int)*1) ((((hi-lo).toNat:Nat):Int)-((0:Nat):Int)) 1
  rw[e1,e2]
  exact zav _ rfl
 ·have e:b=(s.heap.push { cls:=.type "range",data:=.fields #[.int lo t,.int hi u,.int 1 v] }).objs.size:=by simpa using hb
  subst e
  exact I1.fpOk (zaq _) (I1.hok.fresh (zaq _))
def iRng1(ta:TA):TI:=λ σ H R=>ta σ H λ vs H1=>∃j:Int,vs=[.int j]/\-(2 ^ 62)<=j/\j<2 ^ 62/\R (Itr 0 j.toNat) H1
def iRng2(ta:TA):TI:=λ σ H R=>ta σ H λ vs H1=>∃i j:Int,vs=[.int i,.int j]/\(-(2 ^ 62)<=i/\i<2 ^ 62/\-(2 ^ 62)<=j/\j<2 ^ 62)/\R (Itr i (j-i).toNat) H1
theorem pi_range1{a:Expr}{ta:TA}{p pos:Pos}(hg:Gl X "range")(hm:X.mg "range"=zhr)(ha:PA X [a] ta)(hs:zif [a] X.env=[(false,zii a X.env)]:=by rfl):PI X tg (.Call (.Name "range" p) [a] [] pos) (iRng1 ta):=by
 intro pins s σ H R I h
 refine zoe (qly9 I hg hm zmo (PyProof.Rows.callWith_type1 (thn (ha pos pins s σ H _ I h) λ us s1 z9=>?_) hs rfl))
 obtain⟨vs,H1,I1,r1,q1⟩ := z9
 obtain⟨j,e,q1,q2,q⟩:=q1
 subst e
 cases r1 with
 |cons r rr =>
  cases rr
  obtain⟨t,rfl⟩:=r
  exact call_range_1 (qqd9 I1 ⋯ ⋯ q1 q2 (by simpa using q))
theorem pi_range2{a b:Expr}{ta:TA}{p pos:Pos}(hg:Gl X "range")(hm:X.mg "range"=zhr)(ha:PA X [a,b] ta)(hs:zif [a,b] X.env=[(false,zii a X.env),(false,zii b X.env)]:=by rfl)(hs2:zif [b] X.env=[(false,zii b X.env)]:=by rfl) :
  PI X tg (.Call (.Name "range" p) [a,b] [] pos) (iRng2 ta):=by
 intro pins s σ H R I h
 refine zoe (qly9 I hg hm zmo (PyProof.Rows.callWith_type1 (thn (ha pos pins s σ H _ I h) λ us s1 ⟨vs,H1,I1,r1,q1⟩=>?_) (by rw[hs,hs2]) (by rw[hs2];rfl)))
 obtain⟨i,j,e,⟨q1,q2,q3,q4⟩,q⟩:=q1
 subst e
 cases r1 with
 |cons r rr =>
  cases rr with
  |cons r' rr =>
   cases rr
   obtain⟨t,rfl⟩:=r
   obtain⟨t',rfl⟩:=r'
   exact call_range_2 (qqd9 I1 q1 q2 q3 q4 q)
def tFor(wi:TI)(g:TG)(tb:TS):TS:=λ D σ H=>wi σ H λ J H1=>∃W:Nat->Nat->St->Hp->Prop,(∃m,W 0 m σ H1)/\∀i m σ H,W i m σ H ->
 (J.stop i H/\D.nx σ H)\/(J.go i H/\∃N:St->Hp->Prop,(∀σ' H',N σ' H'->∃m',m'<m/\W (i+1) m' σ' H')/\∀x H',J.yld i H x H'->g x σ H' λ σ2 H2=>tb { D with nx:=N,ct:=N,bk:=D.nx } σ2 H2)
def qpz9(fp:List zht)(h:zic):List (zht×Obj):=fp.filterMap λ b=>(h.get? b).map λ o=>(b,o)
theorem qfx9(hb:b∈fp)(e:h.get? b=zhq o):(b,o)∈qpz9 fp h:=zfy.mpr ⟨b,hb,by rw[e];rfl⟩
theorem of_pinsAt{p:zht×Obj}(hp:p∈qpz9 fp h):p.1∈fp/\h.get? p.1=zhq p.2:=by
 obtain⟨b,hb,e⟩:=zfy.mp hp
 cases q:h.get? b with
 |none=>rw[q] at e;cases e
 |some o =>
  rw[q] at e
  have e':(b,o)=p:=Option.some.inj e
  subst e'
  exact⟨hb,q⟩
theorem Inv.pinned(I:Inv X pins σ H s)(hf:∀b∈fp,FpOk X pins H b)(ho:∀b∈fp,∃o,s.heap.get? b=zhq o/\∀v,o.data ≠ .cell v):Inv X (pins++qpz9 fp s.heap) σ H s :=
 I.pins_of λ p hp=>(zak.mp hp).elim (λ z=>I.pin p (zar _ z)) λ z=>by
  obtain⟨hb,e⟩:=of_pinsAt z
  obtain⟨f0,f1,f2,_⟩:=hf p.1 hb
  obtain⟨o,e',d⟩:=ho p.1 hb
  rw[e] at e';cases e'
  exact⟨e,f0,f1,f2,d⟩
theorem Inv.unpinned{pl:List (zht×Obj)}(I:Inv X (pins++pl) σ H s):Inv X pins σ H s:=I.pins_of λ p hp=>I.pin p (zar _ (zbi _ hp))
theorem ps_for{iter:Expr}{body:List zhz}{wi:TI}{pos:Pos}(hp:ziq (zia X.prog X.w) X.A X.env X.xe)(hc:X.calm=true)(hi:PI X tg iter wi)(hg:PG X tg g)(hb:PSs X body tb)
  (hs:∀x,ziz iter X.env x=pure x:=by intro _;rfl):PS X (.For tg iter body [] pos) (tFor wi g tb):=by
 intro pins s σ H D I h
 refine wpAny_For (thn (hi pins s σ H _ I h) λ v s1 h1=>thn h1 λ itv s2 h2=>?_) hs
 obtain⟨it,fp,tn,J,H2,e,I2,T,st2,f2,W,⟨m0,w0⟩,turn⟩:=h2
 subst e
 have stat:∀{H':Hp},(∀b∈fp,H' b=zhr)->∀b∈fp,FpOk X pins H' b:=λ hn b hb=>⟨hn b hb,(f2 b hb).2⟩
 refine codeAny_forLoop_any (λ n s'=>∃i σ' H',Inv X pins σ' H' s'/\tn i s'.heap/\(∀b∈fp,H' b=zhr)/\W i n σ' H') ?_ m0 ⟨0,σ,H2,I2,st2,λ b hb=>(f2 b hb).1,w0⟩
 intro n s3 z9;obtain⟨i,σ3,H3,I3,st3,fr3,w3⟩ := z9
 rcases turn i n σ3 H3 w3 with⟨stop,qn⟩|⟨go,N,hN,step⟩
 ·refine zjq hp (thn (T.done X rfl rfl rfl hc i pins s3 σ3 H3 X.xe I3 (stat fr3) st3 stop) λ r s4 z9=>?_)
  obtain⟨hr,I4⟩ := z9
  subst hr
  exact zjj ⟨σ3,H3,I4,qn⟩
 ·refine zjq hp (thn (T.item X rfl rfl rfl hc i pins s3 σ3 H3 X.xe I3 (stat fr3) st3 go) λ r s4 z9=>?_)
  obtain⟨u,hr,h4⟩ := z9
  subst hr
  refine zjq hp (thn h4 λ _ s5 z9=>?_)
  obtain⟨x,H5,I5,r5,y5,st5,fr5⟩ := z9
  have I5':=I5.pinned (stat fr5) (T.obj _ _ st5)
  refine zjq hp (thn (hg _ s5 σ3 H5 x u _ I5' r5 (step x H5 y5)) λ _ s6 z9=>?_)
  obtain⟨σ6,H6,I6,q6⟩ := z9
  refine zjq hp (thn (hb _ s6 σ6 H6 _ I6 q6) λ f s7 q7=>?_)
  have again:∀{σ7:St}{H7:Hp},Inv X (pins++qpz9 fp s5.heap) σ7 H7 s7->N σ7 H7->∃m,m<n/\∃i σ' H',Inv X pins σ' H' s7/\tn i s7.heap/\(∀b∈fp,H' b=zhr)/\W i m σ' H':=λ {σ7 H7} I7 n7=>by
   obtain⟨m',hm,w7⟩:=hN σ7 H7 n7
   refine⟨m',hm,i+1,σ7,H7,I7.unpinned,T.keep _ _ _ st5 λ b hb o e=>(I7.pin (b,o) (zar _ (zar _ (qfx9 hb e)))).1,λ b hb=>?_,w7⟩
   obtain⟨o,e,d⟩:=T.obj _ _ st5 b hb
   exact(I7.pin (b,o) (zar _ (zar _ (qfx9 hb e)))).2.1
  cases f with
  |next=>obtain⟨σ7,H7,I7,n7⟩:=q7;exact again I7 n7
  |cont=>obtain⟨σ7,H7,I7,n7⟩:=q7;exact again I7 n7
  |brk=>obtain⟨σ7,H7,I7,q7⟩:=q7;exact⟨σ7,H7,I7.unpinned,q7⟩
  |ret v=>obtain⟨x7,σ7,H7,I7,r7,q7⟩:=q7;exact⟨x7,σ7,H7,I7.unpinned,r7,q7⟩
theorem qdg9{xs:List V}{D:Ends}(Pv:Nat->St->Hp->Prop)(h0:Pv 0 σ H)(hl:∀i σ H,i<=xs.length->Pv i σ H->SqL K H a xs)
  (hs:∀i x σ H,xs[i]?=zhq x->Pv i σ H->g x σ H λ σ2 H2=>tb { D with nx:=Pv (i+1),ct:=Pv (i+1),bk:=D.nx } σ2 H2) (hd:∀σ H,Pv xs.length σ H->D.nx σ H) :
  ∃W:Nat->Nat->St->Hp->Prop,(∃m,W 0 m σ H)/\∀i m σ H,W i m σ H ->
   ((Itl K a).stop i H/\D.nx σ H)\/((Itl K a).go i H/\∃N:St->Hp->Prop,(∀σ' H',N σ' H'->∃m',m'<m/\W (i+1) m' σ' H')/\∀x H',(Itl K a).yld i H x H'->g x σ H' λ σ2 H2=>tb { D with nx:=N,ct:=N,bk:=D.nx } σ2 H2):=by
 refine⟨λ i m σ H=>A3q (m=xs.length-i) (i<=xs.length) (Pv i σ H),⟨xs.length,by simp,zbx _,h0⟩,?_⟩
 intro i m σ H z9;obtain⟨rfl,hi,p⟩ := z9
 have q:=hl i σ H hi p
 by_cases hlt:i<xs.length
 ·refine .inr ⟨⟨xs,xs[i],q,by simp[hlt]⟩,Pv (i+1),λ σ' H' p'=>⟨xs.length-(i+1),⋯,rfl,hlt,p'⟩,λ x H' y=>?_⟩
  obtain⟨e,y⟩:=y
  subst e
  exact hs i x σ _ (y xs q) p
 ·have e:i=xs.length:=⋯
  subst e
  exact .inl ⟨⟨xs,q,zaq _⟩,hd σ H p⟩
theorem qic9{lo:Int}{D:Ends}(Pv:Nat->St->Hp->Prop)(h0:Pv 0 σ H)
  (hs:∀i σ H,i<n->Pv i σ H->g (.int (lo+i)) σ H λ σ2 H2=>tb { D with nx:=Pv (i+1),ct:=Pv (i+1),bk:=D.nx } σ2 H2) (hd:∀σ H,Pv n σ H->D.nx σ H) :
  ∃W:Nat->Nat->St->Hp->Prop,(∃m,W 0 m σ H)/\∀i m σ H,W i m σ H ->
   ((Itr lo n).stop i H/\D.nx σ H)\/((Itr lo n).go i H/\∃N:St->Hp->Prop,(∀σ' H',N σ' H'->∃m',m'<m/\W (i+1) m' σ' H')/\∀x H',(Itr lo n).yld i H x H'->g x σ H' λ σ2 H2=>tb { D with nx:=N,ct:=N,bk:=D.nx } σ2 H2):=by
 refine⟨λ i m σ H=>A3q (m=n-i) (i<=n) (Pv i σ H),⟨n,by simp,zbx _,h0⟩,?_⟩
 intro i m σ H z9;obtain⟨rfl,hi,p⟩ := z9
 by_cases hlt:i<n
 ·refine .inr ⟨hlt,Pv (i+1),λ σ' H' p'=>⟨n-(i+1),⋯,rfl,hlt,p'⟩,λ x H' y=>?_⟩
  obtain⟨e,y⟩:=y
  subst e y
  exact hs i σ _ hlt p
 ·have e:i=n:=⋯
  subst e
  exact .inl ⟨zaq _,hd σ H p⟩
abbrev R2:=V->V->Hp->VK->Prop
variable {r r':R2}
def OpR(X:Cx)(f:zhs->zhs->Sem zhs)(r:R2):Prop :=
 ∀(pins:List (zht×Obj)) (s:zhx) (σ:St) (H:Hp) (x y:V) (v u:zhs) (Q:VK),Inv X pins σ H s->RelV x v->RelV y u->r x y H Q ->
  zib (zia X.prog X.w) X.A (f v u) (EP X pins σ Q) X.xe s
def UnR(X:Cx)(f:zhs->Sem zhs)(r:V->Hp->VK->Prop):Prop :=
 ∀(pins:List (zht×Obj)) (s:zhx) (σ:St) (H:Hp) (x:V) (v:zhs) (Q:VK),Inv X pins σ H s->RelV x v->r x H Q ->
  zib (zia X.prog X.w) X.A (f v) (EP X pins σ Q) X.xe s
def CallR(X:Cx)(f:zhs)(r:List V->Hp->VK->Prop):Prop :=
 ∀(pins:List (zht×Obj)) (s:zhx) (σ:St) (H:Hp) (xs:List V) (us:List zhs) (Q:VK),Inv X pins σ H s->Vals xs us->r xs H Q ->
  zib (zia X.prog X.w) X.A (call f us) (EP X pins σ Q) X.xe s
def tOp(r:R2)(ta tb:TE):TE:=λ σ H Q=>ta σ H λ x H1=>tb σ H1 λ y H2=>r x y H2 Q
def tUn(r:V->Hp->VK->Prop)(ta:TE):TE:=λ σ H Q=>ta σ H λ x H1=>r x H1 Q
inductive rI(C:Int->Int->Prop)(g:Int->Int->V)(x:V)(y:V)(H:Hp)(Q:VK):Prop
 |mk (i:_) (j:_):x=.int i->y=.int j->C i j->Q (g i j) H->rI C g x y H Q
inductive rI0(g:Int->Int->V)(x:V)(y:V)(H:Hp)(Q:VK):Prop
 |mk (i:_) (j:_):x=.int i->y=.int j->Q (g i j) H->rI0 g x y H Q
inductive rU(g:Int->V)(x:V)(H:Hp)(Q:VK):Prop
 |mk (i:_):x=.int i->Q (g i) H->rU g x H Q
section
variable {a b:Expr}{tb tc:TE}
theorem binT(ha:PE X a ta)(hb:PE X b tb){R:V->V->Hp->Prop}(I:Inv X pins σ H s)
  (h:ta σ H λ x H1=>tb σ H1 λ y H2=>R x y H2) {Q:zhs->zhx->Prop} {f:zhs->zhs->Sem zhs}
  (hf:∀v u s2 x y H2,Inv X pins σ H2 s2->RelV x v->RelV y u->R x y H2->zib (zia X.prog X.w) X.A (f v u) Q X.xe s2) :
  zib (zia X.prog X.w) X.A (zii a X.env) (λ v s₁=>zib (zia X.prog X.w) X.A (zii b X.env) (λ u s₂=>zib (zia X.prog X.w) X.A (f v u) Q X.xe s₂) X.xe s₁) X.xe s:=by
 refine thn (ha pins s σ H _ I h) λ v s1 z9=>?_
 obtain⟨x,H1,I1,r1,q1⟩ := z9
 refine thn (hb pins s1 σ H1 _ I1 q1) λ u s2 z9=>?_
 obtain⟨y,H2,I2,r2,q2⟩ := z9
 exact hf v u s2 x y H2 I2 r1 r2 q2
theorem pe_op{op:Operator}(ho:OpR X (zir op) r)(ha:PE X a ta)(hb:PE X b tb):PE X (.BinOp a op b pos) (tOp r ta tb):=by
 intro pins s σ H Q I h
 exact wpAny_BinOp (binT ha hb I h λ v u s2 x y H2 I2 rx ry q=>ho pins s2 σ H2 x y v u Q I2 rx ry q)
theorem pe_un{op:UnaryOp}{r:V->Hp->VK->Prop}(ho:UnR X (unaryOp op) r)(ha:PE X a ta):PE X (.UnaryOp op a pos) (tUn r ta):=by
 intro pins s σ H Q I h
 exact UnaryOp_ (thn (ha pins s σ H _ I h) λ v s1 ⟨x,H1,I1,r1,q1⟩=>ho pins s1 σ H1 x v Q I1 r1 q1)
theorem opI{f:zhs->zhs->Sem zhs}{C:Int->Int->Prop}{g:Int->Int->Int}
  (zlw:∀(i j:Int)(t u:Tok)(s:zhx)(Q:zhs->zhx->Prop)(E:zhs->zhx->Prop),C i j->Q (.int (g i j) s.toks) { s with toks:=s.toks+1 }->zib (zia X.prog X.w) X.A (f (.int i t) (.int j u)) Q E s) :
  OpR X f (rI C λ i j=>.int (g i j)):=by
 intro pins s σ H x y v u Q I rx ry h
 obtain⟨i,j,rfl,rfl,hc,q⟩:=h
 obtain⟨t,rfl⟩:=rx
 obtain⟨t',rfl⟩:=ry
 exact zlw i j t t' s _ _ hc ⟨.int (g i j),H,I.tok _,⟨_,rfl⟩,q⟩
theorem opI0{f:zhs->zhs->Sem zhs}{g:Int->Int->Int}
  (zlw:∀(i j:Int)(t u:Tok)(s:zhx)(Q:zhs->zhx->Prop)(E:zhs->zhx->Prop),Q (.int (g i j) s.toks) { s with toks:=s.toks+1 }->zib (zia X.prog X.w) X.A (f (.int i t) (.int j u)) Q E s) :
  OpR X f (rI0 λ i j=>.int (g i j)):=by
 intro pins s σ H x y v u Q I rx ry h
 obtain⟨i,j,rfl,rfl,q⟩:=h
 obtain⟨t,rfl⟩:=rx
 obtain⟨t',rfl⟩:=ry
 exact zlw i j t t' s _ _ ⟨.int (g i j),H,I.tok _,⟨_,rfl⟩,q⟩
theorem opB0{f:zhs->zhs->Sem zhs}{g:Int->Int->Bool}
  (zlw:∀(i j:Int)(t u:Tok)(s:zhx)(Q:zhs->zhx->Prop)(E:zhs->zhx->Prop),Q (.bool (g i j)) s->zib (zia X.prog X.w) X.A (f (.int i t) (.int j u)) Q E s) :
  OpR X f (rI0 λ i j=>.bl (g i j)):=by
 intro pins s σ H x y v u Q I rx ry h
 obtain⟨i,j,rfl,rfl,q⟩:=h
 obtain⟨t,rfl⟩:=rx
 obtain⟨t',rfl⟩:=ry
 exact zlw i j t t' s _ _ ⟨.bl (g i j),H,I,rfl,q⟩
def CPow(i j:Int):Prop:=0<=j/\j<=1000000/\i.natAbs<2 ^ 64
def CMul(i j:Int):Prop:=(-(2 ^ 64)<i/\i<2 ^ 64)\/(-(2 ^ 64)<j/\j<2 ^ 64)
theorem CMul.ok{i j:Int}(h:CMul i j):IntMulOk i j:=by
 rcases h with⟨h1,h2⟩|⟨h1,h2⟩
 ·exact .of_left (znh h1 h2)
 ·exact .of_right (znh h1 h2)
theorem op_add:OpR X (zir .Add) (rI0 λ i j=>.int (i+j)):=opI0 λ _ _ _ _ _ _ _ q=>add_int q
theorem op_sub:OpR X (zir .Sub) (rI0 λ i j=>.int (i-j)):=opI0 λ _ _ _ _ _ _ _ q=>sub_int q
theorem op_mul:OpR X (zir .Mult) (rI CMul λ i j=>.int (i*j)):=opI λ _ _ _ _ _ _ _ hc q=>mul_int q hc.ok
theorem op_mod:OpR X (zir .Mod) (rI (λ _ j=>0<j) λ i j=>.int (i%j)):=opI λ i j _ _ _ _ _ hc q=>by
 have h1:(0:Int)<j:=hc
 exact mod_int' ⋯ (by rw[Int.fmod_eq_emod_of_nonneg i ⋯];exact q)
theorem op_pow:OpR X (zir .Pow) (rI CPow λ i j=>.int (i ^ j.toNat)):=opI λ _ _ _ _ _ _ _ hc q=>pow_int_small hc.1 hc.2.1 hc.2.2 q
theorem unI{f:zhs->Sem zhs}{g:Int->Int}
  (zlw:∀(i:Int)(t:Tok)(s:zhx)(Q:zhs->zhx->Prop)(E:zhs->zhx->Prop),Q (.int (g i) s.toks) { s with toks:=s.toks+1 }->zib (zia X.prog X.w) X.A (f (.int i t)) Q E s) :
  UnR X f (rU λ i=>.int (g i)):=by
 intro pins s σ H x v Q I rx h
 obtain⟨i,rfl,q⟩:=h
 obtain⟨t,rfl⟩:=rx
 exact zlw i t s _ _ ⟨.int (g i),H,I.tok _,⟨_,rfl⟩,q⟩
theorem un_neg:UnR X (unaryOp .USub) (rU λ i=>.int (-i)):=unI λ _ _ _ _ _ q=>neg_int q
def scal:V->V->Bool
 | .non,.non=>true | .non,.int _=>true | .int _,.non=>true | .non,.bl _=>true | .bl _,.non=>true | .non,.str _=>true | .str _,.non=>true
 | .int _,.int _=>true | .bl _,.bl _=>true | .str _,.str _=>true | .byt _,.byt _=>true
 | .int _,.str _=>true | .str _,.int _=>true | .bl _,.str _=>true | .str _,.bl _=>true
 |_,_=>false
inductive rEq(x:V)(y:V)(H:Hp)(Q:VK):Prop
 |mk  : scal x y=true->Q (.bl (decide (x=y))) H->rEq x y H Q
inductive rNe(x:V)(y:V)(H:Hp)(Q:VK):Prop
 |mk  : scal x y=true->Q (.bl (!decide (x=y))) H->rNe x y H Q
theorem dec_int{i j:Int}:decide (V.int i=V.int j)=(i==j):=by
 rw[zcc]
 simp
theorem dec_bl{i j:Bool}:decide (V.bl i=V.bl j)=(i==j):=by
 rw[zcc]
 simp
theorem dec_str{i j:Str}:decide (V.str i=V.str j)=(i==j):=by
 rw[zcc]
 simp
theorem dec_byt{i j:Array UInt8}:decide (V.byt i=V.byt j)=(i.toList==j.toList):=by
 rw[zcc]
 cases i
 cases j
 simp
theorem qco9{Q:VK}{k k':Bool}(I:Inv X pins σ H s)(q:Q (.bl k) H)(e:k=k'):EP X pins σ Q (.bool k') s:=by
 subst e
 exact⟨.bl k,H,I,rfl,q⟩
theorem op_eq:OpR X (zig .Eq) rEq:=by
 intro pins s σ H x y v u Q I rx ry h
 obtain⟨hs,q⟩:=h
 cases x with
 |non =>
  cases rx
  cases y with
  |non=>cases ry;exact PySem.EqNone.eq_none_none (qco9 I q (by simp))
  |bl j=>cases ry;exact PySem.EqNone.eq_none_bool (qco9 I q (by simp))
  |int j=>obtain⟨t',rfl⟩:=ry;exact PySem.EqNone.eq_none_int (qco9 I q (by simp))
  |str j=>obtain⟨t',rfl⟩:=ry;exact PySem.EqNone.eq_none_str (qco9 I q (by simp))
  |_=>exact absurd (show false=true from hs) zay
 |bl i =>
  cases rx
  cases y with
  |non=>cases ry;exact PySem.EqNone.eq_bool_none (qco9 I q (by simp))
  |bl j=>cases ry;exact eq_bool (qco9 I q dec_bl)
  |str j=>obtain⟨t',rfl⟩:=ry;exact PySem.EqMixed.eq_bool_str (qco9 I q (by simp))
  |_=>exact absurd (show false=true from hs) zay
 |int i =>
  obtain⟨t,rfl⟩:=rx
  cases y with
  |non=>cases ry;exact PySem.EqNone.eq_int_none (qco9 I q (by simp))
  |int j=>obtain⟨t',rfl⟩:=ry;exact eq_int (qco9 I q dec_int)
  |str j=>obtain⟨t',rfl⟩:=ry;exact PySem.EqMixed.eq_int_str (qco9 I q (by simp))
  |_=>exact absurd (show false=true from hs) zay
 |str i =>
  obtain⟨t,rfl⟩:=rx
  cases y with
  |non=>cases ry;exact PySem.EqNone.eq_str_none (qco9 I q (by simp))
  |bl j=>cases ry;exact PySem.EqMixed.eq_str_bool (qco9 I q (by simp))
  |int j=>obtain⟨t',rfl⟩:=ry;exact PySem.EqMixed.eq_str_int (qco9 I q (by simp))
  |str j=>obtain⟨t',rfl⟩:=ry;exact eq_str (qco9 I q dec_str)
  |_=>exact absurd (show false=true from hs) zay
 |byt i =>
  obtain⟨t,rfl⟩:=rx
  cases y with
  |byt j=>obtain⟨t',rfl⟩:=ry;exact W.eq_bytes (qco9 I q dec_byt)
  |_=>exact absurd (show false=true from hs) zay
 |_=>cases y<;>exact absurd (show false=true from hs) zay
theorem op_ne:OpR X (zig .NotEq) rNe:=by
 intro pins s σ H x y v u Q I rx ry h
 obtain⟨hs,q⟩:=h
 cases x with
 |non =>
  cases rx
  cases y with
  |non=>cases ry;exact PySem.EqNone.ne_none_none (qco9 I q (by simp))
  |bl j=>cases ry;exact PySem.EqNone.ne_none_bool (qco9 I q (by simp))
  |int j=>obtain⟨t',rfl⟩:=ry;exact PySem.EqNone.ne_none_int (qco9 I q (by simp))
  |str j=>obtain⟨t',rfl⟩:=ry;exact PySem.EqNone.ne_none_str (qco9 I q (by simp))
  |_=>exact absurd (show false=true from hs) zay
 |bl i =>
  cases rx
  cases y with
  |non=>cases ry;exact PySem.EqNone.ne_bool_none (qco9 I q (by simp))
  |bl j=>cases ry;exact ne_bool (qco9 I q (congrArg not dec_bl))
  |str j=>obtain⟨t',rfl⟩:=ry;exact PySem.EqMixed.ne_bool_str (qco9 I q (by simp))
  |_=>exact absurd (show false=true from hs) zay
 |int i =>
  obtain⟨t,rfl⟩:=rx
  cases y with
  |non=>cases ry;exact PySem.EqNone.ne_int_none (qco9 I q (by simp))
  |int j=>obtain⟨t',rfl⟩:=ry;exact ne_int (qco9 I q (congrArg not dec_int))
  |str j=>obtain⟨t',rfl⟩:=ry;exact PySem.EqMixed.ne_int_str (qco9 I q (by simp))
  |_=>exact absurd (show false=true from hs) zay
 |str i =>
  obtain⟨t,rfl⟩:=rx
  cases y with
  |non=>cases ry;exact PySem.EqNone.ne_str_none (qco9 I q (by simp))
  |bl j=>cases ry;exact PySem.EqMixed.ne_str_bool (qco9 I q (by simp))
  |int j=>obtain⟨t',rfl⟩:=ry;exact PySem.EqMixed.ne_str_int (qco9 I q (by simp))
  |str j=>obtain⟨t',rfl⟩:=ry;exact ne_str (qco9 I q (congrArg not dec_str))
  |_=>exact absurd (show false=true from hs) zay
 |byt i =>
  obtain⟨t,rfl⟩:=rx
  cases y with
  |byt j=>obtain⟨t',rfl⟩:=ry;exact W.ne_bytes (qco9 I q (congrArg not dec_byt))
  |_=>exact absurd (show false=true from hs) zay
 |_=>cases y<;>exact absurd (show false=true from hs) zay
theorem op_lt:OpR X (zig .Lt) (rI0 λ i j=>.bl (decide (i<j))):=opB0 λ _ _ _ _ _ _ _ q=>lt_int q
theorem op_le:OpR X (zig .LtE) (rI0 λ i j=>.bl (decide (i<=j))):=opB0 λ _ _ _ _ _ _ _ q=>le_int q
theorem op_gt:OpR X (zig .Gt) (rI0 λ i j=>.bl (decide (j<i))):=opB0 λ _ _ _ _ _ _ _ q=>gt_int q
theorem op_ge:OpR X (zig .GtE) (rI0 λ i j=>.bl (decide (j<=i))):=opB0 λ _ _ _ _ _ _ _ q=>ge_int q
theorem OpR.or{f:zhs->zhs->Sem zhs}(h:OpR X f r)(h':OpR X f r'):OpR X f (λ x y H Q=>r x y H Q\/r' x y H Q):=by
 intro pins s σ H x y v u Q I rx ry q
 rcases q with q|q
 ·exact h pins s σ H x y v u Q I rx ry q
 ·exact h' pins s σ H x y v u Q I rx ry q
theorem qbb9(b:Expr)(h:op ≠ .In:=by decide)(h2:op ≠ .NotIn:=by decide):ziy op b=false:=by
 have e1:(op==zjz.In)=false:=by cases op<;>first|rfl|exact absurd rfl h
 have e2:(op==zjz.NotIn)=false:=by cases op<;>first|rfl|exact absurd rfl h2
 cases b<;>simp[ziy,e1,e2]
theorem pe_cmpR(ho:OpR X (zig op) r)(ha:PE X a ta)(hb:PE X b tb)(hm:ziy op b=false):PE X (.Compare a [op] [b] pos) (tOp r ta tb):=by
 intro pins s σ H Q I h
 exact zmw (binT ha hb I h λ v u s2 x y H2 I2 rx ry q=>ho pins s2 σ H2 x y v u Q I2 rx ry q) hm
def tTest(t:TE):TT:=λ σ H Q=>t σ H λ x H'=>∃k,x=.bl k/\Q k H'
theorem pt_cmpR(ho:OpR X (zig op) r)(ha:PE X a ta)(hb:PE X b tb)(hm:ziy op b=false):PT X (.Compare a [op] [b] pos) (tTest (tOp r ta tb)):=by
 intro pins s σ H Q I h
 refine zkx (thn (ha pins s σ H _ I h) λ v s1 ⟨x,H1,I1,r1,q1⟩=>thn (hb pins s1 σ H1 _ I1 q1) λ u s2 ⟨y,H2,I2,r2,q2⟩ =>
  thn (ho pins s2 σ H2 x y v u _ I2 r1 r2 q2) λ c s3 ⟨z,H3,I3,r3,k,e,q3⟩=>?_) hm
 subst e
 cases r3
 exact zim ⟨H3,I3,q3⟩
def tChain(r r':R2)(ta tb tc:TE):TE:=λ σ H Q=>ta σ H λ x H1=>tb σ H1 λ y H2=>r x y H2 λ z H3=>∃k,z=.bl k /\
 (if k=true then tc σ H3 λ w' H4=>r' y w' H4 Q else Q (.bl false) H3)
theorem pe_chain{op':zjz}(ho:OpR X (zig op) r)(ho':OpR X (zig op') r')(ha:PE X a ta)(hb:PE X b tb)(hc:PE X c tc)
  (hm:zkh [op,op'] [b,c]=false:=by with_unfolding_all rfl):PE X (.Compare a [op,op'] [b,c] pos) (tChain r r' ta tb tc):=by
 intro pins s σ H Q I h
 refine zni (thn (ha pins s σ H _ I h) λ v s1 ⟨x,H1,I1,r1,q1⟩=>zmp (thn (hb pins s1 σ H1 _ I1 q1) λ u s2 ⟨y,H2,I2,r2,q2⟩ =>
  thn (ho pins s2 σ H2 x y v u _ I2 r1 r2 q2) λ d s3 ⟨z,H3,I3,r3,k,e,q3⟩=>?_)) hm
 subst e
 cases r3
 refine zim ?_
 cases k with
 |false=>exact znp ⟨.bl false,H3,I3,rfl,q3⟩
 |true=>exact znq (chain_last (thn (hc pins s3 σ H3 _ I3 q3) λ w' s4 ⟨z',H4,I4,r4,q4⟩=>ho' pins s4 σ H4 y z' u w' Q I4 r2 r4 q4))
theorem pt_chain{op':zjz}(ho:OpR X (zig op) r)(ho':OpR X (zig op') r')(ha:PE X a ta)(hb:PE X b tb)(hc:PE X c tc)
  (hm:zkh [op,op'] [b,c]=false:=by with_unfolding_all rfl):PT X (.Compare a [op,op'] [b,c] pos) (tTest (tChain r r' ta tb tc)):=by
 intro pins s σ H Q I h
 refine isTrue_chain (thn (ha pins s σ H _ I h) λ v s1 ⟨x,H1,I1,r1,q1⟩=>test_link (thn (hb pins s1 σ H1 _ I1 q1) λ u s2 ⟨y,H2,I2,r2,q2⟩ =>
  thn (ho pins s2 σ H2 x y v u _ I2 r1 r2 q2) λ d s3 ⟨z,H3,I3,r3,k,e,q3⟩=>?_)) hm
 subst e
 cases r3
 refine zim ?_
 cases k with
 |false =>
  obtain⟨k',e',q'⟩:=q3
  cases e'
  exact znp ⟨H3,I3,q'⟩
 |true =>
  refine znq (test_last (thn (hc pins s3 σ H3 _ I3 q3) λ w' s4 ⟨z',H4,I4,r4,q4⟩=>thn (ho' pins s4 σ H4 y z' u w' _ I4 r2 r4 q4) λ d' s5 z9=>?_))
  obtain⟨z2,H5,I5,r5,k2,e2,q5⟩ := z9
  subst e2
  cases r5
  exact zim ⟨H5,I5,q5⟩
theorem qpk9:(zhu:Nat)<2 ^ 63:=by rw[zny];decide
theorem qqi9:OpR X (zir .Add) (λ x y H Q=>∃i j,x=.str i/\y=.str j/\i.length+j.length<=zhu/\Q (.str (i++j)) H):=by
 intro pins s σ H x y v u Q I rx ry h
 obtain⟨i,j,rfl,rfl,hz,q⟩:=h
 obtain⟨t,rfl⟩:=rx
 obtain⟨t',rfl⟩:=ry
 exact add_str (λ t' tk=>⟨.str (i++j),H,I.tok _,⟨_,rfl⟩,q⟩) hz
theorem vals1{x:V}(r:Vals [x] us):∃u,us=[u]/\RelV x u:=by
 cases r with
 |cons r1 r2=>cases r2;exact⟨_,rfl,r1⟩
theorem vals2{x y:V}(r:Vals [x,y] us):∃u w',us=[u,w']/\RelV x u/\RelV y w':=by
 cases r with
 |cons r1 r2 =>
  cases r2 with
  |cons r3 r4=>cases r4;exact⟨_,_,rfl,r1,r3⟩
theorem call_min2(hc:X.calm=true):CallR X (.builtin "min") (λ xs H Q=>∃i j,xs=[.int i,.int j]/\Q (.int (if j<i then j else i)) H):=by
 intro pins s σ H xs us Q I r h
 obtain⟨i,j,rfl,q⟩:=h
 obtain⟨u,w',rfl,⟨t,rfl⟩,⟨t',rfl⟩⟩:=vals2 r
 refine min_two_ints (I.ok.hd hc) λ h' tk k=>⟨_,H,I.kept k,?_,q⟩
 by_cases hj:j<i
 ·rw[if_pos hj,if_pos hj];exact⟨_,rfl⟩
 ·rw[if_neg hj,if_neg hj];exact⟨_,rfl⟩
theorem qmg9:CallR X (.type "str") (λ xs H Q=>∃i,xs=[.int i]/\i.natAbs.log2<1920/\Q (.str (toString i)) H):=by
 intro pins s σ H xs us Q I r h
 obtain⟨i,rfl,hz,q⟩:=h
 obtain⟨u,rfl,t,rfl⟩:=vals1 r
 exact PySem.P.str_of_int hz ⟨.str _,H,I.tok _,⟨_,rfl⟩,q⟩
end
structure ObjM(h:zic)(x dx C:zht)(mA:Str->Option zhs):Prop where
 obj:h.get? x=zhq (W.instObj C dx)
 ns:h.Ns1 dx mA
 ne:dx≠x
theorem lookIn_ns(n:h.Ns1 dx mA):∃od,h.get? dx=zhq od/\∀name,W.lookIn name od=zhq (mA name):=by
 obtain⟨o,es,ep,ho,hd,hk,_,hm⟩:=n
 refine⟨o,ho,λ name=>?_⟩
 have e:=hm name
 unfold nsFind findBy at e
 rw[<- Array.find?_toList] at e
 unfold W.lookIn
 rw[hd]
 dsimp only
 split
 ·rename_i y q
  rw[q] at e
  exact congrArg zhq e
 ·rename_i q
  rw[q] at e
  have a:es.toList.any (·.refKey)=false:=by
   rw[List.any_eq_false]
   intro y hy
   obtain⟨z,t,hkey⟩:=hk y (zef.mp hy)
   simp[zjy.refKey,hkey]
  have a':¬es.toList.any (·.refKey)=true:=by rw[a];exact zay
  rw[if_neg a']
  exact congrArg zhq e
theorem ObjM.look{x:zht}(I:ObjM h x dx C mA):∃od,W.InstAt h x (W.instObj C dx) C (zhq od)/\∀name,W.lookIn name od=zhq (mA name) :=
 let ⟨od,ho,hl⟩:=lookIn_ns I.ns
 ⟨od,⟨I.obj,rfl,rfl,ho⟩,hl⟩
section
variable {prog:zih}{w:zhy}{x f:zht}{name:Str}{v:zhs}
theorem get_map{expr:Bool}(X:K.In s.heap)(I:ObjM s.heap x dx C mA)(hg:W.plainGet K C name=true)(hh:W.hasDictIn K C=true)
  (ha:W.findIn K (.ref C) name=zhq zhr) (hv:mA name=zhq v) (hv':W.handedIn v=true) (h:Q v { s with toks:=s.toks+1 }) :
  zib (zia prog w) A (zob (.ref x) name expr) Q E s:=by
 obtain⟨od,J,hl⟩:=I.look
 exact W.get_value X J (W.plainGet_of hg).1 (W.findObj_own hh ha rfl (by rw[hl,hv])) hv' h
theorem get_meth{pl:Sem Bool}{Q:zhs×List zhs->zhx->Prop}(X:K.In s.heap)(I:ObjM s.heap x dx C mA)(hg:W.plainGet K C name=true)
  (hf:W.findIn K (.ref C) name=zhq (zhq (.ref f))) (ht:W.isFn K (.ref f)=true) (hv:mA name=zhr) (h:Q (.ref f,[.ref x]) s) :
  zib (zia prog w) A (zlx (.ref x) name pl) Q E s:=by
 obtain⟨od,J,hl⟩:=I.look
 exact W.method_fn X J (W.plainGet_of hg).1 (W.plainGet_of hg).2 hf (beq_iff_eq.mp ht) (by show(W.lookIn name od).map (·.isSome)=zhq false;rw[hl,hv];rfl) h
theorem qin9{ns:List Str}{Q:Unit->zhx->Prop}(X:K.In s.heap)(I:ObjM s.heap x dx C mA)
  (hs:W.findIn K (.ref C) "__setattr__"=zhq (zhq (.builtin "object.__setattr__"))) (hp:W.plainOver K C=true) (ht:W.takerIn K C name=zhq zhr) (hh:W.hasDictIn K C=true)
  (hw:PySem.Within mA ns) (hsz:ns.length<=zhu)
  (h:∀h',ObjM h' x dx C (λ y=>if y=name then zhq v else mA y)->zic.SameBut dx s.heap h'->Q () { s with heap:=h',toks:=s.toks+2 }) :
  zib (zia prog w) A (setAttr (.ref x) name v) Q E s:=by
 obtain⟨od,J,hl⟩:=I.look
 refine W.set_plain X J hs (W.osa_open (s:={ s with toks:=s.toks+1 }) (r:=zhr) X J hp ht λ b=>?_)
 obtain⟨cd,hc,hd'⟩:=W.any_some hh
 have hx:s.heap.get? x=zhq ⟨.ref C,zhq dx,.plain,#[]⟩:=I.obj
 refine zhv (zid (zhv (zhv (zmz hx (zhv (W.Looks.here (s:={ s with toks:=s.toks+1 }) (W.looks_clsIn X hc) ?_))))))
 rw[hd']
 refine zid (a:=zhq dx) (zhv (zid (zhv ?_)))
 refine wpAny_nsSet1 (s:={ s with toks:=s.toks+1 }) I.ns λ h' hn2 hs2=>?_
 obtain⟨oD,esD,epD,hoD,hdD,hcD⟩:=hn2.count (PySem.Within.cons name v hw)
 refine zhv (wpAny_lookBehind hoD (by rw[hdD];exact pastItsLine_dict (zbj hcD (by rw[zbb];omega))) ?_)
 exact zid (h _ ⟨(hs2.2 _ (Ne.symm I.ne)).trans I.obj,hn2,I.ne⟩ hs2)
theorem qrd9{R:Result->zhx->Prop}{vs:List zhs}(X:K.In s.heap)(hm:W.makesIn K C=true)
  (hi:W.findIn K (.ref C) "__init__"=zhq (zhq (.ref f))) (hf:W.typeIn K (.ref f)=zhq (.type "function"))
  (h:zjr (zia prog w) (A.under (.builtin "type.__call__" ⟨.ref C::vs,kw⟩)) (.call (.ref f) ⟨.ref (s.heap.objs.size+1)::vs,kw⟩) (W.InitBack (s.heap.objs.size+1) R)
   { s with heap:=(s.heap.push W.emptyDict).push (W.instObj C s.heap.objs.size) }) :
  zjr (zia prog w) A (.call (.ref C) ⟨vs,kw⟩) R s:=by
 obtain⟨hh,g,d,t,os⟩:=s
 exact W.make_core (W.makes_of X hm) (W.looks_findIn X hi) (λ self=>W.bind_fn X self hf) (.inl rfl) h
end
def putF(f:Str)(v:V):List (Str×V)->List (Str×V)
 | []=>[(f,v)]
 | (g,x)::r=>if g=f then(g,v)::r else(g,x)::putF f v r
theorem qjh9(f g:Str)(v:V):∀fs:List (Str×V),(putF f v fs).lookup g=if g=f then zhq v else fs.lookup g
 | []=>by
  show zeg g [(f,v)]=_
  by_cases h:g=f
  ·have hb:(g==f)=true:=beq_iff_eq.mpr h
   simp only[zeg,hb,if_pos h]
  ·have hb:(g==f)=false:=beq_eq_false_iff_ne.mpr h
   simp only[zeg,hb,if_neg h]
 | (k,x)::r=>by
  have ih:=qjh9 f g v r
  rw[show putF f v ((k,x)::r)=(if k=f then(k,v)::r else(k,x)::putF f v r) from rfl]
  by_cases hk:k=f
  ·rw[if_pos hk]
   by_cases h:g=k
   ·have hb:(g==k)=true:=beq_iff_eq.mpr h
    simp only[zeg,hb,if_pos (h.trans hk)]
   ·have hb:(g==k)=false:=beq_eq_false_iff_ne.mpr h
    simp only[zeg,hb,if_neg (λ e:g=f=>h (e.trans hk.symm))]
  ·rw[if_neg hk]
   by_cases h:g=k
   ·have hb:(g==k)=true:=beq_iff_eq.mpr h
    simp only[zeg,hb,if_neg (λ e:g=f=>hk (h.symm.trans e))]
   ·have hb:(g==k)=false:=beq_eq_false_iff_ne.mpr h
    simp only[zeg,hb]
    exact ih
theorem qkp9(f:Str)(v:V):∀fs:List (Str×V),f∈(putF f v fs).map (·.1)/\∀g,g∈fs.map (·.1)->g∈(putF f v fs).map (·.1)
 | []=>⟨by simp[putF],λ g h=>by simp at h⟩
 | (k,x)::r=>by
  obtain⟨i1,i2⟩:=qkp9 f v r
  rw[show putF f v ((k,x)::r)=(if k=f then(k,v)::r else(k,x)::putF f v r) from rfl]
  by_cases hk:k=f
  ·rw[if_pos hk]
   subst hk
   exact⟨by simp,λ g h=>by simpa using h⟩
  ·rw[if_neg hk]
   refine⟨?_,λ g h=>?_⟩
   ·rw[zbh]
    exact zal _ i1
   ·rw[zbh] at h ⊢
    rcases zag.mp h with e|e
    ·exact zag.mpr (.inl e)
    ·exact zal _ (i2 g e)
theorem qjn9(f:Str)(v:V):∀fs:List (Str×V),(putF f v fs).length<=fs.length+1
 | []=>by simp[putF]
 | (k,x)::r=>by
  have ih:=qjn9 f v r
  rw[show putF f v ((k,x)::r)=(if k=f then(k,v)::r else(k,x)::putF f v r) from rfl]
  by_cases hk:k=f
  ·rw[if_pos hk,zbb,zbb];omega
  ·rw[if_neg hk,zbb,zbb];omega
theorem RelO.some_of{o:Option zhs}(r:RelO (zhq v) o):∃u,o=zhq u/\RelV v u:=by
 cases o with
 |none=>exact(show False from r).elim
 |some u=>exact⟨u,rfl,r⟩
theorem RelO.none_of{o:Option zhs}(r:RelO zhr o):o=zhr:=by
 cases o with
 |none=>rfl
 |some u=>exact(show False from r).elim
theorem handed_of{u:zhs}(r:RelV v u):W.handedIn u=true:=by
 cases v with
 |non=>cases (show u=zhs.none from r);rfl
 |bl b=>cases (show u=zhs.bool b from r);rfl
 |int i=>obtain⟨t,e⟩:=(show ∃t,u=zhs.int i t from r);cases e;rfl
 |str x=>obtain⟨t,e⟩:=(show ∃t,u=zhs.str x t from r);cases e;rfl
 |byt b=>obtain⟨t,e⟩:=(show ∃t,u=zhs.bytes b t from r);cases e;rfl
 |flt b=>obtain⟨t,e⟩:=(show ∃t,u=zhs.float b t from r);cases e;rfl
 |ref a=>cases (show u=zhs.ref a from r);rfl
 |ty n=>cases (show u=zhs.type n from r);rfl
section
variable {w:zhy}{fs fs':List (Str×V)}
theorem qnz9(hok:HOk P w H h)(e:H a=zhq (.ins C dx fs)):∃mA,ObjM h a dx C mA/\(∀f,RelO (fs.lookup f) (mA f))/\PySem.Within mA (fs.map (·.1))/\fs.length<=1000/\H dx=zhq (.own a):=by
 obtain⟨d,z,ne,ob,mA,n,r,q⟩:=(show ObjOk P w H h a (.ins C dx fs) from hok a _ e)
 exact⟨mA,⟨ob,n,ne⟩,r,q,z,d⟩
end
structure Cls(K:W.Frag)(C:zht):Prop where
 pg:W.plainGet K C zbr=true
 hd:W.hasDictIn K C=true
 po:W.plainOver K C=true
 sa:W.findIn K (.ref C) "__setattr__"=zhq (zhq (.builtin "object.__setattr__"))
theorem Cls.get(c:Cls K C)(f:Str):W.plainGet K C f=true:=c.pg
def NoAttr(K:W.Frag)(C:zht)(f:Str):Prop:=W.findIn K (.ref C) f=zhq zhr
theorem NoAttr.taker{f:Str}(n:NoAttr K C f):W.takerIn K C f=zhq zhr:=by
 unfold W.takerIn
 rw[show W.findIn K (.ref C) f=zhq zhr from n]
 rfl
structure Con(K:W.Frag)(C:zht)(f:Str)(v:V)(u:zhs):Prop where
 at_:W.findIn K (.ref C) f=zhq (zhq u)
 rel:RelV v u
 get:W.specialIn K u "__get__"=zhq zhr
 cp:W.copiedNames.contains f=false
structure Meth(K:W.Frag)(C:zht)(m:Str)(f:zht):Prop where
 at_:W.findIn K (.ref C) m=zhq (zhq (.ref f))
 fn:W.isFn K (.ref f)=true
 kp:W.keepIn K (.ref f)=true
section
variable {fs:List (Str×V)}{f:Str}
theorem qsw9{b:Bool}(I:Inv X pins σ H s)(e:H a=zhq (.ins C dx fs))(c:Cls X.K C)(n:NoAttr X.K C f)(l:fs.lookup f=zhq v)
  (h:∀u s',Inv X pins σ H s'->RelV v u->Q u s'):zib (zia X.prog X.w) A (zob (.ref a) f b) Q E s:=by
 obtain⟨mA,O,r,_,_,_⟩:=qnz9 I.hok e
 obtain⟨u,hu,ru⟩:=RelO.some_of (v:=v) (o:=mA f) (by rw[<- l];exact r f)
 exact get_map I.kIn O (c.get f) c.hd n hu (handed_of ru) (h u _ (I.tok _) ru)
theorem qqr9{g:zht}{pl:Sem Bool}{Q:zhs×List zhs->zhx->Prop}(I:Inv X pins σ H s)(e:H a=zhq (.ins C dx fs))(c:Cls X.K C)(k:Meth X.K C m g)(l:fs.lookup m=zhr)
  (h:Q (.ref g,[.ref a]) s):zib (zia X.prog X.w) A (zlx (.ref a) m pl) Q E s:=by
 obtain⟨mA,O,r,_,_,_⟩:=qnz9 I.hok e
 have hn:mA m=zhr:=RelO.none_of (by rw[<- l];exact r m)
 exact get_meth I.kIn O (c.get m) k.at_ k.fn hn h
theorem qru9{y:V}{u:zhs}{Q:Unit->zhx->Prop}(I:Inv X pins σ H s)(e:H a=zhq (.ins C dx fs))(c:Cls X.K C)(n:NoAttr X.K C f)(hl:fs.length<1000)(ry:RelV y u)
  (h:∀s',Inv X pins σ (upd H a (.ins C dx (putF f y fs))) s'->Q () s'):zib (zia X.prog X.w) A (setAttr (.ref a) f u) Q E s:=by
 obtain⟨mA,O,r,wi,_,ho⟩:=qnz9 I.hok e
 have hz:(fs.map (·.1)).length<=zhu:=by rw[zac,zny];omega
 refine qin9 I.kIn O c.sa c.po n.taker c.hd wi hz λ h' O' sb=>h _ ?_
 have hd:∃o,h'.get? dx=zhq o:=let ⟨o,_,_,e',_⟩:=O'.ns;⟨o,e'⟩
 refine I.write (x:=a) (e:=dx) (by rw[e];exact True.intro) (.inr ho) (λ b q hb z=>(sb.2 b hb).trans z) hd ?_
 refine⟨by rw[qao9 O.ne];exact ho,?_,O.ne,O'.obj,_,O'.ns,λ g=>?_,λ g hg=>?_⟩
 ·have:=qjn9 f y fs;omega
 ·show RelO ((putF f y fs).lookup g) (if g=f then zhq u else mA g)
  rw[qjh9]
  by_cases q:g=f
  ·rw[if_pos q,if_pos q];exact ry
  ·rw[if_neg q,if_neg q];exact r g
 ·by_cases q:g=f
  ·rw[q];exact(qkp9 f y fs).1
  ·refine(qkp9 f y fs).2 g (wi g λ z=>hg ?_)
   show(if g=f then zhq u else mA g)=zhr
   rw[if_neg q];exact z
theorem Inv.made(I:Inv X pins σ H s):Inv X pins σ (upd (upd H s.heap.objs.size (.own (s.heap.objs.size+1))) (s.heap.objs.size+1) (.ins C s.heap.objs.size []))
  { s with heap:=(s.heap.push W.emptyDict).push (W.instObj C s.heap.objs.size) }:=by
 have e1:(s.heap.push W.emptyDict).get? s.heap.objs.size=zhq W.emptyDict:=zav s.heap rfl
 have e2:((s.heap.push W.emptyDict).push (W.instObj C s.heap.objs.size)).get? (s.heap.objs.size+1)=zhq (W.instObj C s.heap.objs.size):=by
  have:=zav (s.heap.push W.emptyDict) (o:=W.instObj C s.heap.objs.size) rfl
  rwa [zdr] at this
 have e3:(s.heap.push W.emptyDict).Ns s.heap.objs.size (λ _=>zhr):=⟨W.emptyDict,#[],_,e1,rfl,(λ e he=>absurd he (by simp)),λ _=>rfl⟩
 have I1:=I.laid (a:=s.heap.objs.size) (o:=.own (s.heap.objs.size+1)) (h':=s.heap.push W.emptyDict) (t':=s.toks) (λ b u q=>zao _ q) (zaq _) ⟨_,e1⟩
 refine I1.laid (a:=s.heap.objs.size+1) (o:=.ins C s.heap.objs.size []) (t':=s.toks) (λ b u q=>zao _ q) (zgd (zdr _ _)) ?_
 have ne:s.heap.objs.size≠s.heap.objs.size+1:=zbo (zev _)
 refine⟨by rw[qao9 ne,qaj9],zbx _,ne,e2,λ _=>zhr,(zic.Ns1.of_empty e3).at λ o q=>zao _ q,λ _=>True.intro,λ y hy=>absurd rfl hy⟩
theorem attr_of{prog:zih}{w:zhy}{env:Env}{f:Str}(hb:zin e f env (zii e env)=zii e env)
  (h:zib (zia prog w) A (zii e env) (λ o s₁=>zib (zia prog w) A (zob o f true) Q E s₁) E s):zib (zia prog w) A (zii (.Attribute e f pos) env) Q E s :=
 Attribute_any_ h (by rw[arm_eval_Attribute,hb])
end
def tFld(K:W.Frag)(ta:TE)(f:Str):TE:=λ σ H Q=>ta σ H λ x H1=>∃a C dx fs v,x=.ref a/\H1 a=zhq (.ins C dx fs)/\Cls K C/\NoAttr K C f/\fs.lookup f=zhq v/\Q v H1
def sFld(K:W.Frag)(ta tv:TE)(f:Str):TS:=λ D σ H=>tv σ H λ y H1=>ta σ H1 λ x H2=>∃a C dx fs,x=.ref a/\H2 a=zhq (.ins C dx fs)/\Cls K C/\NoAttr K C f/\fs.length<1000 /\
 D.nx σ (upd H2 a (.ins C dx (putF f y fs)))
section
variable {o value:Expr}{f:Str}{pos' tpos:Pos}{tv:TE}
theorem pe_fld(he:PE X e ta)(hb:zin e f X.env (zii e X.env)=zii e X.env):PE X (.Attribute e f pos) (tFld X.K ta f):=by
 intro pins s σ H Q I h
 refine attr_of hb (thn (he pins s σ H _ I h) λ u s1 z9=>?_)
 obtain⟨x,H1,I1,rx,a,C,dx,fs,v,ex,ea,c,n,l,q⟩ := z9
 subst ex
 obtain rfl:u=zhs.ref a:=rx
 exact qsw9 I1 ea c n l λ u' s2 I2 ru=>⟨v,H1,I2,ru,q⟩
theorem ps_fld(ha:PE X o ta)(hv:PE X value tv)(hs:zjd value (zhq (.Attribute o f pos')) pos.line X.env=pure false):PS X (.Assign [.Attribute o f pos'] value pos) (sFld X.K ta tv f):=by
 intro pins s σ H D I h
 refine plainObj_wpAny_Assign_Attribute (thn (hv pins s σ H _ I h) λ u s1 ⟨y,H1,I1,ry,q⟩=>thn (ha pins s1 σ H1 _ I1 q) λ ov s2 z9=>?_) hs
 obtain⟨x,H2,I2,rx,a,C,dx,fs,ex,ea,c,n,l,q2⟩ := z9
 subst ex
 obtain rfl:ov=zhs.ref a:=rx
 exact qru9 I2 ea c n l ry λ s3 I3=>⟨σ,_,I3,q2⟩
end
section
variable {c:zhs}{b:Bool}
inductive TyOf(K:W.Frag)(H:Hp):V->zhs->Prop where
 |non:TyOf K H .non (.type "NoneType")
 |bl (x:Bool):TyOf K H (.bl x) (.type "bool")
 |int (i:Int):TyOf K H (.int i) (.type "int")
 |str (x:Str):TyOf K H (.str x) (.type "str")
 |flt (x:UInt64):TyOf K H (.flt x) (.type "float")
 |lst {a:zht} {xs:List V} (e:H a=zhq (.lst xs)):TyOf K H (.ref a) (.type "list")
 |frz {a:zht} {o:Obj} {xs:List V} (e:H a=zhq (.frz o (.lst xs))):TyOf K H (.ref a) (.type "list")
 |tup {a:zht} {xs:List V} (e:H a=zhq (.tup xs)):TyOf K H (.ref a) (.type "tuple")
 |dK {a:zht} {kvs:List (Key×V)} (e:H a=zhq (.dK kvs)):TyOf K H (.ref a) (.type "dict")
 |dT {a:zht} {kvs:List (List Key×V)} (e:H a=zhq (.dT kvs)):TyOf K H (.ref a) (.type "dict")
 | ins {a C dx:zht} {fs:List (Str×V)} (e:H a=zhq (.ins C dx fs)) (cl:Cls K C) (ha:W.findIn K (.ref C) "__class__"=zhq (zhq (.builtin "object.__class__")))
   (hn:W.specialIn K (.builtin "object.__class__") "__get__"=zhq (zhq (.builtin "getset_descriptor.__get__"))) (htk:W.takesIn K (.builtin "object.__class__")=zhq true)
   (hm:W.mroIn K C (.type "object")=zhq true):TyOf K H (.ref a) (.ref C)
theorem isinst_ok{x:V}{u t:zhs}(I:Inv X pins σ H s)(rx:RelV x u)(ty:TyOf X.K H x t)(e:W.kitOne X.K t c=zhq b)(h:∀tk,Q (.bool b) { s with toks:=tk }) :
  zib (zia X.prog X.w) A (call (.builtin "isinstance") [u,c]) Q E s:=by
 cases ty with
 |non=>cases (show u=zhs.none from rx);exact W.kia_one W.kitx_none I.kIn True.intro e (λ z=>nomatch z) h
 |bl y=>cases (show u=zhs.bool y from rx);exact W.kia_one W.kitx_bool I.kIn True.intro e (λ z=>nomatch z) h
 |int i=>obtain⟨t,q⟩:=(show ∃t,u=zhs.int i t from rx);cases q;exact W.kia_one W.kitx_int I.kIn True.intro e (λ z=>nomatch z) h
 |str y=>obtain⟨t,q⟩:=(show ∃t,u=zhs.str y t from rx);cases q;exact W.kia_one W.kitx_str I.kIn True.intro e (λ z=>nomatch z) h
 |flt y=>obtain⟨t,q⟩:=(show ∃t,u=zhs.float y t from rx);cases q;exact W.kia_one W.kitx_float I.kIn True.intro e (λ z=>nomatch z) h
 | @lst a xs ea =>
  cases (show u=zhs.ref a from rx)
  obtain⟨_,_,n,_,h1⟩:=(show ObjOk X.prog X.w H s.heap a (.lst xs) from I.hok a _ ea)
  exact W.kia_one W.kitx_list I.kIn ⟨_,h1,rfl⟩ e (λ z=>nomatch z) h
 | @frz a ob xs ea =>
  cases (show u=zhs.ref a from rx)
  obtain⟨_,_,_,n,_,h1⟩:=(show ObjOk X.prog X.w H s.heap a (.frz ob (.lst xs)) from I.hok a _ ea)
  exact W.kia_one W.kitx_list I.kIn ⟨_,h1,rfl⟩ e (λ z=>nomatch z) h
 | @tup a xs ea =>
  cases (show u=zhs.ref a from rx)
  obtain⟨_,_,_,p⟩:=(show ObjOk X.prog X.w H s.heap a (.tup xs) from I.hok a _ ea)
  obtain⟨o,h1,h2,_⟩:=p
  exact W.kia_one W.kitx_tuple I.kIn ⟨o,h1,h2⟩ e (λ z=>nomatch z) h
 | @dK a kvs ea =>
  cases (show u=zhs.ref a from rx)
  obtain⟨_,_,vs,_,p⟩:=(show ObjOk X.prog X.w H s.heap a (.dK kvs) from I.hok a _ ea)
  obtain⟨o,es,ep,h1,h2,_⟩:=p
  exact W.kia_one W.kitx_dict I.kIn ⟨o,h1,h2.1⟩ e (λ z=>nomatch z) h
 | @dT a kvs ea =>
  cases (show u=zhs.ref a from rx)
  obtain⟨_,_,xs,_,o,es,ep,h1,h2,_⟩:=(show ObjOk X.prog X.w H s.heap a (.dT kvs) from I.hok a _ ea)
  exact W.kia_one W.kitx_dict I.kIn ⟨o,h1,h2.1⟩ e (λ z=>nomatch z) h
 | @ins a C dx fs ea cl ha hn htk hm =>
  cases (show u=zhs.ref a from rx)
  obtain⟨mA,O,_⟩:=qnz9 I.hok ea
  obtain⟨od,J,_⟩:=O.look
  exact W.kia_one (W.kitx_own (cl.get _) cl.hd ha hn htk hm) I.kIn J e (λ z=>nomatch z) h
end
structure Room(k:Nat)(A:zil):Prop where
 hd:A.handled=zhr
 dp:A.depth+3*k+5<zna
 un:A.units+16*k+200<zjw
theorem Room.mono{j k:Nat}(r:Room k A)(h:j<=k):Room j A:=⟨r.hd,by have:=r.dp;omega,by have:=r.un;omega⟩
theorem Room.deeper{k:Nat}{A:zil}(r:Room (k+1) A)(env:Env):Room k (A.deeper env) :=
 ⟨r.hd,by have:=r.dp;show A.depth+1+3*k+5<_;omega,by have:=r.un;show A.units+3+16*k+200<_;omega⟩
theorem Room.in1{k:Nat}{A:zil}(r:Room (k+1) A):Room k A.in1 :=
 ⟨r.hd,by have:=r.dp;show A.depth+3*k+5<_;omega,by have:=r.un;show A.units+1+16*k+200<_;omega⟩
theorem qrj9:(A.under (.builtin "type.__call__" ⟨.ref C::us,kw⟩)).depth=A.depth+1:=by
 first|rfl|simp[zil.under,zkp.weight,zkp.isCreation,zkp.isGuard,zkp.isCaller,zkp.frames,zkp.isFrame,guardIds]
theorem qsf9:(A.under (.builtin "type.__call__" ⟨.ref C::us,kw⟩)).units=A.units+1:=by
 first|rfl|simp[zil.under,zkp.cUnits,zkp.frames,zkp.isFrame]
theorem Room.make{k:Nat}(r:Room (k+1) A)(C:zht)(us:List zhs)(kw:List (Str×zhs)):Room k (A.under (.builtin "type.__call__" ⟨.ref C::us,kw⟩)) :=
 ⟨r.hd,by have:=r.dp;rw[qrj9];omega,by have:=r.un;rw[qsf9];omega⟩
theorem Room.depth{k:Nat}{A:zil}(r:Room k A):A.depth<zna:=by have:=r.dp;omega
theorem Room.units{k:Nat}{A:zil}(r:Room k A):A.units+64<zjw:=by have:=r.un;omega
def tNil:TA:=λ _ H Q=>Q [] H
def tCons(ta:TE)(tr:TA):TA:=λ σ H Q=>ta σ H λ x H1=>tr σ H1 λ xs H2=>Q (x::xs) H2
section
variable {t:TA}
theorem pa_nil:PA X [] tNil:=λ _ _ _ _ H Q I h=>Calls.spliced_nil ⟨[],H,I,.nil,h⟩
theorem pa_cons(ha:PE X e te)(hr:PA X es t)(hs:zif (e::es) X.env=(false,zii e X.env)::zif es X.env:=by rfl):PA X (e::es) (tCons te t):=by
 intro pos pins s σ H Q I h
 rw[hs]
 show zib _ _ (spliced ((false,zii e X.env)::ziu pos (zif es X.env))) _ _ s
 refine Calls.spliced_cons (thn (ha pins s σ H _ I h) λ u s1 z9=>?_)
 obtain⟨x,H1,I1,r1,q1⟩ := z9
 exact thn (hr pos pins s1 σ H1 _ I1 q1) λ us s2 ⟨xs,H2,I2,r2,q2⟩=>⟨x::xs,H2,I2,.cons r1 r2,q2⟩
def tTup(t:TA):TE:=λ σ H Q=>t σ H λ xs H1=>xs.length<=zhu/\∀p,H1 p=zhr->Q (.ref p) (upd H1 p (.tup xs))
def tLst(t:TA):TE:=λ σ H Q=>t σ H λ xs H1=>xs.length<=zhu/\∀p,H1 p=zhr->Q (.ref p) (upd H1 p (.lst xs))
theorem pe_tup{x1}(h:PA X es t):PE X (.Tuple es x1 pos) (tTup t):=by
 intro pins s σ H Q I hq
 refine wpAny_Tuple_spliced (thn (h pos pins s σ H _ I hq) λ us s1 ⟨xs,H1,I1,r,z,q⟩=>⟨by rw[<- r.length];exact z,?_⟩)
 have hf:H1 s1.heap.objs.size=zhr:=I1.hok.fresh (zaq _)
 refine⟨.ref s1.heap.objs.size,upd H1 s1.heap.objs.size (.tup xs),I1.laid (t':=s1.toks) (λ b u e=>zao _ e) (zaq _) ?_,rfl,q _ hf⟩
 exact⟨z,us,r,⟨_,zav _ rfl,rfl,_,rfl⟩⟩
theorem pe_lst(h:PA X es t):PE X (.List es pos) (tLst t):=by
 intro pins s σ H Q I hq
 refine wpAny_List_spliced (thn (h pos pins s σ H _ I hq) λ us s1 ⟨xs,H1,I1,r,z,q⟩=>⟨by rw[<- r.length];exact z,?_⟩)
 have hf:H1 s1.heap.objs.size=zhr:=I1.hok.fresh (zaq _)
 refine⟨.ref s1.heap.objs.size,upd H1 s1.heap.objs.size (.lst xs),I1.laid (t':=s1.toks) (λ b u e=>zao _ e) (zaq _) ?_,rfl,q _ hf⟩
 exact⟨z,us,0,r,zav _ rfl⟩
end
abbrev Sp:=List V->Hp->VK->XK->Prop
variable {sp:Sp}
abbrev CXT:=List Env->Hp->zhx->XK->zhs->zhx->Prop
structure Env0(P:zih)(w:zhy)(K:W.Frag)(mg:Str->Option zhs)(base:zic)(A:zil)(outer:List Env)(s:zhx)(H:Hp):Prop where
 frames:A.frames=zhq outer
 mod:Mod K mg base
 bs:∀b o,base.get? b=zhq o->s.heap.get? b=zhq o/\H b=zhr
 bsz:base.objs.size<=s.heap.objs.size
 funs:s.heap.FunFrames base outer
 frf:∀b∈frs outer,H b=zhr
 hok:HOk P w H s.heap
 bare:zjl s.gens
variable {CX:CXT}
def CE(outer:List Env)(P:zih)(w:zhy)(H:Hp)(s:zhx)(Q:VK)(u:zhs)(s':zhx):Prop :=
 ∃v H',s'.os=s.os/\zjl s'.gens/\Un (frs outer) [] H H' s.heap s'.heap/\HOk P w H' s'.heap/\RelV v u/\Q v H'
def CR(CX:CXT)(outer:List Env)(P:zih)(w:zhy)(H:Hp)(s:zhx)(Q:VK)(E:XK)(r:Result)(s':zhx):Prop :=
 match r with
 | .ok (.ret u)=>CE outer P w H s Q u s'
 | .ok _=>False
 | .error e=>CX outer H s E e s'
structure FnOk(P:zih)(w:zhy)(K:W.Frag)(mg:Str->Option zhs)(base:zic)(CX:CXT)(k:Nat)(f:zht)(fd:zik)(ps:List Str)(sp:Sp):Prop where
 len:∀vs H Q E,sp vs H Q E->vs.length=ps.length
 run:∀(A:zil)(outer:List Env)(s:zhx)(H:Hp)(args:Args)(us:List zhs)(vs:List V)(Q:VK)(E:XK),Room k A->Env0 P w K mg base A outer s H->zjs s fd args (ps.zip us)->Vals vs us->sp vs H Q E ->
  zjr (zia P w) A (.call (.ref f) args) (CR CX outer P w H s Q E) s
theorem FnOk.mono{P:zih}{w:zhy}{K:W.Frag}{mg:Str->Option zhs}{base:zic}{CX:CXT}{j k:Nat}{f:zht}{fd:zik}{ps:List Str}{sp:Sp}(F:FnOk P w K mg base CX j f fd ps sp)(h:j<=k) :
  FnOk P w K mg base CX k f fd ps sp:=⟨F.len,λ A outer s H args us vs Q E hr=>F.run A outer s H args us vs Q E (hr.mono h)⟩
theorem FnOk.imp{w:zhy}{k:Nat}{f:zht}{sp':Sp}(F:FnOk P w K mg base CX k f fd ps sp)
  (h:∀vs H Q E,sp' vs H Q E->sp vs H Q E):FnOk P w K mg base CX k f fd ps sp' :=
 ⟨λ vs H Q E q=>F.len vs H Q E (h _ _ _ _ q),λ A outer s H args us vs Q E hr he hb hv hs=>F.run A outer s H args us vs Q E hr he hb hv (h _ _ _ _ hs)⟩
theorem Env0.make{w:zhy}{outer:List Env}(e:Env0 P w K mg base A outer s H)(C:zht)(us:List zhs)(kw:List (Str×zhs)) :
  Env0 P w K mg base (A.under (.builtin "type.__call__" ⟨.ref C::us,kw⟩)) outer s H:=⟨by first|exact e.frames|(simpa [zil.under,zkp.envs,zkp.isFrame,pushEnvs] using e.frames),e.mod,e.bs,e.bsz,e.funs,e.frf,e.hok,e.bare⟩
theorem Env0.in1{P:zih}{w:zhy}{K:W.Frag}{mg:Str->Option zhs}{base:zic}{A:zil}{outer:List Env}{s:zhx}{H:Hp}(e:Env0 P w K mg base A outer s H) :
  Env0 P w K mg base A.in1 outer s H:=⟨e.frames,e.mod,e.bs,e.bsz,e.funs,e.frf,e.hok,e.bare⟩
section
variable {s':zhx}
theorem Inv.env0(I:Inv X pins σ H s):Env0 X.prog X.w X.K X.mg X.base X.A X.stack s H :=
 ⟨I.ok.frames,I.ok.mod,I.bs,zbj I.ok.bsz I.sz,I.stack,I.stkFree,I.hok,I.bare⟩
theorem Inv.after{Q:VK}{u:zhs}(I:Inv X pins σ H s)(h:CE X.stack X.prog X.w H s Q u s'):EP X pins σ Q u s':=by
 obtain⟨v,H',os,bare,un,hok,r,q⟩:=h
 obtain⟨hh,g,d,t,os'⟩:=s'
 obtain rfl:os'=s.os:=os
 exact⟨v,H',I.call (h':=hh) (g':=g) (d':=d) (t':=t) (ch:=[]) un hok bare (λ b z=>absurd z (by simp)),r,q⟩
end
def tCall(sp:Sp)(dvs:List V)(E:XK)(t:TA):TE:=λ σ H Q=>t σ H λ vs H1=>sp (vs++dvs) H1 Q E
def tMeth(C:zht)(m:Str)(sp:Sp)(dvs:List V)(E:XK)(ta:TE)(t:TA):TE:=λ σ H Q=>ta σ H λ x H1=>∃a dx fs,x=.ref a/\H1 a=zhq (.ins C dx fs)/\fs.lookup m=zhr /\
 t σ H1 λ vs H2=>sp (x::(vs++dvs)) H2 Q E
def tMake(C:zht)(sp:Sp)(dvs:List V)(E:XK)(t:TA):TE:=λ σ H Q=>t σ H λ vs H1=>∀x dx,H1 x=zhr->H1 dx=zhr->dx≠x ->
 sp (.ref x::(vs++dvs)) (upd (upd H1 dx (.own x)) x (.ins C dx [])) (λ v H2=>v=.non/\Q (.ref x) H2) E
def Binds(K:W.Frag)(fd:zik)(ps:List Str)(ds:List zhs):Prop :=
 ∀(s:zhx)(us:List zhs),K.In s.heap->(us++ds).length=ps.length->zjs s fd ⟨us,[]⟩ (ps.zip (us++ds))
theorem Binds.all(h:∀us:List zhs,us.length=ps.length->zmf fd ⟨us,[]⟩=pure (ps.zip us)):Binds K fd ps []:=λ s us _ hl=>by
 rw[zce] at hl ⊢
 exact .of_eq (h us hl)
def qjb9(CX:CXT)(X:Cx)(E:XK):Prop:=∀(pins:List (zht×Obj)) (σ:St) (H:Hp) (s:zhx) (e:zhs) (s':zhx),Inv X pins σ H s->CX X.stack H s E e s'->X.xe e s'
section
variable {k:Nat}{f:zht}{dvs:List V}{ds:List zhs}{E:XK}{apos:Pos}{o:Expr}{t:TA}
theorem run_fn{Q:VK}(F:FnOk X.prog X.w X.K X.mg X.base CX k f fd ps sp)(hr:Room k X.A)(hb:Binds X.K fd ps ds)(hd:Vals dvs ds)(hx:qjb9 CX X E)
  (I:Inv X pins σ H s) (r:Vals vs us) (h:sp (vs++dvs) H Q E):zib (zia X.prog X.w) X.A (call (.ref f) us) (EP X pins σ Q) X.xe s:=by
 have r2:Vals (vs++dvs) (us++ds):=r.append hd
 have hl:(us++ds).length=ps.length:=by rw[<- r2.length];exact F.len _ _ _ _ h
 refine zkb (zjf (F.run X.A X.stack s H ⟨us,[]⟩ (us++ds) (vs++dvs) Q E hr I.env0 (hb s us I.kIn hl) r2 h) λ r s' hq=>?_)
 cases r with
 |error e=>exact hx pins σ H s e s' I hq
 |ok fl =>
  cases fl with
  |ret u=>exact I.after hq
  |next=>exact False.elim hq
  |brk=>exact False.elim hq
  |cont=>exact False.elim hq
theorem pe_call(F:FnOk X.prog X.w X.K X.mg X.base CX k f fd ps sp)(hr:Room k X.A)(hg:Gl X x)(hm:X.mg x=zhq (.ref f))(hk:W.keepIn X.K (.ref f)=true)(hb:Binds X.K fd ps ds)(hd:Vals dvs ds)(hx:qjb9 CX X E)
  (ha:PA X (e::es) t) (hdb:(x==("__debug__":Str))=false:=by decide) (he:zif (e::es) X.env=(false,zii e X.env)::zif es X.env:=by rfl) (hpl:(ziu pos (zif es X.env)).any (·.1)=false:=by rfl) :
  PE X (.Call (.Name x p) (e::es) [] pos) (tCall sp dvs E t):=by
 intro pins s σ H Q I h
 refine zjb (qkx9 I hg hm ?_ hdb)
 refine W.callWith_K (h₀:=X.base) I.ok.mod.kin hk (thn (ha pos pins s σ H _ I h) λ us s1 ⟨vs,H1,I1,r,q⟩=>⟨I1.kIn,?_⟩) he hpl
 exact run_fn F hr hb hd hx I1 r q
structure Mk(K:W.Frag)(C f:zht):Prop where
 makes:W.makesIn K C=true
 init:W.findIn K (.ref C) "__init__"=zhq (zhq (.ref f))
 fn:W.isFn K (.ref f)=true
 kp:W.keepIn K (.ref C)=true
theorem run_make{Q:VK}(M:Mk X.K C f)(F:FnOk X.prog X.w X.K X.mg X.base CX k f fd ps sp)(hr:Room (k+1) X.A)(hb:Binds X.K fd ps ds)(hd:Vals dvs ds)
  (hx:qjb9 CX X E) (I:Inv X pins σ H s) (r:Vals vs us)
  (h:∀x dx,H x=zhr->H dx=zhr->dx≠x->sp (.ref x::(vs++dvs)) (upd (upd H dx (.own x)) x (.ins C dx [])) (λ v H2=>v=.non/\Q (.ref x) H2) E) :
  zib (zia X.prog X.w) X.A (call (.ref C) us) (EP X pins σ Q) X.xe s:=by
 have hq:=h (s.heap.objs.size+1) s.heap.objs.size (I.hok.fresh (zfr _)) (I.hok.fresh (zaq _)) (zbo (zev _))
 have I2:=Inv.made (C:=C) I
 have r2:Vals (V.ref (s.heap.objs.size+1)::(vs++dvs)) (zhs.ref (s.heap.objs.size+1)::(us++ds)):=.cons rfl (r.append hd)
 have hl:(zhs.ref (s.heap.objs.size+1)::us++ds).length=ps.length:=by
  have e:=r2.length
  rw[F.len _ _ _ _ hq] at e
  exact e.symm
 refine zkb (qrd9 (f:=f) I.kIn M.makes M.init (beq_iff_eq.mp M.fn) (zjf (F.run _ X.stack _ _ ⟨zhs.ref (s.heap.objs.size+1)::us,[]⟩ (zhs.ref (s.heap.objs.size+1)::(us++ds)) _ _ E (hr.make C us [])
  (I2.env0.make C us []) (hb _ (zhs.ref (s.heap.objs.size+1)::us) I2.kIn hl) r2 hq) λ r s' hq'=>?_))
 cases r with
 |error e=>exact hx pins σ _ _ e s' I2 hq'
 |ok fl =>
  cases fl with
  |ret u =>
   obtain⟨v,H',I3,rv,ev,q3⟩:=I2.after hq'
   subst ev
   exact⟨rv,⟨V.ref (s.heap.objs.size+1),H',I3,rfl,q3⟩⟩
  |next=>exact False.elim hq'
  |brk=>exact False.elim hq'
  |cont=>exact False.elim hq'
theorem pe_make(M:Mk X.K C f)(F:FnOk X.prog X.w X.K X.mg X.base CX k f fd ps sp)(hr:Room (k+1) X.A)(hg:Gl X x)(hm:X.mg x=zhq (.ref C))(hb:Binds X.K fd ps ds)(hd:Vals dvs ds)(hx:qjb9 CX X E)
  (ha:PA X (e::es) t) (hdb:(x==("__debug__":Str))=false:=by decide) (he:zif (e::es) X.env=(false,zii e X.env)::zif es X.env:=by rfl) (hpl:(ziu pos (zif es X.env)).any (·.1)=false:=by rfl) :
  PE X (.Call (.Name x p) (e::es) [] pos) (tMake C sp dvs E t):=by
 intro pins s σ H Q I h
 refine zjb (qkx9 I hg hm ?_ hdb)
 refine W.callWith_K (h₀:=X.base) I.ok.mod.kin M.kp (thn (ha pos pins s σ H _ I h) λ us s1 ⟨vs,H1,I1,r,q⟩=>⟨I1.kIn,?_⟩) he hpl
 exact run_make M F hr hb hd hx I1 r q
end
section
variable {k:Nat}{f:zht}{ks:List Str}{E:XK}{apos kpos:Pos}{o:Expr}{kws:List zko}{t tk:TA}{nm:Option Str}
structure KBinds(K:W.Frag)(fd:zik)(ps ks:List Str)(g:List zhs->List zhs->List zhs)(gV:List V->List V->List V):Prop where
 to:∀(s:zhx)(us ws:List zhs),K.In s.heap->(g us ws).length=ps.length->zjs s fd ⟨us,ks.zip ws⟩ (ps.zip (g us ws))
 rel:∀{vs:List V}{us:List zhs}{zs:List V}{ws:List zhs},Vals vs us->Vals zs ws->Vals (gV vs zs) (g us ws)
variable {g:List zhs->List zhs->List zhs}{gV:List V->List V->List V}
end
structure FnScope(N P:List Str)(sc:zjc):Prop where
 kind:sc.kind=.function
 co:sc.isCoroutine=false
 gen:sc.isGenerator=false
 nd:N.Nodup
 pre:N.take P.length=P
 par:∀x∈P,sc.names.lookup x=zhq .local\/sc.names.lookup x=zhq .cell
 nofree:∀y∈sc.names,y.2 ≠ .free
theorem qoh9{kindOf:Str->Option zkq}{x:Str}:∀{binds:List (Str×zhs)} {m:Str->Option zhs},(∀v,(x,v)∉binds)->zlc kindOf binds m x=m x
 | [],_,_=>rfl
 | (n,v)::r,m,h=>by
  unfold zlc
  rw[qoh9 λ w hw=>h w (zal _ hw)]
  split
  ·have:x≠n:=by rintro rfl;exact h v zan
   simp[this]
  ·rfl
theorem qnl9{kindOf:Str->Option zkq}{x:Str}:∀{binds:List (Str×zhs)} {m:Str->Option zhs},(∀v,(x,v)∉binds)->zld kindOf binds m x=m x
 | [],_,_=>rfl
 | (n,v)::r,m,h=>by
  unfold zld
  rw[qnl9 λ w hw=>h w (zal _ hw)]
  split
  ·rfl
  ·have:x≠n:=by rintro rfl;exact h v zan
   simp[this]
theorem qof9{kindOf:Str->Option zkq}{x:Str}{v:zhs}:∀{P:List Str}{vs:List zhs}{i:Nat}{m:Str->Option zhs},P.Nodup->P[i]?=zhq x->vs[i]?=zhq v->kindOf x=zhq .local ->
  zlc kindOf (P.zip vs) m x=zhq v
 | [],_,_,_,_,h,_,_=>by simp at h
 |_::_,[],_,_,_,_,h,_=>by simp at h
 |p::P,w::vs,0,m,nd,h1,h2,hk=>by
  simp at h1 h2;subst h1;subst h2
  show zlc kindOf ((p,w)::P.zip vs) m p=_
  unfold zlc
  rw[qoh9 λ v hv=>(zem.mp nd).1 (zfk hv).1,if_pos hk]
  simp
 |p::P,w::vs,i+1,m,nd,h1,h2,hk=>by
  show zlc kindOf ((p,w)::P.zip vs) m x=_
  unfold zlc
  exact qof9 (i:=i) (zem.mp nd).2 (by simpa using h1) (by simpa using h2) hk
theorem qoq9{kindOf:Str->Option zkq}{x:Str}{v:zhs}:∀{P:List Str}{vs:List zhs}{i:Nat}{m:Str->Option zhs},P.Nodup->P[i]?=zhq x->vs[i]?=zhq v->kindOf x≠zhq .local ->
  zld kindOf (P.zip vs) m x=zhq v
 | [],_,_,_,_,h,_,_=>by simp at h
 |_::_,[],_,_,_,_,h,_=>by simp at h
 |p::P,w::vs,0,m,nd,h1,h2,hk=>by
  simp at h1 h2;subst h1;subst h2
  show zld kindOf ((p,w)::P.zip vs) m p=_
  unfold zld
  rw[qnl9 λ v hv=>(zem.mp nd).1 (zfk hv).1,if_neg hk]
  simp
 |p::P,w::vs,i+1,m,nd,h1,h2,hk=>by
  show zld kindOf ((p,w)::P.zip vs) m x=_
  unfold zld
  exact qoq9 (i:=i) (zem.mp nd).2 (by simpa using h1) (by simpa using h2) hk
def start(N:List Str)(vs:List V):St:=vs.map zhq++zbc (N.length-vs.length) zhr
def cxOf(CX:CXT)(P:zih)(w:zhy)(K:W.Frag)(mg:Str->Option zhs)(base:zic)(N:List Str)(qual:Str)(scope:zjc)(f:zht)(cd:zhs)(A:zil)(outer:List Env)(s:zhx)(H:Hp)(E:XK):Cx where
 prog:=P
 w:=w
 K:=K
 mg:=mg
 base:=base
 A:=A.deeper (zjn qual scope s.heap.objs.size f cd)
 N:=N
 s₀:=s
 H₀:=H
 env:=zjn qual scope s.heap.objs.size f cd
 outer:=outer
 stack:=zjn qual scope s.heap.objs.size f cd::outer
 ex:=[]
 calm:=true
 fn:=λ _=>true
 pn:=[]
 xe:=λ e s'=>zib (zia P w) (A.deeper (zjn qual scope s.heap.objs.size f cd)) (leaving (zjn qual scope s.heap.objs.size f cd) e) (λ _ s''=>CX outer H s E e s'') (λ e' s''=>CX outer H s E e' s'') s'
theorem qpy9{sc:zjc}(h:sc.names.lookup x=zhq .cell):∃c,(znf n sc.names []).lookup x=zhq c:=by
 have q:=W.cellsFrom_some sc.names n [] (.inl h)
 exact zcb.mp q
theorem inv_start{w:zhy}{N:List Str}{qual:Str}{scope:zjc}{f:zht}{cd:zhs}{outer:List Env}{s1:zhx}{E:XK}
  (S:FnScope N ps scope) (hd:A.handled=zhr) (e0:Env0 P w K mg base A outer s H) (hl:vs.length=ps.length) (r:Vals vs us)
  (x:InCallC s s.heap.objs.size (zlc (zjn qual scope s.heap.objs.size f cd).kindOf (ps.zip us) λ _=>zhr) (znf (s.heap.objs.size+1) scope.names []) (zld (zjn qual scope s.heap.objs.size f cd).kindOf (ps.zip us) λ _=>zhr) s1) :
  Inv (cxOf CX P w K mg base N qual scope f cd A outer s H E) [] (start N vs) H s1:=by
 have hpl:ps.length<=N.length:=by have:=congrArg zeh S.pre;rw[zbd] at this;omega
 obtain⟨h1,tk,rfl,hk⟩:=x.done
 have noA:∀b:zht,b∉(cxOf CX P w K mg base N qual scope f cd A outer s H E).ex:=λ b z=>absurd (show b∈([]:List zht) from z) (by simp)
 refine⟨⟨e0.mod,S.kind,rfl,rfl,zaq _,λ y z c h1 h2=>?_,λ y hy=>?_,λ y c _ h=>?_,λ _=>hd,zil.frames_deeper e0.frames,.inr ⟨rfl,rfl⟩,λ b z=>absurd z (noA b),e0.bs,e0.bsz,λ b _ _=>noA b,λ b z=>absurd z (noA b),e0.funs,e0.frf⟩,
  rfl,e0.bare,Un.kept hk,⟨_,x.toInCall.ns,λ i y v h1 h2 h3=>?_⟩,λ y c h=>⟨_,x.cell y c h⟩,e0.hok.fresh (zaq _),λ y c h=>?_,λ p hp=>absurd (show p∈([]:List (zht×Obj)) from hp) (by simp),e0.hok.kept hk,?_⟩
 ·exact name_of_addr x.apart (PySem.mem_of_lookup h1) (PySem.mem_of_lookup h2)
 ·have hy:scope.names.lookup y=zhq .cell\/scope.names.lookup y=zhq .free:=hy
  rcases hy with hy|hy
  ·exact qpy9 hy
  ·exact absurd rfl (S.nofree _ (PySem.mem_of_lookup hy))
 ·exact zfh (x.above y c (PySem.mem_of_lookup h))
 ·have hi:i<vs.length:=by
   unfold start at h2
   by_cases hi:i<vs.length
   ·exact hi
   ·rw[zau (by simpa using hi)] at h2
    rw[List.getElem?_replicate] at h2
    split at h2<;>cases h2
  have ha:vs[i]?=zhq v:=by
   unfold start at h2
   rw[zat (by simpa using hi),zah] at h2
   cases e:vs[i]? with
   |none=>rw[e] at h2;cases h2
   |some a=>rw[e] at h2;cases h2;rfl
  obtain⟨u,hu,rv⟩:=r.get ha
  have hp:ps[i]?=zhq y:=by
   rw[<- S.pre,zdn ⋯];exact h1
  have ndP:ps.Nodup:=by rw[<- S.pre];exact S.nd.sublist (List.take_sublist _ _)
  refine⟨u,rv,?_⟩
  rcases S.par y (zaf hp) with k|k
  ·exact .inl ⟨k,qof9 ndP hp hu k⟩
  ·obtain⟨c,e⟩:=qpy9 (n:=s.heap.objs.size+1) k
   refine .inr ⟨.inl k,c,e,?_⟩
   have q:=x.cell y c e
   rw[qoq9 ndP hp hu (by show scope.names.lookup y≠_;rw[k];decide)] at q
   exact q
 ·exact e0.hok.fresh (zfh (x.above y c (PySem.mem_of_lookup h)))
 ·unfold start
  show _=N.length
  rw[zap,zac,zdy]
  omega
theorem fn_of{w:zhy}{k:Nat}{f:zht}{name qual:Str}{params:zne}{body:List zhz}{scope:zjc}{dV kV doc pm cdv ct oc:zhs}{an od:Option zht}
  {osl:Array (Option zhs)} {N ps:List Str} {sp:Sp} (lk:K.lookup f=zhq ⟨oc,od,.func (W.fnOf name qual params body scope dV kV doc pm an cdv ct),osl⟩) (hcd:W.codeIn K cdv qual=true) (S:FnScope N ps scope)
  (len:∀vs H Q E,sp vs H Q E->vs.length=ps.length)
  (hbody:∀(A:zil)(outer:List Env)(s:zhx)(H:Hp)(vs:List V)(Q:VK)(E:XK),Room k (A.deeper (zjn qual scope s.heap.objs.size f cdv))->sp vs H Q E ->
   ∃t,PSs (cxOf CX P w K mg base N qual scope f cdv A outer s H E) body t/\t { nx:=λ _ H'=>Q .non H',rt:=Q } (start N vs) H) :
  FnOk P w K mg base CX (k+1) f (W.fnOf name qual params body scope dV kV doc pm an cdv ct) ps sp:=by
 refine⟨len,λ A outer s H args us vs Q E hr e0 hb r hsp=>?_⟩
 have hl:=len _ _ _ _ hsp
 have KX:K.In s.heap:=e0.mod.kin.keeps λ b o e=>(e0.bs b o e).1
 have lim:s.heap.NoLimit:=e0.mod.nolimit.keeps λ b o e=>(e0.bs b o e).1
 have hkind:∀y∈ps.zip us,scope.names.lookup y.1=zhq .local\/(scope.names.lookup y.1=zhq .cell/\((znf (s.heap.objs.size+1) scope.names []).lookup y.1).isSome=true):=λ⟨n,v⟩ hy=>by
  rcases S.par n (zfk hy).1 with q|q
  ·exact .inl q
  ·exact .inr ⟨q,W.cellsFrom_some _ _ _ (.inl q)⟩
 refine codeAny_call_function hr.depth (KX _ _ lk) rfl S.co S.gen rfl (W.codeRec_of KX hcd) (hb _ _ _ _ ?_)
 refine wpAny_newFunctionEnv_cells S.kind hkind λ env he s1 x=>?_
 subst he
 refine⟨lim.keeps x.toInCall.keep,codeAny_func ?_⟩
 obtain⟨t,ht,hq⟩:=hbody A outer s H vs Q E (hr.deeper _) hsp
 have I:Inv (cxOf CX P w K mg base N qual scope f cdv A outer s H E) [] (start N vs) H s1:=inv_start S hr.hd e0 hl r x
 refine zio (ht [] s1 (start N vs) H _ I hq) (λ fl s' hs=>?_) λ e s' hs=>hs
 have fin:∀{σ':St}{H':Hp}{v:V}{u:zhs},Inv (cxOf CX P w K mg base N qual scope f cdv A outer s H E) [] σ' H' s'->RelV v u->Q v H'->CE outer P w H s Q u s' :=
  λ {σ' H' v u} J rv q=>⟨v,H',J.os,J.bare,J.base,J.hok,rv,q⟩
 cases fl with
 |ret u =>
  obtain⟨v,σ',H',J,rv,q⟩:=hs
  exact fin J rv q
 |next =>
  obtain⟨σ',H',J,q⟩:=hs
  exact fin (v:=V.non) (u:=zhs.none) J rfl q
 |brk =>
  obtain⟨_,_,_,q⟩:=hs
  exact False.elim q
 |cont =>
  obtain⟨_,_,_,q⟩:=hs
  exact False.elim q
section
variable {t:TA}{id T:String}{r:List V->Hp->VK->Prop}
def tCB(r:List V->Hp->VK->Prop)(t:TA):TE:=λ σ H Q=>t σ H λ vs H1=>r vs H1 Q
theorem pe_callB(hc:CallR X (.builtin id) r)(hg:Gl X x)(hm:X.mg x=zhr)(hv:zij x=zhq (.builtin id))(ha:PA X (e::es) t)(hn:x≠"__name__" := by decide)(hdb:(x==("__debug__":Str))=false:=by decide)
  (he:zif (e::es) X.env=(false,zii e X.env)::zif es X.env:=by rfl) (hpl:(ziu pos (zif es X.env)).any (·.1)=false:=by rfl):PE X (.Call (.Name x p) (e::es) [] pos) (tCB r t):=by
 intro pins s σ H Q I h
 refine zjb (qly9 I hg hm hv ?_ hn hdb)
 exact PyProof.Rows.callWith_builtin1 (thn (ha pos pins s σ H _ I h) λ us s1 ⟨vs,H1,I1,r1,q1⟩=>hc pins s1 σ H1 vs us Q I1 r1 q1) he hpl
theorem pe_callTy(hc:CallR X (.type T) r)(hg:Gl X x)(hm:X.mg x=zhr)(hv:zij x=zhq (.type T))(ha:PA X (e::es) t)(hn:x≠"__name__" := by decide)(hdb:(x==("__debug__":Str))=false:=by decide)
  (he:zif (e::es) X.env=(false,zii e X.env)::zif es X.env:=by rfl) (hpl:(ziu pos (zif es X.env)).any (·.1)=false:=by rfl):PE X (.Call (.Name x p) (e::es) [] pos) (tCB r t):=by
 intro pins s σ H Q I h
 refine zjb (qly9 I hg hm hv ?_ hn hdb)
 exact PyProof.Rows.callWith_type1 (thn (ha pos pins s σ H _ I h) λ us s1 ⟨vs,H1,I1,r1,q1⟩=>hc pins s1 σ H1 vs us Q I1 r1 q1) he hpl
end
end L2
namespace HT
open PySem PyProof.Rows
section
variable {prog:zih}{w:zhy}{A:zil}{E:zhs->zhx->Prop}{s:zhx}
theorem cat_tup{t b:zht}{vs ws:List zhs}{Q:zhs->zhx->Prop}(ht:zml s.heap t vs.toArray)(hb:zml s.heap b ws.toArray)(hv:vs≠[])
  (h1:ws=[]->Q (.ref t) s) (h2:ws≠[]->Q (.ref s.heap.objs.size) { s with heap:=s.heap.push { cls:=.type "tuple",data:=.seq (vs++ws).toArray } })
  (hsz:vs.length+ws.length<=zhu):zib (zia prog w) A (zir .Add (.ref t) (.ref b)) Q E s:=by
 obtain⟨⟨cls,dd,data,sl⟩,ho,hc,n,hd⟩:=id ht
 obtain⟨⟨cls2,dd2,data2,sl2⟩,ho2,hc2,n2,hd2⟩:=id hb
 simp only at hc hd hc2 hd2
 subst hc hd hc2 hd2
 have e:vs.toArray++ws.toArray=(vs++ws).toArray:=by simp
 by_cases hw:ws=[]
 ·exact znr ⟨_,ho,rfl⟩ ⟨_,ho2,rfl⟩ zmg znj PySem.F.slot_tuple_add PySem.F.entry_tuple_add (PySem.F.args_tuple_add_2 _ _)
   (tuple_addW1 t b vs.toArray ws.toArray n n2 dd dd2 sl sl2 (by simpa using hv) (by simp[hw])) ⟨ho,ho2,h1 hw⟩
 ·refine znr ⟨_,ho,rfl⟩ ⟨_,ho2,rfl⟩ zmg znj PySem.F.slot_tuple_add PySem.F.entry_tuple_add (PySem.F.args_tuple_add_2 _ _)
   (tuple_addW2 t b vs.toArray ws.toArray n n2 dd dd2 sl sl2 (by simpa using hv) (by simpa using hw) (by rw[zaw,zaw];exact hsz)) ⟨ho,ho2,?_⟩
  rw[e]
  exact h2 hw
def sIx(n d:Nat):Option Int->Nat
 |none=>d
 |some v=>if v<0 then(v+(n:Int)).toNat else min v.toNat n
end
end HT
namespace L2
open PySem PySem.Spec PyProof.Rows
variable {X:Cx}{n:Nat}{s:zhx}{x:V}
abbrev TO:=St->Hp->(Option Int->Hp->Prop)->Prop
def PO(X:Cx)(e:Option Expr)(t:TO):Prop :=
 ∀(pins:List (zht×Obj)) (s:zhx) (σ:St) (H:Hp) (Q:Option Int->Hp->Prop),Inv X pins σ H s->t σ H Q ->
  zib (zia X.prog X.w) X.A (evalPart e X.env) (λ u s'=>∃o H',Inv X pins σ H' s'/\IsPart u o/\Q o H') X.xe s
def tNoPart:TO:=λ _ H Q=>Q zhr H
def tPart(t:TE):TO:=λ σ H Q=>t σ H λ x H1=>∃i,x=.int i/\Q (zhq i) H1
section
variable {e:Expr}{te:TE}{lo hi:Option Expr}{tl th:TO}{pos p2:Pos}
theorem po_none:PO X zhr tNoPart:=by
 intro pins s σ H Q I h
 rw[znk]
 exact zid ⟨zhr,H,I,.none,h⟩
theorem po_some(h:PE X e te):PO X (zhq e) (tPart te):=by
 intro pins s σ H Q I hw
 rw[evalPart_some]
 refine thn (h pins s σ H _ I hw) λ u s1 z9=>?_
 obtain⟨x,H1,I1,r1,q1⟩ := z9
 obtain⟨i,rfl,q⟩:=q1
 obtain⟨t,rfl⟩:=r1
 exact⟨zhq i,H1,I1,.int i t,q⟩
def SlR(X:Cx)(r:V->Option Int->Option Int->Hp->VK->Prop):Prop :=
 ∀(pins:List (zht×Obj)) (s:zhx) (σ:St) (H:Hp) (x:V) (v vl vu:zhs) (lo hi:Option Int) (sl:zht) (Q:VK),Inv X pins σ H s->RelV x v->s.heap.IsSliceOf sl vl vu .none->IsPart vl lo->IsPart vu hi->r x lo hi H Q ->
  ∃T id,typeLookup (.type T) "__getitem__"=pure (zhq (.builtin id))/\s.TypeIs v T/\zib (zia X.prog X.w) X.A (zma v (.ref sl)) (EP X pins σ Q) X.xe s
theorem SlR.or{r r':V->Option Int->Option Int->Hp->VK->Prop}(h:SlR X r)(h':SlR X r'):SlR X (λ x lo hi H Q=>r x lo hi H Q\/r' x lo hi H Q):=by
 intro pins s σ H x v vl vu lo hi sl Q I rx hs pl pu q
 rcases q with q|q
 ·exact h pins s σ H x v vl vu lo hi sl Q I rx hs pl pu q
 ·exact h' pins s σ H x v vl vu lo hi sl Q I rx hs pl pu q
def tSl(r:V->Option Int->Option Int->Hp->VK->Prop)(te:TE)(tl th:TO):TE:=λ σ H Q=>te σ H λ x H1=>tl σ H1 λ l H2=>th σ H2 λ u H3=>r x l u H3 Q
theorem qrh9{r:V->Option Int->Option Int->Hp->VK->Prop}(hr:SlR X r)(he:PE X e te)(hl:PO X lo tl)(hu:PO X hi th):PE X (.Subscript e (.Slice lo hi zhr p2) pos) (tSl r te tl th):=by
 intro pins s σ H Q I h
 refine zmq (thn (he pins s σ H _ I h) λ v s1 z9=>?_)
 obtain⟨x,H1,I1,r1,q1⟩ := z9
 refine wpAny_Slice (thn (hl pins s1 σ H1 _ I1 q1) λ vl s2 ⟨l,H2,I2,pl,q2⟩=>thn (hu pins s2 σ H2 _ I2 q2) λ vu s3 z9=>?_)
 obtain⟨u,H3,I3,pu,q3⟩ := z9
 rw[znk]
 refine zid ?_
 have I4:Inv X pins σ H3 { s3 with heap:=s3.heap.push { cls:=.type "slice",data:=.fields #[vl,vu,.none] } }:=I3.kept (t':=s3.toks) λ b ob q=>zao _ q
 obtain⟨T,id,hT,ht,hg⟩:=hr pins { s3 with heap:=s3.heap.push { cls:=.type "slice",data:=.fields #[vl,vu,.none] } } σ H3 x v vl vu l u s3.heap.objs.size Q I4 r1 (zic.IsSliceOf.new ..) pl pu q3
 show zib (zia X.prog X.w) X.A (zln e (.Slice lo hi zhr p2) v (.ref s3.heap.objs.size)) (EP X pins σ Q) X.xe { s3 with heap:=s3.heap.push { cls:=.type "slice",data:=.fields #[vl,vu,.none] } }
 exact tail_any (ops:=[.ref s3.heap.objs.size,v]) ht hT hg (by with_unfolding_all rfl)
def cutV(xs:List V)(lo hi:Option Int):List V:=(xs.drop (HT.sIx xs.length 0 lo)).take (HT.sIx xs.length xs.length hi-HT.sIx xs.length 0 lo)
theorem qpi9(xs:List V)(lo hi:Option Int):(cutV xs lo hi).length<=xs.length:=by
 unfold cutV
 rw[zbd,zee]
 omega
inductive rCatT(K:W.Frag)(x:V)(y:V)(H:Hp)(Q:VK):Prop
 |mk (a:_) (b:_) (xs:_) (ys:_):x=.ref a->y=.ref b->SqT K H a xs->SqT K H b ys->xs≠[]->xs.length+ys.length<=zhu->((ys=[]->Q (.ref a) H))->((ys≠[]->∀p,H p=zhr->Q (.ref p) (upd H p (.tup (xs++ys)))))->rCatT K x y H Q
theorem Vals.nil_iff{xs:List V}{us:List zhs}(r:Vals xs us):us=[]↔xs=[]:=by
 cases r with
 |nil=>simp
 |cons _ _=>simp
theorem op_catT:OpR X (zir .Add) (rCatT X.K):=by
 intro pins s σ H x y v u Q I rx ry h
 obtain⟨a,b,xs,ys,rfl,rfl,ha,hb,hx,hz,q1,q2⟩:=h
 cases rx
 cases ry
 obtain⟨its,r1,p1,_⟩:=I.tuple ha
 obtain⟨its2,r2,p2,_⟩:=I.tuple hb
 refine HT.cat_tup p1 p2 (λ z=>hx (r1.nil_iff.mp z)) (λ z=>⟨.ref a,H,I,rfl,q1 (r2.nil_iff.mp z)⟩) (λ z=>?_) (by rw[<- r1.length,<- r2.length];exact hz)
 refine⟨.ref s.heap.objs.size,_,I.laid (t':=s.toks) (o:=.tup (xs++ys)) (λ b ob q=>zao _ q) (zaq _) ?_,rfl,q2 (λ w=>z (r2.nil_iff.mpr w)) _ (I.hok.fresh (zaq _))⟩
 exact⟨by rw[zap];exact hz,_,r1.append r2,zml.new _ _⟩
end
def ixN(n:Nat)(i:Int):Option Nat:=if 0<=i then(if i<n then zhq i.toNat else zhr) else if -(n:Int)<=i then zhq (i+n).toNat else zhr
def atI{α:Type}(xs:List α)(i:Int):Option α:=(ixN xs.length i).bind λ j=>xs[j]?
theorem ixN_seq{i:Int}{j:Nat}(h:ixN n i=zhq j):seqIndex? i n=zhq j/\j<n/\-(n:Int)<=i/\i<n:=by
 unfold ixN at h
 by_cases h0:0<=i
 ·rw[if_pos h0] at h
  by_cases h1:i<n
  ·rw[if_pos h1] at h
   have e:i.toNat=j:=Option.some.inj h
   exact⟨by rw[znz h0 h1,e],⋯,⋯,h1⟩
  ·rw[if_neg h1] at h;cases h
 ·rw[if_neg h0] at h
  by_cases h1:-(n:Int)<=i
  ·rw[if_pos h1] at h
   have e:(i+n).toNat=j:=Option.some.inj h
   exact⟨by rw[zns ⋯ h1,e],⋯,h1,⋯⟩
  ·rw[if_neg h1] at h;cases h
theorem qqe9{α:Type}{xs:List α}{i:Int}{v:α}(h:atI xs i=zhq v):∃j,seqIndex? i xs.length=zhq j/\xs[j]?=zhq v/\j<xs.length/\-(xs.length:Int)<=i/\i<xs.length:=by
 unfold atI at h
 cases e:ixN xs.length i with
 |none=>rw[e] at h;cases h
 |some j =>
  rw[e] at h
  obtain⟨h1,h2,h3,h4⟩:=ixN_seq e
  exact⟨j,h1,h,h2,h3,h4⟩
theorem qcf9{α:Type}{xs:List α}{j:Nat}{v:α}(h:xs[j]?=zhq v):atI xs (j:Int)=zhq v:=by
 have hj:j<xs.length:=(zab.mp h).1
 have e:ixN xs.length (j:Int)=zhq j:=by
  unfold ixN
  rw[if_pos ⋯,if_pos ⋯];simp
 unfold atI;rw[e];exact h
theorem qtf9{α:Type}(xs:List α)(v:α):atI (xs++[v]) (-1)=zhq v:=by
 have hl:(xs++[v]).length=xs.length+1:=by simp
 have e:ixN (xs++[v]).length (-1)=zhq xs.length:=by
  unfold ixN
  rw[hl,if_neg (by decide),if_pos ⋯]
  congr 1
  omega
 unfold atI
 rw[e]
 show(xs++[v])[xs.length]?=zhq v
 simp
def PlainIx(b:Expr):Prop:=∀o i,zkv b false o i=zoc [o,i] (zma o i)
def IxR(X:Cx)(r:R2):Prop :=
 ∀(value slice:Expr) (pins:List (zht×Obj)) (s:zhx) (σ:St) (H:Hp) (x y:V) (v u:zhs) (Q:VK),Inv X pins σ H s->RelV x v->RelV y u->r x y H Q ->
  zkv slice false v u=zoc [v,u] (zma v u)->zib (zia X.prog X.w) X.A (zln value slice v u) (EP X pins σ Q) X.xe s
def MtR(X:Cx)(id:String)(r:V->List V->Hp->VK->Prop):Prop :=
 ∀(pins:List (zht×Obj)) (s:zhx) (σ:St) (H:Hp) (x:V) (xs:List V) (v:zhs) (us:List zhs) (Q:VK),Inv X pins σ H s->RelV x v->Vals xs us->r x xs H Q ->
  zib (zia X.prog X.w) X.A (call (.builtin id) (v::us)) (EP X pins σ Q) X.xe s
section
variable {X:Cx}{a b:Expr}{ta tb:TE}{pos:Pos}
theorem IxR.or{r r':R2}(h:IxR X r)(h':IxR X r'):IxR X (λ x y H Q=>r x y H Q\/r' x y H Q):=by
 intro value slice pins s σ H x y v u Q I rx ry q hs
 rcases q with q|q
 ·exact h value slice pins s σ H x y v u Q I rx ry q hs
 ·exact h' value slice pins s σ H x y v u Q I rx ry q hs
theorem MtR.or{id:String}{r r':V->List V->Hp->VK->Prop}(h:MtR X id r)(h':MtR X id r'):MtR X id (λ x xs H Q=>r x xs H Q\/r' x xs H Q):=by
 intro pins s σ H x xs v us Q I rx rs q
 rcases q with q|q
 ·exact h pins s σ H x xs v us Q I rx rs q
 ·exact h' pins s σ H x xs v us Q I rx rs q
theorem pe_ix{r:R2}(hr:IxR X r)(ha:PE X a ta)(hb:PE X b tb)(hs:PlainIx b):PE X (.Subscript a b pos) (tOp r ta tb):=by
 intro pins s σ H Q I h
 exact zmq (binT ha hb I h λ v u s2 x y H2 I2 rx ry q=>hr a b pins s2 σ H2 x y v u Q I2 rx ry q (hs _ _))
inductive rIxL(K:W.Frag)(x:V)(y:V)(H:Hp)(Q:VK):Prop
 |mk (p:_) (xs:_) (i:_) (v:_):x=.ref p->y=.int i->SqL K H p xs->atI xs i=zhq v->Q v H->rIxL K x y H Q
inductive rIxT(K:W.Frag)(x:V)(y:V)(H:Hp)(Q:VK):Prop
 |mk (p:_) (xs:_) (i:_) (v:_):x=.ref p->y=.int i->SqT K H p xs->atI xs i=zhq v->Q v H->rIxT K x y H Q
inductive rIxS(x:V)(y:V)(H:Hp)(Q:VK):Prop
 |mk (z:_) (i:_) (c:_):x=.str z->y=.int i->z.length<=zhu->atI z.cps.toList i=zhq c->Q (.str ⟨#[c]⟩) H->rIxS x y H Q
theorem ix_list:IxR X (rIxL X.K):=by
 intro value slice pins s σ H x y v u Q I rx ry h hs
 obtain⟨p,xs,i,z,rfl,rfl,hq,he,q⟩:=h
 cases rx
 obtain⟨t,rfl⟩:=ry
 obtain⟨its,r,pl,hz⟩:=I.list hq
 obtain⟨j,h1,h2,h3,h4,h5⟩:=qqe9 he
 obtain⟨w,ew,rw'⟩:=r.get h2
 have hl:=r.length
 have hn:=qpk9
 have fin:EP X pins σ Q w s:=⟨z,H,I,rw',q⟩
 by_cases h0:0<=i
 ·have hj:i.toNat=j:=by
   rw[znz h0 h5] at h1
   exact Option.some.inj h1
  exact item_listR pl.isList h0 ⋯ (by rw[hj];simpa using ew) fin hs
 ·have hj:(i+(its.toArray.size:Int)).toNat=j:=by
   rw[zns ⋯ h4] at h1
   rw[zaw,<- hl]
   exact Option.some.inj h1
  exact zkw (x:=w) pl.isList.typeIs zmd.lookup
   (wpAny_getItem_list_neg (Q:=λ r s'=>r=w/\EP X pins σ Q r s') pl.isList ⋯ (by rw[zaw]<;>omega) ⋯ (by rw[hj];simpa using ew) ⟨rfl,fin⟩) hs
theorem ix_tup:IxR X (rIxT X.K):=by
 intro value slice pins s σ H x y v u Q I rx ry h hs
 obtain⟨p,xs,i,z,rfl,rfl,hq,he,q⟩:=h
 cases rx
 obtain⟨t,rfl⟩:=ry
 obtain⟨its,r,pl,hz⟩:=I.tuple hq
 obtain⟨j,h1,h2,h3,h4,h5⟩:=qqe9 he
 obtain⟨w,ew,rw'⟩:=r.get h2
 have hl:=r.length
 have hn:=qpk9
 have fin:EP X pins σ Q w s:=⟨z,H,I,rw',q⟩
 exact zkw (x:=w) pl.typeIs slot_tuple_getitem.lookup
  (getItem_tuple (j:=j) (Q:=λ r s'=>r=w/\EP X pins σ Q r s') pl ⋯ ⋯ (by rw[zaw,<- hl];exact h1) (by simpa using ew) ⟨rfl,fin⟩) hs
theorem ix_str:IxR X rIxS:=by
 intro value slice pins s σ H x y v u Q I rx ry h hs
 obtain⟨z,i,c,rfl,rfl,hz,he,q⟩:=h
 obtain⟨t,rfl⟩:=rx
 obtain⟨t',rfl⟩:=ry
 obtain⟨j,h1,h2,h3,h4,h5⟩:=qqe9 he
 have hl:z.cps.toList.length=z.length:=by simp[zbm]
 rw[hl] at h1 h4 h5
 have hn:=qpk9
 exact tail_any (zjt s z t) slot_str_getitem.lookup (getItem_str (c:=c) (by
  have e1:decide (i < -(2 ^ 63:Int))=false:=decide_eq_false ⋯
  have e2:decide (i≥2 ^ 63)=false:=decide_eq_false ⋯
  rw[e1,e2,zha]) (by rw[h1];simpa using h2) ⟨.str ⟨#[c]⟩,H,I.tok _,⟨_,rfl⟩,q⟩) hs
theorem Inv.lst{pins:List (zht×Obj)}{σ:St}{H:Hp}{s:zhx}{p:zht}{xs:List V}(I:Inv X pins σ H s)(h:H p=zhq (.lst xs)) :
  ∃(its:List zhs)(n:Nat),Vals xs its/\s.heap.get? p=zhq { cls:=.type "list",data:=.seq its.toArray n }/\xs.length<=zhu:=by
 obtain⟨z,its,n,r,e⟩:=I.hok p _ h
 exact⟨its,n,r,e,z⟩
theorem qmb9(lo hi:Option Int)(n:Nat):(zjp lo hi zhr n).1=((HT.sIx n 0 lo:Nat):Int)/\(zjp lo hi zhr n).2.1=((HT.sIx n n hi:Nat):Int)/\(zjp lo hi zhr n).2.2=1:=by
 refine⟨?_,?_,rfl⟩
 ·cases lo with
  |none=>simp[zjp,HT.sIx]
  |some i =>
   simp only[zjp,HT.sIx,zgv,show(1:Int)>0 by decide,if_true]
   by_cases h:i<0
   ·simp only[h,if_true]<;>omega
   ·simp only[h,if_false]<;>omega
 ·cases hi with
  |none=>simp[zjp,HT.sIx]
  |some i =>
   simp only[zjp,HT.sIx,zgv,show(1:Int)>0 by decide,if_true]
   by_cases h:i<0
   ·simp only[h,if_true]<;>omega
   ·simp only[h,if_false]<;>omega
theorem qlj9(its:List zhs)(lo hi:Option Int):slicePick its.toArray lo hi zhr=((its.drop (HT.sIx its.length 0 lo)).take (HT.sIx its.length its.length hi-HT.sIx its.length 0 lo)).toArray:=by
 obtain⟨h1,h2,h3⟩:=qmb9 lo hi its.toArray.size
 unfold slicePick
 rw[h1,h2,h3]
 simp only[sliceRange_one,pick_run,zaw]<;>rfl
inductive rSlL(K:W.Frag)(x:V)(lo:Option Int)(hi:Option Int)(H:Hp)(Q:VK):Prop
 |mk (a:_) (xs:_):x=.ref a->SqL K H a xs->(∀p,H p=zhr->Q (.ref p) (upd H p (.lst (cutV xs lo hi))))->rSlL K x lo hi H Q
theorem sl_list:SlR X (rSlL X.K):=by
 intro pins s σ H x v vl vu lo hi sl Q I rx hs pl pu h
 obtain⟨a,xs,rfl,hx,q⟩:=h
 cases rx
 obtain⟨its,r,ht,hz⟩:=I.list hx
 have hlen:=r.length
 refine⟨"list",_,zmd.lookup,ht.isList.typeIs,?_⟩
 refine wpAny_getItem_list_slice ht.isList hs pl pu .none (by simp) ?_ (by rw[zaw]<;>omega)
 rw[qlj9,<- hlen]
 refine⟨.ref s.heap.objs.size,_,I.laid (t':=s.toks) (o:=.lst (cutV xs lo hi)) (λ b ob q=>zao _ q) (zaq _) ?_,rfl,q _ (I.hok.fresh (zaq _))⟩
 exact⟨zbj (qpi9 xs lo hi) hz,_,0,(r.drop (HT.sIx xs.length 0 lo)).take (HT.sIx xs.length xs.length hi-HT.sIx xs.length 0 lo),zav _ rfl⟩
def flatV:V->Bool
 | .non=>true
 | .bl _=>true
 | .int _=>true
 | .str _=>true
 |_=>false
def eqV:V->V->Bool
 | .non,.non=>true
 | .bl a,.bl b=>a==b
 | .bl a,.int b=>(if a then 1 else 0)==b
 | .int a,.bl b=>a==(if b then 1 else 0)
 | .int a,.int b=>a==b
 | .str a,.str b=>a==b
 |_,_=>false
theorem eqAt_V{A:zil}{y:V}{u v:zhs}(ry:RelV y u)(rx:RelV x v)(fy:flatV y=true)(fx:flatV x=true):SeqAt.EqAt A s u v (eqV y x):=by
 cases y with
 |non =>
  cases ry
  cases x with
  |non=>cases rx;exact SeqAt.EqAt.same _
  |bl b=>cases rx;exact SeqAt.EqAt.none_bool b
  |int b=>obtain⟨t,rfl⟩:=rx;exact SeqAt.EqAt.none_int b t
  |str b=>obtain⟨t,rfl⟩:=rx;exact SeqAt.EqAt.none_str b t
  |_=>exact absurd (show false=true from fx) zay
 |bl a =>
  cases ry
  cases x with
  |non=>cases rx;exact SeqAt.EqAt.bool_none a
  |bl b=>cases rx;exact SeqAt.EqAt.bool_bool a b
  |int b=>obtain⟨t,rfl⟩:=rx;exact SeqAt.EqAt.bool_int a b t
  |str b=>obtain⟨t,rfl⟩:=rx;exact SeqAt.EqAt.bool_str a b t
  |_=>exact absurd (show false=true from fx) zay
 |int a =>
  obtain⟨t',rfl⟩:=ry
  cases x with
  |non=>cases rx;exact SeqAt.EqAt.int_none a t'
  |bl b=>cases rx;exact SeqAt.EqAt.int_bool a t' b
  |int b=>obtain⟨t,rfl⟩:=rx;exact SeqAt.EqAt.int_int a t' b t
  |str b=>obtain⟨t,rfl⟩:=rx;exact SeqAt.EqAt.int_str a t' b t
  |_=>exact absurd (show false=true from fx) zay
 |str a =>
  obtain⟨t',rfl⟩:=ry
  cases x with
  |non=>cases rx;exact SeqAt.EqAt.str_none a t'
  |bl b=>cases rx;exact SeqAt.EqAt.str_bool a t' b
  |int b=>obtain⟨t,rfl⟩:=rx;exact SeqAt.EqAt.str_int a t' b t
  |str b=>obtain⟨t,rfl⟩:=rx;exact SeqAt.EqAt.str_str a t' b t
  |_=>exact absurd (show false=true from fx) zay
 |_=>exact absurd (show false=true from fy) zay
def eqU(x:V)(u:zhs):Bool:=match u with
 | .none=>eqV .non x
 | .bool b=>eqV (.bl b) x
 | .int i _=>eqV (.int i) x
 | .str z _=>eqV (.str z) x
 |_=>false
theorem eqU_of{y:V}{u:zhs}(r:RelV y u)(f:flatV y=true):eqU x u=eqV y x:=by
 cases y with
 |non=>cases r;rfl
 |bl b=>cases r;rfl
 |int i=>obtain⟨t,rfl⟩:=r;rfl
 |str z=>obtain⟨t,rfl⟩:=r;rfl
 |_=>exact absurd (show false=true from f) zay
theorem qlk9{x:V}:∀{xs:List V}{us:List zhs},Vals xs us->xs.all flatV=true->us.any (eqU x)=xs.any λ y=>eqV y x
 |_,_,.nil,_=>rfl
 |y::xs,u::us,.cons r t,f=>by
  rw[zge,zaz] at f
  rw[zen,zen,eqU_of r f.1,qlk9 t f.2]
theorem qhm9{A:zil}{s:zhx}{x:V}{v:zhs}(rx:RelV x v)(fx:flatV x=true):∀{xs:List V}{us:List zhs},Vals xs us->xs.all flatV=true->∀u∈us,SeqAt.EqAt A s u v (eqU x u)
 |_,_,.nil,_=>λ u hu=>by cases hu
 |y::xs,u::us,.cons r t,f=>λ u' hu=>by
  rw[zge,zaz] at f
  rcases zag.mp hu with rfl|hu
  ·rw[eqU_of r f.1];exact eqAt_V r rx f.1 fx
  ·exact qhm9 rx fx t f.2 u' hu
def inV(x:V)(xs:List V):Bool:=xs.any λ y=>eqV y x
inductive rIn(K:W.Frag)(neg:Bool)(x:V)(y:V)(H:Hp)(Q:VK):Prop
 |mk (p:_) (xs:_):y=.ref p->((SqL K H p xs\/SqT K H p xs))->flatV x=true->xs.all flatV=true->(Q (.bl (if neg then !inV x xs else inV x xs)) H)->rIn K neg x y H Q
theorem qnu9:OpR X (zig .In) (rIn X.K false):=by
 intro pins s σ H x y v u Q I rx ry h
 obtain⟨p,xs,rfl,hq,fx,fs,q⟩:=h
 cases ry
 rcases hq with hq|hq
 ·obtain⟨its,r,pl,hz⟩:=I.list hq
  refine SeqAt.in_listAt (eqU x) pl.isList (λ w hw=>qhm9 rx fx r fs w (by simpa using hw)) ⟨.bl _,H,I,rfl,?_⟩
  rw[show its.toArray.any (eqU x)=its.any (eqU x) by simp,qlk9 r fs]
  exact q
 ·obtain⟨its,r,pl,hz⟩:=I.tuple hq
  refine SeqAt.in_tupleAt (eqU x) pl (λ w hw=>qhm9 rx fx r fs w (by simpa using hw)) ⟨.bl _,H,I,rfl,?_⟩
  rw[show its.toArray.any (eqU x)=its.any (eqU x) by simp,qlk9 r fs]
  exact q
theorem qnc9:OpR X (zig .NotIn) (rIn X.K true):=by
 intro pins s σ H x y v u Q I rx ry h
 obtain⟨p,xs,rfl,hq,fx,fs,q⟩:=h
 cases ry
 rcases hq with hq|hq
 ·obtain⟨its,r,pl,hz⟩:=I.list hq
  refine SeqAt.notIn_listAt (eqU x) pl.isList (λ w hw=>qhm9 rx fx r fs w (by simpa using hw)) ⟨.bl _,H,I,rfl,?_⟩
  rw[show its.toArray.any (eqU x)=its.any (eqU x) by simp,qlk9 r fs]
  exact q
 ·obtain⟨its,r,pl,hz⟩:=I.tuple hq
  refine SeqAt.notIn_tupleAt (eqU x) pl (λ w hw=>qhm9 rx fx r fs w (by simpa using hw)) ⟨.bl _,H,I,rfl,?_⟩
  rw[show its.toArray.any (eqU x)=its.any (eqU x) by simp,qlk9 r fs]
  exact q
theorem qmc9:CallR X (.builtin "len") (λ xs H Q=>∃p ys,xs=[.ref p]/\(SqL X.K H p ys\/SqT X.K H p ys)/\Q (.int ys.length) H):=by
 intro pins s σ H xs us Q I r h
 obtain⟨p,ys,rfl,hq,q⟩:=h
 obtain⟨u,rfl,rx⟩:=vals1 r
 cases rx
 have hn:=qpk9
 rcases hq with hq|hq
 ·obtain⟨its,r',pl,hz⟩:=I.list hq
  have hlen:=r'.length
  exact Calls.call_len_list pl.isList (by simp only[zaw]<;>omega) ⟨.int ys.length,H,I.tok _,⟨s.toks+1,by rw[zaw,hlen]⟩,q⟩
 ·obtain⟨its,r',pl,hz⟩:=I.tuple hq
  have hlen:=r'.length
  exact len_tuple pl (by simp only[zaw]<;>omega) ⟨.int ys.length,H,I.tok _,⟨s.toks+1,by rw[zaw,hlen]⟩,q⟩
theorem CallR.or{f:zhs}{r r':List V->Hp->VK->Prop}(h:CallR X f r)(h':CallR X f r'):CallR X f (λ xs H Q=>r xs H Q\/r' xs H Q):=by
 intro pins s σ H xs us Q I rs q
 rcases q with q|q
 ·exact h pins s σ H xs us Q I rs q
 ·exact h' pins s σ H xs us Q I rs q
theorem qmq9:CallR X (.type "list") (λ xs H Q=>∃p ys,xs=[.ref p]/\(SqL X.K H p ys\/SqT X.K H p ys)/\∀l,H l=zhr->Q (.ref l) (upd H l (.lst ys))):=by
 intro pins s σ H xs us Q I r h
 obtain⟨p,ys,rfl,hq,q⟩:=h
 obtain⟨u,rfl,rx⟩:=vals1 r
 cases rx
 have fin:∀(its:List zhs),Vals ys its->ys.length<=zhu->∀(h':zic)(c':Nat),(∀b o',s.heap.get? b=zhq o'->h'.get? b=zhq o') ->
   h'.get? s.heap.objs.size=zhq { cls:=.type "list",dict:=zhr,data:=.seq its.toArray c',slots:=#[] }->EP X pins σ Q (.ref s.heap.objs.size) { s with heap:=h' }:=λ its r' hz h' c' kp e =>
  ⟨.ref s.heap.objs.size,_,I.laid (t':=s.toks) kp (zaq _) (show ObjOk X.prog X.w _ h' _ (.lst ys) from⟨hz,its,c',r',e⟩),rfl,q _ (I.hok.fresh (zaq _))⟩
 rcases hq with hq|hq
 ·obtain⟨its,r',pl,hz⟩:=I.list hq
  have hlen:=r'.length
  obtain⟨o,ho,hc,n,hd⟩:=pl.isList
  exact znl p (.inl rfl) ho hc hd (λ h' c' kp e=>fin its r' hz h' c' kp e) (by simp only[zaw]<;>omega)
 ·obtain⟨its,r',pl,hz⟩:=I.tuple hq
  have hlen:=r'.length
  obtain⟨o,ho,hc,n,hd⟩:=pl
  exact znl p (.inr rfl) ho hc hd (λ h' c' kp e=>fin its r' hz h' c' kp e) (by simp only[zaw]<;>omega)
def tyV(K:W.Frag)(T:String)(x:V)(H:Hp):Prop:=match x with
 | .str _=>T="str"
 | .int _=>T="int"
 | .ref p=>(T="list" /\ ∃xs,SqL K H p xs)\/(T="tuple" /\ ∃o,K.lookup p=zhq o/\o.cls=.type "tuple" /\ o.dict=zhr) \/
   (T="dict" /\ ((∃kvs,H p=zhq (.dK kvs))\/∃kvs,H p=zhq (.dT kvs)))\/(T="set" /\ ∃S n,H p=zhq (.set S n))
 |_=>False
theorem tyV_is{pins:List (zht×Obj)}{σ:St}{H:Hp}{T:String}{v:zhs}(I:Inv X pins σ H s)(r:RelV x v)(ty:tyV X.K T x H) :
  s.TypeIs v T/\∀a,v=.ref a->∃ob,s.heap.get? a=zhq ob/\ob.dict=zhr:=by
 cases x with
 |str z =>
  obtain⟨t,rfl⟩:=r
  cases (show T="str" from ty)
  exact⟨zjt s z t,λ _ e=>nomatch e⟩
 |int i =>
  obtain⟨t,rfl⟩:=r
  cases (show T="int" from ty)
  exact⟨zmr s i t,λ _ e=>nomatch e⟩
 |ref p =>
  cases r
  rcases ty with⟨rfl,xs,hq⟩|⟨rfl,o,hk,hc,hd⟩|⟨rfl,hk⟩|⟨rfl,S,n,hk⟩
  ·obtain⟨its,_,pl,_⟩:=I.list hq
   refine⟨pl.isList.typeIs,λ a e=>?_⟩
   cases e
   obtain⟨o,n,e,c,hd,_⟩:=pl
   exact⟨o,e,hd⟩
  ·refine⟨⟨o,I.kIn p o hk,hc⟩,λ a e=>?_⟩
   cases e
   exact⟨o,I.kIn _ o hk,hd⟩
  ·have z:∃o,s.heap.get? p=zhq o/\o.ExactDict:=by
    rcases hk with⟨kvs,hk⟩|⟨kvs,hk⟩
    ·obtain⟨_,_,_,_,o,_,_,e,ex,_⟩:=I.hok p _ hk
     exact⟨o,e,ex⟩
    ·obtain⟨_,_,_,_,o,_,_,e,ex,_⟩:=I.hok p _ hk
     exact⟨o,e,ex⟩
   obtain⟨o,e,ex⟩:=z
   refine⟨⟨o,e,ex.1⟩,λ a e2=>?_⟩
   cases e2
   exact⟨o,e,ex.2.1⟩
  ·obtain⟨o,_,_,_,e,ex,_⟩:=I.hok p _ hk
   refine⟨⟨o,e,ex.1⟩,λ a e2=>?_⟩
   cases e2
   exact⟨o,e,ex.2.1⟩
 |_=>exact False.elim ty
def tBM0(K:W.Frag)(T:String)(r:V->List V->Hp->VK->Prop)(to:TE):TE:=λ σ H Q=>to σ H λ x H1=>tyV K T x H1/\r x [] H1 Q
def tBM(K:W.Frag)(T:String)(r:V->List V->Hp->VK->Prop)(to:TE)(t:TA):TE:=λ σ H Q=>to σ H λ x H1=>tyV K T x H1/\t σ H1 λ xs H2=>r x xs H2 Q
variable {o e:Expr}{es:List Expr}{to:TE}{t:TA}{name:Str}{apos cpos:Pos}{T id:String}{r:V->List V->Hp->VK->Prop}
theorem pe_bm0(pa:PlainAttrs T)(slot:Slot T name id)(hty:znt (.builtin id)=pure (.type "method_descriptor"))(hm:MtR X id r)(ho:PE X o to)
  (hbase:zin o name X.env (zii o X.env)=zii o X.env:=by rfl) (hline:(apos.endLine==cpos.line)=true:=by rfl):PE X (.Call (.Attribute o name apos) [] [] cpos) (tBM0 X.K T r to):=by
 intro pins s σ H Q I h
 refine wpAny_Call_method0_late hbase hline (thn (ho pins s σ H _ I h) λ v s1 z9=>?_)
 obtain⟨x,H1,I1,r1,ty,q1⟩ := z9
 obtain⟨h1,h2⟩:=tyV_is I1 r1 ty
 exact⟨T,id,pa,slot,hty,h1,h2,Calls.callWith_builtin rfl (PySem.evalArgs_none (hm pins s1 σ H1 x [] v [] Q I1 r1 .nil q1))⟩
theorem pe_bm(pa:PlainAttrs T)(slot:Slot T name id)(hty:znt (.builtin id)=pure (.type "method_descriptor"))(hm:MtR X id r)(ho:PE X o to)(ha:PA X (e::es) t)
  (hbase:zin o name X.env (zii o X.env)=zii o X.env:=by rfl)
  (hfew:((ziu cpos (zif (e::es) X.env)).all (λ x=>!x.1)&&(zle cpos (zkg [] X.env)).all (λ x=>x.1.isSome)
   && decide ((e::es).length+([]:List zko).length+(if([]:List zko).isEmpty then 0 else 1)<30))=true:=by rfl)
  (hline:(apos.endLine==cpos.line)=true:=by rfl) (hs:zif (e::es) X.env=(false,zii e X.env)::zif es X.env:=by rfl) (hplain:(ziu cpos (zif es X.env)).any (·.1)=false:=by rfl) :
  PE X (.Call (.Attribute o name apos) (e::es) [] cpos) (tBM X.K T r to t):=by
 intro pins s σ H Q I h
 refine wpAny_Call_method_late hbase hfew hline rfl (thn (ho pins s σ H _ I h) λ v s1 z9=>?_)
 obtain⟨x,H1,I1,r1,ty,q1⟩ := z9
 obtain⟨h1,h2⟩:=tyV_is I1 r1 ty
 refine⟨T,id,pa,slot,hty,h1,h2,?_⟩
 have hA:=ha cpos pins s1 σ H1 _ I1 q1
 rw[hs] at hA ⊢
 refine Calls.callWith_builtin (by show(false||(ziu cpos (zif es X.env)).any (·.1))=false;rw[hplain]<;>rfl) (Calls.evalArgs_plain ?_)
 exact thn hA λ us s2 ⟨vs,H2,I2,r2,q2⟩=>hm pins s2 σ H2 x vs v us Q I2 r1 r2 q2
end
def MtM(X:Cx)(id:String)(r:V->List V->Hp->VK->Prop):Prop :=
 ∀(pins:List (zht×Obj)) (s:zhx) (σ:St) (H:Hp) (x:V) (xs:List V) (v:zhs) (us:List zhs) (Q:VK),Inv X pins σ H s->RelV x v->Vals xs us->r x xs H Q ->
  zib (zia X.prog X.w) X.A (call (.builtin id) (v::us)) (EP X pins σ Q) X.xe s
theorem Vals.one:∀{x:V}{us:List zhs},Vals [x] us->∃u,us=[u]/\RelV x u
 |_,_,.cons r .nil=>⟨_,rfl,r⟩
theorem Vals.two:∀{x y:V}{us:List zhs},Vals [x,y] us->∃u v,us=[u,v]/\RelV x u/\RelV y v
 |_,_,_,.cons r (.cons q .nil)=>⟨_,_,rfl,r,q⟩
theorem Vals.zero:∀{us:List zhs},Vals [] us->us=[]
 |_,.nil=>rfl
theorem Vals.dropLast{xs:List V}{us:List zhs}(h:Vals xs us):Vals xs.dropLast us.dropLast:=by
 induction h with
 |nil=>exact .nil
 |cons r t ih =>
  cases t with
  |nil=>exact .nil
  |cons q t'=>exact .cons r ih
theorem Vals.eraseIdx:∀{xs:List V}{us:List zhs}(i:Nat),Vals xs us->Vals (xs.eraseIdx i) (us.eraseIdx i)
 |_,_,_,.nil=>.nil
 |_,_,0,.cons _ t=>t
 |_,_,i+1,.cons r t=>.cons r (Vals.eraseIdx i t)
theorem Vals.rep{xs:List V}{us:List zhs}(h:Vals xs us):∀k:Nat,Vals (zbc k xs).flatten (zbc k us).flatten
 |0=>.nil
 |k+1=>by
  rw[zca,zca,zdk,zdk]
  exact Vals.append h (Vals.rep h k)
theorem qot9{α:Type}:∀(l:List α)(i:Nat),(l.eraseIdx i).length<=l.length
 | [],_=>zaq _
 |_::_,0=>zfr _
 |_::r,i+1=>Nat.succ_le_succ (qot9 r i)
theorem qnx9(its:List zhs):∀(k:Nat)(acc:List zhs),
  zfl (λ x1 x2=>x1++x2) acc.toArray (zbc k its.toArray)=(acc++(zbc k its).flatten).toArray
 |0,acc=>by simp
 |k+1,acc=>by
  have e:acc.toArray++its.toArray=(acc++its).toArray:=by simp
  have e2:(acc++its)++(zbc k its).flatten=acc++(zbc (k+1) its).flatten:=by
   rw[zca,zdk,zck]
  rw[<- e2,<- qnx9 its k (acc++its),<- e,zca,zcq]
section
variable {pins:List (zht×Obj)}{σ:St}{H:Hp}{l b:zht}{xs ys zs:List V}
theorem Inv.lset{its its':List zhs}{f:Array zhs->Array zhs}{t':Nat}(I:Inv X pins σ H s)(hH:H l=zhq (.lst xs))
  (e:s.heap.get? l=zhq { cls:=.type "list",data:=.seq its.toArray n }) (hf:f its.toArray=its'.toArray) (hv:Vals ys its') (hz:ys.length<=zhu) :
  Inv X pins σ (upd H l (.lst ys)) { s with heap:=s.heap.update l (Obj.mapSeq f),toks:=t' }:=by
 have q:=PySem.IsL.update e f
 rw[hf] at q
 refine I.write (x:=l) (e:=l) (by rw[hH];exact trivial) (.inl rfl) (λ b' u hb hu=>(zic.get?_update_other s.heap (Obj.mapSeq f) (Ne.symm hb)).trans hu) ⟨_,q⟩ ?_
 exact⟨hz,its',_,hv,q⟩
theorem Inv.lnew{its:List zhs}{t':Nat}(I:Inv X pins σ H s)(hv:Vals ys its)(hz:ys.length<=zhu) :
  Inv X pins σ (upd H s.heap.objs.size (.lst ys)) { s with heap:=s.heap.push { cls:=.type "list",data:=.seq its.toArray },toks:=t' } :=
 I.laid (λ _ _ q=>zao _ q) (zaq _) ⟨hz,its,0,hv,zav _ rfl⟩
theorem Inv.fresh(I:Inv X pins σ H s):H s.heap.objs.size=zhr:=I.hok.fresh (zaq _)
theorem Inv.lstM(I:Inv X pins σ H s)(hH:H l=zhq (.lst xs)):xs.length<=zhu/\∃(its:List zhs)(n:Nat),Vals xs its/\xs.length=its.length/\s.heap.get? l=zhq { cls:=.type "list",data:=.seq its.toArray n }:=by
 obtain⟨z,its,n,r,e⟩:=I.hok l _ hH
 exact⟨z,its,n,r,r.length,e⟩
theorem notLongL(h:n<=zhu):Builtin.List.listTooLong n=false:=by
 unfold Builtin.List.listTooLong
 exact decide_eq_false ⋯
end
def rAppend:V->List V->Hp->VK->Prop:=λ x vs H Q=>∃l xs y,x=.ref l/\vs=[y]/\H l=zhq (.lst xs)/\xs.length<zhu/\Q .non (upd H l (.lst (xs++[y])))
theorem qop9:MtM X "list.append" rAppend:=by
 intro pins s σ H x vs v us Q I rx rv h
 obtain⟨l,xs,y,rfl,rfl,hH,hz,q⟩:=h
 cases rx
 obtain⟨u,rfl,ru⟩:=rv.one
 obtain⟨z,its,n,r,hl,e⟩:=I.lstM hH
 refine zja F.slot_list_append ⟨_,e,rfl⟩ F.entry_list_append (F.args_list_append_2 _ _) (PySem.list_append l its.toArray n u (by rw[zaw];omega)) ⟨e,?_⟩
 refine⟨.non,_,I.lset (its':=its++[u]) hH e (by simp) (r.append (.cons ru .nil)) ?_,rfl,q⟩
 rw[zap,zcd]
 omega
inductive rCat(x:V)(y:V)(H:Hp)(Q:VK):Prop
 |mk (l:_) (b:_) (xs:_) (zs:_):x=.ref l->y=.ref b->H l=zhq (.lst xs)->H b=zhq (.lst zs)->xs.length+zs.length<=zhu->(∀p,H p=zhr->Q (.ref p) (upd H p (.lst (xs++zs))))->rCat x y H Q
theorem op_cat:OpR X (zir .Add) rCat:=by
 intro pins s σ H x y v u Q I rx ry h
 obtain⟨l,b,xs,zs,rfl,rfl,hH,hB,hz,q⟩:=h
 cases rx
 cases ry
 obtain⟨z,its,n,r,hl,e⟩:=I.lstM hH
 obtain⟨z2,its2,n2,r2,hl2,e2⟩:=I.lstM hB
 refine PySem.P.add_list e e2 ?_ (by rw[zaw,zaw];omega)
 have ea:its.toArray++its2.toArray=(its++its2).toArray:=by simp
 rw[ea]
 exact⟨.ref _,_,I.lnew (t':=s.toks) (r.append r2) (by rw[zap];omega),rfl,q _ I.fresh⟩
theorem len_rep{α:Type}(xs:List α)(k:Nat):(zbc k xs).flatten.length=k*xs.length:=by
 induction k with
 |zero=>simp
 |succ k ih=>rw[zca,zdk,zap,ih,Nat.succ_mul,Nat.add_comm]
end L2
namespace Att
open PySem PySem.W PySem.Calls PyProof.Rows
theorem qje9{P:zis}{h:zic}:∀(ns:List Int)(vs:List zhs),WellAll P h vs (ns.map WData.int)->zkz vs ns:=by
 intro ns
 induction ns with
 |nil =>
  intro vs w
  rw[zei] at w
  cases w
  exact .nil
 |cons n ns ih =>
  intro vs w
  rw[zbh] at w
  cases w with
  |cons a b =>
   cases a
   exact .cons _ _ (ih _ b)
theorem script_of{l:OpenLaw}{n:Nat}(hn:l.most=zhq n){P:zis}{h:zic}{args:List WData}{vals:List zhs}
  (hpre:l.row.toRowW.claim.pre args=true) (hwl:WellAll P h vals args) :
  ∃a vs ns,vals=[zhs.ref a]/\args=[WData.list (ns.map WData.int)]/\h.get? a=zhq { cls:=.type "list",data:=.seq vs.toArray }/\zkz vs ns/\ns.length<=n:=by
 have hsh:WShape.hasAll [] args [.list .int]=true:=(pre_splitW hpre).1
 have hc:l.pre.holds [] { args:=args }=true:=(pre_splitW hpre).2
 obtain⟨d,r,rfl,h1,h2⟩:=hasAllW_cons hsh
 obtain rfl:=hasAllW_nil h2
 obtain⟨xs,rfl,h3⟩:=hasW_list h1
 obtain⟨ns,rfl⟩:=items_int h3
 have hlen:ns.length<=n:=by
  unfold OpenLaw.pre at hc
  have h4:(WTm.not (.lt (.lit (.int (n:Int))) (.len (.arg 0)))).holds [] { args:=[.list (ns.map .int)] }=true:=by
   have h4:=(holds_andW hc).1
   rw[hn] at h4
   exact h4
  have h5:=condW_of h4 (w_not (w_lt w_lit (w_len_list (w_arg rfl))))
  rw[zac] at h5
  refine Nat.le_of_not_lt λ q=>?_
  have q':(n:Int)<((ns.length:Nat):Int):=⋯
  first
   | (rw[decide_eq_true q'] at h5;exact absurd h5 (by decide))
   | (simp at h5;omega)
 cases hwl with
 |cons w1 w2 =>
  cases w2
  cases w1 with
  |list ho hall=>exact⟨_,_,ns,rfl,rfl,ho,qje9 ns _ hall,hlen⟩
theorem post_true(l:OpenLaw)(args:List WData):l.row.toRowW.claim.post args (.bool true) args=true :=
 postW_of (r:=l.row.toRowW) (X:=(true==true))
  (show WShape.has [] (.bool true) .bool=true by first|rfl|decide|simp[WShape.has,WShape.arms,WShape.armsAll])
  (show(WTm.eq .res (.lit (.bool true))).value [] { args:=args,res:=zhq (.bool true),after:=args }=zhq (.bool (true==true)) from w_eq_bool (w_res rfl) w_lit) rfl
theorem attach_call{l:OpenLaw}{n:Nat}{q:zih}{loose:List Str}{XP:(Str->Option zhs)->zic->Prop}{YP:zhy->zic->Prop}{d:znu}
  (hn:l.most=zhq n) (hdf:d.params.defaults=[])
  (call:∀(w:zhy)(s₀ s₁:zhx)(mg mb:Str->Option zhs)(fa:zht)(o:Obj)(pm cd doc:zhs)(a:zht)(vs:List zhs)(ns:List Int),
   Ground q loose [] XP w s₀ mg mb s₁.heap->YP w s₁.heap ->
   s₁.heap.get? fa=zhq o->o.data=.func (docDef d.name d.params d.body d.scope pm cd doc)->s₁.heap.CodeRec cd d.name->mg d.name=zhq (.ref fa) ->
   s₁.heap.get? a=zhq { cls:=.type "list",data:=.seq vs.toArray }->zkz vs ns->ns.length<=n->s₁.gens=#[] ->
   zjr (zia l.prog w) zji (.call (.ref fa) ⟨[.ref a],[]⟩) (λ r s'=>r=.ok (.ret (.bool true))/\znv s₁.heap s'.heap/\s'.os=s₁.os/\zjl s'.gens) s₁) :
  WalkO q loose XP YP l.row.toRowW d [] (λ f vs=>PySem.call f vs):=by
 intro w s₀ s₁ mg mb G Y fa o pm cd doc dV kV ho hd hcd hD hmg hg args vals as hpre hlay hrd hwl hlo
 obtain rfl:dV=.none:=Dflts.none hD hdf
 obtain rfl:kV=.none:=Dflts.noKw hD
 obtain⟨a,vs,ns,rfl,rfl,hobj,hints,hlen⟩:=script_of hn hpre hwl
 refine enter_call (zjf (call w s₀ s₁ mg mb fa o pm cd doc a vs ns G Y ho (fd_plain hd) hcd hmg hobj hints hlen hg) λ r s' hq=>?_)
 obtain⟨rfl,h2,h3,h4⟩:=hq
 exact⟨.inl ⟨.bool true,.bool true,[],rfl,λ _=>rfl,.bool true,post_true l _,λ _=>⟨List.Pairwise.nil,λ _ hm=>(nomatch hm)⟩⟩,h2,h3,h4⟩
section
variable {prog:zih}{w:zhy}{A:zil}{E:zhs->zhx->Prop}{s:zhx}{K:Frag}
def ledger(h:zic)(L d:zht):List (zht×Obj):=(zde h.objs.size).filterMap λ a=>if a=L\/a=d then zhr else(h.get? a).map λ o=>(a,o)
end
end Att
namespace L2
open PySem PySem.Spec PyProof.Rows
variable {fd:zik}{H:Hp}{A B:Prop}{st:zhz}{qual x:Str}{K:W.Frag}
theorem qkr9:∀{vs:List zhs}{ns:List Int},zkz vs ns->Vals (ns.map V.int) vs
 |_,_,.nil=>.nil
 |_,_,.cons n t h=>.cons ⟨t,rfl⟩ (qkr9 h)
def Only(H:Hp):Prop:=∀b,H b=zhr\/∃o xs,H b=zhq (.frz o (.lst xs))
theorem law_call{P:zih}{w:zhy}{mg mb:Str->Option zhs}{CX:CXT}{k:Nat}{fa a:zht}{sp:Sp}{s₁:zhx}{vs:List zhs}{ns:List Int}
  (KX:K.In s₁.heap) (hns:s₁.heap.Ns zie mg) (hb:s₁.heap.Ns zka mb) (hbb:∀x:Str,x≠"__name__" -> mb x=zij x) (hlim:s₁.heap.NoLimit) (hg:s₁.gens=#[])
  (ha:s₁.heap.get? a=zhq { cls:=.type "list",data:=.seq vs.toArray }) (hi:zkz vs ns) (hl:ns.length<=zhu) (hr:Room k zji)
  (F:∀base:zic,K.In base->base.Ns zie mg->FnOk P w K mg base CX k fa fd [x] sp) (hbind:∀(s:zhx)(u:zhs),zjs s fd ⟨[u],[]⟩ [(x,u)])
  (hsp:∀H:Hp,Only H->SqL K H a (ns.map V.int)->sp [.ref a] H (λ v _=>v=.bl true) λ _ _ _=>False)
  (hCX:∀H e s',CX [] H s₁ (λ _ _ _=>False) e s'->False) :
  zjr (zia P w) zji (.call (.ref fa) ⟨[.ref a],[]⟩) (λ r s'=>r=.ok (.ret (.bool true))/\znv s₁.heap s'.heap/\s'.os=s₁.os/\zjl s'.gens) s₁:=by
 have rv:=qkr9 hi
 have lenV:=hi.length
 have core:∀H:Hp,Only H->SqL K H a (ns.map V.int)->HOk P w H s₁.heap->(∀b,H b≠zhr->b=a)->(H a≠zhr->K.lookup a=zhr) ->
   zjr (zia P w) zji (.call (.ref fa) ⟨[.ref a],[]⟩) (λ r s'=>r=.ok (.ret (.bool true))/\znv s₁.heap s'.heap/\s'.os=s₁.os/\zjl s'.gens) s₁:=by
  intro H hO hS hok hA hK
  have base_of:∀{b:zht}{o:Obj},s₁.heap.get? b=zhq o->H b=zhr->(hidT s₁.heap H).get? b=zhq o:=λ e n=>qtd9 e n
  have noA:∀{b:zht}{o:Obj}{es:Array zjy}{ep:Nat},s₁.heap.get? b=zhq o->o.data=.dict es ep->H b=zhr:=λ {b o es ep} e d=>by
   cases q:H b with
   |none=>rfl
   |some u =>
    have e':b=a:=hA b (by rw[q];simp)
    subst e'
    rw[ha] at e;cases e
    have d':Data.seq vs.toArray _=Data.dict es ep:=d
    cases d'
  have nsK:∀{b:zht}{m:Str->Option zhs},s₁.heap.Ns b m->(hidT s₁.heap H).Ns b m:=λ {b m} ⟨o,es,ep,e,d,r⟩=>⟨o,es,ep,base_of e (noA e d),d,r⟩
  have hKb:K.In (hidT s₁.heap H):=λ b o e=>base_of (KX b o e) (by
   cases q:H b with
   |none=>rfl
   |some u =>
    have e':b=a:=hA b (by rw[q];simp)
    subst e'
    rw[hK (by rw[q];simp)] at e;cases e)
  have hM:Mod K mg (hidT s₁.heap H):=⟨hKb,nsK hns,⟨mb,nsK hb,hbb⟩,let ⟨mc,h1,h2⟩:=hlim;⟨mc,nsK h1,h2⟩⟩
  have e0:Env0 P w K mg (hidT s₁.heap H) zji [] s₁ H:=⟨rfl,hM,λ b o e=>of_hidT e,zgd (qnp9 _ _),trivial,λ b hb=>absurd (show b∈([]:List zht) from hb) (by simp),hok,.of_eq hg⟩
  refine zjf ((F _ hKb (nsK hns)).run zji [] s₁ H ⟨[.ref a],[]⟩ [.ref a] [.ref a] _ _ hr e0 (hbind s₁ (.ref a)) (.cons rfl .nil) (hsp H hO hS)) λ r s' h=>?_
  cases r with
  |error e=>exact(hCX H e s' h).elim
  |ok fl =>
   cases fl with
   |next=>exact False.elim h
   |brk=>exact False.elim h
   |cont=>exact False.elim h
   |ret u =>
    obtain⟨v,H',os,bare,un,hok',r',q⟩:=h
    have q':v=.bl true:=q
    subst q'
    obtain rfl:u=zhs.bool true:=r'
    refine⟨rfl,znv.of_keep λ b o e=>?_,os,bare⟩
    cases q:H b with
    |none=>exact un.keep b o e q (by intro z;exact absurd (show b∈([]:List zht) from z) (by simp)) (by simp)
    |some u =>
     rcases hO b with z|⟨ob,xs,z⟩
     ·rw[q] at z;cases z
     ·have z2:=un.frzs b ob _ z
      obtain⟨e1,_⟩:=hok b _ z
      obtain⟨e2,_⟩:=hok' b _ z2
      rw[e] at e1;cases e1
      exact e2
 cases hk:K.lookup a with
 |some o =>
  have e:=KX a o hk
  rw[ha] at e
  cases e
  refine core (λ _=>zhr) (λ _=>.inl rfl) (.inr ⟨_,vs.toArray,_,hk,rfl,rfl,rfl,by rw[zaw,lenV];exact hl,by simpa using rv⟩) (λ b u z=>by have z':(zhr:Option HO)=zhq u:=z;cases z') (λ b z=>absurd rfl z) λ z=>absurd rfl z
 |none =>
  refine core (λ b=>if b=a then zhq (.frz { cls:=.type "list",data:=.seq vs.toArray } (.lst (ns.map V.int))) else zhr) (λ b=>?_) (.inl (.inr ⟨{ cls:=.type "list",data:=.seq vs.toArray },if_pos rfl⟩)) (λ b u z=>?_) (λ b z=>?_) λ _=>hk
  ·by_cases hb:b=a
   ·exact .inr ⟨_,_,if_pos hb⟩
   ·exact .inl (if_neg hb)
  ·by_cases hb:b=a
   ·have z':=(if_pos hb).symm.trans z
    cases z'
    subst hb
    exact⟨ha,by rw[zac];exact hl,vs,_,rv,ha⟩
   ·have z':=(if_neg hb).symm.trans z
    cases z'
  ·by_cases hb:b=a
   ·exact hb
   ·exact absurd (if_neg hb) z
abbrev KOf{h:zic}(_:K.In h):W.Frag:=K
theorem walk_of{l:W.OpenLaw}{n k:Nat}{q:zih}{loose:List Str}{XP:(Str->Option zhs)->zic->Prop}{YP:zhy->zic->Prop}{d:znu}{K:zis->W.Frag}{CX:zhy->CXT}{sp:zhy->Sp}
  (hn:l.most=zhq n) (hn2:n<=zhu) (hdf:d.params.defaults=[]) (hr:Room k zji)
  (hY:∀(w:zhy)(h:zic),YP w h->(K w.params).In h)
  (F:∀(w:zhy)(mg:Str->Option zhs)(fa:zht)(h:zic),(K w.params).In h->h.Ns zie mg->mg d.name=zhq (.ref fa) ->
   ∃fd:zik,(∀(s:zhx)(u:zhs),zjs s fd ⟨[u],[]⟩ [(x,u)]) /\
    ∀base:zic,(K w.params).In base->base.Ns zie mg->FnOk l.prog w (K w.params) mg base (CX w) k fa fd [x] (sp w))
  (hsp:∀(w:zhy)(H:Hp)(a:zht)(ns:List Int),ns.length<=n->Only H->SqL (K w.params) H a (ns.map V.int)->sp w [.ref a] H (λ v _=>v=.bl true) λ _ _ _=>False)
  (hCX:∀(w:zhy)(H:Hp)(s:zhx)(e:zhs)(s':zhx),CX w [] H s (λ _ _ _=>False) e s'->False) :
  W.WalkO q loose XP YP l.row.toRowW d [] (λ f vs=>PySem.call f vs):=by
 refine Att.attach_call hn hdf λ w s₀ s₁ mg mb fa o pm cd doc a vs ns G Y ho hd hcd hmg hobj hints hlen hg=>?_
 have KX:=hY w _ Y
 obtain⟨fd,hb,hF⟩:=F w mg fa _ KX G.T.g hmg
 exact law_call KX G.T.g G.T.b G.T.builtins G.T.nolimit hg hobj hints (zbj hlen hn2) hr hF hb (λ H hO hS=>hsp w H a ns hlen hO hS) λ H e s'=>hCX w H s₁ e s'
abbrev CX0:CXT:=λ _ _ _ _ _ _=>False
abbrev E0:XK:=λ _ _ _=>False
theorem pass0{X:Cx}:qjb9 CX0 X E0:=λ _ _ _ _ _ _ _ h=>h.elim
structure Fun(K:W.Frag)(x qual:Str)(st:zhz)(f:zht)(fd:zik):Prop where
 ex:∃(oc:zhs)(od:Option zht)(kV doc pm:zhs)(an:Option zht)(cdv ct:zhs) (osl:Array (Option zhs)),
  fd=W.fnOf x qual (qai9 st) (qag9 st) (qab9 st) .none kV doc pm an cdv ct/\K.lookup f=zhq ⟨oc,od,.func fd,osl⟩/\W.codeIn K cdv qual=true
 kp:W.keepIn K (.ref f)=true
section
variable {P:zih}{w:zhy}{mg:Str->Option zhs}{base:zic}
theorem Fun.ok{f:zht}{N ps:List Str}{k:Nat}{sp:Sp}(F:Fun K x qual st f fd)(S:FnScope N ps (qab9 st))(len:∀vs H Q E,sp vs H Q E->vs.length=ps.length)
  (hbody:∀(cdv:zhs)(A:zil)(outer:List Env)(s:zhx)(H:Hp)(vs:List V)(Q:VK)(E:XK),Room k (A.deeper (zjn qual (qab9 st) s.heap.objs.size f cdv))->sp vs H Q E ->
   ∃t,PSs (cxOf CX0 P w K mg base N qual (qab9 st) f cdv A outer s H E).nox (qag9 st) t/\t { nx:=λ _ H'=>Q .non H',rt:=Q } (start N vs) H):FnOk P w K mg base CX0 (k+1) f fd ps sp:=by
 obtain⟨oc,od,kV,doc,pm,an,cdv,ct,osl,rfl,lk,hcd⟩:=F.ex
 refine fn_of lk hcd S len λ A outer s H vs Q E hr hsp=>?_
 obtain⟨t,h,q⟩:=hbody cdv A outer s H vs Q E hr hsp
 exact⟨t,h.nox,q⟩
theorem Fun.binds{f:zht}{ps:List Str}(F:Fun K x qual st f fd)
  (h:∀(kV doc pm:zhs)(an:Option zht)(cdv ct:zhs)(us:List zhs),us.length=ps.length->zmf (W.fnOf x qual (qai9 st) (qag9 st) (qab9 st) .none kV doc pm an cdv ct) ⟨us,[]⟩=pure (ps.zip us)):Binds K fd ps []:=by
 obtain⟨oc,od,kV,doc,pm,an,cdv,ct,osl,rfl,lk,hcd⟩:=F.ex
 exact .all (h kV doc pm an cdv ct)
theorem fun_mk{f:zht}{oc:zhs}{od an:Option zht}{osl:Array (Option zhs)}{kV doc pm cdv ct:zhs}(l:K.lookup f=zhq ⟨oc,od,.func (W.fnOf x qual (qai9 st) (qag9 st) (qab9 st) .none kV doc pm an cdv ct),osl⟩)
  (c:W.codeIn K cdv qual=true) (k:W.keepIn K (.ref f)=true):Fun K x qual st f (W.fnOf x qual (qai9 st) (qag9 st) (qab9 st) .none kV doc pm an cdv ct):=⟨⟨oc,od,kV,doc,pm,an,cdv,ct,osl,rfl,l,c⟩,k⟩
end
theorem small1000{n:Nat}(h:n<=1000):n<zhu:=Nat.lt_of_le_of_lt h (by decide)
section
variable {X:Cx}
theorem pv(i:Nat){pos:Pos}(hN:X.N[i]?=zhq x:=by rfl)(hv:Vis X.env.scope x:=by first|exact zai rfl|exact zfm (zai rfl)|exact zfm (zfm rfl))(hd:(x==("__debug__":Str))=false:=by decide)
  (hcd:(x==("__classdict__":Str))=false:=by decide):PE X (.Name x pos) (tVar i):=pe_var hN hv hd hcd
end
theorem iteF(h:B):if false=true then A else B:=by
 rw[if_neg zay]
 exact h
theorem iteT(h:A):if true=true then A else B:=by
 rw[if_pos rfl]
 exact h
theorem ite2{c:Prop} [Decidable c](h1:c->A)(h2:¬c->B):if c then A else B:=by
 by_cases h:c
 ·rw[if_pos h]
  exact h1 h
 ·rw[if_neg h]
  exact h2 h
def Same(H H':Hp):Prop:=∀b o,H b=zhq o->H' b=zhq o
theorem Same.refl(H:Hp):Same H H:=λ _ _ h=>h
theorem Same.trans{H1 H2:Hp}(a:Same H H1)(b:Same H1 H2):Same H H2:=λ c o h=>b c o (a c o h)
theorem Same.free{H':Hp}(e:Same H H'){l:zht}(h:H' l=zho):H l=zho:=by
 cases q:H l with
 |none=>rfl
 |some o =>
  rw[e l o q] at h
  cases h
theorem Same.seq{H':Hp}{a:zht}{xs:List V}(e:Same H H')(h:SqL K H a xs):SqL K H' a xs:=by
 rcases h with(h|⟨o,h⟩)|h
 ·exact .inl (.inl (e _ _ h))
 ·exact .inl (.inr ⟨o,e _ _ h⟩)
 ·exact .inr h
end L2
set_option maxHeartbeats 4000000
namespace Ma
variable {d s x x' y y':Int}
theorem split(d x:Int)(hd:0<d):∃q,x=d*q+x%d/\0<=x%d/\x%d<d :=
 ⟨x/d,by have:=Int.mul_ediv_add_emod x d;omega,zdp x ⋯,zdb x hd⟩
theorem qbw9{k m:Int}(hd:0<d)(h:k<m):d*k+d<=d*m:=by
 have:=zdv (show k+1<=m by omega) (zgf hd)
 rw[zgr,zgq] at this
 exact this
def nextO(d a b t:Int):Int:=if b<t%d then t-t%d+d+a else t-t%d+(if a>t%d then a else t%d)
def lastO(d a b t:Int):Int:=if t%d<a then t-t%d-d+b else t-t%d+(if b<t%d then b else t%d)
section
variable {a b t:Int}
theorem qgx9(hd:0<d)(h0:0<=a)(h1:a<=b)(h2:b<d) :
  ∃k,d*k+a<=nextO d a b t/\nextO d a b t<=d*k+b/\t<=nextO d a b t/\nextO d a b t<t+d /\
   ∀k' x,d*k'+a<=x->x<=d*k'+b->t<=x->nextO d a b t<=x:=by
 obtain⟨q,hq,r0,r1⟩:=split d t hd
 unfold nextO
 generalize t%d=r at *
 split
 ·refine⟨q+1,?_⟩
  have e:d*(q+1)=d*q+d:=by rw[zgr,zgq]
  refine⟨⋯,⋯,⋯,⋯,λ k' x x1 x2 x3=>?_⟩
  rcases zdo q k' with hk|hk
  ·have:=qbw9 hd hk
   omega
  ·have:=zdv hk (zgf hd)
   omega
 ·refine⟨q,?_⟩
  refine⟨by split<;>omega,by split<;>omega,by split<;>omega,by split<;>omega,λ k' x x1 x2 x3=>?_⟩
  rcases(by omega:q<k'\/q=k'\/k'<q) with hk|hk|hk
  ·have:=qbw9 hd hk
   split<;>omega
  ·subst hk
   split<;>omega
  ·have:=qbw9 hd hk
   omega
end
structure Clk(d:Int)(n:Nat)(A B C:Nat->Int):Prop where
 d0:0<d
 a0:∀i,i<n->0<=A i
 ab:∀i,i<n->A i<=B i
 bd:∀i,i<n->B i<d
 c0:∀i,i<n->0<=C i
 lt:∀i j,i<j->j<n->B i<A j
 yl:∀i j,i<j->j<n->B i+C i<A j+C j
 wr:∀i j,i<n->j<n->B i+C i<d+(A j+C j)
def Dep(d:Int)(n:Nat)(A B C:Nat->Int)(x y:Int):Prop:=∃i k,i<n/\d*k+A i<=x/\x<=d*k+B i/\y=x+C i
section
variable {n:Nat}{A B C:Nat->Int}
theorem qmu9(K:Clk d n A B C)(h:Dep d n A B C x y)(h':Dep d n A B C x' y')(l:x<x'):y<y':=by
 obtain⟨i,k,hi,x1,x2,rfl⟩:=h
 obtain⟨j,m,hj,z1,z2,rfl⟩:=h'
 have d0:=K.d0
 have wr:=K.wr i j hi hj
 have a1:=K.a0 i hi
 have a2:=K.a0 j hj
 have b1:=K.bd i hi
 have b2:=K.bd j hj
 rcases(by omega:k<m\/k=m\/m<k) with hk|hk|hk
 ·have:=qbw9 d0 hk
  omega
 ·subst hk
  rcases(by omega:i<j\/i=j\/j<i) with e|e|e
  ·have:=K.yl i j e hj
   omega
  ·subst e
   omega
  ·have:=K.lt j i e hi
   omega
 ·have:=qbw9 d0 hk
  omega
theorem qoi9(K:Clk d n A B C)(h:Dep d n A B C x y)(h':Dep d n A B C x y'):y=y':=by
 obtain⟨i,k,hi,x1,x2,rfl⟩:=h
 obtain⟨j,m,hj,z1,z2,rfl⟩:=h'
 have d0:=K.d0
 have a1:=K.a0 i hi
 have a2:=K.a0 j hj
 have b1:=K.bd i hi
 have b2:=K.bd j hj
 rcases(by omega:k<m\/k=m\/m<k) with hk|hk|hk
 ·have:=qbw9 d0 hk
  omega
 ·subst hk
  rcases(by omega:i<j\/i=j\/j<i) with e|e|e
  ·have:=K.lt i j e hj
   omega
  ·rw[e]
  ·have:=K.lt j i e hi
   omega
 ·have:=qbw9 d0 hk
  omega
structure First(d:Int)(n:Nat)(A B C:Nat->Int)(t x y:Int):Prop where
 dep:Dep d n A B C x y
 le:t<=x
 least:∀x' y',Dep d n A B C x' y'->t<=x'->x<=x'
structure Last(d:Int)(n:Nat)(A B C:Nat->Int)(s x:Int):Prop where
 dep:∃y,Dep d n A B C x y/\y<=s
 most:∀x' y',Dep d n A B C x' y'->y'<=s->x'<=x
theorem First.uniq(K:Clk d n A B C){t:Int}(h:First d n A B C t x y)(h':First d n A B C t x' y'):x=x'/\y=y':=by
 have a:=h.least _ _ h'.dep h'.le
 have b:=h'.least _ _ h.dep h.le
 have e:x=x':=⋯
 subst e
 exact⟨rfl,qoi9 K h.dep h'.dep⟩
theorem First.ge(K:Clk d n A B C){t:Int}(h:First d n A B C t x y):t<=y:=by
 obtain⟨i,k,hi,x1,x2,rfl⟩:=h.dep
 have:=h.le
 have:=K.c0 i hi
 omega
theorem First.mono(K:Clk d n A B C){t u:Int}(h:First d n A B C t x y)(h':First d n A B C u x' y')(l:t<=u):y<=y':=by
 have a:=h.least _ _ h'.dep (by have:=h'.le;omega)
 rcases(by omega:x<x'\/x=x') with e|e
 ·have:=qmu9 K h.dep h'.dep e
  omega
 ·subst e
  have:=qoi9 K h.dep h'.dep
  omega
theorem Last.uniq(h:Last d n A B C s x)(h':Last d n A B C s x'):x=x':=by
 obtain⟨y,h1,h2⟩:=h.dep
 obtain⟨y',h1',h2'⟩:=h'.dep
 have:=h.most _ _ h1' h2'
 have:=h'.most _ _ h1 h2
 omega
theorem Last.le(K:Clk d n A B C)(h:Last d n A B C s x):x<=s:=by
 obtain⟨y,⟨i,k,hi,x1,x2,rfl⟩,h2⟩:=h.dep
 have:=K.c0 i hi
 omega
theorem Last.mono{u:Int}(h:Last d n A B C s x)(h':Last d n A B C u x')(l:s<=u):x<=x':=by
 obtain⟨y,h1,h2⟩:=h.dep
 exact h'.most _ _ h1 ⋯
end
end Ma
namespace Ma
abbrev T3:=Int×Int×Int
structure Rw(R:List T3)(at_ ride:Int):Prop where
 at0:0<=at_
 r0:0<=ride
 atb:at_<=3000000000000*(R.length:Int)
 rb:ride<=2000000000000*(R.length:Int)
 row:∀(i:Nat)(a b c:Int),R[i]?=zhq (a,b,c)->0<=a/\a<=b/\b<at_/\0<=c/\c<=2000000000000*(R.length:Int)
 adj:∀(i:Nat)(a b c a' b' c':Int),R[i]?=zhq (a,b,c)->R[i+1]?=zhq (a',b',c')->b<a'/\b+c<a'+c'
 last:∀(a b c:Int),R[R.length-1]?=zhq (a,b,c)->b=at_-1/\c=ride
 tch:∀(i:Nat)(a b c a' b' c':Int),R[i]?=zhq (a,b,c)->R[i+1]?=zhq (a',b',c')->b+1=a'->c≠c'
def rA(R:List T3)(i:Nat):Int:=(R.getD i (0,0,0)).1
def rB(R:List T3)(i:Nat):Int:=(R.getD i (0,0,0)).2.1
def rC(R:List T3)(i:Nat):Int:=(R.getD i (0,0,0)).2.2
theorem r_at{R:List T3}{i:Nat}(h:i<R.length):R[i]?=zhq (rA R i,rB R i,rC R i):=by
 unfold rA rB rC
 rw[zbn,zad h]
 rfl
theorem r_of{R:List T3}{i:Nat}{a b c:Int}(h:R[i]?=zhq (a,b,c)):rA R i=a/\rB R i=b/\rC R i=c:=by
 unfold rA rB rC
 rw[zbn,h]
 exact⟨rfl,rfl,rfl⟩
def lifted(R:List T3)(lift:Int):List T3:=R.map λ t=>(t.1,t.2.1,t.2.2+lift)
section
variable {d:Int}{n:Nat}{A B C:Nat->Int}
theorem first_min(K:Clk d n A B C){t:Int}{j:Nat}(hj:j<n)(hm:∀i,i<n->nextO d (A j) (B j) t<=nextO d (A i) (B i) t):First d n A B C t (nextO d (A j) (B j) t) (nextO d (A j) (B j) t+C j):=by
 obtain⟨k,k1,k2,k3,k4,k5⟩:=qgx9 (t:=t) K.d0 (K.a0 j hj) (K.ab j hj) (K.bd j hj)
 refine⟨⟨j,k,hj,k1,k2,rfl⟩,k3,?_⟩
 intro x' y' z9 hx;obtain⟨i,k',hi,x1,x2,rfl⟩ := z9
 obtain⟨k',a1,a2,a3,a4,a5⟩:=qgx9 (t:=t) K.d0 (K.a0 i hi) (K.ab i hi) (K.bd i hi)
 have:=a5 _ x' x1 x2 hx
 have:=hm i hi
 omega
end
end Ma
namespace L2
open PySem PySem.Spec PyProof.Rows
variable {a:zht}{op op':zjz}{X:Cx}{c e iter tg:Expr}{fd:zik}{base h':zic}{H:Hp}{pins:List (zht×Obj)}{caps:List (Option Nat)}{cl:List (Str×zht)}{es ifs:List Expr}{ps:List Str}{i j n:Nat}{p pos pos':Pos}{P:zih}{r r':R2}{scope:zjc}{s:zhx}{sp:Sp}{σ:St}{st:zhz}{x:Str}{mg:Str->Option zhs}{te:TE}{g:TG}{wi:TI}{tt:TT}{Q:VK}{K:W.Frag}
theorem bt_min:zij "min"=zhq (.builtin "min"):=by decide +kernel
theorem qeb9:zij "len"=zhq (.builtin "len"):=by decide +kernel
theorem qlt9:zij "all"=zhq (.builtin "all"):=by decide +kernel
theorem qap9:zij "isinstance"=zhq (.builtin "isinstance"):=by decide +kernel
theorem bt_int:zij "int"=zhq (.type "int"):=by decide +kernel
theorem bt_bool:zij "bool"=zhq (.type "bool"):=by decide +kernel
theorem bt_tuple:zij "tuple"=zhq (.type "tuple"):=by decide +kernel
def qay9:Expr->Bool
 | .Starred ..=>false
 |_=>true
theorem se_of{env:Env}(h:qay9 e=true):zif (e::es) env=(false,zii e env)::zif es env:=by
 cases e<;>first|rfl|cases h
theorem qky9{pos:Pos}{env:Env}:∀{es:List Expr},es.all qay9=true->(ziu pos (zif es env)).any (·.1)=false
 | [],_=>rfl
 |e::es,h=>by
  rw[zge,zaz] at h
  rw[se_of h.1]
  show(false||(ziu pos (zif es env)).any (·.1))=false
  rw[qky9 h.2]
  rfl
section
variable {t:TA}
theorem pa_c(ha:PE X e te)(hr:PA X es t)(h:qay9 e=true:=by rfl):PA X (e::es) (tCons te t):=pa_cons ha hr (se_of h)
end
section
variable {t:TA}{id T:String}{r:List V->Hp->VK->Prop}
theorem pe_cb(hc:CallR X (.builtin id) r)(hg:Gl X x)(hm:X.mg x=zhr)(hv:zij x=zhq (.builtin id))(ha:PA X (e::es) t)(hn:x≠"__name__" := by decide)(hdb:(x==("__debug__":Str))=false:=by decide)
  (he:qay9 e=true:=by rfl) (hpl:es.all qay9=true:=by rfl):PE X (.Call (.Name x p) (e::es) [] pos) (tCB r t):=pe_callB hc hg hm hv ha hn hdb (se_of he) (qky9 hpl)
theorem pe_ct(hc:CallR X (.type T) r)(hg:Gl X x)(hm:X.mg x=zhr)(hv:zij x=zhq (.type T))(ha:PA X (e::es) t)(hn:x≠"__name__" := by decide)(hdb:(x==("__debug__":Str))=false:=by decide)
  (he:qay9 e=true:=by rfl) (hpl:es.all qay9=true:=by rfl):PE X (.Call (.Name x p) (e::es) [] pos) (tCB r t):=pe_callTy hc hg hm hv ha hn hdb (se_of he) (qky9 hpl)
end
structure Callee(P:zih)(w:zhy)(K:W.Frag)(mg:Str->Option zhs)(base:zic)(k:Nat)(x:Str)(ps:List Str)(sp:Sp):Prop where
 ex:∃(f:zht)(fd:zik),FnOk P w K mg base CX0 k f fd ps sp/\Binds K fd ps []/\W.keepIn K (.ref f)=true/\mg x=zhq (.ref f)
theorem Callee.up{w:zhy}{k:Nat}(C:Callee P w K mg base j x ps sp)(h:j<=k):Callee P w K mg base k x ps sp:=by
 obtain⟨f,fd,G,b,kp,m⟩:=C.ex
 exact⟨f,fd,G.mono h,b,kp,m⟩
theorem Callee.mk'{w:zhy}{k:Nat}{f:zht}(G:FnOk P w K mg base CX0 k f fd ps sp)(b:Binds K fd ps [])(kp:W.keepIn K (.ref f)=true)(m:mg x=zhq (.ref f)):Callee P w K mg base k x ps sp:=⟨f,fd,G,b,kp,m⟩
section
variable {k:Nat}{t:TA}
theorem pe_fn(C:Callee X.prog X.w X.K X.mg X.base k x ps sp)(hr:Room k X.A)(hg:Gl X x)(ha:PA X (e::es) t)(hdb:(x==("__debug__":Str))=false:=by decide)
  (he:qay9 e=true:=by rfl) (hpl:es.all qay9=true:=by rfl) :
  PE X (.Call (.Name x p) (e::es) [] pos) (tCall sp [] E0 t):=by
 obtain⟨f,fd,G,b,kp,m⟩:=C.ex
 exact pe_call G hr hg m kp b .nil pass0 ha hdb (se_of he) (qky9 hpl)
end
def CDivB(_ j:Int):Prop:=0<j/\j<1606938044258990275541962092341162602522202993782792835301376
theorem op_fdivB:OpR X (zir .FloorDiv) (rI CDivB λ i j=>.int (i/j)):=opI λ i j _ _ _ _ _ hc q=>by
 have h1:(0:Int)<j:=hc.1
 have h2:=hc.2
 refine floordiv_int ⋯ (by rw[Int.fdiv_eq_ediv_of_nonneg i ⋯];exact q) (.inl (PyProof.noPylong_of_log2 ?_))
 have h0:j.natAbs≠0:=⋯
 have h3:j.natAbs<2 ^ 200:=by
  have e:(2:Nat) ^ 200=1606938044258990275541962092341162602522202993782792835301376:=by decide +kernel
  rw[e]
  omega
 have:=(zhf h0).mpr h3
 omega
theorem call_isi:CallR X (.builtin "isinstance") (λ xs H Q=>∃x T t b,xs=[x,.ty T]/\TyOf X.K H x t/\W.kitOne X.K t (.type T)=zhq b/\Q (.bl b) H):=by
 intro pins s σ H xs us Q I r h
 obtain⟨x,T,t,b,rfl,ty,hk,q⟩:=h
 obtain⟨u,v,rfl,r1,r2⟩:=Vals.two r
 cases (show v=zhs.type T from r2)
 exact isinst_ok I r1 ty hk λ tk=>⟨.bl b,H,I.tok tk,rfl,q⟩
def blk(X:Cx)(N':List Str)(scope:zjc)(cl:List (Str×zht))(C:zht)(s0:zhx)(H0:Hp)(fp:List zht):Cx :=
 { X with N:=N',s₀:=s0,H₀:=H0,env:=compEnvC scope cl C X.env,outer:=X.stack,ex:=fp,fn:=λ _=>false,pn:=[],xe:=λ _ _=>False }
def seen(caps:List (Option Nat))(σ:St):St:=caps.map λ o=>o.bind λ j=>(σ[j]?).join
structure BlkOk(X:Cx)(N':List Str)(scope:zjc)(cl:List (Str×zht))(caps:List (Option Nat)):Prop where
 clos:closureFor scope X.env=pure cl
 nocell:∀y∈scope.names,y.2 ≠ .cell
 kind:scope.kind=.function
 names:∀y∈scope.names,y.2=.local->scope.names.lookup y.1=zhq .local
 sub:∀x c,cl.lookup x=zhq c->X.env.cells.lookup x=zhq c
 has:∀x,((zkd scope X.env).names.lookup x=zhq .cell\/(zkd scope X.env).names.lookup x=zhq .free)->∃c,cl.lookup x=zhq c
 len:caps.length=N'.length
 cap:∀(i j:Nat)(x:Str),caps[i]?=zhq (zhq j)->N'[i]?=zhq x->X.N[j]?=zhq x/\(X.env.kindOf x=zhq .cell\/X.env.kindOf x=zhq .free)/\((zkd scope X.env).names.lookup x=zhq .cell\/(zkd scope X.env).names.lookup x=zhq .free)
theorem qgt9{h:zic}(x:zic.SameBut a h h'){b:zht}{o:Obj}(n:b≠a)(e:h.get? b=zhq o):h'.get? b=zhq o:=x.extBut b o n e
section
variable {N':List Str}{fp:List zht}
theorem blk_inv(B:BlkOk X N' scope cl caps)(I:Inv X pins σ H s)(hf:∀b∈fp,FpOk X pins H b){h1:zic}{m:Str->Option zhs}(hn:h1.Ns s.heap.objs.size m)(hk:∀b o,s.heap.get? b=zhq o->h1.get? b=zhq o){tk:Nat}
  (hfp:∀b∈fp,b<s.heap.objs.size):Inv (blk X N' scope cl s.heap.objs.size s H fp) [] (seen caps σ) H { s with heap:=h1,toks:=tk }:=by
 have bsz:X.base.objs.size<=s.heap.objs.size:=zbj I.ok.bsz I.sz
 refine⟨⟨I.ok.mod,B.kind,I.ok.glob,I.ok.blt,zaq _,λ x y c e1 e2=>I.ok.inj x y c (B.sub x c e1) (B.sub y c e2),B.has,λ _ _ z=>(nomatch z),I.ok.hd,I.ok.frames,.inl rfl,λ b hb=>⟨zbo (hfp b hb),λ x c e=>(hf b hb).2.2.2.2.1 x c (B.sub x c e)⟩,
   I.bs,bsz,λ b o e hb=>?_,λ b hb z=>?_,I.stack,I.stkFree⟩,rfl,I.bare,Un.kept hk,⟨m,hn,λ i x v e1 e2 _=>?_⟩,λ x c e=>?_,I.hok.fresh (zaq _),λ x c e=>I.freeC x c (B.sub x c e),λ p hp=>absurd (show p∈([]:List (zht×Obj)) from hp) (by simp),I.hok.kept hk,?_⟩
 ·obtain⟨_,_,_,z,_⟩:=hf b hb
  rcases z with z|z
  ·exact I.ok.noex b o e z
  ·exact absurd (zba (zax e) (zbj I.ok.bsz z)) (zco _)
 ·obtain⟨_,z1,z2,_⟩:=hf b hb
  rcases zag.mp (I.stkSub b z) with e|e
  ·exact z1 e
  ·exact z2 e
 ·have e2':(seen caps σ)[i]?=zhq (zhq v):=e2
  unfold seen at e2'
  rw[zah] at e2'
  cases ec:caps[i]? with
  |none=>rw[ec] at e2';cases e2'
  |some oj =>
   rw[ec] at e2'
   have e3:(oj.bind λ j=>(σ[j]?).join)=zhq v:=Option.some.inj e2'
   cases oj with
   |none=>cases e3
   |some j =>
    obtain⟨c1,c2,c3⟩:=B.cap i j x ec e1
    have e4:σ[j]?=zhq (zhq v):=by
     have e5:(σ[j]?).join=zhq v:=e3
     cases ej:σ[j]? with
     |none=>rw[ej] at e5;cases e5
     |some ov =>
      rw[ej] at e5
      cases ov with
      |none=>cases e5
      |some v'=>exact congrArg zhq e5
    obtain⟨m0,hn0,hl⟩:=I.loc
    obtain⟨u,ru,lk⟩:=hl j x v c1 e4 (by
     rcases c2 with z|z
     ·exact .inr (.inl z)
     ·exact .inr (.inr z))
    refine⟨u,ru,.inr ⟨c3,?_⟩⟩
    obtain⟨c,ecl⟩:=B.has x c3
    refine⟨c,ecl,?_⟩
    rcases lk with⟨z,_⟩|⟨_,c',e',⟨oc,q1,q2⟩⟩
    ·rcases c2 with y|y
     ·rw[y] at z;cases z
     ·rw[y] at z;cases z
    ·have ee:c'=c:=Option.some.inj (e'.symm.trans (B.sub x c ecl))
     subst ee
     exact⟨oc,hk _ _ q1,q2⟩
 ·obtain⟨v,o,q1,q2⟩:=I.cell x c (B.sub x c e)
  exact⟨v,o,hk _ _ q1,q2⟩
 ·show(seen caps σ).length=N'.length
  unfold seen
  rw[zac]
  exact B.len
theorem blk_end(I:Inv X pins σ H s)(hf:∀b∈fp,FpOk X pins H b)(hfp:∀b∈fp,b<s.heap.objs.size){σ':St}{H':Hp}{s':zhx}(J:Inv (blk X N' scope cl s.heap.objs.size s H fp) [] σ' H' s')
  (sb:zic.SameBut s.heap.objs.size s'.heap h'):Inv X pins σ H' { s' with heap:=h' }:=by
 have hC:∀b o,s.heap.get? b=zhq o->b≠s.heap.objs.size:=λ b o e=>zbo (zax e)
 have u:=J.base
 have u':Un (frs X.stack) fp H H' s.heap h':=by
  refine⟨λ b o e n hb hx=>qgt9 sb (hC b o e) (u.keep b o e n hb hx),λ b o e n hb hx=>?_,u.free,λ b o e hx=>?_,u.tups,u.frzs,u.tbls⟩
  ·obtain⟨sl,q⟩:=u.slot b o e n hb hx
   exact⟨sl,qgt9 sb (hC b o e) q⟩
  ·obtain⟨o',q⟩:=u.there b o e hx
   exact⟨o',qgt9 sb (hC b o e) q⟩
 have nC:H' s.heap.objs.size=zhr:=J.free
 have hok:HOk X.prog X.w H' h':=λ b o e=>by
  refine(J.hok b o e).stay (λ c v hc q=>qgt9 sb ?_ q) (λ _ q=>q) λ _ _ q=>q
  rcases hc with z|z
  ·intro z'
   rw[z] at z'
   rw[z',nC] at e
   cases e
  ·intro z'
   rw[z',nC] at z
   cases z
 obtain⟨hh,g,d,t,os'⟩:=s'
 obtain rfl:os'=s.os:=J.os
 show Inv X pins σ H' { s with heap:=h',gens:=g,drawn:=d,toks:=t }
 refine Inv.call (s:=s) (h':=h') (g':=g) (d':=d) (t':=t) (ch:=fp) I u' hok J.bare λ b hb=>?_
 obtain⟨_,z1,_,z3,z4,z5⟩:=hf b hb
 exact⟨z3,z1,z4,z5⟩
def cBody(caps:List (Option Nat))(g:TG)(tt:TT)(te:TE)(σ:St)(Q:VK)(J:It)(H1:Hp):Prop:=∀D,H1 D=zhr->∃W:Nat->Nat->Hp->Prop,(∃m,W 0 m (upd H1 D (.lst [])))/\∀i m H2,W i m H2 ->
 (J.stop i H2/\Q (.ref D) H2)\/(J.go i H2/\∃N:Hp->Prop,(∀H',N H'->∃m',m'<m/\W (i+1) m' H')/\∀x H3,J.yld i H2 x H3->g x (seen caps σ) H3 λ σ4 H4=>(∀(k:Nat) v,(seen caps σ)[k]?=zhq (zhq v)->σ4[k]?=zhq (zhq v))/\tt σ4 H4 λ b H5 =>
  if b=true then te σ4 H5 λ y H6=>∃ys,H6 D=zhq (.lst ys)/\ys.length<zhu/\N (upd H6 D (.lst (ys++[y]))) else N H5)
def tComp(wi:TI)(caps:List (Option Nat))(g:TG)(tt:TT)(te:TE):TE:=λ σ H Q=>wi σ H (cBody caps g tt te σ Q)
def tTrue:TT:=λ _ H Q=>Q true H
section
variable {elt:Expr}
theorem qlb9{J:It}{it:zht}{tn:Nat->zic->Prop}{H0:Hp}{C:zht}(T:Turn X.prog X.w X.K tg J fp it tn){s7 s9:zhx}{W:Nat->Nat->Hp->Prop}{N:Hp->Prop}(hN:∀H',N H'->∃m',m'<n/\W (i+1) m' H')
  (st7:tn (i+1) s7.heap) {σ8:St} {H9:Hp} (I9:Inv (blk X N' scope cl C s H0 fp) ([]++qpz9 fp s7.heap) σ8 H9 s9) (kp:∀(k:Nat) v,(seen caps σ)[k]?=zhq (zhq v)->σ8[k]?=zhq (zhq v)) (hl:(seen caps σ).length=σ8.length) (n9:N H9) :
  ∃m,m<n/\∃j H',Inv (blk X N' scope cl C s H0 fp) [] (seen caps σ) H' s9/\tn j s9.heap/\(∀b∈fp,H' b=zhr)/\W j m H':=by
 obtain⟨m',hm,w7⟩:=hN H9 n9
 refine⟨m',hm,i+1,H9,(I9.unpinned).weak hl kp,T.keep _ _ _ st7 λ b hb o e=>(I9.pin (b,o) (zar _ (zar _ (qfx9 hb e)))).1,λ b hb=>?_,w7⟩
 obtain⟨o,e,d⟩:=T.obj _ _ st7 b hb
 exact(I9.pin (b,o) (zar _ (zar _ (qfx9 hb e)))).2.1
def PTs(X:Cx)(ifs:List Expr)(t:TT):Prop :=
 ∀(pins:List (zht×Obj)) (s:zhx) (σ:St) (H:Hp) (Q:Bool->Hp->Prop),Inv X pins σ H s->t σ H Q ->
  zib (zia X.prog X.w) X.A (forIn ifs true λ c r=>if r=true then do let ok <- isTrue c X.env (zii c X.env);pure (ForInStep.yield ok) else pure (ForInStep.yield r)) (TP X pins σ Q) X.xe s
theorem pts_nil:PTs X [] tTrue:=λ _ _ _ H _ I h=>wpAny_tests_nil ⟨H,I,h⟩
theorem pts_one(h:PT X c tt):PTs X [c] tt:=λ pins s σ H Q I hw=>wpAny_tests_one (h pins s σ H Q I hw)
theorem qrv9{use:Option (zhs->Sem Unit)}{QQ:zhs->zhx->Prop}{pins:List (zht×Obj)}{s:zhx}{σ:St}{H:Hp}{Q:VK}{cpos:Pos}(B:BlkOk X N' scope cl caps)(hc:X.calm=true)(hi:PI X tg iter wi)(hg:∀C s0 H0 fp,PG (blk X N' scope cl C s0 H0 fp) tg g)(ht:∀C s0 H0 fp,PTs (blk X N' scope cl C s0 H0 fp) ifs tt)
  (he:∀C s0 H0 fp,PE (blk X N' scope cl C s0 H0 fp) elt te) (hs:∀x,ziz iter X.env x=pure x:=by intro _;rfl) (I:Inv X pins σ H s) (h:(tComp wi caps g tt te) σ H Q)
  (fin:∀(D C:zht)(s6:zhx)(H5:Hp),Inv X pins σ H5 s6->FpOk X pins H5 C->(∃m,s6.heap.Ns C m)->Q (.ref D) H5->compPost (zia X.prog X.w) X.A X.xe use QQ (.ref D) C (.ok .next) s6) :
  zib (zia X.prog X.w) X.A (comprehension (.ListComp elt [⟨tg,iter,ifs,0⟩] scope pos) scope X.env cpos (newList []) false (zii iter X.env) use) QQ X.xe s:=by
 refine wpAny_comprehension_free (use:=use) rfl hs B.clos B.kind B.names ?_
 refine thn (hi pins s σ H _ I h) λ v s1 h1=>thn h1 λ itv s2 h2=>?_
 obtain⟨it,fp,tn,J,H2,rfl,I2,T,st2,f2,q2⟩:=h2
 have fpl:∀b∈fp,b<s2.heap.objs.size:=λ b hb=>by
  obtain⟨o,e,_⟩:=T.obj _ _ st2 b hb
  exact zax e
 obtain⟨W,⟨m0,w0⟩,turn⟩:=q2 s2.heap.objs.size (I2.hok.fresh (zaq _))
 refine zkk ?_
 have I3:Inv X pins σ (upd H2 s2.heap.objs.size (.lst [])) { s2 with heap:=s2.heap.push { cls:=.type "list",data:=.seq ([]:List zhs).toArray } } :=
  I2.laid (t':=s2.toks) (λ b u e=>zao _ e) (zaq _) ⟨zbx _,[],0,.nil,zav _ rfl⟩
 generalize hs3:({ s2 with heap:=s2.heap.push { cls:=.type "list",data:=.seq ([]:List zhs).toArray } }:zhx)=s3 at I3
 have k23:∀b o,s2.heap.get? b=zhq o->s3.heap.get? b=zhq o:=λ b o e=>by rw[<- hs3];exact zao _ e
 have fpl3:∀b∈fp,b<s3.heap.objs.size:=λ b hb=>by
  obtain⟨o,e,_⟩:=T.obj _ _ st2 b hb
  exact zax (k23 b o e)
 have f3:∀b∈fp,FpOk X pins (upd H2 s2.heap.objs.size (.lst [])) b:=λ b hb=>⟨by rw[qao9 (zbo (fpl b hb))];exact(f2 b hb).1,(f2 b hb).2⟩
 refine wpAny_newFunctionEnv B.nocell (by intro y hy;simp at hy) (λ h1 hn1 sb1=>?_) B.kind
 have k31:∀b o,s3.heap.get? b=zhq o->h1.get? b=zhq o:=λ b o e=>sb1.extBut b o (zbo (zax e)) (zao _ e)
 have J0:=blk_inv (fp:=fp) (tk:=s3.toks+([]:List (Str×zhs)).length) B I3 f3 hn1 k31 fpl3
 have st1:tn 0 h1:=T.keep _ _ _ st2 λ b _ o e=>k31 b o (k23 b o e)
 have loop:zjr (zia X.prog X.w) X.A (.compLoop (.ListComp elt [⟨tg,iter,ifs,0⟩] scope pos) 0 (.ref it) (.ref s2.heap.objs.size) (blk X N' scope cl s3.heap.objs.size s3 (upd H2 s2.heap.objs.size (.lst [])) fp).env)
   (compPost (zia X.prog X.w) X.A X.xe use QQ (.ref s2.heap.objs.size) s3.heap.objs.size) { s3 with heap:=h1,toks:=s3.toks+([]:List (Str×zhs)).length }:=by
  refine codeAny_loop rfl (λ n s'=>∃i H',Inv (blk X N' scope cl s3.heap.objs.size s3 (upd H2 s2.heap.objs.size (.lst [])) fp) [] (seen caps σ) H' s'/\tn i s'.heap/\(∀b∈fp,H' b=zhr)/\W i n H') (λ n s5 hI=>?_) m0
   ⟨0,_,J0,st1,λ b hb=>(f3 b hb).1,w0⟩
  obtain⟨i,H5,I5,st5,fr5,w5⟩:=hI
  show zib _ _ ((compTurn (.ListComp elt [⟨tg,iter,ifs,0⟩] scope pos) 0 (.ref it) (.ref s2.heap.objs.size) (blk X N' scope cl s3.heap.objs.size s3 (upd H2 s2.heap.objs.size (.lst [])) fp).env).onRaise (λ x=>do noteFrame x (blk X N' scope cl s3.heap.objs.size s3 (upd H2 s2.heap.objs.size (.lst [])) fp).env;theTreesLotGoes x)) _ _ s5
  refine wpAny_noted ?_
  rw[compTurn_list]
  have ff:∀{H':Hp},(∀b∈fp,H' b=zhr)->∀b∈fp,FpOk (blk X N' scope cl s3.heap.objs.size s3 (upd H2 s2.heap.objs.size (.lst [])) fp) [] H' b:=λ {H'} hn b hb =>
   ⟨hn b hb,(J0.ok.exf b hb).1,J0.ok.exfs b hb,.inl hb,λ x c e=>(J0.ok.exf b hb).2 x c e,λ p hp=>absurd (show p∈([]:List (zht×Obj)) from hp) (by simp)⟩
  rcases turn i n H5 w5 with⟨stop,qn⟩|⟨go,N,hN,step⟩
  ·refine zhv (zlo (zhv (thn (T.done (blk X N' scope cl s3.heap.objs.size s3 (upd H2 s2.heap.objs.size (.lst [])) fp) rfl rfl rfl hc i [] s5 _ H5 _ I5 (ff fr5) st5 stop) λ r s6 z9=>?_)))
   obtain⟨hr,I6⟩ := z9
   subst hr
   refine zid ?_
   obtain⟨m,hn,_⟩:=id I6.loc
   exact fin _ _ _ _ (blk_end I3 f3 fpl3 I6 (zic.SameBut.refl _ _)) (I3.fpOk (zaq _) I6.free) ⟨m,hn⟩ qn
  ·refine zhv (zlo (zhv (thn (T.item (blk X N' scope cl s3.heap.objs.size s3 (upd H2 s2.heap.objs.size (.lst [])) fp) rfl rfl rfl hc i [] s5 _ H5 _ I5 (ff fr5) st5 go) λ r s6 z9=>?_)))
   obtain⟨u,hr,h6⟩ := z9
   subst hr
   refine zhv (thn h6 λ _ s7 z9=>?_)
   obtain⟨x,H7,I7,r7,y7,st7,fr7⟩ := z9
   have I7':=I7.pinned (ff fr7) (T.obj _ _ st7)
   refine zhv (zio (hg _ _ _ _ _ s7 _ H7 x u _ I7' r7 (step x H7 y7)) (λ _ s8 z9=>?_) λ _ _ f=>f.elim)
   obtain⟨σ8,H8,I8,kp,q8⟩ := z9
   refine zhv (zio (ht _ _ _ _ _ s8 σ8 H8 _ I8 q8) (λ b s9 z9=>?_) λ _ _ f=>f.elim)
   obtain⟨H9,I9,q9⟩ := z9
   cases b with
   |false =>
    rw[if_neg zay] at q9
    exact zid ⟨rfl,qlb9 T hN st7 I9 kp (I5.len.trans I9.len.symm) q9⟩
   |true =>
    rw[if_pos rfl] at q9
    refine zhv (zhv (zio (he _ _ _ _ _ s9 σ8 H9 _ I9 q9) (λ y s10 z9=>?_) λ _ _ f=>f.elim))
    obtain⟨y',H10,I10,r10,ys,hD,hl,n10⟩ := z9
    refine zhv (zio (qop9 (X:=blk X N' scope cl s3.heap.objs.size s3 (upd H2 s2.heap.objs.size (.lst [])) fp) _ s10 σ8 H10 (.ref s2.heap.objs.size) [y'] (.ref s2.heap.objs.size) [y] (λ _ H'=>N H') I10 rfl (.cons r10 .nil) ⟨_,ys,y',rfl,rfl,hD,hl,n10⟩) (λ _ s11 z9=>?_) λ _ _ f=>f.elim)
    obtain⟨_,H11,I11,_,n11⟩ := z9
    exact zid (zid ⟨rfl,qlb9 T hN st7 I11 kp (I5.len.trans I11.len.symm) n11⟩)
 exact codeAny_compStart_list loop (T.self X.A 0 _ _ _ st1 loop)
theorem pe_comp(B:BlkOk X N' scope cl caps)(hc:X.calm=true)(hi:PI X tg iter wi)(hg:∀C s0 H0 fp,PG (blk X N' scope cl C s0 H0 fp) tg g)(ht:∀C s0 H0 fp,PTs (blk X N' scope cl C s0 H0 fp) ifs tt)
  (he:∀C s0 H0 fp,PE (blk X N' scope cl C s0 H0 fp) elt te) (hs:∀x,ziz iter X.env x=pure x:=by intro _;rfl):PE X (.ListComp elt [⟨tg,iter,ifs,0⟩] scope pos) (tComp wi caps g tt te):=by
 intro pins s σ H Q I h
 rw[eval_ListComp]
 exact qrv9 (use:=zhr) B hc hi hg ht he hs I h λ D C s6 H5 I6 fC ⟨m,hn⟩ q=>⟨m,hn,λ h' sb=>⟨.ref D,H5,Inv.turned (t':=s6.toks) (it:=C) I6 (λ b o hb e=>sb.extBut b o hb e) fC.1 fC.2.1 fC.2.2.2.1 fC.2.2.2.2.1 fC.2.2.2.2.2,rfl,q⟩⟩
end
end
section
variable {a b d:Expr}{ta tb tc td:TE}
def tChain3(r r' r'':R2)(ta tb tc td:TE):TE:=λ σ H Q=>ta σ H λ x H1=>tb σ H1 λ y H2=>r x y H2 λ z H3=>∃k,z=.bl k /\
 (if k=true then tc σ H3 λ w' H4=>r' y w' H4 λ z' H5=>∃k',z'=.bl k'/\(if k'=true then td σ H5 λ w2 H6=>r'' w' w2 H6 Q else Q (.bl false) H5) else Q (.bl false) H3)
theorem pe_chain3{op'':zjz}{r'':R2}(ho:OpR X (zig op) r)(ho':OpR X (zig op') r')(ho'':OpR X (zig op'') r'')(ha:PE X a ta)(hb:PE X b tb)(hc:PE X c tc)(hd:PE X d td)
  (hm:zkh [op,op',op''] [b,c,d]=false:=by with_unfolding_all rfl):PE X (.Compare a [op,op',op''] [b,c,d] pos) (tChain3 r r' r'' ta tb tc td):=by
 intro pins s σ H Q I h
 refine zni (thn (ha pins s σ H _ I h) λ v s1 ⟨x,H1,I1,r1,q1⟩=>zmp (thn (hb pins s1 σ H1 _ I1 q1) λ u s2 ⟨y,H2,I2,r2,q2⟩ =>
  thn (ho pins s2 σ H2 x y v u _ I2 r1 r2 q2) λ d s3 ⟨z,H3,I3,r3,k,e,q3⟩=>?_)) hm
 subst e
 cases r3
 refine zim ?_
 cases k with
 |false=>exact znp ⟨.bl false,H3,I3,rfl,q3⟩
 |true =>
  refine znq (zmp (thn (hc pins s3 σ H3 _ I3 q3) λ w' s4 ⟨z',H4,I4,r4,q4⟩=>thn (ho' pins s4 σ H4 y z' u w' _ I4 r2 r4 q4) λ d' s5 z9=>?_))
  obtain⟨z2,H5,I5,r5,k2,e2,q5⟩ := z9
  subst e2
  cases r5
  refine zim ?_
  cases k2 with
  |false=>exact znp ⟨.bl false,H5,I5,rfl,q5⟩
  |true=>exact znq (chain_last (thn (hd pins s5 σ H5 _ I5 q5) λ w2 s6 ⟨z3,H6,I6,r6,q6⟩=>ho'' pins s6 σ H6 z' z3 w' w2 Q I6 r4 r6 q6))
theorem vals_bl{bs:List Bool}{its:List zhs}(r:Vals (bs.map V.bl) its){v:zhs}(h:its[i]?=zhq v):∃k,bs[i]?=zhq k/\v=.bool k:=by
 have hl:=r.length
 rw[zac] at hl
 have hi:i<bs.length:=by
  have:=(zab.mp h).1
  omega
 obtain⟨u,hu,ru⟩:=r.get (i:=i) (x:=.bl bs[i]) (by rw[zah,zad hi];rfl)
 rw[h] at hu
 cases hu
 exact⟨bs[i],zad hi,ru⟩
theorem all_range(bs:List Bool):((zde bs.length).all λ i=>(bs[i]?).getD true)=bs.all id:=by
 rw[zcc,zbl,zbl]
 constructor
 ·intro h x hx
  obtain⟨i,hi,e⟩:=zec.mp hx
  have:=h i (zcp.mpr hi)
  rw[zad hi,e] at this
  exact this
 ·intro h i hi
  have hi':=zcp.mp hi
  rw[zad hi']
  exact h _ (zbs hi')
theorem call_all(hc:X.calm=true):CallR X (.builtin "all") (λ xs H Q=>∃(p:zht)(bs:List Bool),xs=[.ref p]/\SqL X.K H p (bs.map V.bl)/\Q (.bl (bs.all id)) H):=by
 intro pins s σ H xs us Q I r h
 obtain⟨p,bs,rfl,hS,q⟩:=h
 obtain⟨u,rfl,ru⟩:=vals1 r
 cases ru
 obtain⟨its,rv,pl,hz⟩:=I.list hS
 have hl:=pl.isList
 have hlt:p<s.heap.objs.size:=by obtain⟨_,e,_⟩:=hl;exact zax e
 refine call_all_walk (zju hl ?_)
 refine⟨s.heap.objs.size,[s.heap.objs.size,p],[s.heap.objs.size],its.toArray.size,_,_,λ i=>(bs[i]?).getD true,rfl,Walks.list (A:=X.A.in1) (I.ok.hd hc) _ p (zbo hlt) its.toArray,
  ⟨⟨_,zav _ rfl,rfl,rfl⟩,hl.push _⟩,λ i v s' Q' E' hP hQ=>?_,λ h' tk hk=>?_⟩
 ·obtain⟨k,e,rfl⟩:=vals_bl rv (i:=i) (v:=v) (by simpa using hP)
  simp only[e,zgw] at hQ
  exact zim hQ
 ·have e:((zde its.toArray.size).all λ i=>(bs[i]?).getD true)=bs.all id:=by
   have hl2:=rv.length
   rw[zac] at hl2
   rw[zaw,<- hl2]
   exact all_range bs
  rw[e]
  have keep:∀b x,s.heap.get? b=zhq x->h'.get? b=zhq x:=λ b x e=>hk b x (λ hm=>by rw[zae.mp hm] at e;exact zco _ (zax e)) (zao _ e)
  exact⟨.bl (bs.all id),H,I.kept (t':=tk) keep,rfl,q⟩
end
section
variable {rest:List zhz}{t u:TS}
inductive tCut(t u:TS)(D:Ends)(σ:St)(H:Hp):Prop
 |mk (M:St->Hp->Prop):(t { D with nx:=M } σ H)->(∀σ' H',M σ' H'->u D σ' H')->tCut t u D σ H
theorem pss_cut(h1:PS X st t)(h2:PSs X rest u):PSs X (st::rest) (tCut t u):=by
 intro pins s σ H D I h
 obtain⟨M,h,hM⟩:=h
 refine zjm (thn (h1 pins s σ H { D with nx:=M } I h) λ f s1 q=>?_)
 cases f with
 |next =>
  obtain⟨σ',H',I',q⟩:=q
  exact h2 pins s1 σ' H' D I' (hM σ' H' q)
 |ret v=>exact q
 |brk=>exact q
 |cont=>exact q
inductive tCutE(t:TE)(σ:St)(H:Hp)(Q:VK):Prop
 |mk (M:V->Hp->Prop):t σ H M->(∀v H',M v H'->Q v H')->tCutE t σ H Q
theorem pe_cut(h:PE X e te):PE X e (tCutE te):=by
 intro pins s σ H Q I q
 obtain⟨M,q,hM⟩:=q
 exact thn (h pins s σ H M I q) λ u s1 ⟨v,H1,I1,r1,q1⟩=>⟨v,H1,I1,r1,hM v H1 q1⟩
inductive tCutT(t:TT)(σ:St)(H:Hp)(Q:Bool->Hp->Prop):Prop
 |mk (M:Bool->Hp->Prop):t σ H M->(∀b H',M b H'->Q b H')->tCutT t σ H Q
theorem pt_cut(h:PT X e tt):PT X e (tCutT tt):=by
 intro pins s σ H Q I q
 obtain⟨M,q,hM⟩:=q
 exact thn (h pins s σ H M I q) λ b s1 ⟨H1,I1,q1⟩=>⟨H1,I1,hM b H1 q1⟩
end
def qqn9(X:Cx)(N':List Str)(scope:zjc)(cl:List (Str×zht))(caps:List (Option Nat)):Bool :=
 (scope.names.all λ y=>y.2 != .cell)&&(scope.names.all λ y=>y.2 != .local||scope.names.lookup y.1==zhq .local) &&
 ((zkd scope X.env).names.all λ y=>!(y.2 == .cell||y.2 == .free)||(cl.lookup y.1).isSome)&&(caps.length==N'.length) &&
 ((zde caps.length).all λ i=>match caps[i]?,N'[i]? with
  |some (zhq j),zhq x=>(X.N[j]? == zhq x)&&(X.env.kindOf x==zhq .cell||X.env.kindOf x==zhq .free)&&((zkd scope X.env).names.lookup x==zhq .cell||(zkd scope X.env).names.lookup x==zhq .free)
  |_,_=>true)
theorem BlkOk.of{N':List Str}(clos:closureFor scope X.env=pure cl)(kind:scope.kind=.function)(sub:∀x c,cl.lookup x=zhq c->X.env.cells.lookup x=zhq c)
  (h:qqn9 X N' scope cl caps=true):BlkOk X N' scope cl caps:=by
 unfold qqn9 at h
 simp only[zaz] at h
 obtain⟨⟨⟨⟨h1,h2⟩,h3⟩,h4⟩,h5⟩:=h
 have ok3:∀x k,(zkd scope X.env).names.lookup x=zhq k->(k=.cell\/k=.free)->∃c,cl.lookup x=zhq c:=λ x k e hk=>by
  have:=zbl.mp h3 _ (PySem.mem_of_lookup e)
  have hb:(k==zkq.cell||k==zkq.free)=true:=by
   rcases hk with rfl|rfl<;>rfl
  simp only[hb,zhb,zgg] at this
  exact zcb.mp this
 refine⟨clos,λ y hy=>?_,kind,λ y hy e=>?_,sub,λ x hx=>?_,by simpa using h4,λ i j x e1 e2=>?_⟩
 ·have:=zbl.mp h1 y hy
  simpa using this
 ·have:=zbl.mp h2 y hy
  rw[e] at this
  simpa using this
 ·rcases hx with hx|hx
  ·exact ok3 x _ hx (.inl rfl)
  ·exact ok3 x _ hx (.inr rfl)
 ·have hi:i<caps.length:=(zab.mp e1).1
  have:=zbl.mp h5 i (zcp.mpr hi)
  rw[e1,e2] at this
  simp only[zaz,zdw,beq_iff_eq] at this
  exact⟨this.1.1,this.1.2,this.2⟩
section
variable {xs:List V}
theorem qgr9(Pv:zht->Nat->Hp->Prop)(h0:∀D,H D=zhr->Pv D 0 (upd H D (.lst [])))(hl:∀D i H',H D=zhr->i<=xs.length->Pv D i H'->SqL K H' a xs)
  (hs:∀D i x H',H D=zhr->xs[i]?=zhq x->Pv D i H'->g x (seen caps σ) H' λ σ4 H4=>(∀(k:Nat) v,(seen caps σ)[k]?=zhq (zhq v)->σ4[k]?=zhq (zhq v))/\tt σ4 H4 λ b H5 =>
   if b=true then te σ4 H5 λ y H6=>∃ys,H6 D=zhq (.lst ys)/\ys.length<zhu/\Pv D (i+1) (upd H6 D (.lst (ys++[y]))) else Pv D (i+1) H5)
  (hd:∀D H',H D=zhr->Pv D xs.length H'->Q (.ref D) H'):cBody caps g tt te σ Q (Itl K a) H:=by
 intro D hD
 refine⟨λ i m H'=>m=xs.length-i/\i<=xs.length/\Pv D i H',⟨xs.length,by simp,zbx _,h0 D hD⟩,?_⟩
 intro i m H2 z9;obtain⟨rfl,hi,p⟩ := z9
 have q:=hl D i H2 hD hi p
 by_cases hlt:i<xs.length
 ·refine .inr ⟨⟨xs,xs[i],q,by simp[hlt]⟩,Pv D (i+1),λ H' p'=>⟨xs.length-(i+1),⋯,rfl,hlt,p'⟩,λ x H3 y=>?_⟩
  obtain⟨e,y⟩:=y
  subst e
  exact hs D i x _ hD (y xs q) p
 ·have e:i=xs.length:=⋯
  subst e
  exact .inl ⟨⟨xs,q,zaq _⟩,hd D H2 hD p⟩
theorem qcq9(Pv:zht->Nat->Hp->Prop)(h0:∀D,H D=zhr->Pv D 0 (upd H D (.lst [])))(hl:∀D i H',H D=zhr->i<=xs.length->Pv D i H'->SqL K H' a xs)
  (hs:∀D i x H',H D=zhr->xs[i]?=zhq x->Pv D i H'->g x (seen caps σ) H' λ σ4 H4=>(∀(k:Nat) v,(seen caps σ)[k]?=zhq (zhq v)->σ4[k]?=zhq (zhq v))/\te σ4 H4 λ y H6=>∃ys,H6 D=zhq (.lst ys)/\ys.length<zhu/\Pv D (i+1) (upd H6 D (.lst (ys++[y]))))
  (hd:∀D H',H D=zhr->Pv D xs.length H'->Q (.ref D) H'):cBody caps g tTrue te σ Q (Itl K a) H:=qgr9 Pv h0 hl hs hd
theorem comp_tup(Pv:zht->Nat->Hp->Prop)(h0:∀D,H D=zhr->Pv D 0 (upd H D (.lst [])))(hl:∀D i H',H D=zhr->i<=xs.length->Pv D i H'->SqT K H' a xs)
  (hs:∀D i x H',H D=zhr->xs[i]?=zhq x->Pv D i H'->g x (seen caps σ) H' λ σ4 H4=>(∀(k:Nat) v,(seen caps σ)[k]?=zhq (zhq v)->σ4[k]?=zhq (zhq v))/\tt σ4 H4 λ b H5 =>
   if b=true then te σ4 H5 λ y H6=>∃ys,H6 D=zhq (.lst ys)/\ys.length<zhu/\Pv D (i+1) (upd H6 D (.lst (ys++[y]))) else Pv D (i+1) H5)
  (hd:∀D H',H D=zhr->Pv D xs.length H'->Q (.ref D) H'):cBody caps g tt te σ Q (Itt K a) H:=by
 intro D hD
 refine⟨λ i m H'=>m=xs.length-i/\i<=xs.length/\Pv D i H',⟨xs.length,by simp,zbx _,h0 D hD⟩,?_⟩
 intro i m H2 z9;obtain⟨rfl,hi,p⟩ := z9
 have q:=hl D i H2 hD hi p
 by_cases hlt:i<xs.length
 ·refine .inr ⟨⟨xs,xs[i],q,by simp[hlt]⟩,Pv D (i+1),λ H' p'=>⟨xs.length-(i+1),⋯,rfl,hlt,p'⟩,λ x H3 y=>?_⟩
  obtain⟨e,y⟩:=y
  subst e
  exact hs D i x _ hD (y xs q) p
 ·have e:i=xs.length:=⋯
  subst e
  exact .inl ⟨⟨xs,q,zaq _⟩,hd D H2 hD p⟩
theorem comp_tup0(Pv:zht->Nat->Hp->Prop)(h0:∀D,H D=zhr->Pv D 0 (upd H D (.lst [])))(hl:∀D i H',H D=zhr->i<=xs.length->Pv D i H'->SqT K H' a xs)
  (hs:∀D i x H',H D=zhr->xs[i]?=zhq x->Pv D i H'->g x (seen caps σ) H' λ σ4 H4=>(∀(k:Nat) v,(seen caps σ)[k]?=zhq (zhq v)->σ4[k]?=zhq (zhq v))/\te σ4 H4 λ y H6=>∃ys,H6 D=zhq (.lst ys)/\ys.length<zhu/\Pv D (i+1) (upd H6 D (.lst (ys++[y]))))
  (hd:∀D H',H D=zhr->Pv D xs.length H'->Q (.ref D) H'):cBody caps g tTrue te σ Q (Itt K a) H:=comp_tup Pv h0 hl hs hd
end
mutual
inductive RdV(K:W.Frag)(H:Hp):V->zhw->Prop
 |non:RdV K H .non .none
 |bl (b:Bool):RdV K H (.bl b) (.bool b)
 |int (i:Int):RdV K H (.int i) (.int i)
 |str (x:Str):RdV K H (.str x) (.str x)
 |lst {a:zht} {xs:List V} {ds:List zhw}:SqL K H a xs->RdAll K H xs ds->RdV K H (.ref a) (.list ds)
 |tup {a:zht} {xs:List V} {ds:List zhw}:SqT K H a xs->RdAll K H xs ds->RdV K H (.ref a) (.tuple ds)
inductive RdAll(K:W.Frag)(H:Hp):List V->List zhw->Prop
 |nil:RdAll K H [] []
 |cons {x:V} {d:zhw} {xs:List V} {ds:List zhw}:RdV K H x d->RdAll K H xs ds->RdAll K H (x::xs) (d::ds)
end
mutual
theorem Inv.rd(I:Inv X pins σ H s):∀{x:V}{d:zhw},RdV X.K H x d->∀u,RelV x u->∃as,Reads s.heap u d as
 |_,_,.non,u,r=>by cases (show u=zhs.none from r);exact⟨_,.none⟩
 |_,_,.bl b,u,r=>by cases (show u=zhs.bool b from r);exact⟨_,.bool b⟩
 |_,_,.int i,u,r=>by obtain⟨t,q⟩:=(show ∃t,u=zhs.int i t from r);cases q;exact⟨_,.int i t⟩
 |_,_,.str x,u,r=>by obtain⟨t,q⟩:=(show ∃t,u=zhs.str x t from r);cases q;exact⟨_,.str x t⟩
 |_,_,.lst (a:=a) hS hA,u,r=>by
  cases (show u=zhs.ref a from r)
  obtain⟨its,rv,p,hz⟩:=I.list hS
  obtain⟨as,q⟩:=Inv.rdAll I hA its rv
  obtain⟨o,e,hc,n,hd⟩:=p.isList
  exact⟨_,.list e hc hd (by simpa using q)⟩
 |_,_,.tup (a:=a) hS hA,u,r=>by
  cases (show u=zhs.ref a from r)
  obtain⟨its,rv,p,hz⟩:=I.tuple hS
  obtain⟨as,q⟩:=Inv.rdAll I hA its rv
  obtain⟨o,e,hc,n,hd⟩:=p
  exact⟨_,.tuple e hc hd (by simpa using q)⟩
theorem Inv.rdAll(I:Inv X pins σ H s):∀{xs:List V}{ds:List zhw},RdAll X.K H xs ds->∀us,Vals xs us->∃as,ReadsAll s.heap us ds as
 |_,_,.nil,us,r=>by cases r;exact⟨_,.nil⟩
 |_,_,.cons h1 h2,us,r=>by
  cases r with
  |cons r1 r2 =>
   obtain⟨as,q1⟩:=Inv.rd I h1 _ r1
   obtain⟨bs,q2⟩:=Inv.rdAll I h2 _ r2
   exact⟨_,.cons q1 q2⟩
end
inductive rEqD(K:W.Frag)(x:V)(y:V)(H:Hp)(Q:VK):Prop
 |mk (d:_) (e:_):RdV K H x d->RdV K H y e->SeqAt.shaped d=true->SeqAt.shaped e=true->Q (.bl (zhw.eqv d e)) H->rEqD K x y H Q
inductive rNeD(K:W.Frag)(x:V)(y:V)(H:Hp)(Q:VK):Prop
 |mk (d:_) (e:_):RdV K H x d->RdV K H y e->SeqAt.shaped d=true->SeqAt.shaped e=true->Q (.bl (!PyData.eqv d e)) H->rNeD K x y H Q
theorem op_eqD(hu:X.A.units+64<zjw):OpR X (zig .Eq) (rEqD X.K):=by
 intro pins s σ H x y v u Q I rx ry h
 obtain⟨d,e,hd,he,sd,se,q⟩:=h
 obtain⟨as,ra⟩:=I.rd hd v rx
 obtain⟨bs,rb⟩:=I.rd he u ry
 exact eq_dataH ra rb sd se hu ⟨.bl _,H,I,rfl,q⟩
theorem op_neD(hu:X.A.units+64<zjw):OpR X (zig .NotEq) (rNeD X.K):=by
 intro pins s σ H x y v u Q I rx ry h
 obtain⟨d,e,hd,he,sd,se,q⟩:=h
 obtain⟨as,ra⟩:=I.rd hd v rx
 obtain⟨bs,rb⟩:=I.rd he u ry
 exact ne_dataH ra rb sd se hu ⟨.bl _,H,I,rfl,q⟩
structure QE(X:Cx)(e:Expr)(t:TE):Prop where
 run:PE X e t
structure QT(X:Cx)(e:Expr)(t:TT):Prop where
 run:PT X e t
structure QW(X:Cx)(e:Expr)(t:TT):Prop where
 run:PW X e t
structure QA(X:Cx)(es:List Expr)(t:TA):Prop where
 run:PA X es t
structure QS(X:Cx)(st:zhz)(t:TS):Prop where
 run:PS X st t
structure QSs(X:Cx)(st:List zhz)(t:TS):Prop where
 run:PSs X st t
structure QG(X:Cx)(e:Expr)(t:TG):Prop where
 run:PG X e t
structure QGs(X:Cx)(es:List Expr)(t:TGs):Prop where
 run:PGs X es t
structure QI(X:Cx)(tg it:Expr)(w:TI):Prop where
 run:PI X tg it w
structure QO(X:Cx)(e:Option Expr)(t:TO):Prop where
 run:PO X e t
structure QC(X:Cx)(op:zjz)(a b:Expr)(t:TE):Prop where
 run:PC X op a b t
structure QOp(X:Cx)(f:zhs->zhs->Sem zhs)(r:R2):Prop where
 run:OpR X f r
structure QCall(X:Cx)(f:zhs)(r:List V->Hp->VK->Prop):Prop where
 run:CallR X f r
structure QIx(X:Cx)(r:R2):Prop where
 run:IxR X r
section
variable {rest:List zhz}{t u:TS}{a b d:Expr}{ta tb tc td:TE}{tA tB':TT}
theorem qan9:QSs X [] tNext:=⟨pss_nil⟩
theorem qae9(h1:QS X st t):QSs X [st] t:=⟨pss_one h1.run⟩
theorem qaa9(h1:QS X st t)(h2:QSs X rest u):QSs X (st::rest) (tSeq t u):=⟨pss_cons h1.run h2.run⟩
theorem qob9(h1:QS X st t)(h2:QSs X rest u):QSs X (st::rest) (tCut t u):=⟨pss_cut h1.run h2.run⟩
theorem qak9(hN:X.N.Nodup)(hi:X.N[i]?=zhq x)(hx:Loc X.env.scope x)(he:QE X e te)(hs:zjd e (zhq (.Name x pos')) pos.line X.env=pure false:=by rfl)(hf:X.fn x=true\/X.env.scope.names.lookup x=zhq .local:=by first|exact .inl rfl|exact .inr rfl|assumption) :
  QS X (.Assign [.Name x pos'] e pos) (tAsg te (gName i)):=⟨ps_set hN hi hx he.run hs hf⟩
theorem qs_if{a b:List zhz}{tc:TT}(hc:QT X c tc)(ha:QSs X a t)(hb:QSs X b u):QS X (.If c a b pos) (tIfS tc t u):=⟨ps_if hc.run ha.run hb.run⟩
theorem qam9(he:QE X e te):QS X (.Return (zhq e) pos) (tRet te):=⟨ps_ret he.run⟩
theorem qcl9(he:QE X e te)(hs:zjd e zhr pos.line X.env=pure false:=by rfl):QS X (.Expr e pos) (tDrop te):=⟨ps_expr he.run hs⟩
theorem qeo9{body:List zhz}{tb:TS}(hp:ziq (zia X.prog X.w) X.A X.env X.xe)(hc:X.calm=true)(hi:QI X tg iter wi)(hg:QG X tg g)(hb:QSs X body tb)
  (hs:∀x,ziz iter X.env x=pure x:=by intro _;rfl):QS X (.For tg iter body [] pos) (tFor wi g tb):=⟨ps_for hp hc hi.run hg.run hb.run hs⟩
theorem qat9(hN:X.N.Nodup)(hi:X.N[i]?=zhq x)(hx:Loc X.env.scope x)(hf:X.fn x=true\/X.env.scope.names.lookup x=zhq .local:=by first|exact .inl rfl|exact .inr rfl|assumption):QG X (.Name x pos) (gName i):=⟨pg_name hN hi hx hf⟩
theorem qhs9:QGs X [] gNil:=⟨pgs_nil⟩
theorem qbd9{t:TG}{u:TGs}(h1:QG X e t)(h2:QGs X es u)(hs:(ziw (e::es) X.env).map (·.2)=zmn e X.env::(ziw es X.env).map (·.2):=by rfl):QGs X (e::es) (gCons t u):=⟨pgs_cons h1.run h2.run hs⟩
theorem qpj9{k:Nat}{t:TGs}(hc:X.calm=true)(h:QGs X es t)
  (hn:(ziw es X.env).length=n:=by rfl) (hst:(ziw es X.env).findIdx? (·.1)=zhr:=by rfl):QG X (.Tuple es k pos) (gTup X.K n t):=⟨pg_tup hc h.run hn hst⟩
theorem qbl9{l:Expr}{tl:TE}(hl:QE X l tl):QI X tg l (iList X.K tl):=⟨pi_list hl.run⟩
theorem qi_tup{l:Expr}{tl:TE}(hl:QE X l tl):QI X tg l (iTup X.K tl):=⟨pi_tup hl.run⟩
theorem qia9{tg:Expr}{ta:TA}(hg:Gl X "range")(hm:X.mg "range"=zhr)(ha:QA X [a] ta)(h:qay9 a=true:=by rfl):QI X tg (.Call (.Name "range" p) [a] [] pos) (iRng1 ta):=⟨pi_range1 hg hm ha.run (se_of h)⟩
theorem qi_range2{tg:Expr}{ta:TA}(hg:Gl X "range")(hm:X.mg "range"=zhr)(ha:QA X [a,b] ta)(h:qay9 a=true:=by rfl)(h2:qay9 b=true:=by rfl):QI X tg (.Call (.Name "range" p) [a,b] [] pos) (iRng2 ta) :=
 ⟨pi_range2 hg hm ha.run (by rw[se_of h,se_of h2];rfl) (se_of h2)⟩
theorem qac9:QA X [] tNil:=⟨pa_nil⟩
theorem qa_c{t:TA}(ha:QE X e te)(hr:QA X es t)(h:qay9 e=true:=by rfl):QA X (e::es) (tCons te t):=⟨pa_c ha.run hr.run h⟩
theorem qv(i:Nat)(hN:X.N[i]?=zhq x:=by rfl)(hv:Vis X.env.scope x:=by first|exact zai rfl|exact zfm (zai rfl)|exact zfm (zfm rfl))(hd:(x==("__debug__":Str))=false:=by decide)
  (hcd:(x==("__classdict__":Str))=false:=by decide):QE X (.Name x pos) (tVar i):=⟨pe_var hN hv hd hcd⟩
theorem qe_bltn{v:V}{u:zhs}(hg:Gl X x)(hm:X.mg x=zhr)(hv:zij x=zhq u)(r:RelV v u)(hn:x≠"__name__" := by decide)(hd:(x==("__debug__":Str))=false:=by decide):QE X (.Name x pos) (tC v):=⟨pe_bltn hg hm hv r hn hd⟩
theorem qe_ty(n:String)(hg:Gl X x)(hm:X.mg x=zhr)(hv:zij x=zhq (.type n))(hn:x≠"__name__" := by decide)(hd:(x==("__debug__":Str))=false:=by decide):QE X (.Name x pos) (tC (.ty n)):=qe_bltn hg hm hv rfl hn hd
theorem qaf9{i:Int}:QE X (.Constant (.int i) j pos) (tC (.int i)):=⟨pe_int⟩
theorem qe_bl{b:Bool}:QE X (.Constant (.bool b) j pos) (tC (.bl b)):=⟨pe_bl⟩
theorem qbr9:QE X (.Constant .none j pos) (tC .non):=⟨pe_non⟩
theorem qah9:QE X (.Constant (.str x) j pos) (tC (.str x)):=⟨pe_str⟩
theorem qe_op{op:Operator}(ho:QOp X (zir op) r)(ha:QE X a ta)(hb:QE X b tb):QE X (.BinOp a op b pos) (tOp r ta tb):=⟨pe_op ho.run ha.run hb.run⟩
theorem qe_neg(ha:QE X a ta):QE X (.UnaryOp .USub a pos) (tUn (rU λ i=>.int (-i)) ta):=⟨pe_un un_neg ha.run⟩
theorem qe_not(ha:QE X a ta):QE X (.UnaryOp .Not a pos) (tNotV ta):=⟨pe_not ha.run⟩
theorem qe_isN(ha:QE X a ta):QE X (.Compare a [.Is] [.Constant .none j pos'] pos) (tIsN ta):=⟨pe_cmp (pc_isN ha.run)⟩
theorem qcw9(ha:QE X a ta):QT X (.Compare a [.Is] [.Constant .none j pos'] pos) (tB (tIsN ta)):=⟨pt_cmp (pc_isN ha.run)⟩
theorem qt_notN(ha:QE X a ta):QT X (.Compare a [.IsNot] [.Constant .none j pos'] pos) (tB (tNotN ta)):=⟨pt_cmp (pc_notN ha.run)⟩
theorem qfo9(ho:QOp X (zig op) r)(ha:QE X a ta)(hb:QE X b tb)(hm:ziy op b=false):QE X (.Compare a [op] [b] pos) (tOp r ta tb):=⟨pe_cmpR ho.run ha.run hb.run hm⟩
theorem qar9(ho:QOp X (zig op) r)(ha:QE X a ta)(hb:QE X b tb)(hm:ziy op b=false):QT X (.Compare a [op] [b] pos) (tTest (tOp r ta tb)):=⟨pt_cmpR ho.run ha.run hb.run hm⟩
theorem qrb9(ho:QOp X (zig op) r)(ho':QOp X (zig op') r')(ha:QE X a ta)(hb:QE X b tb)(hc:QE X c tc)(hm:zkh [op,op'] [b,c]=false:=by with_unfolding_all rfl) :
  QE X (.Compare a [op,op'] [b,c] pos) (tChain r r' ta tb tc):=⟨pe_chain ho.run ho'.run ha.run hb.run hc.run hm⟩
theorem qft9(ho:QOp X (zig op) r)(ho':QOp X (zig op') r')(ha:QE X a ta)(hb:QE X b tb)(hc:QE X c tc)(hm:zkh [op,op'] [b,c]=false:=by with_unfolding_all rfl) :
  QT X (.Compare a [op,op'] [b,c] pos) (tTest (tChain r r' ta tb tc)):=⟨pt_chain ho.run ho'.run ha.run hb.run hc.run hm⟩
theorem qe_chain3{op'':zjz}{r'':R2}(ho:QOp X (zig op) r)(ho':QOp X (zig op') r')(ho'':QOp X (zig op'') r'')(ha:QE X a ta)(hb:QE X b tb)(hc:QE X c tc)(hd:QE X d td)(hm:zkh [op,op',op''] [b,c,d]=false:=by with_unfolding_all rfl) :
  QE X (.Compare a [op,op',op''] [b,c,d] pos) (tChain3 r r' r'' ta tb tc td):=⟨pe_chain3 ho.run ho'.run ho''.run ha.run hb.run hc.run hd.run hm⟩
theorem qlw9{op:BoolOp}(h:QE X a ta):QE X (.BoolOp op [a] pos) ta:=⟨pe_one h.run⟩
theorem qpc9{rest:List Expr}(ha:QE X a ta)(hb:QE X (.BoolOp .And (b::rest) pos) tb):QE X (.BoolOp .And (a::b::rest) pos) (tAndV ta tb):=⟨pe_and ha.run hb.run⟩
theorem qe_or{rest:List Expr}(ha:QE X a ta)(hb:QE X (.BoolOp .Or (b::rest) pos) tb):QE X (.BoolOp .Or (a::b::rest) pos) (tOrV ta tb):=⟨pe_or ha.run hb.run⟩
theorem qir9(ha:QT X a tA):QW X (.BoolOp .And [a] pos) tA:=⟨pw_and1 ha.run⟩
theorem qeq9(ha:QT X a tA):QW X (.BoolOp .Or [a] pos) tA:=⟨pw_or1 ha.run⟩
theorem qmf9{rest:List Expr}(ha:QT X a tA)(hb:QW X (.BoolOp .And (b::rest) pos) tB'):QW X (.BoolOp .And (a::b::rest) pos) (tAnd tA tB'):=⟨pw_and ha.run hb.run⟩
theorem qw_or{rest:List Expr}(ha:QT X a tA)(hb:QW X (.BoolOp .Or (b::rest) pos) tB'):QW X (.BoolOp .Or (a::b::rest) pos) (tOr tA tB'):=⟨pw_or ha.run hb.run⟩
theorem QW.pt(h:QW X e tt):QT X e tt:=⟨h.run.pt⟩
theorem qdj9(ha:QT X a tA):QT X (.UnaryOp .Not a pos) (tNot tA):=⟨pt_not ha.run⟩
theorem qct9(h:QE X e te)(he:∀whole,isTrue e X.env whole=(do let v <- whole;zmx e.pos;zlz [v] (truthy v)):=by intro _;rfl):QT X e (tB te):=⟨pt_val h.run he⟩
theorem qgd9(h:QT X e tt):QT X e (tCutT tt):=⟨pt_cut h.run⟩
theorem qe_cut(h:QE X e te):QE X e (tCutE te):=⟨pe_cut h.run⟩
theorem qcc9(hc:QT X c tA)(ha:QE X a ta)(hb:QE X b tb):QE X (.IfExp c a b pos) (tIf tA ta tb):=⟨pe_ifExp hc.run ha.run hb.run⟩
theorem qbn9{t:TA}{x1:Nat}(h:QA X es t):QE X (.Tuple es x1 pos) (tTup t):=⟨pe_tup h.run⟩
theorem qbi9{t:TA}(h:QA X es t):QE X (.List es pos) (tLst t):=⟨pe_lst h.run⟩
theorem qe_ix(hr:QIx X r)(ha:QE X a ta)(hb:QE X b tb)(hs:PlainIx b):QE X (.Subscript a b pos) (tOp r ta tb):=⟨pe_ix hr.run ha.run hb.run hs⟩
theorem qfi9:QO X zhr tNoPart:=⟨po_none⟩
theorem qfh9(h:QE X e te):QO X (zhq e) (tPart te):=⟨po_some h.run⟩
theorem qps9{lo hi:Option Expr}{tl th:TO}{p2:Pos}(he:QE X e te)(hl:QO X lo tl)(hu:QO X hi th):QE X (.Subscript e (.Slice lo hi zhr p2) pos) (tSl (rSlL X.K) te tl th):=⟨qrh9 sl_list he.run hl.run hu.run⟩
theorem qe_cb{t:TA}{id:String}{r:List V->Hp->VK->Prop}(hc:QCall X (.builtin id) r)(hg:Gl X x)(hm:X.mg x=zhr)(hv:zij x=zhq (.builtin id))(ha:QA X (e::es) t)(hn:x≠"__name__" := by decide)(hdb:(x==("__debug__":Str))=false:=by decide)
  (he:qay9 e=true:=by rfl) (hpl:es.all qay9=true:=by rfl):QE X (.Call (.Name x p) (e::es) [] pos) (tCB r t):=⟨pe_cb hc.run hg hm hv ha.run hn hdb he hpl⟩
theorem qe_ct{t:TA}{T:String}{r:List V->Hp->VK->Prop}(hc:QCall X (.type T) r)(hg:Gl X x)(hm:X.mg x=zhr)(hv:zij x=zhq (.type T))(ha:QA X (e::es) t)(hn:x≠"__name__" := by decide)(hdb:(x==("__debug__":Str))=false:=by decide)
  (he:qay9 e=true:=by rfl) (hpl:es.all qay9=true:=by rfl):QE X (.Call (.Name x p) (e::es) [] pos) (tCB r t):=⟨pe_ct hc.run hg hm hv ha.run hn hdb he hpl⟩
theorem qe_fn{k:Nat}{t:TA}(C:Callee X.prog X.w X.K X.mg X.base k x ps sp)(hr:Room k X.A)(hg:Gl X x)(ha:QA X (e::es) t)(hdb:(x==("__debug__":Str))=false:=by decide)
  (he:qay9 e=true:=by rfl) (hpl:es.all qay9=true:=by rfl):QE X (.Call (.Name x p) (e::es) [] pos) (tCall sp [] E0 t):=⟨pe_fn C hr hg ha.run hdb he hpl⟩
theorem qbf9{o:Expr}{to:TE}{t:TA}{apos:Pos}(ho:QE X o to)(ha:QA X [e] t)(h:qay9 e=true:=by rfl)(hbase:zin o "append" X.env (zii o X.env)=zii o X.env:=by rfl)(hline:(apos.endLine==pos.line)=true:=by rfl) :
  QE X (.Call (.Attribute o "append" apos) [e] [] pos) (tBM X.K "list" rAppend to t) :=
 ⟨pe_bm PySem.F.plainAttrs_list PySem.F.slot_list_append PySem.F.type_list_append qop9 ho.run ha.run hbase (by rw[se_of h];rfl) hline (se_of h) rfl⟩
end
theorem qbu9:QOp X (zir .Add) (rI0 λ i j=>.int (i+j)):=⟨op_add⟩
theorem qgy9:QOp X (zir .Sub) (rI0 λ i j=>.int (i-j)):=⟨op_sub⟩
theorem qsq9:QOp X (zir .Mult) (rI CMul λ i j=>.int (i*j)):=⟨op_mul⟩
theorem qbm9:QOp X (zir .FloorDiv) (rI CDivB λ i j=>.int (i/j)):=⟨op_fdivB⟩
theorem qbj9:QOp X (zir .Mod) (rI (λ _ j=>0<j) λ i j=>.int (i%j)):=⟨op_mod⟩
theorem qji9:QOp X (zir .Pow) (rI CPow λ i j=>.int (i ^ j.toNat)):=⟨op_pow⟩
theorem qef9:QOp X (zig .Eq) rEq:=⟨op_eq⟩
theorem qkf9:QOp X (zig .NotEq) rNe:=⟨op_ne⟩
theorem qop_lt:QOp X (zig .Lt) (rI0 λ i j=>.bl (decide (i<j))):=⟨op_lt⟩
theorem qdi9:QOp X (zig .LtE) (rI0 λ i j=>.bl (decide (i<=j))):=⟨op_le⟩
theorem qrk9:QOp X (zig .Gt) (rI0 λ i j=>.bl (decide (j<i))):=⟨op_gt⟩
theorem qop_ge:QOp X (zig .GtE) (rI0 λ i j=>.bl (decide (j<=i))):=⟨op_ge⟩
theorem qkw9(hu:X.A.units+64<zjw):QOp X (zig .Eq) (rEqD X.K):=⟨op_eqD hu⟩
theorem qlc9(hu:X.A.units+64<zjw):QOp X (zig .NotEq) (rNeD X.K):=⟨op_neD hu⟩
theorem qau9:QIx X (rIxL X.K):=⟨ix_list⟩
theorem qas9:QIx X (rIxT X.K):=⟨ix_tup⟩
theorem qbg9:QCall X (.builtin "len") (λ xs H Q=>∃p ys,xs=[.ref p]/\(SqL X.K H p ys\/SqT X.K H p ys)/\Q (.int ys.length) H):=⟨qmc9⟩
theorem qkj9(hc:X.calm=true):QCall X (.builtin "min") (λ xs H Q=>∃i j,xs=[.int i,.int j]/\Q (.int (if j<i then j else i)) H):=⟨call_min2 hc⟩
theorem qfg9:QCall X (.builtin "isinstance") (λ xs H Q=>∃x T t b,xs=[x,.ty T]/\TyOf X.K H x t/\W.kitOne X.K t (.type T)=zhq b/\Q (.bl b) H):=⟨call_isi⟩
theorem qex9(hc:X.calm=true):QCall X (.builtin "all") (λ xs H Q=>∃(p:zht)(bs:List Bool),xs=[.ref p]/\SqL X.K H p (bs.map V.bl)/\Q (.bl (bs.all id)) H):=⟨call_all hc⟩
theorem qsn9:QCall X (.type "list") (λ xs H Q=>∃p ys,xs=[.ref p]/\(SqL X.K H p ys\/SqT X.K H p ys)/\∀l,H l=zhr->Q (.ref l) (upd H l (.lst ys))):=⟨qmq9⟩
section
variable {w:zhy}
theorem Fun.okQ{qual:Str}{f:zht}{N:List Str}{k:Nat}(F:Fun K x qual st f fd)(S:FnScope N ps (qab9 st))(len:∀vs H Q E,sp vs H Q E->vs.length=ps.length)
  (hbody:∀(cdv:zhs)(A:zil)(outer:List Env)(s:zhx)(H:Hp)(vs:List V)(Q:VK)(E:XK),Room k (A.deeper (zjn qual (qab9 st) s.heap.objs.size f cdv))->sp vs H Q E ->
   ∃t,QSs (cxOf CX0 P w K mg base N qual (qab9 st) f cdv A outer s H E).nox (qag9 st) t/\t { nx:=λ _ H'=>Q .non H',rt:=Q } (start N vs) H):FnOk P w K mg base CX0 (k+1) f fd ps sp:=by
 refine F.ok S len λ cdv A outer s H vs Q E hr h=>?_
 obtain⟨t,h1,h2⟩:=hbody cdv A outer s H vs Q E hr h
 exact⟨t,h1.run,h2⟩
end
structure SubL(cl cells:List (Str×zht)):Prop where
 to:∀x c,cl.lookup x=zhq c->cells.lookup x=zhq c
theorem subN{cells:List (Str×zht)}:SubL [] cells:=⟨λ _ _ e=>nomatch e⟩
theorem subC{c:zht}{cells:List (Str×zht)}(h:cells.lookup x=zhq c)(r:SubL cl cells):SubL ((x,c)::cl) cells:=⟨λ y d e=>by
 rw[List.lookup_cons] at e
 cases q:y==x with
 |true=>rw[q] at e;cases e;rw[eq_of_beq q];exact h
 |false=>rw[q] at e;exact r.to y d e⟩
section
variable {elt:Expr}
structure QTs(X:Cx)(ifs:List Expr)(t:TT):Prop where
 run:PTs X ifs t
theorem qdh9:QTs X [] tTrue:=⟨pts_nil⟩
theorem qoa9(h:QT X c tt):QTs X [c] tt:=⟨pts_one h.run⟩
theorem qdv9(N':List Str)(caps:List (Option Nat))(B:BlkOk X N' scope cl caps)(hc:X.calm=true)(hi:QI X tg iter wi)(hg:∀C s0 H0 fp,QG (blk X N' scope cl C s0 H0 fp) tg g)(ht:∀C s0 H0 fp,QTs (blk X N' scope cl C s0 H0 fp) ifs tt)
  (he:∀C s0 H0 fp,QE (blk X N' scope cl C s0 H0 fp) elt te) (hs:∀x,ziz iter X.env x=pure x:=by intro _;rfl):QE X (.ListComp elt [⟨tg,iter,ifs,0⟩] scope pos) (tComp wi caps g tt te) :=
 ⟨pe_comp B hc hi.run (λ C s0 H0 fp=>(hg C s0 H0 fp).run) (λ C s0 H0 fp=>(ht C s0 H0 fp).run) (λ C s0 H0 fp=>(he C s0 H0 fp).run) hs⟩
end
theorem qsc9(K:W.Frag)(hK:X.K=K){k:Nat}{t:TGs}(hc:X.calm=true)(h:QGs X es t)
  (hn:(ziw es X.env).length=n:=by rfl) (hst:(ziw es X.env).findIdx? (·.1)=zhr:=by rfl):QG X (.Tuple es k pos) (gTup K n t):=by
 subst hK
 exact qpj9 hc h hn hst
theorem qkl9(K:W.Frag)(hK:X.K=K):QIx X (rIxL K):=by subst hK;exact qau9
def CodeQ(c:zht)(qual:Str):zic->Prop:=λ h=>h.CodeRec (.ref c) qual
structure LamScope(N ps:List Str)(sc:zjc)(clos:List (Str×zht)):Prop where
 kind:sc.kind=.function
 co:sc.isCoroutine=false
 gen:sc.isGenerator=false
 nd:ps.Nodup
 pre:N.take ps.length=ps
 par:∀x∈ps,sc.names.lookup x=zhq .local
 nocell:∀y∈sc.names,y.2 ≠ .cell
 has:∀x,sc.names.lookup x=zhq .free->∃c,clos.lookup x=zhq c
 inj:∀x y c,clos.lookup x=zhq c->clos.lookup y=zhq c->x=y
def TabOk(H:Hp)(P:zht)(pos:Pos)(qual:Str):Prop :=
 ∃ps:Array zhs,H P=zhq (.tbl ps)/\TriplesOk ps.toList/\(codeAmong pos ps.toList=zhr\/∃c,codeAmong pos ps.toList=zhq (.ref c)/\H c=zhq (.ext (CodeQ c qual)))
def SameT(P:zht)(H H':Hp):Prop:=∀b o,H b=zhq o->b≠P->H' b=zhq o
def BMain(mg:Str->Option zhs)(base:zic):Prop:=∃bm ob,mg "__builtins__"=zhq (.ref bm)/\bm≠zka/\base.get? bm=zhq ob/\ob.cls=.type "module" /\ ob.dict=zhq zka/\ob.data=.plain
def fixed(X:Cx)(H:Hp)(h:zic):zic:=W.hideAll h (trk h H++frs X.stack)
theorem law_callT{w:zhy}{mb:Str->Option zhs}{k:Nat}{fa:zht}{s₁:zhx}{vs:List zhs}{ns:List Int}{tabs:List (zht×zht)}
  (KX:K.In s₁.heap) (hns:s₁.heap.Ns zie mg) (hb:s₁.heap.Ns zka mb) (hbb:∀x:Str,x≠"__name__" -> mb x=zij x) (hlim:s₁.heap.NoLimit) (hg:s₁.gens=#[])
  (ha:s₁.heap.get? a=zhq { cls:=.type "list",data:=.seq vs.toArray }) (hi:zkz vs ns) (hl:ns.length<=zhu) (hr:Room k zji) (hBM:BMain mg s₁.heap)
  (hT:∀q∈tabs,W.CodeHd s₁.heap q.1 q.2/\s₁.heap.get? q.2=zhq (W.tabObj #[])/\K.lookup q.2=zhr)
  (F:∀base:zic,K.In base->base.Ns zie mg->BMain mg base->(∀q∈tabs,W.CodeHd base q.1 q.2)->FnOk P w K mg base CX0 k fa fd [x] sp) (hbind:∀(s:zhx)(u:zhs),zjs s fd ⟨[u],[]⟩ [(x,u)])
  (hsp:∀H:Hp,(∀q∈tabs,H q.2=zhq (.tbl #[]))->SqL K H a (ns.map V.int)->sp [.ref a] H (λ v _=>v=.bl true) λ _ _ _=>False) :
  zjr (zia P w) zji (.call (.ref fa) ⟨[.ref a],[]⟩) (λ r s'=>r=.ok (.ret (.bool true))/\znv s₁.heap s'.heap/\s'.os=s₁.os/\zjl s'.gens) s₁:=by
 have rv:=qkr9 hi
 have lenV:=hi.length
 have aT:∀q∈tabs,q.2≠a:=λ q hq z=>by
  have:=(hT q hq).2.1
  rw[z,ha] at this
  cases this
 have core:∀H:Hp,(∀b,H b=zhr\/(b=a/\K.lookup a=zhr/\H b=zhq (.frz { cls:=.type "list",data:=.seq vs.toArray } (.lst (ns.map V.int))))\/∃q∈tabs,b=q.2/\H b=zhq (.tbl #[]))->(∀q∈tabs,H q.2=zhq (.tbl #[]))->SqL K H a (ns.map V.int) ->
   zjr (zia P w) zji (.call (.ref fa) ⟨[.ref a],[]⟩) (λ r s'=>r=.ok (.ret (.bool true))/\znv s₁.heap s'.heap/\s'.os=s₁.os/\zjl s'.gens) s₁:=by
  intro H hO hTb hS
  have hok:HOk P w H s₁.heap:=λ b u z=>by
   rcases hO b with e|⟨e,_,e2⟩|⟨q,hq,e,e2⟩
   ·rw[e] at z;cases z
   ·rw[e2] at z
    cases z
    subst e
    exact⟨ha,by rw[zac];exact hl,vs,_,rv,ha⟩
   ·rw[e2] at z
    cases z
    rw[e]
    exact(hT q hq).2.1
  have base_of:∀{b:zht}{o:Obj},s₁.heap.get? b=zhq o->H b=zhr->(hidT s₁.heap H).get? b=zhq o:=λ e n=>qtd9 e n
  have unt:∀{b:zht}{o:Obj},s₁.heap.get? b=zhq o->o.cls ≠ .type "list" -> o.cls ≠ .none->H b=zhr:=λ {b o} e n1 n2=>by
   rcases hO b with z|⟨z,_,_⟩|⟨q,hq,z,_⟩
   ·exact z
   ·rw[z,ha] at e;cases e;exact absurd rfl n1
   ·rw[z,(hT q hq).2.1] at e;cases e;exact absurd rfl n2
  have noA:∀{b:zht}{o:Obj}{es:Array zjy}{ep:Nat},s₁.heap.get? b=zhq o->o.data=.dict es ep->H b=zhr:=λ {b o es ep} e d=>by
   rcases hO b with z|⟨z,_,_⟩|⟨q,hq,z,_⟩
   ·exact z
   ·rw[z,ha] at e;cases e;cases (show Data.seq vs.toArray _=Data.dict es ep from d)
   ·rw[z,(hT q hq).2.1] at e;cases e;cases (show Data.fields _=Data.dict es ep from d)
  have nsK:∀{b:zht}{m:Str->Option zhs},s₁.heap.Ns b m->(hidT s₁.heap H).Ns b m:=λ {b m} ⟨o,es,ep,e,d,r⟩=>⟨o,es,ep,base_of e (noA e d),d,r⟩
  have hKb:K.In (hidT s₁.heap H):=λ b o e=>base_of (KX b o e) (by
   rcases hO b with z|⟨z,zk,_⟩|⟨q,hq,z,_⟩
   ·exact z
   ·rw[z,zk] at e;cases e
   ·rw[z,(hT q hq).2.2] at e;cases e)
  have hM:Mod K mg (hidT s₁.heap H):=⟨hKb,nsK hns,⟨mb,nsK hb,hbb⟩,let ⟨mc,h1,h2⟩:=hlim;⟨mc,nsK h1,h2⟩⟩
  have hB2:BMain mg (hidT s₁.heap H):=by
   obtain⟨bm,ob,b1,b2,b3,b4,b5,b6⟩:=hBM
   exact⟨bm,ob,b1,b2,base_of b3 (unt b3 (by rw[b4];decide) (by rw[b4];intro z;cases z)),b4,b5,b6⟩
  have hC2:∀q∈tabs,W.CodeHd (hidT s₁.heap H) q.1 q.2:=λ q hq=>by
   obtain⟨o,vs',file,tf,flags,tg,inF,text,tt,e1,r1,r⟩:=(hT q hq).1
   exact⟨o,vs',file,tf,flags,tg,inF,text,tt,base_of e1 (unt e1 (by rw[r1];decide) (by rw[r1];intro z;cases z)),r1,r⟩
  have e0:Env0 P w K mg (hidT s₁.heap H) zji [] s₁ H:=⟨rfl,hM,λ b o e=>of_hidT e,zgd (qnp9 _ _),trivial,λ b hb=>absurd (show b∈([]:List zht) from hb) (by simp),hok,.of_eq hg⟩
  refine zjf ((F _ hKb (nsK hns) hB2 hC2).run zji [] s₁ H ⟨[.ref a],[]⟩ [.ref a] [.ref a] _ _ hr e0 (hbind s₁ (.ref a)) (.cons rfl .nil) (hsp H hTb hS)) λ r s' h=>?_
  cases r with
  |error e=>exact False.elim h
  |ok fl =>
   cases fl with
   |next=>exact False.elim h
   |brk=>exact False.elim h
   |cont=>exact False.elim h
   |ret u =>
    obtain⟨v,H',os,bare,un,hok',r',q⟩:=h
    have q':v=.bl true:=q
    subst q'
    obtain rfl:u=zhs.bool true:=r'
    have at_:∀b o,s₁.heap.get? b=zhq o->s'.heap.get? b=zhq o\/∃q∈tabs,b=q.2/\∃more,s'.heap.get? b=zhq (W.tabObj (#[]++more)):=λ b o e=>by
     rcases hO b with z|⟨z,_,z2⟩|⟨q,hq,z,z2⟩
     ·exact .inl (un.keep b o e z (by intro z;exact absurd (show b∈([]:List zht) from z) (by simp)) (by simp))
     ·have z3:=un.frzs b _ _ z2
      obtain⟨e2,_⟩:=hok' b _ z3
      rw[z,ha] at e
      cases e
      exact .inl e2
     ·obtain⟨more,z3⟩:=un.tbls b _ z2
      exact .inr ⟨q,hq,z,more,hok' b _ z3⟩
    refine⟨rfl,⟨λ b o e=>?_,λ b o e=>?_⟩,os,bare⟩
    ·rcases at_ b o e with z|⟨q,hq,z,more,z2⟩
     ·exact .inl z
     ·have e2:=(hT q hq).2.1
      rw[<- z,e] at e2
      cases e2
      refine .inr (.inl ⟨?_,rfl,#[],more,rfl,z2⟩)
      rw[z]
      exact((hT q hq).1.tab (hT q hq).2.1).isCodeTable
    ·rcases at_ b o e with z|⟨q,hq,z,more,z2⟩
     ·exact⟨_,z⟩
     ·exact⟨_,z2⟩
 cases hk:K.lookup a with
 |some o =>
  have e:=KX a o hk
  rw[ha] at e
  cases e
  refine core (λ b=>if b∈tabs.map (·.2) then zhq (.tbl #[]) else zhr) (λ b=>?_) (λ q hq=>if_pos (zfs hq)) (.inr ⟨_,vs.toArray,_,hk,rfl,rfl,rfl,by rw[zaw,lenV];exact hl,by simpa using rv⟩)
  by_cases hb:b∈tabs.map (·.2)
  ·obtain⟨q,hq,e⟩:=zas.mp hb
   exact .inr (.inr ⟨q,hq,e.symm,if_pos hb⟩)
  ·exact .inl (if_neg hb)
 |none =>
  have na:a∉tabs.map (·.2):=λ z=>by
   obtain⟨q,hq,e⟩:=zas.mp z
   exact aT q hq e
  refine core (λ b=>if b∈tabs.map (·.2) then zhq (.tbl #[]) else if b=a then zhq (.frz { cls:=.type "list",data:=.seq vs.toArray } (.lst (ns.map V.int))) else zhr) (λ b=>?_) (λ q hq=>if_pos (zfs hq)) (.inl (.inr ⟨{ cls:=.type "list",data:=.seq vs.toArray },?_⟩))
  ·by_cases hb:b∈tabs.map (·.2)
   ·obtain⟨q,hq,e⟩:=zas.mp hb
    exact .inr (.inr ⟨q,hq,e.symm,if_pos hb⟩)
   ·by_cases hb2:b=a
    ·exact .inr (.inl ⟨hb2,hk,by rw[if_neg hb,if_pos hb2]⟩)
    ·exact .inl (by rw[if_neg hb,if_neg hb2])
  ·show(if a∈tabs.map (·.2) then _ else _)=_
   rw[if_neg na,if_pos rfl]
theorem walk_ofT{l:W.OpenLaw}{k:Nat}{q:zih}{loose:List Str}{XP:(Str->Option zhs)->zic->Prop}{YP:zhy->zic->Prop}{d:znu}{K:zis->W.Frag}{sp:W.Frag->List (zht×zht)->Sp}
  (hn:l.most=zhq n) (hn2:n<=zhu) (hdf:d.params.defaults=[]) (hr:Room k zji)
  (hY:∀(w:zhy)(h:zic),YP w h->(K w.params).In h)
  (F:∀(w:zhy)(mg mb:Str->Option zhs)(mean:zod->Option zhs)(fa:zht)(h:zic),(K w.params).In h->Top q (W.looseW q loose) mean mg mb h->mg d.name=zhq (.ref fa) ->
   ∃(fd:zik) (tabs:List (zht×zht)),(∀(s:zhx)(u:zhs),zjs s fd ⟨[u],[]⟩ [(x,u)])/\(∀t∈tabs,W.CodeHd h t.1 t.2/\h.get? t.2=zhq (W.tabObj #[])/\(K w.params).lookup t.2=zhr) /\
    ∀base:zic,(K w.params).In base->base.Ns zie mg->BMain mg base->(∀t∈tabs,W.CodeHd base t.1 t.2)->FnOk l.prog w (K w.params) mg base CX0 k fa fd [x] (sp (K w.params) tabs))
  (hsp:∀(K:W.Frag) (tabs:List (zht×zht)) (H:Hp) (a:zht) (ns:List Int),ns.length<=n->(∀t∈tabs,H t.2=zhq (.tbl #[]))->SqL K H a (ns.map V.int)->sp K tabs [.ref a] H (λ v _=>v=.bl true) λ _ _ _=>False) :
  W.WalkO q loose XP YP l.row.toRowW d [] (λ f vs=>PySem.call f vs):=by
 refine Att.attach_call hn hdf λ w s₀ s₁ mg mb fa o pm cd doc a vs ns G Y ho hd hcd hmg hobj hints hlen hg=>?_
 have KX:=hY w _ Y
 obtain⟨fd,tabs,hb,hT,hF⟩:=F w mg mb _ fa _ KX G.T hmg
 obtain⟨bm,ob,b1,b2,b3,b4,b5,b6⟩:=G.T.bmain
 exact law_callT KX G.T.g G.T.b G.T.builtins G.T.nolimit hg hobj hints (zbj hlen hn2) hr ⟨bm,ob,b1,b2,b3,b4,b5,b6⟩ hT hF hb (λ H hTb hS=>hsp _ _ H a ns hlen hTb hS)
theorem Inv.turnedL{H':Hp}{ch:List zht}(I:Inv X pins σ H s)(hf:∀b∈ch,FpOk X pins H b)(k:∀b o,b∉ch->s.heap.get? b=zhq o->h'.get? b=zhq o)
  (up:∀b o,H b=zhq o->H' b=zhq o) (no:∀b o,s.heap.get? b=zhq o->H b=zhr->H' b=zhr) (new:∀b o,H b=zhr->H' b=zhq o->ObjOk X.prog X.w H' h' b o):Inv X pins σ H' { s with heap:=h' }:=by
 have tr:∀b o,H b=zhq o->b∉ch:=λ b o e z=>by rw[(hf b z).1] at e;cases e
 refine I.call (s:=s) (h':=h') (g':=s.gens) (d':=s.drawn) (t':=s.toks) (ch:=ch) ⟨λ b o e _ _ hx=>k b o hx e,λ b o e _ _ hx=>⟨o.slots,k b o hx e⟩,λ b o e n _=>no b o e n,λ b o e hx=>⟨o,k b o hx e⟩,λ b xs e=>up b _ e,λ b o u e=>up b _ e,λ b ps e=>⟨#[],by rw[up b _ e];simp⟩⟩ (λ b o e=>?_) I.bare λ b hb=>?_
 ·cases q:H b with
  |none=>exact new b o q e
  |some o2 =>
   have e2:=up b o2 q
   rw[e] at e2
   cases e2
   refine(I.hok b o q).stay (λ c v hc q2=>k c v ?_ q2) (λ c q2=>up c _ q2) λ c xs q2=>up c _ q2
   rcases hc with hc|hc
   ·rw[hc];exact tr b o q
   ·exact tr c _ hc
 ·obtain⟨_,f1,_,f3,f4,f5⟩:=hf b hb
  exact⟨f3,f1,f4,f5⟩
theorem boot_zip:zij "zip"=zhq (.type "zip"):=by decide +kernel
end L2
namespace Ma
variable {P d lo y:Int}{R:List T3}
abbrev T4:=Int×Int×Bool×Int
def btS(d t:Int)(best:Option Int)(w:T3):Option Int :=
 match best with
 |none=>zhq (nextO d w.1 w.2.1 t+w.2.2)
 |some b=>if nextO d w.1 w.2.1 t+w.2.2<b then zhq (nextO d w.1 w.2.1 t+w.2.2) else zhq b
def bt(d:Int)(R:List T3)(t:Int):Option Int:=R.foldl (btS d t) zhr
theorem bt_nil(d t:Int):bt d [] t=zhr:=rfl
structure IsMin(d t:Int)(R:List T3)(y:Int):Prop where
 at_:∃w∈R,y=nextO d w.1 w.2.1 t+w.2.2
 le:∀w∈R,y<=nextO d w.1 w.2.1 t+w.2.2
theorem IsMin.uniq{t:Int}{y':Int}(h:IsMin d t R y)(h':IsMin d t R y'):y=y':=by
 obtain⟨w,hw,e⟩:=h.at_
 obtain⟨w',hw',e'⟩:=h'.at_
 have:=h.le w' hw'
 have:=h'.le w hw
 omega
theorem fold_bt(d t:Int):∀(R:List T3)(best:Option Int),(best=zhr/\R=[]/\R.foldl (btS d t) best=zhr) \/
  ∃y,R.foldl (btS d t) best=zhq y/\(best=zhq y\/∃w∈R,y=nextO d w.1 w.2.1 t+w.2.2)/\(∀b,best=zhq b->y<=b)/\∀w∈R,y<=nextO d w.1 w.2.1 t+w.2.2
 | [],zhr=>.inl ⟨rfl,rfl,rfl⟩
 | [],zhq b=>.inr ⟨b,rfl,.inl rfl,λ b' e=>by cases e;exact zbq _,λ w hw=>by cases hw⟩
 |w::R,best=>by
  rw[zcq]
  rcases fold_bt d t R (btS d t best w) with⟨e,_⟩|⟨y,e1,e2,e3,e4⟩
  ·cases best with
   |none=>cases e
   |some b =>
    simp only[btS] at e
    split at e<;>cases e
  ·refine .inr ⟨y,e1,?_,λ b hb=>?_,λ u hu=>?_⟩
   ·rcases e2 with e2|⟨u,hu,e2⟩
    ·cases best with
     |none =>
      cases e2
      exact .inr ⟨w,zan ..,rfl⟩
     |some b =>
      simp only[btS] at e2
      split at e2
      ·cases e2
       exact .inr ⟨w,zan ..,rfl⟩
      ·cases e2
       exact .inl rfl
    ·exact .inr ⟨u,zal _ hu,e2⟩
   ·subst hb
    by_cases c:nextO d w.1 w.2.1 t+w.2.2<b
    ·have:=e3 _ (by simp only[btS];rw[if_pos c])
     omega
    ·exact e3 _ (by simp only[btS];rw[if_neg c])
   ·rcases zag.mp hu with rfl|hu
    ·cases best with
     |none=>exact e3 _ rfl
     |some b =>
      by_cases c:nextO d u.1 u.2.1 t+u.2.2<b
      ·exact e3 _ (by simp only[btS];rw[if_pos c])
      ·have:=e3 b (by simp only[btS];rw[if_neg c])
       omega
    ·exact e4 u hu
theorem qsa9(d t:Int)(R:List T3):(R=[]/\bt d R t=zhr)\/∃y,bt d R t=zhq y/\IsMin d t R y:=by
 rcases fold_bt d t R zhr with⟨_,e,e2⟩|⟨y,e1,e2,_,e4⟩
 ·exact .inl ⟨e,e2⟩
 ·refine .inr ⟨y,e1,?_,e4⟩
  rcases e2 with e2|e2
  ·cases e2
  ·exact e2
theorem IsMin.bt{t:Int}(h:IsMin d t R y):bt d R t=zhq y:=by
 rcases qsa9 d t R with⟨rfl,_⟩|⟨y',e,h'⟩
 ·obtain⟨w,hw,_⟩:=h.at_
  cases hw
 ·rw[e,h.uniq h']
theorem bt_min{t:Int}(h:bt d R t=zhq y):IsMin d t R y:=by
 rcases qsa9 d t R with⟨rfl,e⟩|⟨y',e,h'⟩
 ·rw[e] at h;cases h
 ·rw[e] at h
  cases h
  exact h'
def Tells(d:Int)(R:List T3)(f:Int->Int):Prop:=∀t,bt d R t=zhq (f t)
def bf(d:Int)(R:List T3)(t:Int):Int:=(bt d R t).getD 0
theorem qrr9(h:R≠[]):Tells d R (bf d R):=λ t=>by
 unfold bf
 rcases qsa9 d t R with⟨e,_⟩|⟨y,e,_⟩
 ·exact absurd e h
 ·rw[e];rfl
theorem Tells.eq{f g:Int->Int}(h:Tells d R f)(h':Tells d R g)(t:Int):f t=g t:=by
 have:=h t
 rw[h' t] at this
 exact(Option.some.inj this).symm
theorem Tells.ne{f:Int->Int}(h:Tells d R f):R≠[]:=λ e=>by
 have:=h 0
 rw[e,bt_nil] at this
 cases this
structure Rise(d:Int)(f:Int->Int):Prop where
 ge:∀t,t<=f t
 mono:∀t u,t<=u->f t<=f u
 per:∀t,f (t+d)=f t+d
theorem Rise.mul{f:Int->Int}(r:Rise d f)(t:Int):∀k:Int,f (t+d*k)=f t+d*k:=by
 have up:∀(t:Int)(n:Nat),f (t+d*(n:Int))=f t+d*(n:Int):=λ t n=>by
  induction n with
  |zero=>simp
  |succ n ih =>
   have e:d*((n+1:Nat):Int)=d*(n:Int)+d:=by
    rw[zgj,zgr]
    simp
   rw[e,<- Int.add_assoc,r.per,ih]
   omega
 intro k
 rcases zhc 0 k with h|h
 ·have e:k=((k.toNat:Nat):Int):=⋯
  rw[e]
  exact up t _
 ·obtain⟨m,e⟩:∃m:Nat,k=-(m:Int):=⟨(-k).toNat,⋯⟩
  subst e
  have:=up (t+d * -(m:Int)) m
  rw[Int.mul_neg] at this ⊢
  have e2:t+-(d*(m:Int))+d*(m:Int)=t:=⋯
  rw[e2] at this
  omega
def Wins(d:Int)(R:List T3):Prop:=∀w∈R,0<=w.1/\w.1<=w.2.1/\w.2.1<d/\0<=w.2.2
structure CK(d:Int)(R:List T3):Prop where
 d0:0<d
 win:Wins d R
 srt:R.Pairwise λ u v=>u.2.1<v.1/\u.2.1+u.2.2<v.1+v.2.2/\(u.2.1+1=v.1->u.2.2≠v.2.2)
 wr:∀u∈R,∀v∈R,u.2.1+u.2.2<d+(v.1+v.2.2)
theorem qhu9{i:Nat}(h:i<R.length):(rA R i,rB R i,rC R i)∈R:=zaf (r_at h)
theorem mem_get{w:T3}(h:w∈R):∃i,i<R.length/\rA R i=w.1/\rB R i=w.2.1/\rC R i=w.2.2:=by
 obtain⟨i,hi,e⟩:=zec.mp h
 have e2:R[i]?=zhq (w.1,w.2.1,w.2.2):=by rw[zad hi,e]
 exact⟨i,hi,r_of e2⟩
theorem pw_get{p:T3->T3->Prop}(h:R.Pairwise p){i j:Nat}(hij:i<j)(hj:j<R.length):p (rA R i,rB R i,rC R i) (rA R j,rB R j,rC R j):=by
 have e1:=r_at (R:=R) (i:=i) ⋯
 have e2:=r_at (R:=R) hj
 rw[zad ⋯] at e1
 rw[zad hj] at e2
 have:=List.pairwise_iff_getElem.mp h i j ⋯ hj hij
 rw[Option.some.inj e1,Option.some.inj e2] at this
 exact this
theorem CK.clk(h:CK d R):Clk d R.length (rA R) (rB R) (rC R) :=
 ⟨h.d0,λ i hi=>(h.win _ (qhu9 hi)).1,λ i hi=>(h.win _ (qhu9 hi)).2.1,λ i hi=>(h.win _ (qhu9 hi)).2.2.1,λ i hi=>(h.win _ (qhu9 hi)).2.2.2,
  λ i j hij hj=>(pw_get h.srt hij hj).1,λ i j hij hj=>(pw_get h.srt hij hj).2.1,λ i j hi hj=>h.wr _ (qhu9 hi) _ (qhu9 hj)⟩
theorem ex_min(g:Nat->Int):∀n:Nat,0<n->∃j,j<n/\∀i,i<n->g j<=g i
 |0,h=>absurd h (zco _)
 |1,_=>⟨0,⋯,λ i hi=>by have:i=0:=⋯;rw[this];exact zbq _⟩
 |n+2,_=>by
  obtain⟨j,hj,h⟩:=ex_min g (n+1) ⋯
  rcases zhc (g j) (g (n+1)) with c|c
  ·refine⟨j,⋯,λ i hi=>?_⟩
   rcases(by omega:i<n+1\/i=n+1) with z|z
   ·exact h i z
   ·rw[z];exact c
  ·refine⟨n+1,⋯,λ i hi=>?_⟩
   rcases(by omega:i<n+1\/i=n+1) with z|z
   ·have:=h i z
    omega
   ·rw[z];exact zbq _
theorem clk_first(K:Clk d R.length (rA R) (rB R) (rC R))(n0:R.length≠0)(t:Int):∃x y,First d R.length (rA R) (rB R) (rC R) t x y/\bt d R t=zhq y:=by
 obtain⟨j,hj,hm⟩:=ex_min (λ i=>nextO d (rA R i) (rB R i) t) R.length ⋯
 have F:=first_min K hj hm
 refine⟨_,_,F,IsMin.bt ⟨⟨_,qhu9 hj,rfl⟩,λ w hw=>?_⟩⟩
 obtain⟨i,hi,e1,e2,e3⟩:=mem_get hw
 obtain⟨k,k1,k2,k3,k4,k5⟩:=qgx9 (t:=t) K.d0 (K.a0 i hi) (K.ab i hi) (K.bd i hi)
 have D:Dep d R.length (rA R) (rB R) (rC R) (nextO d (rA R i) (rB R i) t) (nextO d (rA R i) (rB R i) t+rC R i):=⟨i,k,hi,k1,k2,rfl⟩
 have le:=F.least _ _ D k3
 rw[<- e1,<- e2,<- e3]
 rcases(by omega:nextO d (rA R j) (rB R j) t<nextO d (rA R i) (rB R i) t\/nextO d (rA R j) (rB R j) t=nextO d (rA R i) (rB R i) t) with z|z
 ·have:=qmu9 K F.dep D z
  omega
 ·rw[<- z] at D
  have:=qoi9 K F.dep D
  omega
structure Can(lo P:Int)(f:Int->Int)(R:List T3):Prop where
 srt:R.Pairwise λ u v=>u.2.1<v.1/\(u.2.1+1=v.1->u.2.2≠v.2.2)
 mem:∀w∈R,lo<=w.1/\w.1<=w.2.1/\w.2.1<P/\∀x,w.1<=x->x<=w.2.1->f x=x+w.2.2/\f x<f (x+1)
 cov:∀x,lo<=x->x<P->f x<f (x+1)->∃w∈R,w.1<=x/\x<=w.2.1
theorem Can.tail{f:Int->Int}{w:T3}(h:Can lo P f (w::R)):Can (w.2.1+1) P f R:=by
 have s:=zeq.mp h.srt
 have hw:=h.mem w (zan ..)
 refine⟨s.2,λ u hu=>?_,λ x x0 x1 x2=>?_⟩
 ·have a:=h.mem u (zal _ hu)
  have b:=(s.1 u hu).1
  exact⟨⋯,a.2⟩
 ·obtain⟨u,hu,u1,u2⟩:=h.cov x ⋯ x1 x2
  rcases zag.mp hu with rfl|hu
  ·omega
  ·exact⟨u,hu,u1,u2⟩
theorem Can.head_le{f:Int->Int}{w:T3}(h:Can lo P f (w::R)){x:Int}(x0:lo<=x)(x1:x<P)(x2:f x<f (x+1)):w.1<=x:=by
 have s:=zeq.mp h.srt
 obtain⟨u,hu,u1,u2⟩:=h.cov x x0 x1 x2
 rcases zag.mp hu with rfl|hu
 ·exact u1
 ·have:=(s.1 u hu).1
  have:=(h.mem w (zan ..)).2.1
  omega
theorem Can.end_le{f:Int->Int}{w w':T3}{R':List T3}(h:Can lo P f (w::R))(h':Can lo P f (w'::R'))(ea:w.1=w'.1)(ec:w.2.2=w'.2.2):w'.2.1<=w.2.1:=by
 rcases zdo w.2.1 w'.2.1 with z|z
 ·exfalso
  have m:=h.mem w (zan ..)
  have m':=h'.mem w' (zan ..)
  have q:=m'.2.2.2 (w.2.1+1) ⋯ ⋯
  obtain⟨u,hu,u1,u2⟩:=h.cov (w.2.1+1) ⋯ ⋯ q.2
  rcases zag.mp hu with rfl|hu
  ·omega
  ·have s:=(zeq.mp h.srt).1 u hu
   have r:=((h.mem u (zal _ hu)).2.2.2 (w.2.1+1) u1 u2).1
   exact s.2 ⋯ ⋯
 ·exact z
theorem Can.uniq{P:Int}{f:Int->Int}:∀{R R':List T3}{lo:Int},Can lo P f R->Can lo P f R'->R=R'
 | [],[],_,_,_=>rfl
 | [],w::R,lo,h,h'=>by
  have m:=h'.mem w (zan ..)
  obtain⟨u,hu,_⟩:=h.cov w.1 m.1 ⋯ (m.2.2.2 w.1 (zbq _) m.2.1).2
  cases hu
 |w::R,[],lo,h,h'=>by
  have m:=h.mem w (zan ..)
  obtain⟨u,hu,_⟩:=h'.cov w.1 m.1 ⋯ (m.2.2.2 w.1 (zbq _) m.2.1).2
  cases hu
 |w::R,w'::R',lo,h,h'=>by
  have m:=h.mem w (zan ..)
  have m':=h'.mem w' (zan ..)
  have q:=m.2.2.2 w.1 (zbq _) m.2.1
  have q':=m'.2.2.2 w'.1 (zbq _) m'.2.1
  have l1:=h.head_le (x:=w'.1) m'.1 ⋯ q'.2
  have l2:=h'.head_le (x:=w.1) m.1 ⋯ q.2
  have ea:w.1=w'.1:=⋯
  have ec:w.2.2=w'.2.2:=by
   have:=q.1
   have:=q'.1
   rw[ea] at *
   omega
  have b1:=h.end_le h' ea ec
  have b2:=h'.end_le h ea.symm ec.symm
  have eb:w.2.1=w'.2.1:=⋯
  have ew:w=w':=by
   obtain⟨x,y,z⟩:=w
   obtain⟨x',y',z'⟩:=w'
   cases ea
   cases eb
   cases ec
   rfl
  subst ew
  rw[Can.uniq h.tail h'.tail]
theorem next_dep{f:Int->Int}(hd:0<d)(r:Rise d f)(t:Int):∃x,t<=x/\x<t+d/\f x=f t/\f x<f (x+1):=by
 have go:∀n:Nat,f t<f (t+n)->∃x,t<=x/\x<t+n/\f x=f t/\f x<f (x+1):=by
  intro n
  induction n with
  |zero=>intro h;simp at h
  |succ n ih =>
   intro h
   by_cases c:f t<f (t+n)
   ·obtain⟨x,x1,x2,x3,x4⟩:=ih c
    exact⟨x,x1,⋯,x3,x4⟩
   ·have b:=r.mono t (t+n) ⋯
    have e:t+((n+1:Nat):Int)=t+n+1:=⋯
    rw[e] at h
    exact⟨t+n,⋯,⋯,⋯,⋯⟩
 have e:d=((d.toNat:Nat):Int):=⋯
 have:=go d.toNat (by rw[<- e,r.per];omega)
 rw[<- e] at this
 exact this
theorem Can.tells{f:Int->Int}(hd:0<d)(r:Rise d f)(h:Can 0 d f R):Tells d R f:=by
 intro t
 have lo:∀w∈R,f t<=nextO d w.1 w.2.1 t+w.2.2:=λ w hw=>by
  obtain⟨m0,m1,m2,m3⟩:=h.mem w hw
  obtain⟨k,k1,k2,k3,k4,k5⟩:=qgx9 (t:=t) hd m0 m1 m2
  generalize nextO d w.1 w.2.1 t=x at *
  have q:=(m3 (x-d*k) ⋯ ⋯).1
  have q2:=r.mul (x-d*k) k
  have e:x-d*k+d*k=x:=⋯
  rw[e] at q2
  have:=r.mono t x k3
  omega
 refine IsMin.bt ⟨?_,lo⟩
 obtain⟨x,x1,x2,x3,x4⟩:=next_dep hd r t
 obtain⟨q,e,e0,e1⟩:=split d x hd
 have p0:=r.mul (x%d) q
 have p1:=r.mul (x%d+1) q
 have e2:x%d+d*q=x:=⋯
 have e3:x%d+1+d*q=x+1:=⋯
 rw[e2] at p0
 rw[e3] at p1
 obtain⟨w,hw,w1,w2⟩:=h.cov (x%d) e0 e1 ⋯
 obtain⟨m0,m1,m2,m3⟩:=h.mem w hw
 have c:=(m3 (x%d) w1 w2).1
 obtain⟨k,k1,k2,k3,k4,k5⟩:=qgx9 (t:=t) hd m0 m1 m2
 have u:=k5 q x ⋯ ⋯ x1
 have v:=lo w hw
 exact⟨w,hw,⋯⟩
theorem Can.ck{f:Int->Int}(hd:0<d)(r:Rise d f)(h:Can 0 d f R):CK d R:=by
 have at_:∀w∈R,f w.1=w.1+w.2.2/\f w.2.1=w.2.1+w.2.2/\f w.2.1<f (w.2.1+1):=λ w hw=>by
  obtain⟨m0,m1,m2,m3⟩:=h.mem w hw
  exact⟨(m3 _ (zbq _) m1).1,m3 _ m1 (zbq _)⟩
 refine⟨hd,λ w hw=>?_,?_,λ u hu v hv=>?_⟩
 ·obtain⟨m0,m1,m2,m3⟩:=h.mem w hw
  have:=at_ w hw
  have:=r.ge w.1
  exact⟨m0,m1,m2,⋯⟩
 ·refine List.Pairwise.imp_of_mem (λ {u v} hu hv p=>?_) h.srt
  refine⟨p.1,?_,p.2⟩
  have a:=at_ u hu
  have b:=at_ v hv
  have:=r.mono (u.2.1+1) v.1 ⋯
  omega
 ·have a:=at_ u hu
  have b:=at_ v hv
  obtain⟨m0,m1,m2,m3⟩:=h.mem u hu
  obtain⟨n0,_⟩:=h.mem v hv
  have:=r.mono (u.2.1+1) (v.1+d) ⋯
  have:=r.per v.1
  omega
theorem CK.can{f:Int->Int}(h:CK d R)(T:Tells d R f):Can 0 d f R:=by
 have K:=h.clk
 have n0:R.length≠0:=λ e=>T.ne (zew.mp e)
 have F:∀t,∃x,First d R.length (rA R) (rB R) (rC R) t x (f t):=λ t=>by
  obtain⟨x,y,h1,h2⟩:=clk_first K n0 t
  rw[T t] at h2
  cases h2
  exact⟨x,h1⟩
 refine⟨h.srt.imp λ p=>⟨p.1,p.2.2⟩,λ w hw=>?_,λ x x0 x1 x2=>?_⟩
 ·obtain⟨w0,w1,w2,w3⟩:=h.win w hw
  refine⟨w0,w1,w2,λ x a b=>?_⟩
  obtain⟨i,hi,e1,e2,e3⟩:=mem_get hw
  have D:Dep d R.length (rA R) (rB R) (rC R) x (x+w.2.2):=⟨i,0,hi,⋯,⋯,⋯⟩
  obtain⟨x',F1⟩:=F x
  have l:=F1.least _ _ D (zbq _)
  have l2:=F1.le
  have e:x'=x:=⋯
  subst e
  have ey:=qoi9 K F1.dep D
  obtain⟨x2,F2⟩:=F (x'+1)
  have:=qmu9 K F1.dep F2.dep (by have:=F2.le;omega)
  exact⟨ey,this⟩
 ·obtain⟨x',F1⟩:=F x
  rcases(by have:=F1.le;omega:x'=x\/x+1<=x') with e|e
  ·subst e
   obtain⟨i,k,hi,k1,k2,_⟩:=F1.dep
   have a0:=K.a0 i hi
   have bd:=K.bd i hi
   have d0:=K.d0
   have:k=0:=by
    rcases(by omega:k<0\/k=0\/0<k) with z|z|z
    ·have:=qbw9 d0 z
     omega
    ·exact z
    ·have:=qbw9 d0 z
     omega
   subst this
   exact⟨_,qhu9 hi,by simpa using k1,by simpa using k2⟩
  ·obtain⟨x2',F2⟩:=F (x+1)
   have F3:First d R.length (rA R) (rB R) (rC R) (x+1) x' (f x):=⟨F1.dep,e,λ u v h1 h2=>F1.least u v h1 ⋯⟩
   have:=(F2.uniq K F3).2
   omega
theorem CK.uniq{d:Int}{R R':List T3}(h:CK d R)(h':CK d R')(e:∀t,bt d R t=bt d R' t):R=R':=by
 by_cases n:R=[]
 ·subst n
  by_cases n':R'=[]
  ·exact n'.symm
  ·have:=e 0
   rw[bt_nil,qrr9 n' 0] at this
   cases this
 ·have T:=qrr9 (d:=d) n
  have T':Tells d R' (bf d R):=λ t=>by rw[<- e t];exact T t
  exact Can.uniq (h.can T) (h'.can T')
end Ma
namespace Ma
variable {R:List T3}
def putW(R:List T3)(a b c:Int):List T3 :=
 if b<a then R else match R.getLast? with
  |some l=>if l.2.1+1=a/\l.2.2=c then R.dropLast++[(l.1,b,c)] else R++[(a,b,c)]
  |none=>R++[(a,b,c)]
section
variable {lo P P':Int}{f:Int->Int}{a b c:Int}
theorem Can.app(h:Can lo P f R)(l0:lo<=P)(pa:P<=a)(ab:a<=b)(bp:b<P')(dep:∀x,P<=x->x<P'->(f x<f (x+1)↔a<=x/\x<=b))(ride:∀x,a<=x->x<=b->f x=x+c)
  (un:∀u∈R,u.2.1+1=a->u.2.2≠c):Can lo P' f (R++[(a,b,c)]):=by
 refine⟨zed.mpr ⟨h.srt,zex _ _,λ u hu v hv=>?_⟩,λ w hw=>?_,λ x x0 x1 x2=>?_⟩
 ·rw[zae] at hv
  subst hv
  have m:=h.mem u hu
  exact⟨by show u.2.1<a;omega,un u hu⟩
 ·rcases zak.mp hw with hw|hw
  ·obtain⟨m0,m1,m2,m3⟩:=h.mem w hw
   exact⟨m0,m1,⋯,m3⟩
  ·rw[zae] at hw
   subst hw
   exact⟨by show lo<=a;omega,ab,bp,λ x x1 x2=>by
    have x1':a<=x:=x1
    have x2':x<=b:=x2
    exact⟨ride x x1 x2,(dep x ⋯ ⋯).mpr ⟨x1,x2⟩⟩⟩
 ·rcases zdo x P with z|z
  ·obtain⟨w,hw,w1⟩:=h.cov x x0 z x2
   exact⟨w,zbi _ hw,w1⟩
  ·exact⟨(a,b,c),zar _ (zae.mpr rfl),(dep x z x1).mp x2⟩
theorem Can.step(h:Can lo P f R)(l0:lo<=P)(pa:P<=a)(bp:b<P')(hp:P<=P')(dep:∀x,P<=x->x<P'->(f x<f (x+1)↔a<=x/\x<=b))(ride:∀x,a<=x->x<=b->f x=x+c):Can lo P' f (putW R a b c):=by
 unfold putW
 split
 ·rename_i ba
  refine⟨h.srt,λ w hw=>?_,λ x x0 x1 x2=>?_⟩
  ·obtain⟨m0,m1,m2,m3⟩:=h.mem w hw
   exact⟨m0,m1,⋯,m3⟩
  ·rcases zdo x P with z|z
   ·exact h.cov x x0 z x2
   ·have:=(dep x z x1).mp x2
    omega
 ·rename_i ab
  split
  ·rename_i l hl
   obtain⟨R0,rfl⟩:∃R0,R=R0++[l]:=by
    obtain⟨R0,e⟩:=List.getLast?_eq_some_iff.mp hl
    exact⟨R0,e⟩
   have s:=zed.mp h.srt
   split
   ·rename_i tc
    rw[List.dropLast_concat]
    have ml:=h.mem l (zar _ (zae.mpr rfl))
    refine⟨zed.mpr ⟨s.1,zex _ _,λ u hu v hv=>?_⟩,λ w hw=>?_,λ x x0 x1 x2=>?_⟩
    ·rw[zae] at hv
     subst hv
     have q:=s.2.2 u hu l (zae.mpr rfl)
     rw[<- tc.2]
     exact q
    ·rcases zak.mp hw with hw|hw
     ·obtain⟨m0,m1,m2,m3⟩:=h.mem w (zbi _ hw)
      exact⟨m0,m1,⋯,m3⟩
     ·rw[zae] at hw
      subst hw
      obtain⟨m0,m1,m2,m3⟩:=ml
      refine⟨m0,by show l.1<=b;omega,bp,λ x x1 x2=>?_⟩
      have x1':l.1<=x:=x1
      have x2':x<=b:=x2
      show f x=x+c/\f x<f (x+1)
      rcases zdo l.2.1 x with z|z
      ·exact⟨ride x ⋯ x2',(dep x ⋯ ⋯).mpr ⟨⋯,x2'⟩⟩
      ·rw[<- tc.2]
       exact m3 x x1' z
    ·rcases zdo x P with z|z
     ·obtain⟨w,hw,w1,w2⟩:=h.cov x x0 z x2
      rcases zak.mp hw with hw|hw
      ·exact⟨w,zbi _ hw,w1,w2⟩
      ·rw[zae] at hw
       subst hw
       exact⟨_,zar _ (zae.mpr rfl),w1,by show x<=b;omega⟩
     ·have q:=(dep x z x1).mp x2
      exact⟨_,zar _ (zae.mpr rfl),by show l.1<=x;have:=ml.2.1;omega,q.2⟩
   ·rename_i tc
    refine h.app l0 pa ⋯ bp dep ride λ u hu e=>?_
    rcases zak.mp hu with hu|hu
    ·have q:=s.2.2 u hu l (zae.mpr rfl)
     have ml:=h.mem l (zar _ (zae.mpr rfl))
     omega
    ·rw[zae] at hu
     subst hu
     exact λ e2=>tc ⟨e,e2⟩
  ·rename_i hl
   have e:=zeo.mp hl
   subst e
   exact h.app l0 pa ⋯ bp dep ride λ u hu=>by cases hu
end
def tell(r:T4)(x:Int):Int:=if r.2.2.1=true then r.2.2.2 else x+r.2.2.2
def cfStep(fo:Int)(r:T4)(R:List T3):List T3 :=
 if r.2.2.1=true then putW R r.2.1 (if r.2.2.2<fo then r.2.1 else r.2.1-1) (r.2.2.2-r.2.1)
 else putW R r.1 (if r.2.1+r.2.2.2<fo then r.2.1 else r.2.1-1) r.2.2.2
theorem Can.row{lo P:Int}{f:Int->Int}(h:Can lo P f R)(l0:lo<=P)(r:T4)(e:r.1=P)(le:r.1<=r.2.1)(tl:∀x,r.1<=x->x<=r.2.1->f x=tell r x) :
  Can lo (r.2.1+1) f (cfStep (f (r.2.1+1)) r R):=by
 obtain⟨p,q,s,v⟩:=r
 have e':p=P:=e
 subst e'
 have le':p<=q:=le
 have tl':∀x,p<=x->x<=q->f x=if s=true then v else x+v:=tl
 unfold cfStep
 show Can lo (q+1) f (if s=true then putW R q (if v<f (q+1) then q else q-1) (v-q) else putW R p (if q+v<f (q+1) then q else q-1) v)
 cases s with
 |true =>
  rw[if_pos rfl]
  have t0:∀x,p<=x->x<=q->f x=v:=λ x h1 h2=>by have:=tl' x h1 h2;rw[if_pos rfl] at this;exact this
  refine h.step l0 le' (by split<;>omega) ⋯ (λ x x0 x1=>?_) λ x x0 x1=>?_
  ·rcases(by omega:x<q\/x=q) with z|z
   ·have:=t0 x x0 ⋯
    have:=t0 (x+1) ⋯ ⋯
    constructor
    ·intro;omega
    ·rintro⟨h1,h2⟩;omega
   ·subst z
    rw[t0 x x0 (zbq _)]
    constructor
    ·intro z
     rw[if_pos z]
     exact⟨zbq _,zbq _⟩
    ·intro z9;obtain⟨_,z⟩ := z9
     split at z
     ·assumption
     ·omega
  ·have x1':x<=q:=by split at x1<;>omega
   have:=t0 x ⋯ x1'
   omega
 |false =>
  rw[if_neg (by decide)]
  have t0:∀x,p<=x->x<=q->f x=x+v:=λ x h1 h2=>by have:=tl' x h1 h2;rw[if_neg (by decide)] at this;exact this
  refine h.step l0 (zbq _) (by split<;>omega) ⋯ (λ x x0 x1=>?_) λ x x0 x1=>?_
  ·rcases(by omega:x<q\/x=q) with z|z
   ·have:=t0 x x0 ⋯
    have:=t0 (x+1) ⋯ ⋯
    constructor
    ·intro
     refine⟨x0,?_⟩
     split<;>omega
    ·intro;omega
   ·subst z
    rw[t0 x x0 (zbq _)]
    constructor
    ·intro z
     rw[if_pos z]
     exact⟨x0,zbq _⟩
    ·intro z9;obtain⟨_,z⟩ := z9
     split at z
     ·assumption
     ·omega
  ·exact t0 x x0 (by split at x1<;>omega)
def Cov(f:Int->Int):Int->List T4->Int->Prop
 |lo,[],hi=>lo=hi
 |lo,r::S,hi=>r.1=lo/\r.1<=r.2.1/\(∀x,r.1<=x->x<=r.2.1->f x=tell r x)/\Cov f (r.2.1+1) S hi
theorem Cov.le{f:Int->Int}:∀{S:List T4}{lo hi:Int},Cov f lo S hi->lo<=hi
 | [],lo,hi,h=>by have:lo=hi:=h;omega
 |r::S,lo,hi,⟨h1,h2,_,h4⟩=>by have:=Cov.le h4;omega
theorem Cov.append{f:Int->Int}:∀{S S':List T4}{lo mid hi:Int},Cov f lo S mid->Cov f mid S' hi->Cov f lo (S++S') hi
 | [],S',lo,mid,hi,h,h'=>by
  have:lo=mid:=h
  subst this
  exact h'
 |r::S,S',lo,mid,hi,⟨h1,h2,h3,h4⟩,h'=>⟨h1,h2,h3,Cov.append h4 h'⟩
theorem Cov.one{f:Int->Int}{r:T4}(h:r.1<=r.2.1)(t:∀x,r.1<=x->x<=r.2.1->f x=tell r x):Cov f r.1 [r] (r.2.1+1):=⟨rfl,h,t,rfl⟩
theorem Cov.get{f:Int->Int}:∀{S:List T4}{lo hi:Int}{k:Nat}{r:T4},Cov f lo S hi->S[k]?=zhq r->lo<=r.1/\r.1<=r.2.1/\r.2.1<hi/\(∀x,r.1<=x->x<=r.2.1->f x=tell r x) /\
  (k=0->r.1=lo)/\(∀r',S[k+1]?=zhq r'->r'.1=r.2.1+1)/\(k+1=S.length->r.2.1+1=hi)
 | [],_,_,_,_,_,e=>by simp at e
 |r0::S,lo,hi,0,r,⟨h1,h2,h3,h4⟩,e=>by
  have e':r0=r:=by simpa using e
  subst e'
  have l:=Cov.le h4
  refine⟨⋯,h2,⋯,h3,λ _=>h1,λ r' e'=>?_,λ e'=>?_⟩
  ·have e2:S[0]?=zhq r':=by simpa using e'
   exact(Cov.get h4 e2).2.2.2.2.1 rfl
  ·have:S=[]:=by
    simp at e'
    exact e'
   subst this
   exact h4
 |r0::S,lo,hi,k+1,r,⟨h1,h2,h3,h4⟩,e=>by
  have e2:S[k]?=zhq r:=by simpa using e
  obtain⟨g1,g2,g3,g4,g5,g6,g7⟩:=Cov.get h4 e2
  refine⟨⋯,g2,g3,g4,λ z=>⋯,λ r' e'=>g6 r' (by simpa using e'),λ e'=>g7 (by simp at e';omega)⟩
theorem Cov.find{f:Int->Int}:∀{S:List T4}{lo hi x:Int},Cov f lo S hi->lo<=x->x<hi->∃(k:Nat)(r:T4),S[k]?=zhq r/\r.1<=x/\x<=r.2.1
 | [],lo,hi,x,h,h1,h2=>by have:lo=hi:=h;omega
 |r::S,lo,hi,x,⟨h1,h2,h3,h4⟩,x0,x1=>by
  rcases zdo r.2.1 x with z|z
  ·obtain⟨k,r',e,e1⟩:=Cov.find h4 ⋯ x1
   exact⟨k+1,r',by simpa using e,e1⟩
  ·exact⟨0,r,rfl,⋯,z⟩
theorem Cov.ext{f g:Int->Int}(e:∀x,f x=g x):∀{S:List T4}{lo hi:Int},Cov f lo S hi->Cov g lo S hi
 | [],_,_,h=>h
 |_::_,_,_,⟨h1,h2,h3,h4⟩=>⟨h1,h2,λ x a b=>by rw[<- e x];exact h3 x a b,Cov.ext e h4⟩
end Ma
namespace Ma
abbrev T6:=Int×Int×Bool×Int×Bool×Int
def tl(s:Bool)(v x:Int):Int:=if s=true then v else x+v
def Cov2(f g:Int->Int):Int->List T6->Int->Prop
 |lo,[],hi=>lo=hi
 |lo,r::S,hi=>r.1=lo/\r.1<=r.2.1/\(∀x,r.1<=x->x<=r.2.1->f x=tl r.2.2.1 r.2.2.2.1 x/\g x=tl r.2.2.2.2.1 r.2.2.2.2.2 x)/\Cov2 f g (r.2.1+1) S hi
theorem Cov2.le{f g:Int->Int}:∀{S:List T6}{lo hi:Int},Cov2 f g lo S hi->lo<=hi
 | [],lo,hi,h=>by have:lo=hi:=h;omega
 |r::S,lo,hi,⟨h1,h2,_,h4⟩=>by have:=Cov2.le h4;omega
theorem Cov2.snoc{f g:Int->Int}{r:T6}(h2:r.1<=r.2.1)(h3:∀x,r.1<=x->x<=r.2.1->f x=tl r.2.2.1 r.2.2.2.1 x/\g x=tl r.2.2.2.2.1 r.2.2.2.2.2 x):∀{S:List T6}{lo:Int},Cov2 f g lo S r.1->Cov2 f g lo (S++[r]) (r.2.1+1)
 | [],lo,h=>by
  have:lo=r.1:=h
  subst this
  exact⟨rfl,h2,h3,rfl⟩
 |r0::S,lo,⟨a1,a2,a3,a4⟩=>⟨a1,a2,a3,Cov2.snoc h2 h3 a4⟩
theorem Cov2.get{f g:Int->Int}:∀{S:List T6}{lo hi:Int}{k:Nat}{r:T6},Cov2 f g lo S hi->S[k]?=zhq r->lo<=r.1/\r.1<=r.2.1/\r.2.1<hi/\(∀x,r.1<=x->x<=r.2.1->f x=tl r.2.2.1 r.2.2.2.1 x/\g x=tl r.2.2.2.2.1 r.2.2.2.2.2 x) /\
  (k=0->r.1=lo)/\(∀r',S[k+1]?=zhq r'->r'.1=r.2.1+1)/\(k+1=S.length->r.2.1+1=hi)
 | [],_,_,_,_,_,e=>by simp at e
 |r0::S,lo,hi,0,r,⟨h1,h2,h3,h4⟩,e=>by
  have e':r0=r:=by simpa using e
  subst e'
  have l:=Cov2.le h4
  refine⟨⋯,h2,⋯,h3,λ _=>h1,λ r' e'=>?_,λ e'=>?_⟩
  ·have e2:S[0]?=zhq r':=by simpa using e'
   exact(Cov2.get h4 e2).2.2.2.2.1 rfl
  ·have:S=[]:=by
    simp at e'
    exact e'
   subst this
   exact h4
 |r0::S,lo,hi,k+1,r,⟨h1,h2,h3,h4⟩,e=>by
  have e2:S[k]?=zhq r:=by simpa using e
  obtain⟨g1,g2,g3,g4,g5,g6,g7⟩:=Cov2.get h4 e2
  refine⟨⋯,g2,g3,g4,λ z=>⋯,λ r' e'=>g6 r' (by simpa using e'),λ e'=>g7 (by simp at e';omega)⟩
def jn(late:Bool)(x y:Int):Int:=if late=true then(if y>x then y else x) else(if y<x then y else x)
def omin:Option Int->Option Int->Option Int
 |none,b=>b
 |a,zhr=>a
 |some x,zhq y=>zhq (jn false x y)
def omax:Option Int->Option Int->Option Int
 |some x,zhq y=>zhq (jn true x y)
 |_,_=>zhr
theorem Tells.min{d:Int}{R R':List T3}{f g:Int->Int}(h:Tells d R f)(h':Tells d R' g)(t:Int):omin (bt d R t) (bt d R' t)=zhq (jn false (f t) (g t)):=by rw[h t,h' t];rfl
theorem Tells.max{d:Int}{R R':List T3}{f g:Int->Int}(h:Tells d R f)(h':Tells d R' g)(t:Int):omax (bt d R t) (bt d R' t)=zhq (jn true (f t) (g t)):=by rw[h t,h' t];rfl
end Ma
namespace Ma
theorem Cov.lt{f:Int->Int}:∀{S:List T4}{lo hi:Int}{i j:Nat}{r r':T4},Cov f lo S hi->S[i]?=zhq r->S[j]?=zhq r'->i<j->r.2.1<r'.1
 | [],_,_,_,_,_,_,_,e,_,_=>by simp at e
 |r0::S,lo,hi,0,j+1,r,r',⟨_,h2,h3,h4⟩,e,e',_=>by
  have e1:r0=r:=by simpa using e
  subst e1
  have e2:S[j]?=zhq r':=by simpa using e'
  have:=(Cov.get h4 e2).1
  omega
 |r0::S,lo,hi,i+1,j+1,r,r',⟨_,h2,h3,h4⟩,e,e',l=>Cov.lt h4 (by simpa using e) (by simpa using e') ⋯
 |r0::S,lo,hi,i,0,r,r',_,_,_,l=>⋯
theorem Cov.congr{f g:Int->Int}:∀{S:List T4}{lo hi:Int},(∀x,lo<=x->x<hi->f x=g x)->Cov f lo S hi->Cov g lo S hi
 | [],_,_,_,h=>h
 |r::S,lo,hi,e,⟨h1,h2,h3,h4⟩=>⟨h1,h2,λ x a b=>by
  have:=Cov.le h4
  rw[<- e x ⋯ ⋯];exact h3 x a b,Cov.congr (λ x a b=>e x ⋯ b) h4⟩
end Ma
namespace Ma
def tot(g:Int->Int)(lo:Int):Nat->Int
 |0=>0
 |n+1=>tot g lo n+g (lo+n)
end Ma
namespace Ma
structure IsLv(d:Int)(R:List T3)(s y:Int):Prop where
 at_:∃w∈R,y=lastO d w.1 w.2.1 (s-w.2.2)
 le:∀w∈R,lastO d w.1 w.2.1 (s-w.2.2)<=y
section
variable {d:Int}{R:List T3}{f:Int->Int}
def Gal(f g:Int->Int):Prop:=∀x s,f x<=s↔x<=g s
theorem Gal.turn{f g:Int->Int}(h:Gal f g):Gal (λ t=>-(g (-t))) λ s=>-(f (-s)):=λ x s=>by
 have:=h (-s) (-x)
 constructor
 ·intro l
  have:=this.mpr (by have l':-(g (-x))<=s:=l;omega)
  show x<=-(f (-s))
  omega
 ·intro l
  have:=this.mp (by have l':x<=-(f (-s)):=l;omega)
  show -(g (-x))<=s
  omega
theorem Gal.uniq{f g g':Int->Int}(h:Gal f g)(h':Gal f g')(s:Int):g s=g' s:=by
 have a:=(h (g s) s).mpr (zbq _)
 have b:=(h' (g s) s).mp a
 have a':=(h' (g' s) s).mpr (zbq _)
 have b':=(h (g' s) s).mp a'
 omega
end
end Ma
namespace Ma
theorem IsLv.uniq{d s y y':Int}{R:List T3}(h:IsLv d R s y)(h':IsLv d R s y'):y=y':=by
 obtain⟨w,hw,e⟩:=h.at_
 obtain⟨w',hw',e'⟩:=h'.at_
 have:=h.le w' hw'
 have:=h'.le w hw
 omega
end Ma
namespace L2
open PySem PySem.Spec PyProof.Rows
variable {X:Cx}{tg:Expr}{a b c:Int}{i:Nat}{pos:Pos}{te:TE}{g:TG}
section
variable {e o a:Expr}{es:List Expr}{to:TE}{t:TA}{apos:Pos}
theorem qil9{st:zhz}:QS X st tNever:=⟨ps_never⟩
theorem qht9:QOp X (zir .Add) rCat:=⟨op_cat⟩
theorem qmi9:QOp X (zir .Add) (rCatT X.K):=⟨op_catT⟩
end
section
variable {lo:Int}{n:Nat}{caps:List (Option Nat)}{tt:TT}{σ:St}{H:Hp}{Q:VK}
theorem qti9(Pv:zht->Nat->Hp->Prop)(h0:∀D,H D=zhr->Pv D 0 (upd H D (.lst [])))
  (hs:∀D i H',H D=zhr->i<n->Pv D i H'->g (.int (lo+(i:Nat))) (seen caps σ) H' λ σ4 H4=>(∀(k:Nat) v,(seen caps σ)[k]?=zhq (zhq v)->σ4[k]?=zhq (zhq v))/\tt σ4 H4 λ b H5 =>
   if b=true then te σ4 H5 λ y H6=>∃ys,H6 D=zhq (.lst ys)/\ys.length<zhu/\Pv D (i+1) (upd H6 D (.lst (ys++[y]))) else Pv D (i+1) H5)
  (hd:∀D H',H D=zhr->Pv D n H'->Q (.ref D) H'):cBody caps g tt te σ Q (Itr lo n) H:=by
 intro D hD
 refine⟨λ i m H'=>m=n-i/\i<=n/\Pv D i H',⟨n,by simp,zbx _,h0 D hD⟩,?_⟩
 intro i m H2 z9;obtain⟨rfl,hi,p⟩ := z9
 by_cases hlt:i<n
 ·refine .inr ⟨hlt,Pv D (i+1),λ H' p'=>⟨n-(i+1),⋯,rfl,hlt,p'⟩,λ x H3 y=>?_⟩
  obtain⟨e,y⟩:=y
  subst e y
  exact hs D i _ hD hlt p
 ·have e:i=n:=⋯
  subst e
  exact .inl ⟨zaq _,hd D H2 hD p⟩
theorem qpa9(Pv:zht->Nat->Hp->Prop)(h0:∀D,H D=zhr->Pv D 0 (upd H D (.lst [])))
  (hs:∀D i H',H D=zhr->i<n->Pv D i H'->g (.int (lo+(i:Nat))) (seen caps σ) H' λ σ4 H4=>(∀(k:Nat) v,(seen caps σ)[k]?=zhq (zhq v)->σ4[k]?=zhq (zhq v))/\te σ4 H4 λ y H6=>∃ys,H6 D=zhq (.lst ys)/\ys.length<zhu/\Pv D (i+1) (upd H6 D (.lst (ys++[y]))))
  (hd:∀D H',H D=zhr->Pv D n H'->Q (.ref D) H'):cBody caps g tTrue te σ Q (Itr lo n) H:=qti9 Pv h0 hs hd
end
def It3(lo st:Int)(n:Nat):It:=⟨λ i _=>i<n,λ i H x H'=>H'=H/\x=.int (lo+(i:Nat)*st),λ i _=>n<=i⟩
theorem qpu9{P:zih}{w:zhy}{K:W.Frag}(it:zht)(lo stp:Int)(n:Nat):Turn P w K tg (It3 lo stp n) [it] it (λ i h=>zkf h it (lo+(i:Nat)*stp) ((n:Int)-(i:Nat)) stp) where
 mem:=by simp
 obj:=λ i h st b hb=>by
  have e:b=it:=by simpa using hb
  subst e
  exact⟨_,st,λ v z=>by
   have z':Data.fields _=Data.cell v:=z
   cases z'⟩
 keep:=λ i h h' st k=>k it (by simp) _ st
 item:=by
  intro X hP hw hK hc i pins s σ H E I hf st hg
  subst hP hw hK
  obtain⟨f0,f1,f2,f3,f4,f5⟩:=hf it (by simp)
  have hg':i<n:=hg
  refine wpAny_pyNext_range_item st ⋯ λ h' st' sb=>?_
  have I1:Inv X pins σ H { s with heap:=h',toks:=s.toks+1 }:=I.turned (λ b o hb e=>sb.extBut b o hb e) f0 f1 f3 f4 f5
  refine⟨_,rfl,go_of (s:={ s with heap:=h',toks:=s.toks+1 }) (n := "range_iterator") st' rfl rfl (by decide) ⟨.int _,H,I1,⟨_,rfl⟩,⟨rfl,rfl⟩,?_,λ b hb=>(hf b hb).1⟩⟩
  show zkf h' it (lo+((i+1:Nat):Int)*stp) ((n:Int)-((i+1:Nat):Int)) stp
  have e1:lo+((i+1:Nat):Int)*stp=lo+(i:Int)*stp+stp:=by
   rw[zgj,Int.add_mul]
   simp
   omega
  have e2:(n:Int)-((i+1:Nat):Int)=(n:Int)-(i:Int)-1:=⋯
  rw[e1,e2]
  exact st'
 done:=by
  intro X hP hw hK hc i pins s σ H E I hf st hg
  subst hP hw hK
  obtain⟨f0,f1,f2,f3,f4,f5⟩:=hf it (by simp)
  exact zkt (I.ok.hd hc) st (by have:n<=i:=hg;omega) λ h' eb=>⟨rfl,I.turned (t':=s.toks) (λ b o hb e=>eb b o hb e) f0 f1 f3 f4 f5⟩
 self:=λ _ _ _ _ _ st h=>zku st h
def cnt3(a b c:Int):Nat:=if a<b then((b-a-1)/c+1).toNat else 0
theorem size3(hc:0<c):Builtin.Range.rangeSize a b c=((cnt3 a b c:Nat):Int):=by
 unfold Builtin.Range.rangeSize cnt3
 rw[if_pos ⋯]
 split
 ·have:0<=(b-a-1)/c:=zgk ⋯ ⋯
  omega
 ·rfl
theorem cnt3_lt(hc:0<c)(h:i<cnt3 a b c):a+(i:Int)*c<b:=by
 unfold cnt3 at h
 split at h
 ·have h1:(i:Int)<=(b-a-1)/c:=⋯
  have h2:=Int.mul_le_mul_of_nonneg_right h1 (zgf hc)
  have h3:=Int.ediv_mul_le (b-a-1) (b:=c) ⋯
  omega
 ·omega
theorem small3(ha:-(2 ^ 60)<=a)(ha':a<2 ^ 60)(hb:-(2 ^ 60)<=b)(hb':b<2 ^ 60)(hc:0<c)(hc':c<1000):Builtin.Range.small a b c=true:=by
 have hn:0<=Builtin.Range.rangeSize a b c/\Builtin.Range.rangeSize a b c<2 ^ 62:=by
  unfold Builtin.Range.rangeSize
  rw[if_pos ⋯]
  split
  ·have h1:0<=(b-a-1)/c:=zgk ⋯ ⋯
   have h2:(b-a-1)/c<=b-a-1:=Int.ediv_le_self _ ⋯
   omega
  ·omega
 unfold Builtin.Range.small Builtin.Range.rangeFitsLong
 generalize Builtin.Range.rangeSize a b c=k at *
 simp only[zaz,zdw,decide_eq_true_eq,beq_iff_eq]
 refine⟨⟨⟨⟨?_,?_⟩,?_⟩,?_⟩,.inr ?_⟩
 ·omega
 ·omega
 ·omega
 ·omega
 ·rw[if_pos ⋯]
  simp only[zaz,decide_eq_true_eq]
  omega
def iRng3(ta:TA):TI:=λ σ H R=>ta σ H λ vs H1=>∃i j c:Int,vs=[.int i,.int j,.int c]/\(-(2 ^ 60)<=i/\i<2 ^ 60/\-(2 ^ 60)<=j/\j<2 ^ 60/\0<c/\c<1000)/\R (It3 i c (cnt3 i j c)) H1
theorem pi_range3{a b c:Expr}{ta:TA}{p:Pos}(hg:Gl X "range")(hm:X.mg "range"=zhr)(ha:PA X [a,b,c] ta)(hs:zif [a,b,c] X.env=(false,zii a X.env)::zif [b,c] X.env)(hs2:(ziu pos (zif [b,c] X.env)).any (·.1)=false) :
  PI X tg (.Call (.Name "range" p) [a,b,c] [] pos) (iRng3 ta):=by
 intro pins s σ H R I h
 refine zoe (qly9 I hg hm zmo (PyProof.Rows.callWith_type1 (thn (ha pos pins s σ H _ I h) λ us s1 z9=>?_) hs hs2))
 obtain⟨vs,H1,I1,r1,q1⟩ := z9
 obtain⟨i,j,k,e,⟨q1,q2,q3,q4,q5,q6⟩,q⟩:=q1
 subst e
 cases r1 with
 |cons r rr =>
  cases rr with
  |cons r' rr =>
   cases rr with
   |cons r'' rr =>
    cases rr
    obtain⟨t,rfl⟩:=r
    obtain⟨t',rfl⟩:=r'
    obtain⟨t'',rfl⟩:=r''
    refine call_range_3 ⋯ ?_ (.inl (PyProof.noPylong_small ⋯))
    refine zlv (IsRange.new ..) (small3 q1 q2 q3 q4 q5 q6) ?_
    have I2:Inv X pins σ H1 { s1 with heap:=s1.heap.push { cls:=.type "range",data:=.fields #[.int i t,.int j t',.int k t''] } }:=I1.kept (t':=s1.toks) λ b o e=>zao _ e
    refine⟨(s1.heap.push { cls:=.type "range",data:=.fields #[.int i t,.int j t',.int k t''] }).objs.size,[(s1.heap.push { cls:=.type "range",data:=.fields #[.int i t,.int j t',.int k t''] }).objs.size],_,_,H1,rfl,
     I2.kept (t':=s1.toks) λ b o e=>zao _ e,qpu9 _ i k (cnt3 i j k),?_,λ b hb=>?_,q⟩
    ·show zkf _ _ (i+((0:Nat):Int)*k) (((cnt3 i j k:Nat):Int)-((0:Nat):Int)) k
     have e1:i+((0:Nat):Int)*k=i:=by simp
     have e2:((cnt3 i j k:Nat):Int)-((0:Nat):Int)=Builtin.Range.rangeSize i j k:=by rw[size3 q5];simp
     rw[e1,e2]
     exact zav _ rfl
    ·have e:b=(s1.heap.push { cls:=.type "range",data:=.fields #[.int i t,.int j t',.int k t''] }).objs.size:=by simpa using hb
     subst e
     exact I2.fpOk (zaq _) (I2.hok.fresh (zaq _))
theorem qi_range3{a b c:Expr}{ta:TA}{p pos:Pos}(hg:Gl X "range")(hm:X.mg "range"=zhr)(ha:QA X [a,b,c] ta)(h:qay9 a=true:=by rfl)(h2:[b,c].all qay9=true:=by rfl):QI X tg (.Call (.Name "range" p) [a,b,c] [] pos) (iRng3 ta) :=
 ⟨pi_range3 hg hm ha.run (se_of h) (qky9 h2)⟩
theorem qqu9{lo st:Int}{n:Nat}{tb:TS}{D:Ends}{σ:St}{H:Hp}(Pv:Nat->St->Hp->Prop)(h0:Pv 0 σ H)
  (hs:∀i σ H,i<n->Pv i σ H->g (.int (lo+(i:Nat)*st)) σ H λ σ2 H2=>tb { D with nx:=Pv (i+1),ct:=Pv (i+1),bk:=D.nx } σ2 H2) (hd:∀σ H,Pv n σ H->D.nx σ H) :
  ∃W:Nat->Nat->St->Hp->Prop,(∃m,W 0 m σ H)/\∀i m σ H,W i m σ H ->
   ((It3 lo st n).stop i H/\D.nx σ H)\/((It3 lo st n).go i H/\∃N:St->Hp->Prop,(∀σ' H',N σ' H'->∃m',m'<m/\W (i+1) m' σ' H')/\∀x H',(It3 lo st n).yld i H x H'->g x σ H' λ σ2 H2=>tb { D with nx:=N,ct:=N,bk:=D.nx } σ2 H2):=by
 refine⟨λ i m σ H=>A3q (m=n-i) (i<=n) (Pv i σ H),⟨n,by simp,zbx _,h0⟩,?_⟩
 intro i m σ H z9;obtain⟨rfl,hi,p⟩ := z9
 by_cases hlt:i<n
 ·refine .inr ⟨hlt,Pv (i+1),λ σ' H' p'=>⟨n-(i+1),⋯,rfl,hlt,p'⟩,λ x H' y=>?_⟩
  obtain⟨e,y⟩:=y
  subst e y
  exact hs i σ _ hlt p
 ·have e:i=n:=⋯
  subst e
  exact .inl ⟨zaq _,hd σ H p⟩
section
variable {N':List Str}{scope:zjc}{cl:List (Str×zht)}{caps:List (Option Nat)}{iter elt:Expr}{wi:TI}{tt:TT}
theorem qsr9{x:Str}{pos' cpos:Pos}{ifs:List Expr}(hN:X.N.Nodup)(hix:X.N[i]?=zhq x)(hx:Loc X.env.scope x)(B:BlkOk X N' scope cl caps)(hc:X.calm=true)(hi:PI X tg iter wi)(hg:∀C s0 H0 fp,PG (blk X N' scope cl C s0 H0 fp) tg g)(ht:∀C s0 H0 fp,PTs (blk X N' scope cl C s0 H0 fp) ifs tt)(he:∀C s0 H0 fp,PE (blk X N' scope cl C s0 H0 fp) elt te)
  (hs:∀x,ziz iter X.env x=pure x:=by intro _;rfl) (hsw:zjd (.ListComp elt [⟨tg,iter,ifs,0⟩] scope cpos) (zhq (.Name x pos')) pos.line X.env=pure true:=by rfl) (hf:X.fn x=true\/X.env.scope.names.lookup x=zhq .local:=by first|exact .inl rfl|exact .inr rfl|assumption) :
  PS X (.Assign [.Name x pos'] (.ListComp elt [⟨tg,iter,ifs,0⟩] scope cpos) pos) (tAsg (tComp wi caps g tt te) (gName i)):=by
 intro pins s σ H D I h
 rw[exec_Assign_Name_used _ _ _ _ hsw]
 refine zhv (zlo (zhv ?_))
 refine zhv (thn (qrv9 (use:=zhq (zmn (.Name x pos') X.env)) (QQ:=λ _ s'=>SP X pins D .next s') B hc hi hg ht he hs I h ?_) λ _ s' q=>zid (zid q))
 intro Da C s6 H5 I6 fC z9 q;obtain⟨m,hn⟩ := z9
 show zib _ _ (zmn (.Name x pos') X.env (.ref Da)) _ _ s6
 obtain⟨o,es,ep,eo,ed,k1,k2⟩:=hn
 have I6':=I6.pinned (fp:=[C]) (λ b hb=>by rw[zae.mp hb];exact fC) (λ b hb=>⟨o,by rw[zae.mp hb];exact eo,λ v z=>by rw[ed] at z;cases z⟩)
 refine thn (pg_name (pos:=pos') hN hix hx hf _ s6 σ H5 (.ref Da) (.ref Da) D.nx I6' rfl q) λ _ s7 z9=>?_
 obtain⟨σ7,H7,I7,q7⟩ := z9
 have e7:=I7.pin (C,o) (zar _ (zar _ (qfx9 (by simp) eo)))
 exact⟨m,⟨o,es,ep,e7.1,ed,k1,k2⟩,λ h' sb=>⟨σ7,H7,Inv.turned (t':=s7.toks) (it:=C) I7.unpinned (λ b o hb e=>sb.extBut b o hb e) e7.2.1 fC.2.1 fC.2.2.2.1 fC.2.2.2.2.1 fC.2.2.2.2.2,q7⟩⟩
theorem qfn9{x:Str}{pos' cpos:Pos}{ifs:List Expr}(N':List Str)(caps:List (Option Nat))(hN:X.N.Nodup)(hix:X.N[i]?=zhq x)(hx:Loc X.env.scope x)(B:BlkOk X N' scope cl caps)(hc:X.calm=true)(hi:QI X tg iter wi)(hg:∀C s0 H0 fp,QG (blk X N' scope cl C s0 H0 fp) tg g)(ht:∀C s0 H0 fp,QTs (blk X N' scope cl C s0 H0 fp) ifs tt)(he:∀C s0 H0 fp,QE (blk X N' scope cl C s0 H0 fp) elt te)
  (hs:∀x,ziz iter X.env x=pure x:=by intro _;rfl) (hsw:zjd (.ListComp elt [⟨tg,iter,ifs,0⟩] scope cpos) (zhq (.Name x pos')) pos.line X.env=pure true:=by rfl) (hf:X.fn x=true\/X.env.scope.names.lookup x=zhq .local:=by first|exact .inl rfl|exact .inr rfl|assumption) :
  QS X (.Assign [.Name x pos'] (.ListComp elt [⟨tg,iter,ifs,0⟩] scope cpos) pos) (tAsg (tComp wi caps g tt te) (gName i)) :=
 ⟨qsr9 hN hix hx B hc hi.run (λ C s0 H0 fp=>(hg C s0 H0 fp).run) (λ C s0 H0 fp=>(ht C s0 H0 fp).run) (λ C s0 H0 fp=>(he C s0 H0 fp).run) hs hsw hf⟩
end
end L2
namespace My
open PySem L2
variable {P a l p:zht}{o:HO}{H H' H1:Hp}{R:List T3}{xs zs:List V}{n:Nat}{pos:Pos}{x:V}{K:W.Frag}
theorem qbc9(h:H p=zhr)(o:HO):Same H (upd H p o):=λ b u q=>by rw[qao9 (qbe9 q h)];exact q
theorem qso9(hp:H p=zhr)(hg:upd H p o=H'):Same H H'/\H' p=zhq o:=by
 subst hg
 exact⟨qbc9 hp o,qaj9⟩
theorem at_int{ns:List Int}{k:Int}(h0:0<=k)(h:k<(ns.length:Int)):∃v:Int,atI (ns.map V.int) k=zhq (.int v):=by
 have hk:k.toNat<ns.length:=⋯
 have ek:k=((k.toNat:Nat):Int):=⋯
 have q:atI (ns.map V.int) ((k.toNat:Nat):Int)=zhq (.int ns[k.toNat]):=qcf9 (by rw[zah,zad hk]<;>rfl)
 rw[<- ek] at q
 exact⟨_,q⟩
theorem iteP{c A B:Prop} [Decidable c](h:c)(x:A):if c then A else B:=by
 rw[if_pos h]
 exact x
theorem iteN{c A B:Prop} [Decidable c](h:¬c)(x:B):if c then A else B:=by
 rw[if_neg h]
 exact x
theorem pow15:((10:Int) ^ (15:Int).toNat)=1000000000000000:=by decide +kernel
inductive spCell(K:W.Frag)(vs:List V)(H:Hp)(Q:VK)(z3q:XK):Prop
 |mk (a:zht) (ns:List Int) (k:Int):vs=[.ref a,.int k]->SqL K H a (ns.map V.int)->0<=k->(∀c:Int,Q (.int c) H)->spCell K vs H Q z3q
inductive spDay(vs:List V)(H:Hp)(Q:VK)(z3q:XK):Prop
 |mk (c:Int):vs=[.int c]->(∀(d:Int)(H':Hp),1<=d->d<=1000000000000000->Same H H'->Q (.int d) H')->spDay vs H Q z3q
open Ma (T3 rA rB rC)
def tup3(R:List T3)(i:Nat):HO:=.tup [.int (rA R i),.int (rB R i),.int (rC R i)]
structure RowsAt(H:Hp)(p:zht)(R:List T3):Prop where
 ex:∃rs:List zht,H p=zhq (.lst (rs.map V.ref))/\rs.length=R.length/\∀(i:Nat) r,rs[i]?=zhq r->H r=zhq (tup3 R i)
theorem RowsAt.mono(h:RowsAt H p R)(s:∀b o,H b=zhq o->(∀z,o ≠ .tbl z)->H' b=zhq o):RowsAt H' p R:=by
 obtain⟨rs,h1,h2,h3⟩:=h.ex
 exact⟨rs,s _ _ h1 (λ _ z=>nomatch z),h2,λ i r e=>s _ _ (h3 i r e) (λ _ z=>nomatch z)⟩
theorem RowsAt.same(h:RowsAt H p R)(s:Same H H'):RowsAt H' p R:=h.mono λ b o e _=>s b o e
theorem RowsAt.at(h:RowsAt H p R):∃xs:List V,SqL K H p xs/\xs.length=R.length/\∀k:Int,0<=k->k<(R.length:Int)->∃r,atI xs k=zhq (.ref r)/\H r=zhq (tup3 R k.toNat):=by
 obtain⟨rs,h1,h2,h3⟩:=h.ex
 refine⟨rs.map V.ref,SqL.of h1,by rw[zac,h2],λ k k0 k1=>?_⟩
 have hk:k.toNat<rs.length:=⋯
 have ek:k=((k.toNat:Nat):Int):=⋯
 have q:atI (rs.map V.ref) ((k.toNat:Nat):Int)=zhq (.ref rs[k.toNat]):=qcf9 (by rw[zah];simp[hk])
 rw[<- ek] at q
 exact⟨rs[k.toNat],q,h3 _ _ (zad hk)⟩
theorem map_ref{rs:List zht}{i:Nat}{y:V}(h:(rs.map V.ref)[i]?=zhq y):∃r,y=V.ref r/\rs[i]?=zhq r:=by
 rw[zah] at h
 cases e:rs[i]? with
 |none=>rw[e] at h;cases h
 |some z=>rw[e] at h;exact⟨z,(Option.some.inj h).symm,rfl⟩
def rowsD(R:List T3):List zhw:=R.map λ t=>.tuple [.int t.1,.int t.2.1,.int t.2.2]
theorem rd_rows{K:W.Frag}{H:Hp}:∀(rs:List zht)(R:List T3),rs.length=R.length->(∀(i:Nat) r,rs[i]?=zhq r->H r=zhq (tup3 R i))->RdAll K H (rs.map V.ref) (rowsD R)
 | [],[],_,_=>.nil
 | [],_::_,h,_=>by cases h
 |_::_,[],h,_=>by cases h
 |r::rs,t::R,h,hr=>by
  refine .cons (.tup (SqT.of (hr 0 r rfl)) (.cons (.int _) (.cons (.int _) (.cons (.int _) .nil)))) ?_
  refine rd_rows rs R (by simpa using h) λ i r' e=>?_
  have:=hr (i+1) r' (by simpa using e)
  exact this
theorem RowsAt.rd(h:RowsAt H p R):RdV K H (.ref p) (.list (rowsD R)):=by
 obtain⟨rs,h1,h2,h3⟩:=h.ex
 exact .lst (SqL.of h1) (rd_rows rs R h2 h3)
theorem qjl9:∀R:List T3,zhw.canLayAll0 (rowsD R)=true
 | []=>by simp[rowsD,zhw.canLayAll0]
 |_::r=>by
  have:=qjl9 r
  simp only[rowsD,zbh] at this ⊢
  simp[zhw.canLayAll0,zhw.canLay0,this]
theorem qlh9:∀R:List T3,zhw.depthAll (rowsD R)<=2
 | []=>by simp[rowsD,zhw.depthAll]
 |_::r=>by
  have:=qlh9 r
  simp only[rowsD,zbh] at this ⊢
  simp only[zhw.depthAll,zhw.depth]
  omega
theorem qpq9(R:List T3):SeqAt.shaped (.list (rowsD R))=true:=by
 have h1:=qjl9 R
 have h2:=qlh9 R
 have h3:zhw.depth (.list (rowsD R))<=64:=by simp only[zhw.depth];omega
 show(zhw.canLay0 (.list (rowsD R))&&decide (zhw.depth (.list (rowsD R))<=64))=true
 rw[zaz]
 exact⟨by simp only[zhw.canLay0];exact h1,decide_eq_true h3⟩
theorem qiy9:SeqAt.shaped (.list [])=true:=qpq9 []
theorem RowsAt.append{r:zht}{a b c:Int}(h:RowsAt H p R)(hx:H p=zhq (.lst xs))(hr:H r=zhq (.tup [.int a,.int b,.int c])):RowsAt (upd H p (.lst (xs++[.ref r]))) p (R++[(a,b,c)]):=by
 obtain⟨rs,h1,h2,h3⟩:=h.ex
 rw[h1] at hx
 cases hx
 have ne:∀q (ys:List V),H q=zhq (.tup ys)->q≠p:=λ q ys e z=>by rw[z,h1] at e;cases e
 refine⟨rs++[r],by rw[qaj9,zaj];rfl,by rw[zap,zap,h2];rfl,λ i q e=>?_⟩
 rcases(by omega:i<rs.length\/rs.length<=i) with hi|hi
 ·rw[zat hi] at e
  have e2:=h3 i q e
  have e3:tup3 (R++[(a,b,c)]) i=tup3 R i:=by
   have e4:(R++[(a,b,c)])[i]?=R[i]?:=zat ⋯
   unfold tup3 rA rB rC
   rw[zbn,zbn,e4]
  rw[qao9 (ne q _ e2),e3]
  exact e2
 ·rw[zau hi] at e
  have ei:i-rs.length=0:=by
   have:=(zab.mp e).1
   simp at this
   omega
  rw[ei] at e
  have eq:r=q:=Option.some.inj e
  subst eq
  have e4:(R++[(a,b,c)])[i]?=zhq (a,b,c):=by
   rw[show i=R.length by omega]
   simp
  have e5:=Ma.r_of e4
  rw[qao9 (ne r _ hr),hr]
  unfold tup3
  rw[e5.1,e5.2.1,e5.2.2]
theorem RowsAt.nil(h:H p=zhq (.lst [])):RowsAt H p []:=⟨[],h,rfl,λ i r e=>by cases i<;>cases e⟩
theorem SameT.keep{r:zht}{qual:Str}(s:SameT P H H')(t:TabOk H P pos qual)(e:H r=zhq o)(n:∀z,o ≠ .tbl z):H' r=zhq o:=s r o e λ z=>by
 obtain⟨ps,hp,_⟩:=t
 rw[z,hp] at e
 exact n ps (Option.some.inj e).symm
theorem SameT.tup{H H':Hp}{P r:zht}{pos:Pos}{qual:Str}{xs:List V}(s:SameT P H H')(t:TabOk H P pos qual)(e:H r=zhq (.tup xs)):H' r=zhq (.tup xs):=SameT.keep s t e λ _ z=>nomatch z
theorem SameT.seq{qual:Str}(s:SameT P H H')(t:TabOk H P pos qual)(h:SqL K H a xs):SqL K H' a xs:=by
 rcases h with(h|⟨o,h⟩)|h
 ·exact .inl (.inl (SameT.keep s t h λ _ z=>nomatch z))
 ·exact .inl (.inr ⟨o,SameT.keep s t h λ _ z=>nomatch z⟩)
 ·exact .inr h
theorem RowsAt.copy{ys:List V}{K:W.Frag}(h:RowsAt H p R)(s:Same H H')(hy:H p=zhq (.lst ys))(e:H' l=zhq (.lst ys)):RowsAt H' l R:=by
 obtain⟨rs,h1,h2,h3⟩:=h.ex
 rw[h1] at hy
 cases hy
 exact⟨rs,e,h2,λ i r er=>s _ _ (h3 i r er)⟩
theorem RowsAt.lst{H:Hp}{p:zht}{R:List T3}(h:RowsAt H p R):∃ys,H p=zhq (.lst ys)/\ys.length=R.length:=by
 obtain⟨rs,h1,h2,h3⟩:=h.ex
 exact⟨_,h1,by rw[zac,h2]⟩
structure LA{α:Type}(enc:α->List V)(H:Hp)(p:zht)(xs:List α):Prop where
 ex:∃rs:List zht,H p=zhq (.lst (rs.map V.ref))/\rs.length=xs.length/\∀(i:Nat) r x,rs[i]?=zhq r->xs[i]?=zhq x->H r=zhq (.tup (enc x))
section
variable {α:Type}{enc:α->List V}{H H':Hp}{p q r:zht}{xs ys:List α}{vs ws:List V}
theorem LA.nil(h:H p=zhq (.lst [])):LA enc H p []:=⟨[],h,rfl,λ i r x e=>by cases i<;>cases e⟩
theorem LA.mono(h:LA enc H p xs)(s:∀b o,H b=zhq o->(∀z,o ≠ .tbl z)->H' b=zhq o):LA enc H' p xs:=by
 obtain⟨rs,h1,h2,h3⟩:=h.ex
 exact⟨rs,s _ _ h1 (λ _ z=>nomatch z),h2,λ i r x e e'=>s _ _ (h3 i r x e e') (λ _ z=>nomatch z)⟩
theorem LA.same(h:LA enc H p xs)(s:Same H H'):LA enc H' p xs:=h.mono λ b o e _=>s b o e
theorem LA.lst(h:LA enc H p xs):∃vs,H p=zhq (.lst vs)/\vs.length=xs.length/\∀(i:Nat) y,vs[i]?=zhq y->∃r x,y=.ref r/\xs[i]?=zhq x/\H r=zhq (.tup (enc x)):=by
 obtain⟨rs,h1,h2,h3⟩:=h.ex
 refine⟨_,h1,by rw[zac,h2],λ i y e=>?_⟩
 obtain⟨r,rfl,er⟩:=map_ref e
 have hi:i<xs.length:=by
  have:=(zab.mp er).1
  omega
 exact⟨r,xs[i],rfl,zad hi,h3 i r _ er (zad hi)⟩
theorem LA.of(h:H p=zhq (.lst vs))(l:vs.length=xs.length)(g:∀(i:Nat) y,vs[i]?=zhq y->∃r,y=.ref r/\∀x,xs[i]?=zhq x->H r=zhq (.tup (enc x))):LA enc H p xs:=by
 have go:∀(vs:List V),(∀(i:Nat) y,vs[i]?=zhq y->∃r,y=V.ref r)->∃rs:List zht,vs=rs.map V.ref:=by
  intro vs
  induction vs with
  |nil=>intro _;exact⟨[],rfl⟩
  |cons v vs ih =>
   intro g
   obtain⟨r,e⟩:=g 0 v rfl
   obtain⟨rs,e2⟩:=ih λ i y e=>g (i+1) y (by simpa using e)
   exact⟨r::rs,by rw[e,e2];rfl⟩
 obtain⟨rs,e⟩:=go vs λ i y e=>by
  obtain⟨r,e1,_⟩:=g i y e
  exact⟨r,e1⟩
 subst e
 refine⟨rs,h,by rw[zac] at l;exact l,λ i r x e1 e2=>?_⟩
 obtain⟨r',e3,e4⟩:=g i (.ref r) (by rw[zah,e1];rfl)
 cases e3
 exact e4 x e2
theorem LA.append{x:α}(h:LA enc H p xs)(hx:H p=zhq (.lst vs))(hr:H r=zhq (.tup (enc x))):LA enc (upd H p (.lst (vs++[.ref r]))) p (xs++[x]):=by
 obtain⟨vs',h1,h2,h3⟩:=h.lst
 rw[h1] at hx
 cases hx
 have ne:∀q (ys:List V),H q=zhq (.tup ys)->q≠p:=λ q ys e z=>by rw[z,h1] at e;cases e
 refine LA.of qaj9 (by simp[h2]) λ i y e=>?_
 rcases(by omega:i<vs.length\/vs.length<=i) with hi|hi
 ·rw[zat hi] at e
  obtain⟨r',x',e1,e2,e3⟩:=h3 i y e
  refine⟨r',e1,λ x2 e4=>?_⟩
  rw[zat ⋯,e2] at e4
  cases e4
  rw[qao9 (ne r' _ e3)]
  exact e3
 ·rw[zau hi] at e
  have ei:i-vs.length=0:=by
   have:=(zab.mp e).1
   simp at this
   omega
  rw[ei] at e
  have e':V.ref r=y:=by simpa using e
  refine⟨r,e'.symm,λ x2 e4=>?_⟩
  rw[zau ⋯,show i-xs.length=0 by omega] at e4
  have e5:x=x2:=by simpa using e4
  subst e5
  rw[qao9 (ne r _ hr)]
  exact hr
theorem LA.extend(h:LA enc H p xs)(h':LA enc H q ys)(hx:H p=zhq (.lst vs))(hy:H q=zhq (.lst ws)):LA enc (upd H p (.lst (vs++ws))) p (xs++ys):=by
 obtain⟨vs',h1,h2,h3⟩:=h.lst
 obtain⟨ws',k1,k2,k3⟩:=h'.lst
 rw[h1] at hx
 cases hx
 rw[k1] at hy
 cases hy
 have ne:∀q (ys:List V),H q=zhq (.tup ys)->q≠p:=λ q ys e z=>by rw[z,h1] at e;cases e
 refine LA.of qaj9 (by simp[h2,k2]) λ i y e=>?_
 rcases(by omega:i<vs.length\/vs.length<=i) with hi|hi
 ·rw[zat hi] at e
  obtain⟨r',x',e1,e2,e3⟩:=h3 i y e
  refine⟨r',e1,λ x2 e4=>?_⟩
  rw[zat ⋯,e2] at e4
  cases e4
  rw[qao9 (ne r' _ e3)]
  exact e3
 ·rw[zau hi] at e
  obtain⟨r',x',e1,e2,e3⟩:=k3 _ y e
  refine⟨r',e1,λ x2 e4=>?_⟩
  rw[zau ⋯,show i-xs.length=i-vs.length by omega,e2] at e4
  cases e4
  rw[qao9 (ne r' _ e3)]
  exact e3
theorem LA.cat(h:LA enc H p xs)(h':LA enc H q ys)(hx:H p=zhq (.lst vs))(hy:H q=zhq (.lst ws))(hr:H r=zhr):LA enc (upd H r (.lst (vs++ws))) r (xs++ys):=by
 obtain⟨vs',h1,h2,h3⟩:=h.lst
 obtain⟨ws',k1,k2,k3⟩:=h'.lst
 rw[h1] at hx
 cases hx
 rw[k1] at hy
 cases hy
 have ne:∀q o,H q=zhq o->q≠r:=λ q o e=>qbe9 e hr
 refine LA.of qaj9 (by simp[h2,k2]) λ i y e=>?_
 rcases(by omega:i<vs.length\/vs.length<=i) with hi|hi
 ·rw[zat hi] at e
  obtain⟨r',x',e1,e2,e3⟩:=h3 i y e
  refine⟨r',e1,λ x2 e4=>?_⟩
  rw[zat ⋯,e2] at e4
  cases e4
  rw[qao9 (ne r' _ e3)]
  exact e3
 ·rw[zau hi] at e
  obtain⟨r',x',e1,e2,e3⟩:=k3 _ y e
  refine⟨r',e1,λ x2 e4=>?_⟩
  rw[zau ⋯,show i-xs.length=i-vs.length by omega,e2] at e4
  cases e4
  rw[qao9 (ne r' _ e3)]
  exact e3
theorem LA.copy(h:LA enc H p xs)(s:Same H H')(hx:H p=zhq (.lst vs))(e:H' q=zhq (.lst vs)):LA enc H' q xs:=by
 obtain⟨rs,h1,h2,h3⟩:=h.ex
 rw[h1] at hx
 cases hx
 exact⟨rs,e,h2,λ i r x e1 e2=>s _ _ (h3 i r x e1 e2)⟩
theorem LA.at{K:W.Frag}(h:LA enc H p xs):∃vs:List V,H p=zhq (.lst vs)/\vs.length=xs.length/\∀(k:Nat) x,xs[k]?=zhq x->∃r,atI vs (k:Int)=zhq (.ref r)/\H r=zhq (.tup (enc x)):=by
 obtain⟨vs,h1,h2,h3⟩:=h.lst
 refine⟨vs,h1,h2,λ k x e=>?_⟩
 have hk:k<vs.length:=by
  have:=(zab.mp e).1
  omega
 obtain⟨r,x',e1,e2,e3⟩:=h3 k _ (zad hk)
 rw[e] at e2
 cases e2
 exact⟨r,qcf9 (by rw[zad hk,e1]),e3⟩
end
theorem qtf9{vs:List V}(h:vs≠[]):atI vs (-1)=vs[vs.length-1]?:=by
 have hl:0<vs.length:=List.length_pos_iff.mpr h
 unfold atI ixN
 rw[if_neg ⋯,if_pos ⋯]
 show vs[(-1+(vs.length:Int)).toNat]?=_
 congr 1
 omega
section
variable {α:Type}{D:α->zhw}
theorem qim9(h:∀x,zhw.canLay0 (D x)=true):∀xs:List α,zhw.canLayAll0 (xs.map D)=true
 | []=>by simp[zhw.canLayAll0]
 |x::xs=>by
  have:=qim9 h xs
  simp[zhw.canLayAll0,h,this]
theorem qoo9{n:Nat}(h:∀x,zhw.depth (D x)<=n):∀xs:List α,zhw.depthAll (xs.map D)<=n
 | []=>by simp[zhw.depthAll]
 |x::xs=>by
  have:=qoo9 h xs
  have:=h x
  simp only[zbh,zhw.depthAll]
  omega
theorem qrp9(h:∀x,zhw.canLay0 (D x)=true)(h2:∀x,zhw.depth (D x)<=n)(hn:n<=60)(xs:List α):SeqAt.shaped (.list (xs.map D))=true:=by
 have h3:=qoo9 h2 xs
 show(zhw.canLay0 (.list (xs.map D))&&decide (zhw.depth (.list (xs.map D))<=64))=true
 rw[zaz]
 exact⟨by simp only[zhw.canLay0];exact qim9 h xs,decide_eq_true (by simp only[zhw.depth];omega)⟩
theorem LA.rd{enc:α->List V}{ds:α->List zhw}{xs:List α}(h:LA enc H p xs)(hd:∀x,RdAll K H (enc x) (ds x)):RdV K H (.ref p) (.list (xs.map λ x=>.tuple (ds x))):=by
 obtain⟨rs,h1,h2,h3⟩:=h.ex
 refine .lst (SqL.of h1) ?_
 have go:∀(rs:List zht)(xs:List α),rs.length=xs.length->(∀(i:Nat) r x,rs[i]?=zhq r->xs[i]?=zhq x->H r=zhq (.tup (enc x)))->RdAll K H (rs.map V.ref) (xs.map λ x=>.tuple (ds x)):=by
  intro rs
  induction rs with
  |nil =>
   intro xs hl _
   cases xs with
   |nil=>exact .nil
   |cons x xs=>cases hl
  |cons r rs ih =>
   intro xs hl g
   cases xs with
   |nil=>cases hl
   |cons x xs=>exact .cons (.tup (SqT.of (g 0 r x rfl rfl)) (hd x)) (ih xs (by simpa using hl) λ i r' x' e1 e2=>g (i+1) r' x' (by simpa using e1) (by simpa using e2))
 exact go rs xs h2 h3
end
open Ma (T4)
def enc3(t:T3):List V:=[.int t.1,.int t.2.1,.int t.2.2]
def dat3(t:T3):zhw:=.tuple [.int t.1,.int t.2.1,.int t.2.2]
theorem eqv3(x y:T3):zhw.eqv (dat3 x) (dat3 y)=decide (x=y):=by
 obtain⟨a,b,c⟩:=x
 obtain⟨a',b',c'⟩:=y
 simp only[dat3,zhw.eqv,zhw.eqvAll,Prod.mk.injEq]
 by_cases c1:a=a'<;>by_cases c2:b=b'<;>by_cases c3:c=c'<;>simp[c1,c2,c3]
theorem rd3(h:LA enc3 H p R):RdV K H (.ref p) (.list (R.map dat3)):=h.rd λ x=>.cons (.int _) (.cons (.int _) (.cons (.int _) .nil))
theorem RowsAt.la(h:RowsAt H p R):LA enc3 H p R:=by
 obtain⟨rs,h1,h2,h3⟩:=h.ex
 refine⟨rs,h1,h2,λ i r x e1 e2=>?_⟩
 obtain⟨a,b,c⟩:=x
 have:=Ma.r_of e2
 rw[h3 i r e1]
 unfold tup3 enc3
 rw[this.1,this.2.1,this.2.2]
theorem LA.rows(h:LA enc3 H p R):RowsAt H p R:=by
 obtain⟨rs,h1,h2,h3⟩:=h.ex
 refine⟨rs,h1,h2,λ i r e1=>?_⟩
 have hi:i<R.length:=by
  have:=(zab.mp e1).1
  omega
 exact h3 i r _ e1 (Ma.r_at hi)
inductive Dv(H:Hp):V->Prop
 |non:Dv H .non
 |bl (b:Bool):Dv H (.bl b)
 |int (i:Int):Dv H (.int i)
 |str (x:Str):Dv H (.str x)
 |lst {a:zht} {xs:List V}:H a=zhq (.lst xs)->Dv H (.ref a)
 |tup {a:zht} {xs:List V}:H a=zhq (.tup xs)->Dv H (.ref a)
def isWh:V->Bool
 | .int _=>true
 |_=>false
def tupV(H:Hp):V->Option (List V)
 | .ref a=>match H a with
  |some (.tup xs)=>zhq xs
  |_=>zhr
 |_=>zhr
def lstV(H:Hp):V->Option (List V)
 | .ref a=>match H a with
  |some (.lst xs)=>zhq xs
  |_=>zhr
 |_=>zhr
theorem tupV_at(h:tupV H x=zhq xs):∃a,x=.ref a/\H a=zhq (.tup xs):=by
 unfold tupV at h
 split at h
 ·rename_i a
  split at h
  ·rename_i ys e
   cases h
   exact⟨a,rfl,e⟩
  ·cases h
 ·cases h
theorem lstV_at(h:lstV H x=zhq xs):∃a,x=.ref a/\H a=zhq (.lst xs):=by
 unfold lstV at h
 split at h
 ·rename_i a
  split at h
  ·rename_i ys e
   cases h
   exact⟨a,rfl,e⟩
  ·cases h
 ·cases h
theorem Dv.same(h:Dv H x)(s:Same H H'):Dv H' x:=by
 cases h with
 |non=>exact .non
 |bl b=>exact .bl b
 |int i=>exact .int i
 |str x=>exact .str x
 |lst e=>exact .lst (s _ _ e)
 |tup e=>exact .tup (s _ _ e)
theorem Dv.tupV_same(h:Dv H x)(s:Same H H'):tupV H' x=tupV H x:=by
 cases h with
 |non=>rfl
 |bl b=>rfl
 |int i=>rfl
 |str x=>rfl
 |lst e=>simp[tupV,e,s _ _ e]
 |tup e=>simp[tupV,e,s _ _ e]
theorem Dv.isTup(h:Dv H x):∃t,TyOf K H x t/\W.kitOne K t (.type "tuple")=zhq (tupV H x).isSome:=by
 cases h with
 |non=>exact⟨_,.non,rfl⟩
 |bl b=>exact⟨_,.bl b,rfl⟩
 |int i=>exact⟨_,.int i,rfl⟩
 |str x=>exact⟨_,.str x,rfl⟩
 |lst e=>exact⟨_,.lst e,by simp only[tupV,e];rfl⟩
 |tup e=>exact⟨_,.tup e,by simp only[tupV,e];rfl⟩
def Dv2(H:Hp)(x:V):Prop:=Dv H x/\∀zs,tupV H x=zhq zs->∀z∈zs,Dv H z
theorem Dv2.same{H H':Hp}{x:V}(h:Dv2 H x)(s:Same H H'):Dv2 H' x:=⟨h.1.same s,λ zs e z hz=>(h.2 zs (by rw[<- h.1.tupV_same s];exact e) z hz).same s⟩
def winL(day:Int):List V->Bool
 | [.int a,.int b,.int c]=>decide (0<=a)&&(decide (a<=b)&&(decide (b<day)&&decide (0<=c)))
 |_=>false
def winV(H:Hp)(day:Int)(x:V):Bool:=match tupV H x with
 |some xs=>winL day xs
 |none=>false
inductive spIsWhole(vs:List V)(H:Hp)(Q:VK)(z3q:XK):Prop
 |mk (x:V):vs=[x]->Dv H x->Q (.bl (isWh x)) H->spIsWhole vs H Q z3q
inductive spWindow(vs:List V)(H:Hp)(Q:VK)(z3q:XK):Prop
 |mk (day:Int) (x:V):vs=[.int day,x]->Dv2 H x->(∀H',Same H H'->Q (.bl (winV H day x)) H')->spWindow vs H Q z3q
def Dv3(H:Hp)(x:V):Prop:=Dv H x/\∀xs,lstV H x=zhq xs->xs.length<=1000/\∀y∈xs,Dv2 H y
theorem qhz9{α β:Type}{xs:List α}{i:Nat}{y:α}(f:α->β)(h:xs[i]?=zhq y):(xs.take (i+1)).map f=(xs.take i).map f++[f y]:=by
 rw[zbe,h,zaj]
 rfl
theorem three{α:Type}:∀{xs:List α},xs.length=3->∃u v w,xs=[u,v,w]
 | [u,v,w],_=>⟨u,v,w,rfl⟩
theorem qnb9(h:isWh x=true):∃i,x=.int i:=by
 cases x<;>first|exact⟨_,rfl⟩|cases h
inductive Ev(H:Hp):Nat->V->Prop
 |non {n:Nat}:Ev H n .non
 |bl {n:Nat} (b:Bool):Ev H n (.bl b)
 |int {n:Nat} (i:Int):Ev H n (.int i)
 |str {n:Nat} {x:Str}:zhw.strOk x=true->Ev H n (.str x)
 |lst {n:Nat} {a:zht} {xs:List V}:H a=zhq (.lst xs)->(∀y∈xs,Ev H n y)->Ev H (n+1) (.ref a)
 |tup {n:Nat} {a:zht} {xs:List V}:H a=zhq (.tup xs)->(∀y∈xs,Ev H n y)->Ev H (n+1) (.ref a)
theorem Ev.same(s:Same H H'):∀{n:Nat}{x:V},Ev H n x->Ev H' n x:=by
 intro n x h
 induction h with
 |non=>exact .non
 |bl b=>exact .bl b
 |int i=>exact .int i
 |str h=>exact .str h
 |lst e _ ih=>exact .lst (s _ _ e) ih
 |tup e _ ih=>exact .tup (s _ _ e) ih
theorem Ev.dv(h:Ev H n x):Dv H x:=by
 cases h with
 |non=>exact .non
 |bl b=>exact .bl b
 |int i=>exact .int i
 |str h=>exact .str _
 |lst e _=>exact .lst e
 |tup e _=>exact .tup e
theorem Ev.parts(h:Ev H (n+1) x)(e:tupV H x=zhq zs):∀z∈zs,Ev H n z:=by
 obtain⟨a,rfl,ea⟩:=tupV_at e
 cases h with
 |lst e2 _=>rw[ea] at e2;cases e2
 |tup e2 p=>rw[ea] at e2;cases e2;exact p
theorem Ev.items(h:Ev H (n+1) x)(e:lstV H x=zhq zs):∀z∈zs,Ev H n z:=by
 obtain⟨a,rfl,ea⟩:=lstV_at e
 cases h with
 |tup e2 _=>rw[ea] at e2;cases e2
 |lst e2 p=>rw[ea] at e2;cases e2;exact p
theorem Ev.d2(h:Ev H (n+1) x):Dv2 H x:=⟨h.dv,λ zs e z hz=>(h.parts e z hz).dv⟩
theorem Ev.d3(h:Ev H (n+2) x)(l:∀zs,lstV H x=zhq zs->zs.length<=1000):Dv3 H x:=⟨h.dv,λ zs e=>⟨l zs e,λ z hz=>(h.items e z hz).d2⟩⟩
theorem Ev.up:∀{n:Nat}{x:V},Ev H n x->Ev H (n+1) x:=by
 intro n x h
 induction h with
 |non=>exact .non
 |bl b=>exact .bl b
 |int i=>exact .int i
 |str h=>exact .str h
 |lst e _ ih=>exact .lst e ih
 |tup e _ ih=>exact .tup e ih
def RdOk(K:W.Frag)(H:Hp)(n:Nat)(x:V):Prop:=∃d,RdV K H x d/\zhw.canLay0 d=true/\zhw.depth d<=n+1/\zhw.eqv d d=true
def RdAOk(K:W.Frag)(H:Hp)(n:Nat)(xs:List V):Prop:=∃ds,RdAll K H xs ds/\zhw.canLayAll0 ds=true/\zhw.depthAll ds<=n+1/\zhw.eqvAll ds ds=true/\ds.length=xs.length
theorem rd_all{K:W.Frag}{H:Hp}{n:Nat}:∀{xs:List V},(∀y∈xs,RdOk K H n y)->RdAOk K H n xs
 | [],_=>⟨[],.nil,by simp[zhw.canLayAll0],by simp[zhw.depthAll],by simp[zhw.eqvAll],rfl⟩
 |y::ys,h=>by
  obtain⟨d,r,c,p,e⟩:=h y (zan ..)
  obtain⟨ds,rs,cs,ps,es,l⟩:=rd_all (xs:=ys) λ z hz=>h z (zal _ hz)
  exact⟨d::ds,.cons r rs,by simp[zhw.canLayAll0,c,cs],by simp only[zhw.depthAll];omega,by simp[zhw.eqvAll,e,es],by simp[l]⟩
theorem Ev.rd:∀{n:Nat}{x:V},Ev H n x->RdOk K H n x:=by
 intro n x h
 induction h with
 |non=>exact⟨_,.non,by simp[zhw.canLay0],by simp[zhw.depth],by simp[zhw.eqv]⟩
 |bl b=>exact⟨_,.bl b,by simp[zhw.canLay0],by simp[zhw.depth],by simp[zhw.eqv]⟩
 |int i=>exact⟨_,.int i,by simp[zhw.canLay0],by simp[zhw.depth],by simp[zhw.eqv]⟩
 |str h=>exact⟨_,.str _,by simp[zhw.canLay0,h],by simp[zhw.depth],by simp[zhw.eqv]⟩
 |lst e _ ih =>
  obtain⟨ds,rs,cs,ps,es,l⟩:=rd_all ih
  exact⟨.list ds,.lst (SqL.of e) rs,by simp[zhw.canLay0,cs],by simp only[zhw.depth];omega,by simp[zhw.eqv,es]⟩
 |tup e _ ih =>
  obtain⟨ds,rs,cs,ps,es,l⟩:=rd_all ih
  exact⟨.tuple ds,.tup (SqT.of e) rs,by simp[zhw.canLay0,cs],by simp only[zhw.depth];omega,by simp[zhw.eqv,es]⟩
theorem Same.seqT(e:Same H H')(h:SqT K H a xs):SqT K H' a xs:=by
 rcases h with(h|⟨o,h⟩)|h
 ·exact .inl (.inl (e _ _ h))
 ·exact .inl (.inr ⟨o,e _ _ h⟩)
 ·exact .inr h
mutual
theorem rdv_same{K:W.Frag}{H H':Hp}(s:Same H H'):∀{x:V}{d:zhw},RdV K H x d->RdV K H' x d
 |_,_,.non=>.non
 |_,_,.bl b=>.bl b
 |_,_,.int i=>.int i
 |_,_,.str x=>.str x
 |_,_,.lst h a=>.lst (s.seq h) (qmn9 s a)
 |_,_,.tup h a=>.tup (Same.seqT s h) (qmn9 s a)
theorem qmn9{K:W.Frag}{H H':Hp}(s:Same H H'):∀{xs:List V}{ds:List zhw},RdAll K H xs ds->RdAll K H' xs ds
 |_,_,.nil=>.nil
 |_,_,.cons h1 h2=>.cons (rdv_same s h1) (qmn9 s h2)
end
theorem cut1(xs:List V):cutV xs (zhq 1) zhr=xs.drop 1:=by
 unfold cutV
 cases xs with
 |nil=>simp
 |cons x r =>
  have e1:HT.sIx (x::r).length 0 (zhq 1)=1:=by
   simp[HT.sIx]
  have e2:HT.sIx (x::r).length (x::r).length zhr=(x::r).length:=rfl
  rw[e1,e2]
  simp
def optV:Option Int->V
 |none=>.non
 |some y=>.int y
theorem qbq9(h:n<=16000000):n<zhu:=by
 have e:zhu=16777216:=by decide +kernel
 omega
theorem qaz9(hp:H p=zhr)(s:Same H H1):Same H (upd H1 p o):=λ b u e=>by
 rw[qao9 (qbe9 e hp)]
 exact s _ _ e
theorem SameT.refl(P:zht)(H:Hp):SameT P H H:=λ _ _ e _=>e
theorem SameT.trans{H2:Hp}(a:SameT P H H1)(b:SameT P H1 H2):SameT P H H2:=λ c o e n=>b c o (a c o e n) n
theorem SameT.same(a:Same H H1):SameT P H H1:=λ c o e _=>a c o e
def SameU(H H':Hp):Prop:=(∀b o,H b=zhq o->(∀z,o ≠ .tbl z)->H' b=zhq o)/\∀b o,H b=zhq o->∃o',H' b=zhq o'
theorem SameU.refl(H:Hp):SameU H H:=⟨λ _ _ e _=>e,λ _ o e=>⟨o,e⟩⟩
theorem SameU.trans{H2:Hp}(a:SameU H H1)(b:SameU H1 H2):SameU H H2:=⟨λ c o e n=>b.1 c o (a.1 c o e n) n,λ c o e=>by
 obtain⟨o1,e1⟩:=a.2 c o e
 exact b.2 c o1 e1⟩
theorem SameU.of(a:Same H H1):SameU H H1:=⟨λ c o e _=>a c o e,λ c o e=>⟨o,a c o e⟩⟩
theorem SameU.tab{pos':Pos}{q q':Str}(a:SameT P H H1)(t:TabOk H P pos q)(t':TabOk H1 P pos' q'):SameU H H1:=⟨λ c o e n=>a c o e λ z=>by
 obtain⟨ps,hp,_⟩:=t
 rw[z,hp] at e
 exact n ps (Option.some.inj e).symm,λ c o e=>by
 by_cases z:c=P
 ·obtain⟨ps,hp,_⟩:=t'
  exact⟨_,by rw[z];exact hp⟩
 ·exact⟨o,a c o e z⟩⟩
theorem SameU.free(a:SameU H H1)(h:H1 p=zhr):H p=zhr:=by
 cases e:H p with
 |none=>rfl
 |some o =>
  obtain⟨o',e'⟩:=a.2 p o e
  rw[h] at e'
  cases e'
theorem SameU.lst{H H1:Hp}{p:zht}{xs:List V}(a:SameU H H1)(e:H p=zhq (.lst xs)):H1 p=zhq (.lst xs):=a.1 _ _ e λ _ z=>nomatch z
theorem SameU.tup{H H1:Hp}{p:zht}{xs:List V}(a:SameU H H1)(e:H p=zhq (.tup xs)):H1 p=zhq (.tup xs):=a.1 _ _ e λ _ z=>nomatch z
theorem SameU.seq(s:SameU H H')(h:SqL K H a xs):SqL K H' a xs:=by
 rcases h with(h|⟨o,h⟩)|h
 ·exact .inl (.inl (s.1 _ _ h λ _ z=>nomatch z))
 ·exact .inl (.inr ⟨o,s.1 _ _ h λ _ z=>nomatch z⟩)
 ·exact .inr h
theorem SameU.wr(hp:H p=zhr)(s:SameU H H1):SameU H (upd H1 p o):=⟨λ b u e n=>by
 rw[qao9 (qbe9 e hp)]
 exact s.1 _ _ e n,λ b u e=>by
 rw[qao9 (qbe9 e hp)]
 exact s.2 _ _ e⟩
theorem LA.u{α:Type}{enc:α->List V}{xs:List α}(h:LA enc H p xs)(s:SameU H H'):LA enc H' p xs:=h.mono s.1
theorem Callee.imp{P:zih}{w:zhy}{K:W.Frag}{mg:Str->Option zhs}{base:zic}{k:Nat}{x:Str}{ps:List Str}{sp sp':Sp}(C:Callee P w K mg base k x ps sp)(h:∀vs H Q E,sp' vs H Q E->sp vs H Q E):Callee P w K mg base k x ps sp':=by
 obtain⟨f,fd,G,b,kp,m⟩:=C.ex
 exact⟨f,fd,G.imp h,b,kp,m⟩
structure TB(T:Hp->Prop):Prop where
 same:∀H H',T H->Same H H'->T H'
 wr:∀H p xs ys,T H->H p=zhq (.lst xs)->T (upd H p (.lst ys))
theorem LA.part{α:Type}{enc:α->List V}{xs:List α}{vs:List V}(h:LA enc H p xs)(s:Same H H')(hv:H p=zhq (.lst vs))(lo hi:Nat)(e:H' l=zhq (.lst ((vs.drop lo).take hi))):LA enc H' l ((xs.drop lo).take hi):=by
 obtain⟨rs,h1,h2,h3⟩:=h.ex
 rw[h1] at hv
 cases hv
 refine⟨(rs.drop lo).take hi,by rw[e,<- List.map_drop,<- List.map_take],by simp[h2],λ i r x e1 e2=>?_⟩
 rw[List.getElem?_take] at e1 e2
 split at e1
 ·rw[zds] at e1
  rename_i c
  rw[if_pos c,zds] at e2
  exact s _ _ (h3 _ r x e1 e2)
 ·cases e1
def datB(R:List T3):zhw:=.list (R.map dat3)
theorem canB(R:List T3):zhw.canLay0 (datB R)=true:=by
 simp only[datB,zhw.canLay0]
 exact qim9 (λ x=>by simp[dat3,zhw.canLay0,zhw.canLayAll0]) R
theorem qcd9{α:Type}{enc:α->List V}{q:zht}{xs:List α}{ys:List V}(h:LA enc H q xs)(hz:H l=zhq (.lst zs))(nq:q≠l):LA enc (upd H l (.lst ys)) q xs:=by
 obtain⟨rs,h1,h2,h3⟩:=h.ex
 refine⟨rs,by rw[qao9 nq];exact h1,h2,λ i r x e e'=>?_⟩
 have h4:=h3 i r x e e'
 have nr:r≠l:=λ z=>by rw[z,hz] at h4;cases h4
 rw[qao9 nr]
 exact h4
theorem la_ne{α β:Type}{enc:α->List V}{enc':β->List V}{xs:List α}(h:LA enc H p xs)(hl:H l=zhr):p≠l:=λ e=>by
 obtain⟨vs,h1,_⟩:=h.lst
 rw[e,hl] at h1
 cases h1
end My
namespace L2
open PySem PySem.Spec PyProof.Rows
variable {C a b:zht}{A:zil}{X:Cx}{e i o value:Expr}{fd:zik}{base h:zic}{H H':Hp}{pins:List (zht×Obj)}{xs:List (List Key×zht×zhs)}{kvs:List (List Key×V)}{es:List Expr}{ps:List Str}{j kk:Nat}{apos cpos p pos pos' tp:Pos}{P prog:zih}{s s':zhx}{sp:Sp}{σ:St}{x:Str}{mg:Str->Option zhs}{td te tv ty:TE}{g:TG}{v y:V}{E E' Q:zhs->zhx->Prop}{K:W.Frag}
section
variable {κ:Type} [DecidableEq κ]
def valV(kvs:List (κ×V))(k:κ):Option V:=(kvs.find? λ kv=>decide (kv.1=k)).map (·.2)
def putK(kvs:List (κ×V))(k:κ)(v:V):List (κ×V) :=
 if(kvs.any λ kv=>decide (kv.1=k))=true then kvs.map (λ kv=>if kv.1=k then(kv.1,v) else kv) else kvs++[(k,v)]
def dropK(kvs:List (κ×V))(k:κ):List (κ×V):=kvs.filter λ kv=>decide (kv.1≠k)
theorem qma9{p:κ×V}{r:List (κ×V)}{k:κ}(e:p.1=k):valV (p::r) k=zhq p.2:=by simp[valV,zcf,e]
theorem qna9{p:κ×V}{r:List (κ×V)}{k:κ}(e:¬p.1=k):valV (p::r) k=valV r k:=by simp[valV,zcf,e]
theorem qqh9(k:κ):∀kvs:List (κ×V),(kvs.any λ kv=>decide (kv.1=k))=(valV kvs k).isSome
 | []=>rfl
 |p::r=>by
  rw[zen]
  by_cases e:p.1=k
  ·simp only[qma9 e,decide_eq_true e,Bool.true_or,zgl]
  ·rw[qna9 e,decide_eq_false e,zgg];exact qqh9 k r
theorem RelO.isSome_eq{o:Option V}{u:Option zhs}(r:RelO o u):o.isSome=u.isSome:=by
 cases o with
 |none=>cases u with
  |none=>rfl
  |some _=>exact(show False from r).elim
 |some _=>cases u with
  |none=>exact(show False from r).elim
  |some _=>rfl
theorem RelO.getD{o:Option V}{u:Option zhs}{d:V}{d':zhs}(r:RelO o u)(rd:RelV d d'):RelV (o.getD d) (u.getD d'):=by
 cases o with
 |none=>cases u with
  |none=>exact rd
  |some _=>exact(show False from r).elim
 |some _=>cases u with
  |none=>exact(show False from r).elim
  |some _=>exact r
theorem KV.val{kvs:List (κ×V)}{vs:List (κ×zhs)}(r:KV kvs vs)(k:κ):RelO (valV kvs k) (zke vs k):=by
 unfold KV at r
 induction r with
 |nil=>exact True.intro
 | @cons p q ps qs h t ih =>
  obtain⟨h1,h2⟩:=h
  by_cases e:p.1=k
  ·have e':q.1=k:=h1.symm.trans e
   have b:zke (q::qs) k=zhq q.2:=by simp[zke,zcf,e']
   rw[qma9 e,b];exact h2
  ·have e':¬q.1=k:=λ z=>e (h1.trans z)
   have b:zke (q::qs) k=zke qs k:=by simp[zke,zcf,e']
   rw[qna9 e,b];exact ih
theorem KV.any{kvs:List (κ×V)}{vs:List (κ×zhs)}(r:KV kvs vs)(k:κ):(kvs.any λ kv=>decide (kv.1=k))=vs.any λ kv=>decide (kv.1=k):=by
 unfold KV at r
 induction r with
 |nil=>rfl
 |cons h t ih=>rw[zen,zen,ih,h.1]
theorem KV.repl{kvs:List (κ×V)}{vs:List (κ×zhs)}(r:KV kvs vs)(k:κ){u:zhs}(ry:RelV y u) :
  KV (kvs.map λ kv=>if kv.1=k then(kv.1,y) else kv) (vs.map λ kv=>if kv.1=k then(kv.1,u) else kv):=by
 unfold KV at r ⊢
 induction r with
 |nil=>exact .nil
 | @cons p q ps qs h t ih =>
  rw[zbh,zbh]
  refine .cons ?_ ih
  obtain⟨h1,h2⟩:=h
  by_cases e:p.1=k
  ·rw[if_pos e,if_pos (h1.symm.trans e)];exact⟨h1,ry⟩
  ·rw[if_neg e,if_neg (λ z=>e (h1.trans z))];exact⟨h1,h2⟩
theorem KV.put{kvs:List (κ×V)}{vs:List (κ×zhs)}(r:KV kvs vs)(k:κ){u:zhs}(ry:RelV y u):KV (putK kvs k y) (stored vs k u):=by
 unfold putK stored
 rw[r.any k]
 by_cases e:(vs.any λ kv=>decide (kv.1=k))=true
 ·rw[if_pos e,if_pos e];exact r.repl k ry
 ·rw[if_neg e,if_neg e];exact Paired.snoc r ⟨rfl,ry⟩
theorem KV.drop{kvs:List (κ×V)}{vs:List (κ×zhs)}(r:KV kvs vs)(k:κ):KV (dropK kvs k) (without vs k):=by
 unfold KV at r ⊢
 unfold dropK without
 induction r with
 |nil=>exact .nil
 | @cons p q ps qs h t ih =>
  obtain⟨h1,h2⟩:=h
  rw[zfd,zfd]
  by_cases e:p.1=k
  ·have a:¬decide (p.1≠k)=true:=by simp[e]
   have b:¬decide (q.1≠k)=true:=by simp[h1.symm.trans e]
   rw[if_neg a,if_neg b];exact ih
  ·have e':¬q.1=k:=λ z=>e (h1.trans z)
   have a:decide (p.1≠k)=true:=by simp[e]
   have b:decide (q.1≠k)=true:=by simp[e']
   rw[if_pos a,if_pos b];exact .cons ⟨h1,h2⟩ ih
theorem KV.keys{kvs:List (κ×V)}{vs:List (κ×zhs)}(r:KV kvs vs):kvs.map (·.1)=vs.map (·.1):=by
 unfold KV at r
 induction r with
 |nil=>rfl
 |cons h t ih=>rw[zbh,zbh,ih,h.1]
theorem KV.length{kvs:List (κ×V)}{vs:List (κ×zhs)}(r:KV kvs vs):kvs.length=vs.length:=Paired.length r
end
theorem kV_is{w:zhy}{k:Key}{u:zhs}(r:RelV (kV k) u):(qih9 P w).is k u=true:=by
 cases k with
 |inl i=>obtain⟨t,e⟩:=(show ∃t,u=zhs.int i t from r);subst e;exact qpf9 P w i t
 |inr x=>obtain⟨t,e⟩:=(show ∃t,u=zhs.str x t from r);subst e;exact qhf9 P w x t
abbrev KT(H:Hp):List (List Key×V)->List (List Key×zht×zhs)->Prop:=Paired λ p q=>p.1=q.1/\H q.2.1=zhq (.tup (p.1.map kV))/\RelV p.2 q.2.2
theorem KT.val(r:KT H kvs xs)(k:List Key):RelO (valV kvs k) ((zlf xs k).map (·.2)):=by
 induction r with
 |nil=>exact True.intro
 | @cons p q ps qs h t ih =>
  obtain⟨h1,_,h2⟩:=h
  by_cases e:p.1=k
  ·have e':q.1=k:=h1.symm.trans e
   have b:zlf (q::qs) k=zhq q.2:=by simp[zlf,zcf,e']
   rw[qma9 e,b];exact h2
  ·have e':¬q.1=k:=λ z=>e (h1.trans z)
   have b:zlf (q::qs) k=zlf qs k:=by simp[zlf,zcf,e']
   rw[qna9 e,b];exact ih
theorem KT.repl(r:KT H kvs xs)(k:List Key){u:zhs}(ry:RelV y u) :
  KT H (kvs.map λ kv=>if kv.1=k then(kv.1,y) else kv) (xs.map (putAt k u)):=by
 induction r with
 |nil=>exact .nil
 | @cons p q ps qs h t ih =>
  rw[zbh,zbh]
  refine .cons ?_ ih
  obtain⟨h1,h2,h3⟩:=h
  unfold putAt
  by_cases e:p.1=k
  ·rw[if_pos e,if_pos (h1.symm.trans e)];exact⟨h1,h2,ry⟩
  ·rw[if_neg e,if_neg (λ z=>e (h1.trans z))];exact⟨h1,h2,h3⟩
theorem KT.put(r:KT H kvs xs)(k:List Key){u:zhs}(hb:H b=zhq (.tup (k.map kV)))(ry:RelV y u) :
  KT H (putK kvs k y) (storedH xs k b u):=by
 have e:(kvs.any λ kv=>decide (kv.1=k))=(zlf xs k).isSome:=by
  rw[qqh9,(r.val k).isSome_eq,Option.isSome_map]
 unfold putK storedH
 rw[e]
 by_cases q:(zlf xs k).isSome=true
 ·rw[if_pos q,if_pos q];exact r.repl k ry
 ·rw[if_neg q,if_neg q];exact Paired.snoc r ⟨rfl,hb,ry⟩
theorem KT.keeps(r:KT H kvs xs)(ht:∀b ys,H b=zhq (.tup ys)->H' b=zhq (.tup ys)):KT H' kvs xs :=
 Paired.mapP r λ _ _ z=>⟨z.1,ht _ _ z.2.1,z.2.2⟩
def DGet(H:Hp)(a:zht)(y:V)(r:Option V):Prop :=
 (∃kvs k,Rd H a (.dK kvs)/\y=kV k/\r=valV kvs k)\/∃kvs k b,Rd H a (.dT kvs)/\y=.ref b/\H b=zhq (.tup (k.map kV))/\r=valV kvs k
def DPut(H:Hp)(a:zht)(y v:V)(H':Hp):Prop :=
 (∃kvs k,H a=zhq (.dK kvs)/\y=kV k/\kvs.length<zhu/\H'=upd H a (.dK (putK kvs k v))) \/
 ∃kvs k b,H a=zhq (.dT kvs)/\y=.ref b/\H b=zhq (.tup (k.map kV))/\kvs.length<zhu/\H'=upd H a (.dT (putK kvs k v))
theorem DGet.k{kvs:List (Key×V)}{k:Key}(e:H a=zhq (.dK kvs)):DGet H a (kV k) (valV kvs k):=.inl ⟨kvs,k,.inl e,rfl,rfl⟩
theorem DGet.t{k:List Key}(e:H a=zhq (.dT kvs))(eb:H b=zhq (.tup (k.map kV))):DGet H a (.ref b) (valV kvs k):=.inr ⟨kvs,k,b,.inl e,rfl,eb,rfl⟩
theorem DPut.k{kvs:List (Key×V)}{k:Key}(e:H a=zhq (.dK kvs))(hl:kvs.length<zhu):DPut H a (kV k) v (upd H a (.dK (putK kvs k v))):=.inl ⟨kvs,k,e,rfl,hl,rfl⟩
theorem DPut.t{k:List Key}(e:H a=zhq (.dT kvs))(eb:H b=zhq (.tup (k.map kV)))(hl:kvs.length<zhu) :
  DPut H a (.ref b) v (upd H a (.dT (putK kvs k v))):=.inr ⟨kvs,k,b,e,rfl,eb,hl,rfl⟩
def NoSl(i:Expr):Prop:=∀ov iv,zkv i false ov iv=zoc [ov,iv] (zma ov iv)
theorem subD_of{w:zhy}{env:Env}{slice:Expr}{T id:String}
  (hl:typeLookup (.type T) "__getitem__"=pure (zhq (.builtin id))) (hs:NoSl slice)
  (h:zib (zia prog w) A (zii value env) (λ o s₁=>zib (zia prog w) A (zii slice env) (λ i s₂=>s₂.TypeIs o T/\zib (zia prog w) A (zma o i) Q E s₂) E s₁) E s) :
  zib (zia prog w) A (zii (.Subscript value slice pos) env) Q E s:=by
 refine zmq (zio h (λ o s₁ h₁=>zio h₁ (λ i s₂ h₂=>?_) λ _ _ x=>x) λ _ _ x=>x)
 obtain⟨hT,h₂⟩:=h₂
 unfold zln
 refine zhv ?_
 rw[getitemInPython_of_ne hT.not_modules]
 refine zhv (wpAny_specialOf hT hl ?_)
 have fin:zib (zia prog w) A (zkv slice false o i) (λ r s₃=>zib (zia prog w) A (letTemporaryGo value o r >>= λ _=>pure r) Q E s₃) E s₂:=by
  rw[hs o i]
  exact wpAny_operating (zio h₂ (λ r s₃ h₃=>zhv (wpAny_letTemporaryGo (zid h₃))) λ _ _ x=>x)
 first
  |exact zid (zhv fin)
  |exact zhv (zid (zhv fin))
  |exact zhv fin
structure M1(X:Cx)(o:Expr)(m:Str)(apos:Pos)(e:Expr)(cpos:Pos):Prop where
 base:zin o m X.env (zii o X.env)=zii o X.env
 few:((ziu cpos (zif [e] X.env)).all (λ x=>!x.1)&&(zle cpos (zkg [] X.env)).all (λ x=>x.1.isSome)
  && decide (([e]:List Expr).length+([]:List zko).length+(if([]:List zko).isEmpty then 0 else 1)<30))=true
 line:(apos.endLine==cpos.line)=true
 trees:ziu cpos (zif [e] X.env)=[(false,zii e X.env)]
structure M2(X:Cx)(o:Expr)(m:Str)(apos:Pos)(e f:Expr)(cpos:Pos):Prop where
 base:zin o m X.env (zii o X.env)=zii o X.env
 few:((ziu cpos (zif [e,f] X.env)).all (λ x=>!x.1)&&(zle cpos (zkg [] X.env)).all (λ x=>x.1.isSome)
  && decide (([e,f]:List Expr).length+([]:List zko).length+(if([]:List zko).isEmpty then 0 else 1)<30))=true
 line:(apos.endLine==cpos.line)=true
 trees:ziu cpos (zif [e,f] X.env)=[(false,zii e X.env),(false,zii f X.env)]
section
variable {to:TE}
abbrev TF:=Str->St->Hp->(Str->Hp->Prop)->Prop
structure QF(X:Cx)(es:List Expr)(t:TF):Prop where
 run:∀(pins:List (zht×Obj)) (s:zhx) (σ:St) (H:Hp) (acc:Str) (Q:Str->Hp->Prop),Inv X pins σ H s->t acc σ H Q->Joins (zia X.prog X.w) X.A X.xe (zlg es X.env) acc (λ out s1=>∃H1,Inv X pins σ H1 s1/\Q out H1) s
theorem qln9{M:zmk}{A:zil}{E:zhs->zhx->Prop}:∀(ps:List (Sem zhs)) (acc:Str) (Q Q':Str->zhx->Prop) (s:zhx),(∀o s,Q o s->Q' o s)->Joins M A E ps acc Q s->Joins M A E ps acc Q' s
 | [],acc,Q,Q',s,h,q=>h _ _ q
 |x::r,acc,Q,Q',s,h,q=>zio q (λ v s1 ⟨y,t,e,z,q1⟩=>⟨y,t,e,z,qln9 r _ Q Q' s1 h q1⟩) λ _ _ e=>e
theorem qqx9:QF X [] (λ acc _ H Q=>Q acc H):=⟨λ pins s σ H acc Q I h=>⟨H,I,h⟩⟩
theorem qmm9{j pos}{t:TF}(h:QF X es t)(he:zlg (.Constant (.str x) j pos::es) X.env=zii (.Constant (.str x) j pos) X.env::zlg es X.env:=by rfl) :
  QF X (.Constant (.str x) j pos::es) (λ acc σ H Q=>(acc++x).length<=zhu/\t (acc++x) σ H Q):=⟨by
 intro pins s σ H acc Q I q
 rw[he]
 refine Calls.Constant_str ⟨x,_,rfl,q.1,h.run pins _ σ H _ Q (I.tok _) q.2⟩⟩
theorem qig9{t:TF}(hv:QE X e te)(h:QF X es t)(he:zlg (.FormattedValue e (-1) zhr pos::es) X.env=zii (.FormattedValue e (-1) zhr pos) X.env::zlg es X.env:=by rfl) :
  QF X (.FormattedValue e (-1) zhr pos::es) (λ acc σ H Q=>te σ H λ v H1=>(∃i:Int,v=.int i/\i.natAbs.log2<1920/\(acc++toString i).length<=zhu/\t (acc++toString i) σ H1 Q)\/(∃y,v=.str y/\y.length<=zhu/\(acc++y).length<=zhu/\t (acc++y) σ H1 Q)):=⟨by
 intro pins s σ H acc Q I q
 rw[he]
 refine wpAny_FormattedValue_plain (thn (hv.run pins s σ H _ I q) λ u s1 z9=>?_)
 obtain⟨v,H1,I1,rv,q1⟩ := z9
 rcases q1 with⟨i,rfl,hl,hz,q2⟩|⟨y,rfl,hl,hz,q2⟩
 ·obtain⟨tk,rfl⟩:=rv
  exact wpAny_formatField_int hl ⟨_,_,rfl,hz,h.run pins _ σ H1 _ Q (I1.tok _) q2⟩
 ·obtain⟨tk,rfl⟩:=rv
  exact wpAny_formatField_str ⟨_,_,rfl,hz,h.run pins _ σ H1 _ Q I1 q2⟩ ⟨_,_,rfl,hz,h.run pins _ σ H1 _ Q (I1.tok _) q2⟩ hl⟩
theorem qkv9{v1 v2:Expr}{t:TF}(h:QF X (v1::v2::es) t):QE X (.JoinedStr (v1::v2::es) pos) (λ σ H Q=>t zbr σ H λ out H1=>out.length<=zhu/\Q (.str out) H1):=⟨by
 intro pins s σ H Q I q
 refine wpAny_JoinedStr (qln9 _ _ _ _ _ (λ out s1 hq=>?_) (h.run pins s σ H _ _ I q))
 obtain⟨H1,I1,hz,q1⟩:=hq
 exact⟨hz,.str out,H1,I1.tok _,⟨_,rfl⟩,q1⟩⟩
inductive rJoin(K:W.Frag)(x:V)(vs:List V)(H:Hp)(Q:VK):Prop
 |mk (sep:_) (p:_) (ys:_):x=.str sep->vs=[.ref p]->SqL K H p (ys.map V.str)->JoinOk sep ys=true->Q (.str (Txt.join sep ys)) H->rJoin K x vs H Q
theorem strs_of:∀{ys:List Str}{its:List zhs},Vals (ys.map V.str) its->∃l:List (Str×Tok),zly l=its/\l.map (·.1)=ys
 | [],_,r=>by
  cases r
  exact⟨[],rfl,rfl⟩
 |y::ys,_,r=>by
  cases r with
  |cons r1 r2 =>
   obtain⟨t,rfl⟩:=r1
   obtain⟨l,h1,h2⟩:=strs_of r2
   exact⟨(y,t)::l,by rw[<- h1];rfl,by rw[<- h2];rfl⟩
theorem mt_join:MtR X "str.join" (rJoin X.K):=by
 intro pins s σ H x vs v us Q I rx rv h
 obtain⟨sep,p,ys,rfl,rfl,hS,hok,q⟩:=h
 obtain⟨t,rfl⟩:=rx
 obtain⟨u,rfl,ru⟩:=vals1 rv
 cases ru
 obtain⟨its,r,pl,hz⟩:=I.list hS
 obtain⟨l,h1,h2⟩:=strs_of r
 subst h1
 exact SC.join pl.isList h2 hok λ t' k=>⟨.str _,H,I.kept (h':=s.heap) (t':=k) (λ _ _ e=>e),⟨_,rfl⟩,q⟩
theorem qsy9{t:TA}(ho:QE X o to)(ha:QA X [e] t)(h:qay9 e=true:=by rfl)(hbase:zin o "join" X.env (zii o X.env)=zii o X.env:=by rfl)(hline:(apos.endLine==pos.line)=true:=by rfl) :
  QE X (.Call (.Attribute o "join" apos) [e] [] pos) (tBM X.K "str" (rJoin X.K) to t):=⟨pe_bm PySem.F.plainAttrs_str PySem.F.slot_str_join PySem.F.type_str_join mt_join ho.run ha.run hbase (by rw[se_of h];rfl) hline (se_of h) rfl⟩
theorem qcall_listK(K:W.Frag)(hK:X.K=K):QCall X (.type "list") (λ xs H Q=>∃p ys,xs=[.ref p]/\(SqL K H p ys\/SqT K H p ys)/\∀l,H l=zhr->Q (.ref l) (upd H l (.lst ys))):=by
 subst hK
 exact qsn9
theorem qtk9:QOp X (zir .Mult) (λ x y H Q=>∃(z:Str)(n:Int),x=.str z/\y=.int n/\MulOk z n/\Q (.str (Txt.mul z n)) H):=⟨by
 intro pins s σ H x y v u Q I rx ry h
 obtain⟨z,n,rfl,rfl,hok,q⟩:=h
 obtain⟨t,rfl⟩:=rx
 obtain⟨t2,rfl⟩:=ry
 exact SB.mul hok λ t' k=>⟨.str _,H,I.kept (h':=s.heap) (t':=k) (λ _ _ e=>e),⟨_,rfl⟩,q⟩⟩
theorem qad9:QOp X (zir .Add) (λ x y H Q=>∃i j,x=.str i/\y=.str j/\i.length+j.length<=zhu/\Q (.str (i++j)) H):=⟨qqi9⟩
theorem qed9:QCall X (.type "str") (λ xs H Q=>∃i,xs=[.int i]/\i.natAbs.log2<1920/\Q (.str (toString i)) H):=⟨qmg9⟩
theorem qsx9:QIx X rIxS:=⟨ix_str⟩
theorem qhx9:zij "str"=zhq (.type "str"):=by decide +kernel
theorem qgs9:QOp X (zig .NotIn) (rIn X.K true):=⟨qnc9⟩
end
def Its(x:Str):It:=⟨λ i _=>i<x.length,λ i H v H'=>H'=H/\∃c,x.cps[i]?=zhq c/\v=.str ⟨#[c]⟩,λ i _=>i=x.length⟩
theorem turn_str{w:zhy}{tg:Expr}(x:Str)(t:Tok)(it:zht):Turn P w K tg (Its x) [it] it (λ i h=>h.IsStrIter it "str_ascii_iterator" x t i) where
 mem:=by simp
 obj:=λ i h st b hb=>by
  have e:b=it:=by simpa using hb
  subst e
  obtain⟨o,e,c,d⟩:=st
  exact⟨o,e,λ v z=>by rw[d] at z;cases z⟩
 keep:=λ i h h' st k=>by
  obtain⟨o,e,r⟩:=st
  exact⟨o,k it (by simp) o e,r⟩
 item:=by
  intro X hP hw hK hc i pins s σ H E I hf st hg
  subst hP hw hK
  have hi:i<x.cps.size:=hg
  obtain⟨f0,f1,f2,f3,f4,f5⟩:=hf it (by simp)
  refine wpAny_pyNext_ascii_item st (c:=x.cps[i]) (by simp[hi]) λ h' st' hs=>?_
  have I1:Inv X pins σ H { s with heap:=h',toks:=s.toks+1 }:=I.turned (t':=s.toks+1) (λ b o hb e=>hs.extBut b o hb e) f0 f1 f3 f4 f5
  obtain⟨o,e,c,d⟩:=id st'
  exact⟨_,rfl,go_of (s:={ s with heap:=h',toks:=s.toks+1 }) e c d (by decide) ⟨.str ⟨#[x.cps[i]]⟩,H,I1,⟨_,rfl⟩,⟨rfl,_,by simp[hi],rfl⟩,st',λ b hb=>(hf b hb).1⟩⟩
 done:=by
  intro X hP hw hK hc i pins s σ H E I hf st hg
  subst hP hw hK
  have hg':i=x.length:=hg
  subst hg'
  obtain⟨f0,f1,f2,f3,f4,f5⟩:=hf it (by simp)
  exact wpAny_pyNext_ascii_end (I.ok.hd hc) st (by simp[zbm]) λ h' eb=>⟨rfl,I.turned (t':=s.toks) (λ b o hb e=>eb b o hb e) f0 f1 f3 f4 f5⟩
 self:=λ _ _ _ _ _ st h=>wpAny_pyIter_striter_ascii st h
def iStr(tl:TE):TI:=λ σ H R=>tl σ H λ v H1=>∃x,v=.str x/\x.cps.all (· < 128)=true/\R (Its x) H1
section
variable {tg:Expr}{to:TE}
theorem pi_str{l:Expr}{tl:TE}(hl:PE X l tl):PI X tg l (iStr tl):=by
 intro pins s σ H R I h
 refine thn (hl pins s σ H _ I h) λ v s1 z9=>?_
 obtain⟨x,H1,I1,r1,q1⟩ := z9
 obtain⟨z,rfl,ha,q⟩:=q1
 obtain⟨t,rfl⟩:=r1
 refine wpAny_pyIter_ascii ha ?_
 refine⟨s1.heap.objs.size,[s1.heap.objs.size],_,_,H1,rfl,I1.kept (t':=s1.toks) λ b o e=>zao _ e,turn_str z t _,⟨_,zav _ rfl,rfl,rfl⟩,λ b hb=>?_,q⟩
 have e:b=s1.heap.objs.size:=by simpa using hb
 subst e
 exact I1.fpOk (zaq _) (I1.hok.fresh (zaq _))
theorem qth9{l:Expr}{tl:TE}(hl:QE X l tl):QI X tg l (iStr tl):=⟨pi_str hl.run⟩
end
section
variable {caps:List (Option Nat)}{Q:VK}
theorem qqv9(Pv:zht->Nat->Hp->Prop)(h0:∀D,H D=zhr->Pv D 0 (upd H D (.lst [])))
  (hs:∀D i c H',H D=zhr->x.cps[i]?=zhq c->Pv D i H'->g (.str ⟨#[c]⟩) (seen caps σ) H' λ σ4 H4=>(∀(k:Nat) v,(seen caps σ)[k]?=zhq (zhq v)->σ4[k]?=zhq (zhq v))/\te σ4 H4 λ y H6=>∃ys,H6 D=zhq (.lst ys)/\ys.length<zhu/\Pv D (i+1) (upd H6 D (.lst (ys++[y]))))
  (hd:∀D H',H D=zhr->Pv D x.length H'->Q (.ref D) H'):cBody caps g tTrue te σ Q (Its x) H:=by
 intro D hD
 refine⟨λ i m H'=>m=x.length-i/\i<=x.length/\Pv D i H',⟨x.length,by simp,zbx _,h0 D hD⟩,?_⟩
 intro i m H2 z9;obtain⟨rfl,hi,p⟩ := z9
 by_cases hlt:i<x.length
 ·refine .inr ⟨hlt,Pv D (i+1),λ H' p'=>⟨x.length-(i+1),⋯,rfl,hlt,p'⟩,λ v H3 y=>?_⟩
  obtain⟨rfl,c,hc,rfl⟩:=y
  have:=hs D i c H3 hD hc p
  refine(?_:g _ _ _ _)
  exact this
 ·have e:i=x.length:=⋯
  subst e
  exact .inl ⟨rfl,hd D H2 hD p⟩
end
section
variable {to:TE}{t:TA}
theorem qnn9:∀l:List (Str×Tok),Vals ((l.map (·.1)).map V.str) (zly l)
 | []=>.nil
 | (y,t)::l=>.cons ⟨t,rfl⟩ (qnn9 l)
inductive rSplit(x:V)(vs:List V)(H:Hp)(Q:VK):Prop
 |mk (z:_) (sep:_):x=.str z->vs=[.str sep]->(sep.length==0)=false->z.length<=zhu->(Builtin.Str.partsBetween z (Builtin.Str.occurrences z sep 0 z.length (z.length+1)) sep.length).length<=zhu->(Txt.split z sep).length<=zhu->(∀l,H l=zhr->Q (.ref l) (upd H l (.lst ((Txt.split z sep).map V.str))))->rSplit x vs H Q
theorem mt_split:MtR X "str.split" rSplit:=by
 intro pins s σ H x vs v us Q I rx rv h
 obtain⟨z,sep,rfl,rfl,hy,hz,hz2,hz3,q⟩:=h
 obtain⟨t,rfl⟩:=rx
 obtain⟨u',rfl,u,rfl⟩:=vals1 rv
 have fin:∀(l:List (Str×Tok)) (k:Nat),l.map (·.1)=Txt.split z sep->EP X pins σ Q (.ref s.heap.objs.size) { s with heap:=s.heap.push { cls:=.type "list",data:=.seq (zly l).toArray },toks:=k }:=λ l k e=>by
  refine⟨.ref s.heap.objs.size,_,I.laid (t':=k) (λ b o e=>zao _ e) (zaq _) (show ObjOk X.prog X.w _ _ _ (.lst ((Txt.split z sep).map V.str)) from⟨by rw[zac];exact hz3,zly l,0,?_,zav _ rfl⟩),rfl,q _ (I.hok.fresh (zaq _))⟩
  rw[<- e]
  exact qnn9 l
 cases h1:(decide (z.length<sep.length)||decide (Builtin.Str.strKind z<Builtin.Str.strKind sep))
 ·cases hf:(Builtin.Str.occurrences z sep 0 z.length (z.length+1)).isEmpty
  ·refine zja F.slot_str_split (zjt _ _ _) F.entry_str_split (F.args_str_split_2 _ _) (meets_str_split_sep z sep t u h1 hy hf hz hz2) ?_
   show wants _ _ _ { s with toks:=_,heap:=s.heap.push { cls:=.type "list",data:=.seq (strsFrom s.toks (Builtin.Str.partsBetween z (Builtin.Str.occurrences z sep 0 z.length (z.length+1)) sep.length)).toArray } }
   rw[strsFrom_eq]
   exact fin (numbered s.toks _) _ ((numbered_texts _ _).trans ((if_neg (ne_true_of_eq_false h1)).trans (if_neg (ne_true_of_eq_false hf))).symm)
  ·exact zja F.slot_str_split (zjt _ _ _) F.entry_str_split (F.args_str_split_2 _ _) (meets_str_split_not_found z sep t u h1 hy hf) (fin [(z,t)] _ ((if_neg (ne_true_of_eq_false h1)).trans (if_pos hf)).symm)
 ·exact zja F.slot_str_split (zjt _ _ _) F.entry_str_split (F.args_str_split_2 _ _) (meets_str_split_cannot_occur z sep t u h1) (fin [(z,t)] _ (if_pos h1).symm)
theorem qhc9(K:W.Frag)(hK:X.K=K)(ho:QE X o to)(ha:QA X [e] t)(h:qay9 e=true:=by rfl)(hbase:zin o "split" X.env (zii o X.env)=zii o X.env:=by rfl)(hline:(apos.endLine==pos.line)=true:=by rfl) :
  QE X (.Call (.Attribute o "split" apos) [e] [] pos) (tBM K "str" rSplit to t):=by
 subst hK
 exact⟨pe_bm PySem.F.plainAttrs_str PySem.F.slot_str_split PySem.F.type_str_split mt_split ho.run ha.run hbase (by rw[se_of h];rfl) hline (se_of h) rfl⟩
inductive rPart(x:V)(vs:List V)(H:Hp)(Q:VK):Prop
 |mk (z:_) (sep:_):x=.str z->vs=[.str sep]->(sep.length==0)=false->z.length<=zhu->(∀l,H l=zhr->Q (.ref l) (upd H l (.tup [.str (Txt.partition z sep).1,.str (Txt.partition z sep).2.1,.str (Txt.partition z sep).2.2])))->rPart x vs H Q
theorem mt_part:MtR X "str.partition" rPart:=by
 intro pins s σ H x vs v us Q I rx rv h
 obtain⟨z,sep,rfl,rfl,hy,hz,q⟩:=h
 obtain⟨t,rfl⟩:=rx
 obtain⟨u',rfl,u,rfl⟩:=vals1 rv
 have fin:∀(ta tb tc:Tok)(k:Nat),EP X pins σ Q (.ref s.heap.objs.size) { s with heap:=s.heap.push { cls:=.type "tuple",data:=.seq [.str (Txt.partition z sep).1 ta,.str (Txt.partition z sep).2.1 tb,.str (Txt.partition z sep).2.2 tc].toArray },toks:=k }:=λ ta tb tc k=>by
  refine⟨.ref s.heap.objs.size,_,I.laid (t':=k) (λ b o e=>zao _ e) (zaq _) (show ObjOk X.prog X.w _ _ _ (.tup [.str (Txt.partition z sep).1,.str (Txt.partition z sep).2.1,.str (Txt.partition z sep).2.2]) from⟨(by show 3<=zhu;decide),[.str (Txt.partition z sep).1 ta,.str (Txt.partition z sep).2.1 tb,.str (Txt.partition z sep).2.2 tc],.cons ⟨_,rfl⟩ (.cons ⟨_,rfl⟩ (.cons ⟨_,rfl⟩ .nil)),_,zav _ rfl,rfl,_,rfl⟩),rfl,q _ (I.hok.fresh (zaq _))⟩
 refine zja F.slot_str_partition (zjt _ _ _) F.entry_str_partition (F.args_str_partition_2 _ _) (meets_str_partition z sep t u hy hz) ?_
 have h':=fin
 unfold Txt.partition at h'
 revert h'
 cases Builtin.Str.occurrences z sep 0 z.length 1 with
 |nil=>intro h';exact h' _ _ _ _
 |cons i r=>intro h';exact h' _ _ _ _
theorem qhv9(K:W.Frag)(hK:X.K=K)(ho:QE X o to)(ha:QA X [e] t)(h:qay9 e=true:=by rfl)(hbase:zin o "partition" X.env (zii o X.env)=zii o X.env:=by rfl)(hline:(apos.endLine==pos.line)=true:=by rfl) :
  QE X (.Call (.Attribute o "partition" apos) [e] [] pos) (tBM K "str" rPart to t):=by
 subst hK
 exact⟨pe_bm PySem.F.plainAttrs_str PySem.F.slot_str_partition PySem.F.type_str_partition mt_part ho.run ha.run hbase (by rw[se_of h];rfl) hline (se_of h) rfl⟩
theorem qro9:OpR X (zig .In) (λ x y H Q=>∃(c:Nat)(j:Str),x=.str ⟨#[c]⟩/\y=.str j/\Q (.bl (decide (c∈j.cps.toList))) H):=by
 intro pins s σ H x y v u Q I rx ry h
 obtain⟨c,j,rfl,rfl,q⟩:=h
 obtain⟨t,rfl⟩:=rx
 obtain⟨t',rfl⟩:=ry
 rw[<- StrLaws.found_one] at q
 exact in_str ⟨.bl _,H,I,rfl,q⟩
theorem qnt9:QOp X (zig .In) (λ x y H Q=>∃(c:Nat)(j:Str),x=.str ⟨#[c]⟩/\y=.str j/\Q (.bl (decide (c∈j.cps.toList))) H):=⟨qro9⟩
theorem call_lenS:CallR X (.builtin "len") (λ xs H Q=>∃z:Str,xs=[.str z]/\z.length<=zhu/\Q (.int z.length) H):=by
 intro pins s σ H xs us Q I r h
 obtain⟨z,rfl,hz,q⟩:=h
 obtain⟨u,rfl,t,rfl⟩:=vals1 r
 have hn:=qpk9
 exact len_str ⋯ ⟨.int z.length,H,I.tok _,⟨_,rfl⟩,q⟩
theorem qep9:QCall X (.builtin "len") (λ xs H Q=>∃z:Str,xs=[.str z]/\z.length<=zhu/\Q (.int z.length) H):=⟨call_lenS⟩
theorem call_intS:CallR X (.type "int") (λ xs H Q=>∃(z:Str)(n:Int),xs=[.str z]/\PySem.intText? z=zhq n/\z.length<=640/\Q (.int n) H):=by
 intro pins s σ H xs us Q I r h
 obtain⟨z,n,rfl,hn,hz,q⟩:=h
 obtain⟨u,rfl,t,rfl⟩:=vals1 r
 exact W.KIN.call_text hn hz ⟨.int n,H,I.tok _,⟨_,rfl⟩,q⟩
theorem qlr9:QCall X (.type "int") (λ xs H Q=>∃(z:Str)(n:Int),xs=[.str z]/\PySem.intText? z=zhq n/\z.length<=640/\Q (.int n) H):=⟨call_intS⟩
inductive rIndexS(K:W.Frag)(x:V)(vs:List V)(H:Hp)(Q:VK):Prop
 |mk (l:zht) (z:Str) (ys:List Str):x=.ref l->vs=[.str z]->SqL K H l (ys.map V.str)->z∈ys->ys.length<=zhu->(Q (.int ((ys.idxOf z:Nat):Int)) H)->rIndexS K x vs H Q
theorem qfd9(ys:List Str):(ys.map V.str).all flatV=true:=by
 rw[zbl]
 intro y hy
 obtain⟨z,_,rfl⟩:=zas.mp hy
 rfl
theorem mt_indexS:MtR X "list.index" (rIndexS X.K):=by
 intro pins s σ H x vs v us Q I rx rv h
 obtain⟨l,z,ys,rfl,rfl,hS,hk,hl,q⟩:=h
 cases rx
 obtain⟨u',rfl,u,rfl⟩:=vals1 rv
 obtain⟨its,r,pl,hz⟩:=I.list hS
 obtain⟨⟨cls,dd,data,sl⟩,ho,hc,n,hd⟩:=pl.isList
 simp only at hc hd
 subst hc hd
 have hlen:=r.length
 rw[zac] at hlen
 have hj:ys.idxOf z<ys.length:=List.idxOf_lt_length_iff.mpr hk
 have hn:=qpk9
 have at_:∀(i:Nat)(h1:i<its.toArray.size)(h2:i<ys.length),eqU (.str z) (its.toArray[i])=decide (ys[i]=z):=λ i h1 h2=>by
  have e1:(ys.map V.str)[i]?=zhq (.str ys[i]):=by rw[zah,zad h2];rfl
  obtain⟨w,hw,rw'⟩:=r.get e1
  obtain⟨tw,rfl⟩:=rw'
  have:its.toArray[i]=.str ys[i] tw:=by
   have:=(zab.mp hw).2
   simpa using this
  rw[this]
  show(ys[i]==z)=_
  rw[zcc,beq_iff_eq,decide_eq_true_eq]
 refine zja PySem.F.slot_list_index ⟨_,ho,rfl⟩ PySem.F.entry_list_index (PySem.F.args_list_index_2 _ _)
  (SeqAt.list_indexAt l its.toArray n dd sl (.str z u) (eqU (.str z)) (ys.idxOf z) (by simp;omega) ⋯ ?_ ?_) ⟨ho,λ y hy=>qhm9 (x:=.str z) ⟨u,rfl⟩ rfl r (qfd9 ys) y (by simpa using hy),⟨.int _,H,I.tok _,⟨_,rfl⟩,q⟩⟩
 ·rw[at_ _ (by simp;omega) hj]
  simp[zdf hj]
 ·intro j hjs hlt
  rw[at_ j hjs (by simp at hjs;omega)]
  refine decide_eq_false λ e=>?_
  have:=List.not_of_lt_findIdx (xs:=ys) (p:=(· == z)) (i:=j) hlt
  simp[e] at this
theorem qkm9(K:W.Frag)(hK:X.K=K)(ho:QE X o to)(ha:QA X [e] t)(h:qay9 e=true:=by rfl)(hbase:zin o "index" X.env (zii o X.env)=zii o X.env:=by rfl)(hline:(apos.endLine==pos.line)=true:=by rfl) :
  QE X (.Call (.Attribute o "index" apos) [e] [] pos) (tBM K "list" (rIndexS K) to t):=by
 subst hK
 exact⟨pe_bm PySem.F.plainAttrs_list PySem.F.slot_list_index PySem.F.type_list_index mt_indexS ho.run ha.run hbase (by rw[se_of h];rfl) hline (se_of h) rfl⟩
theorem qoe9{z:Str}{tk:Tok}(hg:Gl X x)(hm:X.mg x=zhq (.str z tk))(hd:(x==("__debug__":Str))=false:=by decide):QE X (.Name x pos) (tC (.str z)):=⟨qlg9 hg hm ⟨_,rfl⟩ hd⟩
theorem qcb9{z:Int}{tk:Tok}(hg:Gl X x)(hm:X.mg x=zhq (.int z tk))(hd:(x==("__debug__":Str))=false:=by decide):QE X (.Name x pos) (tC (.int z)):=⟨qlg9 hg hm ⟨_,rfl⟩ hd⟩
end
inductive rSlA(x:V)(lo:Option Int)(hi:Option Int)(H:Hp)(Q:VK):Prop
 |mk (z:_):x=.str z->z.length<=zhu->Q (.str (Txt.slice z lo hi)) H->rSlA x lo hi H Q
theorem sl_strA:SlR X rSlA:=by
 intro pins s σ H x v vl vu lo hi sl Q I rx hs pl pu h
 obtain⟨z,rfl,hz,q⟩:=h
 obtain⟨t,rfl⟩:=rx
 refine⟨"str",_,PySem.F.slot_str_getitem.lookup,zjt _ _ _,?_⟩
 cases pl with
 |none =>
  cases pu with
  |none=>exact zjg (l:=zhr) (u:=zhr) (st:=zhr) hs rfl (zkc ⟨zbj (Txt.slice_le z _ _) hz,λ t' k=>⟨.str _,H,I.kept (h':=s.heap) (t':=k) (λ _ _ e=>e),⟨_,rfl⟩,q⟩⟩)
  |int j uj=>exact zjg (l:=zhr) (u:=zhq (_,uj)) (st:=zhr) hs rfl (zkc ⟨zbj (Txt.slice_le z _ _) hz,λ t' k=>⟨.str _,H,I.kept (h':=s.heap) (t':=k) (λ _ _ e=>e),⟨_,rfl⟩,q⟩⟩)
 |int i ui =>
  cases pu with
  |none=>exact zjg (l:=zhq (_,ui)) (u:=zhr) (st:=zhr) hs rfl (zkc ⟨zbj (Txt.slice_le z _ _) hz,λ t' k=>⟨.str _,H,I.kept (h':=s.heap) (t':=k) (λ _ _ e=>e),⟨_,rfl⟩,q⟩⟩)
  |int j uj=>exact zjg (l:=zhq (_,ui)) (u:=zhq (_,uj)) (st:=zhr) hs rfl (zkc ⟨zbj (Txt.slice_le z _ _) hz,λ t' k=>⟨.str _,H,I.kept (h':=s.heap) (t':=k) (λ _ _ e=>e),⟨_,rfl⟩,q⟩⟩)
theorem qpl9{lo hi:Option Expr}{tl th:TO}{p2:Pos}(he:QE X e te)(hl:QO X lo tl)(hu:QO X hi th):QE X (.Subscript e (.Slice lo hi zhr p2) pos) (tSl rSlA te tl th):=⟨qrh9 sl_strA he.run hl.run hu.run⟩
theorem qrf9(x:Array Nat)(a:Nat):∀m:Nat,a+m<=x.size->((zde m).map (a+·)).filterMap (x[·]?)=(x.toList.drop a).take m
 |0,_=>by simp
 |m+1,h=>by
  rw[List.range_succ,zaj,List.filterMap_append,qrf9 x a m ⋯,zbe,zds,zcg]
  have hx:x[a+m]?=zhq x[a+m]:=Array.getElem?_eq_getElem ⋯
  simp[hx]
theorem qsi9{lo hi:Option Int}{a b:Nat}(hi':Builtin.Str.strSliceIndices lo hi 1 x.length=(zde (b-a)).map (a+·))(ab:b<=x.length)(aa:a<=x.length):(Txt.slice x lo hi).cps.toList=(x.cps.toList.drop a).take (b-a):=by
 have sz:x.length=x.cps.size:=rfl
 unfold Txt.slice
 rw[hi']
 split
 ·rename_i c
  have c':b-a=x.length:=by simpa using c
  have a0:a=0:=by
   by_cases z:x.length=0
   ·omega
   ·omega
  subst a0
  rw[zdi,c',sz,zby (by simp)]
 ·show(((zde (b-a)).map (a+·)).filterMap (x.cps[·]?)).toArray.toList=_
  by_cases z:a<=b
  ·rw[qrf9 x.cps a (b-a) ⋯]
  ·have:b-a=0:=⋯
   rw[this]
   simp
theorem idx_of{a b:Int}(ha:0<=a):sliceRange a b 1=(zde (b.toNat-a.toNat)).map (a.toNat+·):=by
 unfold sliceRange
 simp only[show(1:Int)>0 by decide,if_true]
 have ec:(if a<b then(b-a+1-1)/1 else 0).toNat=b.toNat-a.toNat:=by
  split
  ·rw[Int.ediv_one]
   omega
  ·omega
 rw[ec]
 refine zej λ k _=>?_
 omega
theorem qmk9{i:Int}(h0:0<=i):(Txt.slice x (zhq i) zhr).cps.toList=x.cps.toList.drop i.toNat:=by
 have sz:x.cps.toList.length=x.length:=by simp[zbm]
 have:=qsi9 (x:=x) (lo:=zhq i) (hi:=zhr) (a:=min i.toNat x.length) (b:=x.length) (by
  unfold Builtin.Str.strSliceIndices
  simp only[show(1:Int)>0 by decide,if_true]
  rw[show(if i<0 then i+(x.length:Int) else i)=i from if_neg ⋯,idx_of ⋯]
  have e1:(max 0 (min i (x.length:Int))).toNat=min i.toNat x.length:=⋯
  have e2:((x.length:Nat):Int).toNat=x.length:=⋯
  rw[e1,e2]) ⋯ ⋯
 rw[this]
 by_cases c:i.toNat<=x.length
 ·rw[zgm c,zby (by rw[zee];omega)]
 ·have em:min i.toNat x.length=x.length:=⋯
  rw[em,zci ⋯,zci ⋯]
  simp
theorem qmt9{j:Int}(h1:0<=j):(Txt.slice x zhr (zhq j)).cps.toList=x.cps.toList.take j.toNat:=by
 have sz:x.cps.toList.length=x.length:=by simp[zbm]
 have:=qsi9 (x:=x) (lo:=zhr) (hi:=zhq j) (a:=0) (b:=min j.toNat x.length) (by
  unfold Builtin.Str.strSliceIndices
  simp only[show(1:Int)>0 by decide,if_true]
  rw[show(if j<0 then j+(x.length:Int) else j)=j from if_neg ⋯,idx_of ⋯]
  have e2:(max 0 (min j (x.length:Int))).toNat=min j.toNat x.length:=⋯
  rw[e2]
  rfl) ⋯ ⋯
 rw[this,zdi,zhd]
 by_cases d:j.toNat<=x.length
 ·rw[zgm d]
 ·rw[Nat.min_eq_right ⋯,zby ⋯,zby ⋯]
theorem any_range(bs:List Bool):((zde bs.length).any λ i=>(bs[i]?).getD true)=bs.any id:=by
 rw[zcc,zdc,zdc]
 constructor
 ·intro z9;obtain⟨i,hi,h⟩ := z9
  have hi':=zcp.mp hi
  rw[zad hi'] at h
  exact⟨_,zbs hi',h⟩
 ·intro z9;obtain⟨x,hx,h⟩ := z9
  obtain⟨i,hi,e⟩:=zec.mp hx
  refine⟨i,zcp.mpr hi,?_⟩
  rw[zad hi,e]
  exact h
theorem call_any(hc:X.calm=true):CallR X (.builtin "any") (λ xs H Q=>∃(p:zht)(bs:List Bool),xs=[.ref p]/\SqL X.K H p (bs.map V.bl)/\Q (.bl (bs.any id)) H):=by
 intro pins s σ H xs us Q I r h
 obtain⟨p,bs,rfl,hS,q⟩:=h
 obtain⟨u,rfl,ru⟩:=vals1 r
 cases ru
 obtain⟨its,rv,pl,hz⟩:=I.list hS
 have hl:=pl.isList
 have hlt:p<s.heap.objs.size:=by obtain⟨_,e,_⟩:=hl;exact zax e
 refine call_any_walk (zju hl ?_)
 refine⟨s.heap.objs.size,[s.heap.objs.size,p],[s.heap.objs.size],its.toArray.size,_,_,λ i=>(bs[i]?).getD true,rfl,Walks.list (A:=X.A.in1) (I.ok.hd hc) _ p (zbo hlt) its.toArray,
  ⟨⟨_,zav _ rfl,rfl,rfl⟩,hl.push _⟩,λ i v s' Q' E' hP hQ=>?_,λ h' tk hk=>?_⟩
 ·obtain⟨k,e,rfl⟩:=vals_bl rv (i:=i) (v:=v) (by simpa using hP)
  simp only[e,zgw] at hQ
  exact zim hQ
 ·have e:((zde its.toArray.size).any λ i=>(bs[i]?).getD true)=bs.any id:=by
   have hl2:=rv.length
   rw[zac] at hl2
   rw[zaw,<- hl2]
   exact any_range bs
  rw[e]
  have keep:∀b x,s.heap.get? b=zhq x->h'.get? b=zhq x:=λ b x e=>hk b x (λ hm=>by rw[zae.mp hm] at e;exact zco _ (zax e)) (zao _ e)
  exact⟨.bl (bs.any id),H,I.kept (t':=tk) keep,rfl,q⟩
theorem bt_any:zij "any"=zhq (.builtin "any"):=by decide +kernel
theorem qns9(hc:X.calm=true):QCall X (.builtin "any") (λ xs H Q=>∃(p:zht)(bs:List Bool),xs=[.ref p]/\SqL X.K H p (bs.map V.bl)/\Q (.bl (bs.any id)) H):=⟨call_any hc⟩
section
variable {f m:Str}{ta:TE}{t:TA}{k:Nat}
theorem qkt9(he:QE X e ta)(hb:zin e f X.env (zii e X.env)=zii e X.env:=by rfl):QE X (.Attribute e f pos) (tFld X.K ta f):=⟨pe_fld he.run hb⟩
theorem qpv9(ha:QE X o ta)(hv:QE X value tv)(hs:zjd value (zhq (.Attribute o f pos')) pos.line X.env=pure false:=by rfl):QS X (.Assign [.Attribute o f pos'] value pos) (sFld X.K ta tv f):=⟨ps_fld ha.run hv.run hs⟩
structure MCal(P:zih)(w:zhy)(K:W.Frag)(mg:Str->Option zhs)(base:zic)(k:Nat)(C:zht)(m:Str)(ps:List Str)(sp:Sp):Prop where
 ex:∃(f:zht)(fd:zik),FnOk P w K mg base CX0 k f fd ps sp/\Binds K fd ps []/\Meth K C m f
 cl:Cls K C
theorem MCal.up{w:zhy}(M:MCal P w K mg base j C m ps sp)(h:j<=k):MCal P w K mg base k C m ps sp:=by
 obtain⟨⟨f,fd,G,b,me⟩,c⟩:=M
 exact⟨⟨f,fd,G.mono h,b,me⟩,c⟩
structure KCal(P:zih)(w:zhy)(K:W.Frag)(mg:Str->Option zhs)(base:zic)(k:Nat)(x:Str)(C:zht)(ps:List Str)(sp:Sp):Prop where
 ex:∃(f:zht)(fd:zik),Mk K C f/\FnOk P w K mg base CX0 k f fd ps sp/\Binds K fd ps []
 mg_:mg x=zhq (.ref C)
theorem KCal.up{w:zhy}(M:KCal P w K mg base j x C ps sp)(h:j<=k):KCal P w K mg base k x C ps sp:=by
 obtain⟨⟨f,fd,mk,G,b⟩,c⟩:=M
 exact⟨⟨f,fd,mk,G.mono h,b⟩,c⟩
theorem qe_make(M:KCal X.prog X.w X.K X.mg X.base k x C ps sp)(hr:Room (k+1) X.A)(hg:Gl X x)(ha:QA X (e::es) t)(h:qay9 e=true:=by rfl)(hpl:es.all qay9=true:=by rfl)(hdb:(x==("__debug__":Str))=false:=by decide) :
  QE X (.Call (.Name x p) (e::es) [] pos) (tMake C sp [] E0 t):=by
 obtain⟨⟨f,fd,mk,G,b⟩,c⟩:=M
 exact⟨pe_make mk G hr hg c b .nil pass0 ha.run hdb (se_of h) (qky9 hpl)⟩
end
structure FunD(K:W.Frag)(x qual:Str)(st:zhz)(f:zht)(fd:zik):Prop where
 ex:∃(oc:zhs)(od:Option zht)(dV kV doc pm:zhs)(an:Option zht)(cdv ct:zhs) (osl:Array (Option zhs)),
  fd=W.fnOf x qual (qai9 st) (qag9 st) (qab9 st) dV kV doc pm an cdv ct/\K.lookup f=zhq ⟨oc,od,.func fd,osl⟩/\W.codeIn K cdv qual=true
theorem FunD.okQ{w:zhy}{qual:Str}{st:zhz}{f:zht}{N:List Str}{k:Nat}(F:FunD K x qual st f fd)(S:FnScope N ps (qab9 st))(len:∀vs H Q E,sp vs H Q E->vs.length=ps.length)
  (hbody:∀(cdv:zhs)(A:zil)(outer:List Env)(s:zhx)(H:Hp)(vs:List V)(Q:VK)(E:XK),Room k (A.deeper (zjn qual (qab9 st) s.heap.objs.size f cdv))->sp vs H Q E ->
   ∃t,QSs (cxOf CX0 P w K mg base N qual (qab9 st) f cdv A outer s H E).nox (qag9 st) t/\t { nx:=λ _ H'=>Q .non H',rt:=Q } (start N vs) H):FnOk P w K mg base CX0 (k+1) f fd ps sp:=by
 obtain⟨oc,od,dV,kV,doc,pm,an,cdv,ct,osl,rfl,lk,hcd⟩:=F.ex
 refine fn_of lk hcd S len λ A outer s H vs Q E hr hsp=>?_
 obtain⟨t,h,q⟩:=hbody cdv A outer s H vs Q E hr hsp
 exact⟨t,h.run.nox,q⟩
section
variable {w:zhy}{it t:zht}{i:Nat}{items:Array zhs}
theorem qsm9{x:zhs}(hi:s.heap.IsTupleIter it t i)(ht:s.heap.IsTuple t items)(hx:items[i]?=zhq x)(hQ:∀h',h'.IsTupleIter it t (i+1)->zic.SameBut it s.heap h'->Q x { s with heap:=h' }) :
  zib (zia prog w) A (Builtin.SmallTypes.nextOf (.ref it)) Q E s:=by
 obtain⟨o,ho,hc,hd⟩:=id hi
 obtain⟨ot,hot,_,nt,hdt⟩:=ht
 have go:zib (zia prog w) A (znw (.ref it) (zbv "__next__")) (λ v s'=>zib (zia prog w) A (match v with|zhq v=>pure v|zhr=>do zlw "iternext.gone";raiseError "TypeError" s!"'{← typeNameOf (.ref it)}' object is not iterable") Q E s') E s:=by
  refine zjh ⟨o,ho,hc⟩ F.slot_tuple_iterator_next (zjx F.slot_tuple_iterator_next ⟨o,ho,hc⟩ F.entry_tuple_iterator_next ?_ (F.args_tuple_iterator_next_1 _))
  refine(show zib (zia prog w) _ (zlh (.ref it) 0 >>= _) _ _ s from ?_)
  refine zhv (zix ho hd (x:=.ref t) rfl ?_)
  refine(show zib (zia prog w) _ (zlh (.ref it) 1 >>= _) _ _ s from ?_)
  refine zhv (zix ho hd (x:=.int i 0) rfl ?_)
  refine(show zib (zia prog w) _ (seqItems? (.ref t) >>= _) _ _ s from ?_)
  refine zhv (zje hot hdt ?_)
  simp only[zer,hx]
  refine zhv (znb ho hd (by simp) (zid ⟨x,rfl,zid (hQ _ ⟨_,zic.get?_update_self _ ho (Obj.isFreed_of_fields (Obj.data_mapFields hd _)),(Obj.cls_mapFields ..).trans hc,?_⟩ (zic.SameBut.update ..))⟩))
  rw[Obj.data_mapFields hd]
  simp[zky]
 exact zhv go
theorem nextT_end{Q:zhs->zhx->Prop}(hh:A.handled=zhr)(hi:s.heap.IsTupleIter it t i)(ht:s.heap.IsTuple t items)(hx:items[i]?=zhr)(hE:∀h' e,zic.ExtBut it s.heap h'->(∃o,h'.get? e=zhq o/\o.cls=.type "StopIteration")->E (.ref e) { s with heap:=h' }) :
  zib (zia prog w) A (Builtin.SmallTypes.nextOf (.ref it)) Q E s:=by
 obtain⟨o,ho,hc,hd⟩:=id hi
 obtain⟨ot,hot,_,nt,hdt⟩:=ht
 have go:∀Q',zib (zia prog w) A (znw (.ref it) (zbv "__next__")) Q' E s:=λ Q'=>by
  refine zjh ⟨o,ho,hc⟩ F.slot_tuple_iterator_next (zjx F.slot_tuple_iterator_next ⟨o,ho,hc⟩ F.entry_tuple_iterator_next ?_ (F.args_tuple_iterator_next_1 _))
  refine(show zib (zia prog w) _ (zlh (.ref it) 0 >>= _) _ _ s from ?_)
  refine zhv (zix ho hd (x:=.ref t) rfl ?_)
  refine(show zib (zia prog w) _ (zlh (.ref it) 1 >>= _) _ _ s from ?_)
  refine zhv (zix ho hd (x:=.int i 0) rfl ?_)
  refine(show zib (zia prog w) _ (seqItems? (.ref t) >>= _) _ _ s from ?_)
  refine zhv (zje hot hdt ?_)
  simp only[zer,hx]
  refine zhv (zms (zhv (znb ho hd (by simp) ?_)))
  refine(show zib (zia prog w) _ (newExc (.type "StopIteration") [] >>= _) _ _ _ from zhv ?_)
  simp only[newExc,newTuple]
  refine zhv (zkk (zhv (m:=znc _ _) (zme (a:=zhs.none) (by first|rfl|(simp only[znc];rfl)) (zkk ?_ (by size_fits)))) (by size_fits))
  simp only[raiseNew]
  refine zhv (wpAny_handled ?_)
  rw[show A.in1.handled=zhr from hh]
  exact zhv (zid (wpAny_throw (hE _ _ (((zic.SameBut.update ..).extBut.push _).push _) ⟨_,zav _ rfl,rfl⟩)))
 exact zhv (go _)
end
section
variable {w:zhy}{z TI TO i1 i2 l1 l2:zht}{k:Nat}{xs ys:Array zhs}{x y a b:zhs}
structure ZipT(h:zic)(z TI TO i1 i2 l1 l2:zht)(k:Nat):Prop where
 hz:zkn h z TI TO .none
 hTI:zjo h TI (.ref i1) (.ref i2)
 hTO:∃a b,zjo h TO a b
 h1:h.IsTupleIter i1 l1 k
 h2:h.IsListIter i2 l2 k
theorem zipT_item(D:zli z TI TO i1 i2 l1 l2)(Z:ZipT s.heap z TI TO i1 i2 l1 l2 k)(hl1:s.heap.IsTuple l1 xs)(hl2:s.heap.IsList l2 ys)(hx:xs[k]?=zhq x)(hy:ys[k]?=zhq y)
  (hQ:∀h',zkn h' z TI TO (zky s.heap.objs.size)->zjo h' TI (.ref i1) (.ref i2)->zjo h' TO x y->h'.IsTupleIter i1 l1 (k+1)->h'.IsListIter i2 l2 (k+1)->zjo h' s.heap.objs.size x y->(∀c o,c≠z->c≠TO->c≠i1->c≠i2->s.heap.get? c=zhq o->h'.get? c=zhq o)->Q (.ref s.heap.objs.size) { s with heap:=h' }) :
  zib (zia prog w) A (Builtin.«zip.__next__» ⟨[.ref z],[]⟩) (λ fin s'=>∃v,fin=.done (.ret v)/\Q v s') E s:=by
 obtain⟨hz,hTI,⟨a,b,hTO⟩,h1,h2⟩:=Z
 refine(show zib (zia prog w) _ (zlh (.ref z) 2 >>= _) _ _ s from ?_)
 refine zhv (zix hz rfl (x:=.bool false) rfl ?_)
 refine(show zib (zia prog w) _ (zlh (.ref z) 3 >>= _) _ _ s from ?_)
 refine zhv (zix hz rfl (x:=.ref TI) rfl (zhv (zje hTI rfl ?_)))
 refine(show zib (zia prog w) _ (Builtin.SmallTypes.ownedTupleIsFree (.ref z) >>= _) _ _ s from zhv ?_)
 unfold Builtin.SmallTypes.ownedTupleIsFree
 refine zhv (zix hz rfl (x:=.none) rfl (zid ?_))
 simp only[if_true]
 refine zhv (zms (zhv (zix hz rfl (x:=.ref TO) rfl ?_)))
 refine zhv (zjk hz (by simp) λ g1 z1 b1=>zhv ?_)
 simp only[zgn,zgs,zfn,zfu]
 have e1:=b1.extBut
 refine zhv (zhv (zki ?_))
 refine(show zib (zia prog w) _ (Builtin.SmallTypes.nextOf (.ref i1) >>= _) _ _ _ from ?_)
 refine zhv (qsm9 (h1.extBut e1 D.i1z) (hl1.extBut e1 D.l1z) hx λ g2 j1 b2=>zid ?_)
 have e2:=b2.extBut
 have o2:zjo g2 TO a b:=e2 _ _ D.TOi1 (e1 _ _ D.TOz hTO)
 refine zhv (zje o2 rfl (zhv (zlj o2 λ g3 o3 b3=>zhv (zoa (zid ?_)))))
 have o3:zjo g3 TO x b:=o3
 have e3:=b3.extBut
 refine zhv (zhv (zki ?_))
 refine(show zib (zia prog w) _ (Builtin.SmallTypes.nextOf (.ref i2) >>= _) _ _ _ from ?_)
 refine zhv (wpAny_nextOf_list_item (((h2.extBut e1 D.i2z).extBut e2 D.i12.symm).extBut e3 D.TOi2.symm) (((hl2.extBut e1 D.l2z).extBut e2 D.l2i1).extBut e3 D.l2TO) hy λ g4 j2 b4=>zid ?_)
 have e4:=b4.extBut
 have o4:zjo g4 TO x b:=e4 _ _ D.TOi2 o3
 refine zhv (zje o4 rfl (zhv (zlj o4 λ g5 o5 b5=>zhv (zoa (zid (zid ?_))))))
 have o5:zjo g5 TO x y:=o5
 have e5:=b5.extBut
 refine zhv (zje o5 rfl (zhv (wpAny_newTuple ?_)))
 have sz:g5.objs.size=s.heap.objs.size:=by rw[b5.1,b4.1,b3.1,b2.1,b1.1]
 have z1:zkn g1 z TI TO .ellipsis:=z1
 have z5:zkn g5 z TI TO .ellipsis:=e5 _ _ D.TOz.symm (e4 _ _ D.i2z.symm (e3 _ _ D.TOz.symm (e2 _ _ D.i1z.symm z1)))
 have k5:∀c o,c≠z->c≠TO->c≠i1->c≠i2->s.heap.get? c=zhq o->g5.get? c=zhq o:=λ c o c1 c2 c3 c4 e=>e5 _ _ c2 (e4 _ _ c4 (e3 _ _ c2 (e2 _ _ c3 (e1 _ _ c1 e))))
 have zlt:z<g5.objs.size:=zax z5
 refine(show zib (zia prog w) _ (Builtin.SmallTypes.ownedTupleHandOut (.ref z) (.ref g5.objs.size) >>= _) _ _ _ from zhv ?_)
 unfold Builtin.SmallTypes.ownedTupleHandOut
 have z6:zkn (g5.push { cls:=.type "tuple",data:=.seq #[x,y] }) z TI TO .ellipsis:=zao _ z5
 refine zhv (zjk z6 (by simp) λ g7 z7 b7=>?_)
 have z7:zkn g7 z TI TO (zky g5.objs.size):=z7
 refine zjk z7 (by simp) λ g8 z8 b8=>?_
 have z8:zkn g8 z TI TO (zky g5.objs.size):=z8
 have up:∀c o,c≠z->g5.get? c=zhq o->g8.get? c=zhq o:=λ c o c1 e=>b8.extBut _ _ c1 (b7.extBut _ _ c1 (zao _ e))
 have t8:zjo g8 g5.objs.size x y:=b8.extBut _ _ (zgc zlt) (b7.extBut _ _ (zgc zlt) (zav _ rfl))
 rw[sz] at z8 t8
 refine zid ⟨_,rfl,?_⟩
 rw[sz]
 exact hQ g8 z8 (up _ _ D.TIz (k5 _ _ D.TIz D.TITO D.TIi1 D.TIi2 hTI)) (up _ _ D.TOz o5) ((((j1.extBut e3 D.TOi1.symm).extBut e4 D.i12).extBut e5 D.TOi1.symm).at λ o e=>up _ o D.i1z e) ((j2.extBut e5 D.TOi2.symm).at λ o e=>up _ o D.i2z e) t8 λ c o c1 c2 c3 c4 e=>up c o c1 (k5 c o c1 c2 c3 c4 e)
theorem zipT_end{Q:PySem.Fin->zhx->Prop}(hh:A.handled=zhr)(D:zli z TI TO i1 i2 l1 l2)(Z:ZipT s.heap z TI TO i1 i2 l1 l2 k)(hl1:s.heap.IsTuple l1 xs)(hx:xs[k]?=zhr)
  (hE:∀h' e,(∀c o,c≠z->c≠i1->s.heap.get? c=zhq o->h'.get? c=zhq o)->(∃o,h'.get? e=zhq o/\o.cls=.type "StopIteration")->E (.ref e) { s with heap:=h' }) :
  zib (zia prog w) A (Builtin.«zip.__next__» ⟨[.ref z],[]⟩) Q E s:=by
 obtain⟨hz,hTI,⟨a,b,hTO⟩,h1,h2⟩:=Z
 refine(show zib (zia prog w) _ (zlh (.ref z) 2 >>= _) _ _ s from ?_)
 refine zhv (zix hz rfl (x:=.bool false) rfl ?_)
 refine(show zib (zia prog w) _ (zlh (.ref z) 3 >>= _) _ _ s from ?_)
 refine zhv (zix hz rfl (x:=.ref TI) rfl (zhv (zje hTI rfl ?_)))
 refine(show zib (zia prog w) _ (Builtin.SmallTypes.ownedTupleIsFree (.ref z) >>= _) _ _ s from zhv ?_)
 unfold Builtin.SmallTypes.ownedTupleIsFree
 refine zhv (zix hz rfl (x:=.none) rfl (zid ?_))
 simp only[if_true]
 refine zhv (zms (zhv (zix hz rfl (x:=.ref TO) rfl ?_)))
 refine zhv (zjk hz (by simp) λ g1 z1 b1=>zhv ?_)
 simp only[zgn,zgs,zfn,zfu]
 have z1:zkn g1 z TI TO .ellipsis:=z1
 refine zhv (zhv (zki ?_))
 refine(show zib (zia prog w) _ (Builtin.SmallTypes.nextOf (.ref i1) >>= _) _ _ _ from ?_)
 refine zhv (nextT_end hh (h1.extBut b1.extBut D.i1z) (hl1.extBut b1.extBut D.l1z) hx λ g2 e b2 he=>?_)
 obtain⟨oe,hoe,hce⟩:=he
 have z2:zkn g2 z TI TO .ellipsis:=b2 _ _ D.i1z.symm z1
 have ne:e≠z:=λ q=>by
  subst q
  rw[z2] at hoe
  cases hoe
  simp at hce
 exact zjk z2 (by simp) λ g3 _ b3=>hE g3 e (λ c o c1 c3 q=>b3.extBut _ _ c1 (b2 _ _ c3 (b1.extBut _ _ c1 q))) ⟨oe,b3.extBut _ _ ne hoe,hce⟩
theorem qsd9{Q:Option zhs->zhx->Prop}(D:zli z TI TO i1 i2 l1 l2)(Z:ZipT s.heap z TI TO i1 i2 l1 l2 k)(hl1:s.heap.IsTuple l1 xs)(hl2:s.heap.IsList l2 ys)(hx:xs[k]?=zhq x)(hy:ys[k]?=zhq y)
  (hQ:∀h',zkn h' z TI TO (zky s.heap.objs.size)->zjo h' TI (.ref i1) (.ref i2)->zjo h' TO x y->h'.IsTupleIter i1 l1 (k+1)->h'.IsListIter i2 l2 (k+1)->zjo h' s.heap.objs.size x y->(∀c o,c≠z->c≠TO->c≠i1->c≠i2->s.heap.get? c=zhq o->h'.get? c=zhq o)->Q (zhq (.ref s.heap.objs.size)) { s with heap:=h' }):zib (zia prog w) A (zls (.ref z)) Q E s:=by
 have hT:s.TypeIs (.ref z) "zip" := ⟨_,Z.hz,rfl⟩
 unfold zls
 refine zhv (zkj (zjh hT F.slot_zip_next (zjx F.slot_zip_next hT F.entry_zip_next ?_ (F.args_zip_next_1 _))))
 exact zipT_item (Q:=λ v s'=>zib (zia prog w) A (pure (zhq v)) Q E s') D Z hl1 hl2 hx hy λ h' a1 a2 a3 a4 a5 a6 a7=>zid (hQ h' a1 a2 a3 a4 a5 a6 a7)
theorem nextZ_end{Q:Option zhs->zhx->Prop}(hh:A.handled=zhr)(D:zli z TI TO i1 i2 l1 l2)(Z:ZipT s.heap z TI TO i1 i2 l1 l2 k)(hl1:s.heap.IsTuple l1 xs)(hx:xs[k]?=zhr)
  (hQ:∀h',(∀c o,c≠z->c≠i1->s.heap.get? c=zhq o->h'.get? c=zhq o)->Q zhr { s with heap:=h' }):zib (zia prog w) A (zls (.ref z)) Q E s:=by
 have hT:s.TypeIs (.ref z) "zip" := ⟨_,Z.hz,rfl⟩
 unfold zls
 refine zhv (zkj (zjh hT F.slot_zip_next (zjx F.slot_zip_next hT F.entry_zip_next (zipT_end hh D Z hl1 hx λ h' e hk he=>?_) (F.args_zip_next_1 _))))
 obtain⟨o,ho,hc⟩:=he
 exact zhv (wpAny_isInstance (T := "StopIteration") (b:=true) ⟨o,ho,hc⟩ isSubtype_stop (zid (hQ _ hk)))
abbrev zH1(h:zic)(t:zht):zic:=h.push { cls:=.type "tuple_iterator",data:=.fields #[.ref t,.int 0 0] }
abbrev zH2(h:zic)(t l:zht):zic:=(zH1 h t).push { cls:=.type "list_iterator",data:=.fields #[.ref l,.int 0 0] }
abbrev zH3(h:zic)(t l:zht):zic:=(zH2 h t l).push { cls:=.type "tuple",data:=.seq #[.ref h.objs.size,.ref (zH1 h t).objs.size] }
abbrev zH4(h:zic)(t l:zht):zic:=(zH3 h t l).push { cls:=.type "tuple",data:=.seq #[.none,.none] }
abbrev zH5(h:zic)(t l:zht):zic:=(zH4 h t l).push { cls:=.type "zip",data:=.fields #[.none,.bool false,.bool false,.ref (zH2 h t l).objs.size,.ref (zH3 h t l).objs.size] }
theorem qqp9(t l:zht)(xs ys:Array zhs):zmb (Builtin.«zip.__new__» ⟨[.type "zip",.ref t,.ref l],[]⟩) (λ _ R s=>s.heap.IsTuple t xs/\s.heap.IsList l ys/\R (.ok (.ret (.ref (zH4 s.heap t l).objs.size))) { s with heap:=zH5 s.heap t l }) :=
 .of_wp λ prog w A R s h=>by
  obtain⟨hp,g,d,tk,os⟩:=s
  obtain⟨ht,hl,h⟩:=h
  have hsub:=sub_zip
  have a1:zic.IsTuple (zhx.heap ⟨hp,g,d,tk,os⟩) t xs:=ht
  have a2:zic.IsList (zhx.heap ⟨hp.push { cls:=.type "tuple_iterator",data:=.fields #[.ref t,.int 0 0] },g,d,tk,os⟩) l ys:=zic.IsList.push hl _
  wp_walk using zlu a1,zju a2
  exact⟨_,rfl,h⟩
theorem call_zipT{t l:zht}(ht:s.heap.IsTuple t xs)(hl:s.heap.IsList l ys)
  (h:∀h',ZipT h' (s.heap.objs.size+4) (s.heap.objs.size+2) (s.heap.objs.size+3) s.heap.objs.size (s.heap.objs.size+1) t l 0->(∀c o,s.heap.get? c=zhq o->h'.get? c=zhq o)->Q (.ref (s.heap.objs.size+4)) { s with heap:=h' }) :
  zib (zia prog w) A (call (.type "zip") [.ref t,.ref l]) Q E s:=by
 refine callType_new F.called_zip (by decide) (F.typeCall_zip_2 _ _) (F.newCall_zip_2 _ _) (λ obj=>F.args_object_init_3 obj _ _) F.entry_zip_new (qqp9 t l xs ys) ⟨ht,hl,?_⟩
 have z1:(zH1 s.heap t).objs.size=s.heap.objs.size+1:=zdr ..
 have z2:(zH2 s.heap t l).objs.size=s.heap.objs.size+2:=by rw[zdr,z1]
 have z3:(zH3 s.heap t l).objs.size=s.heap.objs.size+3:=by rw[zdr,z2]
 have z4:(zH4 s.heap t l).objs.size=s.heap.objs.size+4:=by rw[zdr,z3]
 have p:∀{h:zic}{c:zht}{o o':Obj},h.get? c=zhq o->(h.push o').get? c=zhq o:=λ e=>zao _ e
 have g5:(zH5 s.heap t l).get? (zH4 s.heap t l).objs.size=zhq _:=zav _ rfl
 have g4:(zH5 s.heap t l).get? (zH3 s.heap t l).objs.size=zhq _:=p (zav _ rfl)
 have g3:(zH5 s.heap t l).get? (zH2 s.heap t l).objs.size=zhq _:=p (p (zav _ rfl))
 have g2:(zH5 s.heap t l).get? (zH1 s.heap t).objs.size=zhq _:=p (p (p (zav _ rfl)))
 have g1:(zH5 s.heap t l).get? s.heap.objs.size=zhq _:=p (p (p (p (zav _ rfl))))
 rw[z2,z3,z4] at g5
 rw[z1,z2] at g3
 rw[z3] at g4
 rw[z1] at g2
 refine(show _/\_ from ?_)
 rw[z4]
 exact⟨⟨_,g5,rfl⟩,h _ ⟨g5,g3,⟨_,_,g4⟩,⟨_,g1,rfl,rfl⟩,⟨_,g2,rfl,rfl⟩⟩ λ c o e=>p (p (p (p (p e))))⟩
end
def ItzT(K:W.Frag)(a b:zht):It :=
 ⟨λ i H=>∃xs ys x y,SqT K H a xs/\SqL K H b ys/\xs[i]?=zhq x/\ys[i]?=zhq y,
  λ i H v H'=>∃p x y,v=.ref p/\H p=zhr/\H'=upd H p (.tup [x,y])/\(∀xs,SqT K H a xs->xs[i]?=zhq x)/\(∀ys,SqL K H b ys->ys[i]?=zhq y),
  λ i H=>∃xs,SqT K H a xs/\xs.length<=i⟩
theorem turn_zipT{w:zhy}{z TI TO i1 i2:zht}(D:zli z TI TO i1 i2 a b):Turn P w K (.Tuple es kk tp) (ItzT K a b) [z,TI,TO,i1,i2] z (λ i h=>ZipT h z TI TO i1 i2 a b i) where
 mem:=by simp
 obj:=λ i h st c hc=>by
  obtain⟨hz,hTI,⟨x,y,hTO⟩,⟨o1,e1,c1,d1⟩,⟨o2,e2,c2,d2⟩⟩:=st
  simp only[zag,zam,or_false] at hc
  rcases hc with rfl|rfl|rfl|rfl|rfl
  ·exact⟨_,hz,λ v q=>by cases (show Data.fields _=Data.cell v from q)⟩
  ·exact⟨_,hTI,λ v q=>by cases (show Data.seq _ _=Data.cell v from q)⟩
  ·exact⟨_,hTO,λ v q=>by cases (show Data.seq _ _=Data.cell v from q)⟩
  ·exact⟨o1,e1,λ v q=>by rw[d1] at q;cases q⟩
  ·exact⟨o2,e2,λ v q=>by rw[d2] at q;cases q⟩
 keep:=λ i h h' st k=>by
  obtain⟨hz,hTI,⟨x,y,hTO⟩,h1,h2⟩:=st
  exact⟨k z (by simp) _ hz,k TI (by simp) _ hTI,⟨x,y,k TO (by simp) _ hTO⟩,h1.at λ o e=>k i1 (by simp) o e,h2.at λ o e=>k i2 (by simp) o e⟩
 item:=by
  intro X hP hw hK hc i pins s σ H E I hf st hg
  subst hP hw hK
  obtain⟨xs,ys,x,y,hq1,hq2,hx,hy⟩:=hg
  obtain⟨t1,rv1,p1,hz1⟩:=I.tuple hq1
  obtain⟨t2,rv2,p2,hz2⟩:=I.list hq2
  obtain⟨u,hu,ru⟩:=rv1.get hx
  obtain⟨v,hv,rv⟩:=rv2.get hy
  refine qsd9 D st (show s.heap.IsTuple a t1.toArray from p1) p2.isList (x:=u) (y:=v) (by simpa using hu) (by simpa using hv) λ h' a1 a0 a2 a3 a4 a5 k=>?_
  have fresh:H s.heap.objs.size=zhr:=I.hok.fresh (zaq _)
  have hz4:∀c∈[z,TO,i1,i2],c∈[z,TI,TO,i1,i2]:=λ c hc=>by
   simp only[zag,zam,or_false] at hc ⊢
   rcases hc with rfl|rfl|rfl|rfl<;>simp
  have szn:∀c o,s.heap.get? c=zhq o->c≠s.heap.objs.size:=λ c o e=>zbo (zax e)
  have I1:Inv X pins σ (upd H s.heap.objs.size (.tup [x,y])) { s with heap:=h' }:=by
   refine I.turnedL (ch:=[z,TO,i1,i2]) (λ c hc=>hf c (hz4 c hc)) (λ c o hc e=>?_) (λ c o e=>by rw[qao9 (qbe9 e fresh)];exact e) (λ c o e n=>by rw[qao9 (szn c o e)];exact n) λ c o n e=>?_
   ·simp only[zag,zam,or_false,not_or] at hc
    exact k c o hc.1 hc.2.1 hc.2.2.1 hc.2.2.2 e
   ·by_cases ec:c=s.heap.objs.size
    ·rw[ec,qaj9] at e
     cases e
     rw[ec]
     exact⟨by show 2<=zhu;decide,[u,v],.cons ru (.cons rv .nil),_,a5,rfl,_,rfl⟩
    ·rw[qao9 ec,n] at e
     cases e
  refine⟨_,rfl,wpAny_letOwnedTupleGo_zip a1 λ h'' hz'' sb=>?_⟩
  have zf:=hf z (by simp)
  have zs:z≠s.heap.objs.size:=szn z _ st.hz
  have I2:Inv X pins σ (upd H s.heap.objs.size (.tup [x,y])) { s with heap:=h'' }:=Inv.turned (s:={ s with heap:=h' }) (h':=h'') (t':=s.toks) (it:=z) I1 (λ c o hc e=>sb.extBut c o hc e) (by rw[qao9 zs];exact zf.1) zf.2.1 zf.2.2.2.1 zf.2.2.2.2.1 zf.2.2.2.2.2
  refine⟨.ref s.heap.objs.size,_,I2,rfl,⟨_,x,y,rfl,fresh,rfl,λ xs' h=>by rw[I.tuple_inj h hq1];exact hx,λ ys' h=>by rw[I.list_inj h hq2];exact hy⟩,?_,λ c hc=>?_⟩
  ·exact⟨hz'',sb.extBut _ _ D.TIz a0,⟨_,_,sb.extBut _ _ D.TOz a2⟩,a3.extBut sb.extBut D.i1z,a4.extBut sb.extBut D.i2z⟩
  ·have q:c≠s.heap.objs.size:=by
    obtain⟨_,hTI,⟨_,_,hTO⟩,⟨o1,e1,_⟩,⟨o2,e2,_⟩⟩:=st
    simp only[zag,zam,or_false] at hc
    rcases hc with rfl|rfl|rfl|rfl|rfl
    ·exact zs
    ·exact szn _ _ hTI
    ·exact szn _ _ hTO
    ·exact szn _ _ e1
    ·exact szn _ _ e2
   rw[qao9 q]
   exact(hf c hc).1
 done:=by
  intro X hP hw hK hc i pins s σ H E I hf st hg
  subst hP hw hK
  obtain⟨xs,hq1,hl⟩:=hg
  obtain⟨t1,rv1,p1,hz1⟩:=I.tuple hq1
  have l1:=rv1.length
  refine nextZ_end (I.ok.hd hc) D st (show s.heap.IsTuple a t1.toArray from p1) (by simp;omega) λ h' k=>⟨rfl,?_⟩
  refine I.turnedL (ch:=[z,i1]) (λ c hc=>hf c ?_) (λ c o hc e=>?_) (λ c o e=>e) (λ c o e n=>n) λ c o n e=>by rw[n] at e;cases e
  ·simp only[zag,zam,or_false] at hc
   rcases hc with rfl|rfl<;>simp
  ·simp only[zag,zam,or_false,not_or] at hc
   exact k c o hc.1 hc.2 e
 self:=λ _ _ _ _ _ st h=>zmh st.1 h
def iZipT(K:W.Frag)(ta:TA):TI:=λ σ H R=>ta σ H λ vs H1=>∃l1 l2,vs=[.ref l1,.ref l2]/\(∃xs,SqT K H1 l1 xs)/\(∃ys,SqL K H1 l2 ys)/\R (ItzT K l1 l2) H1
theorem pi_zipT{a b:Expr}{ta:TA}(hg:Gl X "zip")(hm:X.mg "zip"=zhr)(ha:PA X [a,b] ta)(hs:zif [a,b] X.env=[(false,zii a X.env),(false,zii b X.env)])(hs2:zif [b] X.env=[(false,zii b X.env)]) :
  PI X (.Tuple es kk tp) (.Call (.Name "zip" p) [a,b] [] pos) (iZipT X.K ta):=by
 intro pins s σ H R I h
 refine zoe (qly9 I hg hm boot_zip (PyProof.Rows.callWith_type1 (thn (ha pos pins s σ H _ I h) λ us s1 ⟨vs,H1,I1,r1,q1⟩=>?_) (by rw[hs,hs2]) (by rw[hs2];rfl)))
 obtain⟨l1,l2,e,⟨xs,hq1⟩,⟨ys,hq2⟩,q⟩:=q1
 subst e
 cases r1 with
 |cons r rr =>
  cases rr with
  |cons r' rr =>
   cases rr
   cases r
   cases r'
   obtain⟨t1,rv1,p1,hz1⟩:=I1.tuple hq1
   obtain⟨t2,rv2,p2,hz2⟩:=I1.list hq2
   have p1:s1.heap.IsTuple l1 t1.toArray:=p1
   have lt1:l1<s1.heap.objs.size:=by obtain⟨_,e,_⟩:=p1;exact zax e
   have lt2:l2<s1.heap.objs.size:=by obtain⟨_,e,_⟩:=p2.isList;exact zax e
   refine call_zipT p1 p2.isList λ h' Z k=>zmh Z.hz ?_
   refine⟨s1.heap.objs.size+4,[s1.heap.objs.size+4,s1.heap.objs.size+2,s1.heap.objs.size+3,s1.heap.objs.size,s1.heap.objs.size+1],_,_,H1,rfl,I1.kept (t':=s1.toks) k,turn_zipT (zipApart_new lt1 lt2),Z,λ c hc=>?_,q⟩
   have ge:s1.heap.objs.size<=c:=by
    simp only[zag,zam,or_false] at hc
    rcases hc with rfl|rfl|rfl|rfl|rfl<;>omega
   exact I1.fpOk ge (I1.hok.fresh ge)
theorem qi_zipT{a b:Expr}{ta:TA}{p pos tp:Pos}{es:List Expr}{kk:Nat}(hg:Gl X "zip")(hm:X.mg "zip"=zhr)(ha:QA X [a,b] ta)(h:qay9 a=true:=by rfl)(h2:qay9 b=true:=by rfl) :
  QI X (.Tuple es kk tp) (.Call (.Name "zip" p) [a,b] [] pos) (iZipT X.K ta):=⟨pi_zipT hg hm ha.run (by rw[se_of h,se_of h2];rfl) (by rw[se_of h2];rfl)⟩
theorem qrq9{xs ys:List V}{tb:TS}{D:Ends}(hn:xs.length=ys.length)(Pv:Nat->St->Hp->Prop)(h0:Pv 0 σ H)(hl:∀i σ H,i<=xs.length->Pv i σ H->SqT K H a xs/\SqL K H b ys)
  (hs:∀i x y p σ H,xs[i]?=zhq x->ys[i]?=zhq y->Pv i σ H->H p=zhr->g (.ref p) σ (upd H p (.tup [x,y])) λ σ2 H2=>tb { D with nx:=Pv (i+1),ct:=Pv (i+1),bk:=D.nx } σ2 H2) (hd:∀σ H,Pv xs.length σ H->D.nx σ H) :
  ∃W:Nat->Nat->St->Hp->Prop,(∃m,W 0 m σ H)/\∀i m σ H,W i m σ H ->
   ((ItzT K a b).stop i H/\D.nx σ H)\/((ItzT K a b).go i H/\∃N:St->Hp->Prop,(∀σ' H',N σ' H'->∃m',m'<m/\W (i+1) m' σ' H')/\∀x H',(ItzT K a b).yld i H x H'->g x σ H' λ σ2 H2=>tb { D with nx:=N,ct:=N,bk:=D.nx } σ2 H2):=by
 refine⟨λ i m σ H=>A3q (m=xs.length-i) (i<=xs.length) (Pv i σ H),⟨xs.length,by simp,zbx _,h0⟩,?_⟩
 intro i m σ H z9;obtain⟨rfl,hi,p⟩ := z9
 obtain⟨q1,q2⟩:=hl i σ H hi p
 by_cases hlt:i<xs.length
 ·have i2:i<ys.length:=⋯
  refine .inr ⟨⟨xs,ys,xs[i],ys[i],q1,q2,by simp[hlt],by simp[i2]⟩,Pv (i+1),λ σ' H' p'=>⟨xs.length-(i+1),⋯,rfl,hlt,p'⟩,λ v H3 y=>?_⟩
  obtain⟨c,x,y,e,fr,e2,y1,y2⟩:=y
  subst e e2
  exact hs i x y c σ _ (y1 xs q1) (y2 ys q2) p fr
 ·have e:i=xs.length:=⋯
  subst e
  exact .inl ⟨⟨xs,q1,zaq _⟩,hd σ H p⟩
theorem ext_tup(l:zht)(items:Array zhs)(n:Nat)(b:zht)(od:Option zht)(items2:Array zhs)(n2:Nat)(sl:Array (Option zhs))(h0:¬(!items.isEmpty&&Builtin.List.listTooLong (items.size+items2.size))=true)(h1:items.size<=zhu)(h2:items.size+items2.size<=zhu+1) :
  zmb (Builtin.«list.extend» ⟨[.ref l,.ref b],[]⟩) (λ _ R s=>s.heap.get? l=zhq ⟨.type "list",zhr,.seq items n,#[]⟩/\s.heap.get? b=zhq ⟨.type "tuple",od,.seq items2 n2,sl⟩/\R (.ok (.ret zhs.none)) { s with heap:=s.heap.update l (Obj.mapSeq λ x=>x++items2),toks:=s.toks }) :=
 .of_wp λ prog w A R s h=>by
  obtain⟨hp,g,d,tk,os⟩:=s
  obtain⟨hl,hb,h⟩:=h
  have f2:=AutoSeq1.sub_tuple_tuple
  have f3:=AutoSeq1.sub_list_list
  have f4:=AutoSeq1.sub_tuple_list
  have f5:=AutoSeq1.sub_list_tuple
  have hz':(items++items2).size<=zhu+1:=by rw[Array.size_append];exact h2
  wp_walk using (zmt hl rfl (hz:=h1) (_hz':=hz')),AutoSeq1.wpAny_loadPart' hl,AutoSeq1.wpAny_loadPart' hb
  exact⟨_,rfl,h⟩
section
variable {to:TE}{t:TA}
inductive rExtT(K:W.Frag)(x:V)(vs:List V)(H:Hp)(Q:VK):Prop
 |mk (l:_) (b:_) (xs:_) (zs:_):x=.ref l->vs=[.ref b]->H l=zhq (.lst xs)->SqT K H b zs->xs.length+zs.length<=zhu->Q .non (upd H l (.lst (xs++zs)))->rExtT K x vs H Q
theorem mt_extT:MtM X "list.extend" (rExtT X.K):=by
 intro pins s σ H x vs v us Q I rx rv h
 obtain⟨l,b,xs,zs,rfl,rfl,hH,hB,hz,q⟩:=h
 cases rx
 obtain⟨u,rfl,ru⟩:=rv.one
 cases ru
 obtain⟨z,its,n,r,hl,e⟩:=I.lstM hH
 obtain⟨its2,r2,⟨⟨c2,od,dt,sl⟩,e2,hc2,n2,hd2⟩,z2⟩:=I.tuple hB
 simp only at hc2 hd2
 subst hc2 hd2
 have hl2:=r2.length
 have hsz:its.toArray.size+its2.toArray.size<=zhu:=by rw[zaw,zaw];omega
 have hlong:¬(!its.toArray.isEmpty&&Builtin.List.listTooLong (its.toArray.size+its2.toArray.size))=true:=by
  rw[notLongL hsz,zgx]
  exact zay
 refine zja F.slot_list_extend ⟨_,e,rfl⟩ F.entry_list_extend (F.args_list_extend_2 _ _) (ext_tup l its.toArray n b od its2.toArray n2 sl hlong (by rw[zaw];omega) ⋯) ⟨e,e2,?_⟩
 refine⟨.non,_,I.lset (its':=its++its2) hH e (by simp) (r.append r2) ?_,rfl,q⟩
 rw[zap]
 omega
theorem qe_extT(ho:QE X o to)(ha:QA X [e] t)(h:qay9 e=true:=by rfl)(hbase:zin o "extend" X.env (zii o X.env)=zii o X.env:=by rfl)(hline:(apos.endLine==pos.line)=true:=by rfl) :
  QE X (.Call (.Attribute o "extend" apos) [e] [] pos) (tBM X.K "list" (rExtT X.K) to t) :=
 ⟨pe_bm PySem.F.plainAttrs_list PySem.F.slot_list_extend PySem.F.type_list_extend mt_extT ho.run ha.run hbase (by rw[se_of h];rfl) hline (se_of h) rfl⟩
inductive rStarts(x:V)(vs:List V)(H:Hp)(Q:VK):Prop
 |mk (z y:Str):x=.str z->vs=[.str y]->Q (.bl (Txt.startswith z y)) H->rStarts x vs H Q
theorem mt_starts:MtR X "str.startswith" rStarts:=by
 intro pins s σ H x vs v us Q I rx rv h
 obtain⟨z,y,rfl,rfl,q⟩:=h
 obtain⟨t,rfl⟩:=rx
 obtain⟨u',rfl,u,rfl⟩:=vals1 rv
 exact SC.startswith ⟨.bl _,H,I,rfl,q⟩
theorem qok9(ho:QE X o to)(ha:QA X [e] t)(h:qay9 e=true:=by rfl)(hbase:zin o "startswith" X.env (zii o X.env)=zii o X.env:=by rfl)(hline:(apos.endLine==pos.line)=true:=by rfl) :
  QE X (.Call (.Attribute o "startswith" apos) [e] [] pos) (tBM X.K "str" rStarts to t) :=
 ⟨pe_bm PySem.F.plainAttrs_str PySem.F.slot_str_startswith PySem.F.type_str_startswith mt_starts ho.run ha.run hbase (by rw[se_of h];rfl) hline (se_of h) rfl⟩
end
structure KDict(K:W.Frag)(P:zis)(a:zht)(kvs:List (Str×Tok×zhs)):Prop where
 at_:∃ep,K.lookup a=zhq ⟨.type "dict",zhr,.dict (kvs.map λ q=>(⟨zhw.keyHash P q.1,.str q.1 q.2.1,q.2.2⟩:zjy)).toArray ep,#[]⟩
 nd:(kvs.map (·.1)).Nodup
 ns:(a==zkm)=false
def kdVal(kvs:List (Str×Tok×zhs))(x:Str):Option zhs:=(kvs.find? λ q=>decide (q.1=x)).map (·.2.2)
theorem kd_val(x:Str):∀kvs:List (Str×Tok×zhs),zke (kvs.map λ q=>((Sum.inr q.1:Key),q.2.2)) (Sum.inr x)=kdVal kvs x
 | []=>rfl
 |q::kvs=>by
  have ih:=kd_val x kvs
  unfold zke kdVal at *
  rw[zbh,zcf,zcf]
  by_cases e:q.1=x
  ·simp[e]
  ·have e':¬((Sum.inr q.1:Key)=Sum.inr x):=λ z=>e (by injection z)
   simp only[decide_eq_false e,decide_eq_false e']
   exact ih
section
variable {kvs:List (Str×Tok×zhs)}
theorem KDict.of(h:KDict X.K X.w.params a kvs)(I:Inv X pins σ H s):s.heap.DictOf (qih9 X.prog X.w) a (kvs.map λ q=>((Sum.inr q.1:Key),q.2.2)):=by
 obtain⟨⟨ep,e⟩,nd,_⟩:=h
 refine⟨_,_,ep,I.kIn a _ e,⟨rfl,rfl,rfl⟩,rfl,λ x hx=>?_,?_,?_⟩
 ·obtain⟨q,_,rfl⟩:=zas.mp (List.mem_toArray.mp hx)
  exact⟨Sum.inr q.1,qhf9 _ _ _ _,rfl⟩
 ·rw[List.toList_toArray]
  clear e nd
  induction kvs with
  |nil=>exact .nil
  |cons q kvs ih=>exact .cons (qhf9 _ _ _ _) rfl ih
 ·rw[zcl]
  have:((λ x:Key×zhs=>x.1)∘λ q:Str×Tok×zhs=>((Sum.inr q.1:Key),q.2.2))=Sum.inr∘λ q:Str×Tok×zhs=>q.1:=rfl
  rw[this,<- zcl]
  exact List.Pairwise.map _ (λ _ _ h z=>h (by injection z)) nd
end
section
variable {n:Str}{kvs:List (Str×Tok×zhs)}
def tKGet(kvs:List (Str×Tok×zhs))(ty:TE):TE:=λ σ H Q=>ty σ H λ y H1=>∃x u v,y=.str x/\kdVal kvs x=zhq u/\RelV v u/\Q v H1
def tKGet1(kvs:List (Str×Tok×zhs))(ty:TE):TE:=λ σ H Q=>ty σ H λ y H1=>∃x v,y=.str x/\RelV v ((kdVal kvs x).getD .none)/\Q v H1
theorem pe_kget(hD:KDict X.K X.w.params a kvs)(hg:Gl X n)(hm:X.mg n=zhq (.ref a))(hi:PE X i ty)(hs:NoSl i)(hd:(n==("__debug__":Str))=false):PE X (.Subscript (.Name n p) i pos) (tKGet kvs ty):=by
 intro pins s σ H Q I h
 refine subD_of PySem.F.slot_dict_getitem.lookup hs (thn (qlg9 (v:=.ref a) hg hm rfl hd pins s σ H (λ v H'=>v=.ref a/\H'=H) I ⟨rfl,rfl⟩) λ u s1 z9=>?_)
 obtain⟨x,H1,I1,rx,ex,eH⟩ := z9
 subst ex eH
 obtain rfl:u=zhs.ref a:=rx
 refine thn (hi pins s1 σ H1 _ I1 h) λ iv s2 z9=>?_
 obtain⟨y,H2,I2,ry,x,u,v,ey,hv,rv,q⟩ := z9
 subst ey
 have dd:=hD.of I2
 refine⟨dd.typeIs,wpAny_getItem_of (kV_is (k:=Sum.inr x) ry) dd.mapOf (kd_val x kvs ▸ hv) ⟨v,H2,I2.tok _,rv,q⟩⟩
theorem pe_kget1(hD:KDict X.K X.w.params a kvs)(hg:Gl X n)(hm:X.mg n=zhq (.ref a))(he:PE X e ty)(m:M1 X (.Name n p) "get" apos e cpos)(hd:(n==("__debug__":Str))=false):PE X (.Call (.Attribute (.Name n p) "get" apos) [e] [] cpos) (tKGet1 kvs ty):=by
 intro pins s σ H Q I h
 refine wpAny_Call_method m.base m.few m.line PySem.F.plainAttrs_dict PySem.F.slot_dict_get PySem.F.type_dict_get (thn (qlg9 (v:=.ref a) hg hm rfl hd pins s σ H (λ v H'=>v=.ref a/\H'=H) I ⟨rfl,rfl⟩) λ u s1 z9=>?_)
 obtain⟨x,H1,I1,rx,ex,eH⟩ := z9
 subst ex eH
 obtain rfl:u=zhs.ref a:=rx
 have d1:=hD.of I1
 refine⟨d1.typeIs,d1.mapOf.noDict,?_⟩
 rw[m.trees]
 refine Calls.callWith_builtin rfl (Calls.evalArgs_plain (Calls.spliced_cons (thn (he pins s1 σ H1 _ I1 h) λ iv s2 ⟨y,H2,I2,ry,x,v,ey,rv,q⟩=>Calls.spliced_nil ?_)))
 subst ey
 have dd:=hD.of I2
 refine call_meetsIn PySem.F.slot_dict_get dd.typeIs PySem.F.entry_dict_get (PySem.F.args_dict_get_2 _ _) (meets_dict_get (qih9 X.prog X.w) a (kV_is (k:=Sum.inr x) ry) hD.ns) ⟨_,dd.mapOf,v,H2,I2.tok _,?_,q⟩
 rw[kd_val]
 exact rv
theorem qe_kget(hD:KDict X.K X.w.params a kvs)(hg:Gl X n)(hm:X.mg n=zhq (.ref a))(hi:QE X i ty)(hs:NoSl i)(hd:(n==("__debug__":Str))=false:=by decide):QE X (.Subscript (.Name n p) i pos) (tKGet kvs ty):=⟨pe_kget hD hg hm hi.run hs hd⟩
theorem qqg9(hD:KDict X.K X.w.params a kvs)(hg:Gl X n)(hm:X.mg n=zhq (.ref a))(he:QE X e ty)(m:M1 X (.Name n p) "get" apos e cpos)(hd:(n==("__debug__":Str))=false:=by decide):QE X (.Call (.Attribute (.Name n p) "get" apos) [e] [] cpos) (tKGet1 kvs ty):=⟨pe_kget1 hD hg hm he.run m hd⟩
end
def Ans(P:zih)(w:zhy)(K:W.Frag)(mg:Str->Option zhs)(base:zic)(CX:CXT)(k:Nat)(ps:List Str)(f:zht)(sp:Sp):Prop:=∃fd,FnOk P w K mg base CX k f fd ps sp/\Binds K fd ps []/\∃oc od sl,K.lookup f=zhq ⟨oc,od,.func fd,sl⟩
inductive tAns(i:Nat)(L:List (zht×Sp))(E:XK)(t:TA)(σ:St)(H:Hp)(Q:VK):Prop
 |mk (f:_) (sp:_):(f,sp)∈L->σ[i]?=zhq (zhq (.ref f))->(t σ H λ vs H1=>sp (vs++[]) H1 Q E)->tAns i L E t σ H Q
section
variable {k:Nat}{L:List (zht×Sp)}{E:XK}{CX:CXT}{t:TA}
theorem pe_ans(i:Nat)(G:∀q∈L,Ans X.prog X.w X.K X.mg X.base CX k ps q.1 q.2)(hr:Room k X.A)(hx:qjb9 CX X E)(ha:PA X (e::es) t)(hN:X.N[i]?=zhq x)
  (hv:Vis X.env.scope x) (hd:(x==("__debug__":Str))=false) (hcd:(x==("__classdict__":Str))=false)
  (he:zif (e::es) X.env=(false,zii e X.env)::zif es X.env) (hpl:(ziu pos (zif es X.env)).any (·.1)=false) :
  PE X (.Call (.Name x p) (e::es) [] pos) (tAns i L E t):=by
 intro pins s σ H Q I h
 obtain⟨f,sp,hm,hσ,h⟩:=h
 obtain⟨fd,F,hb,oc,od,sl,lk⟩:=G _ hm
 have fa:∀{H':Hp}{s':zhx},Inv X pins σ H' s'->W.FnAt f s'.heap:=λ J=>⟨oc,od,fd,sl,J.kIn _ _ lk⟩
 refine zjb (thn (pe_var (pos:=p) hN hv hd hcd pins s σ H (λ v H'=>v=.ref f/\H'=H) I ⟨_,hσ,rfl,rfl⟩) λ u s1 z9=>?_)
 obtain⟨v,H',I1,r,e1,e2⟩ := z9
 subst e1 e2
 cases r
 refine W.callWith_F (fa I1) (thn (ha pos pins s1 σ H' _ I1 h) λ us s2 ⟨vs,H2,I2,r2,q⟩=>⟨fa I2,?_⟩) he hpl
 exact run_fn F hr hb .nil hx I2 r2 q
theorem qe_ans(i:Nat)(G:∀q∈L,Ans X.prog X.w X.K X.mg X.base CX k ps q.1 q.2)(hr:Room k X.A)(hx:qjb9 CX X E)(ha:QA X (e::es) t)(hN:X.N[i]?=zhq x:=by rfl)
  (hv:Vis X.env.scope x:=by first|exact zai rfl|exact zfm (zai rfl)|exact zfm (zfm rfl)) (hd:(x==("__debug__":Str))=false:=by decide) (hcd:(x==("__classdict__":Str))=false:=by decide)
  (h:qay9 e=true:=by rfl) (hpl:es.all qay9=true:=by rfl) :
  QE X (.Call (.Name x p) (e::es) [] pos) (tAns i L E t):=⟨pe_ans i G hr hx ha.run hN hv hd hcd (se_of h) (qky9 hpl)⟩
theorem Ans.up{w:zhy}{f:zht}(h:Ans P w K mg base CX j ps f sp)(hj:j<=k):Ans P w K mg base CX k ps f sp:=by
 obtain⟨fd,F,r⟩:=h
 exact⟨fd,F.mono hj,r⟩
end
section
variable {f:Str}{ta:TE}
theorem qnw9(K:W.Frag)(hK:X.K=K)(he:QE X e ta)(hb:zin e f X.env (zii e X.env)=zii e X.env:=by rfl):QE X (.Attribute e f pos) (tFld K ta f):=by
 subst hK
 exact qkt9 he hb
theorem qrc9(K:W.Frag)(hK:X.K=K):QOp X (zig .In) (rIn K false):=by
 subst hK
 exact⟨qnu9⟩
theorem qop_inL:QOp X (zig .In) (rIn X.K false):=⟨qnu9⟩
end
theorem for_str{tb:TS}{D:Ends}(Pv:Nat->St->Hp->Prop)(h0:Pv 0 σ H)
  (hs:∀i c σ H,x.cps[i]?=zhq c->Pv i σ H->g (.str ⟨#[c]⟩) σ H λ σ2 H2=>tb { D with nx:=Pv (i+1),ct:=Pv (i+1),bk:=D.nx } σ2 H2) (hd:∀σ H,Pv x.length σ H->D.nx σ H) :
  ∃W:Nat->Nat->St->Hp->Prop,(∃m,W 0 m σ H)/\∀i m σ H,W i m σ H ->
   ((Its x).stop i H/\D.nx σ H)\/((Its x).go i H/\∃N:St->Hp->Prop,(∀σ' H',N σ' H'->∃m',m'<m/\W (i+1) m' σ' H')/\∀v H',(Its x).yld i H v H'->g v σ H' λ σ2 H2=>tb { D with nx:=N,ct:=N,bk:=D.nx } σ2 H2):=by
 refine⟨λ i m σ H=>A3q (m=x.length-i) (i<=x.length) (Pv i σ H),⟨x.length,by simp,zbx _,h0⟩,?_⟩
 intro i m σ H z9;obtain⟨rfl,hi,p⟩ := z9
 by_cases hlt:i<x.length
 ·refine .inr ⟨hlt,Pv (i+1),λ σ' H' p'=>⟨x.length-(i+1),⋯,rfl,hlt,p'⟩,λ v H3 y=>?_⟩
  obtain⟨rfl,c,hc,rfl⟩:=y
  have:=hs i c σ H3 hc p
  refine(?_:g _ _ _ _)
  exact this
 ·have e:i=x.length:=⋯
  subst e
  exact .inl ⟨rfl,hd σ H p⟩
section
variable {w:zhy}{h1 h2:zic}{o:HO}
theorem ObjOk.there(x:ObjOk P w H h a o):∃ob,h.get? a=zhq ob:=by
 cases o with
 |lst xs=>obtain⟨_,_,_,_,e⟩:=x;exact⟨_,e⟩
 |tup xs=>obtain⟨_,_,_,ob,e,_⟩:=x;exact⟨_,e⟩
 |dK kvs=>obtain⟨_,_,_,_,o,_,_,e,_⟩:=x;exact⟨_,e⟩
 |dT kvs=>obtain⟨_,_,_,_,o,_,_,e,_⟩:=x;exact⟨_,e⟩
 |set S n=>obtain⟨o,_,_,_,e,_⟩:=x;exact⟨_,e⟩
 |ins C dx fs=>obtain⟨_,_,_,e,_⟩:=x;exact⟨_,e⟩
 |own y=>exact x
 |xd fs=>obtain⟨_,⟨_,_,_,e,_⟩,_⟩:=x;exact⟨_,e⟩
 |rng lo hi=>obtain⟨_,_,_,e⟩:=x;exact⟨_,e⟩
 |frz ob u=>obtain⟨e,_⟩:=x;exact⟨_,e⟩
 |tbl ps=>exact⟨_,show h.get? a=zhq _ from x⟩
 |met f y=>exact⟨_,show h.get? a=zhq _ from x⟩
 |ext φ=>obtain⟨_,e,_⟩:=x;exact e
theorem HOk.gone(x:HOk P w H h)(e:h.get? a=zhr):H a=zhr:=by
 cases q:H a with
 |none=>rfl
 |some o =>
  obtain⟨ob,z⟩:=(x a o q).there
  rw[e] at z
  cases z
end
def hides:List zht->zic->zic
 | [],h=>h
 |a::l,h=>(hides l h).hide a
theorem qfb9{b:zht}{h:zic}:∀{l:List zht},b∈l->(hides l h).get? b=zhr
 |a::l,hb=>by
  show((hides l h).hide a).get? b=zhr
  by_cases e:b=a
  ·rw[e];exact zic.hide_self _ _
  ·rw[zhg _ e]
   exact qfb9 ((zag.mp hb).resolve_left e)
theorem qid9{b:zht}{h:zic}:∀{l:List zht},b∉l->(hides l h).get? b=h.get? b
 | [],_=>rfl
 |a::l,hb=>by
  show((hides l h).hide a).get? b=_
  have ne:b≠a:=λ e=>hb (by rw[e];exact zan)
  rw[zhg _ ne]
  exact qid9 λ z=>hb (zal _ z)
theorem qgc9{l:List zht}:zic.StaysIn (hides l h) h:=λ b o e=>by
 by_cases hb:b∈l
 ·rw[qfb9 hb] at e;cases e
 ·rw[qid9 hb] at e;exact e
theorem qfr9{h h1 base:zic}{L:List zht}:∀{l:List Env},h.FunFrames base l->(∀b∈frs l,b∈L)->(∀b o,b∈frs l->h.get? b=zhq o->∃sl,h1.get? b=zhq { o with slots:=sl })->h1.FunFrames (hides L h1) l
 | [],_,_,_=>trivial
 |env::r,hl,hs,k=>by
  obtain⟨hk,⟨L',o,hf,hn,ho,hd⟩,hr⟩:=hl
  have hL:L'∈frs (env::r):=by unfold frs;rw[zda,hf];exact zan
  have sub:∀b∈frs r,b∈frs (env::r):=λ b hb=>by unfold frs;rw[zda,hf];exact zal _ hb
  obtain⟨sl,e⟩:=k L' o hL ho
  exact⟨hk,⟨L',_,hf,qfb9 (hs L' hL),e,hd⟩,qfr9 hr (λ b hb=>hs b (sub b hb)) λ b o hb=>k b o (sub b hb)⟩
def Fly(h:zic)(H':Hp)(h1:zic)(a:zht)(cls:zhs):Prop:=h.get? a=zhr/\H' a=zhr/\∃oe vs T oT ts a0,h1.get? a=zhq oe/\oe.cls=cls/\vs[0]?=zhq a0/\oe.data=.fields vs/\vs[1]?=zhq (.ref T)/\T≠a/\h1.get? T=zhq oT/\oT.data=.fields ts/\ts[3]?=zhq .none/\H' T=zhr/\h.get? T=zhr
def CXE(P:zih)(w:zhy):CXT:=λ stk H s E e s'=>∃a cls H',e=.ref a/\s'.os=s.os/\zjl s'.gens/\Un (frs stk) [] H H' s.heap s'.heap/\HOk P w H' s'.heap/\Fly s.heap H' s'.heap a cls/\E cls zhr H'
section
variable {w:zhy}{h1 h2:zic}{stk:List Env}{l:List zht}{cls:zhs}
theorem qnk9(u:Un (frs stk) [] H H' h h1)(ok:HOk P w H' h1)(st:zic.StaysIn (hides l h1) h2)(sl:∀b o,h1.get? b=zhq o->(∀vs,o.data ≠ .fields vs)->∃sl,h2.get? b=zhq { o with slots:=sl })
  (fr:h.FunFrames base stk) (ff:∀b∈frs stk,H b=zhr) (hl:∀b∈l,b∈frs stk\/(h.get? b=zhr/\H' b=zhr)):Un (frs stk) [] H H' h h2/\HOk P w H' h2:=by
 have fk:∀b∈frs stk,∃o,h.get? b=zhq o/\∀vs,o.data ≠ .fields vs:=λ b hb=>(fr.mem hb).2
 have ff':∀b∈frs stk,H' b=zhr:=λ b hb=>by
  obtain⟨o,ho,_⟩:=fk b hb
  exact u.free b o ho (ff b hb) (by simp)
 have stay:∀b o,b∉l->h1.get? b=zhq o->h2.get? b=zhq o:=λ b o hb e=>st b o (by rw[qid9 hb];exact e)
 refine⟨⟨λ b o e n hb _=>?_,λ b o e n hb _=>?_,u.free,λ b o e hx=>?_,u.tups,u.frzs,u.tbls⟩,λ b o e=>?_⟩
 ·refine stay b o (λ z=>?_) (u.keep b o e n hb (by simp))
  rcases hl b z with z|z
  ·exact hb z
  ·rw[z.1] at e;cases e
 ·obtain⟨s1,e1⟩:=u.slot b o e n hb (by simp)
  obtain⟨o',e',d'⟩:=fk b hb
  rw[e] at e'
  cases e'
  obtain⟨s2,e2⟩:=sl b _ e1 d'
  exact⟨s2,e2⟩
 ·obtain⟨o',e'⟩:=u.there b o e hx
  by_cases hb:b∈l
  ·rcases hl b hb with z|z
   ·obtain⟨s1,e1⟩:=u.slot b o e (ff b z) z (by simp)
    obtain⟨o2,e2,d2⟩:=fk b z
    rw[e] at e2
    cases e2
    obtain⟨s2,e2⟩:=sl b _ e1 d2
    exact⟨_,e2⟩
   ·rw[z.1] at e;cases e
  ·exact⟨_,stay b o' hb e'⟩
 ·refine(ok b o e).stay (λ c v hc q=>stay c v (λ z=>?_) q) (λ _ q=>q) λ _ _ q=>q
  have hn:H' c=zhr:=by
   rcases hl c z with z|z
   ·exact ff' c z
   ·exact z.2
  rcases hc with rfl|hc
  ·rw[hn] at e;cases e
  ·rw[hn] at hc;cases hc
theorem qjv9{a0:zhs}(ok:HOk P w H' h1)(hn:h.get? a=zhr)(hn':H' a=zhr)(sl:∀b o,h1.get? b=zhq o->(∀vs,o.data ≠ .fields vs)->∃sl,h2.get? b=zhq { o with slots:=sl })
  (hl:∀b∈l,(∃o,h1.get? b=zhq o/\∀vs,o.data ≠ .fields vs)\/(h.get? b=zhr/\H' b=zhr)) (th:∀b o,h.get? b=zhq o->∃o',h1.get? b=zhq o')
  (tr:zic.TracedW h2 (hides l h1) a cls a0):Fly h H' h2 a cls:=by
 obtain⟨oe,vs,T,oT,ts,e1,⟨e2,e3⟩,e4,e5,e6,e7,e8,e9,e10⟩:=tr
 have key:h.get? T=zhr/\H' T=zhr:=by
  by_cases hT:T∈l
  ·rcases hl T hT with⟨o,z1,z2⟩|z
   ·obtain⟨s1,q⟩:=sl T o z1 z2
    rw[e8] at q
    cases q
    exact absurd e9 (z2 ts)
   ·exact z
  ·rw[qid9 hT] at e6
   refine⟨?_,ok.gone e6⟩
   cases q:h.get? T with
   |none=>rfl
   |some o =>
    obtain⟨o',q'⟩:=th T o q
    rw[e6] at q'
    cases q'
 exact⟨hn,hn',oe,vs,T,oT,ts,a0,e1,e2,e3,e4,e5,e7,e8,e9,e10,key.2,key.1⟩
end
section
variable {E:XK}{e:zhs}
structure Own(X:Cx):Prop where
 stk:X.stack=X.env::X.outer
 fr:X.env.frame=zhq X.env.locals
 ex:X.ex=[]
theorem qpn9(I:Inv X pins σ H s)(c:CXE X.prog X.w X.stack H s E e s')(O:Own X)(A:zil)(hA:A.frames=zhq X.stack) :
  zib (zia X.prog X.w) A (leaving X.env e) (λ _ s''=>CXE X.prog X.w X.stack H s E e s'') E' s':=by
 obtain⟨a,cls,H',rfl,os,bare,un,ok,⟨hn,hn',oe,vs,T,oT,ts,a0,e1,e2,e3,e4,e5,e6,e7,e8,e9,e10,e11⟩,q⟩:=c
 have fr:=I.stack
 have fk:∀b∈frs X.stack,∃o,s.heap.get? b=zhq o/\∀vs,o.data ≠ .fields vs:=λ b hb=>(fr.mem hb).2
 have fs:∀b o,b∈frs X.stack->s.heap.get? b=zhq o->∃sl,s'.heap.get? b=zhq { o with slots:=sl }:=λ b o hb e=>un.slot b o e (I.stkFree b hb) hb (by simp)
 have fr':s'.heap.FunFrames (hides (a::T::frs X.stack) s'.heap) X.stack:=qfr9 fr (λ b hb=>by simp[hb]) fs
 refine wpAny_leaving_nextW (base:=hides (a::T::frs X.stack) s'.heap) (cls:=cls) (a0:=a0) (by rw[hA,O.stk]) (by rw[<- O.stk];exact fr') O.fr ⟨oe,vs,T,oT,ts,e1,⟨e2,e3⟩,e4,e5,qfb9 (by simp),e6,e7,e8,e9⟩ qgc9 (qfb9 (by simp)) λ h2 L=>?_
 obtain⟨st,_,tr,sl⟩:=L
 have hl:∀b∈a::T::frs X.stack,b∈frs X.stack\/(s.heap.get? b=zhr/\H' b=zhr):=λ b hb=>by
  rcases zag.mp hb with rfl|hb
  ·exact .inr ⟨hn,hn'⟩
  ·rcases zag.mp hb with rfl|hb
   ·exact .inr ⟨e11,e10⟩
   ·exact .inl hb
 obtain⟨u2,ok2⟩:=qnk9 un ok st sl fr I.stkFree hl
 refine⟨a,cls,H',rfl,os,bare,u2,ok2,qjv9 ok hn hn' sl (λ b hb=>?_) (λ b o e=>un.there b o e (by simp)) tr,q⟩
 rcases hl b hb with z|z
 ·obtain⟨o,z1,z2⟩:=fk b z
  obtain⟨s1,z3⟩:=fs b o z z1
  exact .inl ⟨_,z3,z2⟩
 ·exact .inr z
theorem qsj9{C:zhs}{us:List zhs}{x:zht}{h':zic}(I:Inv X pins σ H s)(m:zic.MadeExcOf s.heap h' x C us)(O:Own X)(A:zil)(hA:A.frames=zhq X.stack)(q:E C zhr H) :
  zib (zia X.prog X.w) A (leaving X.env (.ref x)) (λ _ s''=>CXE X.prog X.w X.stack H s E (.ref x) s'') E' { s with heap:=h' }:=by
 obtain⟨t,e1,e2,e3⟩:=m.there
 have hn:=m.new
 have fr:=I.stack
 have hn':H x=zhr:=I.hok.gone hn
 have fk:∀b∈frs X.stack,∃o,s.heap.get? b=zhq o/\∀vs,o.data ≠ .fields vs:=λ b hb=>(fr.mem hb).2
 have un:Un (frs X.stack) [] H H s.heap h':=Un.kept m.keeps
 have ok:HOk X.prog X.w H h':=I.hok.kept m.keeps
 have fs:∀b o,b∈frs X.stack->s.heap.get? b=zhq o->∃sl,h'.get? b=zhq { o with slots:=sl }:=λ b o hb e=>⟨o.slots,m.keeps b o e⟩
 have fr':h'.FunFrames (hides (x::frs X.stack) h') X.stack:=qfr9 fr (λ b hb=>by simp[hb]) fs
 refine wpAny_leaving_firstW (base:=hides (x::frs X.stack) h') (by rw[hA,O.stk]) (by rw[<- O.stk];exact fr') O.fr e1 qgc9 (qfb9 (by simp)) rfl rfl rfl λ h2 L=>?_
 obtain⟨st,_,tr,sl⟩:=L
 have hl:∀b∈x::frs X.stack,b∈frs X.stack\/(s.heap.get? b=zhr/\H b=zhr):=λ b hb=>by
  rcases zag.mp hb with rfl|hb
  ·exact .inr ⟨hn,hn'⟩
  ·exact .inl hb
 obtain⟨u2,ok2⟩:=qnk9 un ok st sl fr I.stkFree hl
 refine⟨x,C,H,rfl,rfl,I.bare,u2,ok2,qjv9 ok hn hn' sl (λ b hb=>?_) (λ b o e=>⟨o,m.keeps b o e⟩) tr,q⟩
 rcases hl b hb with z|z
 ·obtain⟨o,z1,z2⟩:=fk b z
  exact .inl ⟨_,m.keeps _ _ z1,z2⟩
 ·exact .inr z
theorem cx_drop(I:Inv X pins σ H s)(c:CXE X.prog X.w X.stack H s E e s')(O:Own X):CXE X.prog X.w X.outer X.H₀ X.s₀ E e s':=by
 obtain⟨a,cls,H',rfl,os,bare,un,ok,⟨hn,hn',oe,vs,T,oT,ts,a0,e1,e2,e3,e4,e5,e6,e7,e8,e9,e10,e11⟩,q⟩:=c
 have J:Inv X pins σ H' s':=I.call' os un ok bare λ b z=>absurd z (by simp)
 have b:=J.base
 rw[O.ex] at b
 have old:∀b,s.heap.get? b=zhr->X.s₀.heap.get? b=zhr:=λ b z=>by
  cases q:X.s₀.heap.get? b with
  |none=>rfl
  |some o =>
   obtain⟨o',q'⟩:=I.base.there b o q (by rw[O.ex];simp)
   rw[z] at q'
   cases q'
 exact⟨a,cls,H',rfl,J.os,bare,b,ok,⟨old a hn,hn',oe,vs,T,oT,ts,a0,e1,e2,e3,e4,e5,e6,e7,e8,e9,e10,old T e11⟩,q⟩
end
abbrev cxE(P:zih)(w:zhy)(K:W.Frag)(mg:Str->Option zhs)(base:zic)(N:List Str)(qual:Str)(scope:zjc)(f:zht)(cd:zhs)(A:zil)(outer:List Env)(s:zhx)(H:Hp)(E:XK):Cx:=cxOf (CXE P w) P w K mg base N qual scope f cd A outer s H E
section
variable {w:zhy}{N:List Str}{qual:Str}{scope:zjc}{f:zht}{cd:zhs}{outer:List Env}{E:XK}
theorem qon9:Own (cxE P w K mg base N qual scope f cd A outer s H E):=⟨rfl,rfl,rfl⟩
theorem passE:qjb9 (CXE P w) (cxE P w K mg base N qual scope f cd A outer s H E) E:=λ pins σ H1 s1 e s' I c =>
 zio (qpn9 (E':=λ _ _=>False) I c qon9 _ I.ok.frames) (λ _ _ c2=>cx_drop I c2 qon9) λ _ _ z=>z.elim
def Makes(X:Cx)(E:XK):Prop:=∀(pins:List (zht×Obj)) (σ:St) (H:Hp) (s:zhx) (C:zhs) (us:List zhs) (x:zht) (h':zic),Inv X pins σ H s->zic.MadeExcOf s.heap h' x C us->E C zhr H->X.xe (.ref x) { s with heap:=h' }
theorem makeE:Makes (cxE P w K mg base N qual scope f cd A outer s H E) E:=λ pins σ H1 s1 C us x h' I m q =>
 zio (qsj9 (E':=λ _ _=>False) I m qon9 _ I.ok.frames q) (λ _ _ c2=>cx_drop I c2 qon9) λ _ _ z=>z.elim
end
section
variable {E:XK}{e:zhs}
theorem qpe9{Q:Unit->zhx->Prop}(I:Inv X pins σ H s)(c:CXE X.prog X.w X.stack H s E e s')(q:∀s'',CXE X.prog X.w X.stack H s E e s''->Q () s'') :
  zib (zia X.prog X.w) A (setFlight e zhr) Q E' s':=by
 obtain⟨a,cls,H',rfl,os,bare,un,ok,⟨hn,hn',oe,vs,T,oT,ts,a0,e1,e2,e3,e4,e5,e6,e7,e8,e9,e10,e11⟩,z⟩:=c
 have fr:=I.stack
 have fk:∀b∈frs X.stack,∃o,s.heap.get? b=zhq o/\∀vs,o.data ≠ .fields vs:=λ b hb=>(fr.mem hb).2
 have fs:∀b o,b∈frs X.stack->s.heap.get? b=zhq o->∃sl,s'.heap.get? b=zhq { o with slots:=sl }:=λ b o hb e=>un.slot b o e (I.stkFree b hb) hb (by simp)
 have fr':s'.heap.FunFrames (hides (a::T::frs X.stack) s'.heap) X.stack:=qfr9 fr (λ b hb=>by simp[hb]) fs
 have hl:∀b∈a::T::frs X.stack,b∈frs X.stack\/(s.heap.get? b=zhr/\H' b=zhr):=λ b hb=>by
  rcases zag.mp hb with rfl|hb
  ·exact .inr ⟨hn,hn'⟩
  ·rcases zag.mp hb with rfl|hb
   ·exact .inr ⟨e11,e10⟩
   ·exact .inl hb
 refine zla (base:=hides (a::T::frs X.stack) s'.heap) (cls:=cls) (a0:=a0) (fl:=.none) qgc9 fr' ⟨oe,vs,T,oT,ts,e1,⟨e2,e3⟩,e4,e5,qfb9 (by simp),e6,e7,e8,e9⟩ λ h2 st _ tr k=>q _ ?_
 have sl:∀b o,s'.heap.get? b=zhq o->(∀vs,o.data ≠ .fields vs)->∃sl,h2.get? b=zhq { o with slots:=sl }:=λ b o z1 z2=>⟨o.slots,k b o z1 z2⟩
 obtain⟨u2,ok2⟩:=qnk9 un ok st sl fr I.stkFree hl
 refine⟨a,cls,H',rfl,os,bare,u2,ok2,qjv9 ok hn hn' sl (λ b hb=>?_) (λ b o e=>un.there b o e (by simp)) tr,z⟩
 rcases hl b hb with z|z
 ·obtain⟨o,z1,z2⟩:=fk b z
  obtain⟨s1,z3⟩:=fs b o z z1
  exact .inl ⟨_,z3,z2⟩
 ·exact .inr z
theorem qri9{E'':zhs->zhx->Prop}{Q:zhx->Prop}(I:Inv X pins σ H s)(c:CXE X.prog X.w X.stack H s E e s')(O:Own X)(hA:A.frames=zhq X.stack)(q:∀s'',CXE X.prog X.w X.stack H s E e s''->Q s'') :
  zib (zia X.prog X.w) A (noteFrame e X.env) (λ _ s2=>zib (zia X.prog X.w) A (setFlight e zhr) (λ _ s3=>Q s3) E' s2) E'' s':=by
 obtain⟨a,cls,H',rfl,os,bare,un,ok,⟨hn,hn',oe,vs,T,oT,ts,a0,e1,e2,e3,e4,e5,e6,e7,e8,e9,e10,e11⟩,z⟩:=c
 have fr:=I.stack
 have fk:∀b∈frs X.stack,∃o,s.heap.get? b=zhq o/\∀vs,o.data ≠ .fields vs:=λ b hb=>(fr.mem hb).2
 have fs:∀b o,b∈frs X.stack->s.heap.get? b=zhq o->∃sl,s'.heap.get? b=zhq { o with slots:=sl }:=λ b o hb e=>un.slot b o e (I.stkFree b hb) hb (by simp)
 have fr':s'.heap.FunFrames (hides (a::T::frs X.stack) s'.heap) X.stack:=qfr9 fr (λ b hb=>by simp[hb]) fs
 have hl:∀b∈a::T::frs X.stack,b∈frs X.stack\/(s.heap.get? b=zhr/\H' b=zhr):=λ b hb=>by
  rcases zag.mp hb with rfl|hb
  ·exact .inr ⟨hn,hn'⟩
  ·rcases zag.mp hb with rfl|hb
   ·exact .inr ⟨e11,e10⟩
   ·exact .inl hb
 refine wpAny_noteFrame_onW (base:=hides (a::T::frs X.stack) s'.heap) (cls:=cls) (a0:=a0) (by rw[hA,O.stk]) (by rw[<- O.stk];exact fr') O.fr ⟨oe,vs,T,oT,ts,e1,⟨e2,e3⟩,e4,e5,qfb9 (by simp),e6,e7,e8,e9⟩ qgc9 (qfb9 (by simp)) λ h1 N=>?_
 obtain⟨st1,fr1,tr1,sl1⟩:=N
 refine zla (base:=hides (a::T::frs X.stack) s'.heap) (cls:=cls) (a0:=a0) (l:=X.env::X.outer) st1 fr1 tr1 λ h2 st _ tr k=>q _ ?_
 have sl:∀b o,s'.heap.get? b=zhq o->(∀vs,o.data ≠ .fields vs)->∃sl,h2.get? b=zhq { o with slots:=sl }:=λ b o z1 z2=>by
  obtain⟨sl,z3⟩:=sl1 b o z1 z2
  exact⟨sl,k b _ z3 z2⟩
 obtain⟨u2,ok2⟩:=qnk9 un ok st sl fr I.stkFree hl
 refine⟨a,cls,H',rfl,os,bare,u2,ok2,qjv9 ok hn hn' sl (λ b hb=>?_) (λ b o e=>un.there b o e (by simp)) tr,z⟩
 rcases hl b hb with z|z
 ·obtain⟨o,z1,z2⟩:=fk b z
  obtain⟨s1,z3⟩:=fs b o z z1
  exact .inl ⟨_,z3,z2⟩
 ·exact .inr z
end
def bmV:List zhs:=[.type "ValueError",.type "Exception",.type "BaseException",.type "object"]
structure ExC(K:W.Frag)(C:zht)(bm:List zhs):Prop where
 ex:∃nm q N bs hdct sn sub ab col dd k0 k1 k2 k3 k5,K.lookup C=zhq (zjv nm q C N bs bm hdct sn sub ab col dd k0 k1 k2 k3 k5 "ValueError.__new__")/\W.nsOkIn K N=true/\W.nsIn K N "__init__"=zhq zhr
 tl:W.tailIn K bmV bm=true
 bx:bm.contains (.type "BaseException")=true
section
variable {bm:List zhs}{E:XK}{np:Pos}{t:TA}
def tRaise(C:zht)(E:XK)(t:TA):TS:=λ _ σ H=>t σ H λ vs H1=>vs.length<=1000/\E (.ref C) zhr H1
theorem ps_raise(M:Makes X E)(c:ExC X.K C bm)(hg:Gl X x)(hm:X.mg x=zhq (.ref C))(ha:PA X (e::es) t)(hc:X.calm=true:=by rfl)(hdb:(x==("__debug__":Str))=false:=by decide)
  (he:zif (e::es) X.env=(false,zii e X.env)::zif es X.env:=by rfl) (hpl:(ziu cpos (zif (e::es) X.env)).any (·.1)=false:=by rfl) :
  PS X (.Raise (zhq (.Call (.Name x np) (e::es) [] cpos)) zhr pos) (tRaise C E t):=by
 intro pins s σ H D I h
 obtain⟨nm,q,N,bs,hdct,sn,sub,ab,col,dd,k0,k1,k2,k3,k5,l1,l2,l3⟩:=c.ex
 refine wpAny_Raise_call_subU (nm:=nm) (q:=q) (C:=C) (N:=N) (bs:=bs) (hdct:=hdct) (sn:=sn) (sub:=sub) (ab:=ab) (col:=col) (dd:=dd) (k0:=k0) (k1:=k1) (k2:=k2) (k3:=k3) (k5:=k5) (bm:=bm) (bmB:=bmV) (mN:=zhm X.base N) PySem.F.excBase_ValueError (by decide) PySem.F.excBase_ValueError c.bx (I.ok.hd hc) hpl (W.nsMap_none_of_in I.ok.mod.kin l2 l3) ?_
 refine qkx9 I hg hm ⟨rfl,?_⟩ hdb
 have key:=thn (ha cpos pins s σ H _ I h) (Q':=λ us s1=>(us.length<=zhu)/\s1.heap.get? C=zhq (zjv nm q C N bs bm hdct sn sub ab col dd k0 k1 k2 k3 k5 "ValueError.__new__")/\s1.heap.Ns N (zhm X.base N)/\OwnTail s1.heap bmV bm/\∀(h':zic)(e:zht),zic.MadeExcOf s1.heap h' e (.ref C) us->X.xe (.ref e) { s1 with heap:=h' }) λ us s1 ⟨vs,H1,I1,r,z,q1⟩=>?_
 ·rw[he] at key ⊢
  exact PySem.Calls.evalArgs_plain (zio key (λ us s1 ⟨a1,a2,a3,a4,a5⟩=>⟨rfl,a1,a2,a3,a4,a5⟩) λ _ _ z=>z)
 ·refine⟨?_,I1.kIn _ _ l1,(zic.Ns.of_isNs (W.isNs_of_in I.ok.mod.kin l2)).keeps I1.bk,W.tail_of_in I1.kIn c.tl,λ h' e m=>M pins σ H1 s1 _ us e h' I1 m q1⟩
  rw[<- r.length]
  exact zbj z (by decide)
end
structure CalleeX(P:zih)(w:zhy)(K:W.Frag)(mg:Str->Option zhs)(base:zic)(k:Nat)(x:Str)(ps:List Str)(sp:Sp):Prop where
 ex:∃(f:zht)(fd:zik),FnOk P w K mg base (CXE P w) k f fd ps sp/\Binds K fd ps []/\W.keepIn K (.ref f)=true/\mg x=zhq (.ref f)
section
variable {k:Nat}{E:XK}{t:TA}
theorem CalleeX.up{w:zhy}(c:CalleeX P w K mg base k x ps sp)(h:k<=j):CalleeX P w K mg base j x ps sp:=by
 obtain⟨f,fd,F,b,kp,m⟩:=c.ex
 exact⟨f,fd,F.mono h,b,kp,m⟩
theorem CalleeX.mk'{w:zhy}{f:zht}(G:FnOk P w K mg base (CXE P w) k f fd ps sp)(b:Binds K fd ps [])(kp:W.keepIn K (.ref f)=true)(m:mg x=zhq (.ref f)):CalleeX P w K mg base k x ps sp:=⟨f,fd,G,b,kp,m⟩
theorem pe_fnX(c:CalleeX X.prog X.w X.K X.mg X.base k x ps sp)(hr:Room k X.A)(hg:Gl X x)(hx:qjb9 (CXE X.prog X.w) X E)(ha:PA X (e::es) t)(hdb:(x==("__debug__":Str))=false:=by decide)
  (he:zif (e::es) X.env=(false,zii e X.env)::zif es X.env:=by rfl) (hpl:(ziu pos (zif es X.env)).any (·.1)=false:=by rfl):PE X (.Call (.Name x p) (e::es) [] pos) (tCall sp [] E t):=by
 obtain⟨f,fd,F,b,kp,m⟩:=c.ex
 exact pe_call F hr hg m kp b .nil hx ha hdb he hpl
def qjm9(X:Cx)(pins:List (zht×Obj))(σ:St)(E:XK)(e:zhs)(s':zhx):Prop:=∃H s,Inv X pins σ H s/\CXE X.prog X.w X.stack H s E e s'
def PSx(X:Cx)(st:List zhz)(t:XK->TS):Prop:=∀(E:XK) (pins:List (zht×Obj)) (s:zhx) (σ:St) (H:Hp) (D:Ends),Inv X pins σ H s->t E D σ H->zib (zia X.prog X.w) X.A (execs st X.env) (SP X pins D) (qjm9 X pins σ E) s
def PEx(X:Cx)(e:Expr)(t:XK->TE):Prop:=∀(E:XK) (pins:List (zht×Obj)) (s:zhx) (σ:St) (H:Hp) (Q:VK),Inv X pins σ H s->t E σ H Q->zib (zia X.prog X.w) X.A (zii e X.env) (EP X pins σ Q) (qjm9 X pins σ E) s
theorem run_fnX{f:zht}{Q:VK}{us:List zhs}{vs:List V}(F:FnOk X.prog X.w X.K X.mg X.base (CXE X.prog X.w) k f fd ps sp)(hr:Room k X.A)(hb:Binds X.K fd ps [])
  (I:Inv X pins σ H s) (r:Vals vs us) (h:sp (vs++[]) H Q E):zib (zia X.prog X.w) X.A (call (.ref f) us) (EP X pins σ Q) (qjm9 X pins σ E) s:=by
 have r2:Vals (vs++[]) (us++[]):=r.append .nil
 have hl:(us++[]).length=ps.length:=by rw[<- r2.length];exact F.len _ _ _ _ h
 refine zkb (zjf (F.run X.A X.stack s H ⟨us,[]⟩ (us++[]) (vs++[]) Q E hr I.env0 (hb s us I.kIn hl) r2 h) λ r s' hq=>?_)
 cases r with
 |error e=>exact⟨H,s,I,hq⟩
 |ok fl =>
  cases fl with
  |ret u=>exact I.after hq
  |next=>exact False.elim hq
  |brk=>exact False.elim hq
  |cont=>exact False.elim hq
theorem psx_expr{te:XK->TE}(he:PEx X e te)(hs:zjd e zhr pos.line X.env=pure false:=by rfl):PSx X [.Expr e pos] (λ E=>tDrop (te E)):=by
 intro E pins s σ H D I h
 have key:zib (zia X.prog X.w) X.A (exec (.Expr e pos) X.env) (SP X pins D) (qjm9 X pins σ E) s:=zmy (thn (he E pins s σ H _ I h) λ v s1 ⟨x,H1,I1,r1,q1⟩=>⟨σ,H1,I1,q1⟩) I.quiet hs
 refine zjm (thn key λ f s1 q=>?_)
 cases f with
 |next=>exact zjj q
 |ret v=>exact q
 |brk=>exact q
 |cont=>exact q
end
section
variable {M:zmk}{g:Array zno}{d:Drawn}{t:Nat}{os:ziv}{C':zht}{oe:Obj}{Q:Bool->zhx->Prop}
theorem qov9{nm q N bs bm hdct sn sub ab col dd k0 k1 k2 k3 k5 nw nm' q' N' bs' bm' hdct' sn' sub' ab' col' dd' k0' k1' k2' k3' k5' nw'}(hC:h.get? C=zhq (zjv nm q C N bs bm hdct sn sub ab col dd k0 k1 k2 k3 k5 nw))(hC':h.get? C'=zhq (zjv nm' q' C' N' bs' bm' hdct' sn' sub' ab' col' dd' k0' k1' k2' k3' k5' nw'))
  (he:h.get? a=zhq oe) (hc:oe.cls=.ref C') (hb:bm.contains (.type "BaseException")=true) (z:Q ((zhs.ref C'::bm').contains (.ref C)) ⟨h,g,d,t,os⟩):zib M A (excMatches (.ref a) (.ref C)) Q E ⟨h,g,d,t,os⟩:=by
 have isX:∀{Q':Bool->zhx->Prop},Q' true ⟨h,g,d,t,os⟩->zib M A (isExcClass (.ref C)) Q' E ⟨h,g,d,t,os⟩:=λ {Q'} q1=>by
  unfold isExcClass
  refine zhv ?_
  simp only[isType,loadHead]
  refine zhv (zkl hC (zid (zlb rfl (zlq hC ?_))))
  rw[show(zhs.ref C::bm).contains (.type "BaseException")=true by rw[List.contains_cons,hb];simp]
  exact q1
 unfold excMatches zmu
 simp only[znt]
 refine zhv (zhv (zhv (zkl hC (zid ?_))))
 refine zme tc_notTuple (zit rfl (zhv (zid ?_)))
 refine zhv ?_
 simp only[zfn,zfu]
 refine zhv (zhv (isX (zit rfl (zid (zid ?_)))))
 refine zhv (zhv (zkl he (zid ?_)))
 rw[hc]
 refine zhv (zhv (zhv (zlq hC' ?_)))
 cases b:(zhs.ref C'::bm').contains (.ref C) with
 |true =>
  rw[b] at z
  exact zlb rfl (zid (zid (zid z)))
 |false =>
  rw[b] at z
  exact zit rfl (zid (zid (zid z)))
end
abbrev Cx.inH(X:Cx)(a:zht):Cx:={ X with A:=X.A.mark (zhq (.ref a)),calm:=false,xe:=λ _ _=>False }
theorem Inv.inH(I:Inv X pins σ H s)(a:zht):Inv (X.inH a) pins σ H s :=
 ⟨⟨I.ok.mod,I.ok.kind,I.ok.glob,I.ok.blt,I.ok.above,I.ok.inj,I.ok.has,I.ok.cab,(λ z=>nomatch z),I.ok.frames,I.ok.stk,I.ok.exf,I.ok.bs,I.ok.bsz,I.ok.noex,I.ok.exfs,I.ok.funs,I.ok.frf⟩,I.os,I.bare,I.base,I.loc,I.cell,I.free,I.freeC,I.pin,I.hok,I.len⟩
theorem Inv.outH(ok:X.Ok)(I:Inv (X.inH a) pins σ H s):Inv X pins σ H s:=⟨ok,I.os,I.bare,I.base,I.loc,I.cell,I.free,I.freeC,I.pin,I.hok,I.len⟩
theorem SP.outH(ok:X.Ok){D:Ends}{f:Flow}{s':zhx}(h:SP (X.inH a) pins D f s'):SP X pins D f s':=by
 cases f with
 |next=>obtain⟨σ',H',I,q⟩:=h;exact⟨σ',H',I.outH ok,q⟩
 |brk=>obtain⟨σ',H',I,q⟩:=h;exact⟨σ',H',I.outH ok,q⟩
 |cont=>obtain⟨σ',H',I,q⟩:=h;exact⟨σ',H',I.outH ok,q⟩
 |ret u=>obtain⟨v,σ',H',I,r,q⟩:=h;exact⟨v,σ',H',I.outH ok,r,q⟩
theorem CXE.inv{E:XK}{e:zhs}(I:Inv X pins σ H s)(c:CXE X.prog X.w X.stack H s E e s'):∃a cls H',e=.ref a/\Inv X pins σ H' s'/\(∃oe,s'.heap.get? a=zhq oe/\oe.cls=cls)/\E cls zhr H':=by
 obtain⟨a,cls,H',rfl,os,bare,un,ok,⟨hn,hn',oe,vs,T,oT,ts,a0,e1,e2,_⟩,z⟩:=c
 exact⟨a,cls,H',rfl,I.call' os un ok bare λ b z=>absurd z (by simp),⟨oe,e1,e2⟩,z⟩
end L2
namespace L2
open PySem PySem.W PySem.Calls PyProof.Rows
variable {C D:zht}{A:zil}{X:Cx}{body:List zhz}{ps:List Str}{M:zmk}{i:Nat}{pos:Pos}{s:zhx}{sp:Sp}{n x:Str}{K:W.Frag}{E:XK}{tb:XK->TS}
def ExQ(a D:zht):zic->Prop:=λ h=>∃ox:Obj,h.get? a=zhq ox/\ox.cls=.ref D
structure ExK(K:Frag)(D:zht):Prop where
 cl:(clsIn K D).isSome=true
 ga:findIn K (.ref D) "__getattribute__"=zhq (zhq (.builtin "BaseException.__getattribute__"))
 gt:findIn K (.ref D) "__getattr__"=zhq zhr
 ca:findIn K (.ref D) "__class__"=zhq (zhq (.builtin "object.__class__"))
 gg:specialIn K (.builtin "object.__class__") "__get__"=zhq (zhq (.builtin "getset_descriptor.__get__"))
 tk:takesIn K (.builtin "object.__class__")=zhq true
 mo:mroIn K D (.type "object")=zhq true
 mb:mroIn K D (.type "BaseException")=zhq true
section
variable {prog:zih}{w:zhy}{E:zhs->zhx->Prop}{K:Frag}{a:zht}
theorem ExQ.type{h:zic}(I:ExQ a D h):Looks M h (znt (.ref a)) (.ref D):=by
 obtain⟨ox,e1,e2⟩:=I
 exact e2 ▸ (Looks.ld e1).andThen .now
theorem qow9{h:zic}(X:K.In h)(c:ExK K D):Looks M h (Builtin.ObjectAttr.find (.ref a) (.ref D) "__class__") (.bind (.builtin "getset_descriptor.__get__") (.builtin "object.__class__")):=by
 have L1:=looks_findIn (M:=M) X c.ca
 have L2:Looks M h (Builtin.ObjectAttr.getOf (zhq (.builtin "object.__class__"))) (zhq (.builtin "getset_descriptor.__get__")):=looks_specialIn X c.gg
 have L3:=looks_takesIn (M:=M) X c.tk
 exact L1.andThen (L2.andThen ((show Looks M h (Builtin.ObjectAttr.dataDescriptor? (zhq (.builtin "object.__class__")) (zhq (.builtin "getset_descriptor.__get__"))) (zhq (.builtin "getset_descriptor.__get__",.builtin "object.__class__")) from L3.andThen .now).andThen (Looks.tag .now)))
theorem qsk9{R:Result->zhx->Prop}{tp:zhs}(X:K.In s.heap)(I:ExQ a D s.heap)(c:ExK K D)(h:R (.ok (.ret (.ref D))) s):zjr (zia prog w) A (.call (.builtin "getset_descriptor.__get__") ⟨[.builtin "object.__class__",.ref a,tp],[]⟩) R s:=by
 obtain⟨hh,g,dr,t,os⟩:=s
 have L0:=I.type (M:=zia prog w)
 have L1:=looks_mroIn (M:=zia prog w) X c.mo
 refine zlk KF.slot_gs.plain KF.entry_gs (KF.slot_gs.check _ _ _ _ _ _ _ _ KF.type_class (KF.args_gs _ _ _) ?_)
 unfold Builtin.«getset_descriptor.__get__» Builtin.Getset_descriptor.descrGet
 rw[dga_obj]
 refine zhv (zid ?_)
 unfold Builtin.Getset_descriptor.descrGetter Builtin.Getset_descriptor.descrCheckInstance Builtin.Getset_descriptor.descrNameAndClass zmu
 simp only[KF.owner_class]
 repeat lk
 refine⟨zkp.quiet_builtin _ (by decide +kernel),zks KF.entry_class ?_⟩
 unfold Builtin.«object.__class__» shownTypeOf
 repeat lk
 exact h
theorem check_ga{nameV:zhs}{Q:Unit->zhx->Prop}(X:K.In s.heap)(I:ExQ a D s.heap)(c:ExK K D)(hq:Q () s):zib M A (zmi "BaseException.__getattribute__" ⟨[.ref a,nameV],[]⟩) Q E s:=by
 obtain⟨hh,g,d,t,os⟩:=s
 have L0:=I.type (M:=M)
 have L3:=looks_mroIn (M:=M) X c.mb
 have hk:builtinKind "BaseException.__getattribute__"=zhq .slot:=by decide +kernel
 have hsplit:splitId "BaseException.__getattribute__"=zhq ("BaseException","__getattribute__"):=by decide +kernel
 have ha:=PySem.F.args_bexc_ga (.ref a) nameV
 simp only[zmi,hk,hsplit]
 refine zhv ?_
 unfold zmu
 repeat (first|lk|wp_step)
 exact hq
theorem exc_class{Q:Option zhs->zhx->Prop}(X:K.In s.heap)(I:ExQ a D s.heap)(c:ExK K D)(h:Q (zhq (.ref D)) { s with toks:=s.toks+1 }):zib (zia prog w) A (getAttr? (.ref a) "__class__") Q E s:=by
 obtain⟨hh,g,d,t,os⟩:=s
 have L0:=I.type (M:=zia prog w)
 have L1:=looks_findIn (M:=zia prog w) X c.ga
 have L2:=looks_findIn (M:=zia prog w) X c.gt
 have L3:=looks_mroIn (M:=zia prog w) X c.mb
 have L4:=qow9 (M:=zia prog w) (a:=a) X c
 unfold getAttr? getAttrBy? getAttrBy
 refine zhv (wpAny_mkText (zhv (zkj (zlp (zhv (L0.at (zhv (L1.at ?_))))))))
 have hx2:(zhs.builtin "BaseException.__getattribute__"==zhs.builtin "object.__getattribute__")=false:=by decide +kernel
 refine zit (by rw[hx2];rfl) ?_
 unfold getAttrByItsOwn hookBefore
 refine zhv (zlb rfl (L2.at ?_))
 refine zhv (zkj (zlp ?_))
 unfold callGetattribute
 refine zit rfl ?_
 unfold boundAndCalled
 refine zhv (zme (PySem.F.attrBase_ValueError.ga.bind (.ref a)) ?_)
 refine zkb (zlk PySem.F.attrBase_ValueError.ga.plain PySem.F.entry_bexc_ga (check_ga X I c ?_))
 unfold Builtin.«object.__getattribute__»
 refine zhv (zid ?_)
 refine zhv (zid (zhv (L0.at (zhv (L4.at ?_)))))
 show zib _ _ (zlz [zhs.builtin "object.__class__"] (call (.builtin "getset_descriptor.__get__") [.builtin "object.__class__",.ref a,.ref D]) >>= ret) _ _ _
 refine zhv (zlp (zkb (qsk9 X I c ?_)))
 exact zid (zid (zid h))
theorem qpx9(c:ExK K D):KitX K (.ref a) (.ref D) (ExQ a D) where
 ty:=λ _ _ _ I=>I.type
 it:=λ _ _ X _=>by
  obtain⟨cdD,hcD⟩:=zcb.mp c.cl
  unfold clsIn at hcD
  split at hcD
  ·rename_i c' d' cd' sl' ho
   intro A' Q' E' s' k q
   unfold isType loadHead
   exact zhv (zmz (k _ _ (X _ _ ho)) (zid q))
  ·cases hcD
 ne:=λ h tp dd its n sl X htp=>by
  obtain⟨cdD,hcD⟩:=zcb.mp c.cl
  refine zbp.mpr λ q=>?_
  have e:D=tp:=zhs.ref.inj (beq_iff_eq.mp q)
  subst e
  unfold clsIn at hcD
  split at hcD
  ·rename_i c' d' cd' sl' ho
   have z:=(X _ _ ho).symm.trans htp
   cases z
  ·cases hcD
 ca:=λ X I k=>exc_class X I c k
end
section
variable {pins:List (zht×Obj)}{σ:St}{H:Hp}
theorem unbind_ok{E:zhs->zhx->Prop}{v:V}{Q:Unit->zhx->Prop}(I:Inv X pins σ H s)(hN:X.N.Nodup)(hi:X.N[i]?=zhq x)(hk:X.env.scope.names.lookup x=zhq .local)(hv:σ[i]?=zhq (zhq v))
  (h:∀s',Inv X pins (σ.set i zhr) H s'->Q () s'):zib M A (unbindName X.env x) Q E s:=by
 obtain⟨m,hn,hl⟩:=id I.loc
 have hcls:(X.env.scope.kind == .class||(X.env.scope.kind == .module&&X.env.locals != X.env.globals))=false:=by rw[I.ok.kind];rfl
 have hiσ:i<σ.length:=by rw[I.len];exact(zab.mp hi).1
 have cne:=I.cne
 obtain⟨u0,_,lk⟩:=hl i x v hi hv (.inl hk)
 have mx:m x=zhq u0:=by
  rcases lk with⟨_,z⟩|⟨z,_⟩
  ·exact z
  ·have z:X.env.scope.names.lookup x=zhq .cell\/X.env.scope.names.lookup x=zhq .free:=z
   rw[hk] at z
   rcases z with z|z<;>cases z
 refine wpAny_unbindName_local hk hn mx hcls λ h' u hn' hs=>?_
 obtain⟨oL,_,_,hoL,_⟩:=id hn
 refine h _ ⟨I.ok,I.os,I.bare,⟨λ b o e n hb hx=>?_,λ b o e n hb hx=>?_,I.base.free,λ b o e hx=>?_,I.base.tups,I.base.frzs,I.base.tbls⟩,⟨_,hn',λ j y v' e1 e2 e3=>?_⟩,λ y c e=>?_,I.free,I.freeC,λ p hp=>?_,λ b ob e=>?_,by simpa using I.len⟩
 ·exact(hs.2 b (zbo (zba (zax e) I.ok.above))).trans (I.base.keep b o e n hb hx)
 ·obtain⟨sl,e1⟩:=I.base.slot b o e n hb hx
  exact⟨sl,(hs.2 b (zbo (zba (zax e) I.ok.above))).trans e1⟩
 ·obtain⟨o',e1⟩:=I.base.there b o e hx
  exact⟨o',(hs.2 b (zbo (zba (zax e) I.ok.above))).trans e1⟩
 ·by_cases hj:j=i
  ·subst hj
   rw[zch hiσ] at e2
   cases e2
  ·rw[zdj (Ne.symm hj)] at e2
   obtain⟨u',r',q⟩:=hl j y v' e1 e2 e3
   refine⟨u',r',?_⟩
   rcases q with⟨k,e⟩|⟨k,c,e,z⟩
   ·refine .inl ⟨k,?_⟩
    have:y≠x:=λ e=>hj (qni9 hN e1 (e ▸ hi))
    simp[this,e]
   ·exact .inr ⟨k,c,e,z.sameBut hs (cne y c e)⟩
 ·obtain⟨w',z⟩:=I.cell y c e
  exact⟨w',z.sameBut hs (cne y c e)⟩
 ·obtain⟨e,n,ne,nf,d⟩:=I.pin p hp
  exact⟨(hs.2 p.1 ne).trans e,n,ne,nf,d⟩
 ·refine(I.hok b ob e).stay (λ c w' hc q=>(hs.2 c ?_).trans q) (λ _ q=>q) λ _ _ q=>q
  rintro rfl
  rcases hc with rfl|hc
  ·rw[I.free] at e;cases e
  ·rw[I.free] at hc;cases hc
theorem CXE.track{e:zhs}{s':zhx}(hD:∀cls H',E cls zhr H'->cls=.ref D)(I:Inv X pins σ H s)(c:CXE X.prog X.w X.stack H s E e s') :
  ∃a H',e=.ref a/\H' a=zhr/\Inv X pins σ (upd H' a (.ext (ExQ a D))) s'/\E (.ref D) zhr H':=by
 obtain⟨a,cls,H',rfl,os,bare,un,ok,⟨hn,hn',oe,vs,T,oT,ts,a0,e1,e2,_⟩,z⟩:=c
 have hc:=hD cls H' z
 subst hc
 have ne:∀b o,H' b=zhq o->b≠a:=λ b o q z=>by rw[z,hn'] at q;cases q
 have ne0:∀b o,s.heap.get? b=zhq o->b≠a:=λ b o q z=>by rw[z,hn] at q;cases q
 refine⟨a,H',rfl,hn',I.call' os ⟨un.keep,un.slot,λ b o e n hx=>?_,un.there,λ b xs q=>?_,λ b o u q=>?_,λ b ps q=>?_⟩ (λ b o q=>?_) bare (λ b z=>absurd z (by simp)),z⟩
 ·rw[qao9 (ne0 b o e)];exact un.free b o e n hx
 ·have:=un.tups b xs q
  rw[qao9 (ne b _ this)];exact this
 ·have:=un.frzs b o u q
  rw[qao9 (ne b _ this)];exact this
 ·obtain⟨m,this⟩:=un.tbls b ps q
  exact⟨m,by rw[qao9 (ne b _ this)];exact this⟩
 ·by_cases hb:b=a
  ·subst hb
   rw[qaj9] at q
   cases q
   exact⟨⟨oe,e1,e2⟩,⟨oe,e1⟩,λ h1 h2 ⟨ox,q1,q2⟩ k=>⟨ox,k ox q1,q2⟩⟩
  ·rw[qao9 hb] at q
   refine(ok b o q).stay (λ _ _ _ z=>z) (λ c z=>?_) λ c xs z=>?_
   ·rw[qao9 (ne c _ z)];exact z
   ·rw[qao9 (ne c _ z)];exact z
def clsV:V->Option zhs
 | .ref C=>zhq (.ref C)
 | .ty T=>zhq (.type T)
 |_=>zhr
theorem qrm9{v:V}{u c:zhs}(r:RelV v u)(h:clsV v=zhq c):u=c:=by
 cases v<;>cases h
 ·exact r
 ·exact r
theorem call_isiX:CallR X (.builtin "isinstance") (λ xs H Q=>∃(a D:zht)(c:V)(b:Bool),xs=[.ref a,c]/\H a=zhq (.ext (ExQ a D))/\ExK X.K D /\
  ((∃v,clsV c=zhq v/\W.kitOne X.K (.ref D) v=zhq b)\/∃tp vs its,c=.ref tp/\SqT X.K H tp vs/\vs.map clsV=its.map zhq/\W.kitAny X.K (.ref D) its=zhq b)/\Q (.bl b) H):=by
 intro pins s σ H xs us Q I r h
 obtain⟨a,D,c,b,rfl,ea,ck,alt,q⟩:=h
 obtain⟨u,v,rfl,r1,r2⟩:=Vals.two r
 cases (show u=zhs.ref a from r1)
 obtain⟨ex,_⟩:=(show ObjOk X.prog X.w H s.heap a (.ext (ExQ a D)) from I.hok a _ ea)
 rcases alt with⟨w',h1,h2⟩|⟨tp,vs,its,rfl,h1,h2,h3⟩
 ·cases qrm9 r2 h1
  exact W.kia_one (qpx9 ck) I.kIn ex h2 (λ z=>nomatch z) λ tk=>⟨.bl b,H,I.tok tk,rfl,q⟩
 ·cases (show v=zhs.ref tp from r2)
  obtain⟨its',r3,⟨o,o1,o2,n,o3⟩,hz⟩:=I.tuple h1
  have e:its'=its:=by
   clear h3 o3 h1 hz
   induction r3 generalizing its with
   |nil=>cases its with|nil=>rfl|cons _ _=>cases h2
   |cons ra _ ih =>
    cases its with
    |nil=>cases h2
    |cons y ys =>
     rw[zbh,zbh,List.cons.injEq] at h2
     rw[qrm9 ra h2.1,ih _ h2.2]
  subst e
  obtain⟨oc,od,odt,osl⟩:=o
  cases o2
  cases o3
  exact W.kia_tup (qpx9 ck) I.kIn ex o1 h3 (λ z=>nomatch z) λ tk=>⟨.bl b,H,I.tok tk,rfl,q⟩
end
inductive tTryAs(K:W.Frag)(C:zht)(i:Nat)(tb:XK->TS)(th:TS)(D:Ends)(σ:St)(H:Hp):Prop
 |mk (E:XK) (G:zht) (bm':List zhs):tb E D σ H->((∀cls H',E cls zhr H'->cls=.ref G))->ExC K G bm'->((zhs.ref G::bm').contains (.ref C)=true)->(∀(a:zht)(H':Hp),E (.ref G) zhr H'->H' a=zhr->th { nx:=λ σ' H2=>D.nx (σ'.set i zhr) H2,rt:=D.rt,bk:=λ σ' H2=>D.bk (σ'.set i zhr) H2,ct:=λ σ' H2=>D.ct (σ'.set i zhr) H2 } (σ.set i (zhq (.ref a))) (upd H' a (.ext (ExQ a G))))->tTryAs K C i tb th D σ H
section
variable {suite:List zhz}{b0:zhz}{th:TS}{bm:List zhs}{np hpos:Pos}
theorem ps_tryAs(hb:PSx X body tb)(c:ExC X.K C bm)(hg:Gl X x)(hm:X.mg x=zhq (.ref C))(O:Own X)(hs:∀a,PSs (X.inH a) (b0::suite) th)(hN:X.N.Nodup)(hi:X.N[i]?=zhq n)(hk:X.env.scope.names.lookup n=zhq .local)(hdb:(x==("__debug__":Str))=false:=by decide) :
  PS X (.Try body [.ExceptHandler (zhq (.Name x np)) (zhq n) (b0::suite) hpos] [] [] pos) (tTryAs X.K C i tb th):=by
 intro pins s σ H D I ⟨E,G,bm',h1,hG,c',hc,h2⟩
 refine wpAny_Try_except (zio (hb E pins s σ H D I h1) (λ f s1 q=>?_) (λ e s1 c1=>?_))
 ·cases f with
  |next=>exact zjj q
  |ret v=>exact q
  |brk=>exact q
  |cont=>exact q
 obtain⟨H1,s0,I1,c1⟩:=c1
 refine qri9 I1 c1 O I.ok.frames λ s3 c3=>?_
 obtain⟨a,cls,H',rfl,J,⟨oe,e1,e2⟩,z⟩:=c3.inv I1
 have ec:=hG cls H' z
 subst ec
 obtain⟨nm,q,N,bs,hdct,sn,sub,ab,col,dd,k0,k1,k2,k3,k5,l1,_⟩:=c.ex
 obtain⟨nm',q',N',bs',hdct',sn',sub',ab',col',dd',k0',k1',k2',k3',k5',l1',_⟩:=c'.ex
 refine wpAny_handleBy_cons (codeAny_handlers_test ?_) (λ z=>nomatch z)
 refine Calls.Name_function_global I.ok.kind hg (Calls.loadGlobal_global (by rw[I.ok.glob];exact I.mod.glob.keeps J.bk) hm ?_) hdb
 obtain⟨h,g,d,t,os⟩:=s3
 refine qov9 (J.kIn _ _ l1) (J.kIn _ _ l1') e1 e2 c.bx ?_
 rw[hc]
 refine codeAny_handlers_suite_as (qpe9 I1 c3 λ s4 c4=>?_)
 obtain⟨a4,H4,e4,n4,J4,z4⟩:=c4.track hG I1
 cases e4
 refine qiu9 J4 hN hi (.inl hk) (v:=.ref a) rfl (λ s5 J5=>?_) (.inr hk)
 refine zio (hs a pins s5 _ _ _ (J5.inH a) (h2 a H4 z4 n4)) (λ f s6 q6=>?_) λ _ _ z=>z.elim
 have fin:∀{σ':St}{H2:Hp}{Q':zhx->Prop},Inv (X.inH a) pins σ' H2 s6->(∀s7,Inv X pins (σ'.set i zhr) H2 s7->Q' s7)->zib (zia X.prog X.w) X.A (do bindName X.env n .none;zll X.env n hpos) (λ _ s7=>Q' s7) X.xe s6:=λ {σ' H2 Q'} J6 qq=>by
  have J6:=J6.outH I.ok
  refine zhv (wpAny_bindName (qiu9 J6 hN hi (.inl hk) (v:=.non) rfl (λ s7 J7=>?_) (.inr hk)))
  unfold zll
  have hl:i<σ'.length:=by rw[J6.len];exact(zab.mp hi).1
  refine zki (unbind_ok J7 hN hi hk (zch hl) λ s8 J8=>qq s8 ?_)
  rw[zhh] at J8
  exact J8
 cases f with
 |next =>
  obtain⟨σ',H2,J6,q7⟩:=q6
  exact fin J6 λ s7 J7=>⟨_,H2,J7,q7⟩
 |brk =>
  obtain⟨σ',H2,J6,q7⟩:=q6
  exact fin J6 λ s7 J7=>⟨_,H2,J7,q7⟩
 |cont =>
  obtain⟨σ',H2,J6,q7⟩:=q6
  exact fin J6 λ s7 J7=>⟨_,H2,J7,q7⟩
 |ret u =>
  obtain⟨v,σ',H2,J6,r,q7⟩:=q6
  exact fin J6 λ s7 J7=>⟨v,_,H2,J7,r,q7⟩
end
structure QEx(X:Cx)(e:Expr)(t:XK->TE):Prop where
 run:PEx X e t
structure QSx(X:Cx)(st:List zhz)(t:XK->TS):Prop where
 run:PSx X st t
section
variable {p np cpos hpos:Pos}{e:Expr}{es:List Expr}{t:TA}{k:Nat}{suite:List zhz}{b0:zhz}{th:TS}{bm:List zhs}
theorem qhi9(M:Makes X E)(c:ExC X.K C bm)(hg:Gl X x)(hm:X.mg x=zhq (.ref C))(ha:QA X (e::es) t)(hc:X.calm=true:=by rfl)(hdb:(x==("__debug__":Str))=false:=by decide)
  (he:qay9 e=true:=by rfl) (hpl:(ziu cpos (zif (e::es) X.env)).any (·.1)=false:=by rfl):QS X (.Raise (zhq (.Call (.Name x np) (e::es) [] cpos)) zhr pos) (tRaise C E t):=⟨ps_raise M c hg hm ha.run hc hdb (se_of he) hpl⟩
theorem qe_fnX(c:CalleeX X.prog X.w X.K X.mg X.base k x ps sp)(hr:Room k X.A)(hg:Gl X x)(hx:qjb9 (CXE X.prog X.w) X E)(ha:QA X (e::es) t)(hdb:(x==("__debug__":Str))=false:=by decide)
  (he:qay9 e=true:=by rfl) (hpl:(ziu pos (zif es X.env)).any (·.1)=false:=by rfl):QE X (.Call (.Name x p) (e::es) [] pos) (tCall sp [] E t):=⟨pe_fnX c hr hg hx ha.run hdb (se_of he) hpl⟩
theorem qsx_expr{te:XK->TE}(he:QEx X e te)(hs:zjd e zhr pos.line X.env=pure false:=by rfl):QSx X [.Expr e pos] (λ E=>tDrop (te E)):=⟨psx_expr he.run hs⟩
theorem qtg9(hb:QSx X body tb)(c:ExC X.K C bm)(hg:Gl X x)(hm:X.mg x=zhq (.ref C))(O:Own X)(hs:∀a,QSs (X.inH a) (b0::suite) th)(hN:X.N.Nodup)(hi:X.N[i]?=zhq n)(hk:X.env.scope.names.lookup n=zhq .local)(hdb:(x==("__debug__":Str))=false:=by decide) :
  QS X (.Try body [.ExceptHandler (zhq (.Name x np)) (zhq n) (b0::suite) hpos] [] [] pos) (tTryAs X.K C i tb th):=⟨ps_tryAs hb.run c hg hm O (λ a=>(hs a).run) hN hi hk hdb⟩
theorem qie9(hg:Gl X x)(hm:X.mg x=zhq (.ref C))(hd:(x==("__debug__":Str))=false:=by decide):QE X (.Name x pos) (tC (.ref C)):=⟨qlg9 hg hm rfl hd⟩
theorem qe_tyB{T:String}(hg:Gl X x)(hm:X.mg x=zhr)(hv:zij x=zhq (.type T))(hn:x≠"__name__" := by decide)(hd:(x==("__debug__":Str))=false:=by decide):QE X (.Name x pos) (tC (.ty T)):=⟨pe_bltn hg hm hv rfl hn hd⟩
theorem qbk9:QCall X (.builtin "isinstance") (λ xs H Q=>∃(a D:zht)(c:V)(b:Bool),xs=[.ref a,c]/\H a=zhq (.ext (ExQ a D))/\ExK X.K D /\
  ((∃v,clsV c=zhq v/\W.kitOne X.K (.ref D) v=zhq b)\/∃tp vs its,c=.ref tp/\SqT X.K H tp vs/\vs.map clsV=its.map zhq/\W.kitAny X.K (.ref D) its=zhq b)/\Q (.bl b) H):=⟨call_isiX⟩
end
section
variable {P:zih}{w:zhy}{mg:Str->Option zhs}{base:zic}{N:List Str}{qual:Str}{scope:zjc}{f:zht}{cd:zhs}{outer:List Env}{H:Hp}
theorem own0{CX:CXT}:Own (cxOf CX P w K mg base N qual scope f cd A outer s H E).nox:=⟨rfl,rfl,rfl⟩
theorem Fun.okX{st:zhz}{fd:zik}{k:Nat}(F:Fun K x qual st f fd)(S:FnScope N ps (qab9 st))(len:∀vs H Q E,sp vs H Q E->vs.length=ps.length)
  (hbody:∀(cdv:zhs)(A:zil)(outer:List Env)(s:zhx)(H:Hp)(vs:List V)(Q:VK)(E:XK),Room k (A.deeper (zjn qual (qab9 st) s.heap.objs.size f cdv))->sp vs H Q E ->
   ∃t,QSs (cxE P w K mg base N qual (qab9 st) f cdv A outer s H E) (qag9 st) t/\t { nx:=λ _ H'=>Q .non H',rt:=Q } (start N vs) H):FnOk P w K mg base (CXE P w) (k+1) f fd ps sp:=by
 obtain⟨oc,od,kV,doc,pm,an,cdv,ct,osl,rfl,lk,hcd⟩:=F.ex
 refine fn_of lk hcd S len λ A outer s H vs Q E hr hsp=>?_
 obtain⟨t,h1,h2⟩:=hbody cdv A outer s H vs Q E hr hsp
 exact⟨t,h1.run,h2⟩
end
theorem exc_of{nm q N bs bm hdct sn sub ab col dd k0 k1 k2 k3 k5}(l:K.lookup C=zhq (zjv nm q C N bs bm hdct sn sub ab col dd k0 k1 k2 k3 k5 "ValueError.__new__"))
  (e:W.excIn K C [.type "ValueError",.type "Exception",.type "BaseException",.type "object"] "ValueError.__new__"=true) (b:bm.contains (.type "BaseException")=true):ExC K C bm:=by
 unfold W.excIn at e
 rw[l] at e
 simp only[zjv,zaz,beq_iff_eq] at e
 obtain⟨⟨⟨_,ht⟩,hok⟩,hni⟩:=e
 exact⟨⟨nm,q,N,bs,hdct,sn,sub,ab,col,dd,k0,k1,k2,k3,k5,l,hok,hni⟩,ht,b⟩
theorem kit_self:W.kitOne K (.ref D) (.ref D)=zhq true:=by
 unfold W.kitOne
 rw[if_pos (by simp)]
theorem kit_no{cd:ClassData}(c:W.clsIn K C=zhq cd)(t:W.typeIn K (.ref C)=zhq (.type "type"))(s:W.subIn K (.ref D) (.ref C)=zhq false)(ne:D≠C):W.kitOne K (.ref D) (.ref C)=zhq false:=by
 unfold W.kitOne
 rw[if_neg (by simp[ne])]
 unfold W.kitCls
 dsimp only
 rw[c,t]
 simp only[zgl,zcw,beq_self_eq_true,if_true]
 exact s
theorem kit_ty{T:String}(m:W.kitMeta T=true)(s:W.subIn K (.ref D) (.type T)=zhq true):W.kitOne K (.ref D) (.type T)=zhq true:=by
 unfold W.kitOne
 rw[if_neg (by simp)]
 unfold W.kitCls
 dsimp only
 rw[if_pos m]
 exact s
section
variable {P:zih}{w:zhy}{mg:Str->Option zhs}{base:zic}{k:Nat}{f:zht}{fd:zik}{sp1 sp2:Sp}
theorem FnOk.toX(F:FnOk P w K mg base CX0 k f fd ps sp):FnOk P w K mg base (CXE P w) k f fd ps sp:=⟨F.len,λ A outer s H args us vs Q E hr he hb hv hs=>zjf (F.run A outer s H args us vs Q E hr he hb hv hs) λ r s' h=>by
 cases r with
 |error e=>exact False.elim h
 |ok fl=>cases fl<;>exact h⟩
theorem FnOk.or{CX:CXT}(F1:FnOk P w K mg base CX k f fd ps sp1)(F2:FnOk P w K mg base CX k f fd ps sp2):FnOk P w K mg base CX k f fd ps (λ vs H Q E=>sp1 vs H Q E\/sp2 vs H Q E) :=
 ⟨λ vs H Q E h=>h.elim (F1.len vs H Q E) (F2.len vs H Q E),λ A outer s H args us vs Q E hr he hb hv hs=>hs.elim (F1.run A outer s H args us vs Q E hr he hb hv) (F2.run A outer s H args us vs Q E hr he hb hv)⟩
end
end L2
namespace L2
open PySem PySem.Spec PyProof.Rows
variable {C:zht}{X:Cx}{e o:Expr}{fd:zik}{es:List Expr}{ps:List Str}{j:Nat}{apos p pos:Pos}{sp:Sp}{x:Str}{E:XK}
section
variable {ev:Expr}{m kn:Str}{kpos:Pos}{ta te:TE}{t tk:TA}{k:Nat}{f:zht}
structure MCalX(P:zih)(w:zhy)(K:W.Frag)(mg:Str->Option zhs)(base:zic)(k:Nat)(C:zht)(m:Str)(ps:List Str)(sp:Sp):Prop where
 ex:∃(f:zht)(fd:zik),FnOk P w K mg base (CXE P w) k f fd ps sp/\Binds K fd ps []/\Meth K C m f
 cl:Cls K C
theorem MCalX.up{P:zih}{w:zhy}{K:W.Frag}{mg:Str->Option zhs}{base:zic}(M:MCalX P w K mg base j C m ps sp)(h:j<=k):MCalX P w K mg base k C m ps sp:=by
 obtain⟨⟨f,fd,G,b,me⟩,c⟩:=M
 exact⟨⟨f,fd,G.mono h,b,me⟩,c⟩
theorem pex_meth{pl:Sem Bool}(M:MCalX X.prog X.w X.K X.mg X.base k C m ps sp)(hr:Room k X.A)(ho:PE X.nox o ta)(ha:PA X.nox (e::es) t)(hst:zif (e::es) X.env=(false,zii e X.env)::zif es X.env)(hpl:(ziu pos (zif es X.env)).any (·.1)=false)
  (ht:zii (.Call (.Attribute o m apos) (e::es) [] pos) X.env=(do
   let ov <- zii o X.env
   zmx apos.atName
   let (f,first) <- zlz [ov] (zlx ov m pl)
   callWith pos f first (ziu pos (zif (e::es) X.env)) (zle pos (zkg [] X.env)))) :
  PEx X (.Call (.Attribute o m apos) (e::es) [] pos) (λ E=>tMeth C m sp [] E ta t):=by
 obtain⟨⟨f,fd,F,b,me⟩,c⟩:=M
 intro E pins s σ H Q I h
 refine W.methodCall_KW (pl:=pl) (zio (ho pins s σ H _ (I.wish _) h) (λ u s1 z9=>?_) λ _ _ z=>z.elim) ht
 obtain⟨x,H1,I1,rx,a,dx,fs,ex,ea,l,q⟩ := z9
 subst ex
 obtain rfl:u=zhs.ref a:=rx
 refine qqr9 I1.unwish ea c me l ?_
 refine W.callWith_K (first:=[.ref a]) (h₀:=X.base) I.ok.mod.kin me.kp (zio (ha pos pins s1 σ H1 _ I1 q) (λ us s2 ⟨vs,H2,I2,r,q2⟩=>⟨I2.kIn,?_⟩) λ _ _ z=>z.elim) hst hpl
 exact run_fnX (us:=.ref a::us) (vs:=.ref a::vs) F hr b I2.unwish (.cons rfl r) q2
theorem qex_meth{pl:Sem Bool}(M:MCalX X.prog X.w X.K X.mg X.base k C m ps sp)(hr:Room k X.A)(ho:QE X.nox o ta)(ha:QA X.nox (e::es) t)(h:qay9 e=true:=by rfl)(hpl:es.all qay9=true:=by rfl)
  (ht:zii (.Call (.Attribute o m apos) (e::es) [] pos) X.env=(do
   let ov <- zii o X.env
   zmx apos.atName
   let (f,first) <- zlz [ov] (zlx ov m pl)
   callWith pos f first (ziu pos (zif (e::es) X.env)) (zle pos (zkg [] X.env))):=by rfl) :
  QEx X (.Call (.Attribute o m apos) (e::es) [] pos) (λ E=>tMeth C m sp [] E ta t):=⟨pex_meth M hr ho.run ha.run (se_of h) (qky9 hpl) ht⟩
structure KCalD(P:zih)(w:zhy)(K:W.Frag)(mg:Str->Option zhs)(base:zic)(k:Nat)(x:Str)(C:zht)(ps:List Str)(sp:Sp):Prop where
 ex:∃(f:zht)(fd:zik)(tk:Tok),Mk K C f/\FnOk P w K mg base CX0 k f fd ps sp/\Binds K fd ps [.int 1 tk]
 mg_:mg x=zhq (.ref C)
structure KCalK(P:zih)(w:zhy)(K:W.Frag)(mg:Str->Option zhs)(base:zic)(k:Nat)(x:Str)(C:zht)(kn:Str)(ps:List Str)(sp:Sp):Prop where
 ex:∃(f:zht)(fd:zik),Mk K C f/\FnOk P w K mg base CX0 k f fd ps sp/\∀(s:zhx)(us:List zhs)(v:zhs),K.In s.heap->us.length+1=ps.length->zjs s fd ⟨us,[(kn,v)]⟩ (ps.zip (us++[v]))
 mg_:mg x=zhq (.ref C)
end
section
variable {t:TA}{k:Nat}
structure KCalX(P:zih)(w:zhy)(K:W.Frag)(mg:Str->Option zhs)(base:zic)(k:Nat)(x:Str)(C:zht)(ps:List Str)(sp:Sp):Prop where
 ex:∃(f:zht)(fd:zik),Mk K C f/\FnOk P w K mg base (CXE P w) k f fd ps sp/\Binds K fd ps []
 mg_:mg x=zhq (.ref C)
end
theorem FunD.okX{P:zih}{w:zhy}{K:W.Frag}{mg:Str->Option zhs}{base:zic}{qual:Str}{st:zhz}{f:zht}{N:List Str}{k:Nat}(F:FunD K x qual st f fd)(S:FnScope N ps (qab9 st))(len:∀vs H Q E,sp vs H Q E->vs.length=ps.length)
  (hbody:∀(cdv:zhs)(A:zil)(outer:List Env)(s:zhx)(H:Hp)(vs:List V)(Q:VK)(E:XK),Room k (A.deeper (zjn qual (qab9 st) s.heap.objs.size f cdv))->sp vs H Q E ->
   ∃t,QSs (cxE P w K mg base N qual (qab9 st) f cdv A outer s H E) (qag9 st) t/\t { nx:=λ _ H'=>Q .non H',rt:=Q } (start N vs) H):FnOk P w K mg base (CXE P w) (k+1) f fd ps sp:=by
 obtain⟨oc,od,dV,kV,doc,pm,an,cdv,ct,osl,rfl,lk,hcd⟩:=F.ex
 refine fn_of lk hcd S len λ A outer s H vs Q E hr hsp=>?_
 obtain⟨t,h1,h2⟩:=hbody cdv A outer s H vs Q E hr hsp
 exact⟨t,h1.run,h2⟩
section
variable {t:TA}{k:Nat}{ds:List zhs}{dvs:List V}
theorem run_makeX{f:zht}{pins:List (zht×Obj)}{σ:St}{H:Hp}{s:zhx}{Q:VK}{us:List zhs}{vs:List V}(M:Mk X.K C f)(F:FnOk X.prog X.w X.K X.mg X.base (CXE X.prog X.w) k f fd ps sp)(hr:Room (k+1) X.A)(hb:Binds X.K fd ps ds)(hd:Vals dvs ds)
  (I:Inv X pins σ H s) (r:Vals vs us)
  (h:∀x dx,H x=zhr->H dx=zhr->dx≠x->sp (.ref x::(vs++dvs)) (upd (upd H dx (.own x)) x (.ins C dx [])) (λ v H2=>v=.non/\Q (.ref x) H2) E) :
  zib (zia X.prog X.w) X.A (call (.ref C) us) (EP X pins σ Q) (qjm9 X pins σ E) s:=by
 have hq:=h (s.heap.objs.size+1) s.heap.objs.size (I.hok.fresh (zfr _)) (I.hok.fresh (zaq _)) (zbo (zev _))
 have I2:=Inv.made (C:=C) I
 have r2:Vals (V.ref (s.heap.objs.size+1)::(vs++dvs)) (zhs.ref (s.heap.objs.size+1)::(us++ds)):=.cons rfl (r.append hd)
 have hl:(zhs.ref (s.heap.objs.size+1)::us++ds).length=ps.length:=by
  have e:=r2.length
  rw[F.len _ _ _ _ hq] at e
  exact e.symm
 refine zkb (qrd9 (f:=f) I.kIn M.makes M.init (beq_iff_eq.mp M.fn) (zjf (F.run _ X.stack _ _ ⟨zhs.ref (s.heap.objs.size+1)::us,[]⟩ (zhs.ref (s.heap.objs.size+1)::(us++ds)) _ _ E (hr.make C us [])
  (I2.env0.make C us []) (hb _ (zhs.ref (s.heap.objs.size+1)::us) I2.kIn hl) r2 hq) λ r s' hq'=>?_))
 cases r with
 |error e=>exact⟨_,_,I2,hq'⟩
 |ok fl =>
  cases fl with
  |ret u =>
   obtain⟨v,H',I3,rv,ev,q3⟩:=I2.after hq'
   subst ev
   exact⟨rv,⟨V.ref (s.heap.objs.size+1),H',I3,rfl,q3⟩⟩
  |next=>exact False.elim hq'
  |brk=>exact False.elim hq'
  |cont=>exact False.elim hq'
theorem qex_make(M:KCalX X.prog X.w X.K X.mg X.base k x C ps sp)(hr:Room (k+1) X.A)(hg:Gl X x)(ha:QA X.nox (e::es) t)(hdb:(x==("__debug__":Str))=false:=by decide)
  (he:qay9 e=true:=by rfl) (hpl:(ziu pos (zif es X.env)).any (·.1)=false:=by rfl):QEx X (.Call (.Name x p) (e::es) [] pos) (λ E=>tMake C sp [] E t):=⟨by
 obtain⟨⟨f,fd,mk,F,b⟩,m⟩:=M
 intro E pins s σ H Q I h
 refine zjb (qkx9 I hg m ?_ hdb)
 refine W.callWith_K (h₀:=X.base) I.ok.mod.kin mk.kp (zio (ha.run pos pins s σ H _ (I.wish _) h) (λ us s1 ⟨vs,H1,I1,r,q⟩=>⟨I1.kIn,?_⟩) λ _ _ z=>z.elim) (se_of he) hpl
 exact run_makeX mk F hr b .nil I1.unwish r q⟩
end
section
variable {i:Nat}{te:XK->TE}{pos':Pos}
theorem qsx_set(hN:X.N.Nodup)(hi:X.N[i]?=zhq x)(hx:Loc X.env.scope x)(he:QEx X e te)(hs:zjd e (zhq (.Name x pos')) pos.line X.env=pure false:=by rfl)(hf:X.fn x=true\/X.env.scope.names.lookup x=zhq .local:=by first|exact .inl rfl|exact .inr rfl|assumption) :
  QSx X [.Assign [.Name x pos'] e pos] (λ E=>tAsg (te E) (gName i)):=⟨by
 intro E pins s σ H D I h
 have key:zib (zia X.prog X.w) X.A (exec (.Assign [.Name x pos'] e pos) X.env) (SP X pins D) (qjm9 X pins σ E) s :=
  zmc (thn (he.run E pins s σ H _ I h) λ v s1 ⟨y,H1,I1,r1,q1⟩=>qiu9 I1 hN hi hx r1 (λ s2 I2=>⟨_,H1,I2,q1⟩) hf) hs
 refine zjm (thn key λ f s1 q=>?_)
 cases f with
 |next=>exact zjj q
 |ret v=>exact q
 |brk=>exact q
 |cont=>exact q⟩
end
open PySem.SeqAt PySem.MeetsSeq
section
variable {to:TE}{t:TA}
theorem rm_loop{a:zht}{ys:Array zhs}{sz:Nat}{v:zhs}{p:zhs->Bool}{j:Nat}(hj:j<ys.size)(hit:p ys[j]=true)(hl:ys.size<=zhu):∀(k i:Nat),j-i=k->i<=j->(∀m (hm:m<ys.size),m<j->p ys[m]=false) ->
  zmb (Builtin.«list.remove.loop» ⟨[.ref a,v,zky i],[]⟩) (λ A R s=>s.heap.get? a=zhq { cls:=.type "list",dict:=zhr,data:=.seq ys sz,slots:=#[] }/\(∀y,y∈ys->EqAt A.in1 s y v (p y))/\R (.ok (.ret .none)) { s with heap:=s.heap.update a (Obj.mapSeq λ xs=>xs.eraseIdxIfInBounds j) })
 |0,i,hk,hij,_=>λ prog w A R s ⟨e1,he,q⟩=>by
  obtain⟨hp,g,d,tk,os⟩:=s
  obtain rfl:i=j:=⋯
  wp_walk using wpAny_loadPart' e1
  rw[show ys[((i:Nat):Int).toNat]?=zhq ys[i] by simp[hj]]
  refine zhv (he _ (zgo hj) prog w _ _ ?_)
  rw[hit]
  have hz':(ys.eraseIdxIfInBounds i).size<=zhu+1:=zbj (size_erased ys _) (Nat.le_succ_of_le hl)
  wp_walk using (zmt e1 rfl (hz:=hl) (_hz':=hz')),wpAny_loadPart' e1
  simpa using q
 |k+1,i,hk,hij,hno=>λ prog w A R s ⟨e1,he,q⟩=>by
  obtain⟨hp,g,d,tk,os⟩:=s
  have lt:i<ys.size:=⋯
  wp_walk using wpAny_loadPart' e1
  rw[show ys[((i:Nat):Int).toNat]?=zhq ys[i] by simp[lt]]
  refine zhv (he _ (zgo lt) prog w _ _ ?_)
  rw[hno i lt ⋯]
  wp_walk
  rw[show((i:Int)+1)=((i+1:Nat):Int) by push_cast;rfl]
  refine⟨znm plain_remove_loop _,zks entry_remove_loop ?_⟩
  rw[zil.under_plainId plain_remove_loop _]
  exact rm_loop hj hit hl k (i+1) ⋯ ⋯ hno prog w A R _ ⟨e1,he,q⟩
theorem rm_at{a:zht}{ys:Array zhs}{sz:Nat}{v:zhs}{p:zhs->Bool}(hj:j<ys.size)(hit:p ys[j]=true)(hl:ys.size<=zhu)(hno:∀m (hm:m<ys.size),m<j->p ys[m]=false) :
  zmb (Builtin.«list.remove» ⟨[.ref a,v],[]⟩) (λ A R s=>s.heap.get? a=zhq { cls:=.type "list",dict:=zhr,data:=.seq ys sz,slots:=#[] }/\(∀y,y∈ys->EqAt A.in1 s y v (p y))/\R (.ok (.ret .none)) { s with heap:=s.heap.update a (Obj.mapSeq λ xs=>xs.eraseIdxIfInBounds j) }):=λ prog w A R s ⟨e1,he,q⟩=>by
 obtain⟨hp,g,d,tk,os⟩:=s
 wp_walk using wpAny_loadPart' e1
 refine⟨znm plain_remove_loop _,zks entry_remove_loop ?_⟩
 rw[zil.under_plainId plain_remove_loop _]
 exact rm_loop hj hit hl _ 0 rfl (zbx _) hno prog w A R _ ⟨e1,he,q⟩
structure FirstD(K:W.Frag)(H:Hp)(l:zht)(v:V)(xs:List V)(es:List zhw)(d:zhw)(j:Nat):Prop where
 at_:H l=zhq (.lst xs)
 all:RdAll K H xs es
 v:RdV K H v d
 c1:zhw.canLayAll0 es=true
 c2:d.canLay0=true
 dp:min (zhw.depthAll es) d.depth<=8
 fi:es.findIdx? (λ e=>zhw.eqv e d)=zhq j
theorem FirstD.on{pins:List (zht×Obj)}{σ:St}{H:Hp}{s:zhx}{l:zht}{v:V}{xs:List V}{es:List zhw}{d:zhw}{u:zhs}(h:FirstD X.K H l v xs es d j)(I:Inv X pins σ H s)(ru:RelV v u)(hu:X.A.units+64<zjw){its:List zhs}(r:Vals xs its) :
  ∃p:zhs->Bool,(∀y,y∈its.toArray->EqAt X.A.in1 s y u (p y))/\∃hj:j<its.toArray.size,p its.toArray[j]=true/\∀m (hm:m<its.toArray.size),m<j->p its.toArray[m]=false:=by
 obtain⟨as,rs⟩:=I.rdAll h.all its r
 obtain⟨bs,rb⟩:=I.rd h.v u ru
 have hm:=readsAll_map es its as h.c1 rs
 have dp:=h.dp
 obtain⟨hj,hit,hno⟩:=zcm.mp h.fi
 have ln:its.length=es.length:=by rw[<- hm,zac]
 have at_:∀(m:Nat)(h1:m<its.toArray.size)(h2:m<es.length),readOf s.heap its.toArray[m]=es[m]:=λ m h1 h2=>by
  have:es[m]?=(its.map (readOf s.heap))[m]?:=by rw[hm]
  rw[zad h2,zah,zad (by simpa using h1)] at this
  simpa using this.symm
 refine⟨_,items_eqAt (vs:=its.toArray) (by simpa using rs) rb h.c1 h.c2 ⋯,by simp;omega,?_,λ m hm' lt=>?_⟩
 ·rw[at_ _ _ hj]
  exact hit
 ·rw[at_ _ _ ⋯]
  simpa using hno m lt
inductive rRemoveD(K:W.Frag)(x:V)(vs:List V)(H:Hp)(Q:VK):Prop
 |mk (l:zht) (v:V) (xs:List V) (es:List zhw) (d:zhw) (j:Nat):x=.ref l->vs=[v]->FirstD K H l v xs es d j->Q .non (upd H l (.lst (xs.eraseIdx j)))->rRemoveD K x vs H Q
theorem qrx9(hu:X.A.units+64<zjw):MtR X "list.remove" (rRemoveD X.K):=by
 intro pins s σ H x vs v us Q I rx rv h
 obtain⟨l,z,xs,es,d,j,rfl,rfl,fd,q⟩:=h
 cases rx
 obtain⟨u,rfl,ru⟩:=rv.one
 obtain⟨hz,its,n,r,hl',e⟩:=I.lstM fd.at_
 obtain⟨p,he,hj,hit,hno⟩:=fd.on I ru hu r
 have l2:its.toArray.size=its.length:=by simp
 refine zja PySem.F.slot_list_remove ⟨_,e,rfl⟩ PySem.F.entry_list_remove (PySem.F.args_list_remove_2 _ _) (rm_at hj hit ⋯ hno) ⟨e,he,⟨.non,_,I.lset (its':=its.eraseIdx j) fd.at_ e ?_ (r.eraseIdx j) ?_,rfl,q⟩⟩
 ·show its.toArray.eraseIdxIfInBounds j=(its.eraseIdx j).toArray
  rw[List.eraseIdxIfInBounds_toArray]
 ·have:=qot9 xs j
  omega
theorem qtc9(K:W.Frag)(hK:X.K=K)(hu:X.A.units+64<zjw)(ho:QE X o to)(ha:QA X [e] t)(h:qay9 e=true:=by rfl)(hbase:zin o "remove" X.env (zii o X.env)=zii o X.env:=by rfl)(hline:(apos.endLine==pos.line)=true:=by rfl) :
  QE X (.Call (.Attribute o "remove" apos) [e] [] pos) (tBM K "list" (rRemoveD K) to t):=by
 subst hK
 exact⟨pe_bm PySem.F.plainAttrs_list PySem.F.slot_list_remove PySem.F.type_list_remove (qrx9 hu) ho.run ha.run hbase (by rw[se_of h];rfl) hline (se_of h) rfl⟩
inductive rInD(K:W.Frag)(x:V)(y:V)(H:Hp)(Q:VK):Prop
 |mk (d:_) (es:_):RdV K H x d->RdV K H y (.list es)->zhw.canLayAll0 es=true->d.canLay0=true->min (zhw.depthAll es) d.depth<=8->(Q (.bl (es.any λ e=>zhw.eqv e d)) H)->rInD K x y H Q
theorem qop_inDK(K:W.Frag)(hK:X.K=K)(hu:X.A.units+64<zjw):QOp X (zig .In) (rInD K):=by
 subst hK
 refine⟨?_⟩
 intro pins s σ H x y v u Q I rx ry h
 obtain⟨d,es,hd,he,c1,c2,dp,q⟩:=h
 obtain⟨as,ra⟩:=I.rd hd v rx
 obtain⟨bs,rb⟩:=I.rd he u ry
 exact SeqAt.in_list_reads rb ra c1 c2 ⋯ ⟨.bl _,H,I,rfl,q⟩
end
theorem qiq9:fillsNumberSlot (.type "tuple") "mul"=pure false :=
 PySem.fillsNumberSlot_seq (id := "tuple.__mul__") (r:=zhq (.builtin "tuple.__rmul__")) F.slot_tuple_mul.lookup (by decide +kernel) F.slot_tuple_rmul.lookup (by decide +kernel)
theorem qmz9:seqRepeat? (.type "tuple")=pure (zhq (.builtin "tuple.__mul__")):=by
 unfold seqRepeat?
 rw[PySem.seqSlot_of (T := "tuple") (name := "__mul__") (id := "tuple.__mul__") F.slot_tuple_mul.lookup (by decide +kernel),PySem.seqSlot_of (T := "tuple") (name := "__rmul__") (id := "tuple.__rmul__") F.slot_tuple_rmul.lookup (by decide +kernel)]
 rfl
theorem qkd9(a:Int)(t:Tok)(l:zht)(items:Array zhs)(n:Nat)(dd:Option zht)(sl:Array (Option zhs)) :
  zmb (Builtin.«int.__rmul__» ⟨[.int a t,.ref l],[]⟩) (λ _ R s=>s.heap.get? l=zhq { cls:=.type "tuple",dict:=dd,data:=.seq items n,slots:=sl }/\R (.ok (.ret zhs.notImplemented)) s) :=
 .of_wp λ prog w A R s h=>by obtain⟨hp,g,d,tk,os⟩:=s;obtain⟨hl,h⟩:=h;wp_walk;exact⟨_,rfl,h⟩
theorem qpd9(l:zht)(items:Array zhs)(n:Nat)(u:Tok)(dd:Option zht)(sl:Array (Option zhs)) :
  zmb (Builtin.«tuple.__mul__» ⟨[.ref l,.int 1 u],[]⟩) (λ _ R s=>s.heap.get? l=zhq { cls:=.type "tuple",dict:=dd,data:=.seq items n,slots:=sl }/\R (.ok (.ret (zhs.ref l))) s) :=
 .of_wp λ prog w A R s h=>by
  obtain⟨hp,g,d,tk,os⟩:=s;obtain⟨hl,h⟩:=h
  have f1:=AutoSeq1.idx_int;have f2:=AutoSeq1.sub_tuple_tuple
  wp_walk using AutoSeq1.wpAny_loadPart' hl
  exact⟨_,rfl,h⟩
theorem qqj9(l:zht)(items:Array zhs)(n:Nat)(x:Int)(u:Tok)(dd:Option zht)(sl:Array (Option zhs))(h2:2<=x)(hx:x<2 ^ 63)(hne:items.isEmpty=false)(hz:items.size*x.toNat<=zhu) :
  zmb (Builtin.«tuple.__mul__» ⟨[.ref l,.int x u],[]⟩) (λ _ R s=>s.heap.get? l=zhq { cls:=.type "tuple",dict:=dd,data:=.seq items n,slots:=sl }/\R (.ok (.ret (zhs.ref s.heap.objs.size))) { s with heap:=s.heap.push { cls:=zhs.type "tuple",data:=Data.seq (zfl (λ x1 x2=>x1++x2) #[] (zbc x.toNat items)) },toks:=s.toks }) :=
 .of_wp λ prog w A R s h=>by
  obtain⟨hp,g,d,tk,os⟩:=s;obtain⟨hl,h⟩:=h
  have f1:=AutoSeq1.idx_int;have f2:=AutoSeq1.sub_tuple_tuple
  have c0:¬(decide (x < -(2 ^ 63))||decide (x≥2 ^ 63))=true:=by simp;omega
  have c1:¬(items.isEmpty||x==1)=true:=by rw[hne];simp;omega
  have c2:¬(decide (x<=0)||items.isEmpty)=true:=by rw[hne];simp;omega
  have zz:(items.size:Int)*x=((items.size*x.toNat:Nat):Int):=by rw[Int.natCast_mul,Int.toNat_of_nonneg ⋯]
  have c3:¬(items.size:Int)*x>(2 ^ 63-1)/8:=by
   have:(zhu:Nat)<=(2 ^ 63-1)/8:=by decide
   rw[zz]
   omega
  have c4:Builtin.Tuple.tupleTooMany ((items.size:Int)*x)=false:=by unfold Builtin.Tuple.tupleTooMany;rw[zz];exact decide_eq_false ⋯
  wp_walk using AutoSeq1.wpAny_loadPart' hl
  refine zit (decide_eq_false c0) ?_
  wp_walk using AutoSeq1.wpAny_loadPart' hl
  refine zit (decide_eq_false c1) ?_
  wp_walk using AutoSeq1.wpAny_loadPart' hl
  refine zit (decide_eq_false c2) ?_
  wp_walk using AutoSeq1.wpAny_loadPart' hl
  refine zit (decide_eq_false c3) ?_
  wp_walk using AutoSeq1.wpAny_loadPart' hl
  refine zit (decide_eq_false (by rw[c4];decide)) ?_
  wp_walk using AutoSeq1.wpAny_loadPart' hl
  refine zit (decide_eq_false (by rw[AutoSeq1.size_joined,zhe x.toNat];simp;omega)) ?_
  wp_walk using AutoSeq1.wpAny_loadPart' hl
  exact⟨_,rfl,h⟩
inductive rRepT(K:W.Frag)(x:V)(y:V)(H:Hp)(Q:VK):Prop
 |mk (l:_) (k:_) (xs:_):x=.ref l->y=.int k->SqT K H l xs->xs≠[]->1<=k->k<2 ^ 63->xs.length*k.toNat<=zhu->((k=1->Q (.ref l) H))->((2<=k->∀p,H p=zhr->Q (.ref p) (upd H p (.tup (zbc k.toNat xs).flatten))))->rRepT K x y H Q
theorem op_repT:OpR X (zir .Mult) (rRepT X.K):=by
 intro pins s σ H x y v u Q I rx ry h
 obtain⟨l,k,xs,rfl,rfl,ha,hx,h1,h2,hz,q1,q2⟩:=h
 cases rx
 obtain⟨t,rfl⟩:=ry
 obtain⟨its,r,p,_⟩:=I.tuple ha
 obtain⟨⟨cls,dd,data,sl⟩,ho,hc,n,hd⟩:=id p
 simp only at hc hd
 subst hc hd
 refine wpAny_binaryOp_repeat_ref (T := "tuple") (U := "int") (by decide) ⟨_,ho,rfl⟩ (λ s'=>zmr s' k t) qiq9 F.fills_int_mul F.slot_int_rmul qmz9 F.slot_int_index.lookup
  (zja F.slot_int_rmul (zmr s k t) F.entry_int_rmul (F.args_int_rmul_2 _ _) (qkd9 k t l its.toArray n dd sl)
   ⟨ho,rfl,⟨_,ho,rfl⟩,?_⟩)
 by_cases e1:k=1
 ·subst e1
  exact zja F.slot_tuple_mul ⟨_,ho,rfl⟩ F.entry_tuple_mul (F.args_tuple_mul_2 _ _) (qpd9 l its.toArray n t dd sl) ⟨ho,.ref l,H,I,rfl,q1 rfl⟩
 ·have k2:2<=k:=⋯
  have ne:its≠[]:=λ z=>hx (r.nil_iff.mp z)
  have hnew:zfl (λ x1 x2=>x1++x2) #[] (zbc k.toNat its.toArray)=(zbc k.toNat its).flatten.toArray:=by
   have:=qnx9 its k.toNat []
   rw[zdx] at this
   exact this
  refine zja F.slot_tuple_mul ⟨_,ho,rfl⟩ F.entry_tuple_mul (F.args_tuple_mul_2 _ _) (qqj9 l its.toArray n k t dd sl k2 h2 (by cases its with|nil=>exact absurd rfl ne|cons _ _=>rfl) (by rw[zaw,<- r.length];exact hz)) ⟨ho,?_⟩
  rw[hnew]
  refine⟨.ref s.heap.objs.size,_,I.laid (t':=s.toks) (o:=.tup (zbc k.toNat xs).flatten) (λ b ob q=>zao _ q) (zaq _) ?_,rfl,q2 k2 _ (I.hok.fresh (zaq _))⟩
  exact⟨by rw[len_rep,zhe];exact hz,_,r.rep k.toNat,zml.new _ _⟩
theorem qqq9:QOp X (zir .Mult) (rRepT X.K):=⟨op_repT⟩
section
variable {to:TE}
inductive rUpper(x:V)(vs:List V)(H:Hp)(Q:VK):Prop
 |mk (z:_):x=.str z->vs=[]->(Txt.upper z).length<=1000->Q (.str (Txt.upper z)) H->rUpper x vs H Q
theorem mt_upper:MtR X "str.upper" rUpper:=by
 intro pins s σ H x vs v us Q I rx rv h
 obtain⟨z,rfl,rfl,hl,q⟩:=h
 obtain⟨t,rfl⟩:=rx
 have hus:=rv.zero
 subst hus
 have ht:Builtin.Str.tooLong (Txt.upper z).length=false:=decide_eq_false (Nat.not_lt.mpr (zbj hl (by decide)))
 exact W.KXw.upper rfl ht λ t' k=>⟨.str _,H,I.tok k,⟨_,rfl⟩,q⟩
theorem qe_upper0(ho:QE X o to)(hbase:zin o "upper" X.env (zii o X.env)=zii o X.env:=by rfl)(hline:(apos.endLine==pos.line)=true:=by rfl) :
  QE X (.Call (.Attribute o "upper" apos) [] [] pos) (tBM0 X.K "str" rUpper to):=⟨pe_bm0 PySem.F.plainAttrs_str PySem.F.slot_str_upper PySem.F.type_str_upper mt_upper ho.run hbase hline⟩
end
end L2
namespace My
open PySem L2
open PyProof.Rows (toString_length_le)
open Ma (T3 T4 rA rB rC)
variable {C CF CN aA aS cb cm cn co cp cr ct cw cx dx p r:zht}{CX:CXT}{X:Cx}{D:Ends}{fd:zik}{o:HO}{base:zic}{H H' H1:Hp}{T:Hp->Prop}{a b d j:Int}{σ:L2.St}{Cs:List (List T3)}{kvA kvS:List (Str×Tok×zhs)}{rs:List zht}{ks l names ts ws ys zs:List Str}{R:List T3}{vs:List V}{bm us:List zhs}{B c i m n:Nat}{wo:Option T3}{P:zih}{e qual s sep u' x y z:Str}{q:Str×Str}{mg:Str->Option zhs}{t1 t2 t3 t4:Tok}{Q:VK}{K:W.Frag}{E:XK}
theorem sC9{N p:List Str}{s:zjc}(h:FnScope N p s:=by exact⟨rfl,rfl,rfl,by decide +kernel,rfl,by decide +kernel,by decide +kernel⟩):FnScope N p s:=h
theorem qpm9:FnScope ["thing"] ["thing"] (qab9 qes9):=sC9
theorem qmx9:FnScope ["day","thing"] ["day","thing"] (qab9 qea9):=sC9
theorem qgw9:FnScope ["text","most_figures"] ["text","most_figures"] (qab9 qby9):=sC9
theorem qll9:FnScope ["text"] ["text"] (qab9 qer9):=sC9
theorem sc_read_ends:FnScope ["text","parts"] ["text"] (qab9 qcx9):=sC9
theorem sc_read_span:FnScope ["text","parts","a","b"] ["text"] (qab9 qcv9):=sC9
theorem sc_read_window:FnScope ["day","text","parts","span","ride","window"] ["day","text"] (qab9 qbv9):=sC9
theorem sc_read_day:FnScope ["text","parts","day"] ["text"] (qab9 qdl9):=sC9
theorem sc_read_board:FnScope ["day","words","board"] ["day","words"] (qab9 qcm9):=sC9
theorem qme9:FnScope ["names","name"] ["names","name"] (qab9 qdw9):=sC9
theorem sc_read_net:FnScope ["text","parts","day","names","roads","part","words","ends","board","start"] ["text"] (qab9 qdn9):=sC9
theorem qko9:FnScope ["a","b","c"] ["a","b","c"] (qab9 qcr9):=sC9
theorem qlq9:FnScope ["board"] ["board"] (qab9 qdb9):=sC9
theorem sc_show_road:FnScope ["start","end","board","windows"] ["start","end","board"] (qab9 qds9):=sC9
theorem qox9:FnScope ["day","names","roads"] ["day","names","roads"] (qab9 qek9):=sC9
theorem qjo9:FnScope ["words"] ["words"] (qab9 qdm9):=sC9
theorem sc_read_moment:FnScope ["word","moment"] ["word"] (qab9 qbx9):=sC9
theorem sc_read_turns:FnScope ["word","turns"] ["word"] (qab9 qck9):=sC9
theorem qhp9:FnScope ["kind","word"] ["kind","word"] (qab9 qcj9):=sC9
theorem qhq9:FnScope ["day","kind","word"] ["day","kind","word"] (qab9 qcn9):=sC9
theorem sc_read_row:FnScope ["day","row","words","shape","names","values","kind","word","named","found"] ["day","row"] (qab9 qdk9):=sC9
theorem qhy9:FnScope ["desk","places"] ["desk","places"] (qab9 qbo9):=sC9
theorem sc_open_row:FnScope ["desk","places","values","boards"] ["desk","places","values"] (qab9 qem9):=sC9
theorem sc_shut_row:FnScope ["desk","places","values","boards"] ["desk","places","values"] (qab9 qev9):=sC9
theorem qss9:FnScope ["desk","places","values"] ["desk","places","values"] (qab9 qfw9):=sC9
theorem qja9:FnScope ["script","k"] ["script","k"] (qab9 qce9):=sC9
theorem qpt9:FnScope ["cell"] ["cell"] (qab9 qeu9):=sC9
theorem qnf9:FnScope ["cell","room"] ["cell","room"] (qab9 qdo9):=sC9
theorem qnd9:FnScope ["cell","day"] ["cell","day"] (qab9 qdp9):=sC9
theorem sc__law_roads:FnScope ["script","day","size","goal","most","many","boards","k","a","b","at","roads","cell","here","there"] ["script","day","size","goal","most"] (qab9 qdd9):=sC9
theorem sc__law_word:FnScope ["cell","ahead","some","word","rest","k","sign"] ["cell","ahead"] (qab9 qdx9):=sC9
theorem sc__law_words:FnScope ["script","size","words","k"] ["script","size"] (qab9 qda9):=sC9
theorem qlo9:FnScope ["window"] ["window"] (qab9 qde9):=sC9
theorem sc__law_text:FnScope ["day","words","roads","text","here","there","board","parts","window"] ["day","words","roads"] (qab9 qdz9):=sC9
theorem sc__law_order:FnScope ["roads","order","here","there","board","place"] ["roads"] (qab9 qdc9):=sC9
theorem sc__law_said:FnScope ["desk","row","found","error","e","other","kinds"] ["desk","row"] (qab9 qdy9):=sC9
theorem sc__law_no_desk:FnScope ["text","error","e"] ["text"] (qab9 qci9):=sC9
theorem sc__law_no_desks:FnScope ["text","some"] ["text"] (qab9 qbt9):=sC9
theorem sc__law_no_rows:FnScope ["day","a","b","ways","some","far","word","late"] ["day","a","b"] (qab9 qcg9):=sC9
theorem sc__law_no_names:FnScope ["a","b","odd","ways","some"] ["a","b","odd"] (qab9 qbs9):=sC9
theorem sc__law_free:FnScope ["day","roads","ends","held","here","there","board","ride"] ["day","roads","ends"] (qab9 qdu9):=sC9
theorem qmj9:FnScope ["desk","row","text"] ["desk","row","text"] (qab9 qdt9):=sC9
theorem sc_law:FnScope ["script","day","size","roads","words","order","text","desk","cell","a","b","ends","odd","row"] ["script"] (qab9 qsg9):=sC9
theorem sc_Desk___init__:FnScope ["self","text","told"] ["self","text"] (qab9 qaw9):=sC9
theorem sc_Desk_say:FnScope ["self","row","found","answer"] ["self","row"] (qab9 qbp9):=sC9
theorem cx_k{w:zhy}{N:List Str}{scope:zjc}{f:zht}{cd:zhs}{A:zil}{outer:List Env}{s:zhx}:(cxOf CX P w K mg base N qual scope f cd A outer s H E).K=K:=rfl
theorem cx_kn{w:zhy}{N:List Str}{scope:zjc}{f:zht}{cd:zhs}{A:zil}{outer:List Env}{s:zhx}:(cxOf CX P w K mg base N qual scope f cd A outer s H E).nox.K=K:=rfl
theorem qal9{G:Hp->Prop}(h:H p=zhr)(k:∀H1,Same H H1->H1 p=zhq o->G H1):∀H1,upd H p o=H1->G H1:=λ _ e=>e ▸ k _ (qso9 h rfl).1 (qso9 h rfl).2
theorem bl_1(h:us.length=1):∃a0:zhs,us=[a0]:=match us,h with | [_],_=>⟨_,rfl⟩
theorem bl_2(h:us.length=2):∃a0 a1:zhs,us=[a0,a1]:=by
 cases us with
 |nil=>cases h
 |cons _ t =>
  obtain⟨_,rfl⟩:=bl_1 (us:=t) (Nat.succ.inj h)
  exact⟨_,_,rfl⟩
theorem bl_3(h:us.length=3):∃a0 a1 a2:zhs,us=[a0,a1,a2]:=by
 cases us with
 |nil=>cases h
 |cons _ t =>
  obtain⟨_,_,rfl⟩:=bl_2 (us:=t) (Nat.succ.inj h)
  exact⟨_,_,_,rfl⟩
theorem bl_4(h:us.length=4):∃a0 a1 a2 a3:zhs,us=[a0,a1,a2,a3]:=by
 cases us with
 |nil=>cases h
 |cons _ t =>
  obtain⟨_,_,_,rfl⟩:=bl_3 (us:=t) (Nat.succ.inj h)
  exact⟨_,_,_,_,rfl⟩
theorem bl_5(h:us.length=5):∃a0 a1 a2 a3 a4:zhs,us=[a0,a1,a2,a3,a4]:=by
 cases us with
 |nil=>cases h
 |cons _ t =>
  obtain⟨_,_,_,_,rfl⟩:=bl_4 (us:=t) (Nat.succ.inj h)
  exact⟨_,_,_,_,_,rfl⟩
theorem qax9(env:Env):(ziw [] env).length=0:=rfl
theorem qaq9(x:Str)(p:Pos)(l:List Expr)(env:Env):(ziw (.Name x p::l) env).length=(ziw l env).length+1:=rfl
inductive spLaw(K:W.Frag)(tabs:List (zht×zht))(vs:List V)(H:Hp)(Q:VK)(z3q:XK):Prop
 |mk (a:zht) (ns:List Int):vs=[.ref a]->SqL K H a (ns.map V.int)->ns.length<=63->((∀t∈tabs,H t.2=zhq (.tbl #[])))->(∀H',Q (.bl true) H')->spLaw K tabs vs H Q z3q
theorem qfj9(x:Int){m:Int}(h:0<m):0<=x%m/\x%m<m:=⟨zdp x ⋯,zdb x h⟩
structure Bl(mg:Str->Option zhs):Prop where
 len:mg "len"=zhr
 max:mg "max"=zhr
 min:mg "min"=zhr
 all:mg "all"=zhr
 any:mg "any"=zhr
 zip:mg "zip"=zhr
 range:mg "range"=zhr
 enumerate:mg "enumerate"=zhr
 isinstance:mg "isinstance"=zhr
 bool_:mg "bool"=zhr
 int_:mg "int"=zhr
 tuple_:mg "tuple"=zhr
 list_:mg "list"=zhr
 str_:mg "str"=zhr
section
variable {w:zhy}{f:zht}
theorem qoy9(F:Fun K "is_whole" "is_whole" qes9 f fd)(B:Bl mg):FnOk P w K mg base CX0 (n+1) f fd ["thing"] spIsWhole:=by
 refine F.okQ qpm9 (λ vs H Q E h=>?_) (λ cdv A outer s H vs Q E hr h=>?_)
 ·obtain⟨_,rfl,_⟩:=h
  rfl
 obtain⟨x,rfl,dv,q⟩:=h
 refine⟨_,(qae9 (qam9 (qpc9 (qe_cb qfg9 rfl B.isinstance qap9 (qa_c (qv 0) (qa_c (qe_ty "int" rfl B.int_ bt_int) qac9))) (qlw9 (qe_not (qe_cb qfg9 rfl B.isinstance qap9 (qa_c (qv 0) (qa_c (qe_ty "bool" rfl B.bool_ bt_bool) qac9)))))))),?_⟩
 walk_at "d"
 cases dv with
 |non=>exact⟨_,rfl,_,"int",_,_,rfl,.non,rfl,_,rfl,iteF q⟩
 |bl b=>exact⟨_,rfl,_,"int",_,_,rfl,.bl _,rfl,_,rfl,iteT ⟨_,rfl,_,"bool",_,_,rfl,.bl _,rfl,_,rfl,q⟩⟩
 |int i=>exact⟨_,rfl,_,"int",_,_,rfl,.int _,rfl,_,rfl,iteT ⟨_,rfl,_,"bool",_,_,rfl,.int _,rfl,_,rfl,q⟩⟩
 |str z=>exact⟨_,rfl,_,"int",_,_,rfl,.str _,rfl,_,rfl,iteF q⟩
 |lst e=>exact⟨_,rfl,_,"int",_,_,rfl,.lst e,rfl,_,rfl,iteF q⟩
 |tup e=>exact⟨_,rfl,_,"int",_,_,rfl,.tup e,rfl,_,rfl,iteF q⟩
theorem qne9(F:Fun K "is_window" "is_window" qea9 f fd)(B:Bl mg)(Cx0:Callee P w K mg base n "is_whole" ["thing"] spIsWhole):FnOk P w K mg base CX0 (n+1) f fd ["day","thing"] spWindow:=by
 refine F.okQ qmx9 (λ vs H Q E h=>?_) (λ cdv A outer s H vs Q E hr h=>?_)
 ·obtain⟨_,_,rfl,_⟩:=h
  rfl
 obtain⟨day,x,rfl,dv,q⟩:=h
 refine⟨_,(qaa9 (qs_if (QW.pt (qw_or (qdj9 (qct9 (qe_cb qfg9 rfl B.isinstance qap9 (qa_c (qv 1) (qa_c (qe_ty "tuple" rfl B.tuple_ bt_tuple) qac9))))) (qeq9 (qar9 qkf9 (qe_cb qbg9 rfl B.len qeb9 (qa_c (qv 1) qac9)) qaf9 (qbb9 _))))) (qae9 (qam9 qe_bl)) qan9) (qaa9 (qs_if (qdj9 (qct9 (qe_cb (qex9 rfl) rfl B.all qlt9 (qa_c (qdv9 ["part"] [zhr] (BlkOk.of rfl rfl (SubL.to subN) rfl) rfl (qi_tup (qv 1)) (λ _ _ _ _=>(qat9 (i:=0) (show(["part"]:List Str).Nodup by decide) rfl (zai rfl))) (λ _ _ _ _=>qdh9) (λ _ _ _ _=>(qe_fn Cx0 hr rfl (qa_c (qv 0) qac9)))) qac9)))) (qae9 (qam9 qe_bl)) qan9) (qae9 (qam9 (qpc9 (qe_chain3 qdi9 qdi9 qop_lt qaf9 (qe_ix qas9 (qv 1) qaf9 (λ _ _=>rfl)) (qe_ix qas9 (qv 1) qaf9 (λ _ _=>rfl)) (qv 0)) (qlw9 (qfo9 qop_ge (qe_ix qas9 (qv 1) qaf9 (λ _ _=>rfl)) qaf9 (qbb9 _)))))))),?_⟩
 walk_at "d"
 obtain⟨t,hty,hk⟩:=dv.1.isTup (K:=K)
 have q0:winV H day x=false->∀H',Same H H'->Q (.bl false) H':=λ e H' s=>by
  have:=q H' s
  rw[e] at this
  exact this
 cases ht:tupV H x with
 |none =>
  rw[ht] at hk
  have hw:winV H day x=false:=by unfold winV;rw[ht]
  exact⟨_,rfl,_,"tuple",t,_,rfl,hty,hk,_,rfl,iteT (iteT (q0 hw _ (Same.refl H)))⟩
 |some xs =>
  rw[ht] at hk
  have hwl:winV H day x=winL day xs:=by unfold winV;rw[ht]
  have dz:=dv.2 xs ht
  obtain⟨r,rfl,er⟩:=tupV_at ht
  refine⟨_,rfl,_,"tuple",t,_,rfl,hty,hk,_,rfl,iteF ?_⟩
  refine⟨_,rfl,r,xs,rfl,.inr (SqT.of er),rfl,_,rfl,?_⟩
  by_cases hl:xs.length=3
  ·obtain⟨u,v,w',rfl⟩:=three hl
   refine iteN (by simp) ?_
   refine⟨_,rfl,r,rfl,⟨_,SqT.of er⟩,?_⟩
   refine comp_tup0 (K:=K) (a:=r) (xs:=[u,v,w']) (λ D i H'=>Same H H'/\H' D=zhq (.lst ((([u,v,w']:List V).take i).map λ y=>V.bl (isWh y)))) (λ D hD=>⟨qbc9 hD _,qaj9⟩) (λ D i H' _ _ h=>SqT.of (h.1 _ _ er)) ?_ ?_
   ·intro D i y H' hD hi z9;obtain⟨s2,hD2⟩ := z9
    refine⟨λ k v' e=>?_,_,rfl,y,rfl,(dz y (zaf hi)).same s2,_,hD2,(by rw[zac,zbd];exact small1000 (by simp;omega)),λ b o eb=>?_,?_⟩
    ·match k,e with
     |0,e=>cases e
     |k+1,e=>cases e
    ·rw[qao9 (qbe9 eb hD)]
     exact s2 _ _ eb
    ·rw[qaj9,qhz9 _ hi]
   ·intro D H' hD z9;obtain⟨s2,hD2⟩ := z9
    have eD:H' D=zhq (.lst (([isWh u,isWh v,isWh w']:List Bool).map V.bl)):=hD2
    refine⟨D,_,rfl,SqL.of eD,_,rfl,?_⟩
    refine ite2 (λ c=>?_) (λ c=>?_)
    ·refine q0 ?_ H' s2
     rw[hwl]
     have c':(isWh u&&(isWh v&&isWh w'))=false:=by cases hu:isWh u<;>cases hv:isWh v<;>cases hw:isWh w'<;>simp[hu,hv,hw] at c ⊢
     unfold winL
     split
     ·rename_i a b c e
      cases e
      exact absurd c' (by simp[isWh])
     ·rfl
    ·have c':isWh u=true/\isWh v=true/\isWh w'=true:=by simpa using c
     obtain⟨a,rfl⟩:=qnb9 c'.1
     obtain⟨b,rfl⟩:=qnb9 c'.2.1
     obtain⟨c3,rfl⟩:=qnb9 c'.2.2
     have q1:=q H' s2
     rw[hwl] at q1
     have er':=s2 _ _ er
     unfold winL at q1
     dsimp only at q1
     refine⟨_,rfl,r,_,_,_,rfl,rfl,SqT.of er',rfl,_,_,rfl,rfl,_,rfl,?_⟩
     refine ite2 (λ c1=>?_) (λ c1=>?_)
     ·rw[c1,zcw] at q1
      refine⟨_,rfl,r,_,_,_,rfl,rfl,SqT.of er',rfl,_,_,rfl,rfl,_,rfl,?_⟩
      refine ite2 (λ c2=>?_) (λ c2=>?_)
      ·rw[c2,zcw] at q1
       refine⟨_,rfl,_,_,rfl,rfl,_,rfl,?_⟩
       refine ite2 (λ c3=>?_) (λ c3=>?_)
       ·rw[c3,zcw] at q1
        exact⟨_,rfl,r,_,_,_,rfl,rfl,SqT.of er',rfl,_,_,rfl,rfl,q1⟩
       ·rw[zbp.mpr c3,zdq] at q1
        exact q1
      ·rw[zbp.mpr c2,zdq] at q1
       exact⟨_,rfl,iteF q1⟩
     ·rw[zbp.mpr c1,zdq] at q1
      exact⟨_,rfl,iteF q1⟩
  ·refine iteP (by simp;omega) (q0 ?_ _ (Same.refl H))
   rw[hwl]
   unfold winL
   split
   ·rename_i e
    exact absurd rfl hl
   ·rfl
theorem ok_cell(F:Fun K "_law_cell_at" "_law_cell_at" qce9 f fd)(B:Bl mg):FnOk P w K mg base CX0 (n+1) f fd ["script","k"] (spCell K):=by
 refine F.okQ qja9 (λ vs H Q E h=>?_) (λ cdv A outer s H vs Q E hr h=>?_)
 ·obtain⟨_,_,_,rfl,_⟩:=h
  rfl
 obtain⟨a,ns,k,rfl,hS,h0,q⟩:=h
 refine⟨_,(qaa9 (qs_if (qar9 qop_lt (qv 1) (qe_cb qbg9 rfl B.len qeb9 (qa_c (qv 0) qac9)) (qbb9 _)) (qae9 (qam9 (qe_ix qau9 (qv 0) (qv 1) (λ _ _=>rfl)))) qan9) (qae9 (qam9 qaf9))),?_⟩
 walk_at "d"
 have hl:(ns.map V.int).length=ns.length:=zac _
 refine⟨_,rfl,_,rfl,a,_,rfl,.inl hS,_,_,rfl,rfl,_,rfl,?_⟩
 refine ite2 (λ c=>?_) (λ c=>?_)
 ·have c':k<(((ns.map V.int).length:Nat):Int):=of_decide_eq_true c
  rw[hl] at c'
  obtain⟨v,hv⟩:=at_int (ns:=ns) h0 ⋯
  exact⟨_,rfl,_,rfl,a,_,_,_,rfl,rfl,hS,hv,q v⟩
 ·exact q 0
inductive spStay(vs:List V)(H:Hp)(Q:VK)(z3q:XK):Prop
 |mk (cell room:Int):vs=[.int cell,.int room]->0<room->(∀s:Int,0<=s->s<room->Q (.int s) H)->spStay vs H Q z3q
theorem menu7{c e f g:Int}{ok:Int->Prop}(ha:ok a)(hb:ok b)(hc:ok c)(hd:ok d)(he:ok e)(hf:ok f)(hg:ok g)(h0:0<=j)(h1:j<7):∃v:Int,atI [V.int a,V.int b,V.int c,V.int d,V.int e,V.int f,V.int g] j=zhq (.int v)/\ok v:=by
 rcases(by omega:j=0\/j=1\/j=2\/j=3\/j=4\/j=5\/j=6) with rfl|rfl|rfl|rfl|rfl|rfl|rfl
 ·exact⟨a,rfl,ha⟩
 ·exact⟨b,rfl,hb⟩
 ·exact⟨c,rfl,hc⟩
 ·exact⟨d,rfl,hd⟩
 ·exact⟨e,rfl,he⟩
 ·exact⟨f,rfl,hf⟩
 ·exact⟨g,rfl,hg⟩
theorem ok_dayB(F:Fun K "_law_day" "_law_day" qeu9 f fd):FnOk P w K mg base CX0 (n+1) f fd ["cell"] spDay:=by
 refine F.okQ qpt9 (λ vs H Q E h=>?_) (λ cdv A outer s H vs Q E hr h=>?_)
 ·obtain⟨_,rfl,_⟩:=h
  rfl
 obtain⟨c,rfl,q⟩:=h
 refine⟨_,(qaa9 (qs_if (qar9 qef9 (qe_op qbj9 (qv 0) qaf9) qaf9 (qbb9 _)) (qae9 (qam9 (qe_op qbu9 qaf9 (qe_op qbj9 (qe_op qbm9 (qv 0) qaf9) (qe_op qji9 qaf9 qaf9))))) qan9) (qae9 (qam9 (qe_ix qau9 (qbi9 (qa_c qaf9 (qa_c qaf9 (qa_c qaf9 (qa_c qaf9 (qa_c qaf9 (qa_c (qe_op qbu9 (qe_op qji9 qaf9 qaf9) qaf9) (qa_c (qe_op qji9 qaf9 qaf9) qac9)))))))) (qe_op qbj9 (qv 0) qaf9) (λ _ _=>rfl))))),?_⟩
 walk_at "d"
 refine⟨_,rfl,_,_,rfl,rfl,(by show(0:Int)<8;decide),rfl,_,rfl,?_⟩
 have em:=qfj9 c (show(0:Int)<8 by decide)
 refine ite2 (λ z=>?_) (λ z=>?_)
 ·refine⟨_,rfl,_,_,rfl,rfl,⟨by decide,by decide⟩,_,_,rfl,rfl,⟨by decide,by decide,by decide⟩,_,_,rfl,rfl,(by show(0:Int)<10 ^ (15:Int).toNat;rw[pow15];decide),_,_,rfl,rfl,?_⟩
  have e15:=qfj9 (c/8) (show(0:Int)<10 ^ (15:Int).toNat by rw[pow15];decide)
  have e16:=e15.2
  rw[pow15] at e16
  refine q _ H ⋯ ?_ (Same.refl H)
  have:c/8%10 ^ (15:Int).toNat<1000000000000000:=by
   have:=e15.2
   generalize c/8%10 ^ (15:Int).toNat=u at *
   rw[pow15] at this
   exact this
  omega
 ·have z':¬c%8=7:=λ y=>z (decide_eq_true (by show V.int (c%8)=V.int 7;rw[y]))
  refine⟨_,_,rfl,rfl,⟨by decide,by decide,by decide⟩,_,_,rfl,rfl,_,_,rfl,rfl,⟨by decide,by decide,by decide⟩,(by show 7<=zhu;decide),λ p hp=>?_⟩
  generalize hgH1:upd _ p _=H1
  revert H1
  refine qal9 hp λ H1 s1 e1=>?_
  obtain⟨v,hv,v1,v2⟩:=menu7 (ok:=λ v=>1<=v/\v<=1000000000000000) (a:=1) (b:=2) (c:=24) (d:=12) (e:=1440) (f:=10 ^ (9:Int).toNat+7) (g:=10 ^ (15:Int).toNat) (j:=c%8) (by decide) (by decide) (by decide) (by decide) (by decide) (by decide +kernel) (by decide +kernel) em.1 ⋯
  exact⟨_,rfl,_,_,rfl,rfl,(by show(0:Int)<8;decide),p,_,_,.int v,rfl,rfl,SqL.of e1,hv,q v H1 v1 v2 s1⟩
theorem ok_stay(F:Fun K "_law_stay" "_law_stay" qdo9 f fd)(B:Bl mg):FnOk P w K mg base CX0 (n+1) f fd ["cell","room"] spStay:=by
 refine F.okQ qnf9 (λ vs H Q E h=>?_) (λ cdv A outer s H vs Q E hr h=>?_)
 ·obtain⟨_,_,rfl,_⟩:=h
  rfl
 obtain⟨c,room,rfl,r0,q⟩:=h
 refine⟨_,(qaa9 (qs_if (qar9 qef9 (qe_op qbj9 (qv 0) qaf9) qaf9 (qbb9 _)) (qae9 (qam9 qaf9)) qan9) (qaa9 (qs_if (qar9 qef9 (qe_op qbj9 (qv 0) qaf9) qaf9 (qbb9 _)) (qae9 (qam9 (qe_op qbj9 (qe_op qbm9 (qv 0) qaf9) (qe_cb (qkj9 rfl) rfl B.min bt_min (qa_c qaf9 (qa_c (qv 1) qac9)))))) qan9) (qae9 (qam9 (qe_op qbj9 (qe_op qbm9 (qv 0) qaf9) (qv 1)))))),?_⟩
 walk_at "d"
 refine⟨_,rfl,_,_,rfl,rfl,(by show(0:Int)<3;decide),rfl,_,rfl,?_⟩
 refine ite2 (λ z=>q 0 (zbq _) r0) (λ z=>?_)
 refine⟨_,rfl,_,_,rfl,rfl,(by show(0:Int)<3;decide),rfl,_,rfl,?_⟩
 refine ite2 (λ z=>?_) (λ z=>?_)
 ·have m0:(0:Int)<(if room<4 then room else 4):=by split<;>omega
  have em:=qfj9 (c/3) m0
  refine⟨_,rfl,_,_,rfl,rfl,⟨by decide,by decide⟩,_,rfl,_,_,rfl,_,_,rfl,rfl,m0,q _ em.1 ?_⟩
  have:(if room<4 then room else 4)<=room:=by split<;>omega
  show c/3%(if room<4 then room else 4)<room
  omega
 ·have em:=qfj9 (c/3) r0
  exact⟨_,rfl,_,_,rfl,rfl,⟨by decide,by decide⟩,_,rfl,_,_,rfl,rfl,r0,q _ em.1 em.2⟩
end
abbrev RdT:=Int×Int×zht×List T3
variable {M M' N N':List RdT}
def keyN(m:RdT):Int×Int×zht:=(m.1,m.2.1,m.2.2.1)
def encK(k:Int×Int×zht):List V:=[.int k.1,.int k.2.1,.ref k.2.2]
def datN(m:RdT):zhw:=.tuple [.int m.1,.int m.2.1,datB m.2.2.2]
structure NA(H:Hp)(p:zht)(N:List RdT):Prop where
 la:LA encK H p (N.map keyN)
 bd:∀m∈N,LA enc3 H m.2.2.1 m.2.2.2/\m.2.2.1≠p
 nd:(N.map λ m=>m.2.2.1).Nodup
section
variable {b:zht}{s e:Int}{us:List V}
theorem NA.nil(h:H p=zhq (.lst [])):NA H p []:=⟨LA.nil h,(λ m hm=>by cases hm),List.Pairwise.nil⟩
theorem NA.mono(h:NA H p N)(s:∀b o,H b=zhq o->(∀z,o ≠ .tbl z)->H' b=zhq o):NA H' p N:=⟨h.la.mono s,λ m hm=>⟨(h.bd m hm).1.mono s,(h.bd m hm).2⟩,h.nd⟩
theorem NA.same(h:NA H p N)(s:Same H H'):NA H' p N:=h.mono λ b o e _=>s b o e
theorem NA.fresh(h:NA H p N)(fb:H b=zhr):b≠p/\b∉N.map λ m=>m.2.2.1:=by
 refine⟨λ z=>?_,λ hm=>?_⟩
 ·obtain⟨vs,h1,_⟩:=h.la.lst
  rw[<- z,fb] at h1
  cases h1
 ·obtain⟨m,hm',e⟩:=zas.mp hm
  obtain⟨vs,h1,_⟩:=(h.bd m hm').1.lst
  rw[e,fb] at h1
  cases h1
theorem NA.snoc(h:NA H p N)(fb:b≠p/\b∉N.map λ m=>m.2.2.1)(hx:H p=zhq (.lst vs))(hb:H b=zhq (.lst []))(hr:H r=zhq (.tup [.int s,.int e,.ref b])):NA (upd H p (.lst (vs++[.ref r]))) p (N++[(s,e,b,[])]):=by
 refine⟨?_,λ m hm=>?_,?_⟩
 ·rw[zaj]
  exact h.la.append (x:=(s,e,b)) hx hr
 ·rcases zak.mp hm with hm|hm
  ·obtain⟨h1,h2⟩:=h.bd m hm
   exact⟨qcd9 h1 hx h2,h2⟩
  ·rw[zae] at hm
   subst hm
   exact⟨LA.nil (by rw[qao9 fb.1];exact hb),fb.1⟩
 ·rw[zaj]
  refine zcx.mpr ⟨h.nd,by simp,λ x hx y hy=>?_⟩
  simp only[zbh,zei,zae] at hy
  subst hy
  exact λ z=>fb.2 (z ▸ hx)
theorem NA.push{x:T3}(h:NA H p (N++[(s,e,b,R)]))(hb:H b=zhq (.lst us))(hr:H r=zhq (.tup (enc3 x))):NA (upd H b (.lst (us++[.ref r]))) p (N++[(s,e,b,R++[x])]):=by
 have hl:=h.bd (s,e,b,R) (by simp)
 have nd:=h.nd
 rw[zaj] at nd
 obtain⟨nd1,_,nd2⟩:=zcx.mp nd
 refine⟨?_,λ m hm=>?_,?_⟩
 ·have:=qcd9 (ys:=us++[.ref r]) h.la hb (Ne.symm hl.2)
  rw[zaj] at this ⊢
  exact this
 ·rcases zak.mp hm with hm|hm
  ·obtain⟨h1,h2⟩:=h.bd m (zbi _ hm)
   exact⟨qcd9 h1 hb (nd2 _ (zas.mpr ⟨m,hm,rfl⟩) _ (by simp)),h2⟩
  ·rw[zae] at hm
   subst hm
   exact⟨hl.1.append (x:=x) hb hr,hl.2⟩
 ·have:=h.nd
  rw[zaj] at this ⊢
  exact this
theorem NA.rd(h:NA H p N):RdV K H (.ref p) (.list (N.map datN)):=by
 obtain⟨rs,h1,h2,h3⟩:=h.la.ex
 refine .lst (SqL.of h1) ?_
 have go:∀(rs:List zht)(N:List RdT),rs.length=N.length->(∀(i:Nat) r x,rs[i]?=zhq r->(N.map keyN)[i]?=zhq x->H r=zhq (.tup (encK x)))->(∀m∈N,LA enc3 H m.2.2.1 m.2.2.2)->RdAll K H (rs.map V.ref) (N.map datN):=by
  intro rs
  induction rs with
  |nil =>
   intro N hl _ _
   cases N with
   |nil=>exact .nil
   |cons x N=>cases hl
  |cons r rs ih =>
   intro N hl g gb
   cases N with
   |nil=>cases hl
   |cons m N=>exact .cons (.tup (SqT.of (g 0 r (keyN m) rfl rfl)) (.cons (.int _) (.cons (.int _) (.cons (rd3 (gb m (by simp))) .nil)))) (ih N (by simpa using hl) (λ i r' x' e1 e2=>g (i+1) r' x' (by simpa using e1) (by simpa using e2)) λ m' hm'=>gb m' (zal _ hm'))
 exact go rs N (by rw[h2,zac]) h3 λ m hm=>(h.bd m hm).1
theorem NA.last(h:NA H p (N++[(s,e,b,R)])):∃(vs:List V)(r:zht),H p=zhq (.lst vs)/\atI vs (-1)=zhq (.ref r)/\H r=zhq (.tup [.int s,.int e,.ref b]):=by
 obtain⟨vs,hv1,hv2,hv3⟩:=h.la.lst
 have vl:vs.length=N.length+1:=by rw[hv2];simp
 have vne:vs≠[]:=λ e=>by rw[e] at vl;simp at vl
 obtain⟨r,x,e1,e2,e3⟩:=hv3 N.length _ (zad ⋯)
 have e2':(s,e,b)=x:=by simpa [keyN] using e2
 subst e2'
 exact⟨vs,r,hv1,by rw[qtf9 vne,show vs.length-1=N.length by omega,zad ⋯,e1],e3⟩
end
def RoadsIn(day size:Int)(N:List RdT):Prop:=∀m∈N,(0<=m.1/\m.1<size)/\(0<=m.2.1/\m.2.1<size)/\m.2.2.2.length<=16/\∀w∈m.2.2.2,0<=w.1/\w.1<=w.2.1/\w.2.1<day/\1<=w.2.2/\w.2.2<=1000000000000000
def NFr(H:Hp)(N:List RdT):Prop:=∀m∈N,H m.2.2.1=zhr
theorem NFr.snoc{m:RdT}(h:NFr H N)(e:H m.2.2.1=zhr):NFr H (N++[m]):=λ x hx=>by
 rcases zak.mp hx with hx|hx
 ·exact h x hx
 ·rw[zae] at hx
  subst hx
  exact e
theorem NA.add{b:zht}{s e:Int}(h:NA H p N)(fb:b≠p/\b∉N.map λ m=>m.2.2.1)(hx:H p=zhq (.lst vs))(hb:LA enc3 H b R)(hr:H r=zhq (.tup [.int s,.int e,.ref b])):NA (upd H p (.lst (vs++[.ref r]))) p (N++[(s,e,b,R)]):=by
 refine⟨?_,λ m hm=>?_,?_⟩
 ·rw[zaj]
  exact h.la.append (x:=(s,e,b)) hx hr
 ·rcases zak.mp hm with hm|hm
  ·obtain⟨h1,h2⟩:=h.bd m hm
   exact⟨qcd9 h1 hx h2,h2⟩
  ·rw[zae] at hm
   subst hm
   exact⟨qcd9 hb hx fb.1,fb.1⟩
 ·rw[zaj]
  refine zcx.mpr ⟨h.nd,by simp,λ x hx y hy=>?_⟩
  simp only[zbh,zei,zae] at hy
  subst hy
  exact λ z=>fb.2 (z ▸ hx)
def strip(m:RdT):Int×Int×List T3:=(m.1,m.2.1,m.2.2.2)
def winT(w:T3):Str:=if w.1<w.2.1 then zbr++(zbv (toString w.1))++"-"++(zbv (toString w.2.1))++"+"++(zbv (toString w.2.2)) else zbr++(zbv (toString w.1))++"+"++(zbv (toString w.2.2))
def qqw9(R:List T3):Str:=Txt.join " " (R.map winT)
def roadT(s e:Str)(R:List T3):Str:=if R=[] then zbr++s++">"++e else zbr++s++">"++e++" "++qqw9 R
def nmT(names:List Str)(i:Int):Str:=names.getD i.toNat zbr
def roadN(names:List Str)(m:RdT):Str:=roadT (nmT names m.1) (nmT names m.2.1) m.2.2.2
def netT(day:Int)(names:List Str)(N:List RdT):Str:=Txt.join "; " ((zbr++"day "++(zbv (toString day)))::N.map (roadN names))
def Sm(x:Int):Prop:=0<=x/\x<10000000000000000
def SmW(R:List T3):Prop:=∀w∈R,Sm w.1/\Sm w.2.1/\Sm w.2.2
theorem Sm.len{x:Int}(h:Sm x):(zbv (toString x)).length<=16:=toString_length_le h.1 (by decide) (by have:=h.2;have e:(10:Int) ^ 16=10000000000000000:=(by decide);rw[e];exact this)
theorem Sm.log{x:Int}(h:Sm x):x.natAbs.log2<1920:=by
 rcases zek x.natAbs with z|z
 ·rw[z];decide
 ·rw[zhf ⋯]
  have h1:x.natAbs<10000000000000000:=by have:=h.1;have:=h.2;omega
  exact zba h1 (zbj (by decide:10000000000000000<=2 ^ 54) (Nat.pow_le_pow_right (by decide) (by decide)))
theorem L.le(h:n<=16000000):n<=zhu:=zfh (qbq9 h)
theorem qav9:Str.empty.length=0:=rfl
theorem qgp9{w:T3}(h:Sm w.1/\Sm w.2.1/\Sm w.2.2):(winT w).length<=50:=by
 have h1:=h.1.len
 have h2:=h.2.1.len
 have h3:=h.2.2.len
 have e1:("-":Str).length=1:=by decide
 have e2:("+":Str).length=1:=by decide
 unfold winT
 split<;>simp only[zaa,qav9,e1,e2]<;>omega
theorem qke9(hB:∀y∈ts,y.length<=B)(h:ts.length*B+ts.length*sep.length<=16777216):JoinOk sep ts=true:=by
 unfold JoinOk
 rw[StrLaws.joinFits hB h]
 rfl
theorem join_len(hB:∀y∈ts,y.length<=B):(Txt.join sep ts).length<=ts.length*B+ts.length*sep.length:=by
 unfold Txt.join
 rw[StrLaws.glued_eq_join]
 have h1:=StrLaws.join_length_le sep ts
 have h2:=StrLaws.sumLen_le ts hB
 omega
theorem qlp9(h:SmW R)(hl:R.length<=100):(qqw9 R).length<=5100:=by
 have e1:(" ":Str).length=1:=by decide
 have:=join_len (sep := " ") (ts:=R.map winT) (B:=50) λ y hy=>by
  obtain⟨w,hw,rfl⟩:=zas.mp hy
  exact qgp9 (h w hw)
 rw[zac,e1] at this
 unfold qqw9
 omega
theorem qkn9(h:SmW R)(hl:R.length<=100)(hs:s.length<=100)(he:e.length<=100):(roadT s e R).length<=5400:=by
 have e1:(" ":Str).length=1:=by decide
 have e2:(">":Str).length=1:=by decide
 have hb:=qlp9 h hl
 unfold roadT
 split<;>simp only[zaa,qav9,e1,e2]<;>omega
inductive spShowW(vs:List V)(H:Hp)(Q:VK)(z3q:XK):Prop
 |mk (a b c:Int):vs=[.int a,.int b,.int c]->Sm a->Sm b->Sm c->Q (.str (winT (a,b,c))) H->spShowW vs H Q z3q
inductive spShowB(vs:List V)(H:Hp)(Q:VK)(z3q:XK):Prop
 |mk (p:zht) (R:List T3):vs=[.ref p]->LA enc3 H p R->SmW R->R.length<=5000->(∀H',Same H H'->Q (.str (qqw9 R)) H')->spShowB vs H Q z3q
inductive spShowR(vs:List V)(H:Hp)(Q:VK)(z3q:XK):Prop
 |mk (s e:Str) (p:zht) (R:List T3):vs=[.str s,.str e,.ref p]->s.length<=100->e.length<=100->LA enc3 H p R->SmW R->R.length<=100->(∀H',Same H H'->Q (.str (roadT s e R)) H')->spShowR vs H Q z3q
structure NetTx(names:List Str)(N:List RdT):Prop where
 few:N.length<=100
 nm:∀x∈names,x.length<=100
 rd:∀m∈N,0<=m.1/\m.1<names.length/\0<=m.2.1/\m.2.1<names.length/\SmW m.2.2.2/\m.2.2.2.length<=100
inductive spShowN(vs:List V)(H:Hp)(Q:VK)(z3q:XK):Prop
 |mk (day:Int) (pn pr:zht) (names:List Str) (N:List RdT):vs=[.int day,.ref pn,.ref pr]->Sm day->H pn=zhq (.lst (names.map V.str))->NA H pr N->NetTx names N->(∀H',Same H H'->Q (.str (netT day names N)) H')->spShowN vs H Q z3q
theorem at_nm{i:Int}(h0:0<=i)(h1:i<names.length):atI (names.map V.str) i=zhq (.str (nmT names i)):=by
 obtain⟨k,rfl⟩:=zbz h0
 refine qcf9 ?_
 have hk:k<names.length:=⋯
 rw[zah,zad hk]
 simp[nmT,zhl,zad hk]
theorem qph9(h:∀x∈names,x.length<=B)(i:Int):(nmT names i).length<=B:=by
 unfold nmT
 rcases zdz i.toNat names.length with z|z
 ·have e:names.getD i.toNat zbr=names[i.toNat]:=by simp[zhl,zad z]
  rw[e]
  exact h _ (zbs z)
 ·have e:names.getD i.toNat zbr=zbr:=by simp[zhl,List.getElem?_eq_none z]
  rw[e]
  exact zbx _
section
variable {w:zhy}{f:zht}
theorem ok_showw(F:Fun K "show_window" "show_window" qcr9 f fd):FnOk P w K mg base CX0 (n+1) f fd ["a","b","c"] spShowW:=by
 refine F.okQ qko9 (λ vs H Q E h=>?_) (λ cdv A outer s H vs Q E hr h=>?_)
 ·obtain⟨_,_,_,rfl,_⟩:=h
  rfl
 obtain⟨a,b,c,rfl,ha,hb,hc,q⟩:=h
 refine⟨_,(qae9 (qam9 (qcc9 (qar9 qop_lt (qv 0) (qv 1) (qbb9 _)) (qkv9 (qig9 (qv 0) (qmm9 (qig9 (qv 1) (qmm9 (qig9 (qv 2) qqx9)))))) (qkv9 (qig9 (qv 0) (qmm9 (qig9 (qv 2) qqx9))))))),?_⟩
 walk_at "d"
 have h1:=ha.len
 have h2:=hb.len
 have h3:=hc.len
 have e1:("-":Str).length=1:=by decide
 have e2:("+":Str).length=1:=by decide
 unfold winT at q
 dsimp only at q
 refine⟨_,rfl,_,rfl,_,_,rfl,rfl,_,rfl,ite2 (λ z=>?_) (λ z=>?_)⟩
 ·rw[if_pos (of_decide_eq_true z)] at q
  refine⟨_,rfl,.inl ⟨_,rfl,ha.log,L.le (by simp only[zaa,qav9];omega),L.le (by simp only[zaa,qav9,e1];omega),_,rfl,.inl ⟨_,rfl,hb.log,L.le (by simp only[zaa,qav9,e1];omega),L.le (by simp only[zaa,qav9,e1,e2];omega),_,rfl,.inl ⟨_,rfl,hc.log,L.le (by simp only[zaa,qav9,e1,e2];omega),L.le (by simp only[zaa,qav9,e1,e2];omega),q⟩⟩⟩⟩
 ·rw[if_neg (λ y=>z (decide_eq_true y))] at q
  refine⟨_,rfl,.inl ⟨_,rfl,ha.log,L.le (by simp only[zaa,qav9];omega),L.le (by simp only[zaa,qav9,e2];omega),_,rfl,.inl ⟨_,rfl,hc.log,L.le (by simp only[zaa,qav9,e2];omega),L.le (by simp only[zaa,qav9,e2];omega),q⟩⟩⟩
theorem ok_showb(F:Fun K "show_board" "show_board" qdb9 f fd)(Ct0:Callee P w K mg base n "show_window" ["a","b","c"] spShowW):FnOk P w K mg base CX0 (n+1) f fd ["board"] spShowB:=by
 refine F.okQ qlq9 (λ vs H Q E h=>?_) (λ cdv A outer s H vs Q E hr h=>?_)
 ·obtain⟨_,_,rfl,_⟩:=h
  rfl
 obtain⟨p,R,rfl,hR,hW,hl,q⟩:=h
 refine⟨_,(qae9 (qam9 (qsy9 qah9 (qa_c (qdv9 ["a","b","c"] [zhr,zhr,zhr] (BlkOk.of rfl rfl (SubL.to subN) rfl) rfl (qbl9 (qv 0)) (λ _ _ _ _=>(qsc9 (n:=3) K rfl rfl (qbd9 (qat9 (i:=0) (show(["a","b","c"]:List Str).Nodup by decide) rfl (zai rfl)) (qbd9 (qat9 (i:=1) (show(["a","b","c"]:List Str).Nodup by decide) rfl (zai rfl)) (qbd9 (qat9 (i:=2) (show(["a","b","c"]:List Str).Nodup by decide) rfl (zai rfl)) qhs9))))) (λ _ _ _ _=>qdh9) (λ _ _ _ _=>(qe_fn Ct0 hr rfl (qa_c (qv 0) (qa_c (qv 1) (qa_c (qv 2) qac9)))))) qac9)))),?_⟩
 walk_at "d"
 obtain⟨ws,hw1,hw2,hw3⟩:=hR.lst
 refine⟨rfl,_,rfl,p,rfl,⟨_,SqL.of hw1⟩,?_⟩
 refine qcq9 (K:=K) (a:=p) (xs:=ws) (λ D i H'=>Same H H'/\H' D=zhq (.lst (((R.take i).map winT).map V.str))) (λ D hD=>⟨qbc9 hD _,qaj9⟩) (λ D i H' _ _ h=>SqL.of (h.1 _ _ hw1)) ?_ ?_
 ·intro D i y H' hD hi z9;obtain⟨sD,eD⟩ := z9
  obtain⟨r,x,rfl,ex,er⟩:=hw3 i y hi
  obtain⟨a,b,c⟩:=x
  obtain⟨s1,s2,s3⟩:=hW _ (zaf ex)
  have hi2:=(zab.mp hi).1
  refine⟨r,_,rfl,SqT.of (sD _ _ er),rfl,_,_,rfl,_,_,rfl,_,_,rfl,rfl,λ k v e=>?_,?_⟩
  ·match k,e with
   |0,e=>cases e
   |1,e=>cases e
   |2,e=>cases e
   |k+3,e=>cases e
  refine⟨_,rfl,_,rfl,_,rfl,a,b,c,rfl,s1,s2,s3,_,eD,qbq9 (by rw[zac,zac,zbd];omega),qaz9 hD sD,?_⟩
  rw[qaj9,qhz9 winT ex,zaj]
  rfl
 ·intro D H' hD z9;obtain⟨sD,eD⟩ := z9
  rw[hw2,zbk] at eD
  have e1:(" ":Str).length=1:=by decide
  refine⟨_,D,_,rfl,rfl,SqL.of eD,qke9 (B:=50) (λ y hy=>?_) (by rw[zac,e1];omega),q H' sD⟩
  obtain⟨x,hx,rfl⟩:=zas.mp hy
  exact qgp9 (hW x hx)
theorem ok_showr(F:Fun K "show_road" "show_road" qds9 f fd)(B:Bl mg)(Cu0:Callee P w K mg base n "show_board" ["board"] spShowB):FnOk P w K mg base CX0 (n+1) f fd ["start","end","board"] spShowR:=by
 refine F.okQ sc_show_road (λ vs H Q E h=>?_) (λ cdv A outer s H vs Q E hr h=>?_)
 ·obtain⟨_,_,_,_,rfl,_⟩:=h
  rfl
 obtain⟨sv,ev,p,R,rfl,hs,he,hR,hW,hl,q⟩:=h
 refine⟨_,(qaa9 (qak9 (i:=3) sc_show_road.nd rfl (zai rfl) (qe_fn Cu0 hr rfl (qa_c (qv 2) qac9))) (qae9 (qam9 (qcc9 (qar9 qrk9 (qe_cb qbg9 rfl B.len qeb9 (qa_c (qv 2) qac9)) qaf9 (qbb9 _)) (qkv9 (qig9 (qv 0) (qmm9 (qig9 (qv 1) (qmm9 (qig9 (qv 3) qqx9)))))) (qkv9 (qig9 (qv 0) (qmm9 (qig9 (qv 1) qqx9)))))))),?_⟩
 walk_at "d"
 refine⟨_,rfl,p,R,rfl,hR,hW,⋯,λ H1 s1=>?_⟩
 have hb:=qlp9 hW hl
 have e1:(" ":Str).length=1:=by decide
 have e2:(">":Str).length=1:=by decide
 obtain⟨ws,hw1,hw2,hw3⟩:=hR.lst
 have q1:=q H1 s1
 unfold roadT at q1
 refine⟨_,rfl,p,_,rfl,.inl (SqL.of (s1 _ _ hw1)),_,_,rfl,rfl,_,rfl,ite2 (λ z=>?_) (λ z=>?_)⟩
 ·have z':(0:Int)<((ws.length:Nat):Int):=of_decide_eq_true z
  rw[if_neg (λ e=>by rw[e] at hw2;simp at hw2;rw[hw2] at z';simp at z')] at q1
  refine⟨_,rfl,.inr ⟨_,rfl,L.le ⋯,L.le (by simp only[zaa,qav9];omega),L.le (by simp only[zaa,qav9,e2];omega),_,rfl,.inr ⟨_,rfl,L.le ⋯,L.le (by simp only[zaa,qav9,e2];omega),L.le (by simp only[zaa,qav9,e1,e2];omega),_,rfl,.inr ⟨_,rfl,L.le ⋯,L.le (by simp only[zaa,qav9,e1,e2];omega),L.le (by simp only[zaa,qav9,e1,e2];omega),q1⟩⟩⟩⟩
 ·have z':¬(0:Int)<((ws.length:Nat):Int):=λ y=>z (decide_eq_true y)
  rw[if_pos (zew.mp ⋯)] at q1
  refine⟨_,rfl,.inr ⟨_,rfl,L.le ⋯,L.le (by simp only[zaa,qav9];omega),L.le (by simp only[zaa,qav9,e2];omega),_,rfl,.inr ⟨_,rfl,L.le ⋯,L.le (by simp only[zaa,qav9,e2];omega),L.le (by simp only[zaa,qav9,e2];omega),q1⟩⟩⟩
theorem ok_shown(F:Fun K "show_net" "show_net" qek9 f fd)(Cv0:Callee P w K mg base n "show_road" ["start","end","board"] spShowR):FnOk P w K mg base CX0 (n+1) f fd ["day","names","roads"] spShowN:=by
 refine F.okQ qox9 (λ vs H Q E h=>?_) (λ cdv A outer s H vs Q E hr h=>?_)
 ·obtain⟨_,_,_,_,_,rfl,_⟩:=h
  rfl
 obtain⟨day,pn,pr,names,N,rfl,hd,hn,hN,hok,q⟩:=h
 refine⟨_,(qae9 (qam9 (qsy9 qah9 (qa_c (qe_op qht9 (qbi9 (qa_c (qkv9 (qmm9 (qig9 (qv 0) qqx9))) qac9)) (qdv9 ["start","end","board","names"] [zhr,zhr,zhr,zhq 1] (BlkOk.of rfl rfl (SubL.to (subC rfl subN)) rfl) rfl (qbl9 (qv 2)) (λ _ _ _ _=>(qsc9 (n:=3) K rfl rfl (qbd9 (qat9 (i:=0) (show(["start","end","board","names"]:List Str).Nodup by decide) rfl (zai rfl)) (qbd9 (qat9 (i:=1) (show(["start","end","board","names"]:List Str).Nodup by decide) rfl (zai rfl)) (qbd9 (qat9 (i:=2) (show(["start","end","board","names"]:List Str).Nodup by decide) rfl (zai rfl)) qhs9))))) (λ _ _ _ _=>qdh9) (λ _ _ _ _=>(qe_fn Cv0 hr rfl (qa_c (qe_ix (qkl9 K rfl) (qv 3) (qv 0) (λ _ _=>rfl)) (qa_c (qe_ix (qkl9 K rfl) (qv 3) (qv 1) (λ _ _=>rfl)) (qa_c (qv 2) qac9))))))) qac9)))),?_⟩
 walk_at "d"
 have h1:=hd.len
 have e1:("day ":Str).length=4:=by decide
 refine⟨rfl,L.le (by simp only[zaa,qav9,e1];omega),_,rfl,.inl ⟨_,rfl,hd.log,L.le (by simp only[zaa,qav9,e1];omega),L.le (by simp only[zaa,qav9,e1];omega),?_⟩⟩
 refine⟨(by show 1<=zhu;decide),λ p1 hp1=>?_⟩
 generalize hgH1:upd _ p1 _=H1
 revert H1
 refine qal9 hp1 λ H1 s1 e2=>?_
 obtain⟨ws,hw1,hw2,hw3⟩:=hN.la.lst
 rw[zac] at hw2
 have hw11:=s1 _ _ hw1
 have nf:=hok.few
 refine⟨_,rfl,pr,rfl,⟨_,SqL.of hw11⟩,?_⟩
 refine qcq9 (K:=K) (a:=pr) (xs:=ws) (λ D i H'=>Same H1 H'/\H' D=zhq (.lst (((N.take i).map (roadN names)).map V.str))) (λ D hD=>⟨qbc9 hD _,qaj9⟩) (λ D i H' _ _ h=>SqL.of (h.1 _ _ hw11)) ?_ ?_
 ·intro D i y H' hD hi z9;obtain⟨sD,eD⟩ := z9
  obtain⟨r,x,rfl,ex,er⟩:=hw3 i y hi
  have hi2:i<N.length:=by
   have:=(zab.mp hi).1
   omega
  have em:=zad hi2
  rw[zah,em] at ex
  cases ex
  obtain⟨m1,m2,m3,m4,m5,m6⟩:=hok.rd _ (zbs hi2)
  have hb:=(hN.bd _ (zbs hi2)).1
  generalize hm:N[i]=m at *
  refine⟨r,_,rfl,SqT.of (sD _ _ (s1 _ _ er)),rfl,_,_,rfl,_,_,rfl,_,_,rfl,rfl,λ k v e=>?_,?_⟩
  ·match k,e with
   |0,e=>cases e
   |1,e=>cases e
   |2,e=>cases e
   |3,e=>exact e
   |k+4,e=>cases e
  have hn':=sD _ _ (s1 _ _ hn)
  refine⟨_,rfl,_,rfl,pn,_,_,_,rfl,rfl,SqL.of hn',at_nm m1 m2,_,rfl,_,rfl,pn,_,_,_,rfl,rfl,SqL.of hn',at_nm m3 m4,_,rfl,_,_,m.2.2.1,m.2.2.2,rfl,qph9 hok.nm _,qph9 hok.nm _,(hb.same s1).same sD,m5,m6,λ H2 s2=>?_⟩
  refine⟨_,s2 _ _ eD,qbq9 (by rw[zac,zac,zbd];omega),qaz9 hD (sD.trans s2),?_⟩
  rw[qaj9,qhz9 (roadN names) em,zaj]
  rfl
 ·intro D H' hD z9;obtain⟨sD,eD⟩ := z9
  rw[hw2,zbk] at eD
  refine⟨p1,D,_,_,rfl,rfl,sD _ _ e2,eD,L.le (by simp;omega),λ p3 hp3=>?_⟩
  generalize hgH3:upd _ p3 _=H3
  revert H3
  refine qal9 hp3 λ H3 s3 e3=>?_
  have e5:("; ":Str).length=2:=by decide
  refine⟨_,p3,(zbr++"day "++(zbv (toString day)))::N.map (roadN names),rfl,rfl,SqL.of e3,qke9 (B:=5400) (λ y hy=>?_) (by rw[zbb,zac,e5];omega),q H3 ((s1.trans sD).trans s3)⟩
  rcases zag.mp hy with rfl|hy
  ·simp only[zaa,qav9,e1]
   omega
  ·obtain⟨m,hm,rfl⟩:=zas.mp hy
   obtain⟨_,_,_,_,m5,m6⟩:=hok.rd m hm
   exact qkn9 m5 m6 (qph9 hok.nm _) (qph9 hok.nm _)
end
section
open PySem.StrLaws PySem.Builtin.Str
theorem qio9{a b:Nat}(hx:∀k,x.cps.toList[k]?=zhq c->At x sep x.length k)(hn:∀k,a<=k->k<b->¬At x sep x.length k):c∉(strSub x a b).cps.toList:=by
 intro hm
 rw[strSub_toList] at hm
 obtain⟨j,hj⟩:=zct hm
 have hlt:j<b-a:=by
  have h1:j<((x.cps.toList.drop a).take (b-a)).length:=(zab.mp hj).1
  simp at h1
  omega
 rw[zdn hlt,zds] at hj
 exact hn (a+j) ⋯ ⋯ (hx _ hj)
theorem qjq9{x sep:Str}{c:Nat}(hx:∀k,x.cps.toList[k]?=zhq c->At x sep x.length k):∀(cuts:List Nat)(a f:Nat),ChainG x sep x.length a cuts f->(∀k,f<=k->¬At x sep x.length k)->∀p∈partsFrom x sep.length a cuts,c∉p.cps.toList
 | [],a,f,h,hn,p,hp=>by
  have e:f=a:=h
  subst e
  rw[zae.mp hp]
  exact qio9 hx λ k h1 _=>hn k h1
 |d::r,a,f,h,hn,p,hp=>by
  rcases zag.mp hp with rfl|hp'
  ·exact qio9 hx h.2.2.1
  ·exact qjq9 hx r _ f h.2.2.2 hn p hp'
theorem qpw9(hs:1<=sep.length)(hk:¬PySem.Builtin.Str.strKind x<PySem.Builtin.Str.strKind sep)(hx:∀k,x.cps.toList[k]?=zhq c->At x sep x.length k):∀p∈Txt.split x sep,c∉p.cps.toList:=by
 obtain⟨f,hG,hn⟩:=occ_tight x sep hs
 unfold Txt.split
 split
 ·rename_i hc
  intro p hp
  rw[zae.mp hp]
  intro hm
  obtain⟨j,hj⟩:=zct hm
  have hA:=hx j hj
  rw[zdw,decide_eq_true_eq,decide_eq_true_eq] at hc
  rcases hc with h|h
  ·have:=hA.1;omega
  ·exact hk h
 ·split
  ·rename_i he
   intro p hp
   rw[zae.mp hp]
   have e0:occurrences x sep 0 x.length (x.length+1)=[]:=List.isEmpty_iff.mp he
   rw[e0] at hG
   have ef:f=0:=hG
   subst ef
   rw[<- sub_whole x]
   exact qio9 hx λ k h1 _=>hn k h1
  ·rw[partsBetween_eq]
   exact qjq9 hx _ 0 f hG hn
theorem qbh9(sep:Str):∀(x:Str)(r:List Str),(zbg sep (x::r)).cps.toList=x.cps.toList++r.flatMap λ p=>sep.cps.toList++p.cps.toList
 |x,[]=>by simp[zbg]
 |x,y::r=>by
  show(x++sep++zbg sep (y::r)).cps.toList=_
  have e:∀a b:Str,(a++b).cps.toList=a.cps.toList++b.cps.toList:=λ a b=>by
   show(a.cps++b.cps).toList=_
   simp
  rw[e,e,qbh9 sep y r,zbw]
  simp
theorem qog9{c:Nat}:∀{a b s t:List Nat},c∉a->c∉b->a++c::s=b++c::t->a=b/\s=t
 | [],[],s,t,_,_,e=>⟨rfl,by simpa using e⟩
 | [],y::b,s,t,_,hb,e=>by
  simp at e
  exact absurd (zag.mpr (.inl e.1)) hb
 |x::a,[],s,t,ha,_,e=>by
  simp at e
  exact absurd (zag.mpr (.inl e.1.symm)) ha
 |x::a,y::b,s,t,ha,hb,e=>by
  rw[zfe,zfe] at e
  injection e with e1 e2
  obtain⟨h1,h2⟩:=qog9 (λ h=>ha (zal _ h)) (λ h=>hb (zal _ h)) e2
  exact⟨by rw[e1,h1],h2⟩
theorem qcz9(h:x.cps.toList=y.cps.toList):x=y:=by
 cases x
 cases y
 congr
 exact Array.toList_inj.mp h
theorem qqk9{sep:Str}{c:Nat}{cs:List Nat}(hs:sep.cps.toList=c::cs):∀{xs ys:List Str},xs≠[]->ys≠[]->(∀p∈xs,c∉p.cps.toList)->(∀p∈ys,c∉p.cps.toList)->zbg sep xs=zbg sep ys->xs=ys
 | [],_,h,_,_,_,_=>absurd rfl h
 |_,[],_,h,_,_,_=>absurd rfl h
 |x::xs,y::ys,_,_,hx,hy,e=>by
  have e:=congrArg (λ z:Str=>z.cps.toList) e
  rw[qbh9,qbh9] at e
  have fx:=hx x (zan ..)
  have fy:=hy y (zan ..)
  cases xs with
  |nil =>
   cases ys with
   |nil =>
    rw[zff,zce,zce] at e
    rw[qcz9 (x:=x) (y:=y) e]
   |cons y' ys =>
    rw[zff,zce,zbw,hs] at e
    exact absurd (by rw[e];simp) fx
  |cons x' xs =>
   cases ys with
   |nil =>
    rw[zff,zce,zbw,hs] at e
    exact absurd (by rw[<- e];simp) fy
   |cons y' ys =>
    have e':x.cps.toList++c::(cs++x'.cps.toList++xs.flatMap λ p=>sep.cps.toList++p.cps.toList)=y.cps.toList++c::(cs++y'.cps.toList++ys.flatMap λ p=>sep.cps.toList++p.cps.toList):=by
     rw[zbw,zbw,hs] at e
     simpa [hs] using e
    obtain⟨e1,e2⟩:=qog9 fx fy e'
    rw[zck,zck] at e2
    have e3:=zey e2
    rw[<- qbh9,<- qbh9] at e3
    have:=qqk9 hs (xs:=x'::xs) (ys:=y'::ys) (by simp) (by simp) (λ p hp=>hx p (zal _ hp)) (λ p hp=>hy p (zal _ hp)) (qcz9 e3)
    rw[qcz9 e1,this]
theorem qnh9(x sep:Str):Txt.split x sep≠[]:=by
 unfold Txt.split
 split
 ·simp
 ·split
  ·simp
  ·rw[partsBetween_eq]
   obtain⟨p,r,e⟩:=partsFrom_ne x sep.length 0 (occurrences x sep 0 x.length (x.length+1))
   rw[e]
   simp
theorem at_join{sep:Str}{c:Nat}{cs:List Nat}(hs:sep.cps.toList=c::cs)(hc:c∉cs):∀{ts:List Str},(∀p∈ts,c∉p.cps.toList)->∀k,(zbg sep ts).cps.toList[k]?=zhq c->(((zbg sep ts).cps.toList.drop k).take sep.length=sep.cps.toList)
 | [],_,k,h=>by simp[zbg,zbr] at h
 | [x],hf,k,h=>absurd (zaf h) (hf x (zan ..))
 |x::y::r,hf,k,h=>by
  have ls:sep.length=(c::cs).length:=by rw[<- hs];simp[zbm]
  have e:(zbg sep (x::y::r)).cps.toList=x.cps.toList++(sep.cps.toList++(zbg sep (y::r)).cps.toList):=by
   rw[qbh9,qbh9,zbw,zck]
  rw[e] at h ⊢
  rcases zdz k x.cps.toList.length with z|z
  ·rw[zat z] at h
   exact absurd (zaf h) (hf x (zan ..))
  rw[zau z] at h
  rw[zfg,zci z,zdx]
  generalize k-x.cps.toList.length=j at h
  have lsep:sep.cps.toList.length=sep.length:=by simp[zbm]
  rcases zdz j sep.cps.toList.length with y1|y1
  ·rw[zat y1,hs] at h
   cases j with
   |zero =>
    rw[zdi,<- lsep,zfv]
   |succ j=>exact absurd (zaf (by simpa using h)) hc
  ·rw[zau y1] at h
   rw[zfg,zci y1,zdx]
   exact at_join hs hc (ts:=y::r) (λ p hp=>hf p (zal _ hp)) _ h
theorem qdq9{cs:List Nat}(hs:sep.cps.toList=c::cs)(hc:c∉cs)(ha:PySem.Builtin.Str.strKind sep=1)(h0:ts≠[])(hf:∀p∈ts,c∉p.cps.toList):Txt.split (zbg sep ts) sep=ts:=by
 have ls:sep.length=(c::cs).length:=by rw[<- hs];simp[zbm]
 have hk:¬PySem.Builtin.Str.strKind (zbg sep ts)<PySem.Builtin.Str.strKind sep:=by
  rw[ha]
  unfold PySem.Builtin.Str.strKind
  split
  ·omega
  ·split<;>omega
 refine qqk9 hs (qnh9 _ _) h0 (qpw9 (by rw[ls];simp) hk λ k hkk=>?_) hf (join_split _ _)
 have e:=at_join hs hc hf k hkk
 have hl:k+sep.length<=(zbg sep ts).length:=by
  have:=congrArg zeh e
  rw[zbd,zee] at this
  have l1:sep.cps.toList.length=sep.length:=by simp[zbm]
  have l2:(zbg sep ts).cps.toList.length=(zbg sep ts).length:=by simp[zbm]
  have:1<=sep.length:=by rw[ls];simp
  omega
 refine⟨hl,?_⟩
 rw[subAt_eq,e]
 simp
theorem qcp9(hx:c∉x.cps.toList):Txt.partition (x ++ ⟨#[c]⟩ ++ y) ⟨#[c]⟩=(x,⟨#[c]⟩,y):=by
 have ea:∀a b:Str,(a++b).cps.toList=a.cps.toList++b.cps.toList:=λ a b=>by
  show(a.cps++b.cps).toList=_
  simp
 have e:(x++(⟨#[c]⟩:Str)++y).cps.toList=x.cps.toList++c::y.cps.toList:=by
  rw[ea,ea]
  simp
 have lx:x.cps.toList.length=x.length:=by simp[zbm]
 have at_:(x++(⟨#[c]⟩:Str)++y).cps.toList[x.length]?=zhq c:=by
  rw[e,zau ⋯,lx,zea]
  rfl
 unfold Txt.partition
 rcases occ_head (x++(⟨#[c]⟩:Str)++y) ⟨#[c]⟩ 1 (zaq _) with⟨_,h⟩|⟨i,r,h,hA,hn⟩
 ·exact absurd ((subAt_one _ c _).mpr at_) (h x.length)
 ·have hi:=(subAt_one _ c i).mp hA
  have i1:i=x.length:=by
   rcases Nat.lt_trichotomy i x.length with z|z|z
   ·rw[e,zat ⋯] at hi
    exact absurd (zaf hi) hx
   ·exact z
   ·exact absurd ((subAt_one _ c _).mpr at_) (hn _ z)
  subst i1
  rw[h]
  have l1:(⟨#[c]⟩:Str).length=1:=rfl
  have s1:strSub (x++(⟨#[c]⟩:Str)++y) 0 x.length=x:=qcz9 (by
   rw[strSub_toList,e,zdi,zhd,<- lx,zfv])
  have s2:strSub (x++(⟨#[c]⟩:Str)++y) (x.length+1) (x++(⟨#[c]⟩:Str)++y).length=y:=qcz9 (by
   have l2:(x++(⟨#[c]⟩:Str)++y).length=x.length+1+y.length:=by
    rw[zaa,zaa,l1]
   have ly:y.cps.toList.length=y.length:=by simp[zbm]
   rw[strSub_toList,e,l2,zfg,zci ⋯,zdx,lx,show x.length+1-x.length=1 by omega,show x.length+1+y.length-(x.length+1)=y.length by omega,List.drop_succ_cons,zdi,<- ly,zbk])
  show(strSub _ 0 x.length,_,strSub _ (x.length+1) _)=_
  rw[s1,s2]
theorem qib9(hx:c∉x.cps.toList):Txt.partition x ⟨#[c]⟩=(x,zbr,zbr):=by
 unfold Txt.partition
 rcases occ_head x ⟨#[c]⟩ 1 (zaq _) with⟨h,_⟩|⟨i,r,h,hA,hn⟩
 ·rw[h]
 ·exact absurd (zaf ((subAt_one _ c i).mp hA)) hx
end
abbrev numT(n:Int):Str:=zbv (toString n)
theorem qml9(m:Nat):1<=(zdh 10 m).length:=Nat.length_toDigits_pos
theorem dig_first:∀m:Nat,1<=m->(zdh 10 m).head? ≠ zhq '0':=by
 intro m
 induction m using Nat.strongRecOn with
 |_ m ih =>
  intro h1
  by_cases h:m<10
  ·rw[Nat.toDigits_of_lt_base h]
   have:∀m:Fin 10,1<=m.val->[Nat.digitChar m.val].head? ≠ zhq '0':=by decide
   exact this ⟨m,h⟩ h1
  ·have hm:m%10<10:=Nat.mod_lt m (by decide)
   have t:zdh 10 (m/10)++zdh 10 (m%10)=zdh 10 (10*(m/10)+m%10):=Nat.toDigits_append_toDigits (by decide) ⋯ hm
   rw[Nat.div_add_mod] at t
   rw[<- t]
   have:=ih (m/10) ⋯ ⋯
   cases e:zdh 10 (m/10) with
   |nil =>
    have h:=qml9 (m/10)
    rw[e] at h
    exact absurd h (by decide)
   |cons a l =>
    rw[e] at this
    exact this
theorem qli9{n:Int}(h:0<=n):(numT n).cps.toList=(zdh 10 n.toNat).map Char.toNat:=by
 obtain⟨m,rfl⟩:=zbz h
 exact W.KIN.signs_num m
theorem qis9{n:Int}(h:0<=n):∀c∈(numT n).cps.toList,48<=c/\c<=57:=λ c hc=>by
 rw[qli9 h] at hc
 obtain⟨ch,hch,e⟩:=zas.mp hc
 have r:=PyProof.Rows.digit_range (Nat.isDigit_of_mem_toDigits (by decide) (by decide) hch)
 rw[<- e]
 exact r
theorem num_ne{n:Int}(h:0<=n):1<=(numT n).length:=by
 have e:(numT n).length=(numT n).cps.toList.length:=by simp[zbm]
 rw[e,qli9 h,zac]
 exact qml9 _
theorem qos9{n:Int}(h:0<=n)(hl:1<(numT n).length):∃c,(numT n).cps[0]?=zhq c/\c≠48:=by
 have e:(numT n).length=(numT n).cps.toList.length:=by simp[zbm]
 have ec:=qli9 h
 have h1:1<=n.toNat:=by
  rcases zek n.toNat with z|z
  ·rw[e,ec,z] at hl
   exact absurd hl (by decide)
  ·exact z
 have hf:=dig_first n.toNat h1
 cases hd:zdh 10 n.toNat with
 |nil =>
  have:=qml9 n.toNat
  rw[hd] at this
  exact absurd this (by decide)
 |cons a l =>
  rw[hd] at hf ec
  refine⟨a.toNat,?_,λ z=>hf ?_⟩
  ·rw[<- zcg,ec]
   rfl
  ·have:a='0':=Char.toNat_inj.mp z
   rw[this]
   rfl
structure Low(x:Str):Prop where
 all:∀c∈x.cps.toList,97<=c/\c<=122
 l1:1<=x.length
 l8:x.length<=8
structure Gt(mg:Str->Option zhs)(t1 t2 t3 t4:Tok):Prop where
 fig:mg "FIGURES"=zhq (.str "0123456789" t1)
 lets:mg "LETTERS"=zhq (.str "abcdefghijklmnopqrstuvwxyz" t2)
 mf:mg "MOST_FIGURES_texts"=zhq (.int 16 t3)
 mo:mg "MOST"=zhq (.int 1000000000000000 t4)
theorem fig_in(h:48<=c/\c<=57):c∈("0123456789":Str).cps.toList:=by
 have:∀c:Fin 58,48<=c.val->c.val∈("0123456789":Str).cps.toList:=by decide +kernel
 exact this ⟨c,⋯⟩ h.1
theorem let_in(h:97<=c/\c<=122):c∈("abcdefghijklmnopqrstuvwxyz":Str).cps.toList:=by
 have:∀c:Fin 123,97<=c.val->c.val∈("abcdefghijklmnopqrstuvwxyz":Str).cps.toList:=by decide +kernel
 exact this ⟨c,⋯⟩ h.1
theorem qif9(h:∀c∈x.cps.toList,c<128):x.cps.all (· < 128)=true:=by
 rw[<- Array.all_toList,zbl]
 exact λ c hc=>decide_eq_true (h c hc)
inductive spNumR(vs:List V)(H:Hp)(Q:VK)(z3q:XK):Prop
 |mk (n:Int):vs=[.str (numT n),.int 16]->Sm n->(∀H',Same H H'->Q (.int n) H')->spNumR vs H Q z3q
inductive spNameR(vs:List V)(H:Hp)(Q:VK)(z3q:XK):Prop
 |mk (x:Str):vs=[.str x]->Low x->(∀H',Same H H'->Q (.bl true) H')->spNameR vs H Q z3q
inductive spEnds(vs:List V)(H:Hp)(Q:VK)(z3q:XK):Prop
 |mk (s e:Str):vs=[.str (s++">"++e)]->Low s->Low e->(∀(r:zht)(H':Hp),Same H H'->H' r=zhq (.tup [.str s,.str e])->Q (.ref r) H')->spEnds vs H Q z3q
section
variable {P:zih}{w:zhy}{K:W.Frag}{mg:Str->Option zhs}{base:zic}{f:zht}{fd:zik}{n:Nat}{t1 t2 t3 t4:Tok}
theorem qle9(h:∀c∈x.cps.toList,c∈y.cps.toList)(hl:x.length<=100)(q:∀D H',Same H H'->H' D=zhq (.lst ((zbc x.length true).map V.bl))->Q (.ref D) H') :
  cBody [zhr] (gName 0) tTrue (tOp (λ x y H Q=>∃(c:Nat)(j:Str),x=.str ⟨#[c]⟩/\y=.str j/\Q (.bl (decide (c∈j.cps.toList))) H) (tVar 0) (tC (.str y))) σ Q (Its x) H:=by
 refine qqv9 (λ D i H'=>Same H H'/\H' D=zhq (.lst ((zbc i true).map V.bl))) (λ D hD=>⟨qbc9 hD _,qaj9⟩) ?_ (λ D H' hD h=>q D H' h.1 h.2)
 intro D i c H' hD hc z9;obtain⟨sD,eD⟩ := z9
 have hi:i<x.length:=by
  have:=(zep.mp hc).1
  exact this
 refine⟨λ k v e=>?_,?_⟩
 ·match k,e with
  |0,e=>cases e
  |k+1,e=>cases e
 refine⟨_,rfl,c,y,rfl,rfl,_,eD,qbq9 (by rw[zac,zdy];omega),qaz9 hD sD,?_⟩
 rw[qaj9,zdl,zaj,decide_eq_true (h c (zaf (by rw[zcg];exact hc)))]
 rfl
theorem qsh9(k:Nat):(zbc k true).all id=true:=by
 rw[zbl]
 intro x hx
 rw[zeu hx]
 rfl
theorem ok_nameR(gt:Gt mg t1 t2 t3 t4)(F:Fun K "is_name" "is_name" qer9 f fd)(B:Bl mg):FnOk P w K mg base CX0 (n+1) f fd ["text"] spNameR:=by
 refine F.okQ qll9 (λ vs H Q E h=>?_) (λ cdv A outer s H vs Q E hr h=>?_)
 ·obtain⟨_,rfl,_⟩:=h
  rfl
 obtain⟨x,rfl,lo,q⟩:=h
 refine⟨_,(qae9 (qam9 (qpc9 (qrb9 qdi9 qdi9 qaf9 (qe_cb qep9 rfl B.len qeb9 (qa_c (qv 0) qac9)) qaf9) (qlw9 (qe_cb (qex9 rfl) rfl B.all qlt9 (qa_c (qdv9 ["sign"] [zhr] (BlkOk.of rfl rfl (SubL.to subN) rfl) rfl (qth9 (qv 0)) (λ _ _ _ _=>(qat9 (i:=0) (show(["sign"]:List Str).Nodup by decide) rfl (zai rfl))) (λ _ _ _ _=>qdh9) (λ _ _ _ _=>(qfo9 qnt9 (qv 0) (qoe9 rfl gt.lets) rfl))) qac9)))))),?_⟩
 walk_at "d"
 have l1:=lo.l1
 have l8:=lo.l8
 refine⟨_,rfl,_,rfl,L.le ⋯,_,_,rfl,rfl,_,rfl,iteP (decide_eq_true ⋯) ⟨_,_,rfl,rfl,_,rfl,iteP (by simp;omega) ?_⟩⟩
 refine⟨_,rfl,_,rfl,qif9 (λ c hc=>by have:=lo.all c hc;omega),qle9 (λ c hc=>let_in (lo.all c hc)) ⋯ λ D H1 s1 e1=>?_⟩
 refine⟨D,_,rfl,SqL.of e1,?_⟩
 rw[qsh9]
 exact q H1 s1
theorem qfv9(h:Low x)(hc:c<97\/122<c):c∉x.cps.toList:=λ z=>by
 have:=h.all c z
 omega
theorem qcs9{n:Int}(h:0<=n)(hc:c<48\/57<c):c∉(numT n).cps.toList:=λ z=>by
 have:=qis9 h c z
 omega
theorem ok_ends(F:Fun K "read_ends" "read_ends" qcx9 f fd)(Ce0:Callee P w K mg base n "is_name" ["text"] spNameR):FnOk P w K mg base CX0 (n+1) f fd ["text"] spEnds:=by
 refine F.okQ sc_read_ends (λ vs H Q E h=>?_) (λ cdv A outer s H vs Q E hr h=>?_)
 ·obtain⟨_,_,rfl,_⟩:=h
  rfl
 obtain⟨x,y,rfl,lx,ly,q⟩:=h
 refine⟨_,(qaa9 (qak9 (i:=1) sc_read_ends.nd rfl (zai rfl) (qhv9 K rfl (qv 0) (qa_c qah9 qac9))) (qaa9 (qs_if (qgd9 (QW.pt (qw_or (qdj9 (qct9 (qe_fn Ce0 hr rfl (qa_c (qe_ix qas9 (qv 1) qaf9 (λ _ _=>rfl)) qac9)))) (qeq9 (qdj9 (qct9 (qe_fn Ce0 hr rfl (qa_c (qe_ix qas9 (qv 1) qaf9 (λ _ _=>rfl)) qac9)))))))) (qae9 (qam9 qbr9)) qan9) (qae9 (qam9 (qbn9 (qa_c (qe_ix qas9 (qv 1) qaf9 (λ _ _=>rfl)) (qa_c (qe_ix qas9 (qv 1) qaf9 (λ _ _=>rfl)) qac9))))))),?_⟩
 walk_at "d"
 have ep:Txt.partition (x++">"++y) ">"=(x,(">":Str),y):=qcp9 (c:=62) (qfv9 lx ⋯)
 have e1':(">":Str).length=1:=by decide
 have l1:=lx.l8
 have l2:=ly.l8
 refine⟨_,rfl,rfl,_,_,rfl,rfl,by decide,L.le (by simp only[zaa,e1'];omega),λ l hl=>?_⟩
 rw[ep]
 generalize hgH1:upd _ l _=H1
 revert H1
 refine qal9 hl λ H1 s1 e1=>?_
 refine⟨λ b H'=>b=false/\Same H1 H',?_,?_⟩
 ·refine⟨_,rfl,l,_,_,_,rfl,rfl,SqT.of e1,rfl,x,rfl,lx,λ H2 s2=>⟨_,rfl,iteF ?_⟩⟩
  exact⟨_,rfl,l,_,_,_,rfl,rfl,SqT.of (s2 _ _ e1),rfl,y,rfl,ly,λ H3 s3=>⟨_,rfl,rfl,s2.trans s3⟩⟩
 intro b H2 z9;obtain⟨rfl,s2⟩ := z9
 refine iteF ?_
 refine⟨_,rfl,l,_,_,_,rfl,rfl,SqT.of (s2 _ _ e1),rfl,_,rfl,l,_,_,_,rfl,rfl,SqT.of (s2 _ _ e1),rfl,(by show 2<=zhu;decide),λ rr hrr=>?_⟩
 generalize hgH3:upd _ rr _=H3
 revert H3
 refine qal9 hrr λ H3 s3 e3=>?_
 exact q rr H3 (s1.trans (s2.trans s3)) e3
def spanT(a b:Int):Str:=if a<b then numT a++"-"++numT b else numT a
inductive spSpan(vs:List V)(H:Hp)(Q:VK)(z3q:XK):Prop
 |mk (a b:Int):vs=[.str (spanT a b)]->Sm a->Sm b->a<=b->(∀(r:zht)(H':Hp),Same H H'->H' r=zhq (.tup [.int a,.int b])->Q (.ref r) H')->spSpan vs H Q z3q
inductive spWinR(vs:List V)(H:Hp)(Q:VK)(z3q:XK):Prop
 |mk (day:Int) (x:T3):vs=[.int day,.str (winT x)]->0<=x.1->x.1<=x.2.1->x.2.1<day->day<=1000000000000000->1<=x.2.2->x.2.2<=1000000000000000->(∀(r:zht)(H':Hp),Same H H'->H' r=zhq (.tup (enc3 x))->Q (.ref r) H')->spWinR vs H Q z3q
inductive spDayR(vs:List V)(H:Hp)(Q:VK)(z3q:XK):Prop
 |mk (day:Int):vs=[.str ("day "++numT day)]->1<=day->day<=1000000000000000->(∀H',Same H H'->Q (.int day) H')->spDayR vs H Q z3q
theorem ok_span(gt:Gt mg t1 t2 t3 t4)(F:Fun K "read_span" "read_span" qcv9 f fd)(Ca0:Callee P w K mg base n "read_number" ["text","most_figures"] spNumR):FnOk P w K mg base CX0 (n+1) f fd ["text"] spSpan:=by
 refine F.okQ sc_read_span (λ vs H Q E h=>?_) (λ cdv A outer s H vs Q E hr h=>?_)
 ·obtain⟨_,_,rfl,_⟩:=h
  rfl
 obtain⟨a,b,rfl,sa,sb,ab,q⟩:=h
 refine⟨_,(qaa9 (qak9 (i:=1) sc_read_span.nd rfl (zai rfl) (qhv9 K rfl (qv 0) (qa_c qah9 qac9))) (qaa9 (qak9 (i:=2) sc_read_span.nd rfl (zai rfl) (qe_fn Ca0 hr rfl (qa_c (qe_ix qas9 (qv 1) qaf9 (λ _ _=>rfl)) (qa_c (qcb9 rfl gt.mf) qac9)))) (qaa9 (qs_if (qar9 qef9 (qe_ix qas9 (qv 1) qaf9 (λ _ _=>rfl)) qah9 (qbb9 _)) (qae9 (qam9 (qcc9 (qcw9 (qv 2)) qbr9 (qbn9 (qa_c (qv 2) (qa_c (qv 2) qac9)))))) qan9) (qaa9 (qak9 (i:=3) sc_read_span.nd rfl (zai rfl) (qe_fn Ca0 hr rfl (qa_c (qe_ix qas9 (qv 1) qaf9 (λ _ _=>rfl)) (qa_c (qcb9 rfl gt.mf) qac9)))) (qaa9 (qs_if (qgd9 (QW.pt (qw_or (qcw9 (qv 2)) (qw_or (qcw9 (qv 3)) (qeq9 (qar9 qop_ge (qv 2) (qv 3) (qbb9 _))))))) (qae9 (qam9 qbr9)) qan9) (qae9 (qam9 (qbn9 (qa_c (qv 2) (qa_c (qv 3) qac9)))))))))),?_⟩
 walk_at "d"
 have e1':("-":Str).length=1:=by decide
 have l1:(numT a).length<=16:=sa.len
 have l2:(numT b).length<=16:=sb.len
 by_cases c:a<b
 ·have et:spanT a b=numT a++"-"++numT b:=if_pos c
  have ep:Txt.partition (spanT a b) "-"=(numT a,("-":Str),numT b):=by
   rw[et]
   exact qcp9 (c:=45) (qcs9 sa.1 ⋯)
  refine⟨_,rfl,rfl,_,_,rfl,rfl,by decide,L.le (by rw[et];simp only[zaa,e1'];omega),λ l hl=>?_⟩
  rw[ep]
  generalize hgH1:upd _ l _=H1
  revert H1
  refine qal9 hl λ H1 s1 e1=>?_
  refine⟨_,rfl,l,_,_,_,rfl,rfl,SqT.of e1,rfl,a,rfl,sa,λ H2 s2=>?_⟩
  have e2:=s2 _ _ e1
  refine⟨_,rfl,l,_,_,_,rfl,rfl,SqT.of e2,rfl,rfl,_,rfl,iteN (by show ¬decide (V.str (("-":Str))=V.str "")=true;decide +kernel) ?_⟩
  refine⟨_,rfl,l,_,_,_,rfl,rfl,SqT.of e2,rfl,b,rfl,sb,λ H3 s3=>?_⟩
  refine⟨λ z H'=>z=false/\H'=H3,?_,?_⟩
  ·exact⟨_,rfl,_,rfl,iteF ⟨_,rfl,_,rfl,iteF ⟨_,rfl,_,rfl,_,_,rfl,rfl,_,rfl,decide_eq_false ⋯,rfl⟩⟩⟩
  intro z H4 z9;obtain⟨rfl,rfl⟩ := z9
  refine iteF ?_
  refine⟨_,rfl,_,rfl,(by show 2<=zhu;decide),λ rr hrr=>?_⟩
  generalize hgH5:upd _ rr _=H5
  revert H5
  refine qal9 hrr λ H5 s5 e5=>?_
  exact q rr H5 (s1.trans (s2.trans (s3.trans s5))) e5
 ·have et:spanT a b=numT a:=if_neg c
  have eab:a=b:=⋯
  subst eab
  have ep:Txt.partition (spanT a a) "-"=(numT a,zbr,zbr):=by
   rw[et]
   exact qib9 (c:=45) (qcs9 sa.1 ⋯)
  refine⟨_,rfl,rfl,_,_,rfl,rfl,by decide,L.le (by rw[et];omega),λ l hl=>?_⟩
  rw[ep]
  generalize hgH1:upd _ l _=H1
  revert H1
  refine qal9 hl λ H1 s1 e1=>?_
  refine⟨_,rfl,l,_,_,_,rfl,rfl,SqT.of e1,rfl,a,rfl,sa,λ H2 s2=>?_⟩
  have e2:=s2 _ _ e1
  refine⟨_,rfl,l,_,_,_,rfl,rfl,SqT.of e2,rfl,rfl,_,rfl,iteP (decide_eq_true rfl) ?_⟩
  refine⟨_,rfl,_,rfl,iteF ⟨_,rfl,_,rfl,(by show 2<=zhu;decide),λ rr hrr=>?_⟩⟩
  generalize hgH5:upd _ rr _=H5
  revert H5
  refine qal9 hrr λ H5 s5 e5=>?_
  exact q rr H5 (s1.trans (s2.trans s5)) e5
theorem qre9{x:T3}:winT x=spanT x.1 x.2.1++"+"++numT x.2.2:=by
 unfold winT spanT
 split<;>simp only[zcy]
theorem qnj9(ha:0<=a)(hb:0<=b)(hc:(c<48\/57<c)/\c≠45):c∉(spanT a b).cps.toList:=by
 unfold spanT
 split
 ·intro z
  have e:∀u v:Str,(u++v).cps.toList=u.cps.toList++v.cps.toList:=λ u v=>by
   show(u.cps++v.cps).toList=_
   simp
  rw[e,e,zak,zak] at z
  rcases z with(z|z)|z
  ·exact qcs9 ha hc.1 z
  ·have:(("-":Str)).cps.toList=[45]:=by decide +kernel
   rw[this] at z
   exact hc.2 (by simpa using z)
  ·exact qcs9 hb hc.1 z
 ·exact qcs9 ha hc.1
theorem qnm9{c:Int}(e:H r=zhq (.tup [.int a,.int b,.int c])):Dv2 H (.ref r):=⟨.tup e,λ zs ez z hz=>by
 have:tupV H (.ref r)=zhq [V.int a,V.int b,V.int c]:=by simp[tupV,e]
 rw[this] at ez
 cases ez
 simp only[zag,zam,or_false] at hz
 rcases hz with rfl|rfl|rfl<;>exact .int _⟩
theorem ok_winR(gt:Gt mg t1 t2 t3 t4)(F:Fun K "read_window" "read_window" qbv9 f fd)(Co0:Callee P w K mg base n "read_span" ["text"] spSpan)(Ca0:Callee P w K mg base n "read_number" ["text","most_figures"] spNumR)(Cj0:Callee P w K mg base n "is_window" ["day","thing"] spWindow):FnOk P w K mg base CX0 (n+1) f fd ["day","text"] spWinR:=by
 refine F.okQ sc_read_window (λ vs H Q E h=>?_) (λ cdv A outer s H vs Q E hr h=>?_)
 ·obtain⟨_,_,rfl,_⟩:=h
  rfl
 obtain⟨day,⟨a,b,c⟩,rfl,a0,ab,bd,d2,c1,c2,q⟩:=h
 dsimp only at a0 ab bd d2 c1 c2
 refine⟨_,(qaa9 (qak9 (i:=2) sc_read_window.nd rfl (zai rfl) (qhv9 K rfl (qv 1) (qa_c qah9 qac9))) (qaa9 (qak9 (i:=3) sc_read_window.nd rfl (zai rfl) (qe_fn Co0 hr rfl (qa_c (qe_ix qas9 (qv 2) qaf9 (λ _ _=>rfl)) qac9))) (qaa9 (qak9 (i:=4) sc_read_window.nd rfl (zai rfl) (qe_fn Ca0 hr rfl (qa_c (qe_ix qas9 (qv 2) qaf9 (λ _ _=>rfl)) (qa_c (qcb9 rfl gt.mf) qac9)))) (qaa9 (qs_if (qgd9 (QW.pt (qw_or (qcw9 (qv 3)) (qw_or (qcw9 (qv 4)) (qeq9 (qdj9 (qft9 qdi9 qdi9 qaf9 (qv 4) (qcb9 rfl gt.mo)))))))) (qae9 (qam9 qbr9)) qan9) (qaa9 (qak9 (i:=5) sc_read_window.nd rfl (zai rfl) (qbn9 (qa_c (qe_ix qas9 (qv 3) qaf9 (λ _ _=>rfl)) (qa_c (qe_ix qas9 (qv 3) qaf9 (λ _ _=>rfl)) (qa_c (qv 4) qac9))))) (qae9 (qam9 (qcc9 (qct9 (qe_fn Cj0 hr rfl (qa_c (qv 0) (qa_c (qv 5) qac9)))) (qv 5) qbr9)))))))),?_⟩
 walk_at "d"
 have sa:Sm a:=⟨a0,⋯⟩
 have sb:Sm b:=⟨⋯,⋯⟩
 have sc:Sm c:=⟨⋯,⋯⟩
 have ep:Txt.partition (winT (a,b,c)) "+"=(spanT a b,("+":Str),numT c):=by
  rw[qre9]
  exact qcp9 (c:=43) (qnj9 (a:=a) (b:=b) a0 ⋯ ⟨⋯,⋯⟩)
 refine⟨_,rfl,rfl,_,_,rfl,rfl,by decide,L.le (zbj (qgp9 ⟨sa,sb,sc⟩) (by decide)),λ l hl=>?_⟩
 rw[ep]
 generalize hgH1:upd _ l _=H1
 revert H1
 refine qal9 hl λ H1 s1 e1=>?_
 refine⟨_,rfl,l,_,_,_,rfl,rfl,SqT.of e1,rfl,a,b,rfl,sa,sb,ab,λ r2 H2 s2 e2=>?_⟩
 refine⟨_,rfl,l,_,_,_,rfl,rfl,SqT.of (s2 _ _ e1),rfl,c,rfl,sc,λ H3 s3=>?_⟩
 have e3:=s3 _ _ e2
 refine⟨λ z H'=>z=false/\H'=H3,?_,?_⟩
 ·exact⟨_,rfl,_,rfl,iteF ⟨_,rfl,_,rfl,iteF ⟨_,rfl,_,_,rfl,rfl,_,rfl,iteP (decide_eq_true c1) ⟨_,_,rfl,rfl,_,rfl,by simp;omega,rfl⟩⟩⟩⟩
 intro z H4 z9;obtain⟨rfl,rfl⟩ := z9
 refine iteF ?_
 refine⟨_,rfl,r2,_,_,_,rfl,rfl,SqT.of e3,rfl,_,rfl,r2,_,_,_,rfl,rfl,SqT.of e3,rfl,_,rfl,(by show 3<=zhu;decide),λ rr hrr=>?_⟩
 generalize hgH5:upd _ rr _=H5
 revert H5
 refine qal9 hrr λ H5 s5 e5=>?_
 have wv:winV H5 day (.ref rr)=true:=by
  have:tupV H5 (.ref rr)=zhq [V.int a,V.int b,V.int c]:=by simp[tupV,e5]
  unfold winV
  rw[this]
  simp[winL,isWh]
  omega
 refine⟨_,rfl,_,rfl,day,.ref rr,rfl,qnm9 e5,λ H6 s6=>?_⟩
 rw[wv]
 exact⟨_,rfl,iteT ⟨_,rfl,q rr H6 (s1.trans (s2.trans (s3.trans (s5.trans s6)))) (s6 _ _ e5)⟩⟩
theorem ok_dayR(gt:Gt mg t1 t2 t3 t4)(F:Fun K "read_day" "read_day" qdl9 f fd)(Ca0:Callee P w K mg base n "read_number" ["text","most_figures"] spNumR):FnOk P w K mg base CX0 (n+1) f fd ["text"] spDayR:=by
 refine F.okQ sc_read_day (λ vs H Q E h=>?_) (λ cdv A outer s H vs Q E hr h=>?_)
 ·obtain⟨_,rfl,_⟩:=h
  rfl
 obtain⟨day,rfl,d1,d2,q⟩:=h
 refine⟨_,(qaa9 (qak9 (i:=1) sc_read_day.nd rfl (zai rfl) (qhv9 K rfl (qv 0) (qa_c qah9 qac9))) (qaa9 (qak9 (i:=2) sc_read_day.nd rfl (zai rfl) (qe_fn Ca0 hr rfl (qa_c (qe_ix qas9 (qv 1) qaf9 (λ _ _=>rfl)) (qa_c (qcb9 rfl gt.mf) qac9)))) (qaa9 (qs_if (qgd9 (QW.pt (qw_or (qar9 qkf9 (qe_ix qas9 (qv 1) qaf9 (λ _ _=>rfl)) qah9 (qbb9 _)) (qw_or (qcw9 (qv 2)) (qeq9 (qdj9 (qft9 qdi9 qdi9 qaf9 (qv 2) (qcb9 rfl gt.mo)))))))) (qae9 (qam9 qbr9)) qan9) (qae9 (qam9 (qv 2)))))),?_⟩
 walk_at "d"
 have sd:Sm day:=⟨⋯,⋯⟩
 have hd:(numT day).length<=16:=sd.len
 have e4:("day ":Str).length=4:=by decide
 have ep:Txt.partition ("day "++numT day) " "=(("day":Str),(" ":Str),numT day):=by
  have e:("day ":Str)=("day":Str)++(" ":Str):=by decide +kernel
  rw[e]
  exact qcp9 (c:=32) (by decide +kernel)
 refine⟨_,rfl,rfl,_,_,rfl,rfl,by decide,L.le (by simp only[zaa,e4];omega),λ l hl=>?_⟩
 rw[ep]
 generalize hgH1:upd _ l _=H1
 revert H1
 refine qal9 hl λ H1 s1 e1=>?_
 refine⟨_,rfl,l,_,_,_,rfl,rfl,SqT.of e1,rfl,day,rfl,sd,λ H2 s2=>?_⟩
 have e2:=s2 _ _ e1
 refine⟨λ z H'=>z=false/\H'=H2,?_,?_⟩
 ·refine⟨_,rfl,l,_,_,_,rfl,rfl,SqT.of e2,rfl,rfl,_,rfl,iteN (by simp) ?_⟩
  exact⟨_,rfl,_,rfl,iteF ⟨_,rfl,_,_,rfl,rfl,_,rfl,iteP (decide_eq_true d1) ⟨_,_,rfl,rfl,_,rfl,by simp;omega,rfl⟩⟩⟩
 intro z H4 z9;obtain⟨rfl,rfl⟩ := z9
 refine iteF ?_
 exact⟨_,rfl,q H4 (s1.trans s2)⟩
def WinsR(day:Int)(R:List T3):Prop:=∀x∈R,0<=x.1/\x.1<=x.2.1/\x.2.1<day/\1<=x.2.2/\x.2.2<=1000000000000000
inductive spBoardR(K:W.Frag)(vs:List V)(H:Hp)(Q:VK)(z3q:XK):Prop
 |mk (day:Int) (p:zht) (R:List T3):vs=[.int day,.ref p]->H p=zhq (.lst ((R.map winT).map V.str))->WinsR day R->day<=1000000000000000->R.length<=100->(∀(l:zht)(H':Hp),Same H H'->H l=zhr->LA enc3 H' l R->Q (.ref l) H')->spBoardR K vs H Q z3q
theorem ok_boardR(F:Fun K "read_board" "read_board" qcm9 f fd)(B:Bl mg)(Cb0:Callee P w K mg base n "read_window" ["day","text"] spWinR):FnOk P w K mg base CX0 (n+1) f fd ["day","words"] (spBoardR K):=by
 refine F.okQ sc_read_board (λ vs H Q E h=>?_) (λ cdv A outer s H vs Q E hr h=>?_)
 ·obtain⟨_,_,_,rfl,_⟩:=h
  rfl
 obtain⟨day,p,R,rfl,hp,hW,d2,hl,q⟩:=h
 refine⟨_,(qaa9 (qfn9 (i:=2) ["word","day"] [zhr,zhq 0] sc_read_board.nd rfl (zai rfl) (BlkOk.of rfl rfl (SubL.to (subC rfl subN)) rfl) rfl (qbl9 (qv 1)) (λ _ _ _ _=>(qat9 (i:=0) (show(["word","day"]:List Str).Nodup by decide) rfl (zai rfl))) (λ _ _ _ _=>qdh9) (λ _ _ _ _=>(qe_fn Cb0 hr rfl (qa_c (qv 1) (qa_c (qv 0) qac9))))) (qae9 (qam9 (qcc9 (qct9 (qe_cb (qns9 rfl) rfl B.any bt_any (qa_c (qdv9 ["window"] [zhr] (BlkOk.of rfl rfl (SubL.to subN) rfl) rfl (qbl9 (qv 2)) (λ _ _ _ _=>(qat9 (i:=0) (show(["window"]:List Str).Nodup by decide) rfl (zai rfl))) (λ _ _ _ _=>qdh9) (λ _ _ _ _=>(qe_isN (qv 0)))) qac9))) qbr9 (qv 2))))),?_⟩
 walk_at "d"
 refine⟨_,rfl,p,rfl,⟨_,SqL.of hp⟩,?_⟩
 refine qcq9 (K:=K) (a:=p) (xs:=(R.map winT).map V.str) (λ D i H'=>Same H H'/\LA enc3 H' D (R.take i)) (λ D hD=>⟨qbc9 hD _,LA.nil qaj9⟩) (λ D i H' _ _ h=>SqL.of (h.1 _ _ hp)) ?_ ?_
 ·intro D i y H' hD hi z9;obtain⟨sD,hL⟩ := z9
  rw[zah,zah] at hi
  cases hx:R[i]? with
  |none=>rw[hx] at hi;cases hi
  |some x =>
   rw[hx] at hi
   cases hi
   have li:=(zab.mp hx).1
   obtain⟨x0,x1,x2,x3,x4⟩:=hW x (zaf hx)
   refine⟨λ k v e=>?_,?_⟩
   ·match k,e with
    |0,e=>cases e
    |1,e=>exact e
    |k+2,e=>cases e
   refine⟨_,rfl,_,rfl,day,x,rfl,x0,x1,x2,d2,x3,x4,λ r H2 s2 e2=>?_⟩
   have hL2:=hL.same s2
   obtain⟨ys,y1,yl,_⟩:=hL2.lst
   refine⟨ys,y1,qbq9 (by rw[yl,zbd];omega),qaz9 hD (sD.trans s2),?_⟩
   have e:R.take (i+1)=R.take i++[x]:=by rw[zbe,hx];rfl
   rw[e]
   exact hL2.append y1 e2
 ·intro D H1 hD z9;obtain⟨s1,hL⟩ := z9
  rw[zac,zac,zbk] at hL
  obtain⟨us,u1,u2,u3⟩:=hL.lst
  refine⟨_,rfl,D,rfl,⟨_,SqL.of u1⟩,?_⟩
  refine qcq9 (K:=K) (a:=D) (xs:=us) (λ D' i H'=>Same H1 H'/\H' D'=zhq (.lst ((zbc i false).map V.bl))) (λ D' hD'=>⟨qbc9 hD' _,qaj9⟩) (λ D' i H' _ _ h=>SqL.of (h.1 _ _ u1)) ?_ ?_
  ·intro D' i y H' hD' hi z9;obtain⟨sD,eD⟩ := z9
   obtain⟨r,x,rfl,_,_⟩:=u3 i y hi
   have li:=(zab.mp hi).1
   refine⟨λ k v e=>?_,?_⟩
   ·match k,e with
    |0,e=>cases e
    |k+1,e=>cases e
   refine⟨_,rfl,_,eD,qbq9 (by rw[zac,zdy];omega),qaz9 hD' sD,?_⟩
   rw[qaj9,zdl,zaj]
   rfl
  ·intro D' H2 hD' z9;obtain⟨s2,e2⟩ := z9
   refine⟨D',_,rfl,SqL.of e2,_,rfl,?_⟩
   have:(zbc us.length false).any id=false:=by
    rw[zbp]
    intro z
    obtain⟨x,hx,e⟩:=zdc.mp z
    rw[zeu hx] at e
    cases e
   rw[this]
   exact iteF ⟨_,rfl,q D H2 (s1.trans s2) hD (hL.same s2)⟩
inductive spNumOf(K:W.Frag)(vs:List V)(H:Hp)(Q:VK)(z3q:XK):Prop
 |mk (p:zht) (z:Str) (ys:List Str):vs=[.ref p,.str z]->H p=zhq (.lst (ys.map V.str))->ys.length<=100000->(∀(v:Int)(ys':List Str),(z∈ys/\v=((ys.idxOf z:Nat):Int)/\ys'=ys)\/(z∉ys/\v=(ys.length:Int)/\ys'=ys++[z])->Q (.int v) (upd H p (.lst (ys'.map V.str))))->spNumOf K vs H Q z3q
theorem upd_id(h:H p=zhq o):upd H p o=H:=funext λ b=>by
 by_cases e:b=p
 ·rw[e,qaj9,h]
 ·rw[qao9 e]
theorem qjk9{ns:List Str}:inV (.str x) (ns.map V.str)=decide (x∈ns):=by
 unfold inV
 rw[zcc,zdc,decide_eq_true_iff]
 constructor
 ·intro z9;obtain⟨y,hy,e⟩ := z9
  obtain⟨z,hz,rfl⟩:=zas.mp hy
  have:z=x:=by simpa [eqV] using e
  exact this ▸ hz
 ·intro h
  exact⟨.str x,zas.mpr ⟨x,h,rfl⟩,by simp[eqV]⟩
theorem ok_numOf(F:Fun K "number_of" "number_of" qdw9 f fd):FnOk P w K mg base CX0 (n+1) f fd ["names","name"] (spNumOf K):=by
 refine F.okQ qme9 (λ vs H Q E h=>?_) (λ cdv A outer s H vs Q E hr h=>?_)
 ·obtain⟨_,_,_,rfl,_⟩:=h
  rfl
 obtain⟨p,z,ys,rfl,hp,hl,qq⟩:=h
 refine⟨_,(qob9 (qs_if (qar9 qgs9 (qv 1) (qv 0) rfl) (qae9 (qcl9 (qbf9 (qv 0) (qa_c (qv 1) qac9)))) qan9) (qae9 (qam9 (qkm9 K rfl (qv 0) (qa_c (qv 1) qac9))))),?_⟩
 walk_at "d"
 have q1:z∈ys->Q (.int ((ys.idxOf z:Nat):Int)) H:=λ c=>by
  have:=qq _ ys (.inl ⟨c,rfl,rfl⟩)
  rw[upd_id hp] at this
  exact this
 have q2:z∉ys->Q (.int (ys.length:Int)) (upd H p (.lst ((ys++[z]).map V.str))):=λ c=>qq _ _ (.inr ⟨c,rfl,rfl⟩)
 have hz:=L.le (n:=ys.length) ⋯
 have hz2:=L.le (n:=ys.length+1) ⋯
 by_cases c:z∈ys
 ·refine⟨λ σ' H'=>σ'=[sR9 p,sS9 z]/\H'=H,?_,?_⟩
  ·refine⟨_,rfl,_,rfl,p,_,rfl,.inl (SqL.of hp),rfl,qfd9 _,_,rfl,?_⟩
   rw[qjk9,decide_eq_true c]
   exact iteN (by decide) ⟨rfl,rfl⟩
  intro σ' H' z9;obtain⟨rfl,rfl⟩ := z9
  exact⟨_,rfl,.inl ⟨rfl,_,SqL.of hp⟩,_,rfl,p,z,ys,rfl,rfl,SqL.of hp,c,hz,q1 c⟩
 ·refine⟨λ σ' H'=>σ'=[sR9 p,sS9 z]/\H'=upd H p (.lst ((ys++[z]).map V.str)),?_,?_⟩
  ·refine⟨_,rfl,_,rfl,p,_,rfl,.inl (SqL.of hp),rfl,qfd9 _,_,rfl,?_⟩
   rw[qjk9,decide_eq_false c]
   refine iteP (by decide) ⟨_,rfl,.inl ⟨rfl,_,SqL.of hp⟩,_,rfl,p,_,_,rfl,rfl,hp,qbq9 (by rw[zac];omega),rfl,?_⟩
   rw[zaj]
   rfl
  intro σ' H' z9;obtain⟨rfl,rfl⟩ := z9
  have e:upd H p (.lst ((ys++[z]).map V.str)) p=zhq (.lst ((ys++[z]).map V.str)):=qaj9
  refine⟨_,rfl,.inl ⟨rfl,_,SqL.of e⟩,_,rfl,p,z,ys++[z],rfl,rfl,SqL.of e,by simp,by rw[zap,zcd];exact hz2,?_⟩
  rw[zez,if_neg c]
  simpa using q2 c
theorem qet9:roadT s e R=zbg " " ((s++">"++e)::R.map winT):=by
 have h:∀(x:Str)(r:List Str),zbg " " (x::r)=Txt.join " " (x::r):=λ x r=>by
  unfold Txt.join
  rw[StrLaws.glued_eq_join]
 unfold roadT qqw9
 cases R with
 |nil=>rw[if_pos rfl,zcy];rfl
 |cons w R =>
  rw[if_neg (by simp),zbh,<- h,zcy]
  rfl
theorem app_mem{u v:Str}:c∈(u++v).cps.toList↔c∈u.cps.toList\/c∈v.cps.toList:=by
 have e:(u++v).cps.toList=u.cps.toList++v.cps.toList:=by
  show(u.cps++v.cps).toList=_
  simp
 rw[e,zak]
theorem qij9{x:T3}(h0:0<=x.1)(h1:0<=x.2.1)(h2:0<=x.2.2)(hc:(c<48\/57<c)/\c≠45/\c≠43):c∉(winT x).cps.toList:=λ z=>by
 rw[qre9,app_mem,app_mem] at z
 rcases z with(z|z)|z
 ·exact qnj9 h0 h1 ⟨hc.1,hc.2.1⟩ z
 ·have:(("+":Str)).cps.toList=[43]:=by decide +kernel
  rw[this] at z
  exact hc.2.2 (by simpa using z)
 ·exact qcs9 h2 hc.1 z
theorem qgu9(hs:Low s)(he:Low e)(hc:(c<97\/122<c)/\c≠62):c∉(s++">"++e).cps.toList:=λ z=>by
 rw[app_mem,app_mem] at z
 rcases z with(z|z)|z
 ·exact qfv9 hs hc.1 z
 ·have:((">":Str)).cps.toList=[62]:=by decide +kernel
  rw[this] at z
  exact hc.2 (by simpa using z)
 ·exact qfv9 he hc.1 z
theorem qra9{day:Int}(hs:Low s)(he:Low e)(hR:WinsR day R):Txt.split (roadT s e R) " "=(s++">"++e)::R.map winT:=by
 rw[qet9]
 refine qdq9 (c:=32) (cs:=[]) (by decide +kernel) (by simp) (by decide +kernel) (by simp) λ p hp=>?_
 rcases zag.mp hp with rfl|hp
 ·exact qgu9 hs he ⟨⋯,⋯⟩
 ·obtain⟨x,hx,rfl⟩:=zas.mp hp
  obtain⟨a,b,c,d,_⟩:=hR x hx
  exact qij9 a ⋯ ⋯ ⟨⋯,⋯,⋯⟩
theorem qoc9{day:Int}(hs:Low s)(he:Low e)(hR:WinsR day R):59∉(roadT s e R).cps.toList:=by
 rw[qet9,qbh9]
 intro z
 rcases zak.mp z with z|z
 ·exact qgu9 hs he ⟨⋯,⋯⟩ z
 ·obtain⟨p,hp,z⟩:=zdd.mp z
  rcases zak.mp z with z|z
  ·exact absurd z (by decide +kernel)
  ·obtain⟨x,hx,rfl⟩:=zas.mp hp
   obtain⟨a,b,c,d,_⟩:=hR x hx
   exact qij9 a ⋯ ⋯ ⟨⋯,⋯,⋯⟩ z
theorem num_intG{n:Int}(h0:0<=n)(hl:(numT n).length<=100):PySem.intText? (numT n)=zhq n:=by
 have hne:(numT n).cps.toList≠[]:=λ e=>by
  have:=num_ne h0
  have e':(numT n).length=(numT n).cps.toList.length:=by simp[zbm]
  rw[e',e] at this
  exact absurd this (by decide)
 have e:=znd (λ c hc=>qis9 h0 c hc) hne (zbj hl (by decide))
 rw[qli9 h0,W.KIN.val_back] at e
 rw[e]
 congr 1
 omega
inductive spNumG(vs:List V)(H:Hp)(Q:VK)(z3q:XK):Prop
 |mk (n:Int) (m:Nat):vs=[.str (numT n),.int m]->0<=n->(numT n).length<=m->m<=100->(∀H',Same H H'->Q (.int n) H')->spNumG vs H Q z3q
theorem ok_numG(gt:Gt mg t1 t2 t3 t4)(F:Fun K "read_number" "read_number" qby9 f fd)(B:Bl mg):FnOk P w K mg base CX0 (n+1) f fd ["text","most_figures"] spNumG:=by
 refine F.okQ qgw9 (λ vs H Q E h=>?_) (λ cdv A outer s H vs Q E hr h=>?_)
 ·obtain⟨_,_,rfl,_⟩:=h
  rfl
 obtain⟨n,m,rfl,n0,hl,hm,q⟩:=h
 refine⟨_,(qaa9 (qs_if (qgd9 (QW.pt (qw_or (qdj9 (qft9 qdi9 qdi9 qaf9 (qe_cb qep9 rfl B.len qeb9 (qa_c (qv 0) qac9)) (qv 1))) (qeq9 (qdj9 (qct9 (qe_cb (qex9 rfl) rfl B.all qlt9 (qa_c (qdv9 ["sign"] [zhr] (BlkOk.of rfl rfl (SubL.to subN) rfl) rfl (qth9 (qv 0)) (λ _ _ _ _=>(qat9 (i:=0) (show(["sign"]:List Str).Nodup by decide) rfl (zai rfl))) (λ _ _ _ _=>qdh9) (λ _ _ _ _=>(qfo9 qnt9 (qv 0) (qoe9 rfl gt.fig) rfl))) qac9)))))))) (qae9 (qam9 qbr9)) qan9) (qaa9 (qs_if (qgd9 (QW.pt (qmf9 (qar9 qrk9 (qe_cb qep9 rfl B.len qeb9 (qa_c (qv 0) qac9)) qaf9 (qbb9 _)) (qir9 (qar9 qef9 (qe_ix qsx9 (qv 0) qaf9 (λ _ _=>rfl)) qah9 (qbb9 _)))))) (qae9 (qam9 qbr9)) qan9) (qae9 (qam9 (qe_ct qlr9 rfl B.int_ bt_int (qa_c (qv 0) qac9)))))),?_⟩
 walk_at "d"
 have hz:=L.le (n:=(numT n).length) ⋯
 have l1:=num_ne n0
 refine⟨λ b H'=>b=false/\Same H H',?_,?_⟩
 ·refine⟨_,rfl,_,rfl,hz,_,_,rfl,rfl,_,rfl,iteP (decide_eq_true ⋯) ⟨_,rfl,_,_,rfl,rfl,_,rfl,iteN (by simp;omega) ?_⟩⟩
  refine⟨_,rfl,_,rfl,qif9 (λ c hc=>by have:=qis9 n0 c hc;omega),qle9 (λ c hc=>fig_in (qis9 n0 c hc)) ⋯ λ D H1 s1 e1=>?_⟩
  exact⟨D,_,rfl,SqL.of e1,_,rfl,by rw[qsh9];rfl,s1⟩
 intro b H1 z9;obtain⟨rfl,s1⟩ := z9
 refine iteF ?_
 refine⟨λ b H'=>b=false/\H'=H1,?_,?_⟩
 ·refine⟨_,rfl,_,rfl,hz,_,_,rfl,rfl,_,rfl,ite2 (λ c=>?_) (λ c=>⟨rfl,rfl⟩)⟩
  have c':1<(numT n).length:=by
   have:=of_decide_eq_true c
   omega
  obtain⟨c,hc,n48⟩:=qos9 n0 c'
  refine⟨_,rfl,_,0,c,rfl,rfl,hz,qcf9 (j:=0) (by rw[zcg];exact hc),rfl,_,rfl,decide_eq_false λ z=>n48 ?_,rfl⟩
  have z:(⟨#[c]⟩:Str)="0" := by
   injection z
  have:=congrArg (λ s:Str=>s.cps.toList) z
  have e0:(("0":Str)).cps.toList=[48]:=by decide +kernel
  rw[e0] at this
  simpa using this
 intro b H2 z9;obtain⟨rfl,rfl⟩ := z9
 refine iteF ?_
 exact⟨_,rfl,_,n,rfl,num_intG n0 ⋯,⋯,q _ s1⟩
theorem num_of_R:∀(vs:List V)(H:Hp)(Q:VK)(E:XK),spNumR vs H Q E->spNumG vs H Q E:=λ vs H Q E ⟨n,e,sm,q⟩=>⟨n,16,e,sm.1,sm.len,by decide,q⟩
theorem qch9(a b:Str):(a++b).cps.toList=a.cps.toList++b.cps.toList:=by
 show(a.cps++b.cps).toList=_
 simp
theorem qqs9{t:Int}(h:t<0):numT t="-"++numT (-t):=by
 obtain⟨m,rfl⟩:∃m:Nat,t=zhi m:=⟨(-t-1).toNat,⋯⟩
 refine qcz9 ?_
 rw[qch9,show -(zhi m)=((m+1:Nat):Int) from rfl]
 show(zbv ("-"++toString (m+1))).cps.toList=(zbv "-").cps.toList++(zbv (toString (m+1))).cps.toList
 rw[PyProof.Rows.signs_ofString,PyProof.Rows.signs_ofString,PyProof.Rows.signs_ofString,String.toList_append,zaj]
theorem starts_no(hy:y.cps.toList=[c])(h:c∉x.cps.toList):Txt.startswith x y=false:=by
 unfold Txt.startswith
 rw[Bool.and_eq_false_iff]
 refine .inr ?_
 rw[StrLaws.subAt_eq,hy,zdi,show y.length=1 by rw[show y.length=y.cps.toList.length by simp[zbm],hy];rfl]
 refine zbp.mpr λ z=>h ?_
 have:=eq_of_beq z
 exact zcu (this ▸ zae.mpr rfl)
theorem qta9:Txt.startswith (y++x) y=true:=by
 unfold Txt.startswith
 have ly:y.length=y.cps.toList.length:=by simp[zbm]
 rw[zaz,decide_eq_true_eq,StrLaws.subAt_eq,zdi,qch9,ly,zfv]
 refine⟨by rw[zaa];omega,by simp⟩
theorem slice_one(hy:y.cps.toList=[c]):Txt.slice (y++x) (zhq 1) zhr=x:=qcz9 (by
 rw[qmk9 (by decide),qch9,hy]
 rfl)
inductive Part
 |name (x:Str)
 |ends (a b:Str)
 |moment (t:Int)
 |turns (k:Int)
 |win (x:T3)
def Part.txt:Part->Str
 |name x=>x
 |ends a b=>a++">"++b
 |moment t=>numT t
 |turns k=>numT k
 |win x=>winT x
def Part.kind:Part->Str
 |name _ => "name"
 |ends _ _ => "road"
 |moment _ => "moment"
 |turns _ => "turns"
 |win _ => "window"
def Part.named:Part->Bool
 |name _=>true
 |ends _ _=>true
 |_=>false
def Part.ok(d:Int):Part->Prop
 |name x=>Low x
 |ends a b=>Low a/\Low b
 |moment t=>-1000000000000000000000000000000<t/\t<1000000000000000000000000000000
 |turns k=>0<=k/\k<=3
 |win x=>0<=x.1/\x.1<=x.2.1/\x.2.1<d/\d<=1000000000000000/\1<=x.2.2/\x.2.2<=1000000000000000
def Part.ns:Part->List Str
 |name x=>[x]
 |ends a b=>[a,b]
 |_=>[]
def PV(H:Hp)(v:V):Part->Prop
 | .moment t=>v=.int t
 | .turns k=>v=.int k
 | .win x=>∃r,v=.ref r/\H r=zhq (.tup (enc3 x))
 |_=>False
theorem PV.same{v:V}{p:Part}(h:PV H v p)(s:Same H H'):PV H' v p:=by
 cases p with
 |name _=>exact h
 |ends _ _=>exact h
 |moment _=>exact h
 |turns _=>exact h
 |win x =>
  obtain⟨r,e,er⟩:=h
  exact⟨r,e,s _ _ er⟩
theorem PV.some{H:Hp}{v:V}{p:Part}(h:PV H v p):v ≠ .non:=by
 cases p with
 |name _=>exact h.elim
 |ends _ _=>exact h.elim
 |moment _=>rw[h];simp
 |turns _=>rw[h];simp
 |win x =>
  obtain⟨r,e,_⟩:=h
  rw[e]
  simp
theorem qjg9{n:Int}(h0:0<=n)(hm:1<=m)(h:n<(10:Int) ^ m):(numT n).length<=m:=PyProof.Rows.toString_length_le h0 hm h
inductive spMomR(vs:List V)(H:Hp)(Q:VK)(z3q:XK):Prop
 |mk (t:Int):vs=[.str (numT t)]->(Part.moment t).ok 0->(∀H',Same H H'->Q (.int t) H')->spMomR vs H Q z3q
inductive spTurR(vs:List V)(H:Hp)(Q:VK)(z3q:XK):Prop
 |mk (k:Int):vs=[.str (numT k)]->(Part.turns k).ok 0->(∀H',Same H H'->Q (.int k) H')->spTurR vs H Q z3q
inductive spNamesR(vs:List V)(H:Hp)(Q:VK)(z3q:XK):Prop
 |mk (p:Part):vs=[.str p.kind,.str p.txt]->p.named=true->p.ok 0->(∀(r:zht)(H':Hp),Same H H'->H' r=zhq (.tup (p.ns.map V.str))->Q (.ref r) H')->spNamesR vs H Q z3q
inductive spValR(vs:List V)(H:Hp)(Q:VK)(z3q:XK):Prop
 |mk (d:Int) (p:Part):vs=[.int d,.str p.kind,.str p.txt]->p.named=false->p.ok d->(∀(v:V)(H':Hp),Same H H'->PV H' v p->Q v H')->spValR vs H Q z3q
structure Gr(mg:Str->Option zhs)(t1 t2 t3:Tok):Prop where
 mf:mg "MOST_FIGURES_rows"=zhq (.int 30 t1)
 mt:mg "MOST_TURNS"=zhq (.int 3 t2)
 mp:mg "MOST_PARTY"=zhq (.int 6 t3)
theorem pow30:(10:Int) ^ 30=1000000000000000000000000000000:=by decide +kernel
theorem ok_momR(gr:Gr mg t1 t2 t3)(F:Fun K "read_moment" "read_moment" qbx9 f fd)(Ca0:Callee P w K mg base n "read_number" ["text","most_figures"] spNumG):FnOk P w K mg base CX0 (n+1) f fd ["word"] spMomR:=by
 refine F.okQ sc_read_moment (λ vs H Q E h=>?_) (λ cdv A outer s H vs Q E hr h=>?_)
 ·obtain⟨_,rfl,_⟩:=h
  rfl
 obtain⟨t,rfl,⟨h1,h2⟩,q⟩:=h
 refine⟨_,(qaa9 (qs_if (qdj9 (qct9 (qok9 (qv 0) (qa_c qah9 qac9)))) (qae9 (qam9 (qe_fn Ca0 hr rfl (qa_c (qv 0) (qa_c (qcb9 rfl gr.mf) qac9))))) qan9) (qaa9 (qak9 (i:=1) sc_read_moment.nd rfl (zai rfl) (qe_fn Ca0 hr rfl (qa_c (qpl9 (qv 0) (qfh9 qaf9) qfi9) (qa_c (qcb9 rfl gr.mf) qac9)))) (qae9 (qam9 (qcc9 (QW.pt (qw_or (qcw9 (qv 1)) (qeq9 (qar9 qef9 (qv 1) qaf9 (qbb9 _))))) qbr9 (qe_neg (qv 1))))))),?_⟩
 walk_at "d"
 have e45:(("-":Str)).cps.toList=[45]:=by decide +kernel
 by_cases c:t<0
 ·have l:=qjg9 (n:=-t) (m:=30) ⋯ (by decide) (by rw[pow30];omega)
  have lw:("-"++numT (-t):Str).length<=zhu:=L.le (by rw[zaa,show(("-":Str)).length=1 by decide];omega)
  rw[qqs9 c]
  refine⟨_,rfl,rfl,_,_,rfl,rfl,?_⟩
  rw[qta9]
  refine⟨_,rfl,iteF ?_⟩
  refine⟨_,rfl,_,rfl,_,rfl,lw,?_⟩
  rw[slice_one e45]
  refine⟨-t,30,rfl,⋯,l,by decide,λ H1 s1=>?_⟩
  refine⟨_,rfl,_,rfl,iteF ⟨_,rfl,rfl,_,rfl,iteN (by simp;omega) ⟨_,rfl,_,rfl,?_⟩⟩⟩
  have q1:=q H1 s1
  rw[<- Int.neg_neg t] at q1
  exact q1
 ·have c':0<=t:=⋯
  have l:=qjg9 (n:=t) (m:=30) c' (by decide) (by rw[pow30];omega)
  refine⟨_,rfl,rfl,_,_,rfl,rfl,?_⟩
  rw[starts_no e45 (qcs9 c' ⋯)]
  refine⟨_,rfl,iteT ?_⟩
  exact⟨_,rfl,t,30,rfl,c',l,by decide,q⟩
theorem ok_turR(gr:Gr mg t1 t2 t3)(F:Fun K "read_turns" "read_turns" qck9 f fd)(Ca0:Callee P w K mg base n "read_number" ["text","most_figures"] spNumG):FnOk P w K mg base CX0 (n+1) f fd ["word"] spTurR:=by
 refine F.okQ sc_read_turns (λ vs H Q E h=>?_) (λ cdv A outer s H vs Q E hr h=>?_)
 ·obtain⟨_,rfl,_⟩:=h
  rfl
 obtain⟨k,rfl,⟨h1,h2⟩,q⟩:=h
 refine⟨_,(qaa9 (qak9 (i:=1) sc_read_turns.nd rfl (zai rfl) (qe_fn Ca0 hr rfl (qa_c (qv 0) (qa_c (qcb9 rfl gr.mf) qac9)))) (qae9 (qam9 (qcc9 (QW.pt (qmf9 (qt_notN (qv 1)) (qir9 (qar9 qdi9 (qv 1) (qcb9 rfl gr.mt) (qbb9 _))))) (qv 1) qbr9)))),?_⟩
 walk_at "d"
 have l:=qjg9 (n:=k) (m:=30) h1 (by decide) (by rw[pow30];omega)
 refine⟨_,rfl,k,30,rfl,h1,l,by decide,λ H1 s1=>?_⟩
 exact⟨_,rfl,_,rfl,iteT ⟨_,rfl,_,_,rfl,rfl,_,rfl,iteP (decide_eq_true h2) ⟨_,rfl,q H1 s1⟩⟩⟩
theorem ok_namesR(F:Fun K "read_names" "read_names" qcj9 f fd)(Cd0:Callee P w K mg base n "read_ends" ["text"] spEnds)(Ce0:Callee P w K mg base n "is_name" ["text"] spNameR):FnOk P w K mg base CX0 (n+1) f fd ["kind","word"] spNamesR:=by
 refine F.okQ qhp9 (λ vs H Q E h=>?_) (λ cdv A outer s H vs Q E hr h=>?_)
 ·obtain⟨_,rfl,_⟩:=h
  rfl
 obtain⟨p,rfl,hn,hok,q⟩:=h
 refine⟨_,(qaa9 (qs_if (qar9 qef9 (qv 0) qah9 (qbb9 _)) (qae9 (qam9 (qe_fn Cd0 hr rfl (qa_c (qv 1) qac9)))) qan9) (qae9 (qam9 (qcc9 (qct9 (qe_fn Ce0 hr rfl (qa_c (qv 1) qac9))) (qbn9 (qa_c (qv 1) qac9)) qbr9)))),?_⟩
 walk_at "d"
 cases p with
 |name x =>
  refine⟨_,rfl,rfl,_,rfl,iteN (by show ¬decide (V.str "name"=V.str "road")=true;decide +kernel) ?_⟩
  refine⟨_,rfl,x,rfl,hok,λ H1 s1=>⟨_,rfl,iteT ⟨_,rfl,(by show 1<=zhu;decide),λ rr hrr=>?_⟩⟩⟩
  generalize hgH2:upd _ rr _=H2
  revert H2
  refine qal9 hrr λ H2 s2 e2=>?_
  exact q rr H2 (s1.trans s2) e2
 |ends a b =>
  refine⟨_,rfl,rfl,_,rfl,iteP (decide_eq_true rfl) ⟨_,rfl,a,b,rfl,hok.1,hok.2,λ rr H1 s1 e1=>?_⟩⟩
  exact q rr H1 s1 e1
 |moment _=>cases hn
 |turns _=>cases hn
 |win _=>cases hn
theorem ok_valR(F:Fun K "read_value" "read_value" qcn9 f fd)(Ci0:Callee P w K mg base n "read_moment" ["word"] spMomR)(Ck0:Callee P w K mg base n "read_turns" ["word"] spTurR)(Cb0:Callee P w K mg base n "read_window" ["day","text"] spWinR):FnOk P w K mg base CX0 (n+1) f fd ["day","kind","word"] spValR:=by
 refine F.okQ qhq9 (λ vs H Q E h=>?_) (λ cdv A outer s H vs Q E hr h=>?_)
 ·obtain⟨_,_,rfl,_⟩:=h
  rfl
 obtain⟨d,p,rfl,hn,hok,q⟩:=h
 refine⟨_,(qaa9 (qs_if (qar9 qef9 (qv 1) qah9 (qbb9 _)) (qae9 (qam9 (qe_fn Ci0 hr rfl (qa_c (qv 2) qac9)))) qan9) (qaa9 (qs_if (qar9 qef9 (qv 1) qah9 (qbb9 _)) (qae9 (qam9 (qe_fn Ck0 hr rfl (qa_c (qv 2) qac9)))) qan9) (qae9 (qam9 (qe_fn Cb0 hr rfl (qa_c (qv 0) (qa_c (qv 2) qac9))))))),?_⟩
 walk_at "d"
 cases p with
 |name _=>cases hn
 |ends _ _=>cases hn
 |moment t=>exact⟨_,rfl,rfl,_,rfl,iteP (decide_eq_true rfl) ⟨_,rfl,t,rfl,hok,λ H1 s1=>q _ H1 s1 rfl⟩⟩
 |turns k=>exact⟨_,rfl,rfl,_,rfl,iteN (by show ¬decide (V.str "turns"=V.str "moment")=true;decide +kernel) ⟨_,rfl,rfl,_,rfl,iteP (decide_eq_true rfl) ⟨_,rfl,k,rfl,hok,λ H1 s1=>q _ H1 s1 rfl⟩⟩⟩
 |win x =>
  obtain⟨x0,x1,x2,d2,x3,x4⟩:=hok
  exact⟨_,rfl,rfl,_,rfl,iteN (by show ¬decide (V.str "window"=V.str "moment")=true;decide +kernel) ⟨_,rfl,rfl,_,rfl,iteN (by show ¬decide (V.str "window"=V.str "turns")=true;decide +kernel) ⟨_,rfl,_,rfl,d,x,rfl,x0,x1,x2,d2,x3,x4,λ r H1 s1 e1=>q _ H1 s1 ⟨r,rfl,e1⟩⟩⟩⟩
end
variable {ps:List Part}
theorem qnv9{t:Int}(hc:(c<48\/57<c)/\c≠45):c∉(numT t).cps.toList:=λ z=>by
 by_cases h:t<0
 ·rw[qqs9 h,qch9] at z
  rcases zak.mp z with z|z
  ·rw[show(("-":Str)).cps.toList=[45] by decide +kernel] at z
   exact hc.2 (zae.mp z)
  ·exact qcs9 ⋯ hc.1 z
 ·exact qcs9 ⋯ hc.1 z
theorem Part.free{p:Part}(h:p.ok d):32∉p.txt.cps.toList:=by
 cases p with
 |name x=>exact qfv9 h ⋯
 |ends a b=>exact qgu9 h.1 h.2 ⟨⋯,⋯⟩
 |moment t=>exact qnv9 ⟨⋯,⋯⟩
 |turns k=>exact qnv9 ⟨⋯,⋯⟩
 |win x=>exact qij9 h.1 (by have:=h.2.1;have:=h.1;omega) (by have:=h.2.2.2.2.1;omega) ⟨⋯,⋯,⋯⟩
theorem Part.len{p:Part}(h:p.ok d):p.txt.length<=60:=by
 cases p with
 |name x=>exact zbj h.l8 (by decide)
 |ends a b =>
  have h1:=h.1.l8
  have h2:=h.2.l8
  show(a++">"++b).length<=60
  rw[zaa,zaa,show((">":Str)).length=1 by decide]
  omega
 |moment t =>
  show(numT t).length<=60
  obtain⟨h1,h2⟩:=h
  by_cases c:t<0
  ·have:=qjg9 (n:=-t) (m:=30) ⋯ (by decide) (by rw[pow30];omega)
   rw[qqs9 c,zaa,show(("-":Str)).length=1 by decide]
   omega
  ·have:=qjg9 (n:=t) (m:=30) ⋯ (by decide) (by rw[pow30];omega)
   omega
 |turns k =>
  obtain⟨h1,h2⟩:=h
  have:=qjg9 (n:=k) (m:=30) ⋯ (by decide) (by rw[pow30];omega)
  show(numT k).length<=60
  omega
 |win x =>
  obtain⟨x0,x1,x2,d2,x3,x4⟩:=h
  exact zbj (qgp9 ⟨⟨x0,⋯⟩,⟨⋯,⋯⟩,⟨⋯,⋯⟩⟩) (by decide)
structure RowT(K:W.Frag)(kvS:List (Str×Tok×zhs))(w:Str)(ta:zht)(ks:List Str):Prop where
 get:kdVal kvS w=zhq (.ref ta)
 sh:∀H,SqT K H ta (ks.map V.str)
 nm:w≠"meet"
 fr:32∉w.cps.toList
 len:w.length<=10
def vps(ps:List Part):List Part:=ps.filter λ p=>!p.named
def VP(H:Hp)(vs:List V)(ps:List Part):Prop:=vs.length=(vps ps).length/\∀(i:Nat) v p,vs[i]?=zhq v->(vps ps)[i]?=zhq p->PV H v p
def rowS(w:Str)(ps:List Part):Str:=zbg " " (w::ps.map Part.txt)
theorem VP.same{H H':Hp}{vs:List V}{ps:List Part}(h:VP H vs ps)(s:Same H H'):VP H' vs ps:=⟨h.1,λ i v p a b=>(h.2 i v p a b).same s⟩
theorem VP.skip{p:Part}(h:VP H vs ps)(hp:p.named=true):VP H vs (ps++[p]):=by
 unfold VP vps at *
 rw[zdg,show [p].filter (λ p=>!p.named)=[] by simp[hp],zce]
 exact h
theorem VP.snoc{p:Part}{v:V}(h:VP H vs ps)(hp:p.named=false)(hv:PV H v p):VP H (vs++[v]) (ps++[p]):=by
 unfold VP vps at *
 rw[zdg,show [p].filter (λ p=>!p.named)=[p] by simp[hp]]
 refine⟨by simp[h.1],λ i u q a b=>?_⟩
 rcases zdz i vs.length with z|z
 ·rw[zat z] at a
  rw[zat (by rw[<- h.1];exact z)] at b
  exact h.2 i u q a b
 ·rw[zau z] at a
  rw[zau (by rw[<- h.1];exact z),<- h.1] at b
  have e:i-vs.length=0:=by
   have:=(zab.mp a).1
   simp at this
   omega
  rw[e] at a b
  cases a
  cases b
  exact hv
theorem row_split{w:Str}(hw:32∉w.cps.toList)(hp:∀p∈ps,p.ok d):Txt.split (rowS w ps) " "=w::ps.map Part.txt:=by
 refine qdq9 (c:=32) (cs:=[]) (by decide +kernel) (by simp) (by decide +kernel) (by simp) λ x hx=>?_
 rcases zag.mp hx with rfl|hx
 ·exact hw
 ·obtain⟨p,h,rfl⟩:=zas.mp hx
  exact Part.free (hp p h)
theorem row_len{w:Str}(hw:w.length<=10)(hp:∀p∈ps,p.ok d)(l8:ps.length<=8):(rowS w ps).length<=1000:=by
 have h1:=StrLaws.join_length_le " " (w::ps.map Part.txt)
 have h2:=StrLaws.sumLen_le (B:=60) (w::ps.map Part.txt) λ y hy=>by
  rcases zag.mp hy with rfl|hy
  ·omega
  ·obtain⟨p,h,rfl⟩:=zas.mp hy
   exact Part.len (hp p h)
 rw[zbb,zac] at h1 h2
 rw[show((" ":Str)).length=1 by decide] at h1
 have:rowS w ps=zbg " " (w::ps.map Part.txt):=rfl
 rw[this]
 omega
theorem qel9(h:x.length<=1000000):(Builtin.Str.partsBetween x (Builtin.Str.occurrences x sep 0 x.length (x.length+1)) sep.length).length<=zhu:=by
 rw[length_partsBetween]
 have:=StrLaws.occ_length_le x sep 0 x.length (x.length+1)
 exact L.le ⋯
theorem in_kind(p:Part):inV (.str p.kind) [.str "name",.str "road"]=p.named:=by
 cases p with
 |name _=>exact(by decide +kernel:inV (.str "name") [.str "name",.str "road"]=true)
 |ends _ _=>exact(by decide +kernel:inV (.str "road") [.str "name",.str "road"]=true)
 |moment _=>exact(by decide +kernel:inV (.str "moment") [.str "name",.str "road"]=false)
 |turns _=>exact(by decide +kernel:inV (.str "turns") [.str "name",.str "road"]=false)
 |win _=>exact(by decide +kernel:inV (.str "window") [.str "name",.str "road"]=false)
theorem qol9{p:Part}(h:ps[i]?=zhq p):(ps.take (i+1)).flatMap Part.ns=(ps.take i).flatMap Part.ns++p.ns:=by
 rw[zbe,h]
 simp
theorem ns_len(ps:List Part):(ps.flatMap Part.ns).length<=2*ps.length:=by
 induction ps with
 |nil=>simp
 |cons p ps ih =>
  rw[zbw,zap,zbb]
  have:p.ns.length<=2:=by cases p<;>simp[Part.ns]
  omega
inductive spShape(K:W.Frag)(kvS:List (Str×Tok×zhs))(vs:List V)(H:Hp)(Q:VK)(z3q:XK):Prop
 |mk (pw:zht) (w:Str) (ws:List Str) (ta:zht) (ks:List Str):vs=[.ref pw]->(H pw=zhq (.lst ((w::ws).map V.str)))->RowT K kvS w ta ks->Q (.ref ta) H->spShape K kvS vs H Q z3q
inductive spRowR(K:W.Frag)(kvS:List (Str×Tok×zhs))(vs:List V)(H:Hp)(Q:VK)(z3q:XK):Prop
 |mk (d:Int) (w:Str) (ta:zht) (ps:List Part):vs=[.int d,.str (rowS w ps)]->RowT K kvS w ta (ps.map Part.kind)->((∀p∈ps,p.ok d))->ps.length<=8->(∀(r pn pv:zht)(us:List V)(H':Hp),Same H H'->H' r=zhq (.tup [.str w,.ref pn,.ref pv])->H' pn=zhq (.lst ((ps.flatMap Part.ns).map V.str))->H' pv=zhq (.lst us)->VP H' us ps->Q (.ref r) H')->spRowR K kvS vs H Q z3q
section
variable {w:zhy}{f:zht}
theorem ok_shape(gr:Gr mg t1 t2 t3)(kS:KDict K w.params aS kvS)(mS:mg "SHAPES"=zhq (.ref aS))(F:Fun K "shape_of" "shape_of" qdm9 f fd)(B:Bl mg):FnOk P w K mg base CX0 (n+1) f fd ["words"] (spShape K kvS):=by
 refine F.okQ qjo9 (λ vs H Q E h=>?_) (λ cdv A outer s H vs Q E hr h=>?_)
 ·obtain⟨_,_,_,_,_,rfl,_⟩:=h
  rfl
 obtain⟨pw,w,ws,ta,ks,rfl,ep,rt,q⟩:=h
 refine⟨_,(qaa9 (qs_if (QW.pt (qmf9 (qar9 qef9 (qe_ix qau9 (qv 0) qaf9 (λ _ _=>rfl)) qah9 (qbb9 _)) (qir9 (qft9 qdi9 qdi9 qaf9 (qe_cb qbg9 rfl B.len qeb9 (qa_c (qv 0) qac9)) (qe_op qbu9 qaf9 (qcb9 rfl gr.mp)))))) (qae9 (qam9 (qe_op qmi9 (qbn9 (qa_c qah9 qac9)) (qe_op qqq9 (qbn9 (qa_c qah9 qac9)) (qe_op qgy9 (qe_cb qbg9 rfl B.len qeb9 (qa_c (qv 0) qac9)) qaf9))))) qan9) (qae9 (qam9 (qqg9 kS rfl mS (qe_ix qau9 (qv 0) qaf9 (λ _ _=>rfl)) ⟨rfl,rfl,rfl,rfl⟩)))),?_⟩
 walk_at "d"
 have a0:atI ((w::ws).map V.str) 0=zhq (.str w):=qcf9 (j:=0) rfl
 refine⟨_,rfl,pw,_,_,_,rfl,rfl,SqL.of ep,a0,rfl,_,rfl,iteN (λ z=>rt.nm ?_) ?_⟩
 ·have:=of_decide_eq_true z
  injection this
 ·exact⟨_,rfl,pw,_,_,_,rfl,rfl,SqL.of ep,a0,w,.ref ta,rfl,by rw[rt.get];rfl,q⟩
theorem ok_rowR(F:Fun K "read_row" "read_row" qdk9 f fd)(B:Bl mg)(Cp0:Callee P w K mg base n "shape_of" ["words"] (spShape K kvS))(Cl0:Callee P w K mg base n "read_names" ["kind","word"] spNamesR)(Cm0:Callee P w K mg base n "read_value" ["day","kind","word"] spValR):FnOk P w K mg base CX0 (n+1) f fd ["day","row"] (spRowR K kvS):=by
 refine F.okQ sc_read_row (λ vs H Q E h=>?_) (λ cdv A outer s H vs Q E hr h=>?_)
 ·obtain⟨_,_,_,_,rfl,_⟩:=h
  rfl
 obtain⟨d,w,ta,ps,rfl,rt,hok,l8,q⟩:=h
 refine⟨_,(qaa9 (qs_if (qdj9 (qct9 (qe_cb qfg9 rfl B.isinstance qap9 (qa_c (qv 1) (qa_c (qe_ty "str" rfl B.str_ qhx9) qac9))))) (qae9 (qam9 qbr9)) qan9) (qaa9 (qak9 (i:=2) sc_read_row.nd rfl (zai rfl) (qhc9 K rfl (qv 1) (qa_c qah9 qac9))) (qaa9 (qak9 (i:=3) sc_read_row.nd rfl (zai rfl) (qe_fn Cp0 hr rfl (qa_c (qv 2) qac9))) (qaa9 (qs_if (qgd9 (QW.pt (qw_or (qcw9 (qv 3)) (qeq9 (qar9 qkf9 (qe_cb qbg9 rfl B.len qeb9 (qa_c (qv 2) qac9)) (qe_op qbu9 qaf9 (qe_cb qbg9 rfl B.len qeb9 (qa_c (qv 3) qac9))) (qbb9 _)))))) (qae9 (qam9 qbr9)) qan9) (qaa9 (qak9 (i:=4) sc_read_row.nd rfl (zai rfl) (qbi9 qac9)) (qaa9 (qak9 (i:=5) sc_read_row.nd rfl (zai rfl) (qbi9 qac9)) (qaa9 (qeo9 ziq.never rfl (qi_zipT rfl B.zip (qa_c (qv 3) (qa_c (qps9 (qv 2) (qfh9 qaf9) qfi9) qac9))) (qpj9 rfl (qbd9 (qat9 (i:=6) sc_read_row.nd rfl (zai rfl)) (qbd9 (qat9 (i:=7) sc_read_row.nd rfl (zai rfl)) qhs9))) (qaa9 (qak9 (i:=8) sc_read_row.nd rfl (zai rfl) (qfo9 qop_inL (qv 6) (qbn9 (qa_c qah9 (qa_c qah9 qac9))) rfl)) (qaa9 (qak9 (i:=9) sc_read_row.nd rfl (zai rfl) (qe_cut (qcc9 (qct9 (qv 8)) (qe_fn Cl0 hr rfl (qa_c (qv 6) (qa_c (qv 7) qac9))) (qe_fn Cm0 hr rfl (qa_c (qv 0) (qa_c (qv 6) (qa_c (qv 7) qac9))))))) (qaa9 (qs_if (qcw9 (qv 9)) (qae9 (qam9 qbr9)) qan9) (qae9 (qs_if (qct9 (qv 8)) (qae9 (qcl9 (qe_extT (qv 4) (qa_c (qv 9) qac9)))) (qae9 (qcl9 (qbf9 (qv 5) (qa_c (qv 9) qac9)))))))))) (qae9 (qam9 (qbn9 (qa_c (qe_ix qau9 (qv 2) qaf9 (λ _ _=>rfl)) (qa_c (qv 4) (qa_c (qv 5) qac9))))))))))))),?_⟩
 walk_at "d"
 refine⟨_,rfl,_,"str",_,_,rfl,.str _,rfl,_,rfl,iteF ?_⟩
 have es:=row_split rt.fr hok
 have lx:=row_len rt.len hok l8
 refine⟨_,rfl,rfl,_,_,rfl,rfl,by decide,L.le ⋯,qel9 ⋯,by rw[es,zbb,zac];exact L.le ⋯,λ pw hpw=>?_⟩
 rw[es]
 generalize hgH1:upd _ pw _=H1
 revert H1
 refine qal9 hpw λ H1 s1 e1=>?_
 refine⟨_,rfl,pw,w,ps.map Part.txt,ta,_,rfl,e1,rt,?_⟩
 have lk:(ps.map Part.kind).map V.str=ps.map λ p=>V.str p.kind:=by rw[zcl];rfl
 refine⟨λ b H'=>b=false/\H'=H1,?_,?_⟩
 ·refine⟨_,rfl,_,rfl,iteF ?_⟩
  refine⟨_,rfl,pw,_,rfl,.inl (SqL.of e1),_,rfl,ta,_,rfl,.inr (rt.sh _),_,_,rfl,rfl,rfl,_,rfl,?_,rfl⟩
  simp
  omega
 intro b H1' z9;obtain⟨rfl,rfl⟩ := z9
 refine iteF ?_
 refine⟨(by show 0<=zhu;decide),λ pn hpn=>?_⟩
 have fpn:=s1.free hpn
 have nwn:pw≠pn:=λ z=>by rw[<- z,e1] at hpn;cases hpn
 generalize hgH2:upd _ pn _=H2
 revert H2
 refine qal9 hpn λ H2 s2 e2=>?_
 refine⟨(by show 0<=zhu;decide),λ pv hpv=>?_⟩
 have fpv:=(s1.trans s2).free hpv
 have npv:pv≠pn:=λ z=>by rw[z,e2] at hpv;cases hpv
 have nwv:pw≠pv:=λ z=>by rw[<- z,s2 _ _ e1] at hpv;cases hpv
 generalize hgH3:upd _ pv _=H3
 revert H3
 refine qal9 hpv λ H3 s3 e3=>?_
 refine⟨_,rfl,_,rfl,_,rfl,pw,_,rfl,SqL.of (s3 _ _ (s2 _ _ e1)),λ pz hpz=>?_⟩
 rw[cut1]
 have nzn:pz≠pn:=λ z=>by rw[z,s3 _ _ e2] at hpz;cases hpz
 have nzv:pz≠pv:=λ z=>by rw[z,e3] at hpz;cases hpz
 generalize hgH4:upd _ pz _=H4
 revert H4
 refine qal9 hpz λ H4 s4 e4=>?_
 have S4:=s1.trans (s2.trans (s3.trans s4))
 refine⟨ta,pz,rfl,⟨_,rt.sh _⟩,⟨_,SqL.of e4⟩,?_⟩
 have e4:H4 pz=zhq (.lst ((ps.map Part.txt).map V.str)):=e4
 refine qrq9 (K:=K) (a:=ta) (b:=pz) (xs:=(ps.map Part.kind).map V.str) (ys:=(ps.map Part.txt).map V.str) (by simp)
  (λ i σ H'=>E5q λ(us:List V) (v6 v7 v8 v9:Option V)=>A7q (σ=[sI9 d,sS9 (rowS w ps),sR9 pw,sR9 ta,sR9 pn,sR9 pv,v6,v7,v8,v9]) (Same H H') (H' pz=zhq (.lst ((ps.map Part.txt).map V.str))) (H' pw=zhq (.lst ((w::ps.map Part.txt).map V.str))) (H' pn=zhq (.lst (((ps.take i).flatMap Part.ns).map V.str))) (H' pv=zhq (.lst us)) (VP H' us (ps.take i)))
  ⟨[],_,_,_,_,rfl,S4,e4,s4 _ _ (s3 _ _ (s2 _ _ e1)),s4 _ _ (s3 _ _ e2),s4 _ _ e3,rfl,λ i v p a=>(by cases a)⟩ (λ i σ H' _ h=>?_) ?_ ?_
 ·obtain⟨_,_,_,_,_,_,_,h,_⟩:=h
  exact⟨rt.sh _,SqL.of h⟩
 ·intro i x y pt σ H5 hx hy z9 hpt;obtain⟨us,v6,v7,v8,v9,rfl,s5,z5,w5,n5,u5,vp5⟩ := z9
  rw[zah,zah] at hx hy
  cases hp:ps[i]? with
  |none=>rw[hp] at hx;cases hx
  |some p =>
  rw[hp] at hx hy
  cases hx
  cases hy
  have hi:=(zab.mp hp).1
  have okp:=hok p (zaf hp)
  have nl:=ns_len (ps.take i)
  rw[zbd] at nl
  have ul:=vp5.1
  have vl:(vps (ps.take i)).length<=i:=zbj (zcr _ _) (by rw[zbd];omega)
  generalize hgH6:upd _ pt _=H6
  revert H6
  refine qal9 hpt λ H6 s6 e6=>?_
  refine⟨pt,_,rfl,SqT.of e6,rfl,_,_,rfl,_,_,rfl,rfl,?_⟩
  refine⟨_,rfl,(by show 2<=zhu;decide),λ pq hpq=>?_⟩
  generalize hgH7:upd _ pq _=H7
  revert H7
  refine qal9 hpq λ H7 s7 e7=>?_
  refine⟨pq,_,rfl,.inr (SqT.of e7),rfl,rfl,?_⟩
  rw[in_kind]
  have s57:=s6.trans s7
  refine⟨λ v H'=>Same H7 H'/\v ≠ .non/\(p.named=true->∃r,v=.ref r/\H' r=zhq (.tup (p.ns.map V.str)))/\(p.named=false->PV H' v p),?_,?_⟩
  ·refine⟨_,rfl,_,rfl,ite2 (λ c=>?_) (λ c=>?_)⟩
   ·have c:p.named=true:=by simpa using c
    exact⟨_,rfl,_,rfl,p,rfl,c,(by cases p<;>first|exact okp|cases c),λ r H8 s8 e8=>⟨s8,by simp,λ _=>⟨r,rfl,e8⟩,λ z=>(by rw[c] at z;cases z)⟩⟩
   ·have c':p.named=false:=by simpa using c
    exact⟨_,rfl,_,rfl,_,rfl,d,p,rfl,c',okp,λ v H8 s8 hv=>⟨s8,hv.some,λ z=>(by rw[c'] at z;cases z),λ _=>hv⟩⟩
  intro v H8 z9;obtain⟨s8,vn,hn,hv⟩ := z9
  have s58:=s57.trans s8
  refine⟨_,rfl,_,rfl,iteN (by simp[vn]) ?_⟩
  have n8:=s58 _ _ n5
  have u8:=s58 _ _ u5
  have S8:=s5.trans s58
  have et:ps.take (i+1)=ps.take i++[p]:=by rw[zbe,hp];rfl
  refine⟨_,rfl,_,rfl,ite2 (λ c=>?_) (λ c=>?_)⟩
  ·have c:p.named=true:=by simpa using c
   obtain⟨r,rfl,er⟩:=hn c
   refine⟨_,rfl,.inl ⟨rfl,_,SqL.of n8⟩,_,rfl,pn,r,_,_,rfl,rfl,n8,SqT.of er,?_,?_⟩
   ·have:p.ns.length<=2:=by cases p<;>simp[Part.ns]
    exact L.le (by simp only[zac];omega)
   refine⟨us,_,_,_,_,rfl,qaz9 fpn S8,by rw[qao9 nzn];exact s58 _ _ z5,by rw[qao9 nwn];exact s58 _ _ w5,?_,by rw[qao9 npv];exact u8,?_⟩
   ·rw[qaj9,qol9 hp,zaj]
   ·rw[et]
    refine VP.skip ⟨vp5.1,λ k u x a b=>?_⟩ c
    have h1:=(vp5.2 k u x a b).same s58
    cases x with
    |win y =>
     obtain⟨r2,e,er2⟩:=h1
     exact⟨r2,e,by rw[qao9 (λ z=>by rw[z,n8] at er2;cases er2)];exact er2⟩
    |_=>exact h1
  ·have c':p.named=false:=by simpa using c
   refine⟨_,rfl,.inl ⟨rfl,_,SqL.of u8⟩,_,rfl,pv,us,v,rfl,rfl,u8,qbq9 ⋯,?_⟩
   refine⟨us++[v],_,_,_,_,rfl,qaz9 fpv S8,by rw[qao9 nzv];exact s58 _ _ z5,by rw[qao9 nwv];exact s58 _ _ w5,?_,qaj9,?_⟩
   ·rw[qao9 npv.symm,qol9 hp,show p.ns=[] by(cases p<;>first|rfl|cases c'),zce]
    exact n8
   ·have off:∀{u:V}{x:Part},PV H8 u x->PV (upd H8 pv (.lst (us++[v]))) u x:=λ {u x} h1=>by
     cases x with
     |win y =>
      obtain⟨r2,e,er2⟩:=h1
      exact⟨r2,e,by rw[qao9 (λ z=>by rw[z,u8] at er2;cases er2)];exact er2⟩
     |_=>exact h1
    rw[et]
    exact VP.snoc ⟨vp5.1,λ k u x a b=>off ((vp5.2 k u x a b).same s58)⟩ c' (off (hv c'))
 ·intro σ H5 z9;obtain⟨us,v6,v7,v8,v9,rfl,s5,z5,w5,n5,u5,vp5⟩ := z9
  rw[zac,zac,zbk] at n5 vp5
  have a0:atI ((w::ps.map Part.txt).map V.str) 0=zhq (.str w):=qcf9 (j:=0) rfl
  refine⟨_,rfl,pw,_,_,_,rfl,rfl,SqL.of w5,a0,_,rfl,_,rfl,(by show 3<=zhu;decide),λ rr hrr=>?_⟩
  generalize hgH6:upd _ rr _=H6
  revert H6
  refine qal9 hrr λ H6 s6 e6=>?_
  exact q rr pn pv us H6 (s5.trans s6) e6 (s6 _ _ n5) (s6 _ _ u5) (vp5.same s6)
end
abbrev RoadS:=Str×Str×List T3
def addS(ys:List Str)(z:Str):List Str:=if z∈ys then ys else ys++[z]
theorem qrn9{v:Int}{ys':List Str}(h:(z∈ys/\v=((ys.idxOf z:Nat):Int)/\ys'=ys)\/(z∉ys/\v=(ys.length:Int)/\ys'=ys++[z])):ys'=addS ys z/\v=(((addS ys z).idxOf z:Nat):Int):=by
 unfold addS
 rcases h with⟨a,b,c⟩|⟨a,b,c⟩
 ·rw[if_pos a]
  exact⟨c,b⟩
 ·rw[if_neg a]
  refine⟨c,?_⟩
  rw[b,zez,if_neg a]
  simp
theorem qmp9(ys:List Str)(z:Str):(addS ys z).length<=ys.length+1:=by
 unfold addS
 split
 ·omega
 ·simp
def qjc9(st:List Str×List (Int×Int×List T3))(q:RoadS):List Str×List (Int×Int×List T3):=(addS (addS st.1 q.1) q.2.1,st.2++[((((addS st.1 q.1).idxOf q.1:Nat):Int),(((addS (addS st.1 q.1) q.2.1).idxOf q.2.1:Nat):Int),q.2.2)])
def rdAll(L:List RoadS):List Str×List (Int×Int×List T3):=L.foldl qjc9 ([],[])
theorem rd_snoc(L:List RoadS)(q:RoadS):rdAll (L++[q])=qjc9 (rdAll L) q:=by
 unfold rdAll
 rw[zcz]
 rfl
theorem rd_len:∀(L:List RoadS),(rdAll L).1.length<=2*L.length:=by
 have go:∀(L:List RoadS) (st:List Str×List (Int×Int×List T3)),(L.foldl qjc9 st).1.length<=st.1.length+2*L.length:=by
  intro L
  induction L with
  |nil=>intro st;simp
  |cons q L ih =>
   intro st
   have h:=ih (qjc9 st q)
   have h1:=qmp9 st.1 q.1
   have h2:=qmp9 (addS st.1 q.1) q.2.1
   have e:(qjc9 st q).1=addS (addS st.1 q.1) q.2.1:=rfl
   rw[zcq,zbb]
   rw[e] at h
   omega
 intro L
 have:=go L ([],[])
 simpa [rdAll] using this
def rdT(q:RoadS):Str:=roadT q.1 q.2.1 q.2.2
def netS(d:Int)(L:List RoadS):Str:=zbg "; " (("day "++numT d)::L.map rdT)
structure Told(d:Int)(L:List RoadS):Prop where
 d1:1<=d
 d2:d<=1000000000000000
 l:L.length<=20
 rd:∀q∈L,Low q.1/\Low q.2.1/\WinsR d q.2.2/\q.2.2.length<=20
theorem Told.one{L:List RoadS}(h:Told d L){q:RoadS}(hq:q∈L):(rdT q).length<=5400:=by
 obtain⟨ls,le,e,l⟩:=h.rd q hq
 have d2:=h.d2
 refine qkn9 (λ x hx=>?_) ⋯ (by have:=ls.l8;omega) (by have:=le.l8;omega)
 obtain⟨x0,x1,x2,x3,x4⟩:=e x hx
 exact⟨⟨x0,⋯⟩,⟨⋯,⋯⟩,⟨⋯,⋯⟩⟩
theorem Told.split{d:Int}{L:List RoadS}(h:Told d L):Txt.split (netS d L) "; "=("day "++numT d)::L.map rdT:=by
 refine qdq9 (c:=59) (cs:=[32]) (by decide +kernel) (by simp) (by decide +kernel) (by simp) λ p hp=>?_
 rcases zag.mp hp with rfl|hp
 ·intro z
  rw[app_mem] at z
  rcases z with z|z
  ·exact absurd z (by decide +kernel)
  ·exact qcs9 (by have:=h.d1;omega) ⋯ z
 ·obtain⟨q,hq,rfl⟩:=zas.mp hp
  obtain⟨a,b,c,_⟩:=h.rd q hq
  exact qoc9 a b c
theorem Told.len{d:Int}{L:List RoadS}(h:Told d L):(netS d L).length<=200000:=by
 have sd:Sm d:=⟨by have:=h.d1;omega,by have:=h.d2;omega⟩
 have hd:(numT d).length<=16:=sd.len
 have h1:=StrLaws.join_length_le "; " (("day "++numT d)::L.map rdT)
 have h2:=StrLaws.sumLen_le (B:=5400) (("day "++numT d)::L.map rdT) λ y hy=>by
  rcases zag.mp hy with rfl|hy
  ·rw[zaa,show(("day ":Str)).length=4 by decide]
   omega
  ·obtain⟨q,hq,rfl⟩:=zas.mp hy
   exact h.one hq
 rw[zbb,zac] at h1 h2
 rw[show(("; ":Str)).length=2 by decide] at h1
 have lL:=h.l
 have:netS d L=zbg "; " (("day "++numT d)::L.map rdT):=rfl
 rw[this]
 omega
theorem NA.wr{x:zht}{zs ys:List V}(h:NA H p N)(e:H x=zhq (.lst zs))(ne:p≠x)(nb:∀m∈N,m.2.2.1≠x):NA (upd H x (.lst ys)) p N:=⟨qcd9 h.la e ne,λ m hm=>⟨qcd9 (h.bd m hm).1 e (nb m hm),(h.bd m hm).2⟩,h.nd⟩
inductive spReadL(vs:List V)(H:Hp)(Q:VK)(z3q:XK):Prop
 |mk (day:Int) (L:List RoadS):vs=[.str (netS day L)]->Told day L->(∀(r pn pr:zht)(M:List RdT)(H':Hp),Same H H'->H' r=zhq (.tup [.int day,.ref pn,.ref pr])->H' pn=zhq (.lst ((rdAll L).1.map V.str))->H pn=zhr->NA H' pr M->H pr=zhr->NFr H M->pn≠pr->(∀m∈M,m.2.2.1≠pn)->M.map strip=(rdAll L).2->Q (.ref r) H')->spReadL vs H Q z3q
section
variable {w:zhy}{f:zht}
theorem ok_readL(F:Fun K "read_net" "read_net" qdn9 f fd)(B:Bl mg)(Cq0:Callee P w K mg base n "read_day" ["text"] spDayR)(Cd0:Callee P w K mg base n "read_ends" ["text"] spEnds)(Cn0:Callee P w K mg base n "read_board" ["day","words"] (spBoardR K))(Ch0:Callee P w K mg base n "number_of" ["names","name"] (spNumOf K)):FnOk P w K mg base CX0 (n+1) f fd ["text"] spReadL:=by
 refine F.okQ sc_read_net (λ vs H Q E h=>?_) (λ cdv A outer s H vs Q E hr h=>?_)
 ·obtain⟨_,_,rfl,_⟩:=h
  rfl
 obtain⟨day,Lr,rfl,ok,q⟩:=h
 refine⟨_,(qaa9 (qs_if (qdj9 (qct9 (qe_cb qfg9 rfl B.isinstance qap9 (qa_c (qv 0) (qa_c (qe_ty "str" rfl B.str_ qhx9) qac9))))) (qae9 qil9) qan9) (qaa9 (qak9 (i:=1) sc_read_net.nd rfl (zai rfl) (qhc9 K rfl (qv 0) (qa_c qah9 qac9))) (qaa9 (qak9 (i:=2) sc_read_net.nd rfl (zai rfl) (qe_fn Cq0 hr rfl (qa_c (qe_ix qau9 (qv 1) qaf9 (λ _ _=>rfl)) qac9))) (qaa9 (qs_if (qcw9 (qv 2)) (qae9 qil9) qan9) (qaa9 (qak9 (i:=3) sc_read_net.nd rfl (zai rfl) (qbi9 qac9)) (qaa9 (qak9 (i:=4) sc_read_net.nd rfl (zai rfl) (qbi9 qac9)) (qaa9 (qeo9 ziq.never rfl (qbl9 (qps9 (qv 1) (qfh9 qaf9) qfi9)) (qat9 (i:=5) sc_read_net.nd rfl (zai rfl)) (qaa9 (qak9 (i:=6) sc_read_net.nd rfl (zai rfl) (qhc9 K rfl (qv 5) (qa_c qah9 qac9))) (qaa9 (qak9 (i:=7) sc_read_net.nd rfl (zai rfl) (qe_fn Cd0 hr rfl (qa_c (qe_ix qau9 (qv 6) qaf9 (λ _ _=>rfl)) qac9))) (qaa9 (qak9 (i:=8) sc_read_net.nd rfl (zai rfl) (qe_fn Cn0 hr rfl (qa_c (qv 2) (qa_c (qps9 (qv 6) (qfh9 qaf9) qfi9) qac9)))) (qaa9 (qs_if (QW.pt (qw_or (qcw9 (qv 7)) (qeq9 (qcw9 (qv 8))))) (qae9 qil9) qan9) (qaa9 (qak9 (i:=9) sc_read_net.nd rfl (zai rfl) (qe_fn Ch0 hr rfl (qa_c (qv 3) (qa_c (qe_ix qas9 (qv 7) qaf9 (λ _ _=>rfl)) qac9)))) (qae9 (qcl9 (qbf9 (qv 4) (qa_c (qbn9 (qa_c (qv 9) (qa_c (qe_fn Ch0 hr rfl (qa_c (qv 3) (qa_c (qe_ix qas9 (qv 7) qaf9 (λ _ _=>rfl)) qac9))) (qa_c (qv 8) qac9)))) qac9)))))))))) (qae9 (qam9 (qbn9 (qa_c (qv 2) (qa_c (qv 3) (qa_c (qv 4) qac9))))))))))))),?_⟩
 walk_at "d"
 have sd:Sm day:=⟨by have:=ok.d1;omega,by have:=ok.d2;omega⟩
 have hd:(numT day).length<=16:=sd.len
 have e4:("day ":Str).length=4:=by decide
 have lL:=ok.l
 have hlen:=ok.len
 refine⟨_,rfl,_,"str",_,_,rfl,.str _,rfl,_,rfl,iteF ?_⟩
 have es:=ok.split
 refine⟨_,rfl,rfl,_,_,rfl,rfl,by decide,L.le ⋯,qel9 ⋯,L.le (by rw[es,zbb,zac];omega),λ ps hps=>?_⟩
 rw[es]
 generalize hgH1:upd _ ps _=H1
 revert H1
 refine qal9 hps λ H1 s1 e1=>?_
 have e1:H1 ps=zhq (.lst ((("day "++numT day)::Lr.map rdT).map V.str)):=e1
 refine⟨_,rfl,ps,_,_,_,rfl,rfl,SqL.of e1,qcf9 (j:=0) rfl,day,rfl,ok.d1,ok.d2,λ H2 s2=>?_⟩
 refine⟨_,rfl,_,rfl,iteF ?_⟩
 refine⟨(by show 0<=zhu;decide),λ pn hpn=>?_⟩
 have fpn:H pn=zhr:=s1.free (s2.free hpn)
 generalize hgH3:upd _ pn _=H3
 revert H3
 refine qal9 hpn λ H3 s3 e3=>?_
 refine⟨(by show 0<=zhu;decide),λ pr hpr=>?_⟩
 have fpr:H pr=zhr:=s1.free (s2.free (s3.free hpr))
 have npr:pn≠pr:=λ z=>by rw[<- z,e3] at hpr;cases hpr
 generalize hgH4:upd _ pr _=H4
 revert H4
 refine qal9 hpr λ H4 s4 e4'=>?_
 have s04:=s1.trans (s2.trans (s3.trans s4))
 have s14:=s2.trans (s3.trans s4)
 refine⟨_,rfl,_,rfl,ps,_,rfl,SqL.of (s14 _ _ e1),λ p5 hp5=>?_⟩
 have ec:cutV ((("day "++numT day)::Lr.map rdT).map V.str) (zhq 1) zhr=(Lr.map rdT).map V.str:=cut1 _
 rw[ec]
 have n5n:p5≠pn:=λ z=>by rw[z,s4 _ _ e3] at hp5;cases hp5
 have n5r:p5≠pr:=λ z=>by rw[z,e4'] at hp5;cases hp5
 generalize hgH5:upd _ p5 _=H5
 revert H5
 refine qal9 hp5 λ H5 s5 e5=>?_
 refine⟨p5,rfl,⟨_,SqL.of e5⟩,qdg9 (K:=K) (a:=p5) (xs:=(Lr.map rdT).map V.str) (λ i σ H'=>E6q λ(M:List RdT) (v5 v6 v7 v8 v9:Option V)=>A9q (σ=[sS9 (netS day Lr),sR9 ps,sI9 day,sR9 pn,sR9 pr,v5,v6,v7,v8,v9]) (Same H H') (H' p5=zhq (.lst ((Lr.map rdT).map V.str))) (H' pn=zhq (.lst ((rdAll (Lr.take i)).1.map V.str))) (NA H' pr M) (NFr H M) ((∀m∈M,m.2.2.1≠pn)) (M.length=i) (M.map strip=(rdAll (Lr.take i)).2))
  ⟨[],_,_,_,_,_,rfl,s04.trans s5,e5,s5 _ _ (s4 _ _ e3),NA.nil (s5 _ _ e4'),(by intro m hm;cases hm),(by simp),rfl,rfl⟩ (λ i σ H' _ h=>?_) ?_ ?_⟩
 ·obtain⟨_,_,_,_,_,_,_,_,h,_⟩:=h
  exact SqL.of h
 ·intro i y σ H6 hi z9;obtain⟨M,v5,v6,v7,v8,v9,rfl,s6,e6,n6,hM,fM,bM,lM,eM⟩ := z9
  rw[zah,zah] at hi
  cases hx:Lr[i]? with
  |none=>rw[hx] at hi;cases hi
  |some m =>
  rw[hx] at hi
  cases hi
  have li:=(zab.mp hx).1
  have mm:=zaf hx
  obtain⟨ls,le,wR,lR⟩:=ok.rd m mm
  have rl:=ok.one mm
  have er:Txt.split (rdT m) " "=(m.1++">"++m.2.1)::m.2.2.map winT:=qra9 ls le wR
  have nl:=rd_len (Lr.take i)
  rw[zbd] at nl
  have n2:=qmp9 (rdAll (Lr.take i)).1 m.1
  have et:Lr.take (i+1)=Lr.take i++[m]:=by rw[zbe,hx];rfl
  refine⟨_,rfl,rfl,_,_,rfl,rfl,by decide,L.le ⋯,qel9 ⋯,L.le (by rw[er,zbb,zac];omega),λ pw hpw=>?_⟩
  rw[er]
  generalize hgH7:upd _ pw _=H7
  revert H7
  refine qal9 hpw λ H7 s7 e7=>?_
  have e7:H7 pw=zhq (.lst (((m.1++">"++m.2.1)::m.2.2.map winT).map V.str)):=e7
  refine⟨_,rfl,pw,_,_,_,rfl,rfl,SqL.of e7,qcf9 (j:=0) rfl,_,_,rfl,ls,le,λ r8 H8 s8 e8=>?_⟩
  refine⟨_,rfl,_,rfl,_,rfl,pw,_,rfl,SqL.of (s8 _ _ e7),λ p9 hp9=>?_⟩
  have ec9:cutV (((m.1++">"++m.2.1)::m.2.2.map winT).map V.str) (zhq 1) zhr=(m.2.2.map winT).map V.str:=cut1 _
  rw[ec9]
  generalize hgH9:upd _ p9 _=H9
  revert H9
  refine qal9 hp9 λ H9 s9 e9=>?_
  refine⟨day,p9,m.2.2,rfl,e9,wR,ok.d2,⋯,λ pb H10 s10 fb la=>?_⟩
  have s69:=s7.trans (s8.trans s9)
  have s610:=s69.trans s10
  have n10:=s610 _ _ n6
  have nbn:pb≠pn:=λ z=>by
   rw[z,s69 _ _ n6] at fb
   cases fb
  have fpb:H pb=zhr:=s6.free (s69.free fb)
  have fbM:=(hM.same s69).fresh fb
  have hM10:=hM.same s610
  have e8':=s10 _ _ (s9 _ _ e8)
  have e510:=s610 _ _ e6
  have s010:=s6.trans s610
  have nr8:r8≠pn:=λ z=>by rw[z,n10] at e8';cases e8'
  refine⟨_,rfl,_,rfl,iteF ⟨_,rfl,_,rfl,iteF ?_⟩⟩
  refine⟨_,rfl,_,rfl,r8,_,_,_,rfl,rfl,SqT.of e8',rfl,pn,_,(rdAll (Lr.take i)).1,rfl,n10,⋯,λ v ys' alt=>?_⟩
  obtain⟨rfl,rfl⟩:=qrn9 alt
  clear alt
  generalize hN1:addS (rdAll (Lr.take i)).1 m.1=N1 at *
  have n11:upd H10 pn (.lst (N1.map V.str)) pn=zhq (.lst (N1.map V.str)):=qaj9
  have e511:upd H10 pn (.lst (N1.map V.str)) p5=zhq (.lst ((Lr.map rdT).map V.str)):=by rw[qao9 n5n];exact e510
  have e811:upd H10 pn (.lst (N1.map V.str)) r8=zhq (.tup [.str m.1,.str m.2.1]):=by rw[qao9 nr8];exact e8'
  have la11:LA enc3 (upd H10 pn (.lst (N1.map V.str))) pb m.2.2:=qcd9 la n10 nbn
  have hM11:NA (upd H10 pn (.lst (N1.map V.str))) pr M:=hM10.wr n10 npr.symm bM
  have s011:Same H (upd H10 pn (.lst (N1.map V.str))):=qaz9 fpn s010
  generalize upd H10 pn (.lst (N1.map V.str))=H11 at *
  obtain⟨vs,hv1,hv2,_⟩:=hM11.la.lst
  refine⟨_,rfl,.inl ⟨rfl,_,SqL.of hv1⟩,_,rfl,_,rfl,_,rfl,r8,_,_,_,rfl,rfl,SqT.of e811,rfl,pn,_,N1,rfl,n11,⋯,λ v ys' alt=>?_⟩
  obtain⟨rfl,rfl⟩:=qrn9 alt
  clear alt
  generalize hN2:addS N1 m.2.1=N2 at *
  have n12:upd H11 pn (.lst (N2.map V.str)) pn=zhq (.lst (N2.map V.str)):=qaj9
  have e512:upd H11 pn (.lst (N2.map V.str)) p5=zhq (.lst ((Lr.map rdT).map V.str)):=by rw[qao9 n5n];exact e511
  have la12:LA enc3 (upd H11 pn (.lst (N2.map V.str))) pb m.2.2:=qcd9 la11 n11 nbn
  have hM12:NA (upd H11 pn (.lst (N2.map V.str))) pr M:=hM11.wr n11 npr.symm bM
  have s012:Same H (upd H11 pn (.lst (N2.map V.str))):=qaz9 fpn s011
  have hv12:upd H11 pn (.lst (N2.map V.str)) pr=zhq (.lst vs):=by rw[qao9 npr.symm];exact hv1
  generalize upd H11 pn (.lst (N2.map V.str))=H12 at *
  refine⟨_,rfl,(by show 3<=zhu;decide),λ rr hrr=>?_⟩
  generalize hgH13:upd _ rr _=H13
  revert H13
  refine qal9 hrr λ H13 s13 e13=>?_
  rw[zac] at hv2
  refine⟨pr,_,_,rfl,rfl,s13 _ _ hv12,qbq9 ⋯,?_⟩
  refine⟨M++[(((N1.idxOf m.1:Nat):Int),((N2.idxOf m.2.1:Nat):Int),pb,m.2.2)],_,_,_,_,_,rfl,qaz9 fpr (s012.trans s13),?_,?_,(hM12.same s13).add fbM (s13 _ _ hv12) (la12.same s13) e13,?_,?_,by simp[lM],?_⟩
  ·rw[qao9 n5r]
   exact s13 _ _ e512
  ·rw[qao9 npr,et,rd_snoc]
   unfold qjc9
   rw[hN1,hN2]
   exact s13 _ _ n12
  ·exact fM.snoc fpb
  ·intro m' hm'
   rcases zak.mp hm' with z|z
   ·exact bM m' z
   ·rw[zae] at z
    subst z
    exact nbn
  ·rw[zaj,eM,et,rd_snoc]
   unfold qjc9
   rw[hN1,hN2]
   rfl
 ·intro σ H6 z9;obtain⟨M,v5,v6,v7,v8,v9,rfl,s6,e6,n6,hM,fM,bM,lM,eM⟩ := z9
  rw[zac,zac,zbk] at eM n6
  refine⟨_,rfl,_,rfl,_,rfl,(by show 3<=zhu;decide),λ rr hrr=>?_⟩
  generalize hgH7:upd _ rr _=H7
  revert H7
  refine qal9 hrr λ H7 s7 e7=>?_
  exact q rr pn pr M H7 (s6.trans s7) e7 (s7 _ _ n6) fpn (hM.same s7) fpr fM npr bM eM
end
theorem NA.u{H H':Hp}{p:zht}{N:List RdT}(h:NA H p N)(s:SameU H H'):NA H' p N:=⟨h.la.u s,λ m hm=>⟨(h.bd m hm).1.u s,(h.bd m hm).2⟩,h.nd⟩
def TBI(T:Hp->Prop):Prop:=∀(H:Hp)(x C dx:zht) (fs fs':List (Str×V)),T H->H x=zhq (.ins C dx fs)->T (upd H x (.ins C dx fs'))
theorem TBI.and{T':Hp->Prop}(h:TBI T)(h':TBI T'):TBI λ H=>T H/\T' H:=λ H x C dx fs fs' t e=>⟨h H x C dx fs fs' t.1 e,h' H x C dx fs fs' t.2 e⟩
theorem upd_two{x:zht}{a b:HO}:upd (upd H x a) x b=upd H x b:=funext λ c=>by
 by_cases e:c=x
 ·rw[e,qaj9,qaj9]
 ·rw[qao9 e,qao9 e,qao9 e]
theorem LA.offI{α:Type}{enc:α->List V}{x:zht}{fs:List (Str×V)}{xs:List α}(h:LA enc H p xs)(e:H x=zhq (.ins C dx fs)):LA enc (upd H x o) p xs:=by
 obtain⟨rs,h1,h2,h3⟩:=h.ex
 refine⟨rs,by rw[qao9 (λ z=>by rw[z,e] at h1;cases h1)];exact h1,h2,λ i r y e1 e2=>?_⟩
 have:=h3 i r y e1 e2
 rw[qao9 (λ z=>by rw[z,e] at this;cases this)]
 exact this
theorem NA.offI{H:Hp}{p x C dx:zht}{fs:List (Str×V)}{o:HO}{N:List RdT}(h:NA H p N)(e:H x=zhq (.ins C dx fs)):NA (upd H x o) p N:=⟨h.la.offI e,λ m hm=>⟨(h.bd m hm).1.offI e,(h.bd m hm).2⟩,h.nd⟩
abbrev dfs(d:Int)(pn pr:zht):List (Str×V):=[("day",.int d),("names",.ref pn),("roads",.ref pr)]
structure DeskAt(C:zht)(H:Hp)(x:zht)(d:Int)(ns:List Str)(M:List RdT):Prop where
 ex:∃dx pn pr,H x=zhq (.ins C dx (dfs d pn pr))/\H pn=zhq (.lst (ns.map V.str))/\NA H pr M
theorem DeskAt.same{C:zht}{H H':Hp}{x:zht}{d:Int}{ns:List Str}{M:List RdT}(h:DeskAt C H x d ns M)(s:Same H H'):DeskAt C H' x d ns M:=by
 obtain⟨dx,pn,pr,h1,h2,h3⟩:=h.ex
 exact⟨dx,pn,pr,s _ _ h1,s _ _ h2,h3.same s⟩
theorem DeskAt.u{C:zht}{H H':Hp}{x:zht}{d:Int}{ns:List Str}{M:List RdT}(h:DeskAt C H x d ns M)(s:SameU H H'):DeskAt C H' x d ns M:=by
 obtain⟨dx,pn,pr,h1,h2,h3⟩:=h.ex
 exact⟨dx,pn,pr,s.1 _ _ h1 (λ _ z=>nomatch z),s.lst h2,h3.u s⟩
structure DkT(K:W.Frag)(C:zht):Prop where
 cl:Cls K C
 nd:NoAttr K C "day"
 nn:NoAttr K C "names"
 nr:NoAttr K C "roads"
structure RowE where
 w:Str
 ta:zht
 ks:List Str
 f:zht
 sp:Sp
structure RowsOk(K:W.Frag)(kvS kvA:List (Str×Tok×zhs))(R:List RowE):Prop where
 row:∀e∈R,RowT K kvS e.w e.ta e.ks
 ans:∀e∈R,kdVal kvA e.w=zhq (.ref e.f)
def ansL(R:List RowE):List (zht×Sp):=R.map λ e=>(e.f,e.sp)
def idxV(ns:List Str)(z:Str):V:=.int ((ns.idxOf z:Nat):Int)
inductive spSayE(C:zht)(R:List RowE)(vs:List V)(H:Hp)(Q:VK)(E:XK):Prop
 |mk (x:zht) (d:Int) (ns:List Str) (M:List RdT) (e:RowE) (ps:List Part):vs=[.ref x,.str (rowS e.w ps)]->e∈R->e.ks=ps.map Part.kind->((∀p∈ps,p.ok d))->ps.length<=8->DeskAt C H x d ns M->((∀z∈ps.flatMap Part.ns,z∈ns))->ns.length<=100->(∀(pl pv:zht)(us:List V)(H':Hp),Same H H'->H' pl=zhq (.lst ((ps.flatMap Part.ns).map (idxV ns)))->H' pv=zhq (.lst us)->VP H' us ps->e.sp [.ref x,.ref pl,.ref pv] H' Q E)->spSayE C R vs H Q E
section
variable {w:zhy}{f:zht}{R:List RowE}
theorem ok_sayE(G:DkT K C)(ro:RowsOk K kvS kvA R)(kA:KDict K w.params aA kvA)(mA:mg "ANSWERS"=zhq (.ref aA))(F:Fun K "say" "Desk.say" qbp9 f fd)(B:Bl mg)(Cr0:Callee P w K mg base n "read_row" ["day","row"] (spRowR K kvS))(GA:∀q∈ansL R,Ans P w K mg base (CXE P w) n ["desk","places","values"] q.1 q.2):FnOk P w K mg base (CXE P w) (n+1) f fd ["self","row"] (spSayE C R):=by
 refine F.okX sc_Desk_say (λ vs H Q E h=>?_) (λ cdv A outer s H vs Q E hr h=>?_)
 ·obtain⟨_,_,_,_,_,_,rfl,_⟩:=h
  rfl
 obtain⟨x,d,ns,M,e,ps,rfl,he,ek,hok,l8,dk,hin,ln,q⟩:=h
 refine⟨_,(qaa9 (qak9 (i:=2) sc_Desk_say.nd rfl (zai rfl) (qe_fn Cr0 hr rfl (qa_c (qkt9 (qv 0)) (qa_c (qv 1) qac9)))) (qaa9 (qs_if (qcw9 (qv 2)) (qae9 qil9) qan9) (qaa9 (qs_if (qdj9 (qct9 (qe_cb (qex9 rfl) rfl B.all qlt9 (qa_c (qdv9 ["name","self"] [zhr,zhq 0] (BlkOk.of rfl rfl (SubL.to (subC rfl subN)) rfl) rfl (qbl9 (qe_ix qas9 (qv 2) qaf9 (λ _ _=>rfl))) (λ _ _ _ _=>(qat9 (i:=0) (show(["name","self"]:List Str).Nodup by decide) rfl (zai rfl))) (λ _ _ _ _=>qdh9) (λ _ _ _ _=>(qfo9 (qrc9 K rfl) (qv 0) (qnw9 K rfl (qv 1)) rfl))) qac9)))) (qae9 qil9) qan9) (qaa9 (qak9 (i:=3) sc_Desk_say.nd rfl (zai rfl) (qe_kget kA rfl mA (qe_ix qas9 (qv 2) qaf9 (λ _ _=>rfl)) (λ _ _=>rfl))) (qae9 (qam9 (qe_ans 3 GA hr passE (qa_c (qv 0) (qa_c (qdv9 ["name","self"] [zhr,zhq 0] (BlkOk.of rfl rfl (SubL.to (subC rfl subN)) rfl) rfl (qbl9 (qe_ix qas9 (qv 2) qaf9 (λ _ _=>rfl))) (λ _ _ _ _=>(qat9 (i:=0) (show(["name","self"]:List Str).Nodup by decide) rfl (zai rfl))) (λ _ _ _ _=>qdh9) (λ _ _ _ _=>(qkm9 K rfl (qnw9 K rfl (qv 1)) (qa_c (qv 0) qac9)))) (qa_c (qe_ix qas9 (qv 2) qaf9 (λ _ _=>rfl)) qac9)))))))))),?_⟩
 walk_at "d"
 obtain⟨dx,pn,pr,hx,hn,hM⟩:=dk.ex
 have rt:=ro.row e he
 rw[ek] at rt
 refine⟨_,rfl,x,C,dx,_,_,rfl,hx,G.cl,G.nd,rfl,_,rfl,d,e.w,e.ta,ps,rfl,rt,hok,l8,λ r qn qv us H1 s1 e1 n1 u1 vp=>?_⟩
 refine⟨_,rfl,_,rfl,iteF ?_⟩
 generalize hz:ps.flatMap Part.ns=zs at *
 have lz:zs.length<=16:=by
  rw[<- hz]
  exact zbj (ns_len ps) ⋯
 refine⟨_,rfl,r,_,_,_,rfl,rfl,SqT.of e1,rfl,qn,rfl,⟨_,SqL.of n1⟩,?_⟩
 refine qcq9 (K:=K) (a:=qn) (xs:=zs.map V.str) (λ D i H'=>Same H1 H'/\H' D=zhq (.lst ((zbc i true).map V.bl))) (λ D hD=>⟨qbc9 hD _,qaj9⟩) (λ D i H' _ _ h=>SqL.of (h.1 _ _ n1)) ?_ ?_
 ·intro D i y H' hD hi z9;obtain⟨sD,eD⟩ := z9
  rw[zah] at hi
  cases hzi:zs[i]? with
  |none=>rw[hzi] at hi;cases hi
  |some z =>
  rw[hzi] at hi
  cases hi
  have li:=(zab.mp hzi).1
  have sH:=s1.trans sD
  refine⟨λ k v e=>?_,?_⟩
  ·match k,e with
   |0,e=>cases e
   |1,e=>exact e
   |k+2,e=>cases e
  refine⟨_,rfl,_,rfl,x,C,dx,_,_,rfl,sH _ _ hx,G.cl,G.nn,rfl,pn,_,rfl,.inl (SqL.of (sH _ _ hn)),rfl,qfd9 _,?_⟩
  refine⟨_,eD,qbq9 (by simp;omega),qaz9 hD sD,?_⟩
  rw[qaj9,qjk9,decide_eq_true (hin z (zaf hzi)),zdl,zaj]
  rfl
 intro D H2 hD z9;obtain⟨s2,e2⟩ := z9
 refine⟨D,_,rfl,SqL.of e2,?_⟩
 rw[qsh9]
 refine⟨_,rfl,iteF ?_⟩
 have s02:=s1.trans s2
 refine⟨_,rfl,r,_,_,_,rfl,rfl,SqT.of (s2 _ _ e1),rfl,e.w,_,.ref e.f,rfl,ro.ans e he,rfl,?_⟩
 refine⟨e.f,e.sp,zas.mpr ⟨e,he,rfl⟩,rfl,_,rfl,_,rfl,r,_,_,_,rfl,rfl,SqT.of (s2 _ _ e1),rfl,qn,rfl,⟨_,SqL.of (s2 _ _ n1)⟩,?_⟩
 refine qcq9 (K:=K) (a:=qn) (xs:=zs.map V.str) (λ D i H'=>Same H2 H'/\H' D=zhq (.lst ((zs.take i).map (idxV ns)))) (λ D hD=>⟨qbc9 hD _,qaj9⟩) (λ D i H' _ _ h=>SqL.of (h.1 _ _ (s2 _ _ n1))) ?_ ?_
 ·intro D i y H' hD hi z9;obtain⟨sD,eD⟩ := z9
  rw[zah] at hi
  cases hzi:zs[i]? with
  |none=>rw[hzi] at hi;cases hi
  |some z =>
  rw[hzi] at hi
  cases hi
  have li:=(zab.mp hzi).1
  have sH:=s02.trans sD
  refine⟨λ k v e=>?_,?_⟩
  ·match k,e with
   |0,e=>cases e
   |1,e=>exact e
   |k+2,e=>cases e
  refine⟨_,rfl,x,C,dx,_,_,rfl,sH _ _ hx,G.cl,G.nn,rfl,.inl ⟨rfl,_,SqL.of (sH _ _ hn)⟩,_,rfl,pn,z,ns,rfl,rfl,SqL.of (sH _ _ hn),hin z (zaf hzi),L.le ⋯,?_⟩
  refine⟨_,eD,qbq9 (by simp;omega),qaz9 hD sD,?_⟩
  rw[qaj9,zbe,hzi,zaj]
  rfl
 intro D3 H3 hD3 z9;obtain⟨s3,e3⟩ := z9
 rw[zac,zbk] at e3
 refine⟨_,rfl,r,_,_,_,rfl,rfl,SqT.of (s3 _ _ (s2 _ _ e1)),rfl,?_⟩
 have s23:=s2.trans s3
 exact q D3 qv us H3 (s1.trans s23) e3 (s23 _ _ u1) (vp.same s23)
end
def Asc(x:Str):Prop:=∀c∈x.cps.toList,c<128
theorem cut_at(c:Nat)(z:Str):c∉z.cps.toList\/∃a b:Str,z=a ++ ⟨#[c]⟩ ++ b/\c∉a.cps.toList:=by
 by_cases h:c∈z.cps.toList
 ·right
  obtain⟨s,t,e,h⟩:=List.eq_append_cons_of_mem h
  exact⟨⟨s.toArray⟩,⟨t.toArray⟩,qcz9 (by rw[qch9,qch9,e];simp),by simpa using h⟩
 ·exact .inl h
theorem Asc.left{a b:Str}(h:Asc (a++b)):Asc a:=λ c hc=>h c (app_mem.mpr (.inl hc))
theorem Asc.right{a b:Str}(h:Asc (a++b)):Asc b:=λ c hc=>h c (app_mem.mpr (.inr hc))
theorem asc_empty:Asc zbr:=λ c hc=>by cases hc
def figT:Str := "0123456789"
def letT:Str := "abcdefghijklmnopqrstuvwxyz"
def qou9(y z:Str):Bool:=(z.cps.toList.map λ c=>decide (c∈y.cps.toList)).all id
def numB(m:Nat)(z:Str):Bool:=decide (1<=z.length/\z.length<=m)&&(qou9 figT z && !(decide (1<z.length)&&decide (z.cps.toList.head?=zhq 48)))
def pNum(m:Nat)(z:Str):Option Int:=if numB m z=true then zhq ((PySem.NumText.digitsVal z.cps.toList:Nat):Int) else zhr
structure Tx(z:Str):Prop where
 asc:Asc z
 len:z.length<=30000
inductive spNumF(vs:List V)(H:Hp)(Q:VK)(z3q:XK):Prop
 |mk (z:Str) (m:Nat):vs=[.str z,.int m]->Tx z->m<=100->(∀H',Same H H'->Q (optV (pNum m z)) H')->spNumF vs H Q z3q
def nameB(z:Str):Bool:=decide (1<=z.length/\z.length<=8)&&qou9 letT z
inductive spNameF(vs:List V)(H:Hp)(Q:VK)(z3q:XK):Prop
 |mk (z:Str):vs=[.str z]->Tx z->(∀H',Same H H'->Q (.bl (nameB z)) H')->spNameF vs H Q z3q
theorem nt_t{b:Bool}(h:(!b)=true):b=false:=by cases b with|true=>cases h|false=>rfl
theorem nt_f{b:Bool}(h:¬(!b)=true):b=true:=by cases b with|true=>rfl|false=>exact absurd rfl h
section
variable {w:zhy}{f:zht}
theorem qjp9(hl:x.length<=30000)(q:∀D H',Same H H'->H' D=zhq (.lst ((x.cps.toList.map λ c=>decide (c∈y.cps.toList)).map V.bl))->Q (.ref D) H') :
  cBody [zhr] (gName 0) tTrue (tOp (λ x y H Q=>∃(c:Nat)(j:Str),x=.str ⟨#[c]⟩/\y=.str j/\Q (.bl (decide (c∈j.cps.toList))) H) (tVar 0) (tC (.str y))) σ Q (Its x) H:=by
 have hz:=L.le (n:=30001) ⋯
 refine qqv9 (λ D i H'=>Same H H'/\H' D=zhq (.lst (((x.cps.toList.take i).map λ c=>decide (c∈y.cps.toList)).map V.bl))) (λ D hD=>⟨qbc9 hD _,qaj9⟩) ?_ (λ D H' hD h=>q D H' h.1 (by have:=h.2;rwa [zby (by simp[zbm])] at this))
 intro D i c H' hD hc z9;obtain⟨sD,eD⟩ := z9
 have hi:i<x.length:=(zep.mp hc).1
 refine⟨λ k v e=>?_,?_⟩
 ·match k,e with
  |0,e=>cases e
  |k+1,e=>cases e
 refine⟨_,rfl,c,y,rfl,rfl,_,eD,by rw[zac,zac,zbd];omega,qaz9 hD sD,?_⟩
 rw[qaj9,zbe,zcg,hc]
 simp
theorem all_sg{l:List Nat}:(l.map λ c=>decide (c∈y.cps.toList)).all id=true↔∀c∈l,c∈y.cps.toList:=by
 rw[zhj,zbl]
 exact⟨λ h c hc=>of_decide_eq_true (h c hc),λ h c hc=>decide_eq_true (h c hc)⟩
theorem ok_numF(gt:Gt mg t1 t2 t3 t4)(F:Fun K "read_number" "read_number" qby9 f fd)(B:Bl mg):FnOk P w K mg base CX0 (n+1) f fd ["text","most_figures"] spNumF:=by
 refine F.okQ qgw9 (λ vs H Q E h=>?_) (λ cdv A outer s H vs Q E hr h=>?_)
 ·obtain⟨_,_,rfl,_⟩:=h
  rfl
 obtain⟨z,m,rfl,tz,hm,q⟩:=h
 refine⟨_,(qaa9 (qs_if (qgd9 (QW.pt (qw_or (qdj9 (qft9 qdi9 qdi9 qaf9 (qe_cb qep9 rfl B.len qeb9 (qa_c (qv 0) qac9)) (qv 1))) (qeq9 (qdj9 (qct9 (qe_cb (qex9 rfl) rfl B.all qlt9 (qa_c (qdv9 ["sign"] [zhr] (BlkOk.of rfl rfl (SubL.to subN) rfl) rfl (qth9 (qv 0)) (λ _ _ _ _=>(qat9 (i:=0) (show(["sign"]:List Str).Nodup by decide) rfl (zai rfl))) (λ _ _ _ _=>qdh9) (λ _ _ _ _=>(qfo9 qnt9 (qv 0) (qoe9 rfl gt.fig) rfl))) qac9)))))))) (qae9 (qam9 qbr9)) qan9) (qaa9 (qs_if (qgd9 (QW.pt (qmf9 (qar9 qrk9 (qe_cb qep9 rfl B.len qeb9 (qa_c (qv 0) qac9)) qaf9 (qbb9 _)) (qir9 (qar9 qef9 (qe_ix qsx9 (qv 0) qaf9 (λ _ _=>rfl)) qah9 (qbb9 _)))))) (qae9 (qam9 qbr9)) qan9) (qae9 (qam9 (qe_ct qlr9 rfl B.int_ bt_int (qa_c (qv 0) qac9)))))),?_⟩
 walk_at "d"
 have sz:z.cps.toList.length=z.length:=by simp[zbm]
 have hl:=tz.len
 have hz:=L.le (n:=z.length) ⋯
 have no:numB m z=false->∀H',Same H H'->Q .non H':=λ e H' s'=>by
  have:=q H' s'
  unfold pNum at this
  rw[if_neg (by rw[e];decide)] at this
  exact this
 refine⟨λ b H'=>Same H H'/\(b=!(decide (1<=z.length/\z.length<=m)&&qou9 figT z)),?_,?_⟩
 ·refine⟨_,rfl,_,rfl,hz,_,_,rfl,rfl,_,rfl,ite2 (λ c=>?_) (λ c=>?_)⟩
  ·have c1:=of_decide_eq_true c
   refine⟨_,rfl,_,_,rfl,rfl,_,rfl,ite2 (λ c2=>?_) (λ c2=>?_)⟩
   ·refine⟨Same.refl _,?_⟩
    simp at c2
    rw[decide_eq_false ⋯]
    rfl
   ·simp at c2
    refine⟨_,rfl,_,rfl,qif9 tz.asc,qjp9 hl λ D H1 s1 e1=>?_⟩
    refine⟨D,_,rfl,SqL.of e1,_,rfl,s1,?_⟩
    rw[decide_eq_true ⋯]
    rfl
  ·refine⟨_,rfl,iteT ⟨Same.refl _,?_⟩⟩
   rw[decide_eq_false (λ z=>c (decide_eq_true ⋯))]
   rfl
 intro b H1 z9;obtain⟨s1,rfl⟩ := z9
 refine ite2 (λ c=>no ?_ _ s1) (λ c=>?_)
 ·unfold numB
  rw[<- zgy,nt_t c]
  rfl
 have c0:=nt_f c
 obtain⟨c1,c2⟩:=zbt.mp c0
 have c1:=of_decide_eq_true c1
 refine⟨λ b H'=>H'=H1/\b=(decide (1<z.length)&&decide (z.cps.toList.head?=zhq 48)),?_,?_⟩
 ·refine⟨_,rfl,_,rfl,hz,_,_,rfl,rfl,_,rfl,ite2 (λ c=>?_) (λ c=>⟨rfl,?_⟩)⟩
  ·have c3:=of_decide_eq_true c
   cases ez:z.cps.toList with
   |nil=>rw[ez] at sz;simp at sz;omega
   |cons d r =>
   refine⟨_,rfl,_,0,d,rfl,rfl,hz,qcf9 (j:=0) (by rw[ez];rfl),rfl,_,rfl,rfl,?_⟩
   have e0:("0":Str)=⟨#[48]⟩:=rfl
   rw[decide_eq_true (show 1<z.length by omega),zcw,e0]
   refine decide_eq_decide.mpr ⟨λ h=>?_,λ h=>?_⟩
   ·injection h with h
    injection h with h
    have:=congrArg zgu h
    simpa using this
   ·have:d=48:=by simpa using h
    rw[this]
  ·rw[decide_eq_false (λ z=>c (decide_eq_true ⋯))]
   rfl
 intro b H2 z9;obtain⟨rfl,rfl⟩ := z9
 refine ite2 (λ c=>no ?_ _ s1) (λ c=>?_)
 ·unfold numB
  rw[c]
  simp
 ·have nb:numB m z=true:=by
   unfold numB
   rw[<- zgy,c0,zcw,zbp.mpr c]
   rfl
  have hq:=q _ s1
  unfold pNum at hq
  rw[if_pos nb] at hq
  have dg:PySem.NumText.AllDigits z.cps.toList:=λ c hc=>by
   have h1:=all_sg.mp c2 c hc
   have:∀c∈figT.cps.toList,48<=c/\c<=57:=by decide +kernel
   exact this c h1
  exact⟨_,rfl,z,_,rfl,znd dg (λ e=>by rw[e] at sz;simp at sz;omega) ⋯,⋯,hq⟩
theorem ok_nameF(gt:Gt mg t1 t2 t3 t4)(F:Fun K "is_name" "is_name" qer9 f fd)(B:Bl mg):FnOk P w K mg base CX0 (n+1) f fd ["text"] spNameF:=by
 refine F.okQ qll9 (λ vs H Q E h=>?_) (λ cdv A outer s H vs Q E hr h=>?_)
 ·obtain⟨_,rfl,_⟩:=h
  rfl
 obtain⟨z,rfl,tz,q⟩:=h
 refine⟨_,(qae9 (qam9 (qpc9 (qrb9 qdi9 qdi9 qaf9 (qe_cb qep9 rfl B.len qeb9 (qa_c (qv 0) qac9)) qaf9) (qlw9 (qe_cb (qex9 rfl) rfl B.all qlt9 (qa_c (qdv9 ["sign"] [zhr] (BlkOk.of rfl rfl (SubL.to subN) rfl) rfl (qth9 (qv 0)) (λ _ _ _ _=>(qat9 (i:=0) (show(["sign"]:List Str).Nodup by decide) rfl (zai rfl))) (λ _ _ _ _=>qdh9) (λ _ _ _ _=>(qfo9 qnt9 (qv 0) (qoe9 rfl gt.lets) rfl))) qac9)))))),?_⟩
 walk_at "d"
 have hl:=tz.len
 have hz:=L.le (n:=z.length) ⋯
 have no:nameB z=false->∀H',Same H H'->Q (.bl false) H':=λ e H' s'=>by
  have:=q H' s'
  rw[e] at this
  exact this
 refine⟨_,rfl,_,rfl,hz,_,_,rfl,rfl,_,rfl,ite2 (λ c=>?_) (λ c=>?_)⟩
 ·have c1:=of_decide_eq_true c
  refine⟨_,_,rfl,rfl,_,rfl,ite2 (λ c2=>?_) (λ c2=>?_)⟩
  ·simp at c2
   refine⟨_,rfl,_,rfl,qif9 tz.asc,qjp9 hl λ D H1 s1 e1=>?_⟩
   refine⟨D,_,rfl,SqL.of e1,?_⟩
   have:=q H1 s1
   unfold nameB at this
   rw[decide_eq_true ⋯] at this
   exact this
  ·simp at c2
   exact no (by unfold nameB;rw[decide_eq_false ⋯];rfl) _ (Same.refl _)
 ·exact⟨_,rfl,iteF (no (by unfold nameB;rw[decide_eq_false (λ z=>c (decide_eq_true ⋯))];rfl) _ (Same.refl _))⟩
theorem qse9(h:numB m z=true):1<=z.length/\z.length<=m:=of_decide_eq_true (zbt.mp h).1
theorem tx_empty:Tx zbr:=⟨asc_empty,zbx _⟩
theorem Tx.part(c:Nat)(h:Tx z):Tx (Txt.partition z ⟨#[c]⟩).1/\Tx (Txt.partition z ⟨#[c]⟩).2.2:=by
 rcases cut_at c z with hc|⟨x,y,rfl,hc⟩
 ·rw[qib9 hc]
  exact⟨h,tx_empty⟩
 ·rw[qcp9 hc]
  have l:=h.len
  rw[zaa,zaa] at l
  exact⟨⟨h.asc.left.left,by show x.length<=_;omega⟩,h.asc.right,by show y.length<=_;omega⟩
def pEnds(z:Str):Option (Str×Str):=if nameB (Txt.partition z ">").1=true/\nameB (Txt.partition z ">").2.2=true then zhq ((Txt.partition z ">").1,(Txt.partition z ">").2.2) else zhr
inductive spEndsF(vs:List V)(H:Hp)(Q:VK)(z3q:XK):Prop
 |mk (z:Str):vs=[.str z]->Tx z->((∀p,pEnds z=zhq p->∀(r:zht)(H':Hp),Same H H'->H' r=zhq (.tup [.str p.1,.str p.2])->Q (.ref r) H'))->((pEnds z=zhr->∀H',Same H H'->Q .non H'))->spEndsF vs H Q z3q
def pSpan(z:Str):Option (Int×Int):=match pNum 16 (Txt.partition z "-").1 with
 |none=>zhr
 |some a=>if(Txt.partition z "-").2.1=zbr then zhq (a,a) else match pNum 16 (Txt.partition z "-").2.2 with
  |none=>zhr
  |some b=>if a<b then zhq (a,b) else zhr
inductive spSpanF(vs:List V)(H:Hp)(Q:VK)(z3q:XK):Prop
 |mk (z:Str):vs=[.str z]->Tx z->((∀p,pSpan z=zhq p->∀(r:zht)(H':Hp),Same H H'->H' r=zhq (.tup [.int p.1,.int p.2])->Q (.ref r) H'))->((pSpan z=zhr->∀H',Same H H'->Q .non H'))->spSpanF vs H Q z3q
theorem ok_endsF(F:Fun K "read_ends" "read_ends" qcx9 f fd)(Ce0:Callee P w K mg base n "is_name" ["text"] spNameF):FnOk P w K mg base CX0 (n+1) f fd ["text"] spEndsF:=by
 refine F.okQ sc_read_ends (λ vs H Q E h=>?_) (λ cdv A outer s H vs Q E hr h=>?_)
 ·obtain⟨_,rfl,_⟩:=h
  rfl
 obtain⟨z,rfl,tz,q1,q0⟩:=h
 refine⟨_,(qaa9 (qak9 (i:=1) sc_read_ends.nd rfl (zai rfl) (qhv9 K rfl (qv 0) (qa_c qah9 qac9))) (qaa9 (qs_if (qgd9 (QW.pt (qw_or (qdj9 (qct9 (qe_fn Ce0 hr rfl (qa_c (qe_ix qas9 (qv 1) qaf9 (λ _ _=>rfl)) qac9)))) (qeq9 (qdj9 (qct9 (qe_fn Ce0 hr rfl (qa_c (qe_ix qas9 (qv 1) qaf9 (λ _ _=>rfl)) qac9)))))))) (qae9 (qam9 qbr9)) qan9) (qae9 (qam9 (qbn9 (qa_c (qe_ix qas9 (qv 1) qaf9 (λ _ _=>rfl)) (qa_c (qe_ix qas9 (qv 1) qaf9 (λ _ _=>rfl)) qac9))))))),?_⟩
 walk_at "d"
 have lz:=tz.len
 have tp:=tz.part 62
 refine⟨_,rfl,rfl,_,_,rfl,rfl,by decide,L.le ⋯,λ l hl=>?_⟩
 have e62:(">":Str)=⟨#[62]⟩:=rfl
 rw[e62]
 have ed:pEnds z=if nameB (Txt.partition z ⟨#[62]⟩).1=true/\nameB (Txt.partition z ⟨#[62]⟩).2.2=true then zhq ((Txt.partition z ⟨#[62]⟩).1,(Txt.partition z ⟨#[62]⟩).2.2) else zhr:=rfl
 generalize Txt.partition z ⟨#[62]⟩=p3 at tp ed
 obtain⟨a,m,b⟩:=p3
 dsimp only at tp ed
 generalize hgH1:upd _ l _=H1
 revert H1
 refine qal9 hl λ H1 s1 e1=>?_
 refine⟨λ c H'=>Same H1 H'/\(c=true->pEnds z=zhr)/\(c=false->pEnds z=zhq (a,b)),?_,?_⟩
 ·refine⟨_,rfl,l,_,_,_,rfl,rfl,SqT.of e1,rfl,a,rfl,tp.1,λ H2 s2=>⟨_,rfl,?_⟩⟩
  cases ca:nameB a with
  |false=>exact iteT ⟨s2,λ _=>by rw[ed,if_neg (by rw[ca];simp)],λ z=>(nomatch z)⟩
  |true =>
   refine iteF ⟨_,rfl,l,_,_,_,rfl,rfl,SqT.of (s2 _ _ e1),rfl,b,rfl,tp.2,λ H3 s3=>⟨_,rfl,?_⟩⟩
   refine⟨s2.trans s3,λ z=>?_,λ z=>?_⟩
   ·rw[ed,if_neg (by rw[nt_t z];simp)]
   ·rw[ed,if_pos ⟨ca,by cases cb:nameB b with|true=>rfl|false=>rw[cb] at z;cases z⟩]
 intro c H2 z9;obtain⟨s2,g1,g2⟩ := z9
 refine ite2 (λ c=>q0 (g1 c) _ (s1.trans s2)) (λ c=>?_)
 have e2:=s2 _ _ e1
 refine⟨_,rfl,l,_,_,_,rfl,rfl,SqT.of e2,rfl,_,rfl,l,_,_,_,rfl,rfl,SqT.of e2,rfl,(by show 2<=zhu;decide),λ l2 hl2=>?_⟩
 generalize hgH3:upd _ l2 _=H3
 revert H3
 refine qal9 hl2 λ H3 s3 e3=>?_
 exact q1 (a,b) (g2 (zbp.mpr c)) l2 H3 ((s1.trans s2).trans s3) e3
theorem ok_spanF(gt:Gt mg t1 t2 t3 t4)(F:Fun K "read_span" "read_span" qcv9 f fd)(Ca0:Callee P w K mg base n "read_number" ["text","most_figures"] spNumF):FnOk P w K mg base CX0 (n+1) f fd ["text"] spSpanF:=by
 refine F.okQ sc_read_span (λ vs H Q E h=>?_) (λ cdv A outer s H vs Q E hr h=>?_)
 ·obtain⟨_,rfl,_⟩:=h
  rfl
 obtain⟨z,rfl,tz,q1,q0⟩:=h
 refine⟨_,(qaa9 (qak9 (i:=1) sc_read_span.nd rfl (zai rfl) (qhv9 K rfl (qv 0) (qa_c qah9 qac9))) (qaa9 (qak9 (i:=2) sc_read_span.nd rfl (zai rfl) (qe_fn Ca0 hr rfl (qa_c (qe_ix qas9 (qv 1) qaf9 (λ _ _=>rfl)) (qa_c (qcb9 rfl gt.mf) qac9)))) (qaa9 (qs_if (qar9 qef9 (qe_ix qas9 (qv 1) qaf9 (λ _ _=>rfl)) qah9 (qbb9 _)) (qae9 (qam9 (qcc9 (qcw9 (qv 2)) qbr9 (qbn9 (qa_c (qv 2) (qa_c (qv 2) qac9)))))) qan9) (qaa9 (qak9 (i:=3) sc_read_span.nd rfl (zai rfl) (qe_fn Ca0 hr rfl (qa_c (qe_ix qas9 (qv 1) qaf9 (λ _ _=>rfl)) (qa_c (qcb9 rfl gt.mf) qac9)))) (qaa9 (qs_if (qgd9 (QW.pt (qw_or (qcw9 (qv 2)) (qw_or (qcw9 (qv 3)) (qeq9 (qar9 qop_ge (qv 2) (qv 3) (qbb9 _))))))) (qae9 (qam9 qbr9)) qan9) (qae9 (qam9 (qbn9 (qa_c (qv 2) (qa_c (qv 3) qac9)))))))))),?_⟩
 walk_at "d"
 have lz:=tz.len
 have tp:=tz.part 45
 refine⟨_,rfl,rfl,_,_,rfl,rfl,by decide,L.le ⋯,λ l hl=>?_⟩
 have e45:("-":Str)=⟨#[45]⟩:=rfl
 rw[e45]
 have ed:pSpan z=match pNum 16 (Txt.partition z ⟨#[45]⟩).1 with
  |none=>zhr
  |some a=>if(Txt.partition z ⟨#[45]⟩).2.1=zbr then zhq (a,a) else match pNum 16 (Txt.partition z ⟨#[45]⟩).2.2 with
   |none=>zhr
   |some b=>if a<b then zhq (a,b) else zhr:=rfl
 generalize Txt.partition z ⟨#[45]⟩=p3 at tp ed
 obtain⟨x,m,y⟩:=p3
 dsimp only at tp ed
 generalize hgH1:upd _ l _=H1
 revert H1
 refine qal9 hl λ H1 s1 e1=>?_
 refine⟨_,rfl,l,_,_,_,rfl,rfl,SqT.of e1,rfl,x,16,rfl,tp.1,by decide,λ H2 s2=>?_⟩
 have e2:=s2 _ _ e1
 refine⟨_,rfl,l,_,_,_,rfl,rfl,SqT.of e2,rfl,rfl,_,rfl,ite2 (λ c=>?_) (λ c=>?_)⟩
 ·have cm:m=zbr:=by
   have:=of_decide_eq_true c
   injection this
  cases cx:pNum 16 x with
  |none=>exact⟨_,rfl,_,rfl,iteT (q0 (by rw[ed,cx]) _ (s1.trans s2))⟩
  |some a =>
   refine⟨_,rfl,_,rfl,iteF ⟨_,rfl,_,rfl,(by show 2<=zhu;decide),λ rr hrr=>?_⟩⟩
   generalize hgH5:upd _ rr _=H5
   revert H5
   refine qal9 hrr λ H5 s5 e5=>?_
   exact q1 (a,a) (by rw[ed,cx];exact if_pos cm) rr H5 (s1.trans (s2.trans s5)) e5
 ·have cm:¬m=zbr:=λ h=>c (decide_eq_true (by rw[h];rfl))
  refine⟨_,rfl,l,_,_,_,rfl,rfl,SqT.of e2,rfl,y,16,rfl,tp.2,by decide,λ H3 s3=>?_⟩
  have s03:=s1.trans (s2.trans s3)
  cases cx:pNum 16 x with
  |none =>
   refine⟨λ z H'=>z=true/\H'=H3,⟨_,rfl,_,rfl,iteT ⟨rfl,rfl⟩⟩,?_⟩
   intro z H4 z9;obtain⟨rfl,rfl⟩ := z9
   exact iteT (q0 (by rw[ed,cx]) _ s03)
  |some a =>
   have ed:pSpan z=match pNum 16 y with
    |none=>zhr
    |some b=>if a<b then zhq (a,b) else zhr:=by rw[ed,cx];exact if_neg cm
   cases cy:pNum 16 y with
   |none =>
    refine⟨λ z H'=>z=true/\H'=H3,⟨_,rfl,_,rfl,iteF ⟨_,rfl,_,rfl,iteT ⟨rfl,rfl⟩⟩⟩,?_⟩
    intro z H4 z9;obtain⟨rfl,rfl⟩ := z9
    exact iteT (q0 (by rw[ed,cy]) _ s03)
   |some b =>
    have ed:pSpan z=if a<b then zhq (a,b) else zhr:=by rw[ed,cy]
    refine⟨λ z H'=>z=decide (b<=a)/\H'=H3,⟨_,rfl,_,rfl,iteF ⟨_,rfl,_,rfl,iteF ⟨_,rfl,_,rfl,_,_,rfl,rfl,_,rfl,rfl,rfl⟩⟩⟩,?_⟩
    intro z H4 z9;obtain⟨rfl,rfl⟩ := z9
    refine ite2 (λ c=>?_) (λ c=>?_)
    ·have:=of_decide_eq_true c
     exact q0 (by rw[ed,if_neg ⋯]) _ s03
    ·have c':a<b:=by
      have:¬b<=a:=λ h=>c (decide_eq_true h)
      omega
     refine⟨_,rfl,_,rfl,(by show 2<=zhu;decide),λ rr hrr=>?_⟩
     generalize hgH5:upd _ rr _=H5
     revert H5
     refine qal9 hrr λ H5 s5 e5=>?_
     exact q1 (a,b) (by rw[ed,if_pos c']) rr H5 (s03.trans s5) e5
def pWin(day:Int)(z:Str):Option T3:=match pSpan (Txt.partition z "+").1,pNum 16 (Txt.partition z "+").2.2 with
 |some (a,b),zhq c=>if(1<=c/\c<=1000000000000000)/\b<day then zhq (a,b,c) else zhr
 |_,_=>zhr
theorem pNum_ge(h:pNum m z=zhq a):0<=a:=by
 unfold pNum at h
 split at h
 ·injection h with h
  omega
 ·cases h
theorem pSpan_ge{p:Int×Int}(h:pSpan z=zhq p):0<=p.1/\p.1<=p.2:=by
 unfold pSpan at h
 split at h
 ·cases h
 ·rename_i a ha
  have:=pNum_ge ha
  split at h
  ·injection h with h
   subst h
   exact⟨this,zbq _⟩
  ·split at h
   ·cases h
   ·split at h
    ·injection h with h
     subst h
     exact⟨this,by show a<=_;omega⟩
    ·cases h
inductive spWinF(vs:List V)(H:Hp)(Q:VK)(z3q:XK):Prop
 |mk (day:Int) (z:Str):vs=[.int day,.str z]->Tx z->day<=1000000000000000->((∀p,pWin day z=zhq p->∀(r:zht)(H':Hp),Same H H'->H' r=zhq (.tup (enc3 p))->Q (.ref r) H'))->((pWin day z=zhr->∀H',Same H H'->Q .non H'))->spWinF vs H Q z3q
theorem ok_winF(gt:Gt mg t1 t2 t3 t4)(F:Fun K "read_window" "read_window" qbv9 f fd)(Co0:Callee P w K mg base n "read_span" ["text"] spSpanF)(Ca0:Callee P w K mg base n "read_number" ["text","most_figures"] spNumF)(Cj0:Callee P w K mg base n "is_window" ["day","thing"] spWindow):FnOk P w K mg base CX0 (n+1) f fd ["day","text"] spWinF:=by
 refine F.okQ sc_read_window (λ vs H Q E h=>?_) (λ cdv A outer s H vs Q E hr h=>?_)
 ·obtain⟨_,_,rfl,_⟩:=h
  rfl
 obtain⟨day,z,rfl,tz,d2,q1,q0⟩:=h
 refine⟨_,(qaa9 (qak9 (i:=2) sc_read_window.nd rfl (zai rfl) (qhv9 K rfl (qv 1) (qa_c qah9 qac9))) (qaa9 (qak9 (i:=3) sc_read_window.nd rfl (zai rfl) (qe_fn Co0 hr rfl (qa_c (qe_ix qas9 (qv 2) qaf9 (λ _ _=>rfl)) qac9))) (qaa9 (qak9 (i:=4) sc_read_window.nd rfl (zai rfl) (qe_fn Ca0 hr rfl (qa_c (qe_ix qas9 (qv 2) qaf9 (λ _ _=>rfl)) (qa_c (qcb9 rfl gt.mf) qac9)))) (qaa9 (qs_if (qgd9 (QW.pt (qw_or (qcw9 (qv 3)) (qw_or (qcw9 (qv 4)) (qeq9 (qdj9 (qft9 qdi9 qdi9 qaf9 (qv 4) (qcb9 rfl gt.mo)))))))) (qae9 (qam9 qbr9)) qan9) (qaa9 (qak9 (i:=5) sc_read_window.nd rfl (zai rfl) (qbn9 (qa_c (qe_ix qas9 (qv 3) qaf9 (λ _ _=>rfl)) (qa_c (qe_ix qas9 (qv 3) qaf9 (λ _ _=>rfl)) (qa_c (qv 4) qac9))))) (qae9 (qam9 (qcc9 (qct9 (qe_fn Cj0 hr rfl (qa_c (qv 0) (qa_c (qv 5) qac9)))) (qv 5) qbr9)))))))),?_⟩
 walk_at "d"
 have lz:=tz.len
 have tp:=tz.part 43
 refine⟨_,rfl,rfl,_,_,rfl,rfl,by decide,L.le ⋯,λ l hl=>?_⟩
 have e43:("+":Str)=⟨#[43]⟩:=rfl
 rw[e43]
 have ed:pWin day z=match pSpan (Txt.partition z ⟨#[43]⟩).1,pNum 16 (Txt.partition z ⟨#[43]⟩).2.2 with
  |some (a,b),zhq c=>if(1<=c/\c<=1000000000000000)/\b<day then zhq (a,b,c) else zhr
  |_,_=>zhr:=rfl
 generalize Txt.partition z ⟨#[43]⟩=p3 at tp ed
 obtain⟨x,m,y⟩:=p3
 dsimp only at tp ed
 generalize hgH1:upd _ l _=H1
 revert H1
 refine qal9 hl λ H1 s1 e1=>?_
 refine⟨_,rfl,l,_,_,_,rfl,rfl,SqT.of e1,rfl,x,rfl,tp.1,λ p ep r2 H2 s2 e2=>?_,λ ep H2 s2=>?_⟩
 ·obtain⟨a,b⟩:=p
  refine⟨_,rfl,l,_,_,_,rfl,rfl,SqT.of (s2 _ _ e1),rfl,y,16,rfl,tp.2,by decide,λ H3 s3=>?_⟩
  have s03:=s1.trans (s2.trans s3)
  cases cy:pNum 16 y with
  |none =>
   refine⟨λ z H'=>z=true/\H'=H3,⟨_,rfl,_,rfl,iteF ⟨_,rfl,_,rfl,iteT ⟨rfl,rfl⟩⟩⟩,?_⟩
   intro z H4 z9;obtain⟨rfl,rfl⟩ := z9
   exact iteT (q0 (by rw[ed,ep,cy]) _ s03)
  |some c =>
   have e3:=s3 _ _ e2
   have ed:pWin day z=if(1<=c/\c<=1000000000000000)/\b<day then zhq (a,b,c) else zhr:=by rw[ed,ep,cy]
   refine⟨λ z H'=>(z=false↔(1<=c/\c<=1000000000000000))/\H'=H3,?_,?_⟩
   ·refine⟨_,rfl,_,rfl,iteF ⟨_,rfl,_,rfl,iteF ⟨_,rfl,_,_,rfl,rfl,_,rfl,ite2 (λ c1=>?_) (λ c1=>?_)⟩⟩⟩
    ·have c1':=of_decide_eq_true c1
     refine⟨_,_,rfl,rfl,_,rfl,?_,rfl⟩
     simp[c1']
    ·refine⟨_,rfl,?_,rfl⟩
     have c1':¬1<=c:=λ z=>c1 (decide_eq_true z)
     simp
     omega
   intro z H4 z9;obtain⟨g,rfl⟩ := z9
   refine ite2 (λ cz=>?_) (λ cz=>?_)
   ·refine q0 (ed.trans (if_neg λ h=>?_)) _ s03
    rw[g.mpr h.1] at cz
    cases cz
   ·have c12:=g.mp (zbp.mpr cz)
    have ge:=pSpan_ge ep
    dsimp only at ge
    refine⟨_,rfl,r2,_,_,_,rfl,rfl,SqT.of e3,rfl,_,rfl,r2,_,_,_,rfl,rfl,SqT.of e3,rfl,_,rfl,(by show 3<=zhu;decide),λ rr hrr=>?_⟩
    generalize hgH5:upd _ rr _=H5
    revert H5
    refine qal9 hrr λ H5 s5 e5=>?_
    have wv:winV H5 day (.ref rr)=decide (b<day):=by
     have:tupV H5 (.ref rr)=zhq [V.int a,V.int b,V.int c]:=by simp[tupV,e5];rfl
     unfold winV
     rw[this]
     simp[winL,isWh,ge]
     omega
    refine⟨_,rfl,_,rfl,day,.ref rr,rfl,qnm9 e5,λ H6 s6=>?_⟩
    rw[wv]
    refine⟨_,rfl,ite2 (λ cd=>?_) (λ cd=>?_)⟩
    ·have cd':=of_decide_eq_true cd
     exact⟨_,rfl,q1 (a,b,c) (by rw[ed];exact if_pos ⟨c12,cd'⟩) rr H6 (s03.trans (s5.trans s6)) (s6 _ _ e5)⟩
    ·exact q0 (by rw[ed];exact if_neg λ h=>cd (decide_eq_true h.2)) _ (s03.trans (s5.trans s6))
 ·refine⟨_,rfl,l,_,_,_,rfl,rfl,SqT.of (s2 _ _ e1),rfl,y,16,rfl,tp.2,by decide,λ H3 s3=>?_⟩
  refine⟨λ z H'=>z=true/\H'=H3,⟨_,rfl,_,rfl,iteT ⟨rfl,rfl⟩⟩,?_⟩
  intro z H4 z9;obtain⟨rfl,rfl⟩ := z9
  exact iteT (q0 (by rw[ed,ep]) _ (s1.trans (s2.trans s3)))
def momB(z:Str):Bool:=if Txt.startswith z "-" then(match pNum 30 (Txt.slice z (zhq 1) zhr) with|zhr=>false|zhq m=>decide (m≠0)) else(pNum 30 z).isSome
def turB(z:Str):Bool:=match pNum 30 z with|zhr=>false|zhq m=>decide (m<=3)
inductive spMomF(vs:List V)(H:Hp)(Q:VK)(z3q:XK):Prop
 |mk (z:Str):vs=[.str z]->Tx z->((momB z=true->∀(t:Int)(H':Hp),Same H H'->Q (.int t) H'))->((momB z=false->∀H',Same H H'->Q .non H'))->spMomF vs H Q z3q
inductive spTurF(vs:List V)(H:Hp)(Q:VK)(z3q:XK):Prop
 |mk (z:Str):vs=[.str z]->Tx z->((turB z=true->∀(t:Int)(H':Hp),Same H H'->Q (.int t) H'))->((turB z=false->∀H',Same H H'->Q .non H'))->spTurF vs H Q z3q
theorem Tx.rest(h:Tx z):Tx (Txt.slice z (zhq 1) zhr):=by
 have e:(Txt.slice z (zhq 1) zhr).cps.toList=z.cps.toList.drop 1:=qmk9 (by decide)
 refine⟨λ c hc=>h.asc c (zfo (e ▸ hc)),?_⟩
 have h1:=h.len
 have h2:(Txt.slice z (zhq 1) zhr).length=(Txt.slice z (zhq 1) zhr).cps.toList.length:=by simp[zbm]
 have h3:z.length=z.cps.toList.length:=by simp[zbm]
 rw[h2,e,zee]
 omega
theorem ok_momF(gr:Gr mg t1 t2 t3)(F:Fun K "read_moment" "read_moment" qbx9 f fd)(Ca0:Callee P w K mg base n "read_number" ["text","most_figures"] spNumF):FnOk P w K mg base CX0 (n+1) f fd ["word"] spMomF:=by
 refine F.okQ sc_read_moment (λ vs H Q E h=>?_) (λ cdv A outer s H vs Q E hr h=>?_)
 ·obtain⟨_,rfl,_⟩:=h
  rfl
 obtain⟨z,rfl,tz,q1,q0⟩:=h
 refine⟨_,(qaa9 (qs_if (qdj9 (qct9 (qok9 (qv 0) (qa_c qah9 qac9)))) (qae9 (qam9 (qe_fn Ca0 hr rfl (qa_c (qv 0) (qa_c (qcb9 rfl gr.mf) qac9))))) qan9) (qaa9 (qak9 (i:=1) sc_read_moment.nd rfl (zai rfl) (qe_fn Ca0 hr rfl (qa_c (qpl9 (qv 0) (qfh9 qaf9) qfi9) (qa_c (qcb9 rfl gr.mf) qac9)))) (qae9 (qam9 (qcc9 (QW.pt (qw_or (qcw9 (qv 1)) (qeq9 (qar9 qef9 (qv 1) qaf9 (qbb9 _))))) qbr9 (qe_neg (qv 1))))))),?_⟩
 walk_at "d"
 refine⟨_,rfl,rfl,_,_,rfl,rfl,?_⟩
 unfold momB at q1 q0
 cases cs:Txt.startswith z "-" with
 |true =>
  rw[cs] at q1 q0
  refine⟨_,rfl,iteF ⟨_,rfl,_,rfl,_,rfl,L.le (by have:=tz.len;omega),_,30,rfl,tz.rest,by decide,λ H1 s1=>?_⟩⟩
  cases cn:pNum 30 (Txt.slice z (zhq 1) zhr) with
  |none =>
   rw[cn] at q0
   exact⟨_,rfl,_,rfl,iteT (q0 rfl _ s1)⟩
  |some m =>
   rw[cn] at q0 q1
   refine⟨_,rfl,_,rfl,iteF ⟨_,rfl,rfl,_,rfl,ite2 (λ c=>?_) (λ c=>?_)⟩⟩
   ·have:m=0:=by
     have:=of_decide_eq_true c
     injection this
    exact q0 (by simp[this]) _ s1
   ·have:m≠0:=λ e=>c (by rw[e];rfl)
    exact⟨_,rfl,_,rfl,q1 (by simp[this]) _ _ s1⟩
 |false =>
  rw[cs] at q1 q0
  refine⟨_,rfl,iteT ⟨_,rfl,z,30,rfl,tz,by decide,λ H1 s1=>?_⟩⟩
  cases cn:pNum 30 z with
  |none =>
   rw[cn] at q0
   exact q0 rfl _ s1
  |some m =>
   rw[cn] at q1
   exact q1 rfl _ _ s1
theorem ok_turF(gr:Gr mg t1 t2 t3)(F:Fun K "read_turns" "read_turns" qck9 f fd)(Ca0:Callee P w K mg base n "read_number" ["text","most_figures"] spNumF):FnOk P w K mg base CX0 (n+1) f fd ["word"] spTurF:=by
 refine F.okQ sc_read_turns (λ vs H Q E h=>?_) (λ cdv A outer s H vs Q E hr h=>?_)
 ·obtain⟨_,rfl,_⟩:=h
  rfl
 obtain⟨z,rfl,tz,q1,q0⟩:=h
 refine⟨_,(qaa9 (qak9 (i:=1) sc_read_turns.nd rfl (zai rfl) (qe_fn Ca0 hr rfl (qa_c (qv 0) (qa_c (qcb9 rfl gr.mf) qac9)))) (qae9 (qam9 (qcc9 (QW.pt (qmf9 (qt_notN (qv 1)) (qir9 (qar9 qdi9 (qv 1) (qcb9 rfl gr.mt) (qbb9 _))))) (qv 1) qbr9)))),?_⟩
 walk_at "d"
 unfold turB at q1 q0
 refine⟨_,rfl,z,30,rfl,tz,by decide,λ H1 s1=>?_⟩
 cases cn:pNum 30 z with
 |none =>
  rw[cn] at q0
  exact⟨_,rfl,_,rfl,iteF (q0 rfl _ s1)⟩
 |some m =>
  rw[cn] at q0 q1
  refine⟨_,rfl,_,rfl,iteT ⟨_,rfl,_,_,rfl,rfl,_,rfl,ite2 (λ c=>?_) (λ c=>?_)⟩⟩
  ·exact⟨_,rfl,q1 c _ _ s1⟩
  ·exact q0 (zbp.mpr c) _ s1
def qix9(k z:Str):Option (List Str):=if k="road" then(pEnds z).map λ p=>[p.1,p.2] else if nameB z=true then zhq [z] else zhr
def valB(d:Int)(k z:Str):Bool:=if k="moment" then momB z else if k="turns" then turB z else(pWin d z).isSome
inductive spNamesF(vs:List V)(H:Hp)(Q:VK)(z3q:XK):Prop
 |mk (k z:Str):vs=[.str k,.str z]->Tx z->((∀l,qix9 k z=zhq l->∀(r:zht)(H':Hp),Same H H'->H' r=zhq (.tup (l.map V.str))->Q (.ref r) H'))->((qix9 k z=zhr->∀H',Same H H'->Q .non H'))->spNamesF vs H Q z3q
inductive spValF(vs:List V)(H:Hp)(Q:VK)(z3q:XK):Prop
 |mk (d:Int) (k z:Str):vs=[.int d,.str k,.str z]->Tx z->d<=1000000000000000->((valB d k z=true->∀(v:V)(H':Hp),v ≠ .non->Same H H'->Q v H'))->((valB d k z=false->∀H',Same H H'->Q .non H'))->spValF vs H Q z3q
theorem str_dec:(decide (V.str x=V.str y)=true)↔x=y:=by simp
theorem ok_namesF(F:Fun K "read_names" "read_names" qcj9 f fd)(Cd0:Callee P w K mg base n "read_ends" ["text"] spEndsF)(Ce0:Callee P w K mg base n "is_name" ["text"] spNameF):FnOk P w K mg base CX0 (n+1) f fd ["kind","word"] spNamesF:=by
 refine F.okQ qhp9 (λ vs H Q E h=>?_) (λ cdv A outer s H vs Q E hr h=>?_)
 ·obtain⟨_,_,rfl,_⟩:=h
  rfl
 obtain⟨k,z,rfl,tz,q1,q0⟩:=h
 refine⟨_,(qaa9 (qs_if (qar9 qef9 (qv 0) qah9 (qbb9 _)) (qae9 (qam9 (qe_fn Cd0 hr rfl (qa_c (qv 1) qac9)))) qan9) (qae9 (qam9 (qcc9 (qct9 (qe_fn Ce0 hr rfl (qa_c (qv 1) qac9))) (qbn9 (qa_c (qv 1) qac9)) qbr9)))),?_⟩
 walk_at "d"
 unfold qix9 at q1 q0
 refine⟨_,rfl,rfl,_,rfl,ite2 (λ c=>?_) (λ c=>?_)⟩
 ·have c':k="road" := str_dec.mp c
  rw[if_pos c'] at q0
  simp only[if_pos c'] at q1
  refine⟨_,rfl,z,rfl,tz,λ p ep r H1 s1 e1=>?_,λ ep H1 s1=>?_⟩
  ·exact q1 [p.1,p.2] (by rw[ep];rfl) r H1 s1 e1
  ·exact q0 (by rw[ep];rfl) _ s1
 ·have c':¬k="road" := λ h=>c (str_dec.mpr h)
  rw[if_neg c'] at q0
  simp only[if_neg c'] at q1
  refine⟨_,rfl,z,rfl,tz,λ H1 s1=>⟨_,rfl,?_⟩⟩
  cases cn:nameB z with
  |true =>
   refine iteT ⟨_,rfl,(by show 1<=zhu;decide),λ rr hrr=>?_⟩
   generalize hgH2:upd _ rr _=H2
   revert H2
   refine qal9 hrr λ H2 s2 e2=>?_
   exact q1 [z] (by rw[if_pos cn]) rr H2 (s1.trans s2) e2
  |false=>exact iteF (q0 (by rw[cn];rfl) _ s1)
theorem ok_valF(F:Fun K "read_value" "read_value" qcn9 f fd)(Ci0:Callee P w K mg base n "read_moment" ["word"] spMomF)(Ck0:Callee P w K mg base n "read_turns" ["word"] spTurF)(Cb0:Callee P w K mg base n "read_window" ["day","text"] spWinF):FnOk P w K mg base CX0 (n+1) f fd ["day","kind","word"] spValF:=by
 refine F.okQ qhq9 (λ vs H Q E h=>?_) (λ cdv A outer s H vs Q E hr h=>?_)
 ·obtain⟨_,_,_,rfl,_⟩:=h
  rfl
 obtain⟨d,k,z,rfl,tz,d2,q1,q0⟩:=h
 refine⟨_,(qaa9 (qs_if (qar9 qef9 (qv 1) qah9 (qbb9 _)) (qae9 (qam9 (qe_fn Ci0 hr rfl (qa_c (qv 2) qac9)))) qan9) (qaa9 (qs_if (qar9 qef9 (qv 1) qah9 (qbb9 _)) (qae9 (qam9 (qe_fn Ck0 hr rfl (qa_c (qv 2) qac9)))) qan9) (qae9 (qam9 (qe_fn Cb0 hr rfl (qa_c (qv 0) (qa_c (qv 2) qac9))))))),?_⟩
 walk_at "d"
 unfold valB at q1 q0
 refine⟨_,rfl,rfl,_,rfl,ite2 (λ c=>?_) (λ c=>?_)⟩
 ·have c':k="moment" := str_dec.mp c
  rw[if_pos c'] at q0 q1
  exact⟨_,rfl,z,rfl,tz,λ e t H1 s1=>q1 e _ H1 (by simp) s1,λ e H1 s1=>q0 e H1 s1⟩
 have c1:¬k="moment" := λ h=>c (str_dec.mpr h)
 rw[if_neg c1] at q0 q1
 refine⟨_,rfl,rfl,_,rfl,ite2 (λ c=>?_) (λ c=>?_)⟩
 ·have c':k="turns" := str_dec.mp c
  rw[if_pos c'] at q0 q1
  exact⟨_,rfl,z,rfl,tz,λ e t H1 s1=>q1 e _ H1 (by simp) s1,λ e H1 s1=>q0 e H1 s1⟩
 have c2:¬k="turns" := λ h=>c (str_dec.mpr h)
 rw[if_neg c2] at q0 q1
 exact⟨_,rfl,_,rfl,d,z,rfl,tz,d2,λ p ep r H1 s1 _=>q1 (by rw[ep];rfl) _ H1 (by simp) s1,λ ep H1 s1=>q0 (by rw[ep];rfl) H1 s1⟩
end
def shTab(x:Str):Option (List Str) :=
 if x="soonest" \/ x="latest" \/ x="rides" then zhq ["name","name","moment"] else if x="kept" then zhq ["name","name","moment","turns"] else if x="board" \/ x="longest" then zhq ["name","name"] else if x="open" \/ x="shut" then zhq ["road","window"] else if x="net" then zhq [] else zhr
structure ShT(K:W.Frag)(kvS:List (Str×Tok×zhs)):Prop where
 no:∀x,shTab x=zhr->kdVal kvS x=zhr
 yes:∀x ks,shTab x=zhq ks->∃ta,kdVal kvS x=zhq (.ref ta)/\∀H,SqT K H ta (ks.map V.str)
def qfc9(x:Str)(ws:List Str):Option (List Str):=if x="meet" /\ 2<=ws.length/\ws.length<=7 then zhq ("moment"::zbc (ws.length-1) "name") else shTab x
inductive spShapeF(K:W.Frag)(vs:List V)(H:Hp)(Q:VK)(z3q:XK):Prop
 |mk (pw:zht) (x:Str) (ws:List Str):vs=[.ref pw]->(H pw=zhq (.lst ((x::ws).map V.str)))->ws.length<=40000->((∀ks,qfc9 x ws=zhq ks->∀(ta:zht)(H':Hp),Same H H'->(∀H'',Same H' H''->SqT K H'' ta (ks.map V.str))->Q (.ref ta) H'))->((qfc9 x ws=zhr->Q .non H))->spShapeF K vs H Q z3q
section
variable {w:zhy}{f:zht}
theorem ok_shapeF(gr:Gr mg t1 t2 t3)(kS:KDict K w.params aS kvS)(mS:mg "SHAPES"=zhq (.ref aS))(st:ShT K kvS)(F:Fun K "shape_of" "shape_of" qdm9 f fd)(B:Bl mg):FnOk P w K mg base CX0 (n+1) f fd ["words"] (spShapeF K):=by
 refine F.okQ qjo9 (λ vs H Q E h=>?_) (λ cdv A outer s H vs Q E hr h=>?_)
 ·obtain⟨_,_,_,rfl,_⟩:=h
  rfl
 obtain⟨pw,x,ws,rfl,ep,lw,q1,q0⟩:=h
 refine⟨_,(qaa9 (qs_if (QW.pt (qmf9 (qar9 qef9 (qe_ix qau9 (qv 0) qaf9 (λ _ _=>rfl)) qah9 (qbb9 _)) (qir9 (qft9 qdi9 qdi9 qaf9 (qe_cb qbg9 rfl B.len qeb9 (qa_c (qv 0) qac9)) (qe_op qbu9 qaf9 (qcb9 rfl gr.mp)))))) (qae9 (qam9 (qe_op qmi9 (qbn9 (qa_c qah9 qac9)) (qe_op qqq9 (qbn9 (qa_c qah9 qac9)) (qe_op qgy9 (qe_cb qbg9 rfl B.len qeb9 (qa_c (qv 0) qac9)) qaf9))))) qan9) (qae9 (qam9 (qqg9 kS rfl mS (qe_ix qau9 (qv 0) qaf9 (λ _ _=>rfl)) ⟨rfl,rfl,rfl,rfl⟩)))),?_⟩
 walk_at "d"
 have a0:atI ((x::ws).map V.str) 0=zhq (.str x):=qcf9 (j:=0) rfl
 have ln:((x::ws).map V.str).length=ws.length+1:=by simp
 have tab:¬(x="meet" /\ 2<=ws.length/\ws.length<=7)->∀H',H'=H->tKGet1 kvS (tOp (rIxL K) (tVar 0) (tC (V.int 0))) (L2.start ["words"] [V.ref pw]) H' Q:=by
  intro no H' eH
  subst eH
  have es:qfc9 x ws=shTab x:=if_neg no
  cases et:shTab x with
  |none=>exact⟨_,rfl,pw,_,_,_,rfl,rfl,SqL.of ep,a0,x,.non,rfl,by rw[st.no x et];rfl,q0 (es.trans et)⟩
  |some ks =>
   obtain⟨ta,e1,e2⟩:=st.yes x ks et
   exact⟨_,rfl,pw,_,_,_,rfl,rfl,SqL.of ep,a0,x,.ref ta,rfl,by rw[e1];rfl,q1 ks (es.trans et) ta _ (Same.refl _) λ H'' _=>e2 H''⟩
 refine⟨_,rfl,pw,_,_,_,rfl,rfl,SqL.of ep,a0,rfl,_,rfl,ite2 (λ c=>?_) (λ c=>tab (λ h=>c (str_dec.mpr h.1)) _ rfl)⟩
 have c':x="meet" := str_dec.mp c
 refine⟨_,rfl,pw,_,rfl,.inl (SqL.of ep),_,_,rfl,rfl,_,rfl,ite2 (λ c=>?_) (λ c=>?_)⟩
 ·have c3:(3:Int)<=((x::ws).map V.str).length:=of_decide_eq_true c
  refine⟨_,_,rfl,rfl,_,_,rfl,rfl,_,rfl,ite2 (λ c=>?_) (λ c=>?_)⟩
  ·have c8:(((x::ws).map V.str).length:Int)<=2+6:=of_decide_eq_true c
   rw[ln] at c3 c8
   have es:qfc9 x ws=zhq (("moment":Str)::zbc (ws.length-1) ("name":Str)):=if_pos ⟨c',⋯,⋯⟩
   refine⟨(by show 1<=zhu;decide),λ pm hpm=>?_⟩
   generalize hgH1:upd _ pm _=H1
   revert H1
   refine qal9 hpm λ H1 s1 e1=>?_
   refine⟨(by show 1<=zhu;decide),λ pn hpn=>?_⟩
   generalize hgH2:upd _ pn _=H2
   revert H2
   refine qal9 hpn λ H2 s2 e2=>?_
   have e1':=s2 _ _ e1
   refine⟨_,rfl,pw,_,rfl,.inl (SqL.of (s2 _ _ (s1 _ _ ep))),_,_,rfl,rfl,?_⟩
   have fl:∀m:Nat,(zbc m [V.str "name"]).flatten=zbc m (V.str "name"):=λ m=>by
    induction m with
    |zero=>rfl
    |succ m ih=>rw[zca,zdk,ih,zca];rfl
   have fin:∀(m:Nat)(p:zht)(H3:Hp),m=ws.length-1->Same H2 H3->H3 p=zhq (.tup (V.str "moment"::zbc m (V.str "name")))->Q (.ref p) H3:=λ m p H3 em s3 e3=>by
    refine q1 _ es p H3 ((s1.trans s2).trans s3) λ H'' s''=>SqT.of (s'' _ _ ?_)
    rw[e3,em]
    simp
   refine⟨pn,_,_,rfl,rfl,SqT.of e2,by simp,by rw[ln];omega,by rw[ln];omega,L.le (by rw[ln];simp;omega),λ k1=>?_,λ k2 pq hpq=>?_⟩
   ·refine⟨pm,pn,_,_,rfl,rfl,SqT.of e1',SqT.of e2,by simp,L.le (by simp),λ z=>(by simp at z),λ _ pr hpr=>?_⟩
    generalize hgH3:upd _ pr _=H3
    revert H3
    refine qal9 hpr λ H3 s3 e3=>?_
    exact fin 1 pr H3 (by rw[ln] at k1;omega) s3 e3
   ·rw[fl] at *
    generalize hgH3:upd _ pq _=H3
    revert H3
    refine qal9 hpq λ H3 s3 e3=>?_
    refine⟨pm,pq,_,_,rfl,rfl,SqT.of (s3 _ _ e1'),SqT.of e3,by simp,L.le (by simp;omega),λ z=>(by simp at z;omega),λ _ pr hpr=>?_⟩
    generalize hgH4:upd _ pr _=H4
    revert H4
    refine qal9 hpr λ H4 s4 e4=>?_
    exact fin _ pr H4 ⋯ (s3.trans s4) e4
  ·refine tab (λ h=>c (decide_eq_true ?_)) _ rfl
   rw[ln]
   have:=h.2.2
   omega
 ·refine⟨_,rfl,tab (λ h=>c (decide_eq_true ?_)) _ rfl⟩
  rw[ln]
  have:=h.2.1
  omega
end
theorem join_mem:∀{ts:List Str}{p:Str},p∈ts->(∀c∈p.cps.toList,c∈(zbg sep ts).cps.toList)/\p.length<=(zbg sep ts).length
 | [],p,h=>by cases h
 |x::r,p,h=>by
  have e:=qbh9 sep x r
  have el:(zbg sep (x::r)).length=(zbg sep (x::r)).cps.toList.length:=by simp[zbm]
  have ep:p.length=p.cps.toList.length:=by simp[zbm]
  rw[el,ep,e]
  rcases zag.mp h with rfl|h
  ·exact⟨λ c hc=>zbi _ hc,by rw[zap];omega⟩
  ·refine⟨λ c hc=>zar _ (zdd.mpr ⟨p,h,zar _ hc⟩),?_⟩
   obtain⟨r1,r2,rfl⟩:=List.append_of_mem h
   rw[zcn,zbw]
   simp only[zap]
   omega
theorem join_many(hs:1<=sep.length):∀{ts:List Str},ts.length<=(zbg sep ts).length+1
 | []=>by simp
 |x::r=>by
  have e:=qbh9 sep x r
  have el:(zbg sep (x::r)).length=(zbg sep (x::r)).cps.toList.length:=by simp[zbm]
  have es:sep.length=sep.cps.toList.length:=by simp[zbm]
  rw[el,e,zap,zbb]
  have:r.length<=(r.flatMap λ p=>sep.cps.toList++p.cps.toList).length:=by
   clear e el
   induction r with
   |nil=>simp
   |cons y r ih =>
    rw[zbw,zap,zap,zbb]
    omega
  omega
theorem qjt9(hs:1<=sep.length):(Txt.split x sep).length<=x.length+1:=by
 have:=join_many hs (ts:=Txt.split x sep)
 rwa [StrLaws.join_split] at this
theorem qrt9{p:Str}(hp:p∈Txt.split x sep)(h:Asc x):Asc p/\p.length<=x.length:=by
 obtain⟨a,b⟩:=join_mem (sep:=sep) hp
 rw[StrLaws.join_split] at a b
 exact⟨λ c hc=>h c (a c hc),b⟩
def NoStr(K:W.Frag)(H:Hp)(z:V):Prop:=∃t,TyOf K H z t/\W.kitOne K t (.type "str")=zhq false
def namB(k:Str):Bool:=inV (.str k) [.str "name",.str "road"]
def pOne(d:Int)(p:Str×Str):Option (List Str):=if namB p.1=true then qix9 p.1 p.2 else if valB d p.1 p.2=true then zhq [] else zhr
def pStep(d:Int)(o:Option (List Str))(p:Str×Str):Option (List Str):=match o with|zhr=>zhr|zhq ns=>match pOne d p with|zhr=>zhr|zhq l=>zhq (ns++l)
def qfk9(d:Int)(l:List (Str×Str)):Option (List Str):=l.foldl (pStep d) (zhq [])
def pRow(d:Int)(x:Str)(ws:List Str):Option (List Str):=match qfc9 x ws with|zhr=>zhr|zhq ks=>if ws.length=ks.length then qfk9 d (ks.zip ws) else zhr
theorem qjz9{d:Int}:∀l:List (Str×Str),l.foldl (pStep d) zhr=zhr
 | []=>rfl
 |_::l=>qjz9 l
theorem qsl9{l:List (Str×Str)}{p:Str×Str}(h:l[i]?=zhq p):qfk9 d (l.take (i+1))=pStep d (qfk9 d (l.take i)) p:=by
 unfold qfk9
 rw[zbe,h,zcz]
 rfl
theorem qqc9{l:List (Str×Str)}(h:qfk9 d (l.take i)=zhr):qfk9 d l=zhr:=by
 rw[<- zfi i l]
 unfold qfk9 at *
 rw[zcz,h]
 exact qjz9 _
theorem qrg9{k:Str}(h:qix9 k z=zhq l):l.length<=2:=by
 unfold qix9 at h
 split at h
 ·cases e:pEnds z with
  |none=>rw[e] at h;cases h
  |some p=>rw[e] at h;cases h;exact zaq _
 ·split at h
  ·cases h
   exact zfr 1
  ·cases h
inductive spRowF(K:W.Frag)(vs:List V)(H:Hp)(Q:VK)(z3q:XK):Prop
 |mk (d:Int) (z:V):vs=[.int d,z]->d<=1000000000000000->(((NoStr K H z/\Q .non H)\/∃(x u:Str)(ws:List Str),z=.str x/\Tx x/\Txt.split x " "=u::ws/\(pRow d u ws=zhr->∀H',Same H H'->Q .non H')/\(∀ns,pRow d u ws=zhq ns->∀(r pn pv:zht)(us:List V)(H':Hp),Same H H'->H' r=zhq (.tup [.str u,.ref pn,.ref pv])->H' pn=zhq (.lst (ns.map V.str))->H' pv=zhq (.lst us)->Q (.ref r) H')))->spRowF K vs H Q z3q
section
variable {w:zhy}{f:zht}
theorem ok_rowF(F:Fun K "read_row" "read_row" qdk9 f fd)(B:Bl mg)(Cp0:Callee P w K mg base n "shape_of" ["words"] (spShapeF K))(Cl0:Callee P w K mg base n "read_names" ["kind","word"] spNamesF)(Cm0:Callee P w K mg base n "read_value" ["day","kind","word"] spValF):FnOk P w K mg base CX0 (n+1) f fd ["day","row"] (spRowF K):=by
 refine F.okQ sc_read_row (λ vs H Q E h=>?_) (λ cdv A outer s H vs Q E hr h=>?_)
 ·obtain⟨_,_,rfl,_⟩:=h
  rfl
 obtain⟨d,v,rfl,d2,h⟩:=h
 refine⟨_,(qaa9 (qs_if (qdj9 (qct9 (qe_cb qfg9 rfl B.isinstance qap9 (qa_c (qv 1) (qa_c (qe_ty "str" rfl B.str_ qhx9) qac9))))) (qae9 (qam9 qbr9)) qan9) (qaa9 (qak9 (i:=2) sc_read_row.nd rfl (zai rfl) (qhc9 K rfl (qv 1) (qa_c qah9 qac9))) (qaa9 (qak9 (i:=3) sc_read_row.nd rfl (zai rfl) (qe_fn Cp0 hr rfl (qa_c (qv 2) qac9))) (qaa9 (qs_if (qgd9 (QW.pt (qw_or (qcw9 (qv 3)) (qeq9 (qar9 qkf9 (qe_cb qbg9 rfl B.len qeb9 (qa_c (qv 2) qac9)) (qe_op qbu9 qaf9 (qe_cb qbg9 rfl B.len qeb9 (qa_c (qv 3) qac9))) (qbb9 _)))))) (qae9 (qam9 qbr9)) qan9) (qaa9 (qak9 (i:=4) sc_read_row.nd rfl (zai rfl) (qbi9 qac9)) (qaa9 (qak9 (i:=5) sc_read_row.nd rfl (zai rfl) (qbi9 qac9)) (qaa9 (qeo9 ziq.never rfl (qi_zipT rfl B.zip (qa_c (qv 3) (qa_c (qps9 (qv 2) (qfh9 qaf9) qfi9) qac9))) (qpj9 rfl (qbd9 (qat9 (i:=6) sc_read_row.nd rfl (zai rfl)) (qbd9 (qat9 (i:=7) sc_read_row.nd rfl (zai rfl)) qhs9))) (qaa9 (qak9 (i:=8) sc_read_row.nd rfl (zai rfl) (qfo9 qop_inL (qv 6) (qbn9 (qa_c qah9 (qa_c qah9 qac9))) rfl)) (qaa9 (qak9 (i:=9) sc_read_row.nd rfl (zai rfl) (qe_cut (qcc9 (qct9 (qv 8)) (qe_fn Cl0 hr rfl (qa_c (qv 6) (qa_c (qv 7) qac9))) (qe_fn Cm0 hr rfl (qa_c (qv 0) (qa_c (qv 6) (qa_c (qv 7) qac9))))))) (qaa9 (qs_if (qcw9 (qv 9)) (qae9 (qam9 qbr9)) qan9) (qae9 (qs_if (qct9 (qv 8)) (qae9 (qcl9 (qe_extT (qv 4) (qa_c (qv 9) qac9)))) (qae9 (qcl9 (qbf9 (qv 5) (qa_c (qv 9) qac9)))))))))) (qae9 (qam9 (qbn9 (qa_c (qe_ix qau9 (qv 2) qaf9 (λ _ _=>rfl)) (qa_c (qv 4) (qa_c (qv 5) qac9))))))))))))),?_⟩
 walk_at "d"
 rcases h with⟨⟨t,ht,hk⟩,q⟩|⟨x,u,ws,rfl,tx,es,q0,q1⟩
 ·exact⟨_,rfl,_,"str",t,_,rfl,ht,hk,_,rfl,iteT q⟩
 refine⟨_,rfl,_,"str",_,_,rfl,.str _,rfl,_,rfl,iteF ?_⟩
 have lx:=tx.len
 have few:=qjt9 (x:=x) (sep := " ") (by decide)
 rw[es,zbb] at few
 have tw:∀t∈ws,Tx t:=λ t ht=>by
  obtain⟨a,b⟩:=qrt9 (x:=x) (sep := " ") (p:=t) (by rw[es];exact zal _ ht) tx.asc
  exact⟨a,⋯⟩
 refine⟨_,rfl,rfl,_,_,rfl,rfl,by decide,L.le ⋯,qel9 ⋯,by rw[es,zbb];exact L.le ⋯,λ pw hpw=>?_⟩
 rw[es]
 generalize hgH1:upd _ pw _=H1
 revert H1
 refine qal9 hpw λ H1 s1 e1=>?_
 have e1:H1 pw=zhq (.lst ((u::ws).map V.str)):=e1
 have er:∀o,qfc9 u ws=o->pRow d u ws=match o with|zhr=>zhr|zhq ks=>if ws.length=ks.length then qfk9 d (ks.zip ws) else zhr:=λ o e=>by rw[<- e];rfl
 refine⟨_,rfl,pw,u,ws,rfl,e1,⋯,λ ks ek ta H1' s1' st=>?_,λ ek=>?_⟩
 rotate_left
 ·refine⟨λ b H'=>b=true/\H'=H1,⟨_,rfl,_,rfl,iteT ⟨rfl,rfl⟩⟩,?_⟩
  intro b H2 z9;obtain⟨rfl,rfl⟩ := z9
  exact iteT (q0 (er _ ek) _ s1)
 have er:=er _ ek
 dsimp only at er
 have s1:=s1.trans s1'
 have e1:=s1' _ _ e1
 clear s1'
 refine⟨λ b H'=>b=decide (ws.length≠ks.length)/\H'=H1',?_,?_⟩
 ·refine⟨_,rfl,_,rfl,iteF ?_⟩
  refine⟨_,rfl,pw,_,rfl,.inl (SqL.of e1),_,rfl,ta,_,rfl,.inr (st _ (Same.refl _)),_,_,rfl,rfl,rfl,_,rfl,?_,rfl⟩
  simp only[zac,zbb]
  by_cases h:ws.length=ks.length
  ·simp[h,Int.add_comm]
  ·have:¬((ws.length:Int)+1=1+(ks.length:Int)):=⋯
   simp[h,this]
 intro b H1 z9;obtain⟨rfl,rfl⟩ := z9
 refine ite2 (λ c=>q0 (er.trans (if_neg (of_decide_eq_true c))) _ s1) (λ c=>?_)
 have lk:ws.length=ks.length:=by
  have:=mt decide_eq_true c
  omega
 rw[if_pos lk] at er
 refine⟨(by show 0<=zhu;decide),λ pn hpn=>?_⟩
 have fpn:=s1.free hpn
 have nwn:pw≠pn:=λ z=>by rw[<- z,e1] at hpn;cases hpn
 generalize hgH2:upd _ pn _=H2
 revert H2
 refine qal9 hpn λ H2 s2 e2=>?_
 refine⟨(by show 0<=zhu;decide),λ pv hpv=>?_⟩
 have fpv:=(s1.trans s2).free hpv
 have npv:pv≠pn:=λ z=>by rw[z,e2] at hpv;cases hpv
 have nwv:pw≠pv:=λ z=>by rw[<- z,s2 _ _ e1] at hpv;cases hpv
 generalize hgH3:upd _ pv _=H3
 revert H3
 refine qal9 hpv λ H3 s3 e3=>?_
 refine⟨_,rfl,_,rfl,_,rfl,pw,_,rfl,SqL.of (s3 _ _ (s2 _ _ e1)),λ pz hpz=>?_⟩
 rw[cut1]
 have nzn:pz≠pn:=λ z=>by rw[z,s3 _ _ e2] at hpz;cases hpz
 have nzv:pz≠pv:=λ z=>by rw[z,e3] at hpz;cases hpz
 generalize hgH4:upd _ pz _=H4
 revert H4
 refine qal9 hpz λ H4 s4 e4=>?_
 have S4:=s1.trans (s2.trans (s3.trans s4))
 have e4:H4 pz=zhq (.lst (ws.map V.str)):=e4
 have S4t:=s2.trans (s3.trans s4)
 have lz:(ks.zip ws).length=ks.length:=by rw[List.length_zip];omega
 refine⟨ta,pz,rfl,⟨_,st _ S4t⟩,⟨_,SqL.of e4⟩,?_⟩
 refine qrq9 (K:=K) (a:=ta) (b:=pz) (xs:=ks.map V.str) (ys:=ws.map V.str) (by simp;omega)
  (λ i σ H'=>E6q λ(us:List V) (ns:List Str) (v6 v7 v8 v9:Option V)=>A9q (σ=[sI9 d,sS9 x,sR9 pw,sR9 ta,sR9 pn,sR9 pv,v6,v7,v8,v9]) (Same H1 H') (H' pz=zhq (.lst (ws.map V.str))) (H' pw=zhq (.lst ((u::ws).map V.str))) (H' pn=zhq (.lst (ns.map V.str))) (H' pv=zhq (.lst us)) (qfk9 d ((ks.zip ws).take i)=zhq ns) (ns.length<=2*i) (us.length<=i))
  ⟨[],[],_,_,_,_,rfl,S4t,e4,s4 _ _ (s3 _ _ (s2 _ _ e1)),s4 _ _ (s3 _ _ e2),s4 _ _ e3,rfl,zbx _,zbx _⟩ (λ i σ H' _ h=>?_) ?_ ?_
 ·obtain⟨_,_,_,_,_,_,_,s,h,_⟩:=h
  exact⟨st _ s,SqL.of h⟩
 ·intro i kx zx pt σ H5 hx hy z9 hpt;obtain⟨us,ns,v6,v7,v8,v9,rfl,s5,z5,w5,n5,u5,pp,ln,lu⟩ := z9
  rw[zah] at hx hy
  cases hk:ks[i]? with
  |none=>rw[hk] at hx;cases hx
  |some k =>
  cases hz:ws[i]? with
  |none=>rw[hz] at hy;cases hy
  |some z =>
  rw[hk] at hx
  rw[hz] at hy
  cases hx
  cases hy
  have hi:=(zab.mp hz).1
  have tz:=tw z (zaf hz)
  have hp:(ks.zip ws)[i]?=zhq (k,z):=by rw[List.getElem?_zip_eq_some];exact⟨hk,hz⟩
  have pn1:=qsl9 (d:=d) hp
  rw[pp] at pn1
  have pn1:qfk9 d ((ks.zip ws).take (i+1))=match pOne d (k,z) with|zhr=>zhr|zhq l=>zhq (ns++l):=pn1
  generalize hgH6:upd _ pt _=H6
  revert H6
  refine qal9 hpt λ H6 s6 e6=>?_
  refine⟨pt,_,rfl,SqT.of e6,rfl,_,_,rfl,_,_,rfl,rfl,?_⟩
  refine⟨_,rfl,(by show 2<=zhu;decide),λ pq hpq=>?_⟩
  generalize hgH7:upd _ pq _=H7
  revert H7
  refine qal9 hpq λ H7 s7 e7=>?_
  refine⟨pq,_,rfl,.inr (SqT.of e7),rfl,rfl,?_⟩
  have en:inV (.str k) [.str "name",.str "road"]=namB k:=rfl
  rw[en]
  have s57:=s6.trans s7
  refine⟨λ v H'=>Same H7 H'/\((v=.non/\pOne d (k,z)=zhr)\/(v ≠ .non/\(namB k=true->∃r l,v=.ref r/\H' r=zhq (.tup (l.map V.str))/\pOne d (k,z)=zhq l/\l.length<=2)/\(namB k=false->pOne d (k,z)=zhq []))),?_,?_⟩
  ·refine⟨_,rfl,_,rfl,ite2 (λ c=>?_) (λ c=>?_)⟩
   ·have c:namB k=true:=by simpa using c
    have e:pOne d (k,z)=qix9 k z:=if_pos c
    exact⟨_,rfl,_,rfl,k,z,rfl,tz,λ l el r H8 s8 e8=>⟨s8,.inr ⟨by simp,λ _=>⟨r,l,rfl,e8,e.trans el,qrg9 el⟩,λ z=>(by rw[c] at z;cases z)⟩⟩,λ en H8 s8=>⟨s8,.inl ⟨rfl,e.trans en⟩⟩⟩
   ·have c':namB k=false:=by simpa using c
    have e:pOne d (k,z)=if valB d k z=true then zhq [] else zhr:=if_neg (by rw[c'];decide)
    exact⟨_,rfl,_,rfl,_,rfl,d,k,z,rfl,tz,d2,λ ev v H8 nv s8=>⟨s8,.inr ⟨nv,λ z=>(by rw[c'] at z;cases z),λ _=>e.trans (if_pos ev)⟩⟩,λ ev H8 s8=>⟨s8,.inl ⟨rfl,e.trans (if_neg (by rw[ev];decide))⟩⟩⟩
  intro v H8 z9;obtain⟨s8,hv⟩ := z9
  have s58:=s57.trans s8
  have n8:=s58 _ _ n5
  have u8:=s58 _ _ u5
  have S8:=s5.trans s58
  rcases hv with⟨rfl,no⟩|⟨vn,hn,hv⟩
  ·exact⟨_,rfl,_,rfl,iteT (q0 (er.trans (qqc9 (i:=i+1) (by rw[pn1,no]))) _ (s1.trans S8))⟩
  refine⟨_,rfl,_,rfl,iteN (by simp[vn]) ?_⟩
  refine⟨_,rfl,_,rfl,ite2 (λ c=>?_) (λ c=>?_)⟩
  ·have c:namB k=true:=by simpa using c
   obtain⟨r,l,rfl,er2,el,l2⟩:=hn c
   refine⟨_,rfl,.inl ⟨rfl,_,SqL.of n8⟩,_,rfl,pn,r,_,_,rfl,rfl,n8,SqT.of er2,?_,?_⟩
   ·exact L.le (by simp only[zac];omega)
   refine⟨us,ns++l,_,_,_,_,rfl,qaz9 hpn S8,by rw[qao9 nzn];exact s58 _ _ z5,by rw[qao9 nwn];exact s58 _ _ w5,?_,by rw[qao9 npv];exact u8,by rw[pn1,el],?_,⋯⟩
   ·rw[qaj9,zaj]
   ·rw[zap]
    omega
  ·have c':namB k=false:=by simpa using c
   refine⟨_,rfl,.inl ⟨rfl,_,SqL.of u8⟩,_,rfl,pv,us,v,rfl,rfl,u8,qbq9 ⋯,?_⟩
   refine⟨us++[v],ns,_,_,_,_,rfl,qaz9 (s2.free hpv) S8,by rw[qao9 nzv];exact s58 _ _ z5,by rw[qao9 nwv];exact s58 _ _ w5,by rw[qao9 npv.symm];exact n8,qaj9,by rw[pn1,hv c'];simp,⋯,by simp;omega⟩
 ·intro σ H5 z9;obtain⟨us,ns,v6,v7,v8,v9,rfl,s5,z5,w5,n5,u5,pp,ln,lu⟩ := z9
  rw[zac,<- lz,zbk] at pp
  have a0:atI ((u::ws).map V.str) 0=zhq (.str u):=qcf9 (j:=0) rfl
  refine⟨_,rfl,pw,_,_,_,rfl,rfl,SqL.of w5,a0,_,rfl,_,rfl,(by show 3<=zhu;decide),λ rr hrr=>?_⟩
  generalize hgH6:upd _ rr _=H6
  revert H6
  refine qal9 hrr λ H6 s6 e6=>?_
  exact q1 ns (er.trans pp) rr pn pv us H6 ((s1.trans s5).trans s6) e6 (s6 _ _ n5) (s6 _ _ u5)
end
def spOr(a b:Sp):Sp:=λ vs H Q E=>a vs H Q E\/b vs H Q E
theorem FnOk_or{w:zhy}{k:Nat}{f:zht}{ps:List Str}{a b:Sp}(h1:FnOk P w K mg base CX k f fd ps a)(h2:FnOk P w K mg base CX k f fd ps b):FnOk P w K mg base CX k f fd ps (spOr a b) :=
 ⟨λ vs H Q E h=>h.elim (h1.len vs H Q E) (h2.len vs H Q E),λ A outer s H args us vs Q E hr he hb hv hs=>hs.elim (h1.run A outer s H args us vs Q E hr he hb hv) (h2.run A outer s H args us vs Q E hr he hb hv)⟩
inductive spSayN(K:W.Frag)(C CR CN:zht)(vs:List V)(H:Hp)(Q:VK)(E:XK):Prop
 |mk (x:zht) (z:V) (d:Int) (ns:List Str) (M:List RdT):vs=[.ref x,z]->DeskAt C H x d ns M->d<=1000000000000000->ns.length<=100->(((NoStr K H z/\E (.ref CR) zhr H)\/∃(y u:Str)(ws:List Str),z=.str y/\Tx y/\Txt.split y " "=u::ws/\((pRow d u ws=zhr/\∀H',Same H H'->E (.ref CR) zhr H')\/∃zs,pRow d u ws=zhq zs/\zs.length<=1000/\(∃t∈zs,t∉ns)/\∀H',Same H H'->E (.ref CN) zhr H')))->spSayN K C CR CN vs H Q E
theorem all_in{ns:List Str}(h:∃t∈zs,t∉ns):(zs.map λ t=>decide (t∈ns)).all id=false:=by
 obtain⟨t,h1,h2⟩:=h
 refine zbp.mpr λ z=>h2 ?_
 rw[zhj,zbl] at z
 exact of_decide_eq_true (z t h1)
section
variable {w:zhy}{f:zht}{CR:zht}{bmR bmN:List zhs}{R:List RowE}
theorem ok_sayN(G:DkT K C)(kA:KDict K w.params aA kvA)(mA:mg "ANSWERS"=zhq (.ref aA))(X_NoRow:ExC K CR bmR/\mg "NoRow"=zhq (.ref CR))(X_NoName:ExC K CN bmN/\mg "NoName"=zhq (.ref CN))(F:Fun K "say" "Desk.say" qbp9 f fd)(B:Bl mg)(Cr0:Callee P w K mg base n "read_row" ["day","row"] (spRowF K))(GA:∀q∈ansL R,Ans P w K mg base (CXE P w) n ["desk","places","values"] q.1 q.2):FnOk P w K mg base (CXE P w) (n+1) f fd ["self","row"] (spSayN K C CR CN):=by
 refine F.okX sc_Desk_say (λ vs H Q E h=>?_) (λ cdv A outer s H vs Q E hr h=>?_)
 ·obtain⟨_,_,_,_,_,rfl,_⟩:=h
  rfl
 obtain⟨x,v,d,ns,M,rfl,dk,d2,ln,h⟩:=h
 refine⟨_,(qaa9 (qak9 (i:=2) sc_Desk_say.nd rfl (zai rfl) (qe_fn Cr0 hr rfl (qa_c (qkt9 (qv 0)) (qa_c (qv 1) qac9)))) (qaa9 (qs_if (qcw9 (qv 2)) (qae9 (qhi9 makeE X_NoRow.1 rfl X_NoRow.2 (qa_c qah9 qac9))) qan9) (qaa9 (qs_if (qdj9 (qct9 (qe_cb (qex9 rfl) rfl B.all qlt9 (qa_c (qdv9 ["name","self"] [zhr,zhq 0] (BlkOk.of rfl rfl (SubL.to (subC rfl subN)) rfl) rfl (qbl9 (qe_ix qas9 (qv 2) qaf9 (λ _ _=>rfl))) (λ _ _ _ _=>(qat9 (i:=0) (show(["name","self"]:List Str).Nodup by decide) rfl (zai rfl))) (λ _ _ _ _=>qdh9) (λ _ _ _ _=>(qfo9 (qrc9 K rfl) (qv 0) (qnw9 K rfl (qv 1)) rfl))) qac9)))) (qae9 (qhi9 makeE X_NoName.1 rfl X_NoName.2 (qa_c qah9 qac9))) qan9) (qaa9 (qak9 (i:=3) sc_Desk_say.nd rfl (zai rfl) (qe_kget kA rfl mA (qe_ix qas9 (qv 2) qaf9 (λ _ _=>rfl)) (λ _ _=>rfl))) (qae9 (qam9 (qe_ans 3 GA hr passE (qa_c (qv 0) (qa_c (qdv9 ["name","self"] [zhr,zhq 0] (BlkOk.of rfl rfl (SubL.to (subC rfl subN)) rfl) rfl (qbl9 (qe_ix qas9 (qv 2) qaf9 (λ _ _=>rfl))) (λ _ _ _ _=>(qat9 (i:=0) (show(["name","self"]:List Str).Nodup by decide) rfl (zai rfl))) (λ _ _ _ _=>qdh9) (λ _ _ _ _=>(qkm9 K rfl (qnw9 K rfl (qv 1)) (qa_c (qv 0) qac9)))) (qa_c (qe_ix qas9 (qv 2) qaf9 (λ _ _=>rfl)) qac9)))))))))),?_⟩
 walk_at "d"
 obtain⟨dx,pn,pr,hx,hn,hM⟩:=dk.ex
 refine⟨_,rfl,x,C,dx,_,_,rfl,hx,G.cl,G.nd,rfl,_,rfl,d,v,rfl,d2,?_⟩
 rcases h with⟨hs,q⟩|⟨y,u,ws,rfl,ty,es,h⟩
 ·refine .inl ⟨hs,?_⟩
  exact⟨_,rfl,_,rfl,iteT ⟨by decide,q⟩⟩
 refine .inr ⟨y,u,ws,rfl,ty,es,λ no H1 s1=>?_,λ zs ez r qn qv us H1 s1 e1 n1 u1=>?_⟩
 ·rcases h with⟨_,q⟩|⟨zs,ez,_⟩
  ·exact⟨_,rfl,_,rfl,iteT ⟨by decide,q _ s1⟩⟩
  ·rw[no] at ez
   cases ez
 rcases h with⟨no,_⟩|⟨zs',ez',lz,ex,q⟩
 ·rw[no] at ez
  cases ez
 rw[ez'] at ez
 cases ez
 refine⟨_,rfl,_,rfl,iteF ?_⟩
 refine⟨_,rfl,r,_,_,_,rfl,rfl,SqT.of e1,rfl,qn,rfl,⟨_,SqL.of n1⟩,?_⟩
 refine qcq9 (K:=K) (a:=qn) (xs:=zs.map V.str) (λ D i H'=>Same H1 H'/\H' D=zhq (.lst (((zs.take i).map λ t=>decide (t∈ns)).map V.bl))) (λ D hD=>⟨qbc9 hD _,qaj9⟩) (λ D i H' _ _ h=>SqL.of (h.1 _ _ n1)) ?_ ?_
 ·intro D i y H' hD hi z9;obtain⟨sD,eD⟩ := z9
  rw[zah] at hi
  cases hzi:zs[i]? with
  |none=>rw[hzi] at hi;cases hi
  |some z =>
  rw[hzi] at hi
  cases hi
  have li:=(zab.mp hzi).1
  have sH:=s1.trans sD
  refine⟨λ k v e=>?_,?_⟩
  ·match k,e with
   |0,e=>cases e
   |1,e=>exact e
   |k+2,e=>cases e
  refine⟨_,rfl,_,rfl,x,C,dx,_,_,rfl,sH _ _ hx,G.cl,G.nn,rfl,pn,_,rfl,.inl (SqL.of (sH _ _ hn)),rfl,qfd9 _,?_⟩
  refine⟨_,eD,qbq9 (by simp;omega),qaz9 hD sD,?_⟩
  rw[qaj9,qjk9,zbe,hzi,zaj,zaj]
  rfl
 intro D H2 hD z9;obtain⟨s2,e2⟩ := z9
 refine⟨D,_,rfl,SqL.of e2,?_⟩
 rw[zac,zbk,all_in ex]
 exact⟨_,rfl,iteT ⟨by decide,q _ (s1.trans s2)⟩⟩
end
def pDay(z:Str):Option Int:=if(Txt.partition z " ").1="day" then(match pNum 16 (Txt.partition z " ").2.2 with|zhr=>zhr|zhq d=>if 1<=d/\d<=1000000000000000 then zhq d else zhr) else zhr
def qjd9(d:Int)(ws:List Str):Bool:=ws.all λ z=>(pWin d z).isSome
def partB(d:Int)(t:Str):Bool:=match Txt.split t " " with | []=>false|u::us=>(pEnds u).isSome&&qjd9 d us
def netB(x:Str):Bool:=match Txt.split x "; " with | []=>false|t::ts=>match pDay t with|zhr=>false|zhq d=>ts.all (partB d)
theorem pDay_le(h:pDay z=zhq d):1<=d/\d<=1000000000000000:=by
 unfold pDay at h
 split at h
 ·split at h
  ·cases h
  ·split at h
   ·cases h
    assumption
   ·cases h
 ·cases h
inductive spDayF(vs:List V)(H:Hp)(Q:VK)(z3q:XK):Prop
 |mk (z:Str):vs=[.str z]->Tx z->(∀H',Same H H'->Q (optV (pDay z)) H')->spDayF vs H Q z3q
inductive spBoardF(K:W.Frag)(vs:List V)(H:Hp)(Q:VK)(z3q:XK):Prop
 |mk (day:Int) (p:zht) (zs:List Str):vs=[.int day,.ref p]->H p=zhq (.lst (zs.map V.str))->((∀z∈zs,Tx z))->zs.length<=30001->day<=1000000000000000->((qjd9 day zs=true->∀(D:zht)(H':Hp),Same H H'->Q (.ref D) H'))->((qjd9 day zs=false->∀H',Same H H'->Q .non H'))->spBoardF K vs H Q z3q
section
variable {w:zhy}{f:zht}
theorem ok_dayF(gt:Gt mg t1 t2 t3 t4)(F:Fun K "read_day" "read_day" qdl9 f fd)(Ca0:Callee P w K mg base n "read_number" ["text","most_figures"] spNumF):FnOk P w K mg base CX0 (n+1) f fd ["text"] spDayF:=by
 refine F.okQ sc_read_day (λ vs H Q E h=>?_) (λ cdv A outer s H vs Q E hr h=>?_)
 ·obtain⟨_,rfl,_⟩:=h
  rfl
 obtain⟨z,rfl,tz,q⟩:=h
 refine⟨_,(qaa9 (qak9 (i:=1) sc_read_day.nd rfl (zai rfl) (qhv9 K rfl (qv 0) (qa_c qah9 qac9))) (qaa9 (qak9 (i:=2) sc_read_day.nd rfl (zai rfl) (qe_fn Ca0 hr rfl (qa_c (qe_ix qas9 (qv 1) qaf9 (λ _ _=>rfl)) (qa_c (qcb9 rfl gt.mf) qac9)))) (qaa9 (qs_if (qgd9 (QW.pt (qw_or (qar9 qkf9 (qe_ix qas9 (qv 1) qaf9 (λ _ _=>rfl)) qah9 (qbb9 _)) (qw_or (qcw9 (qv 2)) (qeq9 (qdj9 (qft9 qdi9 qdi9 qaf9 (qv 2) (qcb9 rfl gt.mo)))))))) (qae9 (qam9 qbr9)) qan9) (qae9 (qam9 (qv 2)))))),?_⟩
 walk_at "d"
 have lz:=tz.len
 have tp:=tz.part 32
 refine⟨_,rfl,rfl,_,_,rfl,rfl,by decide,L.le ⋯,λ l hl=>?_⟩
 have e32:(" ":Str)=⟨#[32]⟩:=rfl
 rw[e32]
 have ed:pDay z=if(Txt.partition z ⟨#[32]⟩).1="day" then(match pNum 16 (Txt.partition z ⟨#[32]⟩).2.2 with|zhr=>zhr|zhq d=>if 1<=d/\d<=1000000000000000 then zhq d else zhr) else zhr:=rfl
 generalize Txt.partition z ⟨#[32]⟩=p3 at tp ed
 obtain⟨x,m,y⟩:=p3
 dsimp only at tp ed
 rw[ed] at q
 generalize hgH1:upd _ l _=H1
 revert H1
 refine qal9 hl λ H1 s1 e1=>?_
 refine⟨_,rfl,l,_,_,_,rfl,rfl,SqT.of e1,rfl,y,16,rfl,tp.2,by decide,λ H2 s2=>?_⟩
 have s12:=s1.trans s2
 by_cases cx:x="day"
 ·rw[if_pos cx] at q
  cases cy:pNum 16 y with
  |none =>
   rw[cy] at q
   refine⟨λ z H'=>z=true/\H'=H2,?_,?_⟩
   ·exact⟨_,rfl,l,_,_,_,rfl,rfl,SqT.of (s2 _ _ e1),rfl,rfl,_,rfl,ite2 (λ c=>⟨rfl,rfl⟩) (λ c=>⟨_,rfl,_,rfl,iteT ⟨rfl,rfl⟩⟩)⟩
   intro z H4 z9;obtain⟨rfl,rfl⟩ := z9
   exact iteT (q _ s12)
  |some d =>
   rw[cy] at q
   refine⟨λ z H'=>(z=false↔(1<=d/\d<=1000000000000000))/\H'=H2,?_,?_⟩
   ·refine⟨_,rfl,l,_,_,_,rfl,rfl,SqT.of (s2 _ _ e1),rfl,rfl,_,rfl,iteN (by simp[cx]) ?_⟩
    refine⟨_,rfl,_,rfl,iteF ⟨_,rfl,_,_,rfl,rfl,_,rfl,ite2 (λ c1=>?_) (λ c1=>?_)⟩⟩
    ·have c1':=of_decide_eq_true c1
     refine⟨_,_,rfl,rfl,_,rfl,?_,rfl⟩
     simp[c1']
    ·refine⟨_,rfl,?_,rfl⟩
     have c1':¬1<=d:=λ z=>c1 (decide_eq_true z)
     simp
     omega
   intro z H4 z9;obtain⟨g,rfl⟩ := z9
   refine ite2 (λ cz=>?_) (λ cz=>?_)
   ·have no:¬(1<=d/\d<=1000000000000000):=λ h=>by
     rw[g.mpr h] at cz
     cases cz
    have:=q _ s12
    dsimp only at this
    rw[if_neg no] at this
    exact this
   ·have yes:=g.mp (zbp.mpr cz)
    have:=q _ s12
    dsimp only at this
    rw[if_pos yes] at this
    exact⟨_,rfl,this⟩
 ·rw[if_neg cx] at q
  refine⟨λ z H'=>z=true/\H'=H2,?_,?_⟩
  ·exact⟨_,rfl,l,_,_,_,rfl,rfl,SqT.of (s2 _ _ e1),rfl,rfl,_,rfl,iteP (by simp[cx]) ⟨rfl,rfl⟩⟩
  intro z H4 z9;obtain⟨rfl,rfl⟩ := z9
  exact iteT (q _ s12)
theorem ok_boardF(F:Fun K "read_board" "read_board" qcm9 f fd)(B:Bl mg)(Cb0:Callee P w K mg base n "read_window" ["day","text"] spWinF):FnOk P w K mg base CX0 (n+1) f fd ["day","words"] (spBoardF K):=by
 refine F.okQ sc_read_board (λ vs H Q E h=>?_) (λ cdv A outer s H vs Q E hr h=>?_)
 ·obtain⟨_,_,_,rfl,_⟩:=h
  rfl
 obtain⟨day,p,zs,rfl,hp,asc,hle,d2,q1,q0⟩:=h
 have hz:=L.le (n:=30002) ⋯
 refine⟨_,(qaa9 (qfn9 (i:=2) ["word","day"] [zhr,zhq 0] sc_read_board.nd rfl (zai rfl) (BlkOk.of rfl rfl (SubL.to (subC rfl subN)) rfl) rfl (qbl9 (qv 1)) (λ _ _ _ _=>(qat9 (i:=0) (show(["word","day"]:List Str).Nodup by decide) rfl (zai rfl))) (λ _ _ _ _=>qdh9) (λ _ _ _ _=>(qe_fn Cb0 hr rfl (qa_c (qv 1) (qa_c (qv 0) qac9))))) (qae9 (qam9 (qcc9 (qct9 (qe_cb (qns9 rfl) rfl B.any bt_any (qa_c (qdv9 ["window"] [zhr] (BlkOk.of rfl rfl (SubL.to subN) rfl) rfl (qbl9 (qv 2)) (λ _ _ _ _=>(qat9 (i:=0) (show(["window"]:List Str).Nodup by decide) rfl (zai rfl))) (λ _ _ _ _=>qdh9) (λ _ _ _ _=>(qe_isN (qv 0)))) qac9))) qbr9 (qv 2))))),?_⟩
 walk_at "d"
 refine⟨_,rfl,p,rfl,⟨_,SqL.of hp⟩,?_⟩
 refine qcq9 (K:=K) (a:=p) (xs:=zs.map V.str) (λ D i H'=>Same H H'/\∃us:List V,H' D=zhq (.lst us)/\us.map (λ u=>decide (u=V.non))=(zs.take i).map (λ z=>!(pWin day z).isSome)/\∀u∈us,u=.non\/∃r,u=.ref r) (λ D hD=>⟨qbc9 hD _,[],qaj9,rfl,by simp⟩) (λ D i H' _ _ h=>SqL.of (h.1 _ _ hp)) ?_ ?_
 ·intro D i y H' hD hi z9;obtain⟨sD,us,eD,eus,al⟩ := z9
  rw[zah] at hi
  cases hx:zs[i]? with
  |none=>rw[hx] at hi;cases hi
  |some x =>
   rw[hx] at hi
   cases hi
   have li:=(zab.mp hx).1
   have tx:=asc _ (zaf hx)
   have lus:us.length=i:=by
    have:=congrArg zeh eus
    rw[zac,zac,zbd] at this
    omega
   refine⟨λ k v e=>?_,?_⟩
   ·match k,e with
    |0,e=>cases e
    |1,e=>exact e
    |k+2,e=>cases e
   have nx:∀(v:V),decide (v=V.non)=!(pWin day x).isSome->(us++[v]).map (λ u=>decide (u=V.non))=(zs.take (i+1)).map (λ z=>!(pWin day z).isSome):=λ v hv=>by
    rw[zbe,hx,zaj,zaj,eus]
    simp[hv]
   refine⟨_,rfl,_,rfl,day,x,rfl,tx,d2,λ p' ep r H2 s2 e2=>?_,λ ep H2 s2=>?_⟩
   ·refine⟨us,s2 _ _ eD,⋯,qaz9 hD (sD.trans s2),us++[.ref r],qaj9,nx _ (by rw[ep];simp),λ u hu=>?_⟩
    rcases zak.mp hu with z|z
    ·exact al u z
    ·exact .inr ⟨r,by simpa using z⟩
   ·refine⟨us,s2 _ _ eD,⋯,qaz9 hD (sD.trans s2),us++[.non],qaj9,nx _ (by rw[ep];simp),λ u hu=>?_⟩
    rcases zak.mp hu with z|z
    ·exact al u z
    ·exact .inl (by simpa using z)
 ·intro D H1 hD z9;obtain⟨s1,us,u1,u2,u3⟩ := z9
  rw[zac,zbk] at u2
  have lus:us.length=zs.length:=by
   have:=congrArg zeh u2
   rwa [zac,zac] at this
  refine⟨_,rfl,D,rfl,⟨_,SqL.of u1⟩,?_⟩
  refine qcq9 (K:=K) (a:=D) (xs:=us) (λ D' i H'=>Same H1 H'/\H' D'=zhq (.lst (((us.take i).map λ u=>decide (u=V.non)).map V.bl))) (λ D' hD'=>⟨qbc9 hD' _,qaj9⟩) (λ D' i H' _ _ h=>SqL.of (h.1 _ _ u1)) ?_ ?_
  ·intro D' i y H' hD' hi z9;obtain⟨sD,eD⟩ := z9
   have li:=(zab.mp hi).1
   refine⟨λ k v e=>?_,?_⟩
   ·match k,e with
    |0,e=>cases e
    |k+1,e=>cases e
   refine⟨_,rfl,_,eD,by rw[zac,zac,zbd];omega,qaz9 hD' sD,?_⟩
   rw[qaj9,zbe,hi,zaj,zaj]
   rcases u3 y (zaf hi) with rfl|⟨r,rfl⟩<;>simp
  ·intro D' H2 hD' z9;obtain⟨s2,e2⟩ := z9
   rw[zbk,u2] at e2
   refine⟨D',_,rfl,SqL.of e2,_,rfl,?_⟩
   have e:(zs.map λ z=>!(pWin day z).isSome).any id=Bool.not (qjd9 day zs):=by
    unfold qjd9
    rw[zhk,List.not_all_eq_any_not]
    rfl
   rw[e]
   cases cb:qjd9 day zs with
   |true=>exact iteF ⟨_,rfl,q1 cb D H2 (s1.trans s2)⟩
   |false=>exact iteT (q0 cb _ (s1.trans s2))
end
inductive spNetN(K:W.Frag)(CT:zht)(vs:List V)(H:Hp)(z2q:VK)(E:XK):Prop
 |mk (z:V):vs=[z]->(((NoStr K H z/\E (.ref CT) zhr H)\/∃x:Str,z=.str x/\Tx x/\netB x=false/\∀H',Same H H'->E (.ref CT) zhr H'))->spNetN K CT vs H z2q E
theorem qla9(x sep:Str):∃t ts,Txt.split x sep=t::ts:=by
 cases e:Txt.split x sep with
 |nil=>exact absurd e (qnh9 _ _)
 |cons a l=>exact⟨a,l,rfl⟩
theorem Tx.parts{t:Str}(h:Tx x)(ht:t∈Txt.split x sep):Tx t:=by
 obtain⟨a,b⟩:=qrt9 ht h.asc
 have:=h.len
 exact⟨a,⋯⟩
section
variable {w:zhy}{f:zht}{CT:zht}
theorem ok_netN(X_NoText:ExC K CT bm/\mg "NoText"=zhq (.ref CT))(F:Fun K "read_net" "read_net" qdn9 f fd)(B:Bl mg)(Cq0:Callee P w K mg base n "read_day" ["text"] spDayF)(Cd0:Callee P w K mg base n "read_ends" ["text"] spEndsF)(Cn0:Callee P w K mg base n "read_board" ["day","words"] (spBoardF K))(Ch0:Callee P w K mg base n "number_of" ["names","name"] (spNumOf K)):FnOk P w K mg base (CXE P w) (n+1) f fd ["text"] (spNetN K CT):=by
 refine F.okX sc_read_net (λ vs H Q E h=>?_) (λ cdv A outer s H vs Q E hr h=>?_)
 ·obtain⟨_,rfl,_⟩:=h
  rfl
 obtain⟨v,rfl,h⟩:=h
 refine⟨_,(qaa9 (qs_if (qdj9 (qct9 (qe_cb qfg9 rfl B.isinstance qap9 (qa_c (qv 0) (qa_c (qe_ty "str" rfl B.str_ qhx9) qac9))))) (qae9 (qhi9 makeE X_NoText.1 rfl X_NoText.2 (qa_c qah9 qac9))) qan9) (qaa9 (qak9 (i:=1) sc_read_net.nd rfl (zai rfl) (qhc9 K rfl (qv 0) (qa_c qah9 qac9))) (qaa9 (qak9 (i:=2) sc_read_net.nd rfl (zai rfl) (qe_fn Cq0 hr rfl (qa_c (qe_ix qau9 (qv 1) qaf9 (λ _ _=>rfl)) qac9))) (qaa9 (qs_if (qcw9 (qv 2)) (qae9 (qhi9 makeE X_NoText.1 rfl X_NoText.2 (qa_c qah9 qac9))) qan9) (qaa9 (qak9 (i:=3) sc_read_net.nd rfl (zai rfl) (qbi9 qac9)) (qaa9 (qak9 (i:=4) sc_read_net.nd rfl (zai rfl) (qbi9 qac9)) (qaa9 (qeo9 ziq.leaving rfl (qbl9 (qps9 (qv 1) (qfh9 qaf9) qfi9)) (qat9 (i:=5) sc_read_net.nd rfl (zai rfl)) (qaa9 (qak9 (i:=6) sc_read_net.nd rfl (zai rfl) (qhc9 K rfl (qv 5) (qa_c qah9 qac9))) (qaa9 (qak9 (i:=7) sc_read_net.nd rfl (zai rfl) (qe_fn Cd0 hr rfl (qa_c (qe_ix qau9 (qv 6) qaf9 (λ _ _=>rfl)) qac9))) (qaa9 (qak9 (i:=8) sc_read_net.nd rfl (zai rfl) (qe_fn Cn0 hr rfl (qa_c (qv 2) (qa_c (qps9 (qv 6) (qfh9 qaf9) qfi9) qac9)))) (qaa9 (qs_if (QW.pt (qw_or (qcw9 (qv 7)) (qeq9 (qcw9 (qv 8))))) (qae9 (qhi9 makeE X_NoText.1 rfl X_NoText.2 (qa_c qah9 qac9))) qan9) (qaa9 (qak9 (i:=9) sc_read_net.nd rfl (zai rfl) (qe_fn Ch0 hr rfl (qa_c (qv 3) (qa_c (qe_ix qas9 (qv 7) qaf9 (λ _ _=>rfl)) qac9)))) (qae9 (qcl9 (qbf9 (qv 4) (qa_c (qbn9 (qa_c (qv 9) (qa_c (qe_fn Ch0 hr rfl (qa_c (qv 3) (qa_c (qe_ix qas9 (qv 7) qaf9 (λ _ _=>rfl)) qac9))) (qa_c (qv 8) qac9)))) qac9)))))))))) (qae9 (qam9 (qbn9 (qa_c (qv 2) (qa_c (qv 3) (qa_c (qv 4) qac9))))))))))))),?_⟩
 walk_at "d"
 rcases h with⟨⟨t,ht,hk⟩,q⟩|⟨x,rfl,tx,nb,q⟩
 ·exact⟨_,rfl,_,"str",t,_,rfl,ht,hk,_,rfl,iteT ⟨by decide,q⟩⟩
 refine⟨_,rfl,_,"str",_,_,rfl,.str _,rfl,_,rfl,iteF ?_⟩
 have lx:=tx.len
 have few:=qjt9 (x:=x) (sep := "; ") (by decide)
 refine⟨_,rfl,rfl,_,_,rfl,rfl,by decide,L.le ⋯,qel9 ⋯,L.le ⋯,λ ps hps=>?_⟩
 obtain⟨t0,ts,es⟩:=qla9 x "; "
 rw[es,zbb] at few
 have tt0:=tx.parts (sep := "; ") (t:=t0) (by rw[es];exact zan ..)
 have tts:∀t∈ts,Tx t:=λ t ht=>tx.parts (sep := "; ") (t:=t) (by rw[es];exact zal _ ht)
 have en:netB x=match pDay t0 with|zhr=>false|zhq d=>ts.all (partB d):=by unfold netB;rw[es]
 rw[es]
 generalize hgH1:upd _ ps _=H1
 revert H1
 refine qal9 hps λ H1 s1 e1=>?_
 have e1:H1 ps=zhq (.lst ((t0::ts).map V.str)):=e1
 refine⟨_,rfl,ps,_,_,_,rfl,rfl,SqL.of e1,qcf9 (j:=0) rfl,t0,rfl,tt0,λ H2 s2=>?_⟩
 cases cd:pDay t0 with
 |none=>exact⟨_,rfl,_,rfl,iteT ⟨by decide,q _ (s1.trans s2)⟩⟩
 |some day =>
 have nb:ts.all (partB day)=false:=by rw[en,cd] at nb;exact nb
 obtain⟨d1,d2⟩:=pDay_le cd
 refine⟨_,rfl,_,rfl,iteF ?_⟩
 refine⟨(by show 0<=zhu;decide),λ pn hpn=>?_⟩
 have fpn:H pn=zhr:=s1.free (s2.free hpn)
 generalize hgH3:upd _ pn _=H3
 revert H3
 refine qal9 hpn λ H3 s3 e3=>?_
 refine⟨(by show 0<=zhu;decide),λ pr hpr=>?_⟩
 have fpr:H pr=zhr:=s1.free (s2.free (s3.free hpr))
 have npr:pn≠pr:=λ z=>by rw[<- z,e3] at hpr;cases hpr
 generalize hgH4:upd _ pr _=H4
 revert H4
 refine qal9 hpr λ H4 s4 e4'=>?_
 have s04:=s1.trans (s2.trans (s3.trans s4))
 have s14:=s2.trans (s3.trans s4)
 refine⟨_,rfl,_,rfl,ps,_,rfl,SqL.of (s14 _ _ e1),λ p5 hp5=>?_⟩
 have ec:cutV ((t0::ts).map V.str) (zhq 1) zhr=ts.map V.str:=cut1 _
 rw[ec]
 have n5n:p5≠pn:=λ z=>by rw[z,s4 _ _ e3] at hp5;cases hp5
 have n5r:p5≠pr:=λ z=>by rw[z,e4'] at hp5;cases hp5
 generalize hgH5:upd _ p5 _=H5
 revert H5
 refine qal9 hp5 λ H5 s5 e5=>?_
 refine⟨p5,rfl,⟨_,SqL.of e5⟩,qdg9 (K:=K) (a:=p5) (xs:=ts.map V.str) (λ i σ H'=>E7q λ(N:List Str) (us:List V) (v5 v6 v7 v8 v9:Option V)=>A8q (σ=[sS9 x,sR9 ps,sI9 day,sR9 pn,sR9 pr,v5,v6,v7,v8,v9]) (Same H H') (H' p5=zhq (.lst (ts.map V.str))) (H' pn=zhq (.lst (N.map V.str))) (H' pr=zhq (.lst us)) (N.length<=2*i) (us.length=i) ((ts.take i).all (partB day)=true))
  ⟨[],[],_,_,_,_,_,rfl,s04.trans s5,e5,s5 _ _ (s4 _ _ e3),s5 _ _ e4',zbx _,rfl,rfl⟩ (λ i σ H' _ h=>?_) ?_ ?_⟩
 ·obtain⟨_,_,_,_,_,_,_,_,_,h,_⟩:=h
  exact SqL.of h
 ·intro i y σ H6 hi z9;obtain⟨N,us,v5,v6,v7,v8,v9,rfl,s6,e6,n6,u6,lN,lu,al⟩ := z9
  rw[zah] at hi
  cases hx:ts[i]? with
  |none=>rw[hx] at hi;cases hi
  |some t =>
  rw[hx] at hi
  cases hi
  have li:=(zab.mp hx).1
  have tt:=tts t (zaf hx)
  have lt:=tt.len
  have few2:=qjt9 (x:=t) (sep := " ") (by decide)
  refine⟨_,rfl,rfl,_,_,rfl,rfl,by decide,L.le ⋯,qel9 ⋯,L.le ⋯,λ pw hpw=>?_⟩
  obtain⟨u0,ws,eu⟩:=qla9 t " "
  rw[eu,zbb] at few2
  have tu:=tt.parts (sep := " ") (t:=u0) (by rw[eu];exact zan ..)
  have tws:∀z∈ws,Tx z:=λ z hz=>tt.parts (sep := " ") (t:=z) (by rw[eu];exact zal _ hz)
  have ep:partB day t=((pEnds u0).isSome&&qjd9 day ws):=by unfold partB;rw[eu]
  rw[eu]
  generalize hgH7:upd _ pw _=H7
  revert H7
  refine qal9 hpw λ H7 s7 e7=>?_
  have e7:H7 pw=zhq (.lst ((u0::ws).map V.str)):=e7
  have ec9:cutV ((u0::ws).map V.str) (zhq 1) zhr=ws.map V.str:=cut1 _
  refine⟨_,rfl,pw,_,_,_,rfl,rfl,SqL.of e7,qcf9 (j:=0) rfl,u0,rfl,tu,λ pp ee r8 H8 s8 e8=>?_,λ no H8 s8=>?_⟩
  rotate_left
  ·refine⟨_,rfl,_,rfl,_,rfl,pw,_,rfl,SqL.of (s8 _ _ e7),λ p9 hp9=>?_⟩
   rw[ec9]
   generalize hgH9:upd _ p9 _=H9
   revert H9
   refine qal9 hp9 λ H9 s9 e9=>?_
   have bad:∀H',Same H9 H'->E (.ref CT) zhr H':=λ H' s'=>q _ (s6.trans (s7.trans (s8.trans (s9.trans s'))))
   exact⟨day,p9,ws,rfl,e9,tws,⋯,d2,λ _ pb H10 s10=>⟨_,rfl,_,rfl,iteT ⟨by decide,bad _ s10⟩⟩,λ _ H10 s10=>⟨_,rfl,_,rfl,iteT ⟨by decide,bad _ s10⟩⟩⟩
  refine⟨_,rfl,_,rfl,_,rfl,pw,_,rfl,SqL.of (s8 _ _ e7),λ p9 hp9=>?_⟩
  rw[ec9]
  generalize hgH9:upd _ p9 _=H9
  revert H9
  refine qal9 hp9 λ H9 s9 e9=>?_
  refine⟨day,p9,ws,rfl,e9,tws,⋯,d2,λ bt pb H10 s10=>?_,λ _ H10 s10=>?_⟩
  rotate_left
  ·exact⟨_,rfl,_,rfl,iteF ⟨_,rfl,_,rfl,iteT ⟨by decide,q _ (s6.trans (s7.trans (s8.trans (s9.trans s10))))⟩⟩⟩
  have s610:=s7.trans (s8.trans (s9.trans s10))
  have n10:=s610 _ _ n6
  have u10:=s610 _ _ u6
  have e510:=s610 _ _ e6
  have e8':=s10 _ _ (s9 _ _ e8)
  have s010:=s6.trans s610
  have nr8:r8≠pn:=λ z=>by rw[z,n10] at e8';cases e8'
  have al':(ts.take (i+1)).all (partB day)=true:=by
   rw[zbe,hx,zfp,al]
   simp[ep,ee,bt]
  refine⟨_,rfl,_,rfl,iteF ⟨_,rfl,_,rfl,iteF ?_⟩⟩
  refine⟨_,rfl,_,rfl,r8,_,_,_,rfl,rfl,SqT.of e8',rfl,pn,_,N,rfl,n10,⋯,λ v N1 alt=>?_⟩
  have lN1:N1.length<=N.length+1:=by
   rcases alt with⟨_,_,rfl⟩|⟨_,_,rfl⟩
   ·omega
   ·simp
  clear alt
  have n11:upd H10 pn (.lst (N1.map V.str)) pn=zhq (.lst (N1.map V.str)):=qaj9
  have u11:upd H10 pn (.lst (N1.map V.str)) pr=zhq (.lst us):=by rw[qao9 npr.symm];exact u10
  have e511:upd H10 pn (.lst (N1.map V.str)) p5=zhq (.lst (ts.map V.str)):=by rw[qao9 n5n];exact e510
  have e811:upd H10 pn (.lst (N1.map V.str)) r8=zhq (.tup [.str pp.1,.str pp.2]):=by rw[qao9 nr8];exact e8'
  have s011:Same H (upd H10 pn (.lst (N1.map V.str))):=qaz9 fpn s010
  generalize upd H10 pn (.lst (N1.map V.str))=H11 at *
  refine⟨_,rfl,.inl ⟨rfl,_,SqL.of u11⟩,_,rfl,_,rfl,_,rfl,r8,_,_,_,rfl,rfl,SqT.of e811,rfl,pn,_,N1,rfl,n11,⋯,λ v N2 alt=>?_⟩
  have lN2:N2.length<=N1.length+1:=by
   rcases alt with⟨_,_,rfl⟩|⟨_,_,rfl⟩
   ·omega
   ·simp
  clear alt
  have n12:upd H11 pn (.lst (N2.map V.str)) pn=zhq (.lst (N2.map V.str)):=qaj9
  have u12:upd H11 pn (.lst (N2.map V.str)) pr=zhq (.lst us):=by rw[qao9 npr.symm];exact u11
  have e512:upd H11 pn (.lst (N2.map V.str)) p5=zhq (.lst (ts.map V.str)):=by rw[qao9 n5n];exact e511
  have s012:Same H (upd H11 pn (.lst (N2.map V.str))):=qaz9 fpn s011
  generalize upd H11 pn (.lst (N2.map V.str))=H12 at *
  refine⟨_,rfl,(by show 3<=zhu;decide),λ rr hrr=>?_⟩
  generalize hgH13:upd _ rr _=H13
  revert H13
  refine qal9 hrr λ H13 s13 e13=>?_
  refine⟨pr,_,_,rfl,rfl,s13 _ _ u12,qbq9 ⋯,?_⟩
  refine⟨N2,us++[.ref rr],_,_,_,_,_,rfl,qaz9 fpr (s012.trans s13),?_,?_,qaj9,⋯,by simp[lu],al'⟩
  ·rw[qao9 n5r]
   exact s13 _ _ e512
  ·rw[qao9 npr]
   exact s13 _ _ n12
 ·intro σ H6 z9;obtain⟨N,us,v5,v6,v7,v8,v9,rfl,s6,e6,n6,u6,lN,lu,al⟩ := z9
  rw[zac,zbk,nb] at al
  cases al
end
def exkB(K:W.Frag)(D:zht):Bool:=(W.clsIn K D).isSome&&(W.findIn K (.ref D) "__getattribute__"==zhq (zhq (.builtin "BaseException.__getattribute__"))&&(W.findIn K (.ref D) "__getattr__"==zhq zhr&&(W.findIn K (.ref D) "__class__"==zhq (zhq (.builtin "object.__class__")) &&
 (W.specialIn K (.builtin "object.__class__") "__get__"==zhq (zhq (.builtin "getset_descriptor.__get__"))&&(W.takesIn K (.builtin "object.__class__")==zhq true&&(W.mroIn K D (.type "object")==zhq true&&W.mroIn K D (.type "BaseException")==zhq true))))))
theorem exk_of{D:zht}(h:exkB K D=true):ExK K D:=by
 simp only[exkB,zaz,beq_iff_eq] at h
 obtain⟨a,b,c,d,e,f,g,i⟩:=h
 exact⟨a,b,c,d,e,f,g,i⟩
def isB(K:W.Frag)(D c:zht)(y:Bool):Bool:=(y&&zhn D c)||(!y&&(!Nat.beq D c&&((W.clsIn K c).isSome&&(W.typeIn K (.ref c)==zhq (.type "type")&&W.subIn K (.ref D) (.ref c)==zhq false))))
theorem kit_is{D c:zht}{y:Bool}(h:isB K D c y=true):W.kitOne K (.ref D) (.ref c)=zhq y:=by
 cases y with
 |true =>
  simp only[isB,zcw,zhb,zdq,zha] at h
  have:D=c:=Nat.eq_of_beq_eq_true h
  subst this
  exact kit_self
 |false =>
  simp only[isB,zdq,Bool.not_false,zcw,zgg,zaz,beq_iff_eq] at h
  obtain⟨ne,hs,t,s⟩:=h
  obtain⟨cd,hc⟩:=zcb.mp hs
  refine kit_no hc t s λ z=>?_
  subst z
  simp at ne
def kindB(K:W.Frag)(D:zht)(cs:List (zht×Bool)):Bool:=exkB K D&&(W.kitMeta "ValueError"&&(W.subIn K (.ref D) (.type "ValueError")==zhq true&&cs.all λ c=>isB K D c.1 c.2))
structure Kd(K:W.Frag)(D:zht)(cs:List (zht×Bool)):Prop where
 ek:ExK K D
 kv:W.kitOne K (.ref D) (.type "ValueError")=zhq true
 ks:∀c∈cs,W.kitOne K (.ref D) (.ref c.1)=zhq c.2
theorem kd_of{D:zht}{cs:List (zht×Bool)}(h:kindB K D cs=true):Kd K D cs:=by
 simp only[kindB,zaz,beq_iff_eq] at h
 obtain⟨a,b,c,d⟩:=h
 exact⟨exk_of a,kit_ty b c,λ c hc=>kit_is (zbl.mp d c hc)⟩
theorem qhw9:zij "ValueError"=zhq (.type "ValueError"):=by decide +kernel
structure Mgs(mg:Str->Option zhs)(cb cn cp cr ct cx cw cm co:zht):Prop where
 ve:mg "ValueError"=zhr
 b:mg "NoBoard"=zhq (.ref cb)
 n:mg "NoNet"=zhq (.ref cn)
 p:mg "NoPlace"=zhq (.ref cp)
 r:mg "NoRoad"=zhq (.ref cr)
 t:mg "NoTurn"=zhq (.ref ct)
 x:mg "NoText"=zhq (.ref cx)
 w:mg "NoRow"=zhq (.ref cw)
 m:mg "NoName"=zhq (.ref cm)
 o:mg "NoWindow"=zhq (.ref co)
def BadT(K:W.Frag)(H:Hp)(z:V):Prop:=NoStr K H z\/∃x:Str,z=.str x/\Tx x/\netB x=false
theorem NoStr.same{z:V}(h:NoStr K H z)(s:Same H H'):NoStr K H' z:=by
 obtain⟨t,a,b⟩:=h
 refine⟨t,?_,b⟩
 cases a with
 |non=>exact .non
 |bl x=>exact .bl x
 |int i=>exact .int i
 |str x=>exact .str x
 |flt x=>exact .flt x
 |lst e=>exact .lst (s _ _ e)
 |frz e=>exact .frz (s _ _ e)
 |tup e=>exact .tup (s _ _ e)
 |dK e=>exact .dK (s _ _ e)
 |dT e=>exact .dT (s _ _ e)
 |ins e cl ha hn htk hm=>exact .ins (s _ _ e) (by assumption) (by assumption) (by assumption) (by assumption) (by assumption)
theorem BadT.same{K:W.Frag}{H H':Hp}{z:V}(h:BadT K H z)(s:Same H H'):BadT K H' z:=h.imp (λ h=>h.same s) id
inductive spDIN(K:W.Frag)(CT:zht)(vs:List V)(H:Hp)(z2q:VK)(E:XK):Prop
 |mk (x:zht) (z:V):vs=[.ref x,z]->BadT K H z->(∀H',Same H H'->E (.ref CT) zhr H')->spDIN K CT vs H z2q E
inductive spNoDesk(K:W.Frag)(vs:List V)(H:Hp)(Q:VK)(z3q:XK):Prop
 |mk (z:V):vs=[z]->BadT K H z->(∀H',Same H H'->Q (.bl true) H')->spNoDesk K vs H Q z3q
section
variable {w:zhy}{f:zht}{CT:zht}{bmF:List zhs}
theorem ok_dIN(F:FunD K "__init__" "Desk.__init__" qaw9 f fd)(CX_read_net:CalleeX P w K mg base n "read_net" ["text"] (spNetN K CT)):FnOk P w K mg base (CXE P w) (n+1) f fd ["self","text"] (spDIN K CT):=by
 refine F.okX sc_Desk___init__ (λ vs H Q E h=>?_) (λ cdv A outer s H vs Q E hr h=>?_)
 ·obtain⟨_,_,rfl,_⟩:=h
  rfl
 obtain⟨x,z,rfl,bad,q⟩:=h
 refine⟨_,(qaa9 (qak9 (i:=2) sc_Desk___init__.nd rfl (zai rfl) (qe_fnX CX_read_net hr rfl passE (qa_c (qv 1) qac9))) (qaa9 (qpv9 (qv 0) (qe_ix qas9 (qv 2) qaf9 (λ _ _=>rfl))) (qaa9 (qpv9 (qv 0) (qe_ix qas9 (qv 2) qaf9 (λ _ _=>rfl))) (qae9 (qpv9 (qv 0) (qe_ix qas9 (qv 2) qaf9 (λ _ _=>rfl))))))),?_⟩
 walk_at "d"
 refine⟨_,rfl,z,rfl,?_⟩
 rcases bad with h|⟨y,rfl,ty,nb⟩
 ·exact .inl ⟨h,q _ (Same.refl _)⟩
 ·exact .inr ⟨y,rfl,ty,nb,q⟩
theorem ok_nodesk(ms:Mgs mg cb cn cp cr ct cx cw cm co)(X_FordError:ExC K CF bmF/\mg "FordError"=zhq (.ref CF))(xT:ExC K cx bm)(subT:(zhs.ref cx::bm).contains (.ref CF)=true)(kd:Kd K cx [(cx,true),(cw,false)])(F:Fun K "_law_no_desk" "_law_no_desk" qci9 f fd)(B:Bl mg)(KX_Desk:KCalX P w K mg base n "Desk" C ["self","text"] (spDIN K cx)):FnOk P w K mg base CX0 (n+2) f fd ["text"] (spNoDesk K):=by
 refine F.okQ sc__law_no_desk (λ vs H Q E h=>?_) (λ cdv A outer s H vs Q E hr h=>?_)
 ·obtain⟨_,rfl,_⟩:=h
  rfl
 obtain⟨z,rfl,bad,q⟩:=h
 refine⟨_,(qaa9 (qak9 (i:=1) sc__law_no_desk.nd rfl (zai rfl) qbr9) (qaa9 (qtg9 (i:=2) (qsx_expr (qex_make KX_Desk hr rfl (qa_c (qv 0) qac9))) X_FordError.1 rfl X_FordError.2 own0 (λ _=>(qae9 (qak9 (i:=1) sc__law_no_desk.nd rfl (zai rfl) (qv 2)))) sc__law_no_desk.nd rfl rfl) (qae9 (qam9 (qpc9 (qe_cb qbk9 rfl B.isinstance qap9 (qa_c (qv 1) (qa_c (qie9 rfl ms.x) qac9))) (qpc9 (qe_cb qbk9 rfl B.isinstance qap9 (qa_c (qv 1) (qa_c (qe_tyB rfl ms.ve qhw9) qac9))) (qlw9 (qe_not (qe_cb qbk9 rfl B.isinstance qap9 (qa_c (qv 1) (qa_c (qie9 rfl ms.w) qac9))))))))))),?_⟩
 walk_at "d"
 refine⟨λ cls _ H'=>cls=.ref cx/\Same H H',cx,bm,?_,λ cls H' z=>z.1,xT,subT,?_⟩
 ·refine⟨_,rfl,λ x dx hx hdx ne=>?_⟩
  have s1:Same H (upd (upd H dx (.own x)) x (.ins C dx [])):=(qbc9 hdx _).trans (qbc9 (by rw[qao9 ne.symm];exact hx) _)
  exact⟨x,z,rfl,bad.same s1,λ H' s'=>⟨rfl,s1.trans s'⟩⟩
 intro a H2 z9 ha;obtain⟨_,s2⟩ := z9
 have s3:Same H2 (upd H2 a (.ext (ExQ a cx))):=qbc9 ha _
 have e3:upd H2 a (.ext (ExQ a cx)) a=zhq (.ext (ExQ a cx)):=qaj9
 generalize upd H2 a (.ext (ExQ a cx))=H3 at *
 have k1:W.kitOne K (.ref cx) (.ref cx)=zhq true:=kd.ks (cx,true) (by simp)
 have k2:W.kitOne K (.ref cx) (.ref cw)=zhq false:=kd.ks (cw,false) (by simp)
 refine⟨_,rfl,?_⟩
 refine⟨_,rfl,a,cx,_,true,rfl,e3,kd.ek,.inl ⟨_,rfl,k1⟩,_,rfl,iteT ?_⟩
 refine⟨_,rfl,a,cx,_,true,rfl,e3,kd.ek,.inl ⟨_,rfl,kd.kv⟩,_,rfl,iteT ?_⟩
 refine⟨_,rfl,a,cx,_,false,rfl,e3,kd.ek,.inl ⟨_,rfl,k2⟩,_,rfl,?_⟩
 exact q H3 (s2.trans s3)
end
abbrev due85(cb cn cp cr ct cx cw cm co:zht)(b1 b2 b3:Bool):List (zht×Bool):=[(cb,false),(cn,false),(cp,false),(cr,false),(cx,false),(ct,false),(cw,b1),(cm,b2),(co,b3)]
def Is3(cw cm co c:zht)(b1 b2 b3:Bool):Prop:=(c=cw/\b1=true/\b2=false/\b3=false)\/(c=cm/\b1=false/\b2=true/\b3=false)\/(c=co/\b1=false/\b2=false/\b3=true)
def refF(c:zht)(b1 b2 b3:Bool)(Q:VK):XK:=λ cls _ H'=>cls=.ref c/\∀(l:zht)(H2:Hp),Same H' H2->H2 l=zhq (.tup [.bl true,.bl false,.bl b1,.bl b2,.bl b3])->Q (.ref l) H2
inductive spSaidF(K:W.Frag)(C cw cm co:zht)(R:List RowE)(vs:List V)(H:Hp)(Q:VK)(z3q:XK):Prop
 |mk (c:zht) (b1 b2 b3:Bool):Is3 cw cm co c b1 b2 b3->(∀(Q':VK)(E':XK),(∀v H',Q v H'->Q' v H')->(∀cls H',refF c b1 b2 b3 Q cls zhr H'->E' cls zhr H')->spOr (spSayE C R) (spSayN K C cw cm) vs H Q' E')->spSaidF K C cw cm co R vs H Q z3q
theorem qpg9{R:List RowE}(s:Same H H1)(h:spSayE C R vs H Q E):spSayE C R vs H1 Q E:=by
 obtain⟨x,d,ns,M,e,ps,rfl,he,ek,hok,l8,dk,hin,ln,q⟩:=h
 exact⟨x,d,ns,M,e,ps,rfl,he,ek,hok,l8,dk.same s,hin,ln,λ pl pv us H' s'=>q pl pv us H' (s.trans s')⟩
theorem qoz9(s:Same H H1)(hm:∀H',Same H H'->E (.ref cw) zhr H->E (.ref cw) zhr H')(h:spSayN K C cw cm vs H Q E):spSayN K C cw cm vs H1 Q E:=by
 obtain⟨x,z,d,ns,M,rfl,dk,d2,ln,h⟩:=h
 refine⟨x,z,d,ns,M,rfl,dk.same s,d2,ln,?_⟩
 rcases h with⟨ns,q⟩|⟨y,u,ws,e1,e2,e3,h⟩
 ·exact .inl ⟨ns.same s,hm _ s q⟩
 ·refine .inr ⟨y,u,ws,e1,e2,e3,?_⟩
  rcases h with⟨no,q⟩|⟨zs,a,b,c,q⟩
  ·exact .inl ⟨no,λ H' s'=>q H' (s.trans s')⟩
  ·exact .inr ⟨zs,a,b,c,λ H' s'=>q H' (s.trans s')⟩
theorem or_same{R:List RowE}(s:Same H H1)(hm:∀H',Same H H'->E (.ref cw) zhr H->E (.ref cw) zhr H')(h:spOr (spSayE C R) (spSayN K C cw cm) vs H Q E):spOr (spSayE C R) (spSayN K C cw cm) vs H1 Q E :=
 h.imp (qpg9 s) (qoz9 s hm)
section
variable {w:zhy}{f:zht}{bmF:List zhs}{R:List RowE}
theorem qsv9(h:spOr (spSayE C R) (spSayN K C cw cm) vs H Q E):∃x row,vs=[.ref x,row]/\∃dx pn pd d,H x=zhq (.ins C dx (dfs d pn pd)):=by
 rcases h with⟨x,d,_,_,_,_,rfl,_,_,_,_,dk,_⟩|⟨x,z,d,_,_,rfl,dk,_⟩
 ·obtain⟨dx,pn,pr,hx,_⟩:=dk.ex
  exact⟨_,_,rfl,dx,pn,pr,d,hx⟩
 ·obtain⟨dx,pn,pr,hx,_⟩:=dk.ex
  exact⟨_,_,rfl,dx,pn,pr,d,hx⟩
theorem ok_saidF(ms:Mgs mg cb cn cp cr ct cx cw cm co)(X_FordError:ExC K CF bmF/\mg "FordError"=zhq (.ref CF))(sd:∀c b1 b2 b3,Is3 cw cm co c b1 b2 b3->Kd K c (due85 cb cn cp cr ct cx cw cm co b1 b2 b3)/\∃bm,ExC K c bm/\(zhs.ref c::bm).contains (.ref CF)=true)(F:Fun K "_law_said" "_law_said" qdy9 f fd)(B:Bl mg)(MX_say:MCalX P w K mg base n C "say" ["self","row"] (spOr (spSayE C R) (spSayN K C cw cm))):FnOk P w K mg base CX0 (n+1) f fd ["desk","row"] (spSaidF K C cw cm co R):=by
 refine F.okQ sc__law_said (λ vs H Q E h=>?_) (λ cdv A outer s H vs Q E hr h=>?_)
 ·obtain⟨c,b1,b2,b3,i3,h⟩:=h
  obtain⟨_,_,rfl,_⟩:=qsv9 (h (λ _ _=>True) (λ _ _ _=>True) (λ _ _ _=>trivial) λ _ _ _=>trivial)
  rfl
 obtain⟨c,b1,b2,b3,i3,h⟩:=h
 obtain⟨x,row,rfl,dx,pn,pd,d,hx⟩:=qsv9 (h (λ _ _=>True) (λ _ _ _=>True) (λ _ _ _=>trivial) λ _ _ _=>trivial)
 obtain⟨kd,bm,xW,subW⟩:=sd c b1 b2 b3 i3
 refine⟨_,(qaa9 (qak9 (i:=2) sc__law_said.nd rfl (zai rfl) (qbn9 qac9)) (qaa9 (qak9 (i:=3) sc__law_said.nd rfl (zai rfl) qbr9) (qaa9 (qtg9 (i:=4) (qsx_set (i:=2) sc__law_said.nd rfl (zai rfl) (qex_meth MX_say hr (qv 0) (qa_c (qv 1) qac9))) X_FordError.1 rfl X_FordError.2 own0 (λ _=>(qae9 (qak9 (i:=3) sc__law_said.nd rfl (zai rfl) (qv 4)))) sc__law_said.nd rfl rfl) (qaa9 (qs_if (qcw9 (qv 3)) (qae9 (qam9 (qv 2))) qan9) (qaa9 (qak9 (i:=5) sc__law_said.nd rfl (zai rfl) (qe_or (qe_cb qbk9 rfl B.isinstance qap9 (qa_c (qv 3) (qa_c (qie9 rfl ms.b) qac9))) (qe_or (qe_cb qbk9 rfl B.isinstance qap9 (qa_c (qv 3) (qa_c (qie9 rfl ms.n) qac9))) (qlw9 (qe_cb qbk9 rfl B.isinstance qap9 (qa_c (qv 3) (qa_c (qie9 rfl ms.p) qac9))))))) (qaa9 (qak9 (i:=5) sc__law_said.nd rfl (zai rfl) (qe_or (qv 5) (qe_or (qe_cb qbk9 rfl B.isinstance qap9 (qa_c (qv 3) (qa_c (qie9 rfl ms.r) qac9))) (qe_or (qe_cb qbk9 rfl B.isinstance qap9 (qa_c (qv 3) (qa_c (qie9 rfl ms.x) qac9))) (qlw9 (qe_cb qbk9 rfl B.isinstance qap9 (qa_c (qv 3) (qa_c (qie9 rfl ms.t) qac9)))))))) (qaa9 (qak9 (i:=6) sc__law_said.nd rfl (zai rfl) (qbn9 (qa_c (qe_cb qbk9 rfl B.isinstance qap9 (qa_c (qv 3) (qa_c (qie9 rfl ms.w) qac9))) (qa_c (qe_cb qbk9 rfl B.isinstance qap9 (qa_c (qv 3) (qa_c (qie9 rfl ms.m) qac9))) (qa_c (qe_cb qbk9 rfl B.isinstance qap9 (qa_c (qv 3) (qa_c (qie9 rfl ms.o) qac9))) qac9))))) (qae9 (qam9 (qe_op qmi9 (qbn9 (qa_c (qe_cb qbk9 rfl B.isinstance qap9 (qa_c (qv 3) (qa_c (qe_tyB rfl ms.ve qhw9) qac9))) (qa_c (qv 5) qac9))) (qv 6))))))))))),?_⟩
 walk_at "d"
 refine⟨(by show 0<=zhu;decide),λ p0 hp0=>?_⟩
 generalize hgH1:upd _ p0 _=H1
 revert H1
 refine qal9 hp0 λ H1 s1 e1=>?_
 refine⟨λ cls _ H'=>refF c b1 b2 b3 Q cls zhr H',c,bm,?_,λ cls H' z=>z.1,xW,subW,?_⟩
 ·refine⟨_,rfl,x,dx,_,rfl,s1 _ _ hx,rfl,_,rfl,?_⟩
  refine or_same s1 (λ H' s' q=>?_) (h _ _ (λ v H' q=>?_) (λ cls H' q=>q))
  ·exact⟨q.1,λ l H2 s2=>q.2 l H2 (s'.trans s2)⟩
  ·exact⟨_,rfl,_,rfl,iteP (by rfl) ⟨_,rfl,q⟩⟩
 intro a H2 z9 ha;obtain⟨_,q⟩ := z9
 have s2:Same H2 (upd H2 a (.ext (ExQ a c))):=qbc9 ha _
 have e2:upd H2 a (.ext (ExQ a c)) a=zhq (.ext (ExQ a c)):=qaj9
 generalize upd H2 a (.ext (ExQ a c))=H3 at *
 have k1:W.kitOne K (.ref c) (.ref cb)=zhq false:=kd.ks (cb,false) (by simp)
 have k2:W.kitOne K (.ref c) (.ref cn)=zhq false:=kd.ks (cn,false) (by simp)
 have k3:W.kitOne K (.ref c) (.ref cp)=zhq false:=kd.ks (cp,false) (by simp)
 have k4:W.kitOne K (.ref c) (.ref cr)=zhq false:=kd.ks (cr,false) (by simp)
 have k5:W.kitOne K (.ref c) (.ref cx)=zhq false:=kd.ks (cx,false) (by simp)
 have k6:W.kitOne K (.ref c) (.ref ct)=zhq false:=kd.ks (ct,false) (by simp)
 have k7:W.kitOne K (.ref c) (.ref cw)=zhq b1:=kd.ks (cw,b1) (by simp)
 have k8:W.kitOne K (.ref c) (.ref cm)=zhq b2:=kd.ks (cm,b2) (by simp)
 have k9:W.kitOne K (.ref c) (.ref co)=zhq b3:=kd.ks (co,b3) (by simp)
 refine⟨_,rfl,?_⟩
 refine⟨_,rfl,_,rfl,iteN (by simp) ?_⟩
 refine⟨_,rfl,a,c,_,false,rfl,e2,kd.ek,.inl ⟨_,rfl,k1⟩,_,rfl,iteF ?_⟩
 refine⟨_,rfl,a,c,_,false,rfl,e2,kd.ek,.inl ⟨_,rfl,k2⟩,_,rfl,iteF ?_⟩
 refine⟨_,rfl,a,c,_,false,rfl,e2,kd.ek,.inl ⟨_,rfl,k3⟩,?_⟩
 refine⟨_,rfl,_,rfl,iteF ?_⟩
 refine⟨_,rfl,a,c,_,false,rfl,e2,kd.ek,.inl ⟨_,rfl,k4⟩,_,rfl,iteF ?_⟩
 refine⟨_,rfl,a,c,_,false,rfl,e2,kd.ek,.inl ⟨_,rfl,k5⟩,_,rfl,iteF ?_⟩
 refine⟨_,rfl,a,c,_,false,rfl,e2,kd.ek,.inl ⟨_,rfl,k6⟩,?_⟩
 refine⟨_,rfl,a,c,_,b1,rfl,e2,kd.ek,.inl ⟨_,rfl,k7⟩,?_⟩
 refine⟨_,rfl,a,c,_,b2,rfl,e2,kd.ek,.inl ⟨_,rfl,k8⟩,?_⟩
 refine⟨_,rfl,a,c,_,b3,rfl,e2,kd.ek,.inl ⟨_,rfl,k9⟩,(by show 3<=zhu;decide),λ l hl=>?_⟩
 generalize hgH4:upd _ l _=H4
 revert H4
 refine qal9 hl λ H4 s4 e4=>?_
 refine⟨_,rfl,a,c,_,true,rfl,s4 _ _ e2,kd.ek,.inl ⟨_,rfl,kd.kv⟩,_,rfl,(by show 2<=zhu;decide),λ l2 hl2=>?_⟩
 generalize hgH5:upd _ l2 _=H5
 revert H5
 refine qal9 hl2 λ H5 s5 e5=>?_
 refine⟨_,rfl,l2,l,_,_,rfl,rfl,SqT.of e5,SqT.of (s5 _ _ e4),by simp,L.le (by simp),λ z=>(by cases z),λ _ l3 hl3=>?_⟩
 generalize hgH6:upd _ l3 _=H6
 revert H6
 refine qal9 hl3 λ H6 s6 e6=>?_
 exact q l3 H6 (s2.trans (s4.trans (s5.trans s6))) e6
end
theorem pNum_num{n:Int}(h0:0<=n)(hl:(numT n).length<=m):pNum m (numT n)=zhq n:=by
 have l:(numT n).cps.toList.length=(numT n).length:=by simp[zbm]
 have l1:=num_ne h0
 have hv:((PySem.NumText.digitsVal (numT n).cps.toList:Nat):Int)=n:=by
  rw[qli9 h0,W.KIN.val_back]
  omega
 have hs:qou9 figT (numT n)=true:=all_sg.mpr λ c hc=>fig_in (qis9 h0 c hc)
 have hb:numB m (numT n)=true:=by
  unfold numB
  rw[hs,decide_eq_true (show 1<=(numT n).length/\(numT n).length<=m from⟨⋯,hl⟩)]
  by_cases h1:1<(numT n).length
  ·obtain⟨c,hc,n48⟩:=qos9 h0 h1
   rw[<- zcg] at hc
   have:(numT n).cps.toList.head?=zhq c:=by
    rw[List.head?_eq_getElem?]
    exact hc
   rw[this,decide_eq_false (p:=zhq c=zhq 48) (λ z=>n48 (Option.some.inj z))]
   simp
  ·rw[decide_eq_false h1]
   rfl
 unfold pNum
 rw[if_pos hb,hv]
theorem qkk9(h:Low x):nameB x=true:=by
 unfold nameB
 rw[decide_eq_true (show 1<=x.length/\x.length<=8 from⟨h.l1,h.l8⟩),show qou9 letT x=true from all_sg.mpr λ c hc=>let_in (h.all c hc)]
 rfl
theorem qno9{d:Int}{p:Str×Str}:∀{l:List (Str×Str)} (o:Option (List Str)),p∈l->pOne d p=zhr->l.foldl (pStep d) o=zhr
 | [],_,h,_=>by cases h
 |q::l,o,h,e=>by
  rcases zag.mp h with rfl|h
  ·have:pStep d o p=zhr:=by
    unfold pStep
    cases o with
    |none=>rfl
    |some ns=>simp only[e]
   rw[zcq,this]
   exact qjz9 _
  ·show l.foldl (pStep d) (pStep d o q)=zhr
   exact qno9 _ h e
theorem qen9{u:Str}(h:qfc9 u ws=zhr):pRow d u ws=zhr:=by
 unfold pRow
 rw[h]
theorem qdr9{u:Str}(h:qfc9 u ws=zhq ks)(hl:ws.length≠ks.length):pRow d u ws=zhr:=by
 unfold pRow
 rw[h]
 exact if_neg hl
theorem qhr9{u:Str}(k z:Str)(h:qfc9 u ws=zhq ks)(hm:(k,z)∈ks.zip ws)(e:pOne d (k,z)=zhr):pRow d u ws=zhr:=by
 unfold pRow
 rw[h]
 show(if ws.length=ks.length then qfk9 d (ks.zip ws) else zhr)=zhr
 split
 ·exact qno9 _ hm e
 ·rfl
theorem qkz9(h:momB z=false):pOne d ("moment",z)=zhr:=by
 have e:namB "moment"=false:=by decide +kernel
 have v:valB d "moment" z=momB z:=if_pos rfl
 unfold pOne
 simp only[e,v,h]
 rfl
theorem one_turns(h:turB z=false):pOne d ("turns",z)=zhr:=by
 have e:namB "turns"=false:=by decide +kernel
 have v:valB d "turns" z=turB z:=(if_neg (by decide +kernel)).trans (if_pos rfl)
 unfold pOne
 simp only[e,v,h]
 rfl
theorem qrl9(h:pWin d z=zhr):pOne d ("window",z)=zhr:=by
 have e:namB "window"=false:=by decide +kernel
 have v:valB d "window" z=(pWin d z).isSome:=(if_neg (by decide +kernel)).trans (if_neg (by decide +kernel))
 unfold pOne
 simp only[e,v,h]
 rfl
theorem qrw9(h:nameB z=false):pOne d ("name",z)=zhr:=by
 have e:namB "name"=true:=by decide +kernel
 have v:qix9 "name" z=if nameB z=true then zhq [z] else zhr:=if_neg (by decide +kernel)
 unfold pOne
 simp only[e,v,h]
 rfl
theorem qsb9(h:pEnds z=zhr):pOne d ("road",z)=zhr:=by
 have e:namB "road"=true:=by decide +kernel
 have v:qix9 "road" z=(pEnds z).map λ p=>[p.1,p.2]:=if_pos rfl
 unfold pOne
 simp only[e,v,h]
 rfl
def BadR(d:Int)(y:Str):Prop:=Tx y/\∃(u:Str)(ws:List Str),Txt.split y " "=u::ws/\pRow d u ws=zhr
theorem bad_words{u:Str}(ht:Tx (zbg " " (u::ws)))(hf:∀z∈u::ws,32∉z.cps.toList)(h:pRow d u ws=zhr):BadR d (zbg " " (u::ws)) :=
 ⟨ht,u,ws,qdq9 (c:=32) (cs:=[]) (by decide +kernel) (by simp) (by decide +kernel) (by simp) hf,h⟩
theorem sh3(a b c:Str):qfc9 "soonest" [a,b,c]=zhq (["name","name","moment"]:List Str):=rfl
theorem win_bad(d:Int):∀z∈(["03+1","5-3+1","3-3+1","0+0","0+01","0","+1"]:List Str),pWin d z=zhr:=by
 intro z hz
 simp only[zag,zam,or_false] at hz
 have key:∀z:Str,(match pSpan (Txt.partition z "+").1,pNum 16 (Txt.partition z "+").2.2 with|zhq _,zhq c=>decide (1<=c/\c<=1000000000000000)|_,_=>false)=false->pWin d z=zhr:=λ z h=>by
  unfold pWin
  split
  ·rename_i a b c e1 e2
   rw[e1,e2] at h
   exact if_neg λ g=>of_decide_eq_false h g.1
  ·rfl
 rcases hz with rfl|rfl|rfl|rfl|rfl|rfl|rfl<;>exact key _ (by decide +kernel)
theorem qgv9:∀(n:Nat){L:List Int},L.Nodup->(∀x∈L,0<=x/\x<(n:Int))->L.length<=n
 |0,L,nd,h=>by
  cases L with
  |nil=>exact zaq _
  |cons x L =>
   have:=h x (zan ..)
   omega
 |n+1,L,nd,h=>by
  by_cases hn:(n:Int)∈L
  ·have h1:=qgv9 n (nd.erase (n:Int)) λ x hx=>by
    have h2:=h x (List.mem_of_mem_erase hx)
    have h3:x≠(n:Int):=λ e=>nd.not_mem_erase (e ▸ hx)
    omega
   rw[List.length_erase_of_mem hn] at h1
   omega
  ·have:=qgv9 n nd λ x hx=>by
    have h2:=h x hx
    have h3:x≠(n:Int):=λ e=>hn (e ▸ hx)
    omega
   omega
theorem atI_back{α:Type}{xs:List α}{k:Nat}(h1:1<=k)(h2:k<=xs.length):atI xs (-(k:Int))=xs[xs.length-k]?:=by
 unfold atI ixN
 rw[if_neg ⋯,if_pos ⋯]
 show xs[(-(k:Int)+(xs.length:Int)).toNat]?=_
 congr 1
 omega
def lettersT:Str := "abcdefghijklmnopqrstuvwxyz"
theorem letterB(h0:0<=j)(h1:j<26):atI lettersT.cps.toList j=zhq (97+j.toNat):=by
 obtain⟨k,rfl⟩:=zbz h0
 have all:∀k:Fin 26,lettersT.cps.toList[k.val]?=zhq (97+k.val):=by decide +kernel
 exact qcf9 (all ⟨k,⋯⟩)
def lowS(x:Str):Prop:=∀c∈x.cps.toList,97<=c/\c<=122
theorem lowS.app(h:lowS x)(h':lowS y):lowS (x++y):=λ c hc=>by
 rcases app_mem.mp hc with hc|hc
 ·exact h c hc
 ·exact h' c hc
theorem lowS.one(h:0<=j/\j<26):lowS ⟨#[97+j.toNat]⟩:=λ d hd=>by
 have hd:d∈[97+j.toNat]:=hd
 rw[zae] at hd
 omega
section
variable {w:zhy}{f:zht}
theorem qca9(sep:Str):∀(rest:List Str)(x:Str),zbg sep (x::rest)=rest.foldl (λ acc p=>acc++sep++p) x:=by
 intro rest
 induction rest with
 |nil=>intro x;rfl
 |cons y r ih =>
  intro x
  rw[zcq,<- ih (x++sep++y),StrLaws.join_shift]
  rfl
def rdS(names:List Str)(m:RdT):RoadS:=(nmT names m.1,nmT names m.2.1,m.2.2.2)
def wStep(acc:Str)(w:T3):Str:=acc++" "++winT w
def rStep(names:List Str)(acc:Str)(m:RdT):Str:=m.2.2.2.foldl wStep (acc++"; "++nmT names m.1++">"++nmT names m.2.1)
theorem qnq9{α:Type}(g:α->Str)(sep:Str):∀(l:List α)(x y:Str),l.foldl (λ acc p=>acc++sep++g p) (x++y)=x++l.foldl (λ acc p=>acc++sep++g p) y
 | [],x,y=>rfl
 |p::l,x,y=>by
  rw[zcq,zcq,<- qnq9 g sep l x (y++sep++g p)]
  simp only[zbf]
theorem qsu9(names:List Str)(acc:Str)(m:RdT):rStep names acc m=acc++"; "++rdT (rdS names m):=by
 unfold rStep rdT rdS
 rw[qet9,qca9,zfw]
 have e:wStep=λ acc w=>acc++" "++winT w:=rfl
 rw[e,<- qnq9 winT " "]
 simp only[zbf]
theorem netS_eq(day:Int)(names:List Str)(N:List RdT):N.foldl (rStep names) ("day "++numT day)=netS day (N.map (rdS names)):=by
 have e:rStep names=λ acc m=>acc++"; "++rdT (rdS names m):=by
  funext acc m
  exact qsu9 names acc m
 unfold netS
 rw[qca9,zfw,zfw,e]
inductive spWinTx(vs:List V)(H:Hp)(Q:VK)(z3q:XK):Prop
 |mk (r:zht) (x:T3):vs=[.ref r]->H r=zhq (.tup (enc3 x))->x.1<=x.2.1->Sm x.1->Sm x.2.1->Sm x.2.2->Q (.str (winT x)) H->spWinTx vs H Q z3q
theorem in_ints{x:Int}{ns:List Int}:inV (.int x) (ns.map V.int)=decide (x∈ns):=by
 unfold inV
 rw[zcc,zdc,decide_eq_true_iff]
 constructor
 ·intro z9;obtain⟨y,hy,e⟩ := z9
  obtain⟨z,hz,rfl⟩:=zas.mp hy
  have:z=x:=by simpa [eqV] using e
  exact this ▸ hz
 ·intro h
  exact⟨.int x,zas.mpr ⟨x,h,rfl⟩,by simp[eqV]⟩
theorem flat_ints(ns:List Int):(ns.map V.int).all flatV=true:=by
 rw[zbl]
 intro y hy
 obtain⟨z,_,rfl⟩:=zas.mp hy
 rfl
def OnRd(N:List RdT)(x:Int):Prop:=∃m∈N,x=m.1\/x=m.2.1
end
theorem addS_mem:x∈addS ys z↔x∈ys\/x=z:=by
 unfold addS
 split
 ·exact⟨.inl,λ h=>h.elim id λ e=>by rw[e];assumption⟩
 ·simp
theorem qld9(h:ys.Nodup):(addS ys z).Nodup:=by
 unfold addS
 split
 ·exact h
 ·rename_i c
  refine zcx.mpr ⟨h,by simp,λ a ha b hb e=>c ?_⟩
  rw[zae] at hb
  rw[<- hb,<- e]
  exact ha
theorem qgz9(h:x∈ys):(addS ys z).idxOf x=ys.idxOf x:=by
 unfold addS
 split
 ·rfl
 ·rw[zez,if_pos h]
structure RdNb(L:List RoadS)(st:List Str×List (Int×Int×List T3)):Prop where
 nd:st.1.Nodup
 mem:∀x,x∈st.1↔∃q∈L,x=q.1\/x=q.2.1
 eq:st.2=L.map λ q=>(((st.1.idxOf q.1:Nat):Int),((st.1.idxOf q.2.1:Nat):Int),q.2.2)
theorem RdNb.step{L:List RoadS}{st:List Str×List (Int×Int×List T3)}{q:RoadS}(h:RdNb L st):RdNb (L++[q]) (qjc9 st q):=by
 have m1:∀x∈st.1,x∈addS st.1 q.1:=λ x hx=>addS_mem.mpr (.inl hx)
 have m2:q.1∈addS st.1 q.1:=addS_mem.mpr (.inr rfl)
 refine⟨qld9 (qld9 h.nd),λ x=>?_,?_⟩
 ·show x∈addS (addS st.1 q.1) q.2.1↔_
  rw[addS_mem,addS_mem,h.mem]
  constructor
  ·rintro((⟨r,hr,e⟩|e)|e)
   ·exact⟨r,zbi _ hr,e⟩
   ·exact⟨q,by simp,.inl e⟩
   ·exact⟨q,by simp,.inr e⟩
  ·intro z9;obtain⟨r,hr,e⟩ := z9
   rcases zak.mp hr with hr|hr
   ·exact .inl (.inl ⟨r,hr,e⟩)
   ·rw[zae] at hr
    subst hr
    exact e.elim (λ e=>.inl (.inr e)) .inr
 ·show st.2++_=_
  rw[zaj,h.eq]
  congr 1
  ·refine zej λ r hr=>?_
   have a1:r.1∈st.1:=(h.mem _).mpr ⟨r,hr,.inl rfl⟩
   have a2:r.2.1∈st.1:=(h.mem _).mpr ⟨r,hr,.inr rfl⟩
   show _=((((addS (addS st.1 q.1) q.2.1).idxOf r.1:Nat):Int),(((addS (addS st.1 q.1) q.2.1).idxOf r.2.1:Nat):Int),r.2.2)
   rw[qgz9 (m1 _ a1),qgz9 (m1 _ a2),qgz9 a1,qgz9 a2]
  ·show [_]=[((((addS (addS st.1 q.1) q.2.1).idxOf q.1:Nat):Int),(((addS (addS st.1 q.1) q.2.1).idxOf q.2.1:Nat):Int),q.2.2)]
   rw[qgz9 m2]
theorem rd_ok(L:List RoadS):RdNb L (rdAll L):=by
 have go:∀(L L0:List RoadS) (st:List Str×List (Int×Int×List T3)),RdNb L0 st->RdNb (L0++L) (L.foldl qjc9 st):=by
  intro L
  induction L with
  |nil=>intro L0 st h;simpa using h
  |cons q L ih =>
   intro L0 st h
   have:=ih (L0++[q]) (qjc9 st q) h.step
   rw[zck,List.singleton_append] at this
   exact this
 exact go L [] ([],[]) ⟨by simp,by simp,rfl⟩
theorem idx_inj{ns:List Str}(hx:x∈ns)(h:ns.idxOf x=ns.idxOf y):x=y:=by
 have lx:=zbu hx
 have e1:ns[ns.idxOf x]=x:=zdf lx
 have e2:ns[ns.idxOf y]'⋯=y:=zdf ⋯
 rw[<- e1,<- e2]
 congr 1
theorem qgk9{i:Int}(h0:0<=i)(h1:i<names.length):nmT names i∈names:=by
 unfold nmT
 rw[zbn,zad ⋯]
 exact zbs _
theorem nm_inj(nd:names.Nodup){i:Int}(i0:0<=i)(i1:i<names.length)(j0:0<=j)(j1:j<names.length)(h:nmT names i=nmT names j):i=j:=by
 unfold nmT at h
 rw[zbn,zad ⋯,zbn,zad ⋯] at h
 have h:names[i.toNat]'⋯=names[j.toNat]'⋯:=h
 have e:i.toNat=j.toNat:=(zfa ⋯ nd).mp (by rw[zad ⋯,zad ⋯,h])
 omega
structure Ren(names ns:List Str)(N M:List RdT):Prop where
 nd:names.Nodup
 rng:∀m∈N,(0<=m.1/\m.1<(names.length:Int))/\(0<=m.2.1/\m.2.1<(names.length:Int))
 n2:ns.Nodup
 mem:∀x,x∈ns↔∃m∈N,x=nmT names m.1\/x=nmT names m.2.1
 eq:M.map strip=N.map λ m=>(((ns.idxOf (nmT names m.1):Nat):Int),((ns.idxOf (nmT names m.2.1):Nat):Int),m.2.2.2)
theorem ren_of(nd:names.Nodup)(rng:∀m∈N,(0<=m.1/\m.1<(names.length:Int))/\(0<=m.2.1/\m.2.1<(names.length:Int)))(e:M.map strip=(rdAll (N.map (rdS names))).2):Ren names (rdAll (N.map (rdS names))).1 N M:=by
 have ok:=rd_ok (N.map (rdS names))
 refine⟨nd,rng,ok.nd,λ x=>?_,?_⟩
 ·rw[ok.mem]
  constructor
  ·intro z9;obtain⟨q,hq,e⟩ := z9
   obtain⟨m,hm,rfl⟩:=zas.mp hq
   exact⟨m,hm,e⟩
  ·intro z9;obtain⟨m,hm,e⟩ := z9
   exact⟨_,zas.mpr ⟨m,hm,rfl⟩,e⟩
 ·rw[e,ok.eq,zcl]
  rfl
section
variable {ns:List Str}
def Ren.f(_:Ren names ns N M)(x:Int):Nat:=ns.idxOf (nmT names x)
theorem Ren.on(h:Ren names ns N M){x:Int}(o:OnRd N x):nmT names x∈ns/\0<=x/\x<(names.length:Int):=by
 obtain⟨m,hm,e⟩:=o
 have r:=h.rng m hm
 rcases e with rfl|rfl
 ·exact⟨(h.mem _).mpr ⟨m,hm,.inl rfl⟩,r.1⟩
 ·exact⟨(h.mem _).mpr ⟨m,hm,.inr rfl⟩,r.2⟩
theorem Ren.lt(h:Ren names ns N M){x:Int}(o:OnRd N x):h.f x<ns.length:=zbu (h.on o).1
theorem Ren.inj(h:Ren names ns N M){x y:Int}(ox:OnRd N x)(oy:OnRd N y)(e:h.f x=h.f y):x=y:=by
 have a:=h.on ox
 have b:=h.on oy
 exact nm_inj h.nd a.2.1 a.2.2 b.2.1 b.2.2 (idx_inj a.1 e)
theorem Ren.len(h:Ren names ns N M):ns.length<=names.length:=by
 have sub:∀x∈ns,x∈names:=λ x hx=>by
  obtain⟨m,hm,e⟩:=(h.mem x).mp hx
  have r:=h.rng m hm
  rcases e with rfl|rfl
  ·exact qgk9 r.1.1 r.1.2
  ·exact qgk9 r.2.1 r.2.2
 have:=qgv9 names.length (L:=ns.map λ z=>((names.idxOf z:Nat):Int)) (by
  refine zgh.mpr (h.n2.imp_of_mem λ {a b} ha _ ne e=>ne (idx_inj (sub a ha) ?_))
  omega) (λ x hx=>by
  obtain⟨z,hz,rfl⟩:=zas.mp hx
  have:=zbu (sub z hz)
  omega)
 rw[zac] at this
 exact this
theorem Ren.to(h:Ren names ns N M){m:RdT}(hm:m∈N):∃m'∈M,m'.1=(h.f m.1:Int)/\m'.2.1=(h.f m.2.1:Int)/\m'.2.2.2=m.2.2.2:=by
 have:(((ns.idxOf (nmT names m.1):Nat):Int),((ns.idxOf (nmT names m.2.1):Nat):Int),m.2.2.2)∈M.map strip:=by
  rw[h.eq]
  exact zas.mpr ⟨m,hm,rfl⟩
 obtain⟨m',hm',e⟩:=zas.mp this
 simp only[strip,Prod.mk.injEq] at e
 exact⟨m',hm',e⟩
theorem Ren.of(h:Ren names ns N M){m':RdT}(hm:m'∈M):∃m∈N,m'.1=(h.f m.1:Int)/\m'.2.1=(h.f m.2.1:Int)/\m'.2.2.2=m.2.2.2:=by
 have:strip m'∈M.map strip:=zas.mpr ⟨m',hm,rfl⟩
 rw[h.eq] at this
 obtain⟨m,hm',e⟩:=zas.mp this
 simp only[strip,Prod.mk.injEq] at e
 exact⟨m,hm',e.1.symm,e.2.1.symm,e.2.2.symm⟩
theorem Ren.lenM(h:Ren names ns N M):M.length=N.length:=by
 have:=congrArg zeh h.eq
 rw[zac,zac] at this
 exact this
end
def cut7(x:Str):Str:=Txt.slice x zhr (zhq 7)
theorem qkb9(x:Str):(cut7 x).cps.toList=x.cps.toList.take 7:=qmt9 (by decide)
theorem qjf9(x:Str):x.length=x.cps.toList.length:=by simp[zbm]
theorem qlv9(x:Str):(cut7 x).length=min 7 x.length:=by
 rw[qjf9,qkb9,zbd,qjf9]
theorem cut7_id(h:x.length<=7):cut7 x=x:=qcz9 (by
 rw[qkb9,zby (by rw[<- qjf9];exact h)])
theorem lowS.cut7(h:lowS x):lowS (cut7 x):=λ c hc=>h c (by
 rw[qkb9] at hc
 exact zcu hc)
theorem three_in{α:Type}{a b c:α}{l:List α}(ha:a∈l)(hb:b∈l)(hc:c∈l)(ab:a≠b)(ac:a≠c)(bc:b≠c):3<=l.length:=by
 match l,ha,hb,hc with
 | [x],ha,hb,hc =>
  rw[zae] at ha hb
  exact absurd (ha.trans hb.symm) ab
 | [x,y],ha,hb,hc =>
  simp only[zag,zam,or_false] at ha hb hc
  rcases ha with ha|ha<;>rcases hb with hb|hb<;>rcases hc with hc|hc
  all_goals first|exact absurd (ha.trans hb.symm) ab|exact absurd (ha.trans hc.symm) ac|exact absurd (hb.trans hc.symm) bc
 |x::y::z::l,_,_,_=>simp
theorem rd_strs{K:W.Frag}{H:Hp}:∀xs:List Str,RdAll K H (xs.map V.str) (xs.map zhw.str)
 | []=>.nil
 |x::xs=>.cons (.str _) (rd_strs xs)
theorem lowS.ok(h:lowS x):zhw.strOk x=true:=by
 unfold zhw.strOk
 rw[Array.all_eq_true']
 intro c hc
 have:=h c (zef.mpr hc)
 exact decide_eq_true ⋯
theorem qpp9{xs:List Str}(h:∀x∈xs,zhw.strOk x=true):SeqAt.shaped (.list (xs.map zhw.str))=true:=by
 have h1:zhw.canLayAll0 (xs.map zhw.str)=true:=by
  induction xs with
  |nil=>simp[zhw.canLayAll0]
  |cons x xs ih =>
   have hx:=h x (zan ..)
   have hr:=ih λ y hy=>h y (zal _ hy)
   simp[zhw.canLayAll0,zhw.canLay0,hx,hr]
 have h2:zhw.depthAll (xs.map zhw.str)=0:=by
  clear h h1
  induction xs with
  |nil=>simp[zhw.depthAll]
  |cons x xs ih=>simp[zhw.depthAll,zhw.depth,ih]
 show(zhw.canLay0 (.list (xs.map zhw.str))&&decide (zhw.depth (.list (xs.map zhw.str))<=64))=true
 simp only[zhw.canLay0,zhw.depth,h1,h2]
 decide
def Tried(ah:List Str)(x:Str):Nat->Prop
 |0=>x.length<=7
 |1=>∃y∈ah,y.length<=7/\x=y++(⟨#[97]⟩:Str)
 |2=>∃y∈ah,y.length<=7/\y++(⟨#[97]⟩:Str)∈ah/\x=cut7 (y++(⟨#[97]⟩:Str))++(⟨#[98]⟩:Str)
 |_=>False
theorem qor9(c:Nat):(⟨#[c]⟩:Str).length=1:=rfl
theorem Tried.next{ah:List Str}(l2:ah.length<=2)(h:Tried ah x i)(hx:x∈ah)(hc:lettersT.cps[i]?=zhq c):Tried ah (cut7 x++(⟨#[c]⟩:Str)) (i+1):=by
 match i,h with
 |0,h =>
  have h:x.length<=7:=h
  have:lettersT.cps[0]?=zhq 97:=by decide +kernel
  rw[this] at hc
  cases hc
  exact⟨x,hx,h,by rw[cut7_id h]⟩
 |1,⟨y,hy,ly,e⟩ =>
  have:lettersT.cps[1]?=zhq 98:=by decide +kernel
  rw[this] at hc
  cases hc
  exact⟨y,hy,ly,e ▸ hx,by rw[e]⟩
 |2,⟨y,hy,ly,h1,e⟩ =>
  have n1:y≠y++(⟨#[97]⟩:Str):=λ z=>by
   have:=congrArg zbm z
   rw[zaa,qor9] at this
   omega
  have n2:y≠x:=λ z=>by
   have:=congrArg zbm z
   rw[e,zaa,qlv9,zaa,qor9,qor9] at this
   omega
  have n3:y++(⟨#[97]⟩:Str)≠x:=λ z=>by
   rw[e] at z
   have:=congrArg (λ s:Str=>s.cps.toList) z
   simp only[qch9,qkb9] at this
   rcases(by omega:y.length<=6\/y.length=7) with k|k
   ·have this:y.cps.toList++[97]=(y.cps.toList++[97]).take 7++[98]:=this
    have:=congrArg zeh this
    rw[qjf9] at k
    simp only[zap,zbd,zbb,List.length_nil] at this
    omega
   ·have this:y.cps.toList++[97]=(y.cps.toList++[97]).take 7++[98]:=this
    rw[qjf9] at k
    rw[List.take_append_of_le_length ⋯,zby ⋯] at this
    have:=zey this
    cases this
  have:=three_in hy h1 hx n1 n2 n3
  omega
inductive spWord8(vs:List V)(H:Hp)(Q:VK)(z3q:XK):Prop
 |mk (cell:Int) (pa:zht) (ah:List Str):vs=[.int cell,.ref pa]->H pa=zhq (.lst (ah.map V.str))->ah.length<=2->((∀x∈ah,Low x))->(∀(x:Str)(H':Hp),Same H H'->Low x->x∉ah->Q (.str x) H')->spWord8 vs H Q z3q
section
variable {w:zhy}{f:zht}
theorem ok_word8(F:Fun K "_law_word" "_law_word" qdx9 f fd)(B:Bl mg):FnOk P w K mg base CX0 (n+1) f fd ["cell","ahead"] spWord8:=by
 refine F.okQ sc__law_word (λ vs H Q E h=>?_) (λ cdv A outer s H vs Q E hr h=>?_)
 ·obtain⟨_,_,_,rfl,_⟩:=h
  rfl
 obtain⟨cell,pa,ah,rfl,ea,l2,lo,q⟩:=h
 refine⟨_,(qaa9 (qak9 (i:=2) sc__law_word.nd rfl (zai rfl) qah9) (qaa9 (qak9 (i:=3) sc__law_word.nd rfl (zai rfl) qah9) (qaa9 (qak9 (i:=4) sc__law_word.nd rfl (zai rfl) (qe_op qbm9 (qv 0) qaf9)) (qaa9 (qeo9 ziq.never rfl (qia9 rfl B.range (qa_c (qe_op qbu9 qaf9 (qe_op qbj9 (qv 0) qaf9)) qac9)) (qat9 (i:=5) sc__law_word.nd rfl (zai rfl)) (qaa9 (qak9 (i:=3) sc__law_word.nd rfl (zai rfl) (qe_op qad9 (qv 3) (qe_ix qsx9 (qv 2) (qe_op qbj9 (qv 4) qaf9) (λ _ _=>rfl)))) (qae9 (qak9 (i:=4) sc__law_word.nd rfl (zai rfl) (qe_op qbm9 (qv 4) qaf9))))) (qob9 (qs_if (qgd9 (QW.pt (qmf9 (qar9 (qlc9 hr.units) (qv 1) (qbi9 qac9) (qbb9 _)) (qir9 (qar9 qef9 (qe_op qbj9 (qe_op qbm9 (qv 0) qaf9) qaf9) qaf9 (qbb9 _)))))) (qae9 (qak9 (i:=3) sc__law_word.nd rfl (zai rfl) (qpl9 (qe_ix qau9 (qv 1) (qe_neg qaf9) (λ _ _=>rfl)) qfi9 (qfh9 qaf9)))) qan9) (qaa9 (qeo9 ziq.never rfl (qth9 (qv 2)) (qat9 (i:=6) sc__law_word.nd rfl (zai rfl)) (qaa9 (qs_if (qar9 qgs9 (qv 3) (qv 1) rfl) (qae9 (qam9 (qv 3))) qan9) (qae9 (qak9 (i:=3) sc__law_word.nd rfl (zai rfl) (qe_op qad9 (qpl9 (qv 3) qfi9 (qfh9 qaf9)) (qv 6)))))) (qae9 (qam9 (qv 3))))))))),?_⟩
 walk_at "d"
 have z7:=qfj9 cell (show(0:Int)<7 by decide)
 have ll:lettersT.length=26:=by decide +kernel
 refine⟨_,rfl,_,_,rfl,rfl,⟨by decide,by decide⟩,?_⟩
 refine⟨_,rfl,_,_,rfl,rfl,(by show(0:Int)<7;decide),_,_,rfl,rfl,1+cell%7,rfl,⋯,⋯,qic9 (lo:=0) (n:=(1+cell%7).toNat)
  (λ i σ H'=>H'=H/\E3q λ(x:Str) (re:Int) (v5:Option V)=>A3q (σ=[sI9 cell,sR9 pa,sS9 lettersT,sS9 x,sI9 re,v5,zhr]) (x.length=i) (lowS x))
  ⟨rfl,zbr,_,_,rfl,rfl,λ c hc=>by cases hc⟩ ?_ ?_⟩
 ·intro i σ H' hi z9;obtain⟨rfl,x,re,v5,rfl,xl,xo⟩ := z9
  rw[show(0:Int)+((i:Nat):Int)=(i:Int) by omega]
  have e26:=qfj9 re (show(0:Int)<26 by decide)
  have hc:=letterB e26.1 e26.2
  refine⟨_,rfl,_,rfl,_,rfl,_,_,rfl,rfl,(by show(0:Int)<26;decide),_,_,_,rfl,rfl,L.le (by rw[ll];omega),hc,_,_,rfl,rfl,L.le (by show x.length+1<=_;omega),?_⟩
  refine⟨_,rfl,_,_,rfl,rfl,⟨by decide,by decide⟩,?_⟩
  refine⟨rfl,_,_,_,rfl,?_,xo.app (lowS.one e26)⟩
  rw[zaa,xl]
  rfl
 intro σ H' z9;obtain⟨rfl,x,re,v5,rfl,xl,xo⟩ := z9
 refine⟨λ σ' H2=>Same H' H2/\E1q λ(y:Str)=>A4q (σ'=[sI9 cell,sR9 pa,sS9 lettersT,sS9 y,sI9 re,v5,zhr]) (1<=y.length) (y.length<=7) (lowS y),?_,?_⟩
 ·refine⟨λ b H2=>Same H' H2/\(b=true->ah≠[]),?_,?_⟩
  ·refine⟨_,rfl,(by show 0<=zhu;decide),λ pe hpe=>?_⟩
   generalize hgH2:upd _ pe _=H2
   revert H2
   refine qal9 hpe λ H2 s2 e2=>?_
   refine⟨_,_,.lst (SqL.of (s2 _ _ ea)) (rd_strs ah),.lst (SqL.of e2) .nil,qpp9 λ x hx=>lowS.ok (lo x hx).all,qiy9,_,rfl,ite2 (λ c=>?_) (λ c=>⟨s2,λ z=>(nomatch z)⟩)⟩
   refine⟨_,rfl,_,_,rfl,rfl,⟨by decide,by decide⟩,_,_,rfl,rfl,(by show(0:Int)<5;decide),rfl,_,rfl,s2,λ _ z=>?_⟩
   rw[z] at c
   simp[zhw.eqv,zhw.eqvAll] at c
  intro b H2 z9;obtain⟨s2,hb⟩ := z9
  refine ite2 (λ c=>?_) (λ c=>⟨s2,x,rfl,⋯,⋯,xo⟩)
  have n0:=hb c
  have la:0<ah.length:=by cases ah with|nil=>exact absurd rfl n0|cons _ _=>simp
  have a1:atI (ah.map V.str) (-1)=zhq (.str ah[ah.length-1]):=by
   have:=atI_back (xs:=ah.map V.str) (k:=1) (zaq _) (by rw[zac];omega)
   refine this.trans ?_
   rw[zah,zac,zad ⋯]
   rfl
  have lw:=lo _ (zbs (show ah.length-1<ah.length by omega))
  have l1:=lw.l1
  have l8:=lw.l8
  have lc:=qlv9 ah[ah.length-1]
  exact⟨_,rfl,_,rfl,pa,_,_,_,rfl,rfl,SqL.of (s2 _ _ ea),a1,_,rfl,_,rfl,L.le ⋯,s2,_,rfl,by show 1<=(cut7 _).length;omega,by show(cut7 _).length<=7;omega,lowS.cut7 lw.all⟩
 intro σ' H2 z9;obtain⟨s2,y,rfl,y1,y7,yo⟩ := z9
 refine⟨_,rfl,_,rfl,qif9 (by decide +kernel:∀c∈lettersT.cps.toList,c<128),for_str (λ i σ H4=>H4=H2/\E2q λ(z:Str) (v:Option V)=>A3q (σ=[sI9 cell,sR9 pa,sS9 lettersT,sS9 z,sI9 re,v5,v]) (Low z) (Tried ah z i)) ⟨rfl,y,_,rfl,⟨yo,y1,⋯⟩,y7⟩ ?_ ?_⟩
 ·intro i c σ H4 hc z9;obtain⟨rfl,z,v,rfl,lz,tz⟩ := z9
  refine⟨_,rfl,_,rfl,pa,_,rfl,.inl (SqL.of (s2 _ _ ea)),rfl,qfd9 _,_,rfl,?_⟩
  rw[qjk9]
  by_cases m:z∈ah
  ·rw[decide_eq_true m]
   have lc:=qlv9 z
   have l1:=lz.l1
   have l8:=lz.l8
   have ci:=zef.mpr (Array.mem_of_getElem? hc)
   have cl:97<=c/\c<=122:=(by decide +kernel:∀c∈lettersT.cps.toList,97<=c/\c<=122) c ci
   have ln:(cut7 z++(⟨#[c]⟩:Str)).length=(cut7 z).length+1:=by rw[zaa,qor9]
   refine iteN (by decide) ⟨_,rfl,_,rfl,_,rfl,L.le ⋯,_,rfl,_,_,rfl,rfl,L.le (by show(cut7 z).length+1<=_;omega),rfl,cut7 z++(⟨#[c]⟩:Str),_,rfl,⟨(lowS.cut7 lz.all).app λ d hd=>?_,⋯,⋯⟩,tz.next l2 m hc⟩
   have hd:d∈[c]:=hd
   rw[zae] at hd
   omega
  ·rw[decide_eq_false m]
   exact iteP (by decide) ⟨_,rfl,q z _ s2 lz m⟩
 ·intro σ H4 z9;obtain⟨rfl,z,v,rfl,lz,tz⟩ := z9
  exact tz.elim
inductive spWords8(K:W.Frag)(vs:List V)(H:Hp)(Q:VK)(z3q:XK):Prop
 |mk (a:zht) (ns:List Int) (n:Nat):vs=[.ref a,.int n]->SqL K H a (ns.map V.int)->n<=3->(∀(l:zht)(xs:List Str)(H':Hp),Same H H'->H' l=zhq (.lst (xs.map V.str))->H l=zhr->xs.length=n->(∀x∈xs,Low x)->xs.Nodup->Q (.ref l) H')->spWords8 K vs H Q z3q
theorem ok_words8(F:Fun K "_law_words" "_law_words" qda9 f fd)(B:Bl mg)(Cc0:Callee P w K mg base n "_law_cell_at" ["script","k"] (spCell K))(Cx1:Callee P w K mg base n "_law_word" ["cell","ahead"] spWord8):FnOk P w K mg base CX0 (n+1) f fd ["script","size"] (spWords8 K):=by
 refine F.okQ sc__law_words (λ vs H Q E h=>?_) (λ cdv A outer s H vs Q E hr h=>?_)
 ·obtain⟨_,_,_,rfl,_⟩:=h
  rfl
 obtain⟨a,ns,sz,rfl,hS,n3,q⟩:=h
 refine⟨_,(qaa9 (qak9 (i:=2) sc__law_words.nd rfl (zai rfl) (qbi9 qac9)) (qaa9 (qeo9 ziq.never rfl (qia9 rfl B.range (qa_c (qv 1) qac9)) (qat9 (i:=3) sc__law_words.nd rfl (zai rfl)) (qae9 (qcl9 (qbf9 (qv 2) (qa_c (qe_fn Cx1 hr rfl (qa_c (qe_fn Cc0 hr rfl (qa_c (qv 0) (qa_c (qe_op qbu9 qaf9 (qv 3)) qac9))) (qa_c (qv 2) qac9))) qac9))))) (qae9 (qam9 (qv 2))))),?_⟩
 walk_at "d"
 refine⟨(by show 0<=zhu;decide),λ p hp=>?_⟩
 have fp:=hp
 generalize hgH1:upd _ p _=H1
 revert H1
 refine qal9 hp λ H1 s1 e1=>?_
 refine⟨_,rfl,(sz:Int),rfl,⋯,⋯,qic9 (lo:=0) (n:=((sz:Nat):Int).toNat)
  (λ i σ H'=>E2q λ(xs:List Str) (v3:Option V)=>A6q (σ=[sR9 a,sI9 sz,sR9 p,v3]) (Same H H') (H' p=zhq (.lst (xs.map V.str))) (xs.length=i) ((∀x∈xs,Low x)) xs.Nodup)
  ⟨[],_,rfl,s1,e1,rfl,by simp,by simp⟩ ?_ ?_⟩
 ·intro i σ H' hi z9;obtain⟨xs,v3,rfl,s2,e2,l2,lo,nd⟩ := z9
  rw[show(0:Int)+((i:Nat):Int)=(i:Int) by omega]
  refine⟨_,rfl,.inl ⟨rfl,_,SqL.of e2⟩,_,rfl,_,rfl,_,_,rfl,rfl,a,ns,3+(i:Int),rfl,s2.seq hS,⋯,λ c=>⟨_,rfl,c,p,xs,rfl,e2,⋯,lo,λ x H3 s3 lx nx=>?_⟩⟩
  refine⟨p,_,_,rfl,rfl,s3 _ _ e2,qbq9 (by rw[zac];omega),xs++[x],_,rfl,qaz9 fp (s2.trans s3),by rw[qaj9,zaj];rfl,by simp[l2],λ y hy=>?_,zcx.mpr ⟨nd,by simp,λ u hu v hv e=>?_⟩⟩
  ·rcases zak.mp hy with hy|hy
   ·exact lo y hy
   ·rw[zae.mp hy]
    exact lx
  ·rw[zae] at hv
   exact nx (hv ▸ e ▸ hu)
 ·intro σ H' z9;obtain⟨xs,v3,rfl,s2,e2,l2,lo,nd⟩ := z9
  exact⟨_,rfl,q p xs H' s2 e2 fp ⋯ lo nd⟩
theorem ok_shown8(F:Fun K "_law_shown" "_law_shown" qde9 f fd)(B:Bl mg):FnOk P w K mg base CX0 (n+1) f fd ["window"] spWinTx:=by
 refine F.okQ qlo9 (λ vs H Q E h=>?_) (λ cdv A outer s H vs Q E hr h=>?_)
 ·obtain⟨_,_,rfl,_⟩:=h
  rfl
 obtain⟨r,⟨a,b,c⟩,rfl,hx,ab,s1,s2,s3,q⟩:=h
 refine⟨_,(qaa9 (qs_if (qar9 qef9 (qe_ix qas9 (qv 0) qaf9 (λ _ _=>rfl)) (qe_ix qas9 (qv 0) qaf9 (λ _ _=>rfl)) (qbb9 _)) (qae9 (qam9 (qe_op qad9 (qe_op qad9 (qe_ct qed9 rfl B.str_ qhx9 (qa_c (qe_ix qas9 (qv 0) qaf9 (λ _ _=>rfl)) qac9)) qah9) (qe_ct qed9 rfl B.str_ qhx9 (qa_c (qe_ix qas9 (qv 0) qaf9 (λ _ _=>rfl)) qac9))))) qan9) (qae9 (qam9 (qe_op qad9 (qe_op qad9 (qe_op qad9 (qe_op qad9 (qe_ct qed9 rfl B.str_ qhx9 (qa_c (qe_ix qas9 (qv 0) qaf9 (λ _ _=>rfl)) qac9)) qah9) (qe_ct qed9 rfl B.str_ qhx9 (qa_c (qe_ix qas9 (qv 0) qaf9 (λ _ _=>rfl)) qac9))) qah9) (qe_ct qed9 rfl B.str_ qhx9 (qa_c (qe_ix qas9 (qv 0) qaf9 (λ _ _=>rfl)) qac9)))))),?_⟩
 walk_at "d"
 dsimp only at *
 have h1:=s1.len
 have h2:=s2.len
 have h3:=s3.len
 have e1:("+":Str).length=1:=by decide
 have e2:("-":Str).length=1:=by decide
 have ab:a<=b:=ab
 refine⟨_,rfl,r,_,_,_,rfl,rfl,SqT.of hx,rfl,_,rfl,r,_,_,_,rfl,rfl,SqT.of hx,rfl,rfl,_,rfl,ite2 (λ k=>?_) (λ k=>?_)⟩
 ·have e:a=b:=by
   have:=of_decide_eq_true k
   injection this
  have ew:winT (a,b,c)=numT a++"+"++numT c:=by
   unfold winT
   rw[if_neg (by show ¬a<b;omega),zcy]
  rw[ew] at q
  exact⟨_,rfl,r,_,_,_,rfl,rfl,SqT.of hx,rfl,_,rfl,s1.log,_,_,rfl,rfl,L.le (by simp only[e1];omega),_,rfl,r,_,_,_,rfl,rfl,SqT.of hx,rfl,_,rfl,s3.log,_,_,rfl,rfl,L.le (by simp only[zaa,e1];omega),q⟩
 ·have e:a<b:=by
   rcases Int.lt_or_eq_of_le ab with h|h
   ·exact h
   ·exact absurd (decide_eq_true (by rw[h])) k
  have ew:winT (a,b,c)=numT a++"-"++numT b++"+"++numT c:=by
   unfold winT
   rw[if_pos (by exact e),zcy]
  rw[ew] at q
  exact⟨_,rfl,r,_,_,_,rfl,rfl,SqT.of hx,rfl,_,rfl,s1.log,_,_,rfl,rfl,L.le (by simp only[e2];omega),_,rfl,r,_,_,_,rfl,rfl,SqT.of hx,rfl,_,rfl,s2.log,_,_,rfl,rfl,L.le (by simp only[zaa,e2];omega),_,_,rfl,rfl,L.le (by simp only[zaa,e1,e2];omega),_,rfl,r,_,_,_,rfl,rfl,SqT.of hx,rfl,_,rfl,s3.log,_,_,rfl,rfl,L.le (by simp only[zaa,e1,e2];omega),q⟩
inductive spText8(vs:List V)(H:Hp)(Q:VK)(z3q:XK):Prop
 |mk (day:Int) (pn pr:zht) (names:List Str) (N:List RdT):vs=[.int day,.ref pn,.ref pr]->Sm day->H pn=zhq (.lst (names.map V.str))->NA H pr N->NetTx names N->((∀m∈N,∀x∈m.2.2.2,x.1<=x.2.1))->(∀H',Same H H'->Q (.str (netS day (N.map (rdS names)))) H')->spText8 vs H Q z3q
theorem ok_text8(F:Fun K "_law_text" "_law_text" qdz9 f fd)(B:Bl mg)(Cw0:Callee P w K mg base n "_law_shown" ["window"] spWinTx):FnOk P w K mg base CX0 (n+1) f fd ["day","words","roads"] spText8:=by
 refine F.okQ sc__law_text (λ vs H Q E h=>?_) (λ cdv A outer s H vs Q E hr h=>?_)
 ·obtain⟨_,_,_,_,_,rfl,_⟩:=h
  rfl
 obtain⟨day,pn,pr,names,N,rfl,hd,hn,hN,hok,hab,q⟩:=h
 refine⟨_,(qaa9 (qak9 (i:=3) sc__law_text.nd rfl (zai rfl) (qe_op qad9 qah9 (qe_ct qed9 rfl B.str_ qhx9 (qa_c (qv 0) qac9)))) (qaa9 (qeo9 ziq.never rfl (qbl9 (qv 2)) (qpj9 rfl (qbd9 (qat9 (i:=4) sc__law_text.nd rfl (zai rfl)) (qbd9 (qat9 (i:=5) sc__law_text.nd rfl (zai rfl)) (qbd9 (qat9 (i:=6) sc__law_text.nd rfl (zai rfl)) qhs9)))) (qaa9 (qak9 (i:=7) sc__law_text.nd rfl (zai rfl) (qbi9 (qa_c (qe_op qad9 (qe_op qad9 (qe_ix qau9 (qv 1) (qv 4) (λ _ _=>rfl)) qah9) (qe_ix qau9 (qv 1) (qv 5) (λ _ _=>rfl))) qac9))) (qaa9 (qeo9 ziq.never rfl (qbl9 (qv 6)) (qat9 (i:=8) sc__law_text.nd rfl (zai rfl)) (qae9 (qcl9 (qbf9 (qv 7) (qa_c (qe_fn Cw0 hr rfl (qa_c (qv 8) qac9)) qac9))))) (qae9 (qak9 (i:=3) sc__law_text.nd rfl (zai rfl) (qe_op qad9 (qe_op qad9 (qv 3) qah9) (qsy9 qah9 (qa_c (qv 7) qac9)))))))) (qae9 (qam9 (qv 3))))),?_⟩
 walk_at "d"
 have h1:(numT day).length<=16:=hd.len
 have h1':=hd.len
 have e1:("day ":Str).length=4:=by decide
 have e2:("; ":Str).length=2:=by decide
 have e3:(">":Str).length=1:=by decide
 have e4:(" ":Str).length=1:=by decide
 have nf:=hok.few
 refine⟨_,rfl,_,rfl,hd.log,_,_,rfl,rfl,L.le (by rw[e1];omega),?_⟩
 obtain⟨ws,hw1,hw2,hw3⟩:=hN.la.lst
 rw[zac] at hw2
 refine⟨_,rfl,pr,rfl,⟨_,SqL.of hw1⟩,qdg9 (K:=K) (a:=pr) (xs:=ws)
  (λ i σ H'=>A3q (Same H H') ((∃v4 v5 v6 v7 v8:Option V,σ=[sI9 day,sR9 pn,sR9 pr,sS9 ((N.take i).foldl (rStep names) ("day "++numT day)),v4,v5,v6,v7,v8])) (((N.take i).foldl (rStep names) ("day "++numT day)).length<=20+5500*i))
  ⟨Same.refl _,⟨_,_,_,_,_,rfl⟩,by simp only[List.take_zero,zgz,zaa,e1];omega⟩ (λ i σ H' _ h=>SqL.of (h.1 _ _ hw1)) ?_ ?_⟩
 ·intro i y σ H' hi z9;obtain⟨s1,⟨v4,v5,v6,v7,v8,rfl⟩,hlen⟩ := z9
  obtain⟨r,x,rfl,ex,er⟩:=hw3 i y hi
  have hi2:i<N.length:=by
   have:=(zab.mp hi).1
   omega
  have em:=zad hi2
  rw[zah,em] at ex
  cases ex
  have et:N.take (i+1)=N.take i++[N[i]]:=by rw[zbe,em];rfl
  obtain⟨m1,m2,m3,m4,m5,m6⟩:=hok.rd _ (zbs hi2)
  have hb:=(hN.bd _ (zbs hi2)).1
  have hab':=hab _ (zbs hi2)
  rw[et,zcz,zcq,zgz]
  generalize hm:N[i]=m at *
  generalize (N.take i).foldl (rStep names) ("day "++numT day)=acc at *
  have l1:=qph9 hok.nm m.1
  have l2:=qph9 hok.nm m.2.1
  have er:H r=zhq (.tup [.int m.1,.int m.2.1,.ref m.2.2.1]):=er
  refine⟨r,_,rfl,SqT.of (s1 _ _ er),rfl,_,_,rfl,_,_,rfl,_,_,rfl,rfl,?_⟩
  have hn1:=s1 _ _ hn
  refine⟨_,rfl,_,rfl,pn,_,_,_,rfl,rfl,SqL.of hn1,at_nm m1 m2,_,_,rfl,rfl,L.le (by rw[e3];omega),_,rfl,_,rfl,pn,_,_,_,rfl,rfl,SqL.of hn1,at_nm m3 m4,_,_,rfl,rfl,L.le (by simp only[zaa,e3];omega),(by show 1<=zhu;decide),λ pp hpp=>?_⟩
  have fpp:=hpp
  generalize hgH2:upd _ pp _=H2
  revert H2
  refine qal9 hpp λ H2 s2 e5=>?_
  obtain⟨bs,hb1,hb2,hb3⟩:=(hb.same s1).lst
  refine⟨_,rfl,m.2.2.1,rfl,⟨_,SqL.of (s2 _ _ hb1)⟩,qdg9 (K:=K) (a:=m.2.2.1) (xs:=bs)
   (λ j σ H''=>A3q (Same H' H'') ((∃v8:Option V,σ=[sI9 day,sR9 pn,sR9 pr,sS9 acc,sI9 m.1,sI9 m.2.1,sR9 m.2.2.1,sR9 pp,v8])) (H'' pp=zhq (.lst (((nmT names m.1++">"++nmT names m.2.1)::(m.2.2.2.take j).map winT).map V.str))))
   ⟨s2,⟨_,rfl⟩,e5⟩ (λ i σ H'' _ h=>SqL.of (h.1 _ _ hb1)) ?_ ?_⟩
  ·intro j z σ H3 hj z9;obtain⟨s3,⟨v8,rfl⟩,e6⟩ := z9
   obtain⟨r2,x,rfl,ex,er2⟩:=hb3 j z hj
   have jl:=(zab.mp ex).1
   have sm:=m5 _ (zaf ex)
   refine⟨_,rfl,.inl ⟨rfl,_,SqL.of e6⟩,_,rfl,r2,x,rfl,s3 _ _ er2,hab' x (zaf ex),sm.1,sm.2.1,sm.2.2,pp,_,_,rfl,rfl,e6,qbq9 (by simp;omega),qaz9 fpp s3,⟨_,rfl⟩,?_⟩
   rw[qaj9,qhz9 winT ex]
   simp
  ·intro σ H3 z9;obtain⟨s3,⟨v8,rfl⟩,e6⟩ := z9
   rw[hb2,zbk] at e6
   have bl:∀y∈(nmT names m.1++">"++nmT names m.2.1)::m.2.2.2.map winT,y.length<=300:=λ y hy=>by
    rcases zag.mp hy with rfl|hy
    ·simp only[zaa,e3];omega
    ·obtain⟨x,hx,rfl⟩:=zas.mp hy
     have:=qgp9 (m5 x hx)
     omega
   have rl:rdT (rdS names m)=Txt.join " " ((nmT names m.1++">"++nmT names m.2.1)::m.2.2.2.map winT):=by
    unfold rdT rdS Txt.join
    rw[qet9,StrLaws.glued_eq_join]
   have rlen:(rdT (rdS names m)).length<=5400:=qkn9 m5 m6 l1 l2
   refine⟨_,rfl,_,_,rfl,rfl,L.le (by rw[e2];omega),rfl,_,rfl,_,pp,_,rfl,rfl,SqL.of e6,qke9 bl (by rw[zbb,zac,e4];omega),?_⟩
   rw[<- rl,qsu9]
   refine⟨_,_,rfl,rfl,L.le (by simp only[zaa,e2];omega),s1.trans s3,⟨_,_,_,_,_,rfl⟩,?_⟩
   simp only[zaa,e2]
   omega
 ·intro σ H' z9;obtain⟨s1,⟨v4,v5,v6,v7,v8,rfl⟩,hlen⟩ := z9
  rw[hw2,zbk,netS_eq]
  exact⟨_,rfl,q _ s1⟩
def addI(xs:List Int)(x:Int):List Int:=if x∈xs then xs else xs++[x]
def ordN(N:List RdT):List Int:=N.foldl (λ xs m=>addI (addI xs m.1) m.2.1) []
theorem qry9{xs:List Int}{x y:Int}:y∈addI xs x↔y∈xs\/y=x:=by
 unfold addI
 split
 ·exact⟨.inl,λ h=>h.elim id λ e=>by rw[e];assumption⟩
 ·simp
theorem qju9(xs:List Int)(x:Int):(addI xs x).length<=xs.length+1:=by
 unfold addI
 split
 ·omega
 ·simp
theorem qmh9(N:List RdT)(m:RdT):ordN (N++[m])=addI (addI (ordN N) m.1) m.2.1:=by
 unfold ordN
 rw[zcz]
 rfl
theorem ord_take{m:RdT}(h:N[i]?=zhq m):ordN (N.take (i+1))=addI (addI (ordN (N.take i)) m.1) m.2.1:=by
 rw[zbe,h]
 exact qmh9 _ m
theorem ord_ind(p:List RdT->Prop)(h0:p [])(hs:∀N m,p N->p (N++[m]))(N:List RdT):p N:=by
 have:∀k,k<=N.length->p (N.take k):=λ k=>by
  induction k with
  |zero=>intro _;simpa using h0
  |succ k ih =>
   intro hk
   have e:=zad (l:=N) (i:=k) ⋯
   rw[zbe,e]
   exact hs _ _ (ih ⋯)
 simpa using this N.length (zaq _)
theorem ord_mem{x:Int}:x∈ordN N↔OnRd N x:=by
 refine ord_ind (λ N=>x∈ordN N↔OnRd N x) ⟨λ h=>(by cases h),λ⟨m,hm,_⟩=>(by cases hm)⟩ (λ N m ih=>?_) N
 rw[qmh9,qry9,qry9,ih]
 constructor
 ·rintro((⟨m',h,e⟩|e)|e)
  ·exact⟨m',zbi _ h,e⟩
  ·exact⟨m,by simp,.inl e⟩
  ·exact⟨m,by simp,.inr e⟩
 ·intro z9;obtain⟨m',h,e⟩ := z9
  rcases zak.mp h with h|h
  ·exact .inl (.inl ⟨m',h,e⟩)
  ·rw[zae] at h
   subst h
   exact e.elim (λ e=>.inl (.inr e)) .inr
theorem ord_len(N:List RdT):(ordN N).length<=2*N.length:=ord_ind (λ N=>(ordN N).length<=2*N.length) (by simp[ordN]) (λ N m ih=>by
 rw[qmh9,zap,zcd]
 have h1:=qju9 (ordN N) m.1
 have h2:=qju9 (addI (ordN N) m.1) m.2.1
 omega) N
inductive spOrder8(vs:List V)(H:Hp)(Q:VK)(z3q:XK):Prop
 |mk (pr:zht) (N:List RdT):vs=[.ref pr]->NA H pr N->N.length<=100->(∀(l:zht)(H':Hp),Same H H'->H' l=zhq (.lst ((ordN N).map V.int))->H l=zhr->Q (.ref l) H')->spOrder8 vs H Q z3q
theorem ok_order8(F:Fun K "_law_order" "_law_order" qdc9 f fd):FnOk P w K mg base CX0 (n+1) f fd ["roads"] spOrder8:=by
 refine F.okQ sc__law_order (λ vs H Q E h=>?_) (λ cdv A outer s H vs Q E hr h=>?_)
 ·obtain⟨_,_,rfl,_⟩:=h
  rfl
 obtain⟨pr,N,rfl,hN,lN,q⟩:=h
 refine⟨_,(qaa9 (qak9 (i:=1) sc__law_order.nd rfl (zai rfl) (qbi9 qac9)) (qaa9 (qeo9 ziq.never rfl (qbl9 (qv 0)) (qpj9 rfl (qbd9 (qat9 (i:=2) sc__law_order.nd rfl (zai rfl)) (qbd9 (qat9 (i:=3) sc__law_order.nd rfl (zai rfl)) (qbd9 (qat9 (i:=4) sc__law_order.nd rfl (zai rfl)) qhs9)))) (qae9 (qeo9 ziq.never rfl (qbl9 (qbi9 (qa_c (qv 2) (qa_c (qv 3) qac9)))) (qat9 (i:=5) sc__law_order.nd rfl (zai rfl)) (qae9 (qs_if (qar9 qgs9 (qv 5) (qv 1) rfl) (qae9 (qcl9 (qbf9 (qv 1) (qa_c (qv 5) qac9)))) qan9))))) (qae9 (qam9 (qv 1))))),?_⟩
 walk_at "d"
 refine⟨(by show 0<=zhu;decide),λ po hpo=>?_⟩
 have fpo:=hpo
 generalize hgH1:upd _ po _=H1
 revert H1
 refine qal9 hpo λ H1 s1 e1=>?_
 obtain⟨ws,hw1,hw2,hw3⟩:=hN.la.lst
 rw[zac] at hw2
 refine⟨_,rfl,pr,rfl,⟨_,SqL.of (s1 _ _ hw1)⟩,qdg9 (K:=K) (a:=pr) (xs:=ws)
  (λ i σ H'=>Same H H'/\(∃v2 v3 v4 v5:Option V,σ=[sR9 pr,sR9 po,v2,v3,v4,v5])/\H' po=zhq (.lst ((ordN (N.take i)).map V.int)))
  ⟨s1,⟨_,_,_,_,rfl⟩,e1⟩ (λ i σ H' _ h=>SqL.of (h.1 _ _ hw1)) ?_ ?_⟩
 ·intro i y σ H' hi z9;obtain⟨s2,⟨v2,v3,v4,v5,rfl⟩,e2⟩ := z9
  obtain⟨r,x,rfl,ex,er⟩:=hw3 i y hi
  have hi2:i<N.length:=by
   have:=(zab.mp hi).1
   omega
  have em:=zad hi2
  rw[zah,em] at ex
  cases ex
  rw[ord_take em]
  generalize hm:N[i]=m at *
  have lo:=ord_len (N.take i)
  rw[zbd] at lo
  generalize ordN (N.take i)=os at *
  refine⟨r,_,rfl,SqT.of (s2 _ _ er),rfl,_,_,rfl,_,_,rfl,_,_,rfl,rfl,?_⟩
  refine⟨_,rfl,_,rfl,(by show 2<=zhu;decide),λ p3 hp3=>?_⟩
  have n3:po≠p3:=λ z=>by rw[<- z,e2] at hp3;cases hp3
  generalize hgH3:upd _ p3 _=H3
  revert H3
  refine qal9 hp3 λ H3 s3 e3=>?_
  have f3:H p3=zhr:=s2.free hp3
  refine⟨p3,rfl,⟨_,SqL.of e3⟩,qdg9 (K:=K) (a:=p3) (xs:=[.int m.1,.int m.2.1])
   (λ j σ H4=>Same H H4/\(∃v5:Option V,σ=[sR9 pr,sR9 po,sI9 m.1,sI9 m.2.1,sR9 m.2.2.1,v5])/\H4 p3=zhq (.lst [.int m.1,.int m.2.1])/\H4 po=zhq (.lst ((([m.1,m.2.1].take j).foldl addI os).map V.int)))
   ⟨s2.trans s3,⟨_,rfl⟩,e3,s3 _ _ e2⟩ (λ j σ H4 _ h=>SqL.of h.2.2.1) ?_ ?_⟩
  ·intro j z σ H4 hj z9;obtain⟨s4,⟨v5,rfl⟩,e4,o4⟩ := z9
   have jl:j<2:=(zab.mp hj).1
   obtain⟨u,rfl,eu⟩:∃u:Int,z=.int u/\[m.1,m.2.1].take (j+1)=[m.1,m.2.1].take j++[u]:=by
    rcases(by omega:j=0\/j=1) with rfl|rfl
    ·cases hj
     exact⟨_,rfl,rfl⟩
    ·cases hj
     exact⟨_,rfl,rfl⟩
   rw[eu,zcz]
   have l4:(([m.1,m.2.1].take j).foldl addI os).length<=os.length+2:=by
    have h1:=qju9 os m.1
    have h2:=qju9 (addI os m.1) m.2.1
    rcases(by omega:j=0\/j=1) with rfl|rfl
    ·show os.length<=_;omega
    ·show(addI os m.1).length<=_;omega
   generalize ([m.1,m.2.1].take j).foldl addI os=o2 at *
   refine⟨_,rfl,_,rfl,po,_,rfl,.inl (SqL.of o4),rfl,flat_ints _,_,rfl,?_⟩
   rw[in_ints]
   have ea:[u].foldl addI o2=addI o2 u:=rfl
   rw[ea]
   by_cases k:u∈o2
   ·rw[decide_eq_true k]
    refine iteN (by decide) ⟨s4,⟨_,rfl⟩,e4,?_⟩
    rw[show addI o2 u=o2 from if_pos k]
    exact o4
   ·rw[decide_eq_false k]
    refine iteP (by decide) ⟨_,rfl,.inl ⟨rfl,_,SqL.of o4⟩,_,rfl,po,_,_,rfl,rfl,o4,qbq9 (by rw[zac];omega),qaz9 fpo s4,⟨_,rfl⟩,by rw[qao9 n3.symm];exact e4,?_⟩
    rw[qaj9,show addI o2 u=o2++[u] from if_neg k,zaj]
    rfl
  ·intro σ H4 z9;obtain⟨s4,⟨v5,rfl⟩,e4,o4⟩ := z9
   exact⟨s4,⟨_,_,_,_,rfl⟩,o4⟩
 ·intro σ H' z9;obtain⟨s2,⟨v2,v3,v4,v5,rfl⟩,e2⟩ := z9
  rw[hw2,zbk] at e2
  exact⟨_,rfl,q po H' s2 e2 fpo⟩
end
abbrev St3:=Int×Int×List T3
variable {L L':List St3}
def hitS(a b:Int)(wo:Option T3)(m:St3):Bool:=decide (m.1=a/\m.2.1=b)&&(match wo with
 |none=>true
 |some w=>decide (w∈m.2.2))
def fI(L:List St3)(a b:Int)(wo:Option T3):Option Nat:=L.findIdx? (hitS a b wo)
def wAt(R:List T3)(w:T3):Nat:=R.findIdx λ x=>decide (x=w)
def offW(R:List T3)(w:T3):List T3:=R.eraseIdx (wAt R w)
theorem wAt_lt{w:T3}(h:w∈R):wAt R w<R.length:=List.findIdx_lt_length_of_exists ⟨w,h,by simp⟩
theorem offW_len{w:T3}(h:w∈R):(offW R w).length+1=R.length:=by
 have:=wAt_lt h
 unfold offW
 rw[zfq,if_pos this]
 omega
theorem offW_mem{w x:T3}(h:x∈offW R w):x∈R:=List.mem_of_mem_eraseIdx h
def Opened(a b:Int)(w:T3)(L L':List St3):Prop:=(∃i m,fI L a b zhr=zhq i/\L[i]?=zhq m/\L'=L.set i (m.1,m.2.1,m.2.2++[w]))\/(fI L a b zhr=zhr/\L'=L++[(a,b,[w])])
def ShutW(a b:Int)(w:T3)(L L':List St3):Prop:=∃i m,fI L a b (zhq w)=zhq i/\L[i]?=zhq m/\L'=L.set i (m.1,m.2.1,offW m.2.2 w)
def endS(L:List St3):List (Int×Int):=L.map λ m=>(m.1,m.2.1)
def tot(L:List St3):Nat:=(L.map λ m=>m.2.2.length).sum
section
variable {w:T3}{m:St3}
theorem fI_at(h:fI L a b wo=zhq i)(hm:L[i]?=zhq m):m.1=a/\m.2.1=b/\∀x,wo=zhq x->x∈m.2.2:=by
 obtain⟨hi,hit,_⟩:=zcm.mp h
 rw[zad hi] at hm
 cases hm
 unfold hitS at hit
 rw[zaz,decide_eq_true_eq] at hit
 refine⟨hit.1.1,hit.1.2,λ x e=>?_⟩
 subst e
 exact of_decide_eq_true hit.2
theorem fI_ex(h:fI L a b wo=zhq i):∃m,L[i]?=zhq m:=by
 obtain⟨hi,_⟩:=zcm.mp h
 exact⟨_,zad hi⟩
theorem qqy9(h:fI L a b wo=zhr){m:St3}(hm:m∈L):hitS a b wo m=false:=by
 have:=zdm.mp h m hm
 simpa using this
theorem qin9{α β:Type}(f:α->β){l:List α}{x y:α}(h:l[i]?=zhq x)(e:f y=f x):(l.set i y).map f=l.map f:=by
 refine List.ext_getElem? λ j=>?_
 rw[zah,zah,zfb]
 by_cases c:i=j
 ·subst c
  rw[if_pos rfl,h,if_pos (zab.mp h).1]
  simp[e]
 ·rw[if_neg c]
theorem Opened.ends(h:Opened a b w L L'):endS L'=endS L\/(endS L'=endS L++[(a,b)]/\(a,b)∉endS L):=by
 rcases h with⟨i,m,_,hm,rfl⟩|⟨hn,rfl⟩
 ·exact .inl (qin9 _ hm rfl)
 ·refine .inr ⟨by unfold endS;rw[zaj];rfl,λ z=>?_⟩
  obtain⟨m,hm,e⟩:=zas.mp z
  have:=qqy9 hn hm
  simp only[Prod.mk.injEq] at e
  unfold hitS at this
  rw[zgi,decide_eq_false_iff_not] at this
  exact this e
theorem ShutW.ends(h:ShutW a b w L L'):endS L'=endS L:=by
 obtain⟨i,m,_,hm,rfl⟩:=h
 exact qin9 _ hm rfl
theorem qtj9:∀{L:List St3}{i:Nat}{m:St3}{x y:Int}{R:List T3},L[i]?=zhq m->tot (L.set i (x,y,R))+m.2.2.length=tot L+R.length
 | [],i,m,x,y,R,h=>by cases h
 |z::L,0,m,x,y,R,h=>by
  cases h
  simp only[zfz,tot,zbh,zeb]
  omega
 |z::L,i+1,m,x,y,R,h=>by
  have:=qtj9 (L:=L) (i:=i) (m:=m) (x:=x) (y:=y) (R:=R) (by simpa using h)
  simp only[zga,tot,zbh,zeb] at this ⊢
  omega
theorem Opened.tot(h:Opened a b w L L'):tot L'=tot L+1:=by
 rcases h with⟨i,m,_,hm,rfl⟩|⟨hn,rfl⟩
 ·have:=qtj9 (x:=m.1) (y:=m.2.1) (R:=m.2.2++[w]) hm
  rw[zap,zcd] at this
  omega
 ·simp[My.tot]
theorem ShutW.tot(h:ShutW a b w L L'):tot L'+1=tot L:=by
 obtain⟨i,m,hi,hm,rfl⟩:=h
 have:=qtj9 (x:=m.1) (y:=m.2.1) (R:=offW m.2.2 w) hm
 have hw:=(fI_at hi hm).2.2 w rfl
 have l:=offW_len hw
 omega
theorem tot_le:∀{L:List St3}{m:St3},m∈L->m.2.2.length<=tot L
 |z::L,m,h=>by
  simp only[tot,zbh,zeb]
  rcases zag.mp h with rfl|h
  ·omega
  ·have:=tot_le h
   unfold tot at this
   omega
theorem Opened.wins{p:T3->Prop}(h:Opened a b w L L')(hw:p w)(hL:∀m∈L,∀x∈m.2.2,p x):∀m∈L',∀x∈m.2.2,p x:=by
 rcases h with⟨i,m,_,hm,rfl⟩|⟨hn,rfl⟩
 ·intro z hz x hx
  rcases zcs hz with hz|rfl
  ·exact hL z hz x hx
  ·rcases zak.mp hx with hx|hx
   ·exact hL m (zaf hm) x hx
   ·rw[zae.mp hx]
    exact hw
 ·intro z hz x hx
  rcases zak.mp hz with hz|hz
  ·exact hL z hz x hx
  ·rw[zae.mp hz] at hx
   rw[zae.mp hx]
   exact hw
theorem ShutW.wins{p:T3->Prop}(h:ShutW a b w L L')(hL:∀m∈L,∀x∈m.2.2,p x):∀m∈L',∀x∈m.2.2,p x:=by
 obtain⟨i,m,_,hm,rfl⟩:=h
 intro z hz x hx
 rcases zcs hz with hz|rfl
 ·exact hL z hz x hx
 ·exact hL m (zaf hm) x (offW_mem hx)
theorem Opened.there(h:Opened a b w L L'):∃j,fI L' a b (zhq w)=zhq j:=by
 suffices ∃m∈L',hitS a b (zhq w) m=true by
  obtain⟨m,hm,e⟩:=this
  cases z:fI L' a b (zhq w) with
  |some j=>exact⟨j,rfl⟩
  |none=>exact absurd (qqy9 z hm) (by rw[e];decide)
 rcases h with⟨i,m,hi,hm,rfl⟩|⟨hn,rfl⟩
 ·have:=fI_at hi hm
  refine⟨_,List.mem_set (zab.mp hm).1 _,?_⟩
  simp[hitS,this.1,this.2.1]
 ·exact⟨(a,b,[w]),by simp,by simp[hitS]⟩
end
def gF(F:Int->Int)(m:St3):St3:=(F m.1,F m.2.1,m.2.2)
section
variable {F:Int->Int}{w:T3}{M':List St3}
theorem qtl9(hF:∀e∈endS L,(F e.1=F a->e.1=a)/\(F e.2=F b->e.2=b)):fI (L.map (gF F)) (F a) (F b) wo=fI L a b wo:=by
 have hh:∀m∈L,hitS (F a) (F b) wo (gF F m)=hitS a b wo m:=λ m hm=>by
  have h:=hF (m.1,m.2.1) (zas.mpr ⟨m,hm,rfl⟩)
  unfold hitS gF
  have:(F m.1=F a/\F m.2.1=F b)↔(m.1=a/\m.2.1=b):=⟨λ z=>⟨h.1 z.1,h.2 z.2⟩,λ z=>⟨by rw[z.1],by rw[z.2]⟩⟩
  rw[decide_eq_decide.mpr this]
 clear hF
 induction L with
 |nil=>rfl
 |cons m L ih =>
  have:=ih λ z hz=>hh z (zal _ hz)
  unfold fI at this ⊢
  rw[zbh,zes,zes,hh m (zan ..),this]
theorem Opened.ren(hF:∀e∈endS L,(F e.1=F a->e.1=a)/\(F e.2=F b->e.2=b))(h:Opened a b w L L')(h':Opened (F a) (F b) w (L.map (gF F)) M'):M'=L'.map (gF F):=by
 rcases h with⟨i,m,hi,hm,rfl⟩|⟨hn,rfl⟩
 ·rcases h' with⟨i',m',hi',hm',rfl⟩|⟨hn,rfl⟩
  ·rw[qtl9 hF,hi] at hi'
   cases hi'
   rw[zah,hm] at hm'
   cases hm'
   rw[zft]
   rfl
  ·rw[qtl9 hF,hi] at hn
   cases hn
 ·rcases h' with⟨i',m',hi',hm',rfl⟩|⟨_,rfl⟩
  ·rw[qtl9 hF,hn] at hi'
   cases hi'
  ·rw[zaj]
   rfl
theorem ShutW.ren(hF:∀e∈endS L,(F e.1=F a->e.1=a)/\(F e.2=F b->e.2=b))(h:ShutW a b w L L')(h':ShutW (F a) (F b) w (L.map (gF F)) M'):M'=L'.map (gF F):=by
 obtain⟨i,m,hi,hm,rfl⟩:=h
 obtain⟨i',m',hi',hm',rfl⟩:=h'
 rw[qtl9 hF,hi] at hi'
 cases hi'
 rw[zah,hm] at hm'
 cases hm'
 rw[zft]
 rfl
end
def stN(N:List RdT):List St3:=N.map strip
theorem stN_ends{p:Int}:OnRd N p↔∃e∈endS (stN N),e.1=p\/e.2=p:=by
 constructor
 ·intro z9;obtain⟨m,hm,e⟩ := z9
  exact⟨(m.1,m.2.1),zas.mpr ⟨strip m,zas.mpr ⟨m,hm,rfl⟩,rfl⟩,e.imp Eq.symm Eq.symm⟩
 ·intro z9;obtain⟨e,he,h⟩ := z9
  obtain⟨s,hs,rfl⟩:=zas.mp he
  obtain⟨m,hm,rfl⟩:=zas.mp hs
  exact⟨m,hm,h.imp Eq.symm Eq.symm⟩
section
variable {ns:List Str}
theorem Ren.gf(h:Ren names ns N M):stN M=(stN N).map (gF λ x=>((ns.idxOf (nmT names x):Nat):Int)):=by
 unfold stN
 rw[h.eq,zcl]
 rfl
theorem Ren.on_inj(h:Ren names ns N M)(oa:OnRd N a)(ob:OnRd N b):∀e∈endS (stN N),((((ns.idxOf (nmT names e.1):Nat):Int)=((ns.idxOf (nmT names a):Nat):Int))->e.1=a)/\((((ns.idxOf (nmT names e.2):Nat):Int)=((ns.idxOf (nmT names b):Nat):Int))->e.2=b):=λ e he =>
 ⟨λ z=>h.inj (stN_ends.mpr ⟨e,he,.inl rfl⟩) oa (show ns.idxOf _=ns.idxOf _ by omega),λ z=>h.inj (stN_ends.mpr ⟨e,he,.inr rfl⟩) ob (show ns.idxOf _=ns.idxOf _ by omega)⟩
theorem Ren.step(h:Ren names ns N M)(oa:OnRd N a)(ob:OnRd N b)(eE:endS (stN N')=endS (stN N)\/endS (stN N')=endS (stN N)++[(a,b)])(em:stN M'=(stN N').map (gF λ x=>((ns.idxOf (nmT names x):Nat):Int))):Ren names ns N' M':=by
 have up:∀{p:Int},OnRd N' p↔OnRd N p:=λ {p}=>by
  rw[stN_ends,stN_ends]
  rcases eE with e|e
  ·rw[e]
  ·rw[e]
   constructor
   ·intro z9;obtain⟨x,hx,hp⟩ := z9
    rcases zak.mp hx with hx|hx
    ·exact⟨x,hx,hp⟩
    ·rw[zae.mp hx] at hp
     rcases hp with rfl|rfl
     ·exact stN_ends.mp oa
     ·exact stN_ends.mp ob
   ·intro z9;obtain⟨x,hx,hp⟩ := z9
    exact⟨x,zbi _ hx,hp⟩
 refine⟨h.nd,λ m hm=>?_,h.n2,λ x=>?_,?_⟩
 ·exact⟨(h.on (up.mp ⟨m,hm,.inl rfl⟩)).2,(h.on (up.mp ⟨m,hm,.inr rfl⟩)).2⟩
 ·rw[h.mem]
  constructor
  ·intro z9;obtain⟨m,hm,e⟩ := z9
   rcases e with rfl|rfl
   ·obtain⟨m',hm',e⟩:=up.mpr ⟨m,hm,.inl rfl⟩
    exact⟨m',hm',e.imp (λ e=>by rw[e]) λ e=>by rw[e]⟩
   ·obtain⟨m',hm',e⟩:=up.mpr ⟨m,hm,.inr rfl⟩
    exact⟨m',hm',e.imp (λ e=>by rw[e]) λ e=>by rw[e]⟩
  ·intro z9;obtain⟨m,hm,e⟩ := z9
   rcases e with rfl|rfl
   ·obtain⟨m',hm',e⟩:=up.mp ⟨m,hm,.inl rfl⟩
    exact⟨m',hm',e.imp (λ e=>by rw[e]) λ e=>by rw[e]⟩
   ·obtain⟨m',hm',e⟩:=up.mp ⟨m,hm,.inr rfl⟩
    exact⟨m',hm',e.imp (λ e=>by rw[e]) λ e=>by rw[e]⟩
 ·unfold stN at em
  rw[em,zcl]
  rfl
end
def ads(p:zht)(N:List RdT):List zht:=p::N.map λ m=>m.2.2.1
def But(L:List zht)(H H':Hp):Prop:=∀b o,H b=zhq o->b∉L->H' b=zhq o
section
variable {H2 G:Hp}{q b:zht}{L A A' A1 A2 B:List zht}{j:Nat}{m:RdT}{us ys:List V}
theorem NA.lists(h:NA H p N):∀b∈ads p N,∃xs,H b=zhq (.lst xs):=λ b hb=>by
 rcases zag.mp hb with rfl|hb
 ·obtain⟨vs,e,_⟩:=h.la.lst
  exact⟨vs,e⟩
 ·obtain⟨m,hm,rfl⟩:=zas.mp hb
  obtain⟨vs,e,_⟩:=(h.bd m hm).1.lst
  exact⟨vs,e⟩
theorem LA.but{α:Type}{enc:α->List V}{xs:List α}(h:LA enc H p xs)(hL:∀b∈L,∃xs,H b=zhq (.lst xs))(np:p∉L)(s:But L H H'):LA enc H' p xs:=by
 obtain⟨rs,h1,h2,h3⟩:=h.ex
 refine⟨rs,s _ _ h1 np,h2,λ i r x e e'=>s _ _ (h3 i r x e e') λ z=>?_⟩
 obtain⟨ys,e2⟩:=hL r z
 rw[h3 i r x e e'] at e2
 cases e2
theorem NA.but(h:NA H p N)(hL:∀b∈L,∃xs,H b=zhq (.lst xs))(dj:∀b∈ads p N,b∉L)(s:But L H H'):NA H' p N :=
 ⟨h.la.but hL (dj _ (zan ..)) s,λ m hm=>⟨(h.bd m hm).1.but hL (dj _ (zal _ (zas.mpr ⟨m,hm,rfl⟩))) s,(h.bd m hm).2⟩,h.nd⟩
theorem But.wr(s:Same H H1)(hq:q∈A):But A H (upd H1 q o):=λ b o e n=>by
 rw[qao9 λ z=>n (by rw[z];exact hq)]
 exact s _ _ e
structure Stp(H H':Hp)(A A':List zht):Prop where
 but:But A H H'
 new:∀b∈A',b∈A\/H b=zhr
theorem Stp.of(s:Same H H'):Stp H H' A A:=⟨λ b o e _=>s b o e,λ _ h=>.inl h⟩
theorem Stp.trans(h:Stp H H1 A A1)(h':Stp H1 H2 A1 A2):Stp H H2 A A2:=by
 refine⟨λ b o e n=>h'.but b o (h.but b o e n) λ z=>?_,λ b hb=>?_⟩
 ·rcases h.new b z with z|z
  ·exact n z
  ·rw[e] at z
   cases z
 ·rcases h'.new b hb with z|z
  ·exact h.new b z
  ·by_cases c:b∈A
   ·exact .inl c
   ·refine .inr ?_
    cases e:H b with
    |none=>rfl
    |some o =>
     rw[h.but b o e c] at z
     cases z
theorem Stp.left(h:Stp H H' A A'):Stp H H' (A++B) (A'++B):=⟨λ b o e n=>h.but b o e λ z=>n (zbi _ z),λ b hb=>by
 rcases zak.mp hb with hb|hb
 ·exact(h.new b hb).imp (zbi _) id
 ·exact .inl (zar _ hb)⟩
theorem Stp.right(h:Stp H H' A A'):Stp H H' (B++A) (B++A'):=⟨λ b o e n=>h.but b o e λ z=>n (zar _ z),λ b hb=>by
 rcases zak.mp hb with hb|hb
 ·exact .inl (zbi _ hb)
 ·exact(h.new b hb).imp (zar _) id⟩
structure Two(H:Hp)(p:zht)(N:List RdT)(q:zht)(M:List RdT):Prop where
 law:NA H p N
 desk:NA H q M
 dj:∀b∈ads p N,b∉ads q M
theorem Two.same(h:Two H p N q M)(s:Same H H'):Two H' p N q M:=⟨h.law.same s,h.desk.same s,h.dj⟩
theorem Two.u(h:Two H p N q M)(s:SameU H H'):Two H' p N q M:=⟨h.law.u s,h.desk.u s,h.dj⟩
theorem NA.setB(h:NA H p N)(hj:N[j]?=zhq m)(hu:H m.2.2.1=zhq (.lst us))(hR:LA enc3 (upd H m.2.2.1 (.lst ys)) m.2.2.1 R):NA (upd H m.2.2.1 (.lst ys)) p (N.set j (m.1,m.2.1,m.2.2.1,R)):=by
 have hm:=zaf hj
 have np:=(h.bd m hm).2
 have eb:(N.set j (m.1,m.2.1,m.2.2.1,R)).map (λ m=>m.2.2.1)=N.map λ m=>m.2.2.1:=qin9 _ hj rfl
 have at_:∀{i:Nat}{x:RdT},N[i]?=zhq x->(N.map λ m=>m.2.2.1)[i]?=zhq x.2.2.1:=λ {i x} e=>by rw[zah,e];rfl
 refine⟨?_,λ z hz=>?_,by rw[eb];exact h.nd⟩
 ·rw[qin9 keyN (y:=(m.1,m.2.1,m.2.2.1,R)) hj rfl]
  exact qcd9 h.la hu (Ne.symm np)
 ·obtain⟨i,hi⟩:=List.mem_iff_getElem?.mp hz
  rw[zfb] at hi
  by_cases c:j=i
  ·rw[if_pos c] at hi
   split at hi
   ·cases hi
    exact⟨hR,np⟩
   ·cases hi
  ·rw[if_neg c] at hi
   have hz:=zaf hi
   refine⟨qcd9 (h.bd z hz).1 hu λ e=>c ?_,(h.bd z hz).2⟩
   have l:=(zab.mp (at_ hj)).1
   exact(zfa l h.nd).mp (by rw[at_ hj,at_ hi,e])
theorem LA.erase'{α:Type}{enc:α->List V}{xs:List α}(h:LA enc H p xs)(hx:H p=zhq (.lst vs))(hq:H' q=zhq (.lst (vs.eraseIdx j)))(ht:∀r ys,H r=zhq (.tup ys)->H' r=zhq (.tup ys)):LA enc H' q (xs.eraseIdx j):=by
 obtain⟨ws,h1,h2,h3⟩:=h.lst
 rw[h1] at hx
 cases hx
 refine LA.of hq (by simp[zfq,h2]) λ i y e=>?_
 rw[zdt] at e
 have go:∀k,vs[k]?=zhq y->∃r,y=.ref r/\∀x,xs[k]?=zhq x->H' r=zhq (.tup (enc x)):=λ k ek=>by
  obtain⟨r,x,e1,e2,e3⟩:=h3 k y ek
  refine⟨r,e1,λ x' ex=>?_⟩
  rw[e2] at ex
  cases ex
  exact ht _ _ e3
 by_cases c:i<j
 ·rw[if_pos c] at e
  obtain⟨r,e1,e2⟩:=go i e
  exact⟨r,e1,λ x ex=>e2 x (by rw[zdt,if_pos c] at ex;exact ex)⟩
 ·rw[if_neg c] at e
  obtain⟨r,e1,e2⟩:=go (i+1) e
  exact⟨r,e1,λ x ex=>e2 x (by rw[zdt,if_neg c] at ex;exact ex)⟩
theorem LA.eraseAt{α:Type}{enc:α->List V}{xs:List α}(h:LA enc H p xs)(hx:H p=zhq (.lst vs)):LA enc (upd H p (.lst (vs.eraseIdx j))) p (xs.eraseIdx j):=h.erase' hx qaj9 λ r ys e=>by
 rw[qao9 λ z=>by rw[z,hx] at e;cases e]
 exact e
theorem ads_set{x:RdT}(hj:N[j]?=zhq m)(e:x.2.2.1=m.2.2.1):ads p (N.set j x)=ads p N:=by
 unfold ads
 rw[qin9 _ hj e]
theorem ads_mem(hm:m∈N):m.2.2.1∈ads p N:=zal _ (zas.mpr ⟨m,hm,rfl⟩)
end
def hitN(a b:Int)(m:RdT):Bool:=hitS a b zhr (strip m)
theorem rdW{w:T3}(h:H r=zhq (.tup (enc3 w))):RdV K H (.ref r) (dat3 w):=.tup (SqT.of h) (.cons (.int _) (.cons (.int _) (.cons (.int _) .nil)))
theorem any3(R:List T3)(w:T3):((R.map dat3).any λ e=>zhw.eqv e (dat3 w))=decide (w∈R):=by
 rw[zhk,zcc,zdc,decide_eq_true_eq]
 constructor
 ·intro z9;obtain⟨x,hx,e⟩ := z9
  have e:zhw.eqv (dat3 x) (dat3 w)=true:=e
  rw[eqv3,decide_eq_true_eq] at e
  exact e ▸ hx
 ·exact λ h=>⟨w,h,by show zhw.eqv (dat3 w) (dat3 w)=true;rw[eqv3];simp⟩
theorem lay3(R:List T3):zhw.canLayAll0 (R.map dat3)=true:=by
 have:=canB R
 simpa [datB,zhw.canLay0] using this
theorem c3(w:T3):(dat3 w).canLay0=true:=by simp[dat3,zhw.canLay0,zhw.canLayAll0]
theorem d3(w:T3):(dat3 w).depth<=8:=by simp[dat3,zhw.depth,zhw.depthAll]
theorem rdR(h:LA enc3 H p R):RdV K H (.ref p) (.list (R.map dat3)):=rd3 h
theorem rdAll3{us:List V}(h:LA enc3 H p R)(hu:H p=zhq (.lst us)):RdAll K H us (R.map dat3):=by
 obtain⟨rs,h1,h2,h3⟩:=h.ex
 rw[h1] at hu
 cases hu
 clear h h1
 induction rs generalizing R with
 |nil =>
  cases R with
  |nil=>exact .nil
  |cons x R=>cases h2
 |cons r rs ih =>
  cases R with
  |nil=>cases h2
  |cons x R=>exact .cons (rdW (h3 0 r x rfl rfl)) (ih (by simpa using h2) λ i r' x' e1 e2=>h3 (i+1) r' x' (by simpa using e1) (by simpa using e2))
theorem fi3{w:T3}(h:w∈R):(R.map dat3).findIdx? (λ e=>zhw.eqv e (dat3 w))=zhq (wAt R w):=by
 have e:(λ e=>zhw.eqv e (dat3 w))∘dat3=λ x=>decide (x=w):=funext λ x=>eqv3 x w
 rw[List.findIdx?_map,e,List.findIdx?_eq_some_iff_findIdx_eq]
 exact⟨wAt_lt h,rfl⟩
theorem qop_eqDK(K:W.Frag)(hK:X.K=K)(hu:X.A.units+64<zjw):QOp X (zig .Eq) (rEqD K):=by
 subst hK
 exact qkw9 hu
theorem qls9{K:W.Frag}{H:Hp}:∀ks:List Int,RdAll K H (ks.map V.int) (ks.map zhw.int)
 | []=>.nil
 |k::ks=>.cons (.int k) (qls9 ks)
theorem qew9(ks:List Int):SeqAt.shaped (.list (ks.map zhw.int))=true:=qrp9 (n:=2) (λ x=>by simp[zhw.canLay0]) (λ x=>by simp[zhw.depth]) (by decide) ks
inductive spBoards(C:zht)(vs:List V)(H:Hp)(Q:VK)(z3q:XK):Prop
 |mk (x pl dx pn pd:zht) (d a b:Int) (M:List RdT):vs=[.ref x,.ref pl]->H x=zhq (.ins C dx (dfs d pn pd))->NA H pd M->M.length<=100->H pl=zhq (.lst [.int a,.int b])->(∀(l:zht)(H':Hp),Same H H'->H' l=zhq (.lst ((M.filter (hitN a b)).map λ m=>.ref m.2.2.1))->Q (.ref l) H')->spBoards C vs H Q z3q
section
variable {w:zhy}{f:zht}{cW:zht}{bmW:List zhs}
theorem ok_boards(G:DkT K C)(F:Fun K "boards_between" "boards_between" qbo9 f fd):FnOk P w K mg base CX0 (n+1) f fd ["desk","places"] (spBoards C):=by
 refine F.okQ qhy9 (λ vs H Q E h=>?_) (λ cdv A outer s H vs Q E hr h=>?_)
 ·obtain⟨_,_,_,_,_,_,_,_,_,rfl,_⟩:=h
  rfl
 obtain⟨x,pl,dx,pn,pd,d,a,b,M,rfl,hx,hM,lM,hl,q⟩:=h
 refine⟨_,(qae9 (qam9 (qdv9 ["start","end","board","places"] [zhr,zhr,zhr,zhq 1] (BlkOk.of rfl rfl (SubL.to (subC rfl subN)) rfl) rfl (qbl9 (qkt9 (qv 0))) (λ _ _ _ _=>(qsc9 (n:=3) K rfl rfl (qbd9 (qat9 (i:=0) (show(["start","end","board","places"]:List Str).Nodup by decide) rfl (zai rfl)) (qbd9 (qat9 (i:=1) (show(["start","end","board","places"]:List Str).Nodup by decide) rfl (zai rfl)) (qbd9 (qat9 (i:=2) (show(["start","end","board","places"]:List Str).Nodup by decide) rfl (zai rfl)) qhs9))))) (λ _ _ _ _=>qoa9 (qar9 (qop_eqDK K rfl hr.units) (qbi9 (qa_c (qv 0) (qa_c (qv 1) qac9))) (qv 3) (qbb9 _))) (λ _ _ _ _=>(qv 2))))),?_⟩
 walk_at "d"
 obtain⟨ws,w1,w2,w3⟩:=hM.la.lst
 rw[zac] at w2
 refine⟨_,rfl,x,C,dx,_,_,rfl,hx,G.cl,G.nr,rfl,pd,rfl,⟨_,SqL.of w1⟩,?_⟩
 refine qgr9 (K:=K) (a:=pd) (xs:=ws) (λ D i H'=>Same H H'/\H' D=zhq (.lst (((M.take i).filter (hitN a b)).map λ m=>.ref m.2.2.1))) (λ D hD=>⟨qbc9 hD _,qaj9⟩) (λ D i H' _ _ h=>SqL.of (h.1 _ _ w1)) ?_ ?_
 ·intro D i y H' hD hi z9;obtain⟨sD,eD⟩ := z9
  obtain⟨rr,z,rfl,ez,er⟩:=w3 i y hi
  have hi2:i<M.length:=by
   have:=(zab.mp hi).1
   omega
  have em:=zad hi2
  rw[zah,em] at ez
  cases ez
  rw[zbe,em,zdg,zaj]
  have lt:=zcr (hitN a b) (M.take i)
  rw[zbd] at lt
  generalize M[i]=m at *
  refine⟨rr,_,rfl,SqT.of (sD _ _ er),rfl,_,_,rfl,_,_,rfl,_,_,rfl,rfl,λ k v e=>?_,?_⟩
  ·match k,e with
   |0,e=>cases e
   |1,e=>cases e
   |2,e=>cases e
   |3,e=>exact e
   |k+4,e=>cases e
  refine⟨_,rfl,_,rfl,(by show 2<=zhu;decide),λ p0 hp0=>?_⟩
  generalize hgH2:upd _ p0 _=H2
  revert H2
  refine qal9 hp0 λ H2 s2 e2=>?_
  have s02:=sD.trans s2
  refine⟨_,rfl,_,_,.lst (SqL.of e2) (.cons (.int _) (.cons (.int _) .nil)),.lst (SqL.of (s02 _ _ hl)) (.cons (.int _) (.cons (.int _) .nil)),qew9 [_,_],qew9 [a,b],_,rfl,?_⟩
  have ek:zhw.eqv (.list [.int (keyN m).1,.int (keyN m).2.1]) (.list [.int a,.int b])=hitN a b m:=by
   unfold hitN hitS
   rw[zgi]
   show zhw.eqv (.list [.int m.1,.int m.2.1]) _=decide (m.1=a/\m.2.1=b)
   by_cases c1:m.1=a<;>by_cases c2:m.2.1=b<;>simp[zhw.eqv,zhw.eqvAll,c1,c2]
  rw[ek]
  refine ite2 (λ c=>?_) (λ c=>?_)
  ·refine⟨_,rfl,_,s2 _ _ eD,qbq9 (by rw[zac];omega),qaz9 hD s02,?_⟩
   rw[qaj9]
   simp[c,keyN]
  ·refine⟨s02,?_⟩
   have c:hitN a b m=false:=by simpa using c
   rw[s2 _ _ eD]
   simp[c]
 intro D H' hD z9;obtain⟨s1,e1⟩ := z9
 rw[w2,zbk] at e1
 exact q D H' s1 e1
structure RowIn(T:Hp->Prop)(C:zht)(H:Hp)(vs:List V)(x dx pn pd:zht)(d a b:Int)(M:List RdT)(r:zht)(w:T3):Prop where
 hv:∃pl pv,vs=[.ref x,.ref pl,.ref pv]/\H pl=zhq (.lst [.int a,.int b])/\H pv=zhq (.lst [.ref r])
 hx:H x=zhq (.ins C dx (dfs d pn pd))
 hM:NA H pd M
 len:M.length<=100
 bd:∀m∈M,m.2.2.2.length<=100
 hw:H r=zhq (.tup (enc3 w))
 hT:T H
inductive spOpen(T:Hp->Prop)(C:zht)(vs:List V)(H:Hp)(Q:VK)(z3q:XK):Prop
 |mk (x dx pn pd:zht) (d a b:Int) (M:List RdT) (r:zht) (w:T3):RowIn T C H vs x dx pn pd d a b M r w->(∀(H':Hp)(M':List RdT),T H'->Stp H H' (ads pd M) (ads pd M')->NA H' pd M'->Opened a b w (stN M) (stN M')->Q (.str "ok") H')->spOpen T C vs H Q z3q
inductive spShut(T:Hp->Prop)(C cW:zht)(vs:List V)(H:Hp)(Q:VK)(E:XK):Prop
 |mk (x dx pn pd:zht) (d a b:Int) (M:List RdT) (r:zht) (w:T3):RowIn T C H vs x dx pn pd d a b M r w->((∀(H':Hp)(M':List RdT),T H'->Stp H H' (ads pd M) (ads pd M')->NA H' pd M'->ShutW a b w (stN M) (stN M')->Q (.str "ok") H'))->((fI (stN M) a b (zhq w)=zhr->∀H',Same H H'->T H'->E (.ref cW) zhr H'))->spShut T C cW vs H Q E
theorem qkq9{L:List RdT}{p:St3->Bool}:∀{M:List RdT},(M.filter λ m=>p (strip m))=L->((stN M).findIdx? p=zhr/\L=[])\/∃i m,(stN M).findIdx? p=zhq i/\M[i]?=zhq m/\L[0]?=zhq m
 | [],e=>.inl ⟨rfl,e.symm⟩
 |m::M,e=>by
  unfold stN
  rw[zbh,zes]
  rw[zfd] at e
  by_cases c:p (strip m)=true
  ·rw[if_pos c] at e
   rw[if_pos c]
   exact .inr ⟨0,m,rfl,rfl,by rw[<- e];rfl⟩
  ·rw[if_neg c] at e
   rw[if_neg c]
   rcases qkq9 e with⟨h,e⟩|⟨i,m',h,h1,h2⟩
   ·exact .inl ⟨by unfold stN at h;rw[h];rfl,e⟩
   ·exact .inr ⟨i+1,m',by unfold stN at h;rw[h];rfl,by simpa using h1,h2⟩
theorem put_at{w:T3}{m:RdT}{us:List V}(hN:NA H1 p N)(s:Same H H1)(hf:fI (stN N) a b zhr=zhq i)(hm:N[i]?=zhq m)(u1:H1 m.2.2.1=zhq (.lst us))(hw:H1 r=zhq (.tup (enc3 w))) :
  ∃N',Stp H (upd H1 m.2.2.1 (.lst (us++[.ref r]))) (ads p N) (ads p N')/\NA (upd H1 m.2.2.1 (.lst (us++[.ref r]))) p N'/\Opened a b w (stN N) (stN N'):=by
 have mm:=zaf hm
 refine⟨_,⟨But.wr s (ads_mem mm),λ b hb=>.inl ?_⟩,hN.setB hm u1 ((hN.bd m mm).1.append (x:=w) u1 hw),.inl ⟨i,strip m,hf,by unfold stN;rw[zah,hm];rfl,?_⟩⟩
 ·rw[ads_set (x:=(m.1,m.2.1,m.2.2.1,m.2.2.2++[w])) hm rfl] at hb
  exact hb
 ·unfold stN
  rw[zft]
  rfl
theorem put_new{H3:Hp}{qb qr:zht}{w:T3}{ws:List V}(hN:NA H1 p N)(s:Same H H1)(hf:fI (stN N) a b zhr=zhr)(fq:H1 qb=zhr)(s3:Same H1 H3)(w3:H3 p=zhq (.lst ws))(e2:H3 qb=zhq (.lst [.ref r]))(e3:H3 qr=zhq (.tup [.int a,.int b,.ref qb]))(hw:H3 r=zhq (.tup (enc3 w))) :
  ∃N',Stp H (upd H3 p (.lst (ws++[.ref qr]))) (ads p N) (ads p N')/\NA (upd H3 p (.lst (ws++[.ref qr]))) p N'/\Opened a b w (stN N) (stN N'):=by
 have hb:LA enc3 H3 qb [w]:=by
  refine⟨[r],e2,rfl,λ i r' x h1 h2=>?_⟩
  cases i with
  |zero =>
   cases h1
   cases h2
   exact hw
  |succ i=>cases h1
 refine⟨_,⟨But.wr (s.trans s3) (zan ..),λ b hb=>?_⟩,(hN.same s3).add (hN.fresh fq) w3 hb e3,.inr ⟨hf,by unfold stN;rw[zaj];rfl⟩⟩
 unfold ads at hb ⊢
 rw[zaj] at hb
 rcases zag.mp hb with rfl|hb
 ·exact .inl (zan ..)
 ·rcases zak.mp hb with hb|hb
  ·exact .inl (zal _ hb)
  ·rw[zae.mp hb]
   exact .inr (s.free fq)
theorem ok_open(hTB:TB T)(G:DkT K C)(F:Fun K "open_row" "open_row" qem9 f fd)(B:Bl mg)(Cf0:Callee P w K mg base n "boards_between" ["desk","places"] (spBoards C)):FnOk P w K mg base CX0 (n+1) f fd ["desk","places","values"] (spOpen T C):=by
 refine F.okQ sc_open_row (λ vs H Q E h=>?_) (λ cdv A outer s H vs Q E hr h=>?_)
 ·obtain⟨_,_,_,_,_,_,_,_,_,_,ri,_⟩:=h
  obtain⟨_,_,rfl,_⟩:=ri.hv
  rfl
 obtain⟨x,dx,pn,pd,d,a,b,M,r,w,ri,q⟩:=h
 obtain⟨pl,pv,rfl,hl,hv⟩:=ri.hv
 refine⟨_,(qaa9 (qak9 (i:=3) sc_open_row.nd rfl (zai rfl) (qe_fn Cf0 hr rfl (qa_c (qv 0) (qa_c (qv 1) qac9)))) (qaa9 (qs_if (qar9 qrk9 (qe_cb qbg9 rfl B.len qeb9 (qa_c (qv 3) qac9)) qaf9 (qbb9 _)) (qae9 (qcl9 (qbf9 (qe_ix qau9 (qv 3) qaf9 (λ _ _=>rfl)) (qa_c (qe_ix qau9 (qv 2) qaf9 (λ _ _=>rfl)) qac9)))) (qae9 (qcl9 (qbf9 (qkt9 (qv 0)) (qa_c (qbn9 (qa_c (qe_ix qau9 (qv 1) qaf9 (λ _ _=>rfl)) (qa_c (qe_ix qau9 (qv 1) qaf9 (λ _ _=>rfl)) (qa_c (qbi9 (qa_c (qe_ix qau9 (qv 2) qaf9 (λ _ _=>rfl)) qac9)) qac9)))) qac9))))) (qae9 (qam9 qah9)))),?_⟩
 walk_at "d"
 refine⟨_,rfl,_,rfl,x,pl,dx,pn,pd,d,a,b,M,rfl,ri.hx,ri.hM,ri.len,hl,λ l H1 s1 e1=>?_⟩
 have hM1:=ri.hM.same s1
 have hv1:=s1 _ _ hv
 have hl1:=s1 _ _ hl
 have a0:atI [V.ref r] 0=zhq (.ref r):=rfl
 have F0:=qkq9 (M:=M) (p:=hitS a b zhr) rfl
 refine⟨_,rfl,l,_,rfl,.inl (SqL.of e1),_,_,rfl,rfl,_,rfl,ite2 (λ c=>?_) (λ c=>?_)⟩
 ·rcases F0 with⟨_,e⟩|⟨i,m,hi,hm,h0⟩
  ·have e:M.filter (hitN a b)=[]:=e
   rw[e] at c
   simp at c
  have h0:(M.filter (hitN a b))[0]?=zhq m:=h0
  have mm:=zaf hm
  obtain⟨us,u1,u2,_⟩:=(hM1.bd m mm).1.lst
  have lb:=ri.bd m mm
  have b0:atI ((M.filter (hitN a b)).map λ m=>V.ref m.2.2.1) 0=zhq (.ref m.2.2.1):=qcf9 (j:=0) (by rw[zah,h0];rfl)
  refine⟨_,rfl,l,_,_,_,rfl,rfl,SqL.of e1,b0,.inl ⟨rfl,_,SqL.of u1⟩,_,rfl,pv,_,_,_,rfl,rfl,SqL.of hv1,a0,m.2.2.1,us,_,rfl,rfl,u1,qbq9 ⋯,?_⟩
  obtain⟨M',st,hM',op⟩:=put_at hM1 s1 hi hm u1 (s1 _ _ ri.hw)
  exact q _ M' (hTB.wr _ _ _ _ (hTB.same _ _ ri.hT s1) u1) st hM' op
 ·rcases F0 with⟨hn,e⟩|⟨i,m,hi,hm,h0⟩
  ·refine⟨_,rfl,x,C,dx,_,_,rfl,s1 _ _ ri.hx,G.cl,G.nr,rfl,?_⟩
   obtain⟨ws,w1,w2,_⟩:=hM1.la.lst
   refine⟨.inl ⟨rfl,_,SqL.of w1⟩,_,rfl,pl,_,_,_,rfl,rfl,SqL.of hl1,(rfl:atI [V.int a,V.int b] 0=zhq (.int a)),_,rfl,pl,_,_,_,rfl,rfl,SqL.of hl1,(rfl:atI [V.int a,V.int b] 1=zhq (.int b)),_,rfl,pv,_,_,_,rfl,rfl,SqL.of hv1,a0,(by show 1<=zhu;decide),λ qb hqb=>?_⟩
   have fq:=hqb
   generalize hgH2:upd _ qb _=H2
   revert H2
   refine qal9 hqb λ H2 s2 e2=>?_
   refine⟨(by show 3<=zhu;decide),λ qr hqr=>?_⟩
   generalize hgH3:upd _ qr _=H3
   revert H3
   refine qal9 hqr λ H3 s3 e3=>?_
   have s23:=s2.trans s3
   have w3:=s23 _ _ w1
   rw[zac] at w2
   have lM:=ri.len
   refine⟨pd,ws,_,rfl,rfl,w3,qbq9 ⋯,?_⟩
   obtain⟨M',st,hM',op⟩:=put_new hM1 s1 hn fq s23 w3 (s3 _ _ e2) e3 (s23 _ _ (s1 _ _ ri.hw))
   exact q _ M' (hTB.wr _ _ _ _ (hTB.same _ _ ri.hT (s1.trans s23)) w3) st hM' op
  ·refine absurd (decide_eq_true ?_) c
   have h0:(M.filter (hitN a b))[0]?=zhq m:=h0
   have:=(zab.mp h0).1
   rw[zac]
   omega
theorem ok_shut(hTB:TB T)(G:DkT K C)(X_NoWindow:ExC K cW bmW/\mg "NoWindow"=zhq (.ref cW))(F:Fun K "shut_row" "shut_row" qev9 f fd)(B:Bl mg)(Cf0:Callee P w K mg base n "boards_between" ["desk","places"] (spBoards C)):FnOk P w K mg base (CXE P w) (n+1) f fd ["desk","places","values"] (spShut T C cW):=by
 refine F.okX sc_shut_row (λ vs H Q E h=>?_) (λ cdv A outer s H vs Q E hr h=>?_)
 ·obtain⟨_,_,_,_,_,_,_,_,_,_,ri,_⟩:=h
  obtain⟨_,_,rfl,_⟩:=ri.hv
  rfl
 obtain⟨x,dx,pn,pd,d,a,b,M,r,w,ri,q,qe⟩:=h
 obtain⟨pl,pv,rfl,hl,hv⟩:=ri.hv
 refine⟨_,(qaa9 (qfn9 (i:=3) ["board","values"] [zhr,zhq 2] sc_shut_row.nd rfl (zai rfl) (BlkOk.of rfl rfl (SubL.to (subC rfl subN)) rfl) rfl (qbl9 (qe_fn Cf0 hr rfl (qa_c (qv 0) (qa_c (qv 1) qac9)))) (λ _ _ _ _=>(qat9 (i:=0) (show(["board","values"]:List Str).Nodup by decide) rfl (zai rfl))) (λ _ _ _ _=>qoa9 (qar9 (qop_inDK K rfl hr.units) (qe_ix (qkl9 K rfl) (qv 1) qaf9 (λ _ _=>rfl)) (qv 0) rfl)) (λ _ _ _ _=>(qv 0))) (qaa9 (qs_if (qar9 qef9 (qe_cb qbg9 rfl B.len qeb9 (qa_c (qv 3) qac9)) qaf9 (qbb9 _)) (qae9 (qhi9 makeE X_NoWindow.1 rfl X_NoWindow.2 (qa_c qah9 qac9))) qan9) (qaa9 (qcl9 (qtc9 K rfl hr.units (qe_ix qau9 (qv 3) qaf9 (λ _ _=>rfl)) (qa_c (qe_ix qau9 (qv 2) qaf9 (λ _ _=>rfl)) qac9))) (qae9 (qam9 qah9))))),?_⟩
 walk_at "d"
 have lM:=ri.len
 refine⟨_,rfl,_,rfl,x,pl,dx,pn,pd,d,a,b,M,rfl,ri.hx,ri.hM,lM,hl,λ l H1 s1 e1=>?_⟩
 have hM1:=ri.hM.same s1
 have hv1:=s1 _ _ hv
 have hw1:=s1 _ _ ri.hw
 have a0:atI [V.ref r] 0=zhq (.ref r):=rfl
 have lf:=zcr (hitN a b) M
 refine⟨l,rfl,⟨_,SqL.of e1⟩,?_⟩
 refine qgr9 (K:=K) (a:=l) (xs:=(M.filter (hitN a b)).map λ m=>.ref m.2.2.1) (λ D i H'=>Same H1 H'/\H' D=zhq (.lst ((((M.filter (hitN a b)).take i).filter λ m=>decide (w∈m.2.2.2)).map λ m=>.ref m.2.2.1))) (λ D hD=>⟨qbc9 hD _,qaj9⟩) (λ D i H' _ _ h=>SqL.of (h.1 _ _ e1)) ?_ ?_
 ·intro D i y H' hD hi z9;obtain⟨sD,eD⟩ := z9
  rw[zah] at hi
  cases hmi:(M.filter (hitN a b))[i]? with
  |none=>rw[hmi] at hi;cases hi
  |some m =>
  rw[hmi] at hi
  cases hi
  rw[zbe,hmi,zdg,zaj]
  have li:=(zab.mp hmi).1
  have lt:=zcr (λ m:RdT=>decide (w∈m.2.2.2)) ((M.filter (hitN a b)).take i)
  rw[zbd] at lt
  have mm:=(zdu.mp (zaf hmi)).1
  have hb:=((hM1.bd m mm).1).same sD
  refine⟨λ k v e=>?_,?_⟩
  ·match k,e with
   |0,e=>cases e
   |1,e=>exact e
   |k+2,e=>cases e
  have dw:=d3 w
  refine⟨_,rfl,pv,_,_,_,rfl,rfl,SqL.of (sD _ _ hv1),a0,_,rfl,_,_,rdW (sD _ _ hw1),rdR hb,lay3 _,c3 w,⋯,?_⟩
  rw[any3]
  refine⟨_,rfl,ite2 (λ c=>?_) (λ c=>?_)⟩
  ·refine⟨_,rfl,_,eD,qbq9 (by rw[zac];omega),qaz9 hD sD,?_⟩
   rw[qaj9]
   simp[of_decide_eq_true c]
  ·refine⟨sD,?_⟩
   have c:¬w∈m.2.2.2:=by simpa using c
   rw[eD]
   simp[c]
 intro D H2 hD z9;obtain⟨s2,e2⟩ := z9
 rw[zac,zbk] at e2
 have s02:=s1.trans s2
 have F0:=qkq9 (M:=M) (p:=hitS a b (zhq w)) (L:=(M.filter (hitN a b)).filter λ m=>decide (w∈m.2.2.2)) (by
  rw[List.filter_filter]
  refine List.filter_congr λ m _=>?_
  show(decide _&&decide _)=_
  unfold hitN hitS
  rw[zgi,Bool.and_comm]
  rfl)
 generalize (M.filter (hitN a b)).filter (λ m=>decide (w∈m.2.2.2))=Lf at F0 e2
 refine⟨_,rfl,D,_,rfl,.inl (SqL.of e2),rfl,_,rfl,ite2 (λ c=>?_) (λ c=>?_)⟩
 ·rcases F0 with⟨hn,e⟩|⟨i,m,hi,hm,h0⟩
  ·exact⟨(by show 1<=1000;decide),qe hn H2 s02 (hTB.same _ _ ri.hT s02)⟩
  ·have:=(zab.mp h0).1
   have:=of_decide_eq_true c
   injection this with this
   rw[zac] at this
   omega
 ·rcases F0 with⟨hn,e⟩|⟨i,m,hi,hm,h0⟩
  ·rw[e] at c
   exact absurd rfl c
  have mm:=zaf hm
  have hM2:=hM1.same s2
  have hb:=(hM2.bd m mm).1
  obtain⟨us,u1,u2,_⟩:=id hb.lst
  have b0:atI (Lf.map λ m=>V.ref m.2.2.1) 0=zhq (.ref m.2.2.1):=qcf9 (j:=0) (by rw[zah,h0];rfl)
  have hm':(stN M)[i]?=zhq (strip m):=by unfold stN;rw[zah,hm];rfl
  have hin:w∈m.2.2.2:=(fI_at hi hm').2.2 w rfl
  have dw:=d3 w
  have all:RdAll K H2 us (m.2.2.2.map dat3):=rdAll3 hb u1
  refine⟨_,rfl,D,_,_,_,rfl,rfl,SqL.of e2,b0,.inl ⟨rfl,_,SqL.of u1⟩,_,rfl,pv,_,_,_,rfl,rfl,SqL.of (s2 _ _ hv1),a0,m.2.2.1,_,us,_,_,wAt m.2.2.2 w,rfl,rfl,⟨u1,all,rdW (s2 _ _ hw1),lay3 _,c3 w,⋯,fi3 hin⟩,?_⟩
  have N1:=hM2.setB hm u1 (hb.eraseAt (j:=wAt m.2.2.2 w) u1)
  refine q _ _ (hTB.wr _ _ _ _ (hTB.same _ _ ri.hT s02) u1) ⟨But.wr s02 (ads_mem mm),λ b hb=>.inl ?_⟩ N1 ⟨i,strip m,hi,hm',?_⟩
  ·rw[ads_set (x:=(m.1,m.2.1,m.2.2.1,m.2.2.2.eraseIdx (wAt m.2.2.2 w))) hm rfl] at hb
   exact hb
  ·unfold stN
   rw[zft]
   rfl
end
inductive spDI(T:Hp->Prop)(C:zht)(vs:List V)(H:Hp)(Q:VK)(z3q:XK):Prop
 |mk (x dx:zht) (d:Int) (L:List RoadS) (H0:Hp):vs=[.ref x,.str (netS d L)]->H x=zhq (.ins C dx [])->H0 x=zhr->Same H0 H->T H->Told d L->(∀(H':Hp)(M:List RdT)(pn pr:zht),Same H0 H'->T H'->H' x=zhq (.ins C dx (dfs d pn pr))->H' pn=zhq (.lst ((rdAll L).1.map V.str))->NA H' pr M->M.map strip=(rdAll L).2->(∀b∈pn::ads pr M,H0 b=zhr)->pn∉ads pr M->Q .non H')->spDI T C vs H Q z3q
section
variable {w:zhy}{f:zht}
theorem ok_dI(G:DkT K C)(hTB:TB T)(hTI:TBI T)(F:FunD K "__init__" "Desk.__init__" qaw9 f fd)(Cy0:Callee P w K mg base n "read_net" ["text"] spReadL):FnOk P w K mg base CX0 (n+1) f fd ["self","text"] (spDI T C):=by
 refine F.okQ sc_Desk___init__ (λ vs H Q E h=>?_) (λ cdv A outer s H vs Q E hr h=>?_)
 ·obtain⟨_,_,_,_,_,rfl,_⟩:=h
  rfl
 obtain⟨x,dx,d,L,H0,rfl,hx,fx,s0,hT,tl,q⟩:=h
 refine⟨_,(qaa9 (qak9 (i:=2) sc_Desk___init__.nd rfl (zai rfl) (qe_fn Cy0 hr rfl (qa_c (qv 1) qac9))) (qaa9 (qpv9 (qv 0) (qe_ix qas9 (qv 2) qaf9 (λ _ _=>rfl))) (qaa9 (qpv9 (qv 0) (qe_ix qas9 (qv 2) qaf9 (λ _ _=>rfl))) (qae9 (qpv9 (qv 0) (qe_ix qas9 (qv 2) qaf9 (λ _ _=>rfl))))))),?_⟩
 walk_at "d"
 refine⟨_,rfl,d,L,rfl,tl,λ r pn pr M H1 s1 e1 n1 fn hM fr fM np bM eM=>?_⟩
 have x1:=s1 _ _ hx
 have t1:=hTB.same _ _ hT s1
 have nrx:∀{b:zht}{o:HO},H1 b=zhq o->(∀C dx fs,o ≠ .ins C dx fs)->b≠x:=λ hb ho z=>by
  rw[z,x1] at hb
  exact ho _ _ _ (by injection hb with hb;exact hb.symm)
 refine⟨_,rfl,r,_,_,_,rfl,rfl,SqT.of e1,rfl,_,rfl,x,C,dx,_,rfl,x1,G.cl,G.nd,(by show 0<1000;decide),?_⟩
 have r2:upd H1 x (.ins C dx (putF "day" (.int d) [])) r=zhq (.tup [.int d,.ref pn,.ref pr]):=by rw[qao9 (nrx e1 (by simp))];exact e1
 refine⟨_,rfl,r,_,_,_,rfl,rfl,SqT.of r2,rfl,_,rfl,x,C,dx,_,rfl,qaj9,G.cl,G.nn,(by show 1<1000;decide),?_⟩
 rw[upd_two]
 have r3:upd H1 x (.ins C dx (putF "names" (.ref pn) (putF "day" (.int d) []))) r=zhq (.tup [.int d,.ref pn,.ref pr]):=by rw[qao9 (nrx e1 (by simp))];exact e1
 refine⟨_,rfl,r,_,_,_,rfl,rfl,SqT.of r3,rfl,_,rfl,x,C,dx,_,rfl,qaj9,G.cl,G.nr,(by show 2<1000;decide),?_⟩
 rw[upd_two]
 have ef:putF "roads" (.ref pr) (putF "names" (.ref pn) (putF "day" (.int d) []))=dfs d pn pr:=rfl
 rw[ef]
 refine q _ M pn pr (qaz9 fx (s0.trans s1)) (hTI _ x C dx _ _ t1 x1) qaj9 (by rw[qao9 (nrx n1 (by simp))];exact n1) (hM.offI x1) eM (λ b hb=>?_) λ z=>?_
 ·rcases zag.mp hb with rfl|hb
  ·exact s0.free fn
  ·rcases zag.mp hb with rfl|hb
   ·exact s0.free fr
   ·obtain⟨m,hm,rfl⟩:=zas.mp hb
    exact s0.free (fM m hm)
 ·rcases zag.mp z with z|z
  ·exact np z
  ·obtain⟨m,hm,e⟩:=zas.mp z
   exact bM m hm e
end
def BA(H:Hp)(p:zht)(Bs:List (List T3)):Prop:=∃rs:List zht,H p=zhq (.lst (rs.map V.ref))/\rs.length=Bs.length/\p∉rs/\rs.Nodup/\∀(i:Nat) r B,rs[i]?=zhq r->Bs[i]?=zhq B->LA enc3 H r B
section
variable {H H':Hp}{p q:zht}{Bs:List (List T3)}{d:Int}
theorem BA.nil(h:H p=zhq (.lst [])):BA H p []:=⟨[],h,rfl,by simp,List.nodup_nil,λ i r B e=>by simp at e⟩
theorem BA.u(h:BA H p Bs)(s:SameU H H'):BA H' p Bs:=by
 obtain⟨rs,h1,h2,h3,h4,h5⟩:=h
 exact⟨rs,s.lst h1,h2,h3,h4,λ i r B a b=>(h5 i r B a b).u s⟩
theorem BA.lst(h:BA H p Bs):∃rs:List zht,H p=zhq (.lst (rs.map V.ref))/\rs.length=Bs.length:=by
 obtain⟨rs,h1,h2,_⟩:=h
 exact⟨rs,h1,h2⟩
theorem BA.rd(h:BA H p Bs):RdV K H (.ref p) (.list (Bs.map datB)):=by
 obtain⟨rs,h1,h2,-,-,h5⟩:=h
 refine .lst (SqL.of h1) ?_
 clear h1
 induction rs generalizing Bs with
 |nil =>
  cases Bs with
  |nil=>exact .nil
  |cons B Bs=>simp at h2
 |cons r rs ih =>
  cases Bs with
  |nil=>simp at h2
  |cons B Bs=>exact .cons (rd3 (h5 0 r B rfl rfl)) (ih (Bs:=Bs) (by simpa using h2) λ i r B a b=>h5 (i+1) r B a b)
theorem BA.snoc{B:List T3}(h:BA H p Bs)(hx:H p=zhq (.lst (rs.map V.ref)))(hr:LA enc3 H r B)(n1:r≠p)(n2:r∉rs):BA (upd H p (.lst (rs.map V.ref++[.ref r]))) p (Bs++[B]):=by
 obtain⟨rs',h1,h2,h3,h4,h5⟩:=h
 rw[hx] at h1
 have e:rs=rs':=by
  have:rs.map V.ref=rs'.map V.ref:=by
   injection h1 with h1
   injection h1
  exact(zet λ a b z=>by cases z;rfl).mp this
 subst e
 refine⟨rs++[r],by rw[qaj9];simp,by simp[h2],by simp[h3,Ne.symm n1],?_,λ i r' B' a b=>?_⟩
 ·rw[zcx]
  exact⟨h4,by simp,λ a ha b hb=>by rw[zae] at hb;subst hb;exact λ z=>n2 (z ▸ ha)⟩
 ·rcases zdz i rs.length with z|z
  ·rw[zat z] at a
   rw[zat ⋯] at b
   exact qcd9 (h5 i r' B' a b) hx λ z=>h3 (z ▸ zaf a)
  ·obtain⟨lt,_⟩:=zab.mp a
   have ei:i=rs.length:=by simp at lt;omega
   subst ei
   rw[zau (zaq _),zea] at a
   rw[zau ⋯,show rs.length-Bs.length=0 by omega] at b
   cases a
   cases b
   exact qcd9 hr hx n1
theorem BA.put{t:zht}{B:List T3}{x:T3}(h:BA H p (Bs++[B]))(hl:∃rs:List zht,H p=zhq (.lst (rs.map V.ref))/\rs[rs.length-1]?=zhq r)(hv:H r=zhq (.lst vs))(ht:H t=zhq (.tup (enc3 x))) :
  BA (upd H r (.lst (vs++[.ref t]))) p (Bs++[B++[x]]):=by
 obtain⟨rs',h1,h2,h3,h4,h5⟩:=h
 obtain⟨rs,hx,hr⟩:=hl
 rw[hx] at h1
 have e:rs=rs':=by
  have:rs.map V.ref=rs'.map V.ref:=by
   injection h1 with h1
   injection h1
  exact(zet λ a b z=>by cases z;rfl).mp this
 subst e
 have hlen:rs.length=Bs.length+1:=by simpa using h2
 have np:p≠r:=λ z=>h3 (z ▸ zaf hr)
 refine⟨rs,by rw[qao9 np];exact hx,by simp[hlen],h3,h4,λ i r' B' a b=>?_⟩
 obtain⟨lt,ea⟩:=zab.mp a
 rcases(by omega:i<Bs.length\/i=Bs.length) with z|z
 ·rw[zat z] at b
  have ne:r'≠r:=λ z2=>by
   obtain⟨lt2,eb⟩:=zab.mp hr
   have:rs[i]=rs[rs.length-1]:=by rw[ea,eb,z2]
   have:=(zfc h4).mp this
   omega
  exact qcd9 (h5 i r' B' a (by rw[zat z];exact b)) hv ne
 ·subst z
  have er:r'=r:=by
   rw[show rs.length-1=Bs.length by omega,a] at hr
   exact Option.some.inj hr
  subst er
  rw[zau (zaq _),zea] at b
  cases b
  exact(h5 _ _ B a (by rw[zau (zaq _),zea];rfl)).append (x:=x) hv ht
end
def Yg(H H':Hp)(p:zht):Prop:=∀rs:List zht,H' p=zhq (.lst (rs.map V.ref))->∀r∈rs,H r=zhr
theorem qjj9{rs':List zht}(h:(HO.lst (rs.map V.ref))=.lst (rs'.map V.ref)):rs=rs':=by
 injection h with h
 exact(zet λ a b z=>by cases z;rfl).mp h
theorem Yg.of(e:H' p=zhq (.lst (rs.map V.ref)))(h:∀r∈rs,H r=zhr):Yg H H' p:=λ rs' e'=>by
 rw[e] at e'
 rw[<- qjj9 (Option.some.inj e')]
 exact h
theorem LA.one{x:T3}(h:H p=zhq (.lst [.ref r]))(e:H r=zhq (.tup (enc3 x))):LA enc3 H p [x]:=LA.of h rfl λ i y hi=>by
 match i,hi with
 |0,hi=>cases hi;exact⟨r,rfl,λ z hz=>by cases hz;exact e⟩
 |k+1,hi=>simp at hi
theorem qku9{α:Type}{L:List α}{x:α}(h:L[i]?=zhq x):L.take (i+1)=L.take i++[x]:=by rw[List.take_succ,h];rfl
theorem BA.pushAt{t:zht}{C:List T3}{x:T3}(h:BA H p Cs)(hx:H p=zhq (.lst (rs.map V.ref)))(hi:rs[i]?=zhq r)(hC:Cs[i]?=zhq C)(hv:H r=zhq (.lst vs))(ht:H t=zhq (.tup (enc3 x))) :
  BA (upd H r (.lst (vs++[.ref t]))) p (Cs.set i (C++[x])):=by
 obtain⟨rs',h1,h2,h3,h4,h5⟩:=h
 rw[hx] at h1
 have e:=qjj9 (Option.some.inj h1)
 subst e
 have np:p≠r:=λ z=>h3 (z ▸ zaf hi)
 refine⟨rs,by rw[qao9 np];exact hx,by simp[h2],h3,h4,λ j r' B a b=>?_⟩
 obtain⟨la,ea⟩:=zab.mp a
 obtain⟨li,ei⟩:=zab.mp hi
 rw[zfb] at b
 by_cases z:i=j
 ·subst z
  rw[if_pos rfl,if_pos ⋯] at b
  cases b
  rw[hi] at a
  cases a
  exact(h5 _ _ C hi hC).append (x:=x) hv ht
 ·rw[if_neg z] at b
  have ne:r'≠r:=λ z2=>by
   have:rs[j]=rs[i]:=by rw[ea,ei,z2]
   exact z ((zfc h4).mp this).symm
  exact qcd9 (h5 j r' B a b) hv ne
theorem BA.off{ys:List V}(h:BA H p Cs)(hx:H p=zhq (.lst (rs.map V.ref)))(hr:H r=zhq (.lst vs))(n1:p≠r)(n2:r∉rs):BA (upd H r (.lst ys)) p Cs:=by
 obtain⟨rs',h1,h2,h3,h4,h5⟩:=h
 rw[hx] at h1
 have e:=qjj9 (Option.some.inj h1)
 subst e
 exact⟨rs,by rw[qao9 n1];exact hx,h2,h3,h4,λ j r' B a b=>qcd9 (h5 j r' B a b) hr λ z=>n2 (z ▸ zaf a)⟩
theorem BA.self(h:BA H p Cs)(hx:H p=zhq (.lst (rs.map V.ref))):p∉rs/\rs.Nodup/\rs.length=Cs.length/\∀r∈rs,H r≠zhr:=by
 obtain⟨rs',h1,h2,h3,h4,h5⟩:=h
 rw[hx] at h1
 have e:=qjj9 (Option.some.inj h1)
 subst e
 refine⟨h3,h4,h2,λ r hr z=>?_⟩
 obtain⟨j,hj⟩:=zct hr
 have lj:=(zab.mp hj).1
 exact la_ne (enc':=enc3) (h5 j r _ hj (zad ⋯)) z rfl
def totC(Cs:List (List T3)):Nat:=(Cs.map zeh).sum
theorem qnr9:∀{Cs:List (List T3)} {j:Nat} {C:List T3} {x:T3},Cs[j]?=zhq C->totC (Cs.set j (C++[x]))=totC Cs+1
 | [],j,C,x,h=>by cases h
 |z::Cs,0,C,x,h=>by
  cases h
  simp only[zfz,totC,zbh,zeb,zap,zcd]
  omega
 |z::Cs,j+1,C,x,h=>by
  have:=qnr9 (Cs:=Cs) (j:=j) (C:=C) (x:=x) (by simpa using h)
  simp only[zga,totC,zbh,zeb] at this ⊢
  omega
theorem totC_rep(n:Nat):totC (zbc n [])=0:=by
 induction n with
 |zero=>rfl
 |succ n ih=>simpa [totC,zca] using ih
inductive spRide70(vs:List V)(H:Hp)(Q:VK)(z3q:XK):Prop
 |mk (cell day:Int):vs=[.int cell,.int day]->1<=day->day<=1000000000000000->(∀(c:Int)(H':Hp),Same H H'->1<=c->c<=1000000000000000->Q (.int c) H')->spRide70 vs H Q z3q
inductive spRoads84(K:W.Frag)(vs:List V)(H:Hp)(Q:VK)(z3q:XK):Prop
 |mk (a:zht) (ns:List Int) (day size goal most:Int):vs=[.ref a,.int day,.int size,.int goal,.int most]->SqL K H a (ns.map V.int)->ns.length<=63->1<=day->day<=1000000000000000->1<=size->0<=most->most<=6->(∀(l:zht)(N:List RdT)(H':Hp),Same H H'->NA H' l N->RoadsIn day size N->N.length<=4->totC (N.map λ m=>m.2.2.2)<=most.toNat->(∀b∈l::N.map λ m=>m.2.2.1,H b=zhr)->Q (.ref l) H')->spRoads84 K vs H Q z3q
theorem menu5(h0:0<=j)(h1:j<5):∃v:Int,atI [V.int 2,V.int 3,V.int 4,V.int 1,V.int 0] j=zhq (.int v)/\0<=v/\v<=4:=by
 rcases(by omega:j=0\/j=1\/j=2\/j=3\/j=4) with rfl|rfl|rfl|rfl|rfl
 all_goals exact⟨_,rfl,by decide,by decide⟩
theorem menu5b(h0:0<=j)(h1:j<5):∃v:Int,atI [V.int 1,V.int 1,V.int 2,V.int 1,V.int 0] j=zhq (.int v):=by
 rcases(by omega:j=0\/j=1\/j=2\/j=3\/j=4) with rfl|rfl|rfl|rfl|rfl
 all_goals exact⟨_,rfl⟩
section
variable {w:zhy}{f:zht}
theorem ok_ride70(F:Fun K "_law_ride" "_law_ride" qdp9 f fd)(B:Bl mg):FnOk P w K mg base CX0 (n+1) f fd ["cell","day"] spRide70:=by
 refine F.okQ qnd9 (λ vs H Q E h=>?_) (λ cdv A outer s H vs Q E hr h=>?_)
 ·obtain⟨_,_,rfl,_⟩:=h
  rfl
 obtain⟨c,day,rfl,d1,d2,q⟩:=h
 refine⟨_,(qae9 (qam9 (qe_op qbu9 qaf9 (qe_op qbj9 (qe_op qbm9 (qv 0) qaf9) (qe_ix qau9 (qbi9 (qa_c qaf9 (qa_c qaf9 (qa_c (qe_cb (qkj9 rfl) rfl B.min bt_min (qa_c (qe_op qsq9 qaf9 (qv 1)) (qa_c (qe_op qji9 qaf9 qaf9) qac9))) (qa_c (qe_op qji9 qaf9 qaf9) qac9))))) (qe_op qbj9 (qv 0) qaf9) (λ _ _=>rfl)))))),?_⟩
 walk_at "d"
 refine⟨_,rfl,_,_,rfl,rfl,⟨by decide,by decide⟩,_,rfl,_,_,rfl,rfl,.inl ⟨by decide,by decide⟩,_,_,rfl,rfl,⟨by decide,by decide,by decide⟩,_,_,rfl,_,_,rfl,rfl,⟨by decide,by decide,by decide⟩,(by show 4<=zhu;decide),λ p hp=>?_⟩
 dsimp only
 have hm:1<=(if(10:Int) ^ (15:Int).toNat<2*day then(10:Int) ^ (15:Int).toNat else 2*day)/\(if(10:Int) ^ (15:Int).toNat<2*day then(10:Int) ^ (15:Int).toNat else 2*day)<=1000000000000000:=by
  rw[pow15]
  split<;>omega
 generalize (if(10:Int) ^ (15:Int).toNat<2*day then(10:Int) ^ (15:Int).toNat else 2*day)=x at *
 generalize hgH1:upd _ p _=H1
 revert H1
 refine qal9 hp λ H1 s1 e1=>?_
 obtain⟨v,hv,v0,v1⟩:∃v:Int,atI [V.int 3,V.int 8,V.int x,V.int ((10:Int) ^ (15:Int).toNat)] (c%4)=zhq (.int v)/\1<=v/\v<=1000000000000000:=by
  have e0:=zdp c (by decide:(4:Int)≠0)
  have e1:=zdb c (by decide:(0:Int)<4)
  rcases(by omega:c%4=0\/c%4=1\/c%4=2\/c%4=3) with e|e|e|e
  ·exact⟨3,by rw[e];rfl,by decide,by decide⟩
  ·exact⟨8,by rw[e];rfl,by decide,by decide⟩
  ·exact⟨x,by rw[e];rfl,hm.1,hm.2⟩
  ·exact⟨(10:Int) ^ (15:Int).toNat,by rw[e];rfl,by rw[pow15];decide,by rw[pow15];decide⟩
 have em:=qfj9 (c/4) (show 0<v by omega)
 exact⟨_,rfl,_,_,rfl,rfl,(by show(0:Int)<4;decide),p,_,_,.int v,rfl,rfl,SqL.of e1,hv,_,_,rfl,rfl,⋯,_,_,rfl,rfl,q _ H1 s1 ⋯ ⋯⟩
theorem qtm9(F:Fun K "_law_roads" "_law_roads" qdd9 f fd)(B:Bl mg)(Cc0:Callee P w K mg base n "_law_cell_at" ["script","k"] (spCell K))(Cy1:Callee P w K mg base n "_law_stay" ["cell","room"] spStay)(Cz1:Callee P w K mg base n "_law_ride" ["cell","day"] spRide70):FnOk P w K mg base CX0 (n+1) f fd ["script","day","size","goal","most"] (spRoads84 K):=by
 refine F.okQ sc__law_roads (λ vs H Q E h=>?_) (λ cdv A outer s H vs Q E hr h=>?_)
 ·obtain⟨_,_,_,_,_,_,rfl,_⟩:=h
  rfl
 obtain⟨a,ns,day,size,goal,most,rfl,hS,h63,d1,d2,z1,m0,m1,q⟩:=h
 refine⟨_,(qaa9 (qak9 (i:=5) sc__law_roads.nd rfl (zai rfl) (qe_ix qau9 (qbi9 (qa_c qaf9 (qa_c qaf9 (qa_c qaf9 (qa_c qaf9 (qa_c qaf9 qac9)))))) (qe_op qbj9 (qe_op qbm9 (qe_fn Cc0 hr rfl (qa_c (qv 0) (qa_c qaf9 qac9))) qaf9) qaf9) (λ _ _=>rfl))) (qaa9 (qfn9 (i:=6) ["k"] [zhr] sc__law_roads.nd rfl (zai rfl) (BlkOk.of rfl rfl (SubL.to subN) rfl) rfl (qia9 rfl B.range (qa_c (qv 5) qac9)) (λ _ _ _ _=>(qat9 (i:=0) (show(["k"]:List Str).Nodup by decide) rfl (zai rfl))) (λ _ _ _ _=>qdh9) (λ _ _ _ _=>(qbi9 qac9))) (qaa9 (qeo9 ziq.never rfl (qi_range3 rfl B.range (qa_c qaf9 (qa_c (qe_cb (qkj9 rfl) rfl B.min bt_min (qa_c (qe_op qgy9 (qe_cb qbg9 rfl B.len qeb9 (qa_c (qv 0) qac9)) qaf9) (qa_c (qe_op qbu9 qaf9 (qe_op qsq9 qaf9 (qv 4))) qac9))) (qa_c qaf9 qac9)))) (qat9 (i:=7) sc__law_roads.nd rfl (zai rfl)) (qae9 (qs_if (qar9 qrk9 (qv 5) qaf9 (qbb9 _)) (qaa9 (qak9 (i:=8) sc__law_roads.nd rfl (zai rfl) (qe_op qbj9 (qe_ix qau9 (qv 0) (qv 7) (λ _ _=>rfl)) (qv 1))) (qaa9 (qak9 (i:=9) sc__law_roads.nd rfl (zai rfl) (qe_op qbu9 (qv 8) (qe_fn Cy1 hr rfl (qa_c (qe_ix qau9 (qv 0) (qe_op qbu9 (qv 7) qaf9) (λ _ _=>rfl)) (qa_c (qe_op qgy9 (qv 1) (qv 8)) qac9))))) (qaa9 (qak9 (i:=10) sc__law_roads.nd rfl (zai rfl) (qe_op qbu9 (qe_op qbm9 (qv 7) qaf9) (qe_op qsq9 (qe_op qbm9 (qe_ix qau9 (qv 0) (qe_op qbu9 (qv 7) qaf9) (λ _ _=>rfl)) qaf9) (qe_op qbm9 (qe_op qbj9 (qe_ix qau9 (qv 0) (qe_op qbu9 (qv 7) qaf9) (λ _ _=>rfl)) qaf9) qaf9)))) (qae9 (qcl9 (qbf9 (qe_ix qau9 (qv 6) (qe_op qbj9 (qv 10) (qv 5)) (λ _ _=>rfl)) (qa_c (qbn9 (qa_c (qv 8) (qa_c (qv 9) (qa_c (qe_fn Cz1 hr rfl (qa_c (qe_ix qau9 (qv 0) (qe_op qbu9 (qv 7) qaf9) (λ _ _=>rfl)) (qa_c (qv 1) qac9))) qac9)))) qac9))))))) qan9))) (qaa9 (qak9 (i:=11) sc__law_roads.nd rfl (zai rfl) (qbi9 qac9)) (qaa9 (qeo9 ziq.never rfl (qia9 rfl B.range (qa_c (qv 5) qac9)) (qat9 (i:=7) sc__law_roads.nd rfl (zai rfl)) (qaa9 (qak9 (i:=12) sc__law_roads.nd rfl (zai rfl) (qe_fn Cc0 hr rfl (qa_c (qv 0) (qa_c (qe_op qbu9 qaf9 (qv 7)) qac9)))) (qaa9 (qak9 (i:=13) sc__law_roads.nd rfl (zai rfl) (qe_op qbj9 (qe_op qbu9 (qe_op qbu9 (qv 3) (qv 7)) qaf9) (qv 2))) (qaa9 (qak9 (i:=14) sc__law_roads.nd rfl (zai rfl) (qe_op qbj9 (qe_op qbu9 (qv 3) (qv 7)) (qv 2))) (qob9 (qs_if (qgd9 (QW.pt (qw_or (qar9 qop_ge (qv 7) (qe_op qgy9 (qv 2) qaf9) (qbb9 _)) (qeq9 (qar9 qef9 (qe_op qbj9 (qv 12) qaf9) qaf9 (qbb9 _)))))) (qaa9 (qak9 (i:=13) sc__law_roads.nd rfl (zai rfl) (qe_op qbj9 (qe_op qbm9 (qv 12) qaf9) (qv 2))) (qae9 (qak9 (i:=14) sc__law_roads.nd rfl (zai rfl) (qe_op qbj9 (qe_op qbu9 (qv 13) (qe_ix qau9 (qbi9 (qa_c qaf9 (qa_c qaf9 (qa_c qaf9 (qa_c qaf9 (qa_c qaf9 qac9)))))) (qe_op qbj9 (qe_op qbm9 (qv 12) qaf9) qaf9) (λ _ _=>rfl))) (qv 2))))) qan9) (qae9 (qcl9 (qbf9 (qv 11) (qa_c (qbn9 (qa_c (qv 13) (qa_c (qv 14) (qa_c (qe_ix qau9 (qv 6) (qv 7) (λ _ _=>rfl)) qac9)))) qac9))))))))) (qae9 (qam9 (qv 11)))))))),?_⟩
 walk_at "d"
 have hl:(ns.map V.int).length=ns.length:=zac _
 refine⟨(by show 5<=zhu;decide),λ p1 hp1=>?_⟩
 generalize hgH1:upd _ p1 _=H1
 revert H1
 refine qal9 hp1 λ H1 s1 e1=>?_
 refine⟨_,rfl,a,ns,1,rfl,s1.seq hS,by decide,λ c1=>?_⟩
 obtain⟨mv,hv,mv0,mv1⟩:=menu5 (j:=c1/3%5) (zdp _ (by decide)) (zdb _ (by decide))
 obtain⟨many,rfl⟩:∃k:Nat,mv=(k:Int):=⟨mv.toNat,⋯⟩
 refine⟨_,_,rfl,rfl,⟨by decide,by decide⟩,_,_,rfl,rfl,(by show(0:Int)<5;decide),p1,_,_,.int (many:Int),rfl,rfl,SqL.of e1,hv,?_⟩
 refine⟨_,rfl,(many:Int),rfl,⋯,⋯,?_⟩
 refine qpa9 (lo:=0) (n:=((many:Nat):Int).toNat) (λ D i H'=>Same H1 H'/\BA H' D (zbc i [])/\Yg H1 H' D) (λ D hD=>⟨qbc9 hD _,BA.nil qaj9,Yg.of (rs:=[]) qaj9 (λ r hr=>by cases hr)⟩) ?_ ?_
 ·intro D i H' hD hi z9;obtain⟨sD,hB,hY⟩ := z9
  refine⟨λ k v e=>?_,?_⟩
  ·match k,e with
   |0,e=>cases e
   |k+1,e=>cases e
  refine⟨(by show 0<=zhu;decide),λ l fl=>?_⟩
  obtain⟨os,o1,o2,o3,o4,o5⟩:=id hB
  have hol:os.length=i:=by rw[o2];simp
  have nlD:l≠D:=λ z=>by rw[z,o1] at fl;cases fl
  have nlo:l∉os:=λ z=>by
   obtain⟨j,hj⟩:=zct z
   have lj:=(zab.mp hj).1
   exact la_ne (enc':=enc3) (o5 j l _ hj (zad ⋯)) fl rfl
  have s2:=qbc9 fl (.lst [])
  refine⟨_,s2 _ _ o1,qbq9 (by simp;omega),qaz9 hD (sD.trans s2),?_,Yg.of (rs:=os++[l]) (by rw[qaj9];simp) λ r hr=>?_⟩
  ·have:=(hB.u (SameU.of s2)).snoc (s2 _ _ o1) (LA.nil qaj9) nlD nlo
   rw[zdl]
   exact this
  ·rcases zak.mp hr with hr|hr
   ·exact hY os o1 r hr
   ·rw[zae] at hr
    subst hr
    exact sD.free fl
 intro pb H2 hpb z9;obtain⟨s2,hB,hY⟩ := z9
 rw[show((many:Nat):Int).toNat=many by omega] at hB
 have s02:=s1.trans s2
 obtain⟨os,o1,o2⟩:=hB.lst
 have o3:∀r∈os,H1 r=zhr:=hY os o1
 refine⟨_,rfl,a,_,rfl,.inl (s02.seq hS),_,_,rfl,rfl,_,rfl,_,_,rfl,rfl,.inl ⟨by decide,by decide⟩,_,_,rfl,rfl,_,_,rfl,?_⟩
 generalize hhi:(if 10+4*most<(((ns.map V.int).length:Nat):Int)-3 then 10+4*most else(((ns.map V.int).length:Nat):Int)-3)=hi
 have hh1:hi<=(ns.length:Int)-3:=by rw[<- hhi];split<;>omega
 have hh2:-10<=hi:=by rw[<- hhi];split<;>omega
 have hh3:hi<=10+4*most:=by rw[<- hhi];split<;>omega
 have hcn:∀i,i<cnt3 10 hi 4->10+(i:Int)*4<hi:=λ i hi'=>cnt3_lt (by decide) hi'
 have hcl:cnt3 10 hi 4<=most.toNat:=by
  rcases zek (cnt3 10 hi 4) with z|z
  ·omega
  ·have:=hcn (cnt3 10 hi 4-1) ⋯
   omega
 refine⟨10,hi,4,rfl,⟨⋯,⋯,⋯,⋯,by decide,by decide⟩,qqu9 (lo:=10) (st:=4) (n:=cnt3 10 hi 4)
  (λ i σ H'=>E5q λ(Cs:List (List T3)) (v7 v8 v9 v10:Option V)=>A7q (σ=[sR9 a,sI9 day,sI9 size,sI9 goal,sI9 most,sI9 many,sR9 pb,v7,v8,v9,v10,zhr,zhr,zhr,zhr]) (Same H H') (BA H' pb Cs) (H' pb=zhq (.lst (os.map V.ref))) (Cs.length=many) (totC Cs<=i) (∀C∈Cs,C.length<=i/\∀w∈C,0<=w.1/\w.1<=w.2.1/\w.2.1<day/\1<=w.2.2/\w.2.2<=1000000000000000))
  ⟨_,_,_,_,_,rfl,s02,hB,o1,by simp,by rw[totC_rep];omega,λ C hC=>?_⟩ ?_ ?_⟩
 ·have:=(List.mem_replicate.mp hC).2
  subst this
  exact⟨zaq _,λ w hw=>by cases hw⟩
 ·intro i σ H3 hi' z9;obtain⟨Cs,v7,v8,v9,v10,rfl,s3,hB3,o13,lC,tC,aC⟩ := z9
  have hk:=hcn i hi'
  have k0:0<=10+(i:Int)*4:=⋯
  generalize 10+(i:Int)*4=k at *
  refine⟨_,rfl,_,_,rfl,rfl,_,rfl,ite2 (λ c=>?_) (λ c=>⟨Cs,_,_,_,_,rfl,s3,hB3,o13,lC,⋯,λ C hC=>⟨by have:=(aC C hC).1;omega,(aC C hC).2⟩⟩)⟩
  have mp:(0:Int)<(many:Int):=of_decide_eq_true c
  have hS3:=s3.seq hS
  have at_:∀j:Int,0<=j->j<(ns.length:Int)->∃v:Int,atI (ns.map V.int) j=zhq (.int v):=λ j j0 j1=>at_int j0 j1
  obtain⟨x1,hx1⟩:=at_ k k0 ⋯
  obtain⟨x2,hx2⟩:=at_ (k+1) ⋯ ⋯
  obtain⟨x3,hx3⟩:=at_ (k+2) ⋯ ⋯
  obtain⟨x4,hx4⟩:=at_ (k+3) ⋯ ⋯
  have em:=qfj9 x1 (show 0<day by omega)
  refine⟨_,rfl,_,rfl,a,_,_,_,rfl,rfl,hS3,hx1,_,rfl,_,_,rfl,rfl,(by show 0<day;omega),?_⟩
  dsimp only
  generalize x1%day=ax at *
  refine⟨_,rfl,_,rfl,_,rfl,_,_,rfl,rfl,a,_,_,_,rfl,rfl,hS3,hx2,_,rfl,_,rfl,_,_,rfl,rfl,x2,day-ax,rfl,⋯,λ sy y0 y1=>⟨_,_,rfl,rfl,?_⟩⟩
  refine⟨_,rfl,_,_,rfl,rfl,⟨by decide,by decide⟩,_,rfl,_,rfl,_,_,rfl,rfl,a,_,_,_,rfl,rfl,hS3,hx4,_,_,rfl,rfl,⟨by decide,by decide⟩,_,rfl,_,rfl,_,_,rfl,rfl,a,_,_,_,rfl,rfl,hS3,hx4,_,_,rfl,rfl,(by show(0:Int)<3;decide),_,_,rfl,rfl,⟨by decide,by decide⟩,_,_,rfl,rfl,?_,_,_,rfl,rfl,?_⟩
  ·right
   have:=qfj9 x4 (show(0:Int)<3 by decide)
   refine⟨?_,?_⟩
   ·show -(2 ^ 64)<x4%3/2
    omega
   ·show x4%3/2<2 ^ 64
    omega
  dsimp only
  generalize k/4+x4/3*(x4%3/2)=at'
  have ab:=qfj9 at' mp
  obtain⟨j,hj⟩:=zbz ab.1
  have lo:os.length=many:=by
   obtain⟨_,_,e,_⟩:=hB3.self o13
   omega
  have hr:=zad (show j<os.length by omega)
  have hC:=zad (show j<Cs.length by omega)
  have mC:=zaf hC
  have mr:=zaf hr
  generalize os[j]=rb at hr mr
  generalize Cs[j]=C at hC mC
  have laC:LA enc3 H3 rb C:=by
   obtain⟨rs',h1,h2,h3,h4,h5⟩:=id hB3
   rw[o13] at h1
   have e:=qjj9 (Option.some.inj h1)
   subst e
   exact h5 j rb C hr hC
  obtain⟨us,u1,u2,u3⟩:=laC.lst
  have av:atI (os.map V.ref) (at'%(many:Int))=zhq (.ref rb):=by
   rw[hj]
   exact qcf9 (by rw[zah,hr];rfl)
  refine⟨_,rfl,_,rfl,_,rfl,_,_,rfl,rfl,mp,pb,_,_,_,rfl,rfl,SqL.of o13,av,.inl ⟨rfl,_,SqL.of u1⟩,_,rfl,_,rfl,_,rfl,_,rfl,_,_,rfl,rfl,a,_,_,_,rfl,rfl,hS3,hx3,_,rfl,x3,day,rfl,d1,d2,λ c' H4 s4 c0 c1'=>?_⟩
  refine⟨(by show 3<=zhu;decide),λ rr hrr=>?_⟩
  generalize hgH5:upd _ rr _=H5
  revert H5
  refine qal9 hrr λ H5 s5 e5=>?_
  have s45:=s4.trans s5
  have fresh:H rb=zhr:=s1.free (o3 rb mr)
  have aCC:=aC C mC
  have npb:pb≠rb:=λ z=>(hB3.self o13).1 (z ▸ mr)
  refine⟨rb,us,.ref rr,rfl,rfl,s45 _ _ u1,qbq9 ⋯,Cs.set j (C++[(ax,ax+sy,c')]),_,_,_,_,rfl,qaz9 fresh (s3.trans s45),(hB3.u (SameU.of s45)).pushAt (s45 _ _ o13) hr hC (s45 _ _ u1) e5,?_,by simp[lC],by rw[qnr9 hC];omega,λ C' hC'=>?_⟩
  ·rw[qao9 npb]
   exact s45 _ _ o13
  ·rcases zcs hC' with z|z
   ·exact⟨by have:=(aC C' z).1;omega,(aC C' z).2⟩
   ·subst z
    refine⟨by simp;omega,λ w hw=>?_⟩
    rcases zak.mp hw with hw|hw
    ·exact aCC.2 w hw
    ·rw[zae] at hw
     subst hw
     exact⟨em.1,by show ax<=ax+sy;omega,by show ax+sy<day;omega,c0,c1'⟩
 intro σ H3 z9;obtain⟨Cs,v7,v8,v9,v10,rfl,s3,hB3,o13,lC,tC,aC⟩ := z9
 refine⟨(by show 0<=zhu;decide),λ pr hpr=>?_⟩
 have hpr':=hpr
 generalize hgH4:upd _ pr _=H4
 revert H4
 refine qal9 hpr λ H4 s4 e4=>?_
 have o14:=s4 _ _ o13
 have hB4:=hB3.u (SameU.of s4)
 obtain⟨ns1,ns2,ns3,_⟩:=hB4.self o14
 have nop:pr≠pb/\pr∉os:=by
  refine⟨λ z=>(by rw[z,o13] at hpr';cases hpr'),λ z=>?_⟩
  exact(hB3.self o13).2.2.2 pr z hpr'
 refine⟨_,rfl,(many:Int),rfl,⋯,⋯,qic9 (lo:=0) (n:=((many:Nat):Int).toNat)
  (λ i σ H'=>E5q λ(N:List RdT) (v7 v12 v13 v14:Option V)=>A9q (σ=[sR9 a,sI9 day,sI9 size,sI9 goal,sI9 most,sI9 many,sR9 pb,v7,v8,v9,v10,sR9 pr,v12,v13,v14]) (Same H H') (BA H' pb Cs) (H' pb=zhq (.lst (os.map V.ref))) (NA H' pr N) (N.length=i) (RoadsIn day size N) ((N.map λ m=>m.2.2.1)=os.take i) ((N.map λ m=>m.2.2.2)=Cs.take i))
  ⟨[],_,_,_,_,rfl,s3.trans s4,hB4,o14,NA.nil e4,rfl,(λ m hm=>by cases hm),rfl,rfl⟩ ?_ ?_⟩
 ·intro i σ H5 hi z9;obtain⟨N,v7',v12,v13,v14,rfl,s5,hB5,o15,hN,lN,inN,mN,bN⟩ := z9
  rw[show(0:Int)+((i:Nat):Int)=(i:Int) by omega]
  have i1:i<os.length:=⋯
  have i2:i<Cs.length:=⋯
  have sp:0<size:=⋯
  refine⟨_,rfl,_,rfl,_,_,rfl,rfl,a,ns,6+(i:Int),rfl,s5.seq hS,⋯,λ cell=>?_⟩
  refine⟨_,rfl,_,rfl,_,_,rfl,rfl,_,_,rfl,rfl,_,rfl,_,_,rfl,rfl,sp,?_⟩
  refine⟨_,rfl,_,rfl,_,_,rfl,rfl,_,rfl,_,_,rfl,rfl,sp,?_⟩
  refine⟨λ σ' H'=>E2q λ(here there:Int)=>A4q (σ'=[sR9 a,sI9 day,sI9 size,sI9 goal,sI9 most,sI9 many,sR9 pb,sI9 (i:Int),v8,v9,v10,sR9 pr,sI9 cell,sI9 here,sI9 there]) (Same H5 H') ((0<=here/\here<size)) ((0<=there/\there<size)),?_,?_⟩
  ·refine⟨λ b H'=>H'=H5,?_,?_⟩
   ·refine⟨_,rfl,_,rfl,_,_,rfl,rfl,_,_,rfl,rfl,_,rfl,ite2 (λ c=>rfl) (λ c=>?_)⟩
    exact⟨_,rfl,_,_,rfl,rfl,(by show(0:Int)<4;decide),rfl,_,rfl,rfl⟩
   rintro b H6 rfl
   refine ite2 (λ c=>?_) (λ c=>⟨_,_,rfl,Same.refl _,qfj9 _ sp,qfj9 _ sp⟩)
   refine⟨_,rfl,_,_,rfl,rfl,⟨by decide,by decide⟩,_,rfl,_,_,rfl,rfl,sp,?_⟩
   refine⟨_,rfl,(by show 5<=zhu;decide),λ p6 hp6=>?_⟩
   generalize hgH7:upd _ p6 _=H7
   revert H7
   refine qal9 hp6 λ H7 s7 e7=>?_
   obtain⟨v,hv⟩:=menu5b (j:=cell/12%5) (zdp _ (by decide)) (zdb _ (by decide))
   exact⟨_,rfl,_,_,rfl,rfl,⟨by decide,by decide⟩,_,_,rfl,rfl,(by show(0:Int)<5;decide),p6,_,_,.int v,rfl,rfl,SqL.of e7,hv,_,_,rfl,rfl,_,rfl,_,_,rfl,rfl,sp,_,_,rfl,s7,qfj9 _ sp,qfj9 _ sp⟩
  intro σ' H6 z9;obtain⟨here,there,rfl,s6,b1,b2⟩ := z9
  have hN6:=hN.same s6
  obtain⟨vs,w1,w2,_⟩:=hN6.la.lst
  rw[zac] at w2
  have hr:=zad i1
  have hC:=zad i2
  have mr:=zaf hr
  have mC:=zaf hC
  have ndx:os[i]∉os.take i:=λ z=>by
   obtain⟨j,hj⟩:=zct z
   have lj:=(zab.mp hj).1
   rw[zbd] at lj
   rw[zdn ⋯] at hj
   have:=(zfa ⋯ ns2).mp (hj.trans hr.symm)
   omega
  generalize os[i]=rb at hr mr ndx
  generalize Cs[i]=C at hC mC
  have B6:=hB5.u (SameU.of s6)
  have laC:LA enc3 H6 rb C:=by
   obtain⟨rs',h1,h2,h3,h4,h5⟩:=id B6
   rw[s6 _ _ o15] at h1
   have e:=qjj9 (Option.some.inj h1)
   subst e
   exact h5 i rb C hr hC
  have av:atI (os.map V.ref) (i:Int)=zhq (.ref rb):=qcf9 (by rw[zah,hr];rfl)
  refine⟨_,rfl,.inl ⟨rfl,_,SqL.of w1⟩,_,rfl,_,rfl,_,rfl,_,rfl,pb,_,_,_,rfl,rfl,SqL.of (s6 _ _ o15),av,(by show 3<=zhu;decide),λ rr hrr=>?_⟩
  generalize hgH7:upd _ rr _=H7
  revert H7
  refine qal9 hrr λ H7 s7 e7=>?_
  have fb:rb≠pr/\rb∉N.map λ m=>m.2.2.1:=⟨λ z=>nop.2 (z ▸ mr),by rw[mN];exact ndx⟩
  have aC':=aC C mC
  refine⟨pr,vs,.ref rr,rfl,rfl,s7 _ _ w1,qbq9 ⋯,N++[(here,there,rb,C)],_,_,_,_,rfl,qaz9 (s3.free hpr') ((s5.trans s6).trans s7),?_,?_,(hN6.same s7).add fb (s7 _ _ w1) (laC.same s7) e7,by simp[lN],λ m hm=>?_,?_,?_⟩
  ·exact(B6.u (SameU.of s7)).off (s7 _ _ (s6 _ _ o15)) (s7 _ _ w1) nop.1.symm nop.2
  ·rw[qao9 nop.1.symm]
   exact s7 _ _ (s6 _ _ o15)
  ·rcases zak.mp hm with hm|hm
   ·exact inN m hm
   ·rw[zae] at hm
    subst hm
    exact⟨b1,b2,by show C.length<=16;omega,aC'.2⟩
  ·rw[zaj,mN,qku9 hr]
   rfl
  ·rw[zaj,bN,qku9 hC]
   rfl
 intro σ H5 z9;obtain⟨N,v7',v12,v13,v14,rfl,s5,hB5,o15,hN,lN,inN,mN,bN⟩ := z9
 refine⟨_,rfl,q pr N H5 s5 hN inN ⋯ ?_ λ b hb=>?_⟩
 ·rw[bN,show((many:Nat):Int).toNat=Cs.length by omega,zbk]
  omega
 ·rcases zag.mp hb with rfl|hb
  ·exact s3.free hpr'
  ·rw[mN] at hb
   exact s1.free (o3 b (zcu hb))
end
inductive spNetRow(C:zht)(vs:List V)(H:Hp)(Q:VK)(z3q:XK):Prop
 |mk (x pl pv:zht) (d:Int) (ns:List Str) (M:List RdT):vs=[.ref x,.ref pl,.ref pv]->DeskAt C H x d ns M->Sm d->NetTx ns M->(∀H',Same H H'->Q (.str (netT d ns M)) H')->spNetRow C vs H Q z3q
section
variable {w:zhy}{f:zht}
theorem ok_netrow(G:DkT K C)(F:Fun K "net_row" "net_row" qfw9 f fd)(Cz0:Callee P w K mg base n "show_net" ["day","names","roads"] spShowN):FnOk P w K mg base CX0 (n+1) f fd ["desk","places","values"] (spNetRow C):=by
 refine F.okQ qss9 (λ vs H Q E h=>?_) (λ cdv A outer s H vs Q E hr h=>?_)
 ·obtain⟨_,_,_,_,_,_,rfl,_⟩:=h
  rfl
 obtain⟨x,pl,pv,d,ns,M,rfl,dk,sd,nt,q⟩:=h
 refine⟨_,(qae9 (qam9 (qe_fn Cz0 hr rfl (qa_c (qkt9 (qv 0)) (qa_c (qkt9 (qv 0)) (qa_c (qkt9 (qv 0)) qac9)))))),?_⟩
 walk_at "d"
 obtain⟨dx,pn,pr,hx,hn,hM⟩:=dk.ex
 exact⟨_,rfl,x,C,dx,_,_,rfl,hx,G.cl,G.nd,rfl,_,rfl,x,C,dx,_,_,rfl,hx,G.cl,G.nn,rfl,_,rfl,x,C,dx,_,_,rfl,hx,G.cl,G.nr,rfl,d,pn,pr,ns,M,rfl,sd,hn,hM,nt,q⟩
end
structure NetW(d:Int)(n:Nat)(N:List RdT):Prop where
 rng:∀m∈N,(0<=m.1/\m.1<(n:Int))/\(0<=m.2.1/\m.2.1<(n:Int))/\WinsR d m.2.2.2/\m.2.2.2.length<=16
 len:N.length<=16
section
variable {ns:List Str}{p g t:Int}
theorem NetW.tx(h:NetW d n N)(d2:d<=1000000000000000)(hn:names.length=n)(low:∀x∈names,Low x):NetTx names N:=⟨by have:=h.len;omega,λ x hx=>by have:=(low x hx).l8;omega,λ m hm=>by
 obtain⟨⟨a,b⟩,⟨c,e⟩,w,l⟩:=h.rng m hm
 refine⟨a,⋯,c,⋯,λ x hx=>?_,⋯⟩
 obtain⟨x0,x1,x2,x3,x4⟩:=w x hx
 exact⟨⟨x0,⋯⟩,⟨⋯,⋯⟩,⟨⋯,⋯⟩⟩⟩
theorem NetW.told(h:NetW d n N)(d1:1<=d)(d2:d<=1000000000000000)(hn:names.length=n)(low:∀x∈names,Low x):Told d (N.map (rdS names)):=⟨d1,d2,by rw[zac];have:=h.len;omega,λ q hq=>by
 obtain⟨m,hm,rfl⟩:=zas.mp hq
 obtain⟨⟨a,b⟩,⟨c,e⟩,w,l⟩:=h.rng m hm
 exact⟨low _ (qgk9 a ⋯),low _ (qgk9 c ⋯),w,by show m.2.2.2.length<=20;omega⟩⟩
theorem NetW.wins(h:NetW d n N):∀m∈N,Ma.Wins d m.2.2.2:=λ m hm w hw=>by
 obtain⟨x0,x1,x2,x3,x4⟩:=(h.rng m hm).2.2.1 w hw
 exact⟨x0,x1,x2,⋯⟩
theorem NetW.ends(h:NetW d n N)(hn:names.length=n):∀m∈N,(0<=m.1/\m.1<(names.length:Int))/\(0<=m.2.1/\m.2.1<(names.length:Int)):=λ m hm=>by
 have:=h.rng m hm
 rw[hn]
 exact⟨this.1,this.2.1⟩
end
theorem nm_idx{ns:List Str}(h:z∈ns):nmT ns ((ns.idxOf z:Nat):Int)=z:=by
 have l:=zbu h
 unfold nmT
 rw[zbn,zer,zad l]
 exact zdf l
theorem Ren.text{ns:List Str}(h:Ren names ns N M):netT d ns M=netS d (N.map (rdS names)):=by
 unfold netT netS Txt.join
 rw[StrLaws.glued_eq_join,zcy]
 have e:M.map (roadN ns)=(N.map (rdS names)).map rdT:=by
  have e1:M.map (roadN ns)=(M.map strip).map λ s=>roadT (nmT ns s.1) (nmT ns s.2.1) s.2.2:=by rw[zcl];rfl
  rw[e1,h.eq,zcl,zcl]
  refine zej λ m hm=>?_
  show roadT (nmT ns ((ns.idxOf (nmT names m.1):Nat):Int)) (nmT ns ((ns.idxOf (nmT names m.2.1):Nat):Int)) m.2.2.2=roadT (nmT names m.1) (nmT names m.2.1) m.2.2.2
  rw[nm_idx (h.on ⟨m,hm,.inl rfl⟩).1,nm_idx (h.on ⟨m,hm,.inr rfl⟩).1]
 rw[e]
def WinP(d:Int)(w:T3):Prop:=0<=w.1/\w.1<=w.2.1/\w.2.1<d/\1<=w.2.2/\w.2.2<=1000000000000000
structure NetS(d:Int)(l t:Nat)(L:List St3):Prop where
 len:L.length<=l
 tot:tot L<=t
 win:∀m∈L,∀x∈m.2.2,WinP d x
theorem NetS.w{l t:Nat}{ns:List Str}(h:NetS d l t (stN N))(l16:l<=16)(t16:t<=16)(ren:Ren names ns N M):NetW d names.length N:=by
 have hl:=h.len
 have ht:=h.tot
 unfold stN at hl
 rw[zac] at hl
 refine⟨λ m hm=>?_,⋯⟩
 have ms:strip m∈stN N:=zas.mpr ⟨m,hm,rfl⟩
 have hb:m.2.2.2.length<=My.tot (stN N):=tot_le ms
 exact⟨(ren.rng m hm).1,(ren.rng m hm).2,λ w hw=>h.win _ ms w hw,⋯⟩
theorem NetS.bd{l t:Nat}(h:NetS d l t (stN N)):N.length<=l/\∀m∈N,m.2.2.2.length<=t:=by
 have hl:=h.len
 unfold stN at hl
 rw[zac] at hl
 refine⟨hl,λ m hm=>zbj (tot_le (zas.mpr ⟨m,hm,rfl⟩:strip m∈stN N)) h.tot⟩
theorem Opened.net{w:T3}{l t:Nat}(o:Opened a b w L L')(h:NetS d l t L)(hw:WinP d w):NetS d (l+1) (t+1) L':=by
 have h1:=h.len
 have h2:=h.tot
 refine⟨?_,by rw[o.tot];omega,o.wins hw h.win⟩
 rcases o with⟨_,_,_,_,rfl⟩|⟨_,rfl⟩
 ·rw[zgt];omega
 ·rw[zap];show L.length+1<=_;omega
theorem ShutW.net{w:T3}{l t:Nat}(o:ShutW a b w L L')(h:NetS d l t L):NetS d l t L':=by
 have h1:=h.len
 have h2:=h.tot
 have h3:=o.tot
 refine⟨?_,⋯,o.wins h.win⟩
 obtain⟨_,_,_,_,rfl⟩:=o
 rw[zgt];omega
theorem Ren.down{names ns:List Str}{M:List RdT}(eE:endS (stN N')=endS (stN N)\/endS (stN N')=endS (stN N)++[(a,b)]){p:Int}(o:OnRd N p):OnRd N' p:=by
 rw[stN_ends] at o ⊢
 obtain⟨e,he,h⟩:=o
 refine⟨e,?_,h⟩
 rcases eE with z|z
 ·rw[z];exact he
 ·rw[z];exact zbi _ he
section
variable {ns:List Str}{w:T3}
theorem Ren.opened(h:Ren names ns N M)(oa:OnRd N a)(ob:OnRd N b)(o:Opened a b w (stN N) (stN N'))(o':Opened (h.f a) (h.f b) w (stN M) (stN M')):Ren names ns N' M':=by
 rw[h.gf] at o'
 exact h.step oa ob (o.ends.imp id And.left) (o.ren (h.on_inj oa ob) o')
theorem Ren.shut(h:Ren names ns N M)(oa:OnRd N a)(ob:OnRd N b)(o:ShutW a b w (stN N) (stN N'))(o':ShutW (h.f a) (h.f b) w (stN M) (stN M')):Ren names ns N' M':=by
 rw[h.gf] at o'
 exact h.step oa ob (.inl o.ends) (o.ren (h.on_inj oa ob) o')
theorem Ren.fi(h:Ren names ns N M)(oa:OnRd N a)(ob:OnRd N b):fI (stN M) (h.f a) (h.f b) wo=fI (stN N) a b wo:=by
 rw[h.gf]
 exact qtl9 (h.on_inj oa ob)
theorem rowW{w0 w':Str}(na nb:Str)(w:T3)(e:w'=w0++" "):w'++(na++">"++nb++" "++winT w)=rowS w0 [.ends na nb,.win w]:=by
 unfold rowS
 rw[qca9,e]
 show _=w0++" "++(na++">"++nb)++" "++winT w
 simp only[zbf]
theorem sayW{x:zht}{R:List RowE}{e:RowE}{w0 row:Str}(he:e∈R)(hw:e.w=w0)(hk:e.ks=[("road":Str),("window":Str)])(dk:DeskAt C H x d ns M)(ren:Ren names ns N M)(n4:names.length<=4)(low:∀x∈names,Low x)(oa:OnRd N a)(ob:OnRd N b)(wp:WinP d w)(d2:d<=1000000000000000)(er:row=rowS w0 [.ends (nmT names a) (nmT names b),.win w])
  (k:∀(pl pv r:zht)(H':Hp),Same H H'->H' pl=zhq (.lst [.int (ren.f a),.int (ren.f b)])->H' pv=zhq (.lst [.ref r])->H' r=zhq (.tup (enc3 w))->e.sp [.ref x,.ref pl,.ref pv] H' Q E):spSayE C R [.ref x,.str row] H Q E:=by
 obtain⟨inA,a0,a1⟩:=ren.on oa
 obtain⟨inB,b0,b1⟩:=ren.on ob
 have ln:=ren.len
 obtain⟨w0',w1,w2,w3,w4⟩:=wp
 refine⟨x,d,ns,M,e,[.ends (nmT names a) (nmT names b),.win w],by rw[hw,er],he,by rw[hk];rfl,λ q hq=>?_,(by show 2<=8;decide),dk,λ z hz=>?_,⋯,λ pl pv us H6 s6 ePl ePv vp=>?_⟩
 ·simp only[zag,zam,or_false] at hq
  rcases hq with rfl|rfl
  ·exact⟨low _ (qgk9 a0 a1),low _ (qgk9 b0 b1)⟩
  ·exact⟨w0',w1,w2,d2,w3,w4⟩
 ·have hz:z∈[nmT names a,nmT names b]:=hz
  simp only[zag,zam,or_false] at hz
  rcases hz with rfl|rfl
  ·exact inA
  ·exact inB
 obtain⟨r,eU,er⟩:∃r,us=[.ref r]/\H6 r=zhq (.tup (enc3 w)):=by
  obtain⟨l,h⟩:=vp
  have l:us.length=1:=l
  match us,l with
  | [v],_ =>
   obtain⟨r,e1,e2⟩:=h 0 v (.win w) rfl rfl
   exact⟨r,by rw[e1],e2⟩
 subst eU
 exact k pl pv r H6 s6 ePl ePv er
theorem sayN{x:zht}{R:List RowE}{e:RowE}(he:e∈R)(hw:e.w="net")(hk:e.ks=[])(dk:DeskAt C H x d ns M)(ln:ns.length<=100)(k:∀(pl pv:zht)(H':Hp),Same H H'->e.sp [.ref x,.ref pl,.ref pv] H' Q E):spSayE C R [.ref x,.str "net"] H Q E :=
 ⟨x,d,ns,M,e,[],by rw[hw];rfl,he,by rw[hk];rfl,by simp,by simp,dk,by simp,ln,λ pl pv us H8 s8 _ _ _=>k pl pv H8 s8⟩
end
section
variable {x pnD pd:zht}{R:List RowE}{e:RowE}{w:T3}{ns:List Str}{row:Str}
theorem Ren.lowN(h:Ren names ns N M)(low:∀x∈names,Low x):∀x∈ns,Low x:=λ z hz=>by
 obtain⟨m,hm,e⟩:=(h.mem z).mp hz
 have r:=h.rng m hm
 rcases e with rfl|rfl
 ·exact low _ (qgk9 r.1.1 r.1.2)
 ·exact low _ (qgk9 r.2.1 r.2.2)
theorem Ren.nw(h:Ren names ns N M)(nw:NetW d names.length N):NetW d ns.length M:=by
 have lM:=h.lenM
 have ll:=nw.len
 refine⟨λ m hm=>?_,⋯⟩
 obtain⟨m0,hm0,a1,a2,a3⟩:=h.of hm
 have l1:=h.lt ⟨m0,hm0,.inl rfl⟩
 have l2:=h.lt ⟨m0,hm0,.inr rfl⟩
 rw[a3]
 exact⟨⋯,⋯,(nw.rng m0 hm0).2.2⟩
theorem qqm9(he:e∈R/\e.w="net" /\ e.ks=[]/\e.sp=spNetRow C)(dk:DeskAt C H x d ns M)(ren:Ren names ns N M)(nw:NetW d names.length N)(d1:1<=d)(d2:d<=1000000000000000)(n4:names.length<=4)(low:∀x∈names,Low x)(k:∀H2,Same H H2->Q (.str (netS d (N.map (rdS names)))) H2):spSayE C R [.ref x,.str "net"] H Q E:=by
 have ln:=ren.len
 refine sayN he.1 he.2.1 he.2.2.1 dk ⋯ λ pl pv H' s'=>?_
 rw[he.2.2.2]
 exact⟨x,pl,pv,d,ns,M,rfl,dk.same s',⟨⋯,⋯⟩,(ren.nw nw).tx d2 rfl (ren.lowN low),λ H2 s2=>by rw[ren.text];exact k H2 (s'.trans s2)⟩
theorem rowin{pl pv:zht}(hx:H x=zhq (.ins C dx (dfs d pnD pd)))(hM:NA H pd M)(ren:Ren names ns N M)(nw:NetW d names.length N)(hT:T H)(hTB:TB T)(s:Same H H')(ev:vs=[.ref x,.ref pl,.ref pv])(e1:H' pl=zhq (.lst [.int a,.int b]))(e2:H' pv=zhq (.lst [.ref r]))(e3:H' r=zhq (.tup (enc3 w))):RowIn T C H' vs x dx pnD pd d a b M r w:=by
 have nM:=ren.nw nw
 have:=nM.len
 exact⟨⟨pl,pv,ev,e1,e2⟩,s _ _ hx,hM.same s,⋯,λ m hm=>by have:=(nM.rng m hm).2.2.2;omega,e3,hTB.same _ _ hT s⟩
theorem Stp.pre{H2:Hp}{A A':List zht}(s:Same H H')(st:Stp H' H2 A A'):Stp H H2 A A':=(Stp.of s).trans st
theorem said_open(hTB:TB T)(he:e∈R/\e.w="open" /\ e.ks=[("road":Str),("window":Str)]/\e.sp=spOpen T C)(hx:H x=zhq (.ins C dx (dfs d pnD pd)))(hn:H pnD=zhq (.lst (ns.map V.str)))(hM:NA H pd M)(hT:T H)(ren:Ren names ns N M)(nw:NetW d names.length N)(oa:OnRd N a)(ob:OnRd N b)(wp:WinP d w)(d2:d<=1000000000000000)(n4:names.length<=4)(low:∀x∈names,Low x)(er:row=rowS "open" [.ends (nmT names a) (nmT names b),.win w])
  (k:∀H2 M2,T H2->Stp H H2 (ads pd M) (ads pd M2)->NA H2 pd M2->Opened (ren.f a) (ren.f b) w (stN M) (stN M2)->Q (.str "ok") H2):spSayE C R [.ref x,.str row] H Q E:=by
 refine sayW he.1 he.2.1 he.2.2.1 ⟨dx,pnD,pd,hx,hn,hM⟩ ren n4 low oa ob wp d2 er λ pl pv r H' s' e1 e2 e3=>?_
 rw[he.2.2.2]
 exact⟨x,dx,pnD,pd,d,ren.f a,ren.f b,M,r,w,rowin hx hM ren nw hT hTB s' rfl e1 e2 e3,λ H2 M2 t2 st hM2 op=>k H2 M2 t2 (Stp.pre s' st) hM2 op⟩
theorem qjx9(hTB:TB T)(he:e∈R/\e.w="shut" /\ e.ks=[("road":Str),("window":Str)]/\e.sp=spShut T C co)(hx:H x=zhq (.ins C dx (dfs d pnD pd)))(hn:H pnD=zhq (.lst (ns.map V.str)))(hM:NA H pd M)(hT:T H)(ren:Ren names ns N M)(nw:NetW d names.length N)(oa:OnRd N a)(ob:OnRd N b)(wp:WinP d w)(d2:d<=1000000000000000)(n4:names.length<=4)(low:∀x∈names,Low x)(er:row=rowS "shut" [.ends (nmT names a) (nmT names b),.win w])
  (k:∀H2 M2,T H2->Stp H H2 (ads pd M) (ads pd M2)->NA H2 pd M2->ShutW (ren.f a) (ren.f b) w (stN M) (stN M2)->Q (.str "ok") H2) (kx:fI (stN N) a b (zhq w)=zhr->∀H2,Same H H2->T H2->E (.ref co) zhr H2):spSayE C R [.ref x,.str row] H Q E:=by
 refine sayW he.1 he.2.1 he.2.2.1 ⟨dx,pnD,pd,hx,hn,hM⟩ ren n4 low oa ob wp d2 er λ pl pv r H' s' e1 e2 e3=>?_
 rw[he.2.2.2]
 exact⟨x,dx,pnD,pd,d,ren.f a,ren.f b,M,r,w,rowin hx hM ren nw hT hTB s' rfl e1 e2 e3,λ H2 M2 t2 st hM2 op=>k H2 M2 t2 (Stp.pre s' st) hM2 op,λ z H2 s2 t2=>kx (by rw[<- ren.fi oa ob];exact z) H2 (s'.trans s2) t2⟩
end
def kdObj(P:zis)(kvs:List (Str×Tok×zhs))(ep:Nat):Obj:=⟨.type "dict",zhr,.dict (kvs.map λ q=>(⟨zhw.keyHash P q.1,.str q.1 q.2.1,q.2.2⟩:zjy)).toArray ep,#[]⟩
def isS(k:Str):zhs->Bool
 | .str x _=>decide (k=x)
 |_=>false
def strsB:List Str->List zhs->Bool
 | [],[]=>true
 |k::ks,u::us=>isS k u&&strsB ks us
 |_,_=>false
theorem qlm9:∀(ks:List Str)(us:List zhs),strsB ks us=true->Vals (ks.map V.str) us
 | [],[],_=>.nil
 | [],_::_,h=>by cases h
 |_::_,[],h=>by cases h
 |k::ks,u::us,h=>by
  unfold strsB at h
  rw[zaz] at h
  refine .cons ?_ (qlm9 ks us h.2)
  have h1:=h.1
  unfold isS at h1
  split at h1
  ·rw[of_decide_eq_true h1]
   exact⟨_,rfl⟩
  ·cases h1
def seqD:Data->Option (Array zhs×Nat)
 | .seq a n=>zhq (a,n)
 |_=>zhr
def tupB(K:W.Frag)(ta:zht)(ks:List Str):Bool:=match K.lookup ta with
 |some o=>decide (o.cls=.type "tuple")&&(match seqD o.data with
  |some (its,_)=>strsB ks its.toList&&decide (its.size<=8)
  |none=>false)
 |none=>false
theorem qfm9{ta:zht}(h:tupB K ta ks=true)(H:Hp):SqT K H ta (ks.map V.str):=by
 unfold tupB at h
 split at h
 ·rename_i o e
  rw[zaz] at h
  obtain⟨h1,h2⟩:=h
  split at h2
  ·rename_i its n e2
   rw[zaz] at h2
   refine .inr ⟨o,its,n,e,of_decide_eq_true h1,?_,zbj (of_decide_eq_true h2.2) (by decide),qlm9 _ _ h2.1⟩
   unfold seqD at e2
   split at e2
   ·cases e2
    assumption
   ·cases e2
  ·cases h2
 ·cases h
def wordB(w:Str):Bool:=decide (w≠"meet")&&decide (32∉w.cps.toList)&&decide (w.length<=10)
theorem qtn9{w:Str}{ta:zht}(h1:kdVal kvS w=zhq (.ref ta))(h2:tupB K ta ks=true)(h3:wordB w=true):RowT K kvS w ta ks:=by
 unfold wordB at h3
 simp only[zaz,decide_eq_true_eq] at h3
 first|exact⟨h1,qfm9 h2,h3.1.1,h3.1.2,h3.2⟩|exact⟨.inl ⟨h1,qfm9 h2,h3.1.1⟩,h3.1.2,h3.2⟩
theorem ro_of{P:zis}{R:List RowE}(_:KDict K P aS kvS)(_:KDict K P aA kvA)(h:RowsOk K kvS kvA R):RowsOk K kvS kvA R:=h
inductive rNotInD(K:W.Frag)(x:V)(y:V)(H:Hp)(Q:VK):Prop
 |mk (d:_) (es:_):RdV K H x d->RdV K H y (.list es)->zhw.canLayAll0 es=true->d.canLay0=true->min (zhw.depthAll es) d.depth<=8->(Q (.bl (!es.any λ e=>zhw.eqv e d)) H)->rNotInD K x y H Q
theorem op_notInD(hu:X.A.units+64<zjw):OpR X (zig .NotIn) (rNotInD X.K):=by
 intro pins s σ H x y v u Q I rx ry h
 obtain⟨d,es,hd,he,c1,c2,dp,q⟩:=h
 obtain⟨as,ra⟩:=I.rd hd v rx
 obtain⟨bs,rb⟩:=I.rd he u ry
 exact SeqAt.notIn_list_reads rb ra c1 c2 ⋯ ⟨.bl _,H,I,rfl,q⟩
theorem qpo9(K:W.Frag)(hK:X.K=K)(hu:X.A.units+64<zjw):QOp X (zig .NotIn) (rNotInD K):=by
 subst hK
 exact⟨op_notInD hu⟩
def heldS(L:List St3)(a b:Int):List T3:=L.flatMap λ m=>if m.1=a/\m.2.1=b then m.2.2 else []
theorem held_snoc{m:St3}:heldS (L++[m]) a b=heldS L a b++(if m.1=a/\m.2.1=b then m.2.2 else []):=by
 unfold heldS
 rw[zcn,zcj]
theorem qmy9{a b:Int}:∀L:List St3,(heldS L a b).length<=tot L
 | []=>zaq _
 |m::L=>by
  have ih:=qmy9 (a:=a) (b:=b) L
  have e:heldS (m::L) a b=(if m.1=a/\m.2.1=b then m.2.2 else [])++heldS L a b:=by unfold heldS;rw[zbw]
  have t:tot (m::L)=m.2.2.length+tot L:=by unfold tot;rw[zbh,zeb]
  rw[e,t,zap]
  split
  ·omega
  ·simp
   omega
theorem tot_app{A B:List St3}:tot (A++B)=tot A+tot B:=by unfold tot;rw[zaj,List.sum_append_nat]
theorem held_none{w:T3}(h:w∉heldS L a b):fI L a b (zhq w)=zhr:=by
 refine zdm.mpr λ m hm=>?_
 unfold hitS
 by_cases c:m.1=a/\m.2.1=b
 ·rw[decide_eq_true c,zcw]
  refine decide_eq_false λ z=>h (zdd.mpr ⟨m,hm,?_⟩)
  rw[if_pos c]
  exact z
 ·rw[decide_eq_false c]
  rfl
theorem many_in{α:Type} [DecidableEq α]{l:List α}{g:Nat->α}(inj:∀i j,i<n->j<n->g i=g j->i=j)(h:∀i,i<n->g i∈l):n<=l.length:=by
 have nd:((zde n).map λ i=>((l.idxOf (g i):Nat):Int)).Nodup:=zgh.mpr (List.nodup_range.imp_of_mem λ {i j} hi hj ne e=>ne (by
  have hi:=zcp.mp hi
  have hj:=zcp.mp hj
  refine inj i j hi hj ?_
  have e':l.idxOf (g i)=l.idxOf (g j):=⋯
  have at_:∀{x:α},x∈l->l[l.idxOf x]?=zhq x:=λ {x} hx=>by
   have lt:=zbu hx
   rw[zad lt,zdf lt]
  have h1:=at_ (h i hi)
  rw[e',at_ (h j hj)] at h1
  exact(Option.some.inj h1).symm))
 have:=qgv9 l.length nd λ x hx=>by
  obtain⟨i,hi,rfl⟩:=zas.mp hx
  have:=zbu (h i (zcp.mp hi))
  omega
 rw[zac,List.length_range] at this
 exact this
inductive spFree(vs:List V)(H:Hp)(Q:VK)(z3q:XK):Prop
 |mk (d a b:Int) (pr pe:zht) (N:List RdT):vs=[.int d,.ref pr,.ref pe]->NA H pr N->H pe=zhq (.tup [.int a,.int b])->N.length<=16->tot (stN N)<=16->(∀(r:zht)(c:Int)(H':Hp),Same H H'->H' r=zhq (.tup (enc3 (d-1,d-1,c)))->1<=c->c<=29->fI (stN N) a b (zhq (d-1,d-1,c))=zhr->Q (.ref r) H')->spFree vs H Q z3q
section
variable {w:zhy}{f:zht}
theorem ok_free(F:Fun K "_law_free" "_law_free" qdu9 f fd)(B:Bl mg):FnOk P w K mg base CX0 (n+1) f fd ["day","roads","ends"] spFree:=by
 refine F.okQ sc__law_free (λ vs H Q E h=>?_) (λ cdv A outer s H vs Q E hr h=>?_)
 ·obtain⟨_,_,_,_,_,_,rfl,_⟩:=h
  rfl
 obtain⟨d,a,b,pr,pe,N,rfl,hN,he,lN,tN,q⟩:=h
 refine⟨_,(qaa9 (qak9 (i:=3) sc__law_free.nd rfl (zai rfl) (qbi9 qac9)) (qaa9 (qeo9 ziq.never rfl (qbl9 (qv 1)) (qpj9 rfl (qbd9 (qat9 (i:=4) sc__law_free.nd rfl (zai rfl)) (qbd9 (qat9 (i:=5) sc__law_free.nd rfl (zai rfl)) (qbd9 (qat9 (i:=6) sc__law_free.nd rfl (zai rfl)) qhs9)))) (qae9 (qs_if (qar9 (qkw9 hr.units) (qbn9 (qa_c (qv 4) (qa_c (qv 5) qac9))) (qv 2) (qbb9 _)) (qae9 (qak9 (i:=3) sc__law_free.nd rfl (zai rfl) (qe_op qht9 (qv 3) (qv 6)))) qan9))) (qaa9 (qeo9 ziq.never rfl (qi_range2 rfl B.range (qa_c qaf9 (qa_c qaf9 qac9))) (qat9 (i:=7) sc__law_free.nd rfl (zai rfl)) (qae9 (qs_if (qar9 (qpo9 K rfl hr.units) (qbn9 (qa_c (qe_op qgy9 (qv 0) qaf9) (qa_c (qe_op qgy9 (qv 0) qaf9) (qa_c (qv 7) qac9)))) (qv 3) rfl) (qae9 (qam9 (qbn9 (qa_c (qe_op qgy9 (qv 0) qaf9) (qa_c (qe_op qgy9 (qv 0) qaf9) (qa_c (qv 7) qac9)))))) qan9))) (qae9 (qam9 qbr9))))),?_⟩
 walk_at "d"
 refine⟨(by show 0<=zhu;decide),λ ph hph=>?_⟩
 generalize hgH1:upd _ ph _=H1
 revert H1
 refine qal9 hph λ H1 s1 e1=>?_
 obtain⟨ws,w1,w2,w3⟩:=hN.la.lst
 rw[zac] at w2
 have sh:∀x y:Int,SeqAt.shaped (.tuple [.int x,.int y])=true:=λ x y=>by simp[SeqAt.shaped,zhw.canLay0,zhw.canLayAll0,zhw.depth,zhw.depthAll]
 refine⟨_,rfl,pr,rfl,⟨_,SqL.of (s1 _ _ w1)⟩,qdg9 (K:=K) (a:=pr) (xs:=ws)
  (λ i σ H'=>E4q λ(ph:zht) (v4 v5 v6:Option V)=>A3q (σ=[sI9 d,sR9 pr,sR9 pe,sR9 ph,v4,v5,v6,zhr]) (Same H H') (LA enc3 H' ph (heldS (stN (N.take i)) a b)))
  ⟨ph,_,_,_,rfl,s1,LA.nil e1⟩ (λ i σ H' _ h=>?_) ?_ ?_⟩
 ·obtain⟨_,_,_,_,_,s,_⟩:=h
  exact SqL.of (s _ _ w1)
 ·intro i y σ H' hi z9;obtain⟨ph,v4,v5,v6,rfl,s2,la⟩ := z9
  obtain⟨rr,z,rfl,ez,er⟩:=w3 i y hi
  have hi2:i<N.length:=by
   have:=(zab.mp hi).1
   omega
  have em:=zad hi2
  rw[zah,em] at ez
  cases ez
  have mm:=zbs hi2
  have e2:stN (N.take (i+1))=stN (N.take i)++[strip N[i]]:=by unfold stN;rw[zbe,em,zaj];rfl
  rw[e2,held_snoc]
  have lh:=qmy9 (a:=a) (b:=b) (stN (N.take i))
  have lt:tot (stN (N.take i))<=tot (stN N):=by
   have e:stN N=stN (N.take i)++stN (N.drop i):=by unfold stN;rw[<- zaj,zfi]
   rw[e,tot_app]
   exact Nat.le_add_right _ _
  generalize N[i]=m at *
  have hb:=(hN.bd m mm).1.same s2
  have hl:=tot_le (L:=stN N) (m:=strip m) (zas.mpr ⟨m,mm,rfl⟩)
  have hl:m.2.2.2.length<=tot (stN N):=hl
  refine⟨rr,_,rfl,SqT.of (s2 _ _ er),rfl,_,_,rfl,_,_,rfl,_,_,rfl,rfl,?_⟩
  refine⟨_,rfl,_,rfl,(by show 2<=zhu;decide),λ p3 hp3=>?_⟩
  generalize hgH3:upd _ p3 _=H3
  revert H3
  refine qal9 hp3 λ H3 s3 e3=>?_
  have ek:zhw.eqv (.tuple [.int m.1,.int m.2.1]) (.tuple [.int a,.int b])=decide (m.1=a/\m.2.1=b):=by by_cases c1:m.1=a<;>by_cases c2:m.2.1=b<;>simp[zhw.eqv,zhw.eqvAll,c1,c2]
  refine⟨_,rfl,_,_,.tup (SqT.of e3) (.cons (.int m.1) (.cons (.int m.2.1) .nil)),.tup (SqT.of (s3 _ _ (s2 _ _ he))) (.cons (.int a) (.cons (.int b) .nil)),sh _ _,sh _ _,_,rfl,?_⟩
  rw[ek]
  have s23:=s2.trans s3
  have la3:=la.same s3
  have hb3:=hb.same s3
  obtain⟨us,u1,u2,_⟩:=id la3.lst
  obtain⟨vs,v1,v2,_⟩:=id hb3.lst
  refine ite2 (λ c=>?_) (λ c=>?_)
  ·have c':(strip m).1=a/\(strip m).2.1=b:=of_decide_eq_true c
   rw[if_pos c']
   refine⟨_,rfl,_,rfl,ph,m.2.2.1,us,vs,rfl,rfl,u1,v1,L.le ⋯,λ p4 hp4=>?_⟩
   exact⟨p4,_,_,_,rfl,s23.trans (qbc9 hp4 _),la3.cat hb3 u1 v1 hp4⟩
  ·have c':¬((strip m).1=a/\(strip m).2.1=b):=λ z=>c (decide_eq_true z)
   rw[if_neg c',zce]
   exact⟨ph,_,_,_,rfl,s23,la3⟩
 intro σ H2 z9;obtain⟨ph,v4,v5,v6,rfl,s2,la⟩ := z9
 rw[show N.take ws.length=N by rw[w2];exact zbk] at la
 have lh:=qmy9 (a:=a) (b:=b) (stN N)
 have lw:ws.length=N.length:=w2
 refine⟨1,30,rfl,⟨by decide,by decide,by decide,by decide⟩,qic9 (lo:=1) (n:=29) (λ i σ H'=>A3q ((∃v7:Option V,σ=[sI9 d,sR9 pr,sR9 pe,sR9 ph,v4,v5,v6,v7])) (Same H2 H') (∀j:Nat,j<i->((d-1,d-1,1+(j:Int)):T3)∈heldS (stN N) a b)) ⟨⟨_,rfl⟩,Same.refl _,λ j z=>absurd z (Nat.not_lt_zero _)⟩ ?_ ?_⟩
 ·intro i σ H3 hi z9;obtain⟨⟨v7,rfl⟩,s3,no⟩ := z9
  have i29:i<29:=hi
  refine⟨_,rfl,_,_,rfl,rfl,_,rfl,_,_,rfl,rfl,_,rfl,(by show 3<=zhu;decide),λ p3 hp3=>?_⟩
  generalize hgH4:upd _ p3 _=H4
  revert H4
  refine qal9 hp3 λ H4 s4 e4=>?_
  have la4:=(la.same s3).same s4
  have dw:=d3 (d-1,d-1,1+(i:Int))
  refine⟨_,rfl,_,_,rdW (w:=(d-1,d-1,1+(i:Int))) e4,rdR la4,lay3 _,c3 _,⋯,_,rfl,?_⟩
  rw[any3]
  refine ite2 (λ c=>?_) (λ c=>⟨⟨_,rfl⟩,s3.trans s4,λ j hj=>?_⟩)
  ·have c':((d-1,d-1,1+(i:Int)):T3)∉heldS (stN N) a b:=by simpa using c
   refine⟨_,rfl,_,_,rfl,rfl,_,rfl,_,_,rfl,rfl,_,rfl,(by show 3<=zhu;decide),λ p5 hp5=>?_⟩
   generalize hgH5:upd _ p5 _=H5
   revert H5
   refine qal9 hp5 λ H5 s5 e5=>?_
   exact q p5 (1+(i:Int)) H5 (s2.trans (s3.trans (s4.trans s5))) e5 ⋯ ⋯ (held_none c')
  ·rcases Nat.lt_succ_iff_lt_or_eq.mp hj with z|rfl
   ·exact no j z
   ·simpa using c
 ·intro σ H3 z9;obtain⟨_,_,no⟩ := z9
  have:=many_in (n:=29) (g:=λ j=>((d-1,d-1,1+(j:Int)):T3)) (λ i j _ _ e=>by
   have e:1+(i:Int)=1+(j:Int):=congrArg (λ z:T3=>z.2.2) e
   omega) no
  omega
end
theorem opened_ex(L:List St3)(a b:Int)(w:T3):∃L',Opened a b w L L':=by
 cases h:fI L a b zhr with
 |none=>exact⟨_,.inr ⟨h,rfl⟩⟩
 |some i =>
  obtain⟨m,hm⟩:=fI_ex h
  exact⟨_,.inl ⟨i,m,h,hm,rfl⟩⟩
theorem shut_ex{w:T3}{j:Nat}(h:fI L a b (zhq w)=zhq j):∃L',ShutW a b w L L':=by
 obtain⟨m,hm⟩:=fI_ex h
 exact⟨_,j,m,h,hm,rfl⟩
theorem qod9{w:T3}(h:w∉R):offW (R++[w]) w=R:=by
 have e:wAt (R++[w]) w=R.length:=by
  unfold wAt
  rw[List.findIdx_append,if_neg (by
   intro z
   obtain⟨x,hx,e⟩:=List.findIdx_lt_length.mp z
   exact h (of_decide_eq_true e ▸ hx)),List.findIdx_cons]
  simp
 unfold offW
 rw[e,List.eraseIdx_append_of_length_le (zaq _)]
 simp
theorem fI_no{w:T3}(h:∀m∈L,hitS a b (zhq w) m=false):fI L a b (zhq w)=zhr:=zdm.mpr h
theorem hit_of{m:St3}{w:T3}(h1:m.1=a/\m.2.1=b)(h2:w∈m.2.2):hitS a b (zhq w) m=true:=by
 unfold hitS
 rw[decide_eq_true h1]
 exact decide_eq_true h2
theorem open_shut{L'':List St3}{w:T3}(n:fI L a b (zhq w)=zhr)(o:Opened a b w L L')(s:ShutW a b w L' L''):fI L'' a b (zhq w)=zhr:=by
 have no:∀m∈L,hitS a b (zhq w) m=false:=λ m hm=>qqy9 n hm
 obtain⟨j,m',hj,hm',rfl⟩:=s
 obtain⟨a1,a2,a3⟩:=fI_at hj hm'
 have wm:=a3 w rfl
 rcases o with⟨i,m,hi,hm,rfl⟩|⟨_,rfl⟩
 ·have li:=(zab.mp hm).1
  obtain⟨b1,b2,_⟩:=fI_at hi hm
  have e:j=i:=by
   by_cases e:j=i
   ·exact e
   ·rw[zdj (Ne.symm e)] at hm'
    have:=no m' (zaf hm')
    rw[hit_of ⟨a1,a2⟩ wm] at this
    cases this
  subst e
  rw[zch li] at hm'
  cases hm'
  have wn:w∉m.2.2:=λ z=>by
   have:=no m (zaf hm)
   rw[hit_of ⟨b1,b2⟩ z] at this
   cases this
  have e2:(m.1,m.2.1,offW (m.2.2++[w]) w)=m:=by rw[qod9 wn]
  show fI ((L.set j _).set j (m.1,m.2.1,offW (m.2.2++[w]) w)) a b (zhq w)=zhr
  rw[e2,zhh]
  refine fI_no λ x hx=>?_
  rcases zcs hx with hx|rfl
  ·exact no x hx
  ·exact no _ (zaf hm)
 ·have e:j=L.length:=by
   have lj:=(zab.mp hm').1
   rw[zap,zcd] at lj
   rcases zdz j L.length with z|z
   ·rw[zat z] at hm'
    have:=no m' (zaf hm')
    rw[hit_of ⟨a1,a2⟩ wm] at this
    cases this
   ·omega
  subst e
  rw[zau (zaq _),zea] at hm'
  cases hm'
  refine fI_no λ x hx=>?_
  rw[List.set_append_right _ _ (zaq _),zea] at hx
  rcases zak.mp hx with hx|hx
  ·exact no x hx
  ·rw[zae.mp hx]
   unfold hitS
   have:offW [w] w=[]:=qod9 (R:=[]) (by simp)
   show(_&&decide (w∈offW [w] w))=false
   rw[this]
   simp
def vN(L:List St3):List RdT:=L.map λ m=>(m.1,m.2.1,0,m.2.2)
theorem vN_st(L:List St3):stN (vN L)=L:=by
 unfold stN vN
 rw[zcl]
 exact List.map_id _
structure Dk5(C:zht)(H:Hp)(x dx pnD pd:zht)(d:Int)(names ns:List Str)(N M:List RdT):Prop where
 hx:H x=zhq (.ins C dx (dfs d pnD pd))
 hD:H pnD=zhq (.lst (ns.map V.str))
 hM:NA H pd M
 nD:pnD∉ads pd M
 ren:Ren names ns N M
section
variable {x pnD pd:zht}{ns:List Str}
theorem Dk5.same(h:Dk5 C H x dx pnD pd d names ns N M)(s:Same H H'):Dk5 C H' x dx pnD pd d names ns N M:=⟨s _ _ h.hx,s _ _ h.hD,h.hM.same s,h.nD,h.ren⟩
theorem Dk5.dk(h:Dk5 C H x dx pnD pd d names ns N M):DeskAt C H x d ns M:=⟨dx,pnD,pd,h.hx,h.hD,h.hM⟩
theorem Dk5.step(h:Dk5 C H x dx pnD pd d names ns N M)(st:Stp H H' (ads pd M) (ads pd M'))(hM:NA H' pd M')(ren:Ren names ns N' M'):Dk5 C H' x dx pnD pd d names ns N' M' :=
 ⟨st.but _ _ h.hx λ z=>by
  obtain⟨xs,e⟩:=h.hM.lists _ z
  rw[h.hx] at e
  injection e with e
  injection e,st.but _ _ h.hD h.nD,hM,λ z=>(st.new _ z).elim h.nD λ e=>(by rw[h.hD] at e;injection e),ren⟩
end
inductive spLShut(C:zht)(vs:List V)(H:Hp)(Q:VK)(z3q:XK):Prop
 |mk (x dx pnD pd:zht) (d a b:Int) (w:T3) (names ns:List Str) (N M:List RdT):vs=[.ref x,.str (nmT names a++">"++nmT names b++" "++winT w),.str (netS d (N.map (rdS names)))]->Dk5 C H x dx pnD pd d names ns N M->OnRd N a->OnRd N b->WinP d w->1<=d->d<=1000000000000000->names.length<=4->((∀x∈names,Low x))->NetS d 14 14 (stN N)->fI (stN N) a b (zhq w)=zhr->(∀H',Q (.bl true) H')->spLShut C vs H Q z3q
section
variable {w:zhy}{f:zht}{R:List RowE}{eO eH eN:RowE}
theorem tbT:TB (λ _=>True):=⟨λ _ _ _ _=>trivial,λ _ _ _ _ _ _=>trivial⟩
theorem ok_lshut(hO:eO∈R/\eO.w="open" /\ eO.ks=[("road":Str),("window":Str)]/\eO.sp=spOpen (λ _=>True) C)(hH:eH∈R/\eH.w="shut" /\ eH.ks=[("road":Str),("window":Str)]/\eH.sp=spShut (λ _=>True) C co)(hNr:eN∈R/\eN.w="net" /\ eN.ks=[]/\eN.sp=spNetRow C)(F:Fun K "_law_shut" "_law_shut" qdt9 f fd)(Cg0:Callee P w K mg base n "_law_said" ["desk","row"] (spSaidF K C cw cm co R)):FnOk P w K mg base CX0 (n+1) f fd ["desk","row","text"] (spLShut C):=by
 refine F.okQ qmj9 (λ vs H Q E h=>?_) (λ cdv A outer s H vs Q E hr h=>?_)
 ·obtain⟨_,_,_,_,_,_,_,_,_,_,_,_,rfl,_⟩:=h
  rfl
 obtain⟨x,dx,pnD,pd,d,a,b,w,names,ns,N,M,rfl,dk,oa,ob,wp,d1,d2,n4,low,net,no,q⟩:=h
 refine⟨_,(qaa9 (qs_if (QW.pt (qw_or (qar9 (qlc9 hr.units) (qe_fn Cg0 hr rfl (qa_c (qv 0) (qa_c (qe_op qad9 qah9 (qv 1)) qac9))) (qbn9 (qa_c qe_bl (qa_c qe_bl (qa_c qe_bl (qa_c qe_bl (qa_c qe_bl qac9)))))) (qbb9 _)) (qeq9 (qar9 qkf9 (qe_fn Cg0 hr rfl (qa_c (qv 0) (qa_c qah9 qac9))) (qv 2) (qbb9 _))))) (qae9 (qam9 qe_bl)) qan9) (qaa9 (qs_if (QW.pt (qw_or (qar9 qkf9 (qe_fn Cg0 hr rfl (qa_c (qv 0) (qa_c (qe_op qad9 qah9 (qv 1)) qac9))) qah9 (qbb9 _)) (qeq9 (qar9 qkf9 (qe_fn Cg0 hr rfl (qa_c (qv 0) (qa_c (qe_op qad9 qah9 (qv 1)) qac9))) qah9 (qbb9 _))))) (qae9 (qam9 qe_bl)) qan9) (qae9 (qam9 (qfo9 (qkw9 hr.units) (qe_fn Cg0 hr rfl (qa_c (qv 0) (qa_c (qe_op qad9 qah9 (qv 1)) qac9))) (qbn9 (qa_c qe_bl (qa_c qe_bl (qa_c qe_bl (qa_c qe_bl (qa_c qe_bl qac9)))))) (qbb9 _)))))),?_⟩
 walk_at "d"
 obtain⟨inA,a0,a1⟩:=dk.ren.on oa
 obtain⟨inB,b0,b1⟩:=dk.ren.on ob
 have lA:=(low _ (qgk9 a0 a1)).l8
 have lB:=(low _ (qgk9 b0 b1)).l8
 obtain⟨w0,w1,w2,w3,w4⟩:=id wp
 have sm:Sm w.1/\Sm w.2.1/\Sm w.2.2:=⟨⟨w0,⋯⟩,⟨⋯,⋯⟩,⟨⋯,⋯⟩⟩
 have lW:=qgp9 sm
 have e1:(" ":Str).length=1:=by decide
 have e2:(">":Str).length=1:=by decide
 have e5:("open ":Str).length=5:=by decide
 have e6:("shut ":Str).length=5:=by decide
 have er:∀{w0 w':Str},w'=w0++" " -> w'++(nmT names a++">"++nmT names b++" "++winT w)=rowS w0 [.ends (nmT names a) (nmT names b),.win w]:=λ e=>rowW _ _ _ e
 have lr:(nmT names a++">"++nmT names b++" "++winT w).length<=200:=by simp only[zaa,e1,e2];omega
 generalize nmT names a++">"++nmT names b++" "++winT w=row at *
 have oO:=er (w0 := "open") (w' := "open ") (by decide +kernel)
 have oS:=er (w0 := "shut") (w' := "shut ") (by decide +kernel)
 have sh:SeqAt.shaped (.tuple [.bool true,.bool false,.bool false,.bool false,.bool true])=true:=by simp[SeqAt.shaped,zhw.canLay0,zhw.canLayAll0,zhw.depth,zhw.depthAll]
 have rd5:∀{H:Hp}{l:zht},H l=zhq (.tup [.bl true,.bl false,.bl false,.bl false,.bl true])->RdV K H (.ref l) (.tuple [.bool true,.bool false,.bool false,.bool false,.bool true]):=λ e=>.tup (SqT.of e) (.cons (.bl _) (.cons (.bl _) (.cons (.bl _) (.cons (.bl _) (.cons (.bl _) .nil)))))
 have nw:NetW d names.length N:=net.w (by decide) (by decide) dk.ren
 refine⟨_,rfl,_,rfl,_,_,rfl,rfl,L.le (by rw[e6];omega),co,false,false,true,.inr (.inr ⟨rfl,rfl,rfl,rfl⟩),λ Q' E' hQ hE=>.inl ?_⟩
 refine qjx9 tbT hH dk.hx dk.hD dk.hM trivial dk.ren nw oa ob wp d2 n4 low oS (λ H2 M2 t2 st2 hM2 op2=>?_) λ _ H2 s2 t2=>hE _ _ ⟨rfl,λ l H3 s3 e3=>?_⟩
 ·obtain⟨i,m,hi,_⟩:=op2
  rw[dk.ren.fi oa ob,no] at hi
  cases hi
 refine⟨(by show 5<=zhu;decide),λ p4 hp4=>?_⟩
 generalize hgH4:upd _ p4 _=H4
 revert H4
 refine qal9 hp4 λ H4 s4 e4=>?_
 refine⟨_,_,rd5 (s4 _ _ e3),rd5 e4,sh,sh,_,rfl,iteN (by decide +kernel) ?_⟩
 have s14:=s2.trans (s3.trans s4)
 have dk4:=dk.same s14
 refine⟨_,rfl,co,false,false,true,.inr (.inr ⟨rfl,rfl,rfl,rfl⟩),λ Q' E' hQ hE=>.inl ?_⟩
 refine qqm9 hNr dk4.dk dk4.ren nw d1 d2 n4 low λ H5 s5=>hQ _ _ ?_
 refine⟨_,rfl,rfl,_,rfl,iteN (by simp) ?_⟩
 have dk5:=dk4.same s5
 obtain⟨L1,op1⟩:=opened_ex (stN N) a b w
 have op1:Opened a b w (stN N) (stN (vN L1)):=by rw[vN_st];exact op1
 have net1:=op1.net net wp
 refine⟨_,rfl,_,rfl,_,_,rfl,rfl,L.le (by rw[e5];omega),co,false,false,true,.inr (.inr ⟨rfl,rfl,rfl,rfl⟩),λ Q' E' hQ hE=>.inl ?_⟩
 refine said_open tbT hO dk5.hx dk5.hD dk5.hM trivial dk5.ren nw oa ob wp d2 n4 low oO λ H6 M2 t6 st6 hM6 op6=>hQ _ _ ⟨rfl,_,rfl,iteN (by simp) ?_⟩
 have ren1:=dk5.ren.opened oa ob op1 op6
 have dk6:=dk5.step st6 hM6 ren1
 have eE:=op1.ends.imp id And.left
 have oa1:OnRd (vN L1) a:=Ren.down (names:=names) (ns:=ns) (M:=M) eE oa
 have ob1:OnRd (vN L1) b:=Ren.down (names:=names) (ns:=ns) (M:=M) eE ob
 obtain⟨j,hj⟩:=op1.there
 obtain⟨L2,sh2⟩:=shut_ex hj
 have sh2:ShutW a b w (stN (vN L1)) (stN (vN L2)):=by rw[vN_st L2];exact sh2
 refine⟨_,rfl,_,rfl,_,_,rfl,rfl,L.le (by rw[e6];omega),co,false,false,true,.inr (.inr ⟨rfl,rfl,rfl,rfl⟩),λ Q' E' hQ hE=>.inl ?_⟩
 refine qjx9 tbT hH dk6.hx dk6.hD dk6.hM trivial dk6.ren (net1.w (by decide) (by decide) ren1) oa1 ob1 wp d2 n4 low oS (λ H7 M7 t7 st7 hM7 op7=>hQ _ _ ⟨rfl,_,rfl,iteN (by simp) ?_⟩) λ z=>by rw[hj] at z;cases z
 have ren2:=dk6.ren.shut oa1 ob1 sh2 op7
 have dk7:=dk6.step st7 hM7 ren2
 have oa2:OnRd (vN L2) a:=Ren.down (names:=names) (ns:=ns) (M:=M) (a:=a) (b:=b) (.inl sh2.ends) oa1
 have ob2:OnRd (vN L2) b:=Ren.down (names:=names) (ns:=ns) (M:=M) (a:=a) (b:=b) (.inl sh2.ends) ob1
 have net2:=sh2.net net1
 refine⟨_,rfl,_,rfl,_,_,rfl,rfl,L.le (by rw[e6];omega),co,false,false,true,.inr (.inr ⟨rfl,rfl,rfl,rfl⟩),λ Q' E' hQ hE=>.inl ?_⟩
 refine qjx9 tbT hH dk7.hx dk7.hD dk7.hM trivial dk7.ren (net2.w (by decide) (by decide) ren2) oa2 ob2 wp d2 n4 low oS (λ H8 M8 t8 st8 hM8 op8=>?_) λ _ H8 s8 t8=>hE _ _ ⟨rfl,λ l H9 s9 e9=>?_⟩
 ·obtain⟨i,m,hi,_⟩:=op8
  rw[dk7.ren.fi oa2 ob2,open_shut no op1 sh2] at hi
  cases hi
 refine⟨(by show 5<=zhu;decide),λ p5 hp5=>?_⟩
 generalize hgH10:upd _ p5 _=H10
 revert H10
 refine qal9 hp5 λ H10 s10 e10=>?_
 refine⟨_,_,rd5 (s10 _ _ e9),rd5 e10,sh,sh,?_⟩
 exact q _
end
def EndOk(x:Str):Prop:=∃c,x.cps.toList.getLast?=zhq c/\c≠59/\c≠32
theorem end_app(h:EndOk y):EndOk (x++y):=by
 obtain⟨c,e,n⟩:=h
 exact⟨c,by rw[qch9,zcv,e];rfl,n⟩
theorem end_of(h:qou9 y x=true)(l:1<=x.length)(hy:∀c∈y.cps.toList,c≠59/\c≠32):EndOk x:=by
 have e:x.length=x.cps.toList.length:=by simp[zbm]
 cases h0:x.cps.toList.getLast? with
 |none =>
  rw[zeo.mp h0] at e
  simp at e
  omega
 |some c=>exact⟨c,h0,hy c (all_sg.mp h c (List.mem_of_getLast? h0))⟩
theorem end_num(h:pNum m z=zhq a):EndOk z:=by
 unfold pNum at h
 split at h
 ·rename_i hb
  have l:=qse9 hb
  unfold numB at hb
  simp only[zaz] at hb
  exact end_of hb.2.1 l.1 (by decide +kernel)
 ·cases h
theorem end_name(h:nameB z=true):EndOk z:=by
 unfold nameB at h
 obtain⟨h1,h2⟩:=zbt.mp h
 exact end_of h2 (of_decide_eq_true h1).1 (by decide +kernel)
theorem qms9(c:Nat)(h:EndOk (Txt.partition z ⟨#[c]⟩).2.2):EndOk z:=by
 rcases cut_at c z with hc|⟨a,b,rfl,hc⟩
 ·rw[qib9 hc] at h
  obtain⟨c,e,_⟩:=h
  cases e
 ·rw[qcp9 hc] at h
  exact end_app h
theorem end_win(h:(pWin d z).isSome=true):EndOk z:=by
 refine qms9 43 ?_
 cases e:pNum 16 (Txt.partition z ⟨#[43]⟩).2.2 with
 |some a=>exact end_num e
 |none =>
  have:pWin d z=zhr:=by
   unfold pWin
   split
   ·rename_i e2
    rw[show Txt.partition z "+"=Txt.partition z ⟨#[43]⟩ from rfl,e] at e2
    cases e2
   ·rfl
  rw[this] at h
  cases h
theorem end_ends(h:(pEnds z).isSome=true):EndOk z:=by
 refine qms9 62 ?_
 unfold pEnds at h
 split at h
 ·rename_i hn
  exact end_name hn.2
 ·cases h
theorem end_day(h:pDay z=zhq d):EndOk z:=by
 refine qms9 32 ?_
 unfold pDay at h
 split at h
 ·cases e:pNum 16 (Txt.partition z ⟨#[32]⟩).2.2 with
  |some a=>exact end_num e
  |none =>
   rw[show Txt.partition z " "=Txt.partition z ⟨#[32]⟩ from rfl,e] at h
   cases h
 ·cases h
theorem end_join:∀{ws:List Str}{z:Str},EndOk z->EndOk (zbg sep (ws++[z]))
 | [],z,h=>by
  have e:zbg sep [z]=z:=qcz9 (by rw[qbh9];simp)
  rw[zdx,e]
  exact h
 |x::r,z,⟨c,e,n⟩=>⟨c,by
  rw[zfe,qbh9,zcn,zcj,zcv,zcv,zcv,e]
  rfl,n⟩
theorem snoc_ex{α:Type}(l:List α):l=[]\/∃l' z,l=l'++[z]:=by
 rcases List.eq_nil_or_concat l with e|⟨l',z,e⟩
 ·exact .inl e
 ·exact .inr ⟨l',z,by rw[e,List.concat_eq_append]⟩
theorem qny9(h:∀ws z,Txt.split x sep=ws++[z]->EndOk z):EndOk x:=by
 have e:=StrLaws.join_split x sep
 rcases snoc_ex (Txt.split x sep) with z|⟨ws,z,hz⟩
 ·exact absurd z (qnh9 x sep)
 ·rw[<- e,hz]
  exact end_join (h ws z hz)
theorem end_partB{t:Str}(h:partB d t=true):EndOk t:=by
 refine qny9 (sep := " ") λ ws z e=>?_
 unfold partB at h
 rw[e] at h
 cases ws with
 |nil =>
  obtain⟨h1,_⟩:=zbt.mp h
  exact end_ends h1
 |cons u us =>
  obtain⟨_,h2⟩:=zbt.mp h
  exact end_win (zbl.mp h2 z (zar _ (zae.mpr rfl)))
theorem net_end(h:netB x=true):EndOk x:=by
 refine qny9 (sep := "; ") λ ws z e=>?_
 unfold netB at h
 rw[e] at h
 cases ws with
 |nil =>
  have h:(match pDay z with|zhr=>false|zhq d=>List.all [] (partB d))=true:=h
  cases e2:pDay z with
  |none=>rw[e2] at h;cases h
  |some d=>exact end_day e2
 |cons t ts =>
  have h:(match pDay t with|zhr=>false|zhq d=>(ts++[z]).all (partB d))=true:=h
  cases e2:pDay t with
  |none=>rw[e2] at h;cases h
  |some d =>
   rw[e2] at h
   exact end_partB (zbl.mp h z (zar _ (zae.mpr rfl)))
theorem bad_end(hy:y.cps.toList.getLast?=zhq c)(hc:c=59\/c=32):netB (x++y)=false:=zbp.mpr λ h=>by
 obtain⟨c',e,n⟩:=net_end h
 rw[qch9,zcv,hy] at e
 cases e
 rcases hc with rfl|rfl
 ·exact n.1 rfl
 ·exact n.2 rfl
theorem join_more{r:List Str}:zbg sep (x::(r++[z]))++y=zbg sep (x::(r++[z++y])):=qcz9 (by
 rw[qch9,qbh9,qbh9,zcn,zcn,zcj,zcj,qch9]
 simp only[zck])
theorem num_not(hc:c∈z.cps.toList)(h:c∉figT.cps.toList):pNum m z=zhr:=by
 unfold pNum
 rw[if_neg]
 intro hb
 unfold numB at hb
 simp only[zaz] at hb
 exact h (all_sg.mp hb.2.1 c hc)
theorem bad_more{L:List RoadS}(h:Told d L):netB (netS d L++" 0+0")=false:=by
 have d1:=h.d1
 have d2:=h.d2
 have f0:∀c∈(" 0+0":Str).cps.toList,c≠59:=by decide +kernel
 have fd:59∉("day "++numT d).cps.toList:=λ z=>by
  rw[app_mem] at z
  rcases z with z|z
  ·revert z;decide +kernel
  ·exact qcs9 ⋯ ⋯ z
 have sj:∀{ts:List Str},ts≠[]->(∀p∈ts,59∉p.cps.toList)->Txt.split (zbg "; " ts) "; "=ts:=λ h0 hf=>qdq9 (c:=59) (cs:=[32]) (by decide +kernel) (by simp) (by decide +kernel) h0 hf
 rcases snoc_ex L with rfl|⟨L',q,rfl⟩
 ·have e:netS d []++" 0+0"=zbg "; " [("day "++numT d++" 0+0":Str)]:=qcz9 (by
   show(zbg "; " ["day "++numT d]++" 0+0").cps.toList=_
   rw[qch9,qbh9,qbh9,qch9 (_++_)]
   simp)
  have sp:=sj (ts:=[("day "++numT d++" 0+0":Str)]) (by simp) λ p hp=>by
   rw[zae.mp hp,app_mem]
   exact λ z=>z.elim fd λ z=>f0 _ z rfl
  have pt:Txt.partition ("day "++numT d++" 0+0") " "=(("day":Str),(" ":Str),numT d++" 0+0"):=by
   have e3:("day "++numT d++" 0+0":Str)=("day":Str) ++ ⟨#[32]⟩ ++ (numT d++" 0+0"):=by
    rw[show("day ":Str)=("day":Str) ++ ⟨#[32]⟩ from by decide +kernel]
    simp only[zbf]
   rw[e3]
   exact qcp9 (c:=32) (by decide +kernel)
  have pd:pDay ("day "++numT d++" 0+0")=zhr:=by
   unfold pDay
   rw[pt,num_not (c:=32) (app_mem.mpr (.inr (by decide +kernel))) (by decide +kernel)]
   split<;>rfl
  unfold netB
  rw[e,sp]
  show(match pDay ("day "++numT d++" 0+0") with|zhr=>false|zhq d=>List.all [] (partB d))=false
  rw[pd]
 ·have e:netS d (L'++[q])++" 0+0"=zbg "; " (("day "++numT d)::(L'.map rdT++[rdT q++" 0+0"])):=by
   unfold netS
   rw[zaj,List.map_singleton]
   exact join_more
  have hr:∀q'∈L'++[q],59∉(rdT q').cps.toList:=λ q' hq'=>by
   obtain⟨h1,h2,h3,_⟩:=h.rd q' hq'
   exact qoc9 h1 h2 h3
  have sp:=sj (ts:=("day "++numT d)::(L'.map rdT++[rdT q++" 0+0"])) (by simp) λ p hp=>by
   rcases zag.mp hp with rfl|hp
   ·exact fd
   rcases zak.mp hp with hp|hp
   ·obtain⟨q',hq',rfl⟩:=zas.mp hp
    exact hr q' (zbi _ hq')
   ·rw[zae.mp hp,app_mem]
    exact λ z=>z.elim (hr q (zar _ (zae.mpr rfl))) λ z=>f0 _ z rfl
  have hp:∀d',partB d' (rdT q++" 0+0")=false:=λ d'=>by
   obtain⟨h1,h2,h3,_⟩:=h.rd q (zar _ (zae.mpr rfl))
   have er:rdT q++" 0+0"=zbg " " (((q.1++">"++q.2.1:Str))::(q.2.2.map winT++[("0+0":Str)])):=qcz9 (by
    show(roadT q.1 q.2.1 q.2.2++" 0+0").cps.toList=_
    rw[qet9,qch9,qbh9,qbh9,zcn,zcj,zck]
    rfl)
   have sp:=qdq9 (sep := " ") (c:=32) (cs:=[]) (by decide +kernel) (by simp) (by decide +kernel) (ts:=((q.1++">"++q.2.1:Str))::(q.2.2.map winT++[("0+0":Str)])) (by simp) λ p hp=>by
    rcases zag.mp hp with rfl|hp
    ·exact qgu9 h1 h2 ⋯
    rcases zak.mp hp with hp|hp
    ·obtain⟨x,hx,rfl⟩:=zas.mp hp
     obtain⟨x0,x1,x2,x3,x4⟩:=h3 x hx
     exact qij9 x0 ⋯ ⋯ ⋯
    ·rw[zae.mp hp]
     decide +kernel
   unfold partB
   rw[er,sp]
   have w0:=win_bad d' "0+0" (by simp)
   show(_&&qjd9 d' (q.2.2.map winT++[("0+0":Str)]))=false
   have:qjd9 d' (q.2.2.map winT++[("0+0":Str)])=false:=by
    unfold qjd9
    rw[zfp]
    simp[w0]
   rw[this,zgx]
  unfold netB
  rw[e,sp]
  show(match pDay ("day "++numT d) with|zhr=>false|zhq d'=>(L'.map rdT++[rdT q++" 0+0"]).all (partB d'))=false
  split
  ·rfl
  ·rw[zfp]
   simp[hp]
theorem bad_lits:netB "day 0; a>a"=false/\netB "day 7; a>b 9+1"=false/\netB ""=false:=by decide +kernel
inductive spNoDesks(vs:List V)(H:Hp)(Q:VK)(z3q:XK):Prop
 |mk (d:Int) (L:List RoadS):vs=[.str (netS d L)]->Told d L->L.length<=4->(∀H',Same H H'->Q (.bl true) H')->spNoDesks vs H Q z3q
theorem Told.tx{L:List RoadS}(h:Told d L)(l4:L.length<=4):Asc (netS d L)/\(netS d L).length<=27100:=by
 have d1:=h.d1
 have d2:=h.d2
 have sd:Sm d:=⟨⋯,⋯⟩
 have hd:(numT d).length<=16:=sd.len
 refine⟨?_,?_⟩
 ·intro c hc
  have ad:∀c∈(("day ":Str)++numT d).cps.toList,c<128:=λ c hc=>by
   rcases app_mem.mp hc with hc|hc
   ·have:∀c∈("day ":Str).cps.toList,c<128:=by decide +kernel
    exact this c hc
   ·have:=qis9 ⋯ c hc
    omega
  have e:netS d L=zbg "; " (("day "++numT d)::L.map rdT):=rfl
  rw[e,qbh9,zak] at hc
  rcases hc with hc|hc
  ·exact ad c hc
  obtain⟨p,hp,hc⟩:=zdd.mp hc
  obtain⟨q,hq,rfl⟩:=zas.mp hp
  obtain⟨h1,h2,h3,_⟩:=h.rd q hq
  rcases zak.mp hc with hc|hc
  ·have:∀c∈("; ":Str).cps.toList,c<128:=by decide +kernel
   exact this c hc
  rw[show rdT q=roadT q.1 q.2.1 q.2.2 from rfl,qet9,qbh9,zak] at hc
  rcases hc with hc|hc
  ·by_cases hk:(c<97\/122<c)/\c≠62
   ·exact absurd hc (qgu9 h1 h2 hk)
   ·omega
  ·obtain⟨p,hp,hc⟩:=zdd.mp hc
   obtain⟨x,hx,rfl⟩:=zas.mp hp
   obtain⟨x0,x1,x2,x3,x4⟩:=h3 x hx
   rcases zak.mp hc with hc|hc
   ·have:∀c∈(" ":Str).cps.toList,c<128:=by decide +kernel
    exact this c hc
   ·by_cases hk:(c<48\/57<c)/\c≠45/\c≠43
    ·exact absurd hc (qij9 x0 ⋯ ⋯ hk)
    ·omega
 ·have h1:=StrLaws.join_length_le "; " (("day "++numT d)::L.map rdT)
  have h2:=StrLaws.sumLen_le (B:=5400) (("day "++numT d)::L.map rdT) λ y hy=>by
   rcases zag.mp hy with rfl|hy
   ·rw[zaa,show(("day ":Str)).length=4 by decide]
    omega
   ·obtain⟨q,hq,rfl⟩:=zas.mp hy
    exact h.one hq
  rw[zbb,zac] at h1 h2
  rw[show(("; ":Str)).length=2 by decide] at h1
  have e:netS d L=zbg "; " (("day "++numT d)::L.map rdT):=rfl
  rw[e]
  omega
section
variable {w:zhy}{f:zht}
theorem qrs9(F:Fun K "_law_no_desks" "_law_no_desks" qbt9 f fd)(Ci1:Callee P w K mg base n "_law_no_desk" ["text"] (spNoDesk K)):FnOk P w K mg base CX0 (n+1) f fd ["text"] spNoDesks:=by
 refine F.okQ sc__law_no_desks (λ vs H Q E h=>?_) (λ cdv A outer s H vs Q E hr h=>?_)
 ·obtain⟨_,_,rfl,_⟩:=h
  rfl
 obtain⟨d,Lr,rfl,told,l4,q⟩:=h
 refine⟨_,(qaa9 (qak9 (i:=1) sc__law_no_desks.nd rfl (zai rfl) (qbi9 (qa_c (qe_op qad9 (qv 0) qah9) (qa_c (qe_op qad9 (qv 0) qah9) (qa_c (qe_op qad9 (qv 0) qah9) (qa_c qah9 (qa_c qah9 (qa_c qah9 (qa_c qbr9 (qa_c qaf9 (qa_c qe_bl (qa_c (qbi9 (qa_c (qv 0) qac9)) (qa_c (qbn9 qac9) qac9))))))))))))) (qae9 (qam9 (qfo9 (qkw9 hr.units) (qdv9 ["thing"] [zhr] (BlkOk.of rfl rfl (SubL.to subN) rfl) rfl (qbl9 (qv 1)) (λ _ _ _ _=>(qat9 (i:=0) (show(["thing"]:List Str).Nodup by decide) rfl (zai rfl))) (λ _ _ _ _=>qoa9 (qdj9 (qct9 (qe_fn Ci1 hr rfl (qa_c (qv 0) qac9))))) (λ _ _ _ _=>(qv 0))) (qbi9 qac9) (qbb9 _))))),?_⟩
 walk_at "d"
 obtain⟨asc,lt⟩:=told.tx l4
 have e1:(";":Str).length=1:=by decide
 have e2:("; ":Str).length=2:=by decide
 have e4:(" 0+0":Str).length=4:=by decide
 refine⟨_,rfl,_,_,rfl,rfl,L.le (by rw[e1];omega),_,rfl,_,_,rfl,rfl,L.le (by rw[e2];omega),_,rfl,_,_,rfl,rfl,L.le (by rw[e4];omega),_,rfl,(by show 1<=zhu;decide),λ p1 hp1=>?_⟩
 generalize hgH1:upd _ p1 _=H1
 revert H1
 refine qal9 hp1 λ H1 s1 x1=>?_
 refine⟨(by show 0<=zhu;decide),λ p2 hp2=>?_⟩
 generalize hgH2:upd _ p2 _=H2
 revert H2
 refine qal9 hp2 λ H2 s2 x2=>?_
 refine⟨(by show 11<=zhu;decide),λ ps hps=>?_⟩
 generalize hgH3:upd _ ps _=H3
 revert H3
 refine qal9 hps λ H3 s3 x3=>?_
 have txa:∀y:Str,(∀c∈y.cps.toList,c<128)->y.length<=10->Tx (netS d Lr++y):=λ y ha hl=>⟨λ c hc=>(app_mem.mp hc).elim (asc c) (ha c),by rw[zaa];omega⟩
 have lit:∀y:Str,(decide (∀c∈y.cps.toList,c<128)&&decide (y.length<=100))=true->Tx y:=λ y h=>by
  simp only[zaz,decide_eq_true_eq] at h
  exact⟨h.1,⋯⟩
 have bd:∀z∈[V.str (netS d Lr++";"),.str (netS d Lr++"; "),.str (netS d Lr++" 0+0"),.str "day 0; a>a",.str "day 7; a>b 9+1",.str "",.non,.int 7,.bl true,.ref p1,.ref p2],BadT K H3 z:=λ z hz=>by
  simp only[zag,zam,or_false] at hz
  rcases hz with rfl|rfl|rfl|rfl|rfl|rfl|rfl|rfl|rfl|rfl|rfl
  ·exact .inr ⟨_,rfl,txa _ (by decide +kernel) (by decide),bad_end (c:=59) (by decide +kernel) (.inl rfl)⟩
  ·exact .inr ⟨_,rfl,txa _ (by decide +kernel) (by decide),bad_end (c:=32) (by decide +kernel) (.inr rfl)⟩
  ·exact .inr ⟨_,rfl,txa _ (by decide +kernel) (by decide),bad_more told⟩
  ·exact .inr ⟨_,rfl,lit _ (by decide +kernel),bad_lits.1⟩
  ·exact .inr ⟨_,rfl,lit _ (by decide +kernel),bad_lits.2.1⟩
  ·exact .inr ⟨_,rfl,lit _ (by decide +kernel),bad_lits.2.2⟩
  ·exact .inl ⟨_,.non,rfl⟩
  ·exact .inl ⟨_,.int _,rfl⟩
  ·exact .inl ⟨_,.bl _,rfl⟩
  ·exact .inl ⟨_,.lst (s3 _ _ (s2 _ _ x1)),rfl⟩
  ·exact .inl ⟨_,.tup (s3 _ _ x2),rfl⟩
 generalize [V.str (netS d Lr++";"),.str (netS d Lr++"; "),.str (netS d Lr++" 0+0"),.str "day 0; a>a",.str "day 7; a>b 9+1",.str "",.non,.int 7,.bl true,.ref p1,.ref p2]=zs at *
 refine⟨_,rfl,ps,rfl,⟨_,SqL.of x3⟩,qgr9 (K:=K) (a:=ps) (xs:=zs) (λ D i H'=>Same H3 H'/\H' D=zhq (.lst [])) (λ D hD=>⟨qbc9 hD _,qaj9⟩) (λ D i H' _ _ h=>SqL.of (h.1 _ _ x3)) ?_ ?_⟩
 ·intro D i z H' hD hi z9;obtain⟨sD,eD⟩ := z9
  refine⟨λ k v e=>?_,?_⟩
  ·match k,e with
   |0,e=>cases e
   |k+1,e=>cases e
  refine⟨_,rfl,z,rfl,(bd z (zaf hi)).same sD,λ H5 s5=>⟨_,rfl,?_⟩⟩
  exact iteF ⟨sD.trans s5,s5 _ _ eD⟩
 intro D H4 hD z9;obtain⟨s4,x4⟩ := z9
 refine⟨(by show 0<=zhu;decide),λ p5 hp5=>?_⟩
 generalize hgH5:upd _ p5 _=H5
 revert H5
 refine qal9 hp5 λ H5 s5 x5=>?_
 refine⟨_,_,.lst (SqL.of (s5 _ _ x4)) .nil,.lst (SqL.of x5) .nil,by decide +kernel,by decide +kernel,?_⟩
 exact q _ (s1.trans (s2.trans (s3.trans (s4.trans s5))))
end
def Wd(z:Str):Prop:=32∉z.cps.toList/\(∀c∈z.cps.toList,c<128)/\z.length<=100
def wdB(z:Str):Bool:=decide (32∉z.cps.toList)&&(decide (∀c∈z.cps.toList,c<128)&&decide (z.length<=100))
theorem qba9(h:wdB z=true):Wd z:=by
 unfold wdB at h
 simp only[zaz,decide_eq_true_eq] at h
 exact h
theorem qcu9(h:Low z):Wd z:=⟨qfv9 h ⋯,λ c hc=>by have:=h.all c hc;omega,by have:=h.l8;omega⟩
theorem qmd9(h:Wd x)(h':Wd y)(l:x.length+y.length<=100):Wd (x++y):=⟨λ z=>(app_mem.mp z).elim h.1 h'.1,λ c hc=>(app_mem.mp hc).elim (h.2.1 c) (h'.2.1 c),by rw[zaa];exact l⟩
theorem tx_join{u:Str}(hw:∀z∈u::ws,Wd z)(hl:ws.length<=12):Tx (zbg " " (u::ws)):=by
 refine⟨λ c hc=>?_,?_⟩
 ·rw[qbh9,zak] at hc
  rcases hc with hc|hc
  ·exact(hw u (zan ..)).2.1 c hc
  obtain⟨p,hp,hc⟩:=zdd.mp hc
  rcases zak.mp hc with hc|hc
  ·have:∀c∈(" ":Str).cps.toList,c<128:=by decide +kernel
   exact this c hc
  ·exact(hw p (zal _ hp)).2.1 c hc
 ·have h1:=StrLaws.join_length_le " " (u::ws)
  have h2:=StrLaws.sumLen_le (B:=100) (u::ws) λ y hy=>(hw y hy).2.2
  rw[zbb] at h1 h2
  rw[show((" ":Str)).length=1 by decide] at h1
  omega
theorem badj{u:Str}(e:y=zbg " " (u::ws))(hw:∀z∈u::ws,Wd z)(hl:ws.length<=12)(h:pRow d u ws=zhr):BadR d y:=by
 subst e
 exact bad_words (tx_join hw hl) (λ z hz=>(hw z hz).1) h
theorem j2{u:Str}(eu:u'=u++" ")(a b:Str):u'++a++" "++b=zbg " " [u,a,b]:=by
 rw[qca9,eu]
 show _=u++" "++a++" "++b
 rfl
theorem j3{u:Str}(eu:u'=u++" ")(a b c:Str):u'++a++" "++b++" "++c=zbg " " [u,a,b,c]:=by
 rw[qca9,eu]
 show _=u++" "++a++" "++b++" "++c
 rfl
theorem j1{u:Str}(eu:u'=u++" ")(a:Str):u'++a=zbg " " [u,a]:=by
 rw[qca9,eu]
 rfl
theorem sp5(y:Str):y++" 5"=y++" "++"5" := by
 rw[zbf]
 exact congrArg (y ++ ·) (by decide +kernel)
section
variable {a b:Str}
theorem wd3{u:Str}(hu:wdB u=true)(ha:Low a)(hb:Low b)(hz:Wd z):∀x∈[u,a,b,z],Wd x:=λ x hx=>by
 simp only[zag,zam,or_false] at hx
 rcases hx with rfl|rfl|rfl|rfl
 ·exact qba9 hu
 ·exact qcu9 ha
 ·exact qcu9 hb
 ·exact hz
def momL:List Str:=["05","-0","+5","5.0","1_0","9999999999999999999999999999999","-9999999999999999999999999999999","five","-","5-","5 ","5\n","\t5","--5"]
def momC(z:Str):Bool:=(wdB z && !momB z)||decide (z="5 ")
theorem mom_all:momL.all momC=true:=by decide +kernel
theorem bad_mom(ha:Low a)(hb:Low b)(hz:z∈momL):BadR d ("soonest "++a++" "++b++" "++z):=by
 have h:=zbl.mp mom_all z hz
 unfold momC at h
 simp only[zdw,zaz,decide_eq_true_eq] at h
 rcases h with⟨h1,h2⟩|rfl
 ·refine badj (j3 (u := "soonest") (by decide +kernel) a b z) (wd3 (by decide +kernel) ha hb (qba9 h1)) (by simp) (qhr9 "moment" z (sh3 a b z) (by simp) (qkz9 (nt_t h2)))
 ·have e:("soonest "++a++" "++b++" "++"5 ":Str)=zbg " " ["soonest",a,b,"5",""]:=by
   rw[qca9,show("soonest ":Str)="soonest"++" " from by decide +kernel]
   show _=("soonest":Str)++" "++a++" "++b++" "++"5"++" "++""
   rw[show("5 ":Str)="5"++" "++"" from by decide +kernel]
   simp only[zbf]
  refine badj e (λ x hx=>?_) (by simp) (qdr9 (ks:=["name","name","moment"]) rfl (by simp))
  simp only[zag,zam,or_false] at hx
  rcases hx with rfl|rfl|rfl|rfl|rfl
  ·exact qba9 (by decide +kernel)
  ·exact qcu9 ha
  ·exact qcu9 hb
  ·exact qba9 (by decide +kernel)
  ·exact qba9 (by decide +kernel)
def turL:List Str:=["4","-1","03","","1 2","0+"]
def turC(z:Str):Bool:=(wdB z && !turB z)||decide (z="1 2")
theorem tur_all:turL.all turC=true:=by decide +kernel
theorem bad_tur(ha:Low a)(hb:Low b)(hz:z∈turL):BadR d ("kept "++a++" "++b++" 5 "++z):=by
 have h:=zbl.mp tur_all z hz
 unfold turC at h
 simp only[zdw,zaz,decide_eq_true_eq] at h
 have e5:(" 5 ":Str)=" "++"5"++" " := by decide +kernel
 rcases h with⟨h1,h2⟩|rfl
 ·have e:("kept "++a++" "++b++" 5 "++z:Str)=zbg " " ["kept",a,b,"5",z]:=by
   rw[qca9,show("kept ":Str)="kept"++" " from by decide +kernel,e5]
   show _=("kept":Str)++" "++a++" "++b++" "++"5"++" "++z
   simp only[zbf]
  refine badj e (λ x hx=>?_) (by simp) (qhr9 (ks:=["name","name","moment","turns"]) "turns" z rfl (by simp) (one_turns (nt_t h2)))
  simp only[zag,zam,or_false] at hx
  rcases hx with rfl|rfl|rfl|rfl|rfl
  ·exact qba9 (by decide +kernel)
  ·exact qcu9 ha
  ·exact qcu9 hb
  ·exact qba9 (by decide +kernel)
  ·exact qba9 h1
 ·have e:("kept "++a++" "++b++" 5 "++"1 2":Str)=zbg " " ["kept",a,b,"5","1","2"]:=by
   rw[qca9,show("kept ":Str)="kept"++" " from by decide +kernel,e5]
   show _=("kept":Str)++" "++a++" "++b++" "++"5"++" "++"1"++" "++"2"
   rw[show("1 2":Str)="1"++" "++"2" from by decide +kernel]
   simp only[zbf]
  refine badj e (λ x hx=>?_) (by simp) (qdr9 (ks:=["name","name","moment","turns"]) rfl (by simp))
  simp only[zag,zam,or_false] at hx
  rcases hx with rfl|rfl|rfl|rfl|rfl|rfl
  ·exact qba9 (by decide +kernel)
  ·exact qcu9 ha
  ·exact qcu9 hb
  ·exact qba9 (by decide +kernel)
  ·exact qba9 (by decide +kernel)
  ·exact qba9 (by decide +kernel)
theorem win_late(d1:1<=d)(d2:d<=1000000000000000):pWin d (numT d++"+1")=zhr:=by
 have sd:Sm d:=⟨⋯,⋯⟩
 have p1:Txt.partition (numT d++"+1") "+"=(numT d,("+":Str),("1":Str)):=by
  rw[show("+1":Str)=(⟨#[43]⟩:Str)++"1" from by decide +kernel,<- zbf]
  exact qcp9 (c:=43) (qcs9 ⋯ ⋯)
 have p2:Txt.partition (numT d) "-"=(numT d,zbr,zbr):=qib9 (c:=45) (qcs9 ⋯ ⋯)
 have n1:pNum 16 "1"=zhq 1:=by decide +kernel
 have sp:pSpan (numT d)=zhq (d,d):=by
  unfold pSpan
  rw[p2,pNum_num ⋯ sd.len]
  rfl
 unfold pWin
 rw[p1]
 show(match pSpan (numT d),pNum 16 "1" with|zhq (a,b),zhq c=>if(1<=c/\c<=1000000000000000)/\b<d then zhq (a,b,c) else zhr|_,_=>zhr)=zhr
 rw[sp,n1]
 exact if_neg ⋯
def winZ(d:Int):List Str:=["03+1","5-3+1","3-3+1","0+0","0+01",numT d++"+1","0+1000000000000001","0+1 0+1","0","+1"]
theorem qho9(h:(match pSpan (Txt.partition z "+").1,pNum 16 (Txt.partition z "+").2.2 with|zhq _,zhq c=>decide (1<=c/\c<=1000000000000000)|_,_=>false)=false):pWin d z=zhr:=by
 unfold pWin
 split
 ·rename_i a b c e1 e2
  rw[e1,e2] at h
  exact if_neg λ g=>of_decide_eq_false h g.1
 ·rfl
theorem wd_num(d1:0<=d)(d2:d<=1000000000000000):Wd (numT d):=by
 have sd:Sm d:=⟨⋯,⋯⟩
 exact⟨qcs9 d1 ⋯,λ c hc=>by have:=qis9 d1 c hc;omega,by have:(numT d).length<=16:=sd.len;omega⟩
theorem qom9(ha:Low a)(hb:Low b):Wd (a++">"++b):=by
 have h1:=ha.l8
 have h2:=hb.l8
 refine qmd9 (qmd9 (qcu9 ha) (qba9 (by decide +kernel)) ?_) (qcu9 hb) ?_
 ·rw[show(">":Str).length=1 by decide];omega
 ·rw[zaa,show(">":Str).length=1 by decide];omega
theorem bad_win(ha:Low a)(hb:Low b)(d1:1<=d)(d2:d<=1000000000000000){u:Str}(eu:u'=u++" ")(hu:wdB u=true)(sh:∀ws,qfc9 u ws=zhq (["road","window"]:List Str))(hz:z∈winZ d):BadR d (u'++(a++">"++b)++" "++z):=by
 have go:Wd z->pWin d z=zhr->BadR d (u'++(a++">"++b)++" "++z):=λ wz hn=>by
  refine badj (j2 eu _ z) (λ x hx=>?_) (by simp) (qhr9 (ks:=["road","window"]) "window" z (sh _) (by simp) (qrl9 hn))
  simp only[zag,zam,or_false] at hx
  rcases hx with rfl|rfl|rfl
  ·exact qba9 hu
  ·exact qom9 ha hb
  ·exact wz
 unfold winZ at hz
 simp only[zag,zam,or_false] at hz
 rcases hz with rfl|rfl|rfl|rfl|rfl|rfl|rfl|rfl|rfl|rfl
 ·exact go (qba9 (by decide +kernel)) (qho9 (by decide +kernel))
 ·exact go (qba9 (by decide +kernel)) (qho9 (by decide +kernel))
 ·exact go (qba9 (by decide +kernel)) (qho9 (by decide +kernel))
 ·exact go (qba9 (by decide +kernel)) (qho9 (by decide +kernel))
 ·exact go (qba9 (by decide +kernel)) (qho9 (by decide +kernel))
 ·have sd:Sm d:=⟨⋯,⋯⟩
  refine go (qmd9 (wd_num ⋯ d2) (qba9 (by decide +kernel)) ?_) (win_late d1 d2)
  have:(numT d).length<=16:=sd.len
  rw[show("+1":Str).length=2 by decide]
  omega
 ·exact go (qba9 (by decide +kernel)) (qho9 (by decide +kernel))
 ·have e:u'++(a++">"++b)++" "++("0+1 0+1":Str)=zbg " " [u,a++">"++b,"0+1","0+1"]:=by
   rw[qca9,eu]
   show _=u++" "++(a++">"++b)++" "++"0+1"++" "++"0+1"
   rw[show("0+1 0+1":Str)="0+1"++" "++"0+1" from by decide +kernel]
   simp only[zbf]
  refine badj e (λ x hx=>?_) (by simp) (qdr9 (sh _) (by simp))
  simp only[zag,zam,or_false] at hx
  rcases hx with rfl|rfl|rfl|rfl
  ·exact qba9 hu
  ·exact qom9 ha hb
  ·exact qba9 (by decide +kernel)
  ·exact qba9 (by decide +kernel)
 ·exact go (qba9 (by decide +kernel)) (qho9 (by decide +kernel))
 ·exact go (qba9 (by decide +kernel)) (qho9 (by decide +kernel))
theorem qmw9(hc:c∈z.cps.toList)(h:c∉letT.cps.toList):nameB z=false:=zbp.mpr λ hb=>by
 unfold nameB at hb
 exact h (all_sg.mp (zbt.mp hb).2 c hc)
theorem num_low(h:∀c∈z.cps.toList,97<=c/\c<=122):pNum m z=zhr:=by
 cases e:z.cps.toList with
 |nil =>
  have l:z.length=z.cps.toList.length:=by simp[zbm]
  rw[e] at l
  unfold pNum
  rw[if_neg]
  intro hb
  have:=(qse9 hb).1
  simp at l
  omega
 |cons c cs =>
  have hc:c∈z.cps.toList:=by rw[e];exact zan ..
  refine num_not hc λ hf=>?_
  have h1:=h c hc
  have:∀c∈figT.cps.toList,c<=57:=by decide +kernel
  have:=this c hf
  omega
theorem mom_low(h:Low a):momB a=false:=by
 unfold momB
 split
 ·rw[num_low λ c hc=>h.all c (zfo (qmk9 (x:=a) (i:=1) (by decide) ▸ hc))]
 ·rw[num_low h.all]
  rfl
theorem up_cps:∀(cs:List Nat),(∀c∈cs,97<=c/\c<=122)->(Txt.upper ⟨cs.toArray⟩).cps.toList=cs.map (· - 32)
 | [],_=>by decide +kernel
 |c::cs,h=>by
  have hc:=h c (zan ..)
  have e:(⟨(c::cs).toArray⟩:Str)=(⟨#[c]⟩:Str) ++ ⟨cs.toArray⟩:=qcz9 (by rw[qch9];simp)
  rw[e,W.KOpn.upper_app,W.KOpn.upper_one ⋯,if_pos hc,qch9,up_cps cs λ x hx=>h x (zal _ hx)]
  rfl
theorem up_low(h:Low a):(Txt.upper a).cps.toList=a.cps.toList.map (· - 32):=by
 have e:a=⟨a.cps.toList.toArray⟩:=qcz9 (by simp)
 have:=up_cps a.cps.toList h.all
 rw[<- e] at this
 exact this
theorem up_len(h:Low a):(Txt.upper a).length=a.length:=by
 have l:∀z:Str,z.length=z.cps.toList.length:=λ z=>by simp[zbm]
 rw[l,l,up_low h,zac]
theorem up_wd(h:Low a):Wd (Txt.upper a):=by
 refine⟨λ z=>?_,λ c hc=>?_,by rw[up_len h];have:=h.l8;omega⟩
 ·rw[up_low h] at z
  obtain⟨x,hx,e⟩:=zas.mp z
  have:=h.all x hx
  omega
 ·rw[up_low h] at hc
  obtain⟨x,hx,e⟩:=zas.mp hc
  have:=h.all x hx
  omega
theorem up_name(h:Low a):nameB (Txt.upper a)=false:=by
 have l:a.length=a.cps.toList.length:=by simp[zbm]
 cases e:a.cps.toList with
 |nil =>
  have:=h.l1
  rw[e] at l
  simp at l
  omega
 |cons c cs =>
  have hc:c∈a.cps.toList:=by rw[e];exact zan ..
  have hr:=h.all c hc
  refine qmw9 (c:=c-32) (by rw[up_low h];exact zas.mpr ⟨c,hc,rfl⟩) λ hf=>?_
  have:∀c∈letT.cps.toList,97<=c:=by decide +kernel
  have:=this _ hf
  omega
def nine(b:Str):Str:=Txt.slice (b++"aaaaaaaa") zhr (zhq 9)
theorem qqz9(b:Str):(nine b).cps.toList=(b.cps.toList++("aaaaaaaa":Str).cps.toList).take 9:=by
 unfold nine
 rw[qmt9 (by decide),qch9]
 rfl
theorem qmo9(h:Low b):(nine b).length=9:=by
 have l:∀z:Str,z.length=z.cps.toList.length:=λ z=>by simp[zbm]
 have h1:=h.l1
 rw[l] at h1
 rw[l,qqz9,zbd,zap,show("aaaaaaaa":Str).cps.toList.length=8 by decide +kernel]
 omega
theorem nine_wd(h:Low b):Wd (nine b):=by
 have hm:∀c∈(nine b).cps.toList,97<=c/\c<=122:=λ c hc=>by
  rw[qqz9] at hc
  rcases zak.mp (zcu hc) with hc|hc
  ·exact h.all c hc
  ·have:∀c∈("aaaaaaaa":Str).cps.toList,97<=c/\c<=122:=by decide +kernel
   exact this c hc
 exact⟨λ z=>by have:=hm _ z;omega,λ c hc=>by have:=hm c hc;omega,by rw[qmo9 h];decide⟩
theorem nine_name(h:Low b):nameB (nine b)=false:=by
 unfold nameB
 rw[qmo9 h]
 rfl
theorem wds(h:l.all wdB=true):∀z∈l,Wd z:=λ z hz=>qba9 (zbl.mp h z hz)
def rowsA(a b:Str):List Str:=[""," ","soonest","soonest "++a++" "++b,"soonest "++a++"  "++b++" 5","net ","net net","Net"]
theorem bad_A(ha:Low a)(hb:Low b):∀y∈rowsA a b,BadR d y:=λ y hy=>by
 unfold rowsA at hy
 simp only[zag,zam,or_false] at hy
 rcases hy with rfl|rfl|rfl|rfl|rfl|rfl|rfl|rfl
 ·exact badj (u := "") (ws:=[]) (by decide +kernel) (wds (by decide +kernel)) (by simp) (qen9 rfl)
 ·exact badj (u := "") (ws:=[""]) (by decide +kernel) (wds (by decide +kernel)) (by simp) (qen9 rfl)
 ·exact badj (u := "soonest") (ws:=[]) (by decide +kernel) (wds (by decide +kernel)) (by simp) (qdr9 (ks:=["name","name","moment"]) rfl (by simp))
 ·refine badj (j2 (u := "soonest") (by decide +kernel) a b) (λ x hx=>?_) (by simp) (qdr9 (ks:=["name","name","moment"]) rfl (by simp))
  simp only[zag,zam,or_false] at hx
  rcases hx with rfl|rfl|rfl
  ·exact qba9 (by decide +kernel)
  ·exact qcu9 ha
  ·exact qcu9 hb
 ·have e:("soonest "++a++"  "++b++" 5":Str)=zbg " " ["soonest",a,"",b,"5"]:=by
   rw[qca9,show("soonest ":Str)="soonest"++" " from by decide +kernel]
   show _=("soonest":Str)++" "++a++" "++""++" "++b++" "++"5"
   rw[sp5,show("  ":Str)=" "++""++" " from by decide +kernel]
   simp only[zbf]
  refine badj e (λ x hx=>?_) (by simp) (qdr9 (ks:=["name","name","moment"]) rfl (by simp))
  simp only[zag,zam,or_false] at hx
  rcases hx with rfl|rfl|rfl|rfl|rfl
  ·exact qba9 (by decide +kernel)
  ·exact qcu9 ha
  ·exact qba9 (by decide +kernel)
  ·exact qcu9 hb
  ·exact qba9 (by decide +kernel)
 ·exact badj (u := "net") (ws:=[""]) (by decide +kernel) (wds (by decide +kernel)) (by simp) (qdr9 (ks:=[]) rfl (by simp))
 ·exact badj (u := "net") (ws:=["net"]) (by decide +kernel) (wds (by decide +kernel)) (by simp) (qdr9 (ks:=[]) rfl (by simp))
 ·exact badj (u := "Net") (ws:=[]) (by decide +kernel) (wds (by decide +kernel)) (by simp) (qen9 rfl)
def rowsB(a b:Str):List Str:=["open "++a++" "++b++" 0+1","shut "++(a++">"++b)++">"++a++" 0+1","open "++a++"> 0+1"]
theorem sp01(y:Str):y++" 0+1"=y++" "++"0+1" := by
 rw[zbf]
 exact congrArg (y ++ ·) (by decide +kernel)
theorem bad_B(ha:Low a)(hb:Low b):∀y∈rowsB a b,BadR d y:=λ y hy=>by
 have la:=ha.l8
 have lb:=hb.l8
 have e1:(">":Str).length=1:=by decide
 unfold rowsB at hy
 simp only[zag,zam,or_false] at hy
 rcases hy with rfl|rfl|rfl
 ·rw[sp01]
  exact badj (j3 (u := "open") (by decide +kernel) a b _) (wd3 (by decide +kernel) ha hb (qba9 (by decide +kernel))) (by simp) (qdr9 (ks:=["road","window"]) rfl (by simp))
 ·have e:("shut "++(a++">"++b)++">"++a++" 0+1":Str)=zbg " " ["shut",a++">"++b++">"++a,"0+1"]:=by
   rw[sp01,<- j2 (u' := "shut ") (by decide +kernel)]
   simp only[zbf]
  have pn:pEnds (a++">"++b++">"++a)=zhr:=by
   have p:Txt.partition (a++">"++b++">"++a) ">"=(a,(">":Str),b++">"++a):=by
    have e:a++">"++b++">"++a=a++(⟨#[62]⟩:Str)++(b++">"++a):=by
     rw[show(">":Str)=⟨#[62]⟩ from rfl]
     simp only[zbf]
    rw[e]
    exact qcp9 (c:=62) (qfv9 ha ⋯)
   unfold pEnds
   rw[p]
   refine if_neg λ h=>?_
   have:=qmw9 (z:=b++">"++a) (c:=62) (app_mem.mpr (.inl (app_mem.mpr (.inr (by decide +kernel))))) (by decide +kernel)
   rw[this] at h
   cases h.2
  refine badj e (λ x hx=>?_) (by simp) (qhr9 (ks:=["road","window"]) "road" (a++">"++b++">"++a) rfl (by simp) (qsb9 pn))
  simp only[zag,zam,or_false] at hx
  rcases hx with rfl|rfl|rfl
  ·exact qba9 (by decide +kernel)
  ·refine qmd9 (qmd9 (qom9 ha hb) (qba9 (by decide +kernel)) ?_) (qcu9 ha) ?_
   ·simp only[zaa,e1];omega
   ·simp only[zaa,e1];omega
  ·exact qba9 (by decide +kernel)
 ·have e:("open "++a++"> 0+1":Str)=zbg " " ["open",a++">","0+1"]:=by
   rw[<- j2 (u' := "open ") (by decide +kernel),show("> 0+1":Str)=">"++" "++"0+1" from by decide +kernel]
   simp only[zbf]
  have pn:pEnds (a++">")=zhr:=by
   have p:Txt.partition (a++">") ">"=(a,(">":Str),zbr):=by
    have e:a++(">":Str)=a++(⟨#[62]⟩:Str)++zbr:=qcz9 (by rw[qch9,qch9,qch9];simp[zbr];rfl)
    rw[e]
    exact qcp9 (c:=62) (qfv9 ha ⋯)
   unfold pEnds
   rw[p]
   refine if_neg λ h=>?_
   have:nameB zbr=false:=by decide +kernel
   rw[this] at h
   cases h.2
  refine badj e (λ x hx=>?_) (by simp) (qhr9 (ks:=["road","window"]) "road" (a++">") rfl (by simp) (qsb9 pn))
  simp only[zag,zam,or_false] at hx
  rcases hx with rfl|rfl|rfl
  ·exact qba9 (by decide +kernel)
  ·refine qmd9 (qcu9 ha) (qba9 (by decide +kernel)) ?_
   rw[e1];omega
  ·exact qba9 (by decide +kernel)
def rowsC(a:Str):List Str:=["meet 5","meet 5"++Txt.mul (" "++a) 7,"meet "++a++" 5","board "++a]
theorem mul7(z:Str)(h:1<=z.length):Txt.mul z 7=z++z++z++z++z++z++z:=by
 unfold Txt.mul
 rw[if_neg (by decide),if_neg (by simp;omega)]
 refine qcz9 ?_
 simp only[qch9]
 simp[zbc]
theorem bad_C(ha:Low a):∀y∈rowsC a,BadR d y:=λ y hy=>by
 unfold rowsC at hy
 simp only[zag,zam,or_false] at hy
 rcases hy with rfl|rfl|rfl|rfl
 ·exact badj (u := "meet") (ws:=["5"]) (by decide +kernel) (wds (by decide +kernel)) (by simp) (qen9 (by decide +kernel))
 ·have e:("meet 5"++Txt.mul (" "++a) 7:Str)=zbg " " ["meet","5",a,a,a,a,a,a,a]:=by
   rw[mul7 _ (by rw[zaa,show(" ":Str).length=1 by decide];omega),qca9,show("meet 5":Str)="meet"++" "++"5" from by decide +kernel]
   show _=("meet":Str)++" "++"5"++" "++a++" "++a++" "++a++" "++a++" "++a++" "++a++" "++a
   simp only[zbf]
  refine badj e (λ x hx=>?_) (by simp) (qen9 ?_)
  ·simp only[zag,zam,or_false] at hx
   rcases hx with rfl|rfl|rfl|rfl|rfl|rfl|rfl|rfl|rfl
   ·exact qba9 (by decide +kernel)
   ·exact qba9 (by decide +kernel)
   all_goals exact qcu9 ha
  ·unfold qfc9
   rw[if_neg (by simp)]
   decide +kernel
 ·have e:("meet "++a++" 5":Str)=zbg " " ["meet",a,"5"]:=by
   rw[sp5,<- j2 (u' := "meet ") (by decide +kernel)]
  refine badj e (λ x hx=>?_) (by simp) (qhr9 (ks:=["moment","name"]) "moment" a ?_ (by simp) (qkz9 (mom_low ha)))
  ·simp only[zag,zam,or_false] at hx
   rcases hx with rfl|rfl|rfl
   ·exact qba9 (by decide +kernel)
   ·exact qcu9 ha
   ·exact qba9 (by decide +kernel)
  ·unfold qfc9
   rw[if_pos (by simp)]
   rfl
 ·refine badj (j1 (u := "board") (by decide +kernel) a) (λ x hx=>?_) (by simp) (qdr9 (ks:=["name","name"]) rfl (by simp))
  simp only[zag,zam,or_false] at hx
  rcases hx with rfl|rfl
  ·exact qba9 (by decide +kernel)
  ·exact qcu9 ha
theorem bad_D(ha:Low a)(hb:Low b):BadR d ("longest "++a++" "++b++" 5"):=by
 rw[sp5]
 exact badj (j3 (u := "longest") (by decide +kernel) a b _) (wd3 (by decide +kernel) ha hb (qba9 (by decide +kernel))) (by simp) (qdr9 (ks:=["name","name"]) rfl (by simp))
theorem bad_nm{u:Str}(eu:u'=u++" ")(hu:wdB u=true)(sh:∀ws,qfc9 u ws=zhq (["name","name","moment"]:List Str))(hx:Wd x)(hy:Wd y)(h:nameB x=false\/nameB y=false):BadR d (u'++x++" "++y++" 5"):=by
 rw[sp5]
 have hw:∀z∈[u,x,y,("5":Str)],Wd z:=λ z hz=>by
  simp only[zag,zam,or_false] at hz
  rcases hz with rfl|rfl|rfl|rfl
  ·exact qba9 hu
  ·exact hx
  ·exact hy
  ·exact qba9 (by decide +kernel)
 rcases h with h|h
 ·exact badj (j3 eu x y _) hw (by simp) (qhr9 (ks:=["name","name","moment"]) "name" x (sh _) (by simp) (qrw9 h))
 ·exact badj (j3 eu x y _) hw (by simp) (qhr9 (ks:=["name","name","moment"]) "name" y (sh _) (by simp) (qrw9 h))
theorem bad_F(ha:Low a)(hb:Low b):BadR d ("soonest "++a++"_ "++b++" 5"):=by
 have e:("soonest "++a++"_ "++b++" 5":Str)="soonest "++(a++"_")++" "++b++" 5" := by
  rw[show("_ ":Str)="_"++" " from by decide +kernel]
  simp only[zbf]
 rw[e]
 refine bad_nm (u := "soonest") (by decide +kernel) (by decide +kernel) (λ _=>rfl) (qmd9 (qcu9 ha) (qba9 (by decide +kernel)) ?_) (qcu9 hb) (.inl (qmw9 (c:=95) (app_mem.mpr (.inr (by decide +kernel))) (by decide +kernel)))
 have:=ha.l8
 rw[show("_":Str).length=1 by decide]
 omega
end
def BadV(K:W.Frag)(H:Hp)(d:Int)(z:V):Prop:=NoStr K H z\/∃y,z=.str y/\BadR d y
theorem BadV.same{K:W.Frag}{H H':Hp}{d:Int}{z:V}(h:BadV K H d z)(s:Same H H'):BadV K H' d z:=h.imp (λ h=>h.same s) id
inductive spNoRows(K:W.Frag)(vs:List V)(H:Hp)(Q:VK)(z3q:XK):Prop
 |mk (d:Int) (a b:Str):vs=[.int d,.str a,.str b]->Low a->Low b->1<=d->d<=1000000000000000->(∀(l:zht)(zs:List V)(H':Hp),Same H H'->H' l=zhq (.lst zs)->zs.length<=200->(∀z∈zs,BadV K H' d z)->Q (.ref l) H')->spNoRows K vs H Q z3q
section
variable {w:zhy}{f:zht}
theorem mulOk7(h:x.length<=9):MulOk x 7:=by
 refine⟨by decide,λ _ _=>?_,λ _ _=>?_⟩
 ·have:((2:Int) ^ 63-1)/7=1317624576693539401:=by decide
  rw[this]
  omega
 ·unfold Builtin.Str.tooLong
  refine decide_eq_false ?_
  have:x.length*(7:Int).toNat=x.length*7:=rfl
  have:=L.le (n:=x.length*7) ⋯
  omega
theorem ok_norows(F:Fun K "_law_no_rows" "_law_no_rows" qcg9 f fd)(B:Bl mg):FnOk P w K mg base CX0 (n+1) f fd ["day","a","b"] (spNoRows K):=by
 refine F.okQ sc__law_no_rows (λ vs H Q E h=>?_) (λ cdv A outer s H vs Q E hr h=>?_)
 ·obtain⟨_,_,_,rfl,_⟩:=h
  rfl
 obtain⟨d,a,b,rfl,ha,hb,d1,d2,q⟩:=h
 refine⟨_,(qaa9 (qak9 (i:=3) sc__law_no_rows.nd rfl (zai rfl) (qe_op qad9 (qe_op qad9 (qv 1) qah9) (qv 2))) (qaa9 (qak9 (i:=4) sc__law_no_rows.nd rfl (zai rfl) (qbi9 (qa_c qah9 (qa_c qah9 (qa_c qah9 (qa_c (qe_op qad9 (qe_op qad9 (qe_op qad9 qah9 (qv 1)) qah9) (qv 2)) (qa_c (qe_op qad9 (qe_op qad9 (qe_op qad9 (qe_op qad9 qah9 (qv 1)) qah9) (qv 2)) qah9) (qa_c qah9 (qa_c qah9 (qa_c qah9 qac9)))))))))) (qaa9 (qak9 (i:=5) sc__law_no_rows.nd rfl (zai rfl) (qe_op qtk9 qah9 qaf9)) (qaa9 (qeo9 ziq.never rfl (qbl9 (qbi9 (qa_c qah9 (qa_c qah9 (qa_c qah9 (qa_c qah9 (qa_c qah9 (qa_c (qv 5) (qa_c (qe_op qad9 qah9 (qv 5)) (qa_c qah9 (qa_c qah9 (qa_c qah9 (qa_c qah9 (qa_c qah9 (qa_c qah9 (qa_c qah9 qac9)))))))))))))))) (qat9 (i:=6) sc__law_no_rows.nd rfl (zai rfl)) (qae9 (qcl9 (qbf9 (qv 4) (qa_c (qe_op qad9 (qe_op qad9 (qe_op qad9 (qe_op qad9 (qe_op qad9 qah9 (qv 1)) qah9) (qv 2)) qah9) (qv 6)) qac9))))) (qaa9 (qeo9 ziq.never rfl (qbl9 (qbi9 (qa_c qah9 (qa_c qah9 (qa_c qah9 (qa_c qah9 (qa_c qah9 (qa_c qah9 qac9)))))))) (qat9 (i:=6) sc__law_no_rows.nd rfl (zai rfl)) (qae9 (qcl9 (qbf9 (qv 4) (qa_c (qe_op qad9 (qe_op qad9 (qe_op qad9 (qe_op qad9 (qe_op qad9 qah9 (qv 1)) qah9) (qv 2)) qah9) (qv 6)) qac9))))) (qaa9 (qak9 (i:=7) sc__law_no_rows.nd rfl (zai rfl) (qe_op qad9 (qe_ct qed9 rfl B.str_ qhx9 (qa_c (qv 0) qac9)) qah9)) (qaa9 (qak9 (i:=5) sc__law_no_rows.nd rfl (zai rfl) (qe_op qad9 qah9 (qe_ct qed9 rfl B.str_ qhx9 (qa_c (qe_op qbu9 (qe_op qji9 qaf9 qaf9) qaf9) qac9)))) (qaa9 (qeo9 ziq.never rfl (qbl9 (qbi9 (qa_c qah9 (qa_c qah9 (qa_c qah9 (qa_c qah9 (qa_c qah9 (qa_c (qv 7) (qa_c (qv 5) (qa_c qah9 (qa_c qah9 (qa_c qah9 qac9)))))))))))) (qat9 (i:=6) sc__law_no_rows.nd rfl (zai rfl)) (qaa9 (qcl9 (qbf9 (qv 4) (qa_c (qe_op qad9 (qe_op qad9 (qe_op qad9 qah9 (qv 3)) qah9) (qv 6)) qac9))) (qae9 (qcl9 (qbf9 (qv 4) (qa_c (qe_op qad9 (qe_op qad9 (qe_op qad9 qah9 (qv 3)) qah9) (qv 6)) qac9)))))) (qaa9 (qak9 (i:=4) sc__law_no_rows.nd rfl (zai rfl) (qe_op qht9 (qv 4) (qbi9 (qa_c (qe_op qad9 (qe_op qad9 (qe_op qad9 (qe_op qad9 qah9 (qv 1)) qah9) (qv 2)) qah9) (qa_c (qe_op qad9 (qe_op qad9 (qe_op qad9 (qe_op qad9 qah9 (qv 3)) qah9) (qv 1)) qah9) (qa_c (qe_op qad9 (qe_op qad9 qah9 (qv 1)) qah9) qac9)))))) (qaa9 (qak9 (i:=4) sc__law_no_rows.nd rfl (zai rfl) (qe_op qht9 (qv 4) (qbi9 (qa_c qah9 (qa_c (qe_op qad9 qah9 (qe_op qtk9 (qe_op qad9 qah9 (qv 1)) qaf9)) (qa_c (qe_op qad9 (qe_op qad9 qah9 (qv 1)) qah9) (qa_c (qe_op qad9 qah9 (qv 1)) qac9))))))) (qaa9 (qcl9 (qbf9 (qv 4) (qa_c (qe_op qad9 (qe_op qad9 (qe_op qad9 (qe_op qad9 qah9 (qv 1)) qah9) (qv 2)) qah9) qac9))) (qaa9 (qak9 (i:=4) sc__law_no_rows.nd rfl (zai rfl) (qe_op qht9 (qv 4) (qbi9 (qa_c (qe_op qad9 (qe_op qad9 (qe_op qad9 (qe_op qad9 qah9 (qe_upper0 (qv 1))) qah9) (qv 2)) qah9) (qa_c (qe_op qad9 (qe_op qad9 (qe_op qad9 (qe_op qad9 qah9 (qv 1)) qah9) (qpl9 (qe_op qad9 (qv 2) qah9) qfi9 (qfh9 qaf9))) qah9) qac9))))) (qae9 (qam9 (qe_op qht9 (qv 4) (qbi9 (qa_c qbr9 (qa_c qaf9 (qa_c qe_bl (qa_c (qbi9 (qa_c qah9 qac9)) (qa_c (qbn9 (qa_c qah9 qac9)) (qa_c (qbi9 qac9) (qa_c (qe_op qad9 (qe_op qad9 (qe_op qad9 (qe_op qad9 qah9 (qv 1)) qah9) (qv 2)) qah9) qac9))))))))))))))))))))))),?_⟩
 walk_at "d"
 have E1:(" ":Str).length=1:=by decide
 have E2:(">":Str).length=1:=by decide
 have E3:("soonest ":Str).length=8:=by decide
 have E4:("  ":Str).length=2:=by decide
 have E5:(" 5":Str).length=2:=by decide
 have E6:("kept ":Str).length=5:=by decide
 have E7:(" 5 ":Str).length=3:=by decide
 have E8:("open ":Str).length=5:=by decide
 have E9:("shut ":Str).length=5:=by decide
 have E10:(" 0+1":Str).length=4:=by decide
 have E11:("> 0+1":Str).length=5:=by decide
 have E12:("meet ":Str).length=5:=by decide
 have E13:("meet 5":Str).length=6:=by decide
 have E14:("board ":Str).length=6:=by decide
 have E15:("longest ":Str).length=8:=by decide
 have E16:("latest ":Str).length=7:=by decide
 have E17:("rides ":Str).length=6:=by decide
 have E18:("aaaaaaaa":Str).length=8:=by decide
 have E19:("_ ":Str).length=2:=by decide
 have E20:("-":Str).length=1:=by decide
 have E21:("0+":Str).length=2:=by decide
 have E22:("+1":Str).length=2:=by decide
 have E23:("9":Str).length=1:=by decide
 have la:=ha.l8
 have lb:=hb.l8
 refine⟨_,rfl,_,_,rfl,rfl,L.le (by simp only[zaa,E1,E2,E3,E4,E5,E6,E7,E8,E9,E10,E11,E12,E13,E14,E15,E16,E17,E18,E19,E20,E21,E22,E23];omega),_,rfl,_,_,rfl,rfl,L.le (by simp only[zaa,E1,E2,E3,E4,E5,E6,E7,E8,E9,E10,E11,E12,E13,E14,E15,E16,E17,E18,E19,E20,E21,E22,E23];omega),?_⟩
 refine⟨_,rfl,_,_,rfl,rfl,L.le (by simp only[zaa,E1,E2,E3,E4,E5,E6,E7,E8,E9,E10,E11,E12,E13,E14,E15,E16,E17,E18,E19,E20,E21,E22,E23];omega),_,_,rfl,rfl,L.le (by simp only[zaa,E1,E2,E3,E4,E5,E6,E7,E8,E9,E10,E11,E12,E13,E14,E15,E16,E17,E18,E19,E20,E21,E22,E23];omega),_,rfl,_,_,rfl,rfl,L.le (by simp only[zaa,E1,E2,E3,E4,E5,E6,E7,E8,E9,E10,E11,E12,E13,E14,E15,E16,E17,E18,E19,E20,E21,E22,E23];omega),_,rfl,_,_,rfl,rfl,L.le (by simp only[zaa,E1,E2,E3,E4,E5,E6,E7,E8,E9,E10,E11,E12,E13,E14,E15,E16,E17,E18,E19,E20,E21,E22,E23];omega),_,_,rfl,rfl,L.le (by simp only[zaa,E1,E2,E3,E4,E5,E6,E7,E8,E9,E10,E11,E12,E13,E14,E15,E16,E17,E18,E19,E20,E21,E22,E23];omega),_,rfl,_,_,rfl,rfl,L.le (by simp only[zaa,E1,E2,E3,E4,E5,E6,E7,E8,E9,E10,E11,E12,E13,E14,E15,E16,E17,E18,E19,E20,E21,E22,E23];omega),_,_,rfl,rfl,L.le (by simp only[zaa,E1,E2,E3,E4,E5,E6,E7,E8,E9,E10,E11,E12,E13,E14,E15,E16,E17,E18,E19,E20,E21,E22,E23];omega),(by show 8<=zhu;decide),λ ps hps=>?_⟩
 have fps:=hps
 generalize hgH1:upd _ ps _=H1
 revert H1
 refine qal9 hps λ H1 s1 e1=>?_
 have e1:H1 ps=zhq (.lst ((rowsA a b).map V.str)):=e1
 refine⟨_,_,rfl,rfl,⟨by decide,λ _ _=>by decide,λ _ _=>by decide⟩,?_⟩
 have hm:Txt.mul "9" 31=("9999999999999999999999999999999":Str):=by decide +kernel
 have lm:("9999999999999999999999999999999":Str).length=31:=by decide
 have hm2:("-":Str)++"9999999999999999999999999999999"="-9999999999999999999999999999999" := by decide +kernel
 rw[hm]
 refine⟨_,rfl,_,rfl,_,_,rfl,rfl,L.le (by rw[lm,E20];omega),(by show 14<=zhu;decide),λ pw hpw=>?_⟩
 rw[hm2]
 have nw1:ps≠pw:=λ z=>by rw[<- z,e1] at hpw;cases hpw
 generalize hgH2:upd _ pw _=H2
 revert H2
 refine qal9 hpw λ H2 s2 e2=>?_
 have e2:H2 pw=zhq (.lst (momL.map V.str)):=e2
 have s02:=s1.trans s2
 have ml:∀z∈momL,z.length<=40:=by decide +kernel
 generalize hW:a++">"++b=ways at *
 have lways:ways.length<=17:=by
  rw[<- hW]
  simp only[zaa,E2]
  omega
 refine⟨pw,rfl,⟨_,SqL.of e2⟩,qdg9 (K:=K) (a:=pw) (xs:=momL.map V.str)
  (λ i σ H'=>E2q λ(ys:List Str) (v6:Option V)=>A6q (σ=[sI9 d,sS9 a,sS9 b,sS9 ways,sR9 ps,sS9 "9999999999999999999999999999999",v6,zhr]) (Same H H') (H' ps=zhq (.lst (ys.map V.str))) (H' pw=zhq (.lst (momL.map V.str))) (ys.length<=8+i) (∀y∈ys,BadR d y))
  ⟨rowsA a b,_,rfl,s02,s2 _ _ e1,e2,by simp[rowsA],bad_A ha hb⟩ (λ i σ H' _ h=>?_) ?_ ?_⟩
 ·obtain⟨_,_,_,_,_,h,_⟩:=h
  exact SqL.of h
 ·intro i y σ H' hi z9;obtain⟨ys,v6,rfl,s3,e3,w3,l3,b3⟩ := z9
  rw[zah] at hi
  cases hz:momL[i]? with
  |none=>rw[hz] at hi;cases hi
  |some z =>
  rw[hz] at hi
  cases hi
  have zm:=zaf hz
  have lz:=ml z zm
  have hi14:i<14:=(zab.mp hz).1
  refine⟨_,rfl,.inl ⟨rfl,_,SqL.of e3⟩,_,rfl,_,_,rfl,rfl,L.le (by simp only[zaa,E1,E2,E3,E4,E5,E6,E7,E8,E9,E10,E11,E12,E13,E14,E15,E16,E17,E18,E19,E20,E21,E22,E23];omega),_,_,rfl,rfl,L.le (by simp only[zaa,E1,E2,E3,E4,E5,E6,E7,E8,E9,E10,E11,E12,E13,E14,E15,E16,E17,E18,E19,E20,E21,E22,E23];omega),_,rfl,_,_,rfl,rfl,L.le (by simp only[zaa,E1,E2,E3,E4,E5,E6,E7,E8,E9,E10,E11,E12,E13,E14,E15,E16,E17,E18,E19,E20,E21,E22,E23];omega),_,_,rfl,rfl,L.le (by simp only[zaa,E1,E2,E3,E4,E5,E6,E7,E8,E9,E10,E11,E12,E13,E14,E15,E16,E17,E18,E19,E20,E21,E22,E23];omega),_,rfl,_,_,rfl,rfl,L.le (by simp only[zaa,E1,E2,E3,E4,E5,E6,E7,E8,E9,E10,E11,E12,E13,E14,E15,E16,E17,E18,E19,E20,E21,E22,E23];omega),ps,_,_,rfl,rfl,e3,L.le (by rw[zac];omega),?_⟩
  refine⟨ys++[_],_,rfl,qaz9 fps s3,by rw[qaj9,zaj];rfl,by rw[qao9 nw1.symm];exact w3,by rw[zap];show ys.length+1<=_;omega,λ y hy=>?_⟩
  rcases zak.mp hy with hy|hy
  ·exact b3 y hy
  ·rw[zae.mp hy]
   exact bad_mom ha hb zm
 intro σ H3 z9;obtain⟨ys,v6,rfl,s3,e3,_,l3,b3⟩ := z9
 have l3:ys.length<=22:=l3
 refine⟨(by show 6<=zhu;decide),λ px hpx=>?_⟩
 have nx1:ps≠px:=λ z=>by rw[<- z,e3] at hpx;cases hpx
 generalize hgH4:upd _ px _=H4
 revert H4
 refine qal9 hpx λ H4 s4 e4=>?_
 have e4:H4 px=zhq (.lst (turL.map V.str)):=e4
 have tl:∀z∈turL,z.length<=40:=by decide +kernel
 refine⟨px,rfl,⟨_,SqL.of e4⟩,qdg9 (K:=K) (a:=px) (xs:=turL.map V.str)
  (λ i σ H'=>E2q λ(ys:List Str) (v6:Option V)=>A6q (σ=[sI9 d,sS9 a,sS9 b,sS9 ways,sR9 ps,sS9 "9999999999999999999999999999999",v6,zhr]) (Same H H') (H' ps=zhq (.lst (ys.map V.str))) (H' px=zhq (.lst (turL.map V.str))) (ys.length<=22+i) (∀y∈ys,BadR d y))
  ⟨ys,_,rfl,s3.trans s4,s4 _ _ e3,e4,l3,b3⟩ (λ i σ H' _ h=>?_) ?_ ?_⟩
 ·obtain⟨_,_,_,_,_,h,_⟩:=h
  exact SqL.of h
 ·intro i y σ H' hi z9;obtain⟨ys,v6,rfl,s5,e5,w5,l5,b5⟩ := z9
  rw[zah] at hi
  cases hz:turL[i]? with
  |none=>rw[hz] at hi;cases hi
  |some z =>
  rw[hz] at hi
  cases hi
  have zm:=zaf hz
  have lz:=tl z zm
  have hi6:i<6:=(zab.mp hz).1
  refine⟨_,rfl,.inl ⟨rfl,_,SqL.of e5⟩,_,rfl,_,_,rfl,rfl,L.le (by simp only[zaa,E1,E2,E3,E4,E5,E6,E7,E8,E9,E10,E11,E12,E13,E14,E15,E16,E17,E18,E19,E20,E21,E22,E23];omega),_,_,rfl,rfl,L.le (by simp only[zaa,E1,E2,E3,E4,E5,E6,E7,E8,E9,E10,E11,E12,E13,E14,E15,E16,E17,E18,E19,E20,E21,E22,E23];omega),_,rfl,_,_,rfl,rfl,L.le (by simp only[zaa,E1,E2,E3,E4,E5,E6,E7,E8,E9,E10,E11,E12,E13,E14,E15,E16,E17,E18,E19,E20,E21,E22,E23];omega),_,_,rfl,rfl,L.le (by simp only[zaa,E1,E2,E3,E4,E5,E6,E7,E8,E9,E10,E11,E12,E13,E14,E15,E16,E17,E18,E19,E20,E21,E22,E23];omega),_,rfl,_,_,rfl,rfl,L.le (by simp only[zaa,E1,E2,E3,E4,E5,E6,E7,E8,E9,E10,E11,E12,E13,E14,E15,E16,E17,E18,E19,E20,E21,E22,E23];omega),ps,_,_,rfl,rfl,e5,L.le (by rw[zac];omega),?_⟩
  refine⟨ys++[_],_,rfl,qaz9 fps s5,by rw[qaj9,zaj];rfl,by rw[qao9 nx1.symm];exact w5,by rw[zap];show ys.length+1<=_;omega,λ y hy=>?_⟩
  rcases zak.mp hy with hy|hy
  ·exact b5 y hy
  ·rw[zae.mp hy]
   exact bad_tur ha hb zm
 clear l3 b3
 intro σ H5 z9;obtain⟨ys,v6,rfl,s5,e5,_,l5,b5⟩ := z9
 have l5:ys.length<=28:=l5
 have sd:Sm d:=⟨⋯,⋯⟩
 have ld:(numT d).length<=16:=sd.len
 refine⟨_,rfl,_,rfl,sd.log,_,_,rfl,rfl,L.le (by show(numT d).length+_<=_;rw[E22];omega),?_⟩
 have p15:(10:Int) ^ (15:Int).toNat+1=1000000000000001:=by decide
 have sf:Sm 1000000000000001:=⟨by decide,by decide⟩
 have lf:(numT 1000000000000001).length<=16:=sf.len
 refine⟨_,_,rfl,rfl,⟨by decide,by decide,by decide⟩,_,_,rfl,rfl,_,rfl,?_⟩
 dsimp only
 rw[p15]
 refine⟨sf.log,_,_,rfl,rfl,L.le (by show _+(numT 1000000000000001).length<=_;rw[E21];omega),?_⟩
 have hf:("0+":Str)++zbv (toString (1000000000000001:Int))="0+1000000000000001" := by decide +kernel
 rw[hf]
 refine⟨_,rfl,_,rfl,(by show 10<=zhu;decide),λ py hpy=>?_⟩
 have ny1:ps≠py:=λ z=>by rw[<- z,e5] at hpy;cases hpy
 generalize hgH6:upd _ py _=H6
 revert H6
 refine qal9 hpy λ H6 s6 e6=>?_
 have e6:H6 py=zhq (.lst ((winZ d).map V.str)):=e6
 have wl:∀z∈winZ d,z.length<=40:=λ z hz=>by
  unfold winZ at hz
  simp only[zag,zam,or_false] at hz
  rcases hz with rfl|rfl|rfl|rfl|rfl|rfl|rfl|rfl|rfl|rfl
  case inr.inr.inr.inr.inr.inl=>rw[zaa,E22];omega
  all_goals decide +kernel
 refine⟨py,rfl,⟨_,SqL.of e6⟩,qdg9 (K:=K) (a:=py) (xs:=(winZ d).map V.str)
  (λ i σ H'=>E2q λ(ys:List Str) (v6:Option V)=>A6q (σ=[sI9 d,sS9 a,sS9 b,sS9 ways,sR9 ps,sS9 "0+1000000000000001",v6,sS9 (numT d++"+1")]) (Same H H') (H' ps=zhq (.lst (ys.map V.str))) (H' py=zhq (.lst ((winZ d).map V.str))) (ys.length<=28+2*i) (∀y∈ys,BadR d y))
  ⟨ys,_,rfl,s5.trans s6,s6 _ _ e5,e6,l5,b5⟩ (λ i σ H' _ h=>?_) ?_ ?_⟩
 ·obtain⟨_,_,_,_,_,h,_⟩:=h
  exact SqL.of h
 ·intro i y σ H' hi z9;obtain⟨ys,v6,rfl,s7,e7,w7,l7,b7⟩ := z9
  rw[zah] at hi
  cases hz:(winZ d)[i]? with
  |none=>rw[hz] at hi;cases hi
  |some z =>
  rw[hz] at hi
  cases hi
  have zm:=zaf hz
  have lz:=wl z zm
  have hi10:i<10:=(zab.mp hz).1
  refine⟨_,rfl,.inl ⟨rfl,_,SqL.of e7⟩,_,rfl,_,_,rfl,rfl,L.le (by simp only[zaa,E1,E2,E3,E4,E5,E6,E7,E8,E9,E10,E11,E12,E13,E14,E15,E16,E17,E18,E19,E20,E21,E22,E23];omega),_,_,rfl,rfl,L.le (by simp only[zaa,E1,E2,E3,E4,E5,E6,E7,E8,E9,E10,E11,E12,E13,E14,E15,E16,E17,E18,E19,E20,E21,E22,E23];omega),_,rfl,_,_,rfl,rfl,L.le (by simp only[zaa,E1,E2,E3,E4,E5,E6,E7,E8,E9,E10,E11,E12,E13,E14,E15,E16,E17,E18,E19,E20,E21,E22,E23];omega),ps,_,_,rfl,rfl,e7,L.le (by rw[zac];omega),?_⟩
  have e8:upd H' ps (.lst (ys.map V.str++[V.str ("open "++ways++" "++z)])) ps=zhq (.lst ((ys++["open "++ways++" "++z]).map V.str)):=by rw[qaj9,zaj];rfl
  have s8:=qaz9 (o:=.lst (ys.map V.str++[V.str ("open "++ways++" "++z)])) fps s7
  have w8:upd H' ps (.lst (ys.map V.str++[V.str ("open "++ways++" "++z)])) py=zhq (.lst ((winZ d).map V.str)):=by rw[qao9 ny1.symm];exact w7
  generalize upd H' ps (.lst (ys.map V.str++[V.str ("open "++ways++" "++z)]))=H8 at *
  refine⟨_,rfl,.inl ⟨rfl,_,SqL.of e8⟩,_,rfl,_,_,rfl,rfl,L.le (by simp only[zaa,E1,E2,E3,E4,E5,E6,E7,E8,E9,E10,E11,E12,E13,E14,E15,E16,E17,E18,E19,E20,E21,E22,E23];omega),_,_,rfl,rfl,L.le (by simp only[zaa,E1,E2,E3,E4,E5,E6,E7,E8,E9,E10,E11,E12,E13,E14,E15,E16,E17,E18,E19,E20,E21,E22,E23];omega),_,rfl,_,_,rfl,rfl,L.le (by simp only[zaa,E1,E2,E3,E4,E5,E6,E7,E8,E9,E10,E11,E12,E13,E14,E15,E16,E17,E18,E19,E20,E21,E22,E23];omega),ps,_,_,rfl,rfl,e8,L.le (by rw[zac,zap];show ys.length+1<_;omega),?_⟩
  refine⟨ys++["open "++ways++" "++z]++["shut "++ways++" "++z],_,rfl,qaz9 fps s8,by rw[qaj9,zaj (l₁:=ys++[_])];rfl,by rw[qao9 ny1.symm];exact w8,by rw[zap,zap];show ys.length+1+1<=_;omega,λ y hy=>?_⟩
  rcases zak.mp hy with hy|hy
  ·rcases zak.mp hy with hy|hy
   ·exact b7 y hy
   ·rw[zae.mp hy,<- hW]
    exact bad_win ha hb d1 d2 (u := "open") (by decide +kernel) (by decide +kernel) (λ _=>rfl) zm
  ·rw[zae.mp hy,<- hW]
   exact bad_win ha hb d1 d2 (u := "shut") (by decide +kernel) (by decide +kernel) (λ _=>rfl) zm
 clear l5 b5
 intro σ H7 z9;obtain⟨ys,v6,rfl,s7,e7,_,l7,b7⟩ := z9
 have l7:ys.length<=48:=l7
 refine⟨_,rfl,_,rfl,_,_,rfl,rfl,L.le (by simp only[zaa,E1,E2,E3,E4,E5,E6,E7,E8,E9,E10,E11,E12,E13,E14,E15,E16,E17,E18,E19,E20,E21,E22,E23];omega),_,_,rfl,rfl,L.le (by simp only[zaa,E1,E2,E3,E4,E5,E6,E7,E8,E9,E10,E11,E12,E13,E14,E15,E16,E17,E18,E19,E20,E21,E22,E23];omega),_,rfl,_,_,rfl,rfl,L.le (by simp only[zaa,E1,E2,E3,E4,E5,E6,E7,E8,E9,E10,E11,E12,E13,E14,E15,E16,E17,E18,E19,E20,E21,E22,E23];omega),_,_,rfl,rfl,L.le (by simp only[zaa,E1,E2,E3,E4,E5,E6,E7,E8,E9,E10,E11,E12,E13,E14,E15,E16,E17,E18,E19,E20,E21,E22,E23];omega),_,rfl,_,_,rfl,rfl,L.le (by simp only[zaa,E1,E2,E3,E4,E5,E6,E7,E8,E9,E10,E11,E12,E13,E14,E15,E16,E17,E18,E19,E20,E21,E22,E23];omega),_,_,rfl,rfl,L.le (by simp only[zaa,E1,E2,E3,E4,E5,E6,E7,E8,E9,E10,E11,E12,E13,E14,E15,E16,E17,E18,E19,E20,E21,E22,E23];omega),_,rfl,_,_,rfl,rfl,L.le (by simp only[zaa,E1,E2,E3,E4,E5,E6,E7,E8,E9,E10,E11,E12,E13,E14,E15,E16,E17,E18,E19,E20,E21,E22,E23];omega),_,_,rfl,rfl,L.le (by simp only[zaa,E1,E2,E3,E4,E5,E6,E7,E8,E9,E10,E11,E12,E13,E14,E15,E16,E17,E18,E19,E20,E21,E22,E23];omega),_,rfl,_,_,rfl,rfl,L.le (by simp only[zaa,E1,E2,E3,E4,E5,E6,E7,E8,E9,E10,E11,E12,E13,E14,E15,E16,E17,E18,E19,E20,E21,E22,E23];omega),_,_,rfl,rfl,L.le (by simp only[zaa,E1,E2,E3,E4,E5,E6,E7,E8,E9,E10,E11,E12,E13,E14,E15,E16,E17,E18,E19,E20,E21,E22,E23];omega),(by show 3<=zhu;decide),λ pB hpB=>?_⟩
 generalize hgH8:upd _ pB _=H8
 revert H8
 refine qal9 hpB λ H8 s8 e8=>?_
 have e8:H8 pB=zhq (.lst ((rowsB a b).map V.str)):=by rw[e8,<- hW];rfl
 have e7:=s8 _ _ e7
 refine⟨ps,pB,_,_,rfl,rfl,e7,e8,L.le (by rw[zac,zac];show ys.length+3<=_;omega),λ p9 hp9=>?_⟩
 generalize hgH9:upd _ p9 _=H9
 revert H9
 refine qal9 hp9 λ H9 s9 e9=>?_
 rw[<- zaj] at e9
 have s79:=s7.trans (s8.trans s9)
 have b9:∀y∈ys++rowsB a b,BadR d y:=λ y hy=>(zak.mp hy).elim (b7 y) (bad_B ha hb y)
 have l9:(ys++rowsB a b).length<=51:=by rw[zap];show ys.length+3<=_;omega
 generalize ys++rowsB a b=ys9 at *
 have lsa:(" "++a:Str).length=1+a.length:=by rw[zaa,E1]
 have l7':(Txt.mul (" "++a) 7).length<=63:=by
  rw[mul7 _ ⋯]
  simp only[zaa,E1]
  omega
 refine⟨_,rfl,_,rfl,_,_,rfl,rfl,L.le (by simp only[zaa,E1,E2,E3,E4,E5,E6,E7,E8,E9,E10,E11,E12,E13,E14,E15,E16,E17,E18,E19,E20,E21,E22,E23];omega),_,_,rfl,rfl,mulOk7 ⋯,_,_,rfl,rfl,L.le (by rw[E13];omega),_,rfl,_,_,rfl,rfl,L.le (by simp only[zaa,E1,E2,E3,E4,E5,E6,E7,E8,E9,E10,E11,E12,E13,E14,E15,E16,E17,E18,E19,E20,E21,E22,E23];omega),_,_,rfl,rfl,L.le (by simp only[zaa,E1,E2,E3,E4,E5,E6,E7,E8,E9,E10,E11,E12,E13,E14,E15,E16,E17,E18,E19,E20,E21,E22,E23];omega),_,rfl,_,_,rfl,rfl,L.le (by simp only[zaa,E1,E2,E3,E4,E5,E6,E7,E8,E9,E10,E11,E12,E13,E14,E15,E16,E17,E18,E19,E20,E21,E22,E23];omega),(by show 4<=zhu;decide),λ pC hpC=>?_⟩
 generalize hgH10:upd _ pC _=H10
 revert H10
 refine qal9 hpC λ H10 s10 e10=>?_
 have e10:H10 pC=zhq (.lst ((rowsC a).map V.str)):=e10
 have e9:=s10 _ _ e9
 refine⟨p9,pC,_,_,rfl,rfl,e9,e10,L.le (by rw[zac,zac];show ys9.length+4<=_;omega),λ pE hpE=>?_⟩
 have fpE:H pE=zhr:=by
  cases h:H pE with
  |none=>rfl
  |some o=>rw[(s79.trans s10) _ _ h] at hpE;cases hpE
 generalize hgH11:upd _ pE _=H11
 revert H11
 refine qal9 hpE λ H11 s11 e11=>?_
 rw[<- zaj] at e11
 have s70:=s79.trans (s10.trans s11)
 have b11:∀y∈ys9++rowsC a,BadR d y:=λ y hy=>(zak.mp hy).elim (b9 y) (bad_C ha y)
 have l11:(ys9++rowsC a).length<=55:=by rw[zap];show ys9.length+4<=_;omega
 generalize ys9++rowsC a=ysE at *
 refine⟨_,rfl,.inl ⟨rfl,_,SqL.of e11⟩,_,rfl,_,_,rfl,rfl,L.le (by simp only[zaa,E1,E2,E3,E4,E5,E6,E7,E8,E9,E10,E11,E12,E13,E14,E15,E16,E17,E18,E19,E20,E21,E22,E23];omega),_,_,rfl,rfl,L.le (by simp only[zaa,E1,E2,E3,E4,E5,E6,E7,E8,E9,E10,E11,E12,E13,E14,E15,E16,E17,E18,E19,E20,E21,E22,E23];omega),_,rfl,_,_,rfl,rfl,L.le (by simp only[zaa,E1,E2,E3,E4,E5,E6,E7,E8,E9,E10,E11,E12,E13,E14,E15,E16,E17,E18,E19,E20,E21,E22,E23];omega),_,_,rfl,rfl,L.le (by simp only[zaa,E1,E2,E3,E4,E5,E6,E7,E8,E9,E10,E11,E12,E13,E14,E15,E16,E17,E18,E19,E20,E21,E22,E23];omega),pE,_,_,rfl,rfl,e11,L.le (by rw[zac];omega),?_⟩
 have e12:upd H11 pE (.lst (ysE.map V.str++[V.str ("longest "++a++" "++b++" 5")])) pE=zhq (.lst ((ysE++["longest "++a++" "++b++" 5"]).map V.str)):=by rw[qaj9,zaj];rfl
 have s12:=qaz9 (o:=.lst (ysE.map V.str++[V.str ("longest "++a++" "++b++" 5")])) fpE s70
 generalize upd H11 pE (.lst (ysE.map V.str++[V.str ("longest "++a++" "++b++" 5")]))=H12 at *
 have b12:∀y∈ysE++["longest "++a++" "++b++" 5"],BadR d y:=λ y hy=>(zak.mp hy).elim (b11 y) λ hy=>by rw[zae.mp hy];exact bad_D ha hb
 have l12:(ysE++["longest "++a++" "++b++" 5"]).length<=56:=by rw[zap];show ysE.length+1<=_;omega
 generalize ysE++["longest "++a++" "++b++" 5"]=ysF at *
 have lu:=up_len ha
 have l9b:=qmo9 hb
 refine⟨_,rfl,_,rfl,rfl,_,rfl,rfl,⋯,_,_,rfl,rfl,L.le (by simp only[zaa,E1,E2,E3,E4,E5,E6,E7,E8,E9,E10,E11,E12,E13,E14,E15,E16,E17,E18,E19,E20,E21,E22,E23];omega),_,_,rfl,rfl,L.le (by simp only[zaa,E1,E2,E3,E4,E5,E6,E7,E8,E9,E10,E11,E12,E13,E14,E15,E16,E17,E18,E19,E20,E21,E22,E23];omega),_,rfl,_,_,rfl,rfl,L.le (by simp only[zaa,E1,E2,E3,E4,E5,E6,E7,E8,E9,E10,E11,E12,E13,E14,E15,E16,E17,E18,E19,E20,E21,E22,E23];omega),_,_,rfl,rfl,L.le (by simp only[zaa,E1,E2,E3,E4,E5,E6,E7,E8,E9,E10,E11,E12,E13,E14,E15,E16,E17,E18,E19,E20,E21,E22,E23];omega),_,rfl,_,_,rfl,rfl,L.le (by simp only[zaa,E1,E2,E3,E4,E5,E6,E7,E8,E9,E10,E11,E12,E13,E14,E15,E16,E17,E18,E19,E20,E21,E22,E23];omega),_,_,rfl,rfl,L.le (by simp only[zaa,E1,E2,E3,E4,E5,E6,E7,E8,E9,E10,E11,E12,E13,E14,E15,E16,E17,E18,E19,E20,E21,E22,E23];omega),_,rfl,_,_,rfl,rfl,L.le (by simp only[zaa,E1,E2,E3,E4,E5,E6,E7,E8,E9,E10,E11,E12,E13,E14,E15,E16,E17,E18,E19,E20,E21,E22,E23];omega),_,rfl,_,rfl,L.le (by simp only[zaa,E1,E2,E3,E4,E5,E6,E7,E8,E9,E10,E11,E12,E13,E14,E15,E16,E17,E18,E19,E20,E21,E22,E23];omega),?_⟩
 have hn9:Txt.slice (b++"aaaaaaaa") zhr (zhq 9)=nine b:=rfl
 rw[hn9]
 refine⟨_,_,rfl,rfl,L.le (by simp only[zaa,E1,E2,E3,E4,E5,E6,E7,E8,E9,E10,E11,E12,E13,E14,E15,E16,E17,E18,E19,E20,E21,E22,E23];omega),_,_,rfl,rfl,L.le (by simp only[zaa,E1,E2,E3,E4,E5,E6,E7,E8,E9,E10,E11,E12,E13,E14,E15,E16,E17,E18,E19,E20,E21,E22,E23];omega),(by show 2<=zhu;decide),λ pG hpG=>?_⟩
 generalize hgH13:upd _ pG _=H13
 revert H13
 refine qal9 hpG λ H13 s13 e13=>?_
 have e13:H13 pG=zhq (.lst ((["latest "++Txt.upper a++" "++b++" 5","rides "++a++" "++nine b++" 5"]:List Str).map V.str)):=e13
 have e12:=s13 _ _ e12
 refine⟨pE,pG,_,_,rfl,rfl,e12,e13,L.le (by rw[zac,zac];show ysF.length+2<=_;omega),λ pH hpH=>?_⟩
 generalize hgH14:upd _ pH _=H14
 revert H14
 refine qal9 hpH λ H14 s14 e14=>?_
 rw[<- zaj] at e14
 have s14':=s12.trans (s13.trans s14)
 have b14:∀y∈ysF++["latest "++Txt.upper a++" "++b++" 5","rides "++a++" "++nine b++" 5"],BadR d y:=λ y hy=>(zak.mp hy).elim (b12 y) λ hy=>by
  simp only[zag,zam,or_false] at hy
  rcases hy with rfl|rfl
  ·exact bad_nm (u := "latest") (by decide +kernel) (by decide +kernel) (λ _=>rfl) (up_wd ha) (qcu9 hb) (.inl (up_name ha))
  ·exact bad_nm (u := "rides") (by decide +kernel) (by decide +kernel) (λ _=>rfl) (qcu9 ha) (nine_wd hb) (.inr (nine_name hb))
 have l14:(ysF++["latest "++Txt.upper a++" "++b++" 5","rides "++a++" "++nine b++" 5"]).length<=58:=by rw[zap];show ysF.length+2<=_;omega
 generalize ysF++["latest "++Txt.upper a++" "++b++" 5","rides "++a++" "++nine b++" 5"]=ysG at *
 refine⟨_,rfl,(by show 1<=zhu;decide),λ q1 hq1=>?_⟩
 generalize hgI1:upd _ q1 _=I1
 revert I1
 refine qal9 hq1 λ I1 t1 f1=>?_
 refine⟨(by show 1<=zhu;decide),λ q2 hq2=>?_⟩
 generalize hgI2:upd _ q2 _=I2
 revert I2
 refine qal9 hq2 λ I2 t2 f2=>?_
 refine⟨(by show 0<=zhu;decide),λ q3 hq3=>?_⟩
 generalize hgI3:upd _ q3 _=I3
 revert I3
 refine qal9 hq3 λ I3 t3 f3=>?_
 have e14:=t3 _ _ (t2 _ _ (t1 _ _ e14))
 refine⟨_,rfl,_,_,rfl,rfl,L.le (by simp only[zaa,E1,E2,E3,E4,E5,E6,E7,E8,E9,E10,E11,E12,E13,E14,E15,E16,E17,E18,E19,E20,E21,E22,E23];omega),_,_,rfl,rfl,L.le (by simp only[zaa,E1,E2,E3,E4,E5,E6,E7,E8,E9,E10,E11,E12,E13,E14,E15,E16,E17,E18,E19,E20,E21,E22,E23];omega),_,rfl,_,_,rfl,rfl,L.le (by simp only[zaa,E1,E2,E3,E4,E5,E6,E7,E8,E9,E10,E11,E12,E13,E14,E15,E16,E17,E18,E19,E20,E21,E22,E23];omega),_,_,rfl,rfl,L.le (by simp only[zaa,E1,E2,E3,E4,E5,E6,E7,E8,E9,E10,E11,E12,E13,E14,E15,E16,E17,E18,E19,E20,E21,E22,E23];omega),(by show 7<=zhu;decide),λ q4 hq4=>?_⟩
 generalize hgI4:upd _ q4 _=I4
 revert I4
 refine qal9 hq4 λ I4 t4 f4=>?_
 refine⟨pH,q4,_,_,rfl,rfl,t4 _ _ e14,f4,L.le (by rw[zac];show ysG.length+7<=_;omega),λ q5 hq5=>?_⟩
 generalize hgI5:upd _ q5 _=I5
 revert I5
 refine qal9 hq5 λ I5 t5 f5=>?_
 have g3:=t5 _ _ (t4 _ _ f3)
 have g2:=t5 _ _ (t4 _ _ (t3 _ _ f2))
 have g1:=t5 _ _ (t4 _ _ (t3 _ _ (t2 _ _ f1)))
 refine q q5 _ _ (s14'.trans (t1.trans (t2.trans (t3.trans (t4.trans t5))))) f5 (by rw[zap,zac];show ysG.length+7<=_;omega) λ z hz=>?_
 rcases zak.mp hz with hz|hz
 ·obtain⟨y,hy,rfl⟩:=zas.mp hz
  exact .inr ⟨y,rfl,b14 y hy⟩
 ·simp only[zag,zam,or_false] at hz
  rcases hz with rfl|rfl|rfl|rfl|rfl|rfl|rfl
  ·exact .inl ⟨_,.non,rfl⟩
  ·exact .inl ⟨_,.int _,rfl⟩
  ·exact .inl ⟨_,.bl _,rfl⟩
  ·exact .inl ⟨_,.lst g1,rfl⟩
  ·exact .inl ⟨_,.tup g2,rfl⟩
  ·exact .inl ⟨_,.lst g3,rfl⟩
  ·exact .inr ⟨_,rfl,bad_F ha hb⟩
end
def OddR(d:Int)(o y:Str):Prop:=Tx y/\∃(u:Str)(ws zs:List Str),Txt.split y " "=u::ws/\pRow d u ws=zhq zs/\zs.length<=10/\o∈zs
theorem oddj{o u:Str}(e:y=zbg " " (u::ws))(hw:∀z∈u::ws,Wd z)(hl:ws.length<=12)(h:pRow d u ws=zhq zs)(hz:zs.length<=10)(ho:o∈zs):OddR d o y:=by
 subst e
 exact⟨tx_join hw hl,u,ws,zs,qdq9 (c:=32) (cs:=[]) (by decide +kernel) (by simp) (by decide +kernel) (by simp) (λ z hz=>(hw z hz).1),h,hz,ho⟩
section
variable {a b o:Str}
theorem qee9(h:Low z):pOne d ("name",z)=zhq [z]:=by
 have e:namB "name"=true:=by decide +kernel
 have v:qix9 "name" z=if nameB z=true then zhq [z] else zhr:=if_neg (by decide +kernel)
 unfold pOne
 simp only[e,v,qkk9 h]
 rfl
theorem qhk9(h:momB z=true):pOne d ("moment",z)=zhq []:=by
 have e:namB "moment"=false:=by decide +kernel
 have v:valB d "moment" z=momB z:=if_pos rfl
 unfold pOne
 simp only[e,v,h]
 rfl
theorem qqt9(h:turB z=true):pOne d ("turns",z)=zhq []:=by
 have e:namB "turns"=false:=by decide +kernel
 have v:valB d "turns" z=turB z:=(if_neg (by decide +kernel)).trans (if_pos rfl)
 unfold pOne
 simp only[e,v,h]
 rfl
theorem qpb9(h:1<=d):pOne d ("window","0+1")=zhq []:=by
 have e:namB "window"=false:=by decide +kernel
 have v:valB d "window" "0+1"=(pWin d "0+1").isSome:=(if_neg (by decide +kernel)).trans (if_neg (by decide +kernel))
 have hp:Txt.partition "0+1" "+"=(("0":Str),("+":Str),("1":Str)):=by decide +kernel
 have h1:pSpan "0"=zhq (0,0):=by decide +kernel
 have h2:pNum 16 "1"=zhq 1:=by decide +kernel
 have w:pWin d "0+1"=zhq (0,0,1):=by
  unfold pWin
  rw[hp,h1,h2]
  exact if_pos ⟨by decide,⋯⟩
 unfold pOne
 simp only[e,v,w]
 rfl
theorem oneT_road(hx:Low x)(hy:Low y):pOne d ("road",x++">"++y)=zhq [x,y]:=by
 have e:namB "road"=true:=by decide +kernel
 have v:qix9 "road" (x++">"++y)=(pEnds (x++">"++y)).map λ p=>[p.1,p.2]:=if_pos rfl
 have p:Txt.partition (x++">"++y) ">"=(x,(">":Str),y):=qcp9 (c:=62) (qfv9 hx ⋯)
 have w:pEnds (x++">"++y)=zhq (x,y):=by
  unfold pEnds
  rw[p]
  exact if_pos ⟨qkk9 hx,qkk9 hy⟩
 unfold pOne
 simp only[e,v,w]
 rfl
theorem parts2{p:Str×Str}{m:List Str}(h1:pOne d p=zhq l)(h2:pOne d q=zhq m):qfk9 d [p,q]=zhq (l++m):=by
 unfold qfk9
 simp only[zfl,pStep,h1,h2]
 rfl
theorem parts3{p r:Str×Str}{m k:List Str}(h1:pOne d p=zhq l)(h2:pOne d q=zhq m)(h3:pOne d r=zhq k):qfk9 d [p,q,r]=zhq (l++m++k):=by
 unfold qfk9
 simp only[zfl,pStep,h1,h2,h3]
 rfl
theorem parts4{p r s:Str×Str}{m k j:List Str}(h1:pOne d p=zhq l)(h2:pOne d q=zhq m)(h3:pOne d r=zhq k)(h4:pOne d s=zhq j):qfk9 d [p,q,r,s]=zhq (l++m++k++j):=by
 unfold qfk9
 simp only[zfl,pStep,h1,h2,h3,h4]
 rfl
theorem qrz9{u:Str}(hs:qfc9 u ws=zhq ks)(hl:ws.length=ks.length)(h:qfk9 d (ks.zip ws)=zhq zs):pRow d u ws=zhq zs:=by
 unfold pRow
 rw[hs]
 exact(if_pos hl).trans h
theorem odd_nm{u m:Str}(eu:u'=u++" ")(hu:wdB u=true)(sh:∀ws,qfc9 u ws=zhq (["name","name","moment"]:List Str))(hx:Low x)(hy:Low y)(hm:wdB m=true)(mm:momB m=true)(ho:o=x\/o=y):OddR d o (u'++x++" "++y++" "++m) :=
 oddj (j3 eu x y m) (wd3 hu hx hy (qba9 hm)) (by simp) (qrz9 (sh _) rfl (parts3 (qee9 hx) (qee9 hy) (qhk9 mm))) (by simp) (by simpa using ho)
theorem wd2{u:Str}(hu:wdB u=true)(ha:Low a)(hb:Low b):∀x∈[u,a,b],Wd x:=λ x hx=>wd3 hu ha hb (qba9 (z := "") (by decide +kernel)) x (by
 simp only[zag] at hx ⊢
 rcases hx with h|h|h|h
 ·exact .inl h
 ·exact .inr (.inl h)
 ·exact .inr (.inr (.inl h))
 ·cases h)
theorem odd_n2{u:Str}(eu:u'=u++" ")(hu:wdB u=true)(sh:∀ws,qfc9 u ws=zhq (["name","name"]:List Str))(hx:Low x)(hy:Low y)(ho:o=x\/o=y):OddR d o (u'++x++" "++y) :=
 oddj (j2 eu x y) (wd2 hu hx hy) (by simp) (qrz9 (sh _) rfl (parts2 (qee9 hx) (qee9 hy))) (by simp) (by simpa using ho)
theorem odd_rd{u:Str}(d1:1<=d)(eu:u'=u++" ")(hu:wdB u=true)(sh:∀ws,qfc9 u ws=zhq (["road","window"]:List Str))(hx:Low x)(hy:Low y)(ho:o=x\/o=y):OddR d o (u'++(x++">"++y)++" "++"0+1") :=
 oddj (j2 eu (x++">"++y) "0+1") (λ z hz=>by
  simp only[zag,zam,or_false] at hz
  rcases hz with rfl|rfl|rfl
  ·exact qba9 hu
  ·exact qom9 hx hy
  ·exact qba9 (by decide +kernel)) (by simp) (qrz9 (sh _) rfl (parts2 (oneT_road hx hy) (qpb9 d1))) (by simp) (by simpa using ho)
def rowsN1(a b o:Str):List Str:=["soonest "++o++" "++b++" 5","latest "++a++" "++o++" -5","board "++o++" "++o]
def rowsN2(a b o:Str):List Str:=["meet 5 "++a++" "++o,"shut "++(o++">"++b)++" 0+1","open "++a++">"++o++" 0+1"]
def rowsN3(a b o:Str):List Str:=["kept "++a++" "++o++" 0 3","rides "++o++" "++a++" 7","longest "++o++" "++b]
theorem spq{t u:Str}(h:t=" "++u):y++t=y++" "++u:=by rw[h,zbf]
theorem odd_1(ha:Low a)(hb:Low b)(ho:Low o):∀y∈rowsN1 a b o,OddR d o y:=λ y hy=>by
 unfold rowsN1 at hy
 simp only[zag,zam,or_false] at hy
 rcases hy with rfl|rfl|rfl
 ·rw[sp5]
  exact odd_nm (u := "soonest") (by decide +kernel) (by decide +kernel) (λ _=>rfl) ho hb (by decide +kernel) (by decide +kernel) (.inl rfl)
 ·rw[spq (u := "-5") (by decide +kernel)]
  exact odd_nm (u := "latest") (by decide +kernel) (by decide +kernel) (λ _=>rfl) ha ho (by decide +kernel) (by decide +kernel) (.inr rfl)
 ·exact odd_n2 (u := "board") (by decide +kernel) (by decide +kernel) (λ _=>rfl) ho ho (.inl rfl)
theorem odd_2(d1:1<=d)(ha:Low a)(hb:Low b)(ho:Low o):∀y∈rowsN2 a b o,OddR d o y:=λ y hy=>by
 unfold rowsN2 at hy
 simp only[zag,zam,or_false] at hy
 rcases hy with rfl|rfl|rfl
 ·have e:("meet 5 "++a++" "++o:Str)=zbg " " ["meet","5",a,o]:=by
   rw[<- j3 (u' := "meet ") (by decide +kernel),show("meet 5 ":Str)="meet "++"5"++" " from by decide +kernel]
  refine oddj e (λ z hz=>?_) (by simp) (qrz9 (ks:=["moment","name","name"]) ?_ rfl (parts3 (qhk9 (by decide +kernel)) (qee9 ha) (qee9 ho))) (by simp) (by simp)
  ·simp only[zag,zam,or_false] at hz
   rcases hz with rfl|rfl|rfl|rfl
   ·exact qba9 (by decide +kernel)
   ·exact qba9 (by decide +kernel)
   ·exact qcu9 ha
   ·exact qcu9 ho
  ·unfold qfc9
   rw[if_pos (by simp)]
   rfl
 ·rw[sp01]
  exact odd_rd (u := "shut") d1 (by decide +kernel) (by decide +kernel) (λ _=>rfl) ho hb (.inl rfl)
 ·rw[sp01,show("open "++a++">"++o:Str)="open "++(a++">"++o) from by simp only[zbf]]
  exact odd_rd (u := "open") d1 (by decide +kernel) (by decide +kernel) (λ _=>rfl) ha ho (.inr rfl)
theorem odd_3(ha:Low a)(hb:Low b)(ho:Low o):∀y∈rowsN3 a b o,OddR d o y:=λ y hy=>by
 unfold rowsN3 at hy
 simp only[zag,zam,or_false] at hy
 rcases hy with rfl|rfl|rfl
 ·have e:("kept "++a++" "++o++" 0 3":Str)=zbg " " ["kept",a,o,"0","3"]:=by
   rw[qca9,show("kept ":Str)="kept"++" " from by decide +kernel]
   show _=("kept":Str)++" "++a++" "++o++" "++"0"++" "++"3"
   rw[show(" 0 3":Str)=" "++"0"++" "++"3" from by decide +kernel]
   simp only[zbf]
  refine oddj e (λ z hz=>?_) (by simp) (qrz9 (ks:=["name","name","moment","turns"]) rfl rfl (parts4 (qee9 ha) (qee9 ho) (qhk9 (by decide +kernel)) (qqt9 (by decide +kernel)))) (by simp) (by simp)
  simp only[zag,zam,or_false] at hz
  rcases hz with rfl|rfl|rfl|rfl|rfl
  ·exact qba9 (by decide +kernel)
  ·exact qcu9 ha
  ·exact qcu9 ho
  ·exact qba9 (by decide +kernel)
  ·exact qba9 (by decide +kernel)
 ·rw[spq (u := "7") (by decide +kernel)]
  exact odd_nm (u := "rides") (by decide +kernel) (by decide +kernel) (λ _=>rfl) ho ha (by decide +kernel) (by decide +kernel) (.inl rfl)
 ·exact odd_n2 (u := "longest") (by decide +kernel) (by decide +kernel) (λ _=>rfl) ho hb (.inl rfl)
end
inductive spNoNames(vs:List V)(H:Hp)(Q:VK)(z3q:XK):Prop
 |mk (a b o:Str):vs=[.str a,.str b,.str o]->Low a->Low b->Low o->(∀(l:zht)(ys:List Str)(H':Hp),Same H H'->H' l=zhq (.lst (ys.map V.str))->ys.length<=9->(∀d:Int,1<=d->∀y∈ys,OddR d o y)->Q (.ref l) H')->spNoNames vs H Q z3q
section
variable {w:zhy}{f:zht}
theorem qte9(F:Fun K "_law_no_names" "_law_no_names" qbs9 f fd)(B:Bl mg):FnOk P w K mg base CX0 (n+1) f fd ["a","b","odd"] spNoNames:=by
 refine F.okQ sc__law_no_names (λ vs H Q E h=>?_) (λ cdv A outer s H vs Q E hr h=>?_)
 ·obtain⟨_,_,_,rfl,_⟩:=h
  rfl
 obtain⟨a,b,o,rfl,ha,hb,ho,q⟩:=h
 refine⟨_,(qaa9 (qak9 (i:=3) sc__law_no_names.nd rfl (zai rfl) (qe_op qad9 (qe_op qad9 (qv 2) qah9) (qv 1))) (qaa9 (qak9 (i:=4) sc__law_no_names.nd rfl (zai rfl) (qbi9 (qa_c (qe_op qad9 (qe_op qad9 (qe_op qad9 (qe_op qad9 qah9 (qv 2)) qah9) (qv 1)) qah9) (qa_c (qe_op qad9 (qe_op qad9 (qe_op qad9 (qe_op qad9 qah9 (qv 0)) qah9) (qv 2)) qah9) (qa_c (qe_op qad9 (qe_op qad9 (qe_op qad9 qah9 (qv 2)) qah9) (qv 2)) qac9))))) (qaa9 (qak9 (i:=4) sc__law_no_names.nd rfl (zai rfl) (qe_op qht9 (qv 4) (qbi9 (qa_c (qe_op qad9 (qe_op qad9 (qe_op qad9 qah9 (qv 0)) qah9) (qv 2)) (qa_c (qe_op qad9 (qe_op qad9 qah9 (qv 3)) qah9) (qa_c (qe_op qad9 (qe_op qad9 (qe_op qad9 (qe_op qad9 qah9 (qv 0)) qah9) (qv 2)) qah9) qac9)))))) (qae9 (qam9 (qe_op qht9 (qv 4) (qbi9 (qa_c (qe_op qad9 (qe_op qad9 (qe_op qad9 (qe_op qad9 qah9 (qv 0)) qah9) (qv 2)) qah9) (qa_c (qe_op qad9 (qe_op qad9 (qe_op qad9 (qe_op qad9 qah9 (qv 2)) qah9) (qv 0)) qah9) (qa_c (qe_op qad9 (qe_op qad9 (qe_op qad9 qah9 (qv 2)) qah9) (qv 1)) qac9)))))))))),?_⟩
 walk_at "d"
 have E1:(" ":Str).length=1:=by decide
 have E2:(">":Str).length=1:=by decide
 have E3:("soonest ":Str).length=8:=by decide
 have E5:(" 5":Str).length=2:=by decide
 have E6:("kept ":Str).length=5:=by decide
 have E7:(" -5":Str).length=3:=by decide
 have E8:("open ":Str).length=5:=by decide
 have E9:("shut ":Str).length=5:=by decide
 have E10:(" 0+1":Str).length=4:=by decide
 have E11:(" 0 3":Str).length=4:=by decide
 have E13:("meet 5 ":Str).length=7:=by decide
 have E14:("board ":Str).length=6:=by decide
 have E15:("longest ":Str).length=8:=by decide
 have E16:("latest ":Str).length=7:=by decide
 have E17:("rides ":Str).length=6:=by decide
 have E18:(" 7":Str).length=2:=by decide
 have la:=ha.l8
 have lb:=hb.l8
 have lo:=ho.l8
 refine⟨_,rfl,_,_,rfl,rfl,L.le (by simp only[zaa,E1,E2,E3,E5,E6,E7,E8,E9,E10,E11,E13,E14,E15,E16,E17,E18];omega),_,rfl,_,_,rfl,rfl,L.le (by simp only[zaa,E1,E2,E3,E5,E6,E7,E8,E9,E10,E11,E13,E14,E15,E16,E17,E18];omega),_,rfl,_,_,rfl,rfl,L.le (by simp only[zaa,E1,E2,E3,E5,E6,E7,E8,E9,E10,E11,E13,E14,E15,E16,E17,E18];omega),_,_,rfl,rfl,L.le (by simp only[zaa,E1,E2,E3,E5,E6,E7,E8,E9,E10,E11,E13,E14,E15,E16,E17,E18];omega),_,rfl,_,_,rfl,rfl,L.le (by simp only[zaa,E1,E2,E3,E5,E6,E7,E8,E9,E10,E11,E13,E14,E15,E16,E17,E18];omega),_,_,rfl,rfl,L.le (by simp only[zaa,E1,E2,E3,E5,E6,E7,E8,E9,E10,E11,E13,E14,E15,E16,E17,E18];omega),_,rfl,_,_,rfl,rfl,L.le (by simp only[zaa,E1,E2,E3,E5,E6,E7,E8,E9,E10,E11,E13,E14,E15,E16,E17,E18];omega),_,_,rfl,rfl,L.le (by simp only[zaa,E1,E2,E3,E5,E6,E7,E8,E9,E10,E11,E13,E14,E15,E16,E17,E18];omega),_,rfl,_,_,rfl,rfl,L.le (by simp only[zaa,E1,E2,E3,E5,E6,E7,E8,E9,E10,E11,E13,E14,E15,E16,E17,E18];omega),_,_,rfl,rfl,L.le (by simp only[zaa,E1,E2,E3,E5,E6,E7,E8,E9,E10,E11,E13,E14,E15,E16,E17,E18];omega),_,rfl,_,_,rfl,rfl,L.le (by simp only[zaa,E1,E2,E3,E5,E6,E7,E8,E9,E10,E11,E13,E14,E15,E16,E17,E18];omega),_,_,rfl,rfl,L.le (by simp only[zaa,E1,E2,E3,E5,E6,E7,E8,E9,E10,E11,E13,E14,E15,E16,E17,E18];omega),_,rfl,_,_,rfl,rfl,L.le (by simp only[zaa,E1,E2,E3,E5,E6,E7,E8,E9,E10,E11,E13,E14,E15,E16,E17,E18];omega),(by show 3<=zhu;decide),λ p1 hp1=>?_⟩
 generalize hgH1:upd _ p1 _=H1
 revert H1
 refine qal9 hp1 λ H1 s1 e1=>?_
 have e1:H1 p1=zhq (.lst ((rowsN1 a b o).map V.str)):=e1
 refine⟨_,rfl,_,rfl,_,_,rfl,rfl,L.le (by simp only[zaa,E1,E2,E3,E5,E6,E7,E8,E9,E10,E11,E13,E14,E15,E16,E17,E18];omega),_,_,rfl,rfl,L.le (by simp only[zaa,E1,E2,E3,E5,E6,E7,E8,E9,E10,E11,E13,E14,E15,E16,E17,E18];omega),_,rfl,_,_,rfl,rfl,L.le (by simp only[zaa,E1,E2,E3,E5,E6,E7,E8,E9,E10,E11,E13,E14,E15,E16,E17,E18];omega),_,rfl,_,_,rfl,rfl,L.le (by simp only[zaa,E1,E2,E3,E5,E6,E7,E8,E9,E10,E11,E13,E14,E15,E16,E17,E18];omega),_,_,rfl,rfl,L.le (by simp only[zaa,E1,E2,E3,E5,E6,E7,E8,E9,E10,E11,E13,E14,E15,E16,E17,E18];omega),_,rfl,_,_,rfl,rfl,L.le (by simp only[zaa,E1,E2,E3,E5,E6,E7,E8,E9,E10,E11,E13,E14,E15,E16,E17,E18];omega),_,_,rfl,rfl,L.le (by simp only[zaa,E1,E2,E3,E5,E6,E7,E8,E9,E10,E11,E13,E14,E15,E16,E17,E18];omega),_,rfl,_,_,rfl,rfl,L.le (by simp only[zaa,E1,E2,E3,E5,E6,E7,E8,E9,E10,E11,E13,E14,E15,E16,E17,E18];omega),_,_,rfl,rfl,L.le (by simp only[zaa,E1,E2,E3,E5,E6,E7,E8,E9,E10,E11,E13,E14,E15,E16,E17,E18];omega),(by show 3<=zhu;decide),λ p2 hp2=>?_⟩
 generalize hgH2:upd _ p2 _=H2
 revert H2
 refine qal9 hp2 λ H2 s2 e2=>?_
 have e2:H2 p2=zhq (.lst ((rowsN2 a b o).map V.str)):=e2
 refine⟨p1,p2,_,_,rfl,rfl,s2 _ _ e1,e2,(by show 6<=zhu;decide),λ p3 hp3=>?_⟩
 generalize hgH3:upd _ p3 _=H3
 revert H3
 refine qal9 hp3 λ H3 s3 e3=>?_
 refine⟨_,rfl,_,rfl,_,_,rfl,rfl,L.le (by simp only[zaa,E1,E2,E3,E5,E6,E7,E8,E9,E10,E11,E13,E14,E15,E16,E17,E18];omega),_,_,rfl,rfl,L.le (by simp only[zaa,E1,E2,E3,E5,E6,E7,E8,E9,E10,E11,E13,E14,E15,E16,E17,E18];omega),_,rfl,_,_,rfl,rfl,L.le (by simp only[zaa,E1,E2,E3,E5,E6,E7,E8,E9,E10,E11,E13,E14,E15,E16,E17,E18];omega),_,_,rfl,rfl,L.le (by simp only[zaa,E1,E2,E3,E5,E6,E7,E8,E9,E10,E11,E13,E14,E15,E16,E17,E18];omega),_,rfl,_,_,rfl,rfl,L.le (by simp only[zaa,E1,E2,E3,E5,E6,E7,E8,E9,E10,E11,E13,E14,E15,E16,E17,E18];omega),_,_,rfl,rfl,L.le (by simp only[zaa,E1,E2,E3,E5,E6,E7,E8,E9,E10,E11,E13,E14,E15,E16,E17,E18];omega),_,rfl,_,_,rfl,rfl,L.le (by simp only[zaa,E1,E2,E3,E5,E6,E7,E8,E9,E10,E11,E13,E14,E15,E16,E17,E18];omega),_,_,rfl,rfl,L.le (by simp only[zaa,E1,E2,E3,E5,E6,E7,E8,E9,E10,E11,E13,E14,E15,E16,E17,E18];omega),_,rfl,_,_,rfl,rfl,L.le (by simp only[zaa,E1,E2,E3,E5,E6,E7,E8,E9,E10,E11,E13,E14,E15,E16,E17,E18];omega),_,_,rfl,rfl,L.le (by simp only[zaa,E1,E2,E3,E5,E6,E7,E8,E9,E10,E11,E13,E14,E15,E16,E17,E18];omega),_,rfl,_,_,rfl,rfl,L.le (by simp only[zaa,E1,E2,E3,E5,E6,E7,E8,E9,E10,E11,E13,E14,E15,E16,E17,E18];omega),(by show 3<=zhu;decide),λ p4 hp4=>?_⟩
 generalize hgH4:upd _ p4 _=H4
 revert H4
 refine qal9 hp4 λ H4 s4 e4=>?_
 have e4:H4 p4=zhq (.lst ((rowsN3 a b o).map V.str)):=e4
 refine⟨p3,p4,_,_,rfl,rfl,s4 _ _ e3,e4,(by show 9<=zhu;decide),λ p5 hp5=>?_⟩
 generalize hgH5:upd _ p5 _=H5
 revert H5
 refine qal9 hp5 λ H5 s5 e5=>?_
 rw[<- zaj,<- zaj] at e5
 refine q p5 _ _ (s1.trans (s2.trans (s3.trans (s4.trans s5)))) e5 (zaq 9) λ d d1 y hy=>?_
 rcases zak.mp hy with hy|hy
 ·exact(zak.mp hy).elim (odd_1 ha hb ho y) (odd_2 d1 ha hb ho y)
 ·exact odd_3 ha hb ho y hy
end
theorem same_mk{x:zht}(fx:H x=zhr)(fdx:H dx=zhr):Same H (upd (upd H dx (.own x)) x (.ins C dx [])):=λ b o e=>by
 rw[qao9 (qbe9 e fx),qao9 (qbe9 e fdx)]
 exact e
theorem ck3{a b c r:TS}(h:let t:=r;tSeq a (tSeq b (tSeq c t)) D σ H):tSeq a (tSeq b (tSeq c r)) D σ H:=h
theorem ck1{a r:TS}(h:let t:=r;tSeq a t D σ H):tSeq a r D σ H:=h
theorem ckc{a r:TS}(h:let t:=r;tCut a t D σ H):tCut a r D σ H:=h
theorem qpr9(K:W.Frag)(hK:X.K=K):QOp X (zig .NotIn) (rIn K true):=by
 subst hK
 exact qgs9
theorem qtb9(h:(decide (∀c∈z.cps.toList,97<=c/\c<=122)&&decide (1<=z.length/\z.length<=8))=true):Low z:=by
 rw[zaz] at h
 exact⟨of_decide_eq_true h.1,(of_decide_eq_true h.2).1,(of_decide_eq_true h.2).2⟩
theorem sayN_bad{CR x:zht}{z:V}{ns:List Str}(dk:DeskAt C H x d ns M)(d2:d<=1000000000000000)(ln:ns.length<=100)(h:BadV K H d z)(k:∀H',Same H H'->E (.ref CR) zhr H'):spSayN K C CR CN [.ref x,z] H Q E:=by
 refine⟨x,z,d,ns,M,rfl,dk,d2,ln,?_⟩
 rcases h with h|⟨y,rfl,ty,u,ws,es,no⟩
 ·exact .inl ⟨h,k _ (Same.refl _)⟩
 ·exact .inr ⟨y,u,ws,rfl,ty,es,.inl ⟨no,k⟩⟩
theorem sayN_odd{CR x:zht}{o:Str}{ns:List Str}(dk:DeskAt C H x d ns M)(d2:d<=1000000000000000)(ln:ns.length<=100)(h:OddR d o y)(no:o∉ns)(k:∀H',Same H H'->E (.ref CN) zhr H'):spSayN K C CR CN [.ref x,.str y] H Q E:=by
 obtain⟨ty,u,ws,zs,es,ez,lz,oz⟩:=h
 exact⟨x,.str y,d,ns,M,rfl,dk,d2,ln,.inr ⟨y,u,ws,rfl,ty,es,.inr ⟨zs,ez,⋯,⟨o,oz,no⟩,k⟩⟩⟩
def oddL(x:Str):List Str:=["a","q","quay","zzzzzzzz","b"++Txt.slice x zhr (zhq 6),"c"]
theorem qqb9(h:Low x):∀y∈oddL x,Low y:=λ y hy=>by
 unfold oddL at hy
 simp only[zag,zam,or_false] at hy
 rcases hy with rfl|rfl|rfl|rfl|rfl|rfl
 case inr.inr.inr.inr.inl =>
  have e:(Txt.slice x zhr (zhq 6)).cps.toList=x.cps.toList.take 6:=qmt9 (by decide)
  have el:(Txt.slice x zhr (zhq 6)).length<=6:=by
   rw[qjf9,e,zbd]
   omega
  have e1:("b":Str).length=1:=by decide
  refine⟨λ c hc=>?_,by rw[zaa];omega,by rw[zaa];omega⟩
  rcases app_mem.mp hc with hc|hc
  ·exact(by decide +kernel:∀c∈("b":Str).cps.toList,97<=c/\c<=122) c hc
  ·rw[e] at hc
   exact h.all c (zcu hc)
 all_goals exact qtb9 (by decide +kernel)
def lits5:List Str:=["a","q","quay","zzzzzzzz"]
theorem lits_many(h:∀x∈lits5,x∈names):4<=names.length:=many_in (g:=λ i=>lits5.getD i "") (n:=4) (λ i j hi hj=>(by decide +kernel:∀i:Fin 4,∀j:Fin 4,lits5.getD i.1 ""=lits5.getD j.1 "" -> i.1=j.1) ⟨i,hi⟩ ⟨j,hj⟩) λ i hi=>h _ (by
 rw[zbn,zad (show i<lits5.length from hi)]
 exact zbs _)
section
variable {w:zhy}{f:zht}{R:List RowE}{eN:RowE}
theorem ok_law{tabs:List (zht×zht)}(hNr:eN∈R/\eN.w="net" /\ eN.ks=[]/\eN.sp=spNetRow C)(F:Fun K "law" "law" qsg9 f fd)(B:Bl mg)(Cc0:Callee P w K mg base (n+1) "_law_cell_at" ["script","k"] (spCell K))(Ce2:Callee P w K mg base (n+1) "_law_day" ["cell"] spDay)(Co1:Callee P w K mg base (n+1) "_law_roads" ["script","day","size","goal","most"] (spRoads84 K))(Cp1:Callee P w K mg base (n+1) "_law_words" ["script","size"] (spWords8 K))(Cq1:Callee P w K mg base (n+1) "_law_order" ["roads"] spOrder8)(Ca2:Callee P w K mg base (n+1) "_law_text" ["day","words","roads"] spText8)(Ce1:Callee P w K mg base (n+1) "_law_no_desks" ["text"] spNoDesks)(K_Desk:KCal P w K mg base n "Desk" C ["self","text"] (spDI (λ _=>True) C))(Cj1:Callee P w K mg base (n+1) "_law_no_rows" ["day","a","b"] (spNoRows K))(Cf1:Callee P w K mg base (n+1) "_law_no_names" ["a","b","odd"] spNoNames)(Cg0:Callee P w K mg base (n+1) "_law_said" ["desk","row"] (spSaidF K C cw cm co R))(Cb2:Callee P w K mg base (n+1) "_law_free" ["day","roads","ends"] spFree)(Cw0:Callee P w K mg base (n+1) "_law_shown" ["window"] spWinTx)(Cc2:Callee P w K mg base (n+1) "_law_shut" ["desk","row","text"] (spLShut C)):FnOk P w K mg base CX0 (n+2) f fd ["script"] (spLaw K tabs):=by
 refine F.okQ sc_law (λ vs H Q E h=>?_) (λ cdv A outer s H vs Q E hr h=>?_)
 ·obtain⟨_,_,rfl,_⟩:=h
  rfl
 obtain⟨a,ns,rfl,hSc,h63,_,q⟩:=h
 refine⟨_,(qaa9 (qak9 (i:=1) sc_law.nd rfl (zai rfl) (qe_fn Ce2 hr rfl (qa_c (qe_fn Cc0 hr rfl (qa_c (qv 0) (qa_c qaf9 qac9))) qac9))) (qaa9 (qak9 (i:=2) sc_law.nd rfl (zai rfl) (qe_op qbu9 qaf9 (qe_op qbj9 (qe_fn Cc0 hr rfl (qa_c (qv 0) (qa_c qaf9 qac9))) qaf9))) (qaa9 (qak9 (i:=3) sc_law.nd rfl (zai rfl) (qe_fn Co1 hr rfl (qa_c (qv 0) (qa_c (qv 1) (qa_c (qv 2) (qa_c (qe_op qbj9 (qe_fn Cc0 hr rfl (qa_c (qv 0) (qa_c qaf9 qac9))) (qv 2)) (qa_c qaf9 qac9))))))) (qaa9 (qak9 (i:=4) sc_law.nd rfl (zfm rfl) (qe_fn Cp1 hr rfl (qa_c (qv 0) (qa_c (qv 2) qac9)))) (qaa9 (qak9 (i:=5) sc_law.nd rfl (zai rfl) (qe_fn Cq1 hr rfl (qa_c (qv 3) qac9))) (qaa9 (qak9 (i:=6) sc_law.nd rfl (zai rfl) (qe_fn Ca2 hr rfl (qa_c (qv 1) (qa_c (qv 4) (qa_c (qv 3) qac9))))) (qaa9 (qs_if (qdj9 (qct9 (qe_fn Ce1 hr rfl (qa_c (qv 6) qac9)))) (qae9 (qam9 qe_bl)) qan9) (qaa9 (qak9 (i:=7) sc_law.nd rfl (zai rfl) (qe_make K_Desk hr rfl (qa_c (qv 6) qac9))) (qaa9 (qak9 (i:=8) sc_law.nd rfl (zai rfl) (qe_fn Cc0 hr rfl (qa_c (qv 0) (qa_c qaf9 qac9)))) (qaa9 (qak9 (i:=9) sc_law.nd rfl (zai rfl) qah9) (qaa9 (qak9 (i:=10) sc_law.nd rfl (zai rfl) qah9) (qaa9 (qak9 (i:=11) sc_law.nd rfl (zai rfl) (qbn9 (qa_c qaf9 (qa_c qaf9 qac9)))) (qob9 (qs_if (qar9 (qlc9 hr.units) (qv 5) (qbi9 qac9) (qbb9 _)) (qaa9 (qak9 (i:=11) sc_law.nd rfl (zai rfl) (qbn9 (qa_c (qe_ix qau9 (qv 5) (qe_op qbj9 (qv 8) (qe_cb qbg9 rfl B.len qeb9 (qa_c (qv 5) qac9))) (λ _ _=>rfl)) (qa_c (qe_ix qau9 (qv 5) (qe_op qbj9 (qe_op qbm9 (qv 8) qaf9) (qe_cb qbg9 rfl B.len qeb9 (qa_c (qv 5) qac9))) (λ _ _=>rfl)) qac9)))) (qaa9 (qak9 (i:=9) sc_law.nd rfl (zai rfl) (qe_ix qau9 (qv 4) (qe_ix qas9 (qv 11) qaf9 (λ _ _=>rfl)) (λ _ _=>rfl))) (qae9 (qak9 (i:=10) sc_law.nd rfl (zai rfl) (qe_ix qau9 (qv 4) (qe_ix qas9 (qv 11) qaf9 (λ _ _=>rfl)) (λ _ _=>rfl)))))) qan9) (qaa9 (qfn9 (i:=12) ["word","words"] [zhr,zhq 4] sc_law.nd rfl (zai rfl) (BlkOk.of rfl rfl (SubL.to (subC rfl subN)) rfl) rfl (qbl9 (qbi9 (qa_c qah9 (qa_c qah9 (qa_c qah9 (qa_c qah9 (qa_c (qe_op qad9 qah9 (qpl9 (qe_ix qau9 (qv 4) qaf9 (λ _ _=>rfl)) qfi9 (qfh9 qaf9))) (qa_c qah9 qac9)))))))) (λ _ _ _ _=>(qat9 (i:=0) (show(["word","words"]:List Str).Nodup by decide) rfl (zai rfl))) (λ _ _ _ _=>qoa9 (qar9 (qpr9 K rfl) (qv 0) (qv 1) rfl)) (λ _ _ _ _=>(qv 0))) (qaa9 (qak9 (i:=12) sc_law.nd rfl (zai rfl) (qe_ix qau9 (qv 12) (qe_op qbj9 (qe_op qbm9 (qv 8) qaf9) (qe_cb qbg9 rfl B.len qeb9 (qa_c (qv 12) qac9))) (λ _ _=>rfl))) (qaa9 (qeo9 ziq.never rfl (qbl9 (qe_fn Cj1 hr rfl (qa_c (qv 1) (qa_c (qv 9) (qa_c (qv 10) qac9))))) (qat9 (i:=13) sc_law.nd rfl (zai rfl)) (qae9 (qs_if (qar9 (qlc9 hr.units) (qe_fn Cg0 hr rfl (qa_c (qv 7) (qa_c (qv 13) qac9))) (qbn9 (qa_c qe_bl (qa_c qe_bl (qa_c qe_bl (qa_c qe_bl (qa_c qe_bl qac9)))))) (qbb9 _)) (qae9 (qam9 qe_bl)) qan9))) (qaa9 (qeo9 ziq.never rfl (qbl9 (qe_fn Cf1 hr rfl (qa_c (qv 9) (qa_c (qv 10) (qa_c (qv 12) qac9))))) (qat9 (i:=13) sc_law.nd rfl (zai rfl)) (qae9 (qs_if (qar9 (qlc9 hr.units) (qe_fn Cg0 hr rfl (qa_c (qv 7) (qa_c (qv 13) qac9))) (qbn9 (qa_c qe_bl (qa_c qe_bl (qa_c qe_bl (qa_c qe_bl (qa_c qe_bl qac9)))))) (qbb9 _)) (qae9 (qam9 qe_bl)) qan9))) (qaa9 (qs_if (qar9 qkf9 (qe_fn Cg0 hr rfl (qa_c (qv 7) (qa_c qah9 qac9))) (qv 6) (qbb9 _)) (qae9 (qam9 qe_bl)) qan9) (qaa9 (qs_if (qar9 (qkw9 hr.units) (qv 5) (qbi9 qac9) (qbb9 _)) (qae9 (qam9 qe_bl)) qan9) (qae9 (qam9 (qe_fn Cc2 hr rfl (qa_c (qv 7) (qa_c (qe_op qad9 (qe_op qad9 (qe_op qad9 (qe_op qad9 (qv 9) qah9) (qv 10)) qah9) (qe_fn Cw0 hr rfl (qa_c (qe_fn Cb2 hr rfl (qa_c (qv 1) (qa_c (qv 3) (qa_c (qv 11) qac9)))) qac9))) (qa_c (qv 6) qac9))))))))))))))))))))))))),?_⟩
 walk_at "d"
 refine ck3 ?_
 intro t3
 refine⟨_,rfl,a,ns,0,rfl,hSc,by decide,λ c0=>⟨c0,rfl,λ d H1 d1 d2 s1=>?_⟩⟩
 refine⟨_,rfl,a,ns,1,rfl,s1.seq hSc,by decide,λ c1=>⟨_,_,rfl,rfl,(by show(0:Int)<3;decide),_,_,rfl,rfl,?_⟩⟩
 have z3:=qfj9 c1 (show(0:Int)<3 by decide)
 dsimp only
 obtain⟨Nn,eN'⟩:∃N:Nat,1+c1%3=(N:Int):=⟨(1+c1%3).toNat,⋯⟩
 rw[eN']
 have N1:1<=Nn:=⋯
 have N3:Nn<=3:=⋯
 refine⟨_,rfl,_,rfl,_,rfl,_,rfl,a,ns,2,rfl,s1.seq hSc,by decide,λ c2=>⟨_,rfl,_,_,rfl,rfl,(by show(0:Int)<(Nn:Int);omega),?_⟩⟩
 refine⟨a,ns,d,(Nn:Int),_,4,rfl,s1.seq hSc,h63,d1,d2,⋯,⋯,by decide,λ pr Ns H2 s2 hN hIn lN tB fN=>?_⟩
 have nw:NetW d Nn Ns:=⟨λ m hm=>by
  obtain⟨a,b,c,e⟩:=hIn m hm
  exact⟨a,b,e,c⟩,⋯⟩
 have s02:=s1.trans s2
 have sd:Sm d:=⟨⋯,⋯⟩
 refine ck3 ?_
 intro t6
 refine⟨_,rfl,_,rfl,a,ns,Nn,rfl,s02.seq hSc,N3,λ pn names H3 s3 en fpn ln low nd=>?_⟩
 have hN3:=hN.same s3
 have s03:=s02.trans s3
 refine⟨_,rfl,pr,Ns,rfl,hN3,⋯,λ po H4 s4 eo fo=>?_⟩
 have hN4:=hN3.same s4
 have tx:=nw.tx d2 ln low
 refine⟨_,rfl,_,rfl,_,rfl,d,pn,pr,names,Ns,rfl,sd,s4 _ _ en,hN4,tx,λ m hm x hx=>((nw.rng m hm).2.2.1 x hx).2.1,λ H5 s5=>?_⟩
 have told:=nw.told d1 d2 ln low
 have s05:=(s03.trans s4).trans s5
 refine ck3 ?_
 intro t9
 refine⟨_,rfl,d,_,rfl,told,by rw[zac];omega,λ H6 s6=>⟨_,rfl,iteN (by decide) ?_⟩⟩
 refine⟨_,rfl,λ x dx fx fdx nex=>?_⟩
 have sX:=same_mk (C:=C) fx fdx
 refine⟨x,dx,d,_,H6,rfl,qaj9,fx,sX,trivial,told,λ H7 M pnD pd s7 _ hx7 hD7 hM7 eM fM nD=>⟨rfl,?_⟩⟩
 generalize hnsD:(rdAll (Ns.map (rdS names))).1=nsD at hD7
 have ren0:Ren names nsD Ns M:=hnsD ▸ ren_of nd (nw.ends ln) eM
 have s57:=s6.trans s7
 have s07:=s05.trans s57
 have dk0:Dk5 C H7 x dx pnD pd d names nsD Ns M:=⟨hx7,hD7,hM7,nD,ren0⟩
 refine⟨_,rfl,a,ns,26,rfl,s07.seq hSc,by decide,λ cell=>?_⟩
 have g7o:=s57 _ _ (s5 _ _ eo)
 have g7n:=s57 _ _ (s5 _ _ (s4 _ _ en))
 have hN7:=hN4.same (s5.trans s57)
 have at_o:∀i:Int,0<=i->i<((ordN Ns).length:Int)->∃v:Int,atI ((ordN Ns).map V.int) i=zhq (.int v)/\OnRd Ns v:=λ i i0 i1=>by
  obtain⟨k,rfl⟩:=zbz i0
  have e:=zad (l:=ordN Ns) (i:=k) ⋯
  exact⟨_,qcf9 (by rw[zah,e];rfl),ord_mem.mp (zaf e)⟩
 refine ck3 ?_
 intro t12
 refine⟨(by show 2<=zhu;decide),λ pe0 hpe0=>?_⟩
 generalize hgH8:upd _ pe0 _=H8
 revert H8
 refine qal9 hpe0 λ H8 s8 e8=>?_
 refine ckc ?_
 intro t13
 generalize hTx:netS d (Ns.map (rdS names))=tx0 at *
 refine⟨λ σ' H'=>Same H8 H'/\E5q λ(u v:Str) (pe:zht) (i j:Int)=>A5q (σ'=[sR9 a,sI9 d,sI9 Nn,sR9 pr,sR9 pn,sR9 po,sS9 tx0,sR9 x,sI9 cell,sS9 u,sS9 v,sR9 pe,zhr,zhr]) (Low u) (Low v) (H' pe=zhq (.tup [.int i,.int j])) ((ordN Ns≠[]->OnRd Ns i/\OnRd Ns j/\u=nmT names i/\v=nmT names j)),?_,?_⟩
 ·refine⟨_,rfl,(by show 0<=zhu;decide),λ p1 hp1=>?_⟩
  generalize hgH9:upd _ p1 _=H9
  revert H9
  refine qal9 hp1 λ H9 s9 e9=>?_
  have s79:=s8.trans s9
  refine⟨_,_,.lst (SqL.of (s79 _ _ g7o)) (qls9 _),.lst (SqL.of e9) .nil,qew9 _,qiy9,_,rfl,ite2 (λ c=>?_) (λ c=>⟨s9,_,_,_,_,_,rfl,qtb9 (by decide +kernel),qtb9 (by decide +kernel),s9 _ _ e8,λ z=>absurd ?_ c⟩)⟩
  ·have oN:ordN Ns≠[]:=λ z=>by
    rw[z] at c
    simp[zhw.eqv,zhw.eqvAll] at c
   have lo0:0<(ordN Ns).length:=by
    cases e:ordN Ns with
    |nil=>exact absurd e oN
    |cons _ _=>simp
   have m1:=qfj9 cell (show(0:Int)<((ordN Ns).length:Int) by omega)
   have m2:=qfj9 (cell/3) (show(0:Int)<((ordN Ns).length:Int) by omega)
   obtain⟨i,ai,oi⟩:=at_o _ m1.1 m1.2
   obtain⟨j,aj,oj⟩:=at_o _ m2.1 m2.2
   obtain⟨_,i0,i1⟩:=ren0.on oi
   obtain⟨_,j0,j1⟩:=ren0.on oj
   have lI:=low _ (qgk9 i0 i1)
   have lJ:=low _ (qgk9 j0 j1)
   refine⟨_,rfl,_,rfl,_,rfl,po,_,rfl,.inl (SqL.of (s79 _ _ g7o)),_,_,rfl,rfl,by rw[zac];omega,po,_,_,_,rfl,rfl,SqL.of (s79 _ _ g7o),by rw[zac];exact ai,_,rfl,_,rfl,_,_,rfl,rfl,⟨by decide,by decide⟩,_,rfl,po,_,rfl,.inl (SqL.of (s79 _ _ g7o)),_,_,rfl,rfl,by rw[zac];omega,po,_,_,_,rfl,rfl,SqL.of (s79 _ _ g7o),by rw[zac];exact aj,(by show 2<=zhu;decide),λ p2 hp2=>?_⟩
   generalize hgHa:upd _ p2 _=Ha
   revert Ha
   refine qal9 hp2 λ Ha sa ea=>?_
   refine⟨_,rfl,_,rfl,p2,_,_,_,rfl,rfl,SqT.of ea,rfl,pn,_,_,_,rfl,rfl,SqL.of (sa _ _ (s79 _ _ g7n)),at_nm i0 i1,?_⟩
   refine⟨_,rfl,_,rfl,p2,_,_,_,rfl,rfl,SqT.of ea,rfl,pn,_,_,_,rfl,rfl,SqL.of (sa _ _ (s79 _ _ g7n)),at_nm j0 j1,?_⟩
   exact⟨s9.trans sa,_,_,_,i,j,rfl,lI,lJ,ea,λ _=>⟨oi,oj,rfl,rfl⟩⟩
  ·cases e:ordN Ns with
   |nil=>exact absurd e z
   |cons _ _=>simp[zhw.eqv,zhw.eqvAll]
 intro σ' H9 z9;obtain⟨s9,u,v,pe,i,j,rfl,lu,lv,ee,hh⟩ := z9
 have s79:=s8.trans s9
 refine ck1 ?_
 intro t14
 have n0:(0:Int)<(names.length:Int):=⋯
 have lw0:=low _ (qgk9 (zbq 0) n0)
 refine⟨_,rfl,pn,_,_,_,rfl,rfl,SqL.of (s79 _ _ g7n),at_nm (zbq 0) n0,_,rfl,_,rfl,L.le (by have:=lw0.l8;omega),?_⟩
 have l6:=(qqb9 lw0 ("b"++Txt.slice (nmT names 0) zhr (zhq 6)) (by unfold oddL;simp)).l8
 rw[zaa] at l6
 refine⟨_,_,rfl,rfl,L.le ⋯,(by show 6<=zhu;decide),λ p6 hp6=>?_⟩
 generalize hgHa:upd _ p6 _=Ha
 revert Ha
 refine qal9 hp6 λ Ha sa ea=>?_
 have ea:Ha p6=zhq (.lst ((oddL (nmT names 0)).map V.str)):=ea
 refine⟨p6,rfl,⟨_,SqL.of ea⟩,?_⟩
 have lo:=qqb9 lw0
 have m5:∀z∈lits5,z∈oddL (nmT names 0):=λ z hz=>by
  unfold oddL
  unfold lits5 at hz
  simp only[zag,zam,or_false] at hz ⊢
  rcases hz with h|h|h|h
  ·exact .inl h
  ·exact .inr (.inl h)
  ·exact .inr (.inr (.inl h))
  ·exact .inr (.inr (.inr (.inl h)))
 have l6':(oddL (nmT names 0)).length=6:=rfl
 generalize oddL (nmT names 0)=OL at *
 have s7a:=s79.trans sa
 refine qgr9 (K:=K) (a:=p6) (xs:=OL.map V.str) (λ D i H'=>Same Ha H'/\H' D=zhq (.lst (((OL.take i).filter λ z=>decide (z∉names)).map V.str))) (λ D hD=>⟨qbc9 hD _,qaj9⟩) (λ D i H' _ _ h=>SqL.of (h.1 _ _ ea)) ?_ ?_
 ·intro D i y H' hD hi z9;obtain⟨sD,eD⟩ := z9
  rw[zah] at hi
  cases hz:OL[i]? with
  |none=>rw[hz] at hi;cases hi
  |some z =>
  rw[hz] at hi
  cases hi
  refine⟨λ k v e=>?_,?_⟩
  ·match k,e with
   |0,e=>cases e
   |1,e=>exact e
   |k+2,e=>cases e
  refine⟨_,rfl,_,rfl,pn,_,rfl,.inl (SqL.of (sD _ _ (s7a _ _ g7n))),rfl,qfd9 _,_,rfl,?_⟩
  rw[qjk9]
  have lf:=zcr (λ z:Str=>decide (z∉names)) (OL.take i)
  rw[zbd] at lf
  rw[zbe,hz,zdg]
  refine ite2 (λ c=>?_) (λ c=>?_)
  ·have c':z∉names:=by simpa using c
   refine⟨_,rfl,_,eD,L.le (by rw[zac];omega),qaz9 hD sD,?_⟩
   rw[qaj9,zgp,List.filter_cons_of_pos (by simpa using c'),zaj]
   rfl
  ·have c':z∈names:=by simpa using c
   rw[zgp,List.filter_cons_of_neg (by simpa using c'),List.filter_nil,zce]
   exact⟨sD,eD⟩
 intro D Hb hD z9;obtain⟨sb,eb⟩ := z9
 rw[zac,zbk] at eb
 have oIn:∀z∈OL.filter λ z=>decide (z∉names),Low z/\z∉names:=λ z hz=>by
  obtain⟨h1,h2⟩:=zdu.mp hz
  exact⟨lo z h1,of_decide_eq_true h2⟩
 have oLen:0<(OL.filter λ z=>decide (z∉names)).length:=by
  cases e:OL.filter λ z=>decide (z∉names) with
  |cons _ _=>simp
  |nil =>
   have:=lits_many (names:=names) λ z hz=>by
    by_cases m:z∈names
    ·exact m
    ·have:z∈OL.filter λ z=>decide (z∉names):=zdu.mpr ⟨m5 z hz,decide_eq_true m⟩
     rw[e] at this
     cases this
   omega
 generalize (OL.filter λ z=>decide (z∉names))=OF at *
 have m9:=qfj9 (cell/9) (show(0:Int)<(OF.length:Int) by omega)
 obtain⟨ok,eok⟩:=zbz m9.1
 have eo9:=zad (l:=OF) (i:=ok) ⋯
 have ao:atI (OF.map V.str) (cell/9%(OF.length:Int))=zhq (.str (OF[ok]'⋯)):=by
  rw[eok]
  exact qcf9 (by rw[zah,eo9];rfl)
 obtain⟨lO,nO⟩:=oIn _ (zaf eo9)
 generalize OF[ok]'⋯=od at *
 refine ck1 ?_
 intro t15
 refine⟨_,rfl,_,rfl,_,_,rfl,rfl,⟨by decide,by decide⟩,_,rfl,D,_,rfl,.inl (SqL.of eb),_,_,rfl,rfl,by rw[zac];omega,D,_,_,_,rfl,rfl,SqL.of eb,by rw[zac];exact ao,?_⟩
 have s7b:=s7a.trans sb
 have nsO:od∉nsD:=λ z=>nO (by
  obtain⟨m,hm,e⟩:=(ren0.mem _).mp z
  have r:=ren0.rng m hm
  rcases e with e|e
  ·rw[e]
   exact qgk9 r.1.1 r.1.2
  ·rw[e]
   exact qgk9 r.2.1 r.2.2)
 have lnD:nsD.length<=100:=by
  have:=ren0.len
  omega
 have sh:∀b1 b2 b3:Bool,SeqAt.shaped (.tuple [.bool true,.bool false,.bool b1,.bool b2,.bool b3])=true:=λ b1 b2 b3=>by simp[SeqAt.shaped,zhw.canLay0,zhw.canLayAll0,zhw.depth,zhw.depthAll]
 have rd5:∀{H:Hp}{l:zht}{b1 b2 b3:Bool},H l=zhq (.tup [.bl true,.bl false,.bl b1,.bl b2,.bl b3])->RdV K H (.ref l) (.tuple [.bool true,.bool false,.bool b1,.bool b2,.bool b3]):=λ e=>.tup (SqT.of e) (.cons (.bl _) (.cons (.bl _) (.cons (.bl _) (.cons (.bl _) (.cons (.bl _) .nil)))))
 refine ck1 ?_
 intro t16
 refine⟨_,rfl,_,rfl,_,rfl,d,u,v,rfl,lu,lv,d1,d2,λ pl zs Hc sc ec lz bad=>?_⟩
 have s7c:=s7b.trans sc
 refine⟨pl,rfl,⟨_,SqL.of ec⟩,qdg9 (K:=K) (a:=pl) (xs:=zs)
  (λ i σ H'=>E1q λ(v13:Option V)=>σ=[sR9 a,sI9 d,sI9 Nn,sR9 pr,sR9 pn,sR9 po,sS9 tx0,sR9 x,sI9 cell,sS9 u,sS9 v,sR9 pe,sS9 od,v13]/\Same Hc H')
  ⟨_,rfl,Same.refl _⟩ (λ i σ H' _ h=>?_) ?_ ?_⟩
 ·obtain⟨_,_,h⟩:=h
  exact SqL.of (h _ _ ec)
 ·intro i y σ H' hi z9;obtain⟨v13,rfl,s'⟩ := z9
  have dk:=dk0.dk.same (s7c.trans s')
  refine⟨_,rfl,_,rfl,cw,true,false,false,.inl ⟨rfl,rfl,rfl,rfl⟩,λ Q' E' hQ hE=>.inr (sayN_bad dk d2 lnD ((bad y (zaf hi)).same s') λ H2 s2=>hE _ _ ⟨rfl,λ l H3 s3 e3=>?_⟩)⟩
  refine⟨(by show 5<=zhu;decide),λ p4 hp4=>?_⟩
  generalize hgH4:upd _ p4 _=H4
  revert H4
  refine qal9 hp4 λ H4 s4 e4=>?_
  exact⟨_,_,rd5 (s4 _ _ e3),rd5 e4,sh _ _ _,sh _ _ _,_,rfl,iteN (by decide +kernel) ⟨_,rfl,s'.trans (s2.trans (s3.trans s4))⟩⟩
 intro σ Hd z9;obtain⟨v13,rfl,sd'⟩ := z9
 have s7d:=s7c.trans sd'
 refine ck1 ?_
 intro t17
 refine⟨_,rfl,_,rfl,_,rfl,u,v,od,rfl,lu,lv,lO,λ pl2 ys He se ee' ly odd=>?_⟩
 have s7e:=s7d.trans se
 refine⟨pl2,rfl,⟨_,SqL.of ee'⟩,qdg9 (K:=K) (a:=pl2) (xs:=ys.map V.str)
  (λ i σ H'=>E1q λ(v13:Option V)=>σ=[sR9 a,sI9 d,sI9 Nn,sR9 pr,sR9 pn,sR9 po,sS9 tx0,sR9 x,sI9 cell,sS9 u,sS9 v,sR9 pe,sS9 od,v13]/\Same He H')
  ⟨_,rfl,Same.refl _⟩ (λ i σ H' _ h=>?_) ?_ ?_⟩
 ·obtain⟨_,_,h⟩:=h
  exact SqL.of (h _ _ ee')
 ·intro i y σ H' hi z9;obtain⟨v13,rfl,s'⟩ := z9
  rw[zah] at hi
  cases hz:ys[i]? with
  |none=>rw[hz] at hi;cases hi
  |some z =>
  rw[hz] at hi
  cases hi
  have dk:=dk0.dk.same (s7e.trans s')
  refine⟨_,rfl,_,rfl,cm,false,true,false,.inr (.inl ⟨rfl,rfl,rfl,rfl⟩),λ Q' E' hQ hE=>.inr (sayN_odd dk d2 lnD (odd d d1 z (zaf hz)) nsO λ H2 s2=>hE _ _ ⟨rfl,λ l H3 s3 e3=>?_⟩)⟩
  refine⟨(by show 5<=zhu;decide),λ p4 hp4=>?_⟩
  generalize hgH4:upd _ p4 _=H4
  revert H4
  refine qal9 hp4 λ H4 s4 e4=>?_
  exact⟨_,_,rd5 (s4 _ _ e3),rd5 e4,sh _ _ _,sh _ _ _,_,rfl,iteN (by decide +kernel) ⟨_,rfl,s'.trans (s2.trans (s3.trans s4))⟩⟩
 clear v13
 intro σ Hf z9;obtain⟨v13,rfl,sf'⟩ := z9
 have s7f:=s7e.trans sf'
 have n4:names.length<=4:=⋯
 have nw':NetW d names.length Ns:=by rw[ln];exact nw
 refine⟨_,rfl,co,false,false,true,.inr (.inr ⟨rfl,rfl,rfl,rfl⟩),λ Q' E' hQ hE=>.inl ?_⟩
 refine qqm9 hNr (dk0.dk.same s7f) ren0 nw' d1 d2 n4 low λ Hg sg=>hQ _ _ ?_
 rw[hTx]
 refine⟨_,rfl,rfl,_,rfl,iteN (by simp) ?_⟩
 have s7g:=s7f.trans sg
 refine⟨_,rfl,(by show 0<=zhu;decide),λ p7 hp7=>?_⟩
 generalize hgHh:upd _ p7 _=Hh
 revert Hh
 refine qal9 hp7 λ Hh sh' eh=>?_
 have s7h:=s7g.trans sh'
 refine⟨_,_,.lst (SqL.of (s7h _ _ g7o)) (qls9 _),.lst (SqL.of eh) .nil,qew9 _,qiy9,_,rfl,ite2 (λ c=>q _) (λ c=>?_)⟩
 have oN:ordN Ns≠[]:=λ z=>by
  rw[z] at c
  exact c rfl
 obtain⟨oi,oj,eu,ev⟩:=hh oN
 subst eu ev
 have l1:=lu.l8
 have l2:=lv.l8
 have E1:(" ":Str).length=1:=by decide
 have E2:(">":Str).length=1:=by decide
 have et:tot (stN Ns)=totC (Ns.map λ m=>m.2.2.2):=by
  unfold tot totC stN
  rw[zcl,zcl]
  rfl
 have t4:tot (stN Ns)<=4:=by
  rw[et]
  exact tB
 refine⟨_,rfl,_,rfl,_,_,rfl,rfl,L.le (by rw[E2];omega),_,rfl,_,_,rfl,rfl,L.le (by simp only[zaa,E2];omega),_,_,rfl,rfl,L.le (by simp only[zaa,E1,E2];omega),_,rfl,_,rfl,_,rfl,d,i,j,pr,pe,Ns,rfl,hN7.same s7h,?_,⋯,⋯,λ r c Hi si ei c1 c29 no=>?_⟩
 ·exact(sa.trans (sb.trans (sc.trans (sd'.trans (se.trans (sf'.trans (sg.trans sh'))))))) _ _ ee
 have wp:WinP d (d-1,d-1,c):=⟨by show 0<=d-1;omega,by show d-1<=d-1;omega,by show d-1<d;omega,c1,by show c<=_;omega⟩
 have sm:Sm (d-1):=⟨⋯,⋯⟩
 have sc9:Sm c:=⟨⋯,⋯⟩
 have lW:=qgp9 (w:=(d-1,d-1,c)) ⟨sm,sm,sc9⟩
 refine⟨r,(d-1,d-1,c),rfl,ei,zbq _,sm,sm,sc9,_,_,rfl,rfl,L.le (by simp only[zaa,E1,E2];omega),_,rfl,x,dx,pnD,pd,d,i,j,(d-1,d-1,c),names,nsD,Ns,M,by rw[hTx];rfl,dk0.same (s7h.trans si),oi,oj,wp,d1,d2,n4,low,⟨?_,⋯,λ m hm y hy=>?_⟩,no,q⟩
 ·unfold stN
  rw[zac]
  omega
 ·obtain⟨m',hm',rfl⟩:=zas.mp hm
  exact(nw.rng m' hm').2.2.1 y hy
end
theorem qsz9{k:Str}{t:Tok}{v:zhs}{l:List (Str×Tok×zhs)}:kdVal ((k,t,v)::l) x=if k=x then zhq v else kdVal l x:=by
 unfold kdVal
 rw[zcf]
 by_cases c:k=x
 ·simp[c]
 ·simp[c]
theorem sht_of{k0 k1 k2 k3 k4 k5 k6 k7 k8:Tok}{t0 t1 t2 t3 t4 t5 t6 t7 t8:zht}(h0:tupB K t0 ["name","name","moment"]=true)(h1:tupB K t1 ["name","name","moment"]=true)(h2:tupB K t2 ["name","name","moment","turns"]=true)(h3:tupB K t3 ["name","name","moment"]=true)(h4:tupB K t4 ["name","name"]=true)(h5:tupB K t5 ["name","name"]=true)(h6:tupB K t6 ["road","window"]=true)(h7:tupB K t7 ["road","window"]=true)(h8:tupB K t8 []=true) :
  ShT K [("soonest",k0,.ref t0),("latest",k1,.ref t1),("kept",k2,.ref t2),("rides",k3,.ref t3),("board",k4,.ref t4),("longest",k5,.ref t5),("open",k6,.ref t6),("shut",k7,.ref t7),("net",k8,.ref t8)]:=by
 refine⟨λ x h=>?_,λ x ks h=>?_⟩
 ·unfold shTab at h
  simp only[qsz9]
  split at h
  ·cases h
  rename_i c0
  split at h
  ·cases h
  rename_i c1
  split at h
  ·cases h
  rename_i c2
  split at h
  ·cases h
  rename_i c3
  split at h
  ·cases h
  rename_i c4
  rw[not_or,not_or] at c0
  rw[not_or] at c2 c3
  rw[if_neg (Ne.symm c0.1),if_neg (Ne.symm c0.2.1),if_neg (Ne.symm c1),if_neg (Ne.symm c0.2.2),if_neg (Ne.symm c2.1),if_neg (Ne.symm c2.2),if_neg (Ne.symm c3.1),if_neg (Ne.symm c3.2),if_neg (Ne.symm c4)]
  rfl
 ·unfold shTab at h
  split at h
  ·rename_i c
   cases h
   rcases c with rfl|rfl|rfl
   ·exact⟨t0,by rfl,qfm9 h0⟩
   ·exact⟨t1,by rfl,qfm9 h1⟩
   ·exact⟨t3,by rfl,qfm9 h3⟩
  split at h
  ·rename_i c
   cases h
   subst c
   exact⟨t2,by rfl,qfm9 h2⟩
  split at h
  ·rename_i c
   cases h
   rcases c with rfl|rfl
   ·exact⟨t4,by rfl,qfm9 h4⟩
   ·exact⟨t5,by rfl,qfm9 h5⟩
  split at h
  ·rename_i c
   cases h
   rcases c with rfl|rfl
   ·exact⟨t6,by rfl,qfm9 h6⟩
   ·exact⟨t7,by rfl,qfm9 h7⟩
  split at h
  ·rename_i c
   cases h
   subst c
   exact⟨t8,by rfl,qfm9 h8⟩
  cases h
theorem sd_of{bw bo:List zhs}(hw:kindB K cw (due85 cb cn cp cr ct cx cw cm co true false false)=true)(hm:kindB K cm (due85 cb cn cp cr ct cx cw cm co false true false)=true)(ho:kindB K co (due85 cb cn cp cr ct cx cw cm co false false true)=true)(ew:ExC K cw bw)(em:ExC K cm bm)(eo:ExC K co bo)(iw:(zhs.ref cw::bw).contains (.ref CF)=true)(im:(zhs.ref cm::bm).contains (.ref CF)=true)(io:(zhs.ref co::bo).contains (.ref CF)=true) :
  ∀c b1 b2 b3,Is3 cw cm co c b1 b2 b3->Kd K c (due85 cb cn cp cr ct cx cw cm co b1 b2 b3)/\∃bm,ExC K c bm/\(zhs.ref c::bm).contains (.ref CF)=true:=by
 rintro c b1 b2 b3 (⟨rfl,rfl,rfl,rfl⟩|⟨rfl,rfl,rfl,rfl⟩|⟨rfl,rfl,rfl,rfl⟩)
 ·exact⟨kd_of hw,_,ew,iw⟩
 ·exact⟨kd_of hm,_,em,im⟩
 ·exact⟨kd_of ho,_,eo,io⟩
theorem qqa9:TB λ _=>True:=⟨λ _ _ _ _=>trivial,λ _ _ _ _ _ _=>trivial⟩
theorem tbi_true:TBI λ _=>True:=λ _ _ _ _ _ _ _ _=>trivial
def fnX(s:zhz):Str:=match s with
 | .FunctionDef x _ _ _ _ _ _ _ _ _=>x
 |_=>zbr
def seeF(K:W.Frag)(x:Str):Option (zht×zhs×Option zht×zik×Array (Option zhs)):=match W.nsIn K zie x with
 |some (zhq (.ref f))=>(match K.lookup f with
  |some ⟨oc,od,.func fd,sl⟩=>(match W.codeIn K fd.code x&&W.keepIn K (.ref f) with
   |true=>zhq (f,oc,od,fd,sl)
   |false=>zhr)
  |_=>zhr)
 |_=>zhr
def wantF(K:W.Frag)(s:zhz):Option (zht×zhs×Option zht×zik×Array (Option zhs)):=(seeF K (fnX s)).map λ t=>(t.1,t.2.1,t.2.2.1,W.fnOf (fnX s) (fnX s) (qai9 s) (qag9 s) (qab9 s) .none t.2.2.2.1.kwdefaults t.2.2.2.1.doc t.2.2.2.1.pyModule t.2.2.2.1.annotations t.2.2.2.1.code t.2.2.2.1.closureTuple,t.2.2.2.2)
abbrev RowsE(K:W.Frag)(L:List Nat):Prop:=(L.map λ i=>(seeF K (fnX (top i)),true))=L.map λ i=>(wantF K (top i),(seeF K (fnX (top i))).isSome)
def Rw(K:W.Frag)(x:Str)(st:zhz):Prop:=∃(f:zht)(oc:zhs)(od:Option zht)(kV dc pm:zhs)(an:Option zht)(cd ct:zhs) (sl:Array (Option zhs)),W.nsIn K zie x=zhq (zhq (.ref f))/\K.lookup f=zhq ⟨oc,od,.func (W.fnOf x x (qai9 st) (qag9 st) (qab9 st) .none kV dc pm an cd ct),sl⟩/\W.codeIn K cd x=true/\W.keepIn K (.ref f)=true
section
variable {P:zih}{w:zhy}{base h:zic}{K:W.Frag}{mg:Str->Option zhs}{n i:Nat}{x:Str}{st:zhz}{ps:List Str}{sp:Sp}{L:List Nat}{f:zht}{fd:zik}{tc tp:zht}
theorem see_of{t:zht×zhs×Option zht×zik×Array (Option zhs)}(e:seeF K x=zhq t):W.nsIn K zie x=zhq (zhq (.ref t.1))/\K.lookup t.1=zhq ⟨t.2.1,t.2.2.1,.func t.2.2.2.1,t.2.2.2.2⟩/\W.codeIn K t.2.2.2.1.code x=true/\W.keepIn K (.ref t.1)=true:=by
 unfold seeF at e
 split at e
 ·rename_i f hf
  split at e
  ·rename_i oc od fd sl hl
   split at e
   ·rename_i hc
    cases e
    have:=zbt.mp hc
    exact⟨hf,hl,this.1,this.2⟩
   ·cases e
  ·cases e
 ·cases e
theorem rw_of(h:RowsE K L)(hi:i∈L)(e:fnX (top i)=x):Rw K x (top i):=by
 subst e
 have q:=Prod.mk.inj (List.map_inj_left.mp h i hi)
 obtain⟨t,ht⟩:=zcb.mp q.2.symm
 obtain⟨h1,h2,h3,h4⟩:=see_of ht
 have q1:=q.1
 unfold wantF at q1
 rw[ht] at q1
 have q2:=congrArg (λ z:zht×zhs×Option zht×zik×Array (Option zhs)=>z.2.2.2.1) (Option.some.inj q1)
 dsimp only at q2
 rw[q2] at h2
 exact⟨t.1,_,_,_,_,_,_,_,_,_,h1,h2,h3,h4⟩
theorem bndF(F:Fun K x qual st f fd)(hb:∀(kV dc pm:zhs)(an:Option zht)(cd ct:zhs)(us:List zhs),us.length=ps.length->zmf (W.fnOf x qual (qai9 st) (qag9 st) (qab9 st) .none kV dc pm an cd ct) ⟨us,[]⟩=pure (ps.zip us):=by
 intro _ _ _ _ _ _ us hl
 first|(obtain⟨_,rfl⟩:=bl_1 hl;rfl)|(obtain⟨_,_,rfl⟩:=bl_2 hl;rfl)|(obtain⟨_,_,_,rfl⟩:=bl_3 hl;rfl)|(obtain⟨_,_,_,_,_,rfl⟩:=bl_5 hl;rfl)):Binds K fd ps []:=F.binds hb
theorem lookF(F:Fun K x qual st f fd):∃oc od sl,K.lookup f=zhq ⟨oc,od,.func fd,sl⟩:=by
 obtain⟨oc,od,_,_,_,_,_,_,sl,_,l,_⟩:=F.ex
 exact⟨oc,od,sl,l⟩
theorem qmv9{h':zic}(h:RowsE K L)(X:K.In h'/\h'.Ns zie mg)(hi:i∈L:=by decide)(e:fnX (top i)=x:=by rfl):∃(f:zht)(fd:zik),Fun K x x (top i) f fd/\mg x=zhq (.ref f):=by
 obtain⟨f,oc,od,kV,dc,pm,an,cd,ct,sl,a,l,c,k⟩:=rw_of h hi e
 exact⟨f,_,fun_mk (st:=top i) l c k,W.mg_of X.1 X.2 a⟩
theorem cal_of(hR:RowsE K L)(X:K.In h/\h.Ns zie mg)(ok:∀{f:zht}{fd:zik},Fun K x x (top i) f fd->FnOk P w K mg base CX0 n f fd ps sp)(hi:i∈L:=by decide)(e:fnX (top i)=x:=by rfl)
  (hb:∀(kV dc pm:zhs)(an:Option zht)(cd ct:zhs)(us:List zhs),us.length=ps.length->zmf (W.fnOf x x (qai9 (top i)) (qag9 (top i)) (qab9 (top i)) .none kV dc pm an cd ct) ⟨us,[]⟩=pure (ps.zip us):=by
 intro _ _ _ _ _ _ us hl
 first|(obtain⟨_,rfl⟩:=bl_1 hl;rfl)|(obtain⟨_,_,rfl⟩:=bl_2 hl;rfl)|(obtain⟨_,_,_,rfl⟩:=bl_3 hl;rfl)|(obtain⟨_,_,_,_,_,rfl⟩:=bl_5 hl;rfl)):Callee P w K mg base n x ps sp:=by
 obtain⟨f,fd,F,m⟩:=qmv9 hR X hi e
 exact Callee.mk' (ok F) (F.binds hb) F.kp m
def bltB(K:W.Frag)(l:List Str):Bool:=l.all λ x=>match W.nsIn K zie x with
 |some zhr=>true
 |_=>false
theorem qha9(e:bltB K l=true)(X:K.In h/\h.Ns zie mg)(i:Nat)(hi:i<l.length:=by decide):mg (l[i])=zhr:=by
 have q:=zbl.mp e _ (zbs hi)
 split at q
 ·rename_i z
  exact W.mg_none_of X.1 X.2 z
 ·cases q
end
abbrev NI(K:W.Frag)(x:Str)(f:zht):Prop:=W.nsIn K zie x=zhq (zhq (.ref f))
abbrev LK(K:W.Frag)(f:zht)(x:Str)(st:zhz)(oc:zhs)(od:Option zht)(kV dc pm:zhs)(an:Option zht)(cd ct:zhs)(sl:Array (Option zhs)):Prop:=K.lookup f=zhq ⟨oc,od,.func (W.fnOf x x (qai9 st) (qag9 st) (qab9 st) .none kV dc pm an cd ct),sl⟩
abbrev CI(K:W.Frag)(cd:zhs)(x:Str):Prop:=W.codeIn K cd x=true
abbrev KI(K:W.Frag)(f:zht):Prop:=W.keepIn K (.ref f)=true
theorem all_mk{l:W.OpenLaw}{q:zih}{loose:List Str}{mean:zod->Option zhs}{w:zhy}{K:W.Frag}{h:zic}{mg mb:Str->Option zhs}{fa:zht}(X:K.In h)(G:PyProof.Rows.Top q (W.looseW q loose) mean mg mb h)(hfa:mg "law"=zhq (.ref fa))
  {f22 f23 f24 f43 f44 cDesk  : zht} {od43 an43 od44 an44:Option zht} {sl43 sl44:Array (Option zhs)} {oc43 kV43 dc43 pm43 cd43 ct43 oc44 kV44 dc44 pm44 cd44 ct44:zhs} {tk1 tk2 tk3 tk4 tk5 tk6 tk7 ks0 ks1 ks2 ks3 ks4 ks5 ks6 ks7 ks8 ka0 ka1 ka2 ka3 ka4 ka5 ka6 ka7 ka8 ka9:Tok} {aSh aAn ta0 ta1 ta2 ta3 ta4 ta5 ta6 ta7 ta8:zht} {epS epA:Nat} {aw0 aw1 aw2 aw3 aw4 aw5 aw6:zht} {cNoBoard cNoNet cNoPlace cNoRoad cNoTurn cNoText cNoRow cNoName cNoWindow cFordError:zht} {bmNoText bmNoRow bmNoName bmNoWindow bmFordError:List zhs}
  (a22:NI K "open_row" f22)
  (a23:NI K "shut_row" f23)
  (a24:NI K "net_row" f24)
  (a43:W.findIn K (.ref cDesk) "__init__"=zhq (zhq (.ref f43))) (i43:W.isFn K (.ref f43)=true) (l43:K.lookup f43=zhq ⟨oc43,od43,.func (W.fnOf "__init__" "Desk.__init__" (qai9 qaw9) (qag9 qaw9) (qab9 qaw9) .none kV43 dc43 pm43 an43 cd43 ct43),sl43⟩) (c43:W.codeIn K cd43 "Desk.__init__"=true) (k43:W.keepIn K (.ref f43)=true)
  (a44:W.findIn K (.ref cDesk) "say"=zhq (zhq (.ref f44))) (i44:W.isFn K (.ref f44)=true) (l44:K.lookup f44=zhq ⟨oc44,od44,.func (W.fnOf "say" "Desk.say" (qai9 qbp9) (qag9 qbp9) (qab9 qbp9) .none kV44 dc44 pm44 an44 cd44 ct44),sl44⟩) (c44:W.codeIn K cd44 "Desk.say"=true) (k44:W.keepIn K (.ref f44)=true)
  (hR:RowsE K [12,13,82,83,84,85,86,87,88,89,90,91,92,93,94,100,101,102,103,104,105,118,119,120,121,125,126,127,128,129,130,131,132,133,134,135,136,137,138,139,140,141,142]) (zB:bltB K ["len","max","min","all","any","zip","range","enumerate","isinstance","bool","int","tuple","list","str"]=true) (aCDesk:W.nsIn K zie "Desk"=zhq (zhq (.ref cDesk))) (pgDesk:W.plainGet K cDesk zbr=true) (hdDesk:W.hasDictIn K cDesk=true) (poDesk:W.plainOver K cDesk=true) (saDesk:W.findIn K (.ref cDesk) "__setattr__"=zhq (zhq (.builtin "object.__setattr__"))) (mkDesk:W.makesIn K cDesk=true) (kcDesk:W.keepIn K (.ref cDesk)=true) (nfDesk_day:W.findIn K (.ref cDesk) "day"=zhq zhr) (nfDesk_names:W.findIn K (.ref cDesk) "names"=zhq zhr) (nfDesk_roads:W.findIn K (.ref cDesk) "roads"=zhq zhr) (xg1:W.nsIn K zie "FIGURES"=zhq (zhq (.str "0123456789" tk1))) (xg2:W.nsIn K zie "LETTERS"=zhq (zhq (.str "abcdefghijklmnopqrstuvwxyz" tk2))) (xg3:W.nsIn K zie "MOST_FIGURES_texts"=zhq (zhq (.int 16 tk3))) (xg4:W.nsIn K zie "MOST"=zhq (zhq (.int 1000000000000000 tk4))) (xg5:W.nsIn K zie "MOST_FIGURES_rows"=zhq (zhq (.int 30 tk5))) (xg6:W.nsIn K zie "MOST_TURNS"=zhq (zhq (.int 3 tk6))) (xg7:W.nsIn K zie "MOST_PARTY"=zhq (zhq (.int 6 tk7))) (xa_S:W.nsIn K zie "SHAPES"=zhq (zhq (.ref aSh))) (xa_A:W.nsIn K zie "ANSWERS"=zhq (zhq (.ref aAn))) (xk_S:K.lookup aSh=zhq (kdObj w.params [("soonest",ks0,.ref ta0),("latest",ks1,.ref ta1),("kept",ks2,.ref ta2),("rides",ks3,.ref ta3),("board",ks4,.ref ta4),("longest",ks5,.ref ta5),("open",ks6,.ref ta6),("shut",ks7,.ref ta7),("net",ks8,.ref ta8)] epS)) (xn_S:(aSh==zkm)=false) (xn_A:(aAn==zkm)=false) (xk_A:K.lookup aAn=zhq (kdObj w.params [("soonest",ka0,.ref aw0),("latest",ka1,.ref aw1),("kept",ka2,.ref aw2),("rides",ka3,.ref aw3),("board",ka4,.ref aw4),("longest",ka5,.ref aw5),("meet",ka6,.ref aw6),("open",ka7,.ref f22),("shut",ka8,.ref f23),("net",ka9,.ref f24)] epA)) (xy_0:tupB K ta0 ["name","name","moment"]=true) (xy_1:tupB K ta1 ["name","name","moment"]=true) (xy_2:tupB K ta2 ["name","name","moment","turns"]=true) (xy_3:tupB K ta3 ["name","name","moment"]=true) (xy_4:tupB K ta4 ["name","name"]=true) (xy_5:tupB K ta5 ["name","name"]=true) (xy_6:tupB K ta6 ["road","window"]=true) (xy_7:tupB K ta7 ["road","window"]=true) (xy_8:tupB K ta8 []=true) (xa_NoBoard:W.nsIn K zie "NoBoard"=zhq (zhq (.ref cNoBoard))) (xa_NoNet:W.nsIn K zie "NoNet"=zhq (zhq (.ref cNoNet))) (xa_NoPlace:W.nsIn K zie "NoPlace"=zhq (zhq (.ref cNoPlace))) (xa_NoRoad:W.nsIn K zie "NoRoad"=zhq (zhq (.ref cNoRoad))) (xa_NoTurn:W.nsIn K zie "NoTurn"=zhq (zhq (.ref cNoTurn))) (xa_NoText:W.nsIn K zie "NoText"=zhq (zhq (.ref cNoText))) (xa_NoRow:W.nsIn K zie "NoRow"=zhq (zhq (.ref cNoRow))) (xa_NoName:W.nsIn K zie "NoName"=zhq (zhq (.ref cNoName))) (xa_NoWindow:W.nsIn K zie "NoWindow"=zhq (zhq (.ref cNoWindow))) (xa_FordError:W.nsIn K zie "FordError"=zhq (zhq (.ref cFordError))) (xz_ValueError:W.nsIn K zie "ValueError"=zhq zhr) (xw_NoText:ExC K cNoText bmNoText) (xw_NoRow:ExC K cNoRow bmNoRow) (xw_NoName:ExC K cNoName bmNoName) (xw_NoWindow:ExC K cNoWindow bmNoWindow) (xw_FordError:ExC K cFordError bmFordError) (xb_NoText:(zhs.ref cNoText::bmNoText).contains (.ref cFordError)=true) (xb_NoRow:(zhs.ref cNoRow::bmNoRow).contains (.ref cFordError)=true) (xb_NoName:(zhs.ref cNoName::bmNoName).contains (.ref cFordError)=true) (xb_NoWindow:(zhs.ref cNoWindow::bmNoWindow).contains (.ref cFordError)=true) (xy_NoText:kindB K cNoText [(cNoText,true),(cNoRow,false)]=true) (xy_NoRow:kindB K cNoRow (due85 cNoBoard cNoNet cNoPlace cNoRoad cNoTurn cNoText cNoRow cNoName cNoWindow true false false)=true) (xy_NoName:kindB K cNoName (due85 cNoBoard cNoNet cNoPlace cNoRoad cNoTurn cNoText cNoRow cNoName cNoWindow false true false)=true) (xy_NoWindow:kindB K cNoWindow (due85 cNoBoard cNoNet cNoPlace cNoRoad cNoTurn cNoText cNoRow cNoName cNoWindow false false true)=true)
   :
  ∃(fd:zik) (tabs:List (zht×zht)),(∀(s:zhx)(v:zhs),zjs s fd ⟨[v],[]⟩ [("script",v)])/\(∀t∈tabs,W.CodeHd h t.1 t.2/\h.get? t.2=zhq (W.tabObj #[])/\K.lookup t.2=zhr)/\∀base:zic,K.In base->base.Ns zie mg->BMain mg base->(∀t∈tabs,W.CodeHd base t.1 t.2)->FnOk l.prog w K mg base CX0 10 fa fd ["script"] (spLaw K tabs):=by
 have XG:=And.intro X G.g
 have ClDesk:Cls K cDesk:=⟨pgDesk,hdDesk,poDesk,saDesk⟩
 have mCDesk:=W.mg_of X G.g aCDesk
 obtain⟨f2,fd2,F2,m2⟩:=qmv9 (i:=82) (x := "read_number") hR XG
 obtain⟨f10,fd10,F10,m10⟩:=qmv9 (i:=90) (x := "read_net") hR XG
 obtain⟨z,fd22,F22,m22⟩:=qmv9 (i:=119) (x := "open_row") hR XG
 cases m22.symm.trans (W.mg_of X G.g a22)
 obtain⟨z,fd23,F23,m23⟩:=qmv9 (i:=120) (x := "shut_row") hR XG
 cases m23.symm.trans (W.mg_of X G.g a23)
 obtain⟨z,fd24,F24,m24⟩:=qmv9 (i:=121) (x := "net_row") hR XG
 cases m24.symm.trans (W.mg_of X G.g a24)
 obtain⟨f42,fd42,F42,m42⟩:=qmv9 (i:=142) (x := "law") hR XG
 cases hfa.symm.trans m42
 have F43:=fun_mk (st:=qaw9) l43 c43 k43
 have b43:=F43.binds (ps:=["self","text"]) λ _ _ _ _ _ _ us hl=>by
  obtain⟨_,_,rfl⟩:=bl_2 hl
  rfl
 have me43:Meth K cDesk "__init__" f43:=⟨a43,i43,k43⟩
 have F44:=fun_mk (st:=qbp9) l44 c44 k44
 have b44:=F44.binds (ps:=["self","row"]) λ _ _ _ _ _ _ us hl=>by
  obtain⟨_,_,rfl⟩:=bl_2 hl
  rfl
 have me44:Meth K cDesk "say" f44:=⟨a44,i44,k44⟩
 have B:Bl mg:=⟨qha9 zB XG 0,qha9 zB XG 1,qha9 zB XG 2,qha9 zB XG 3,qha9 zB XG 4,qha9 zB XG 5,qha9 zB XG 6,qha9 zB XG 7,qha9 zB XG 8,qha9 zB XG 9,qha9 zB XG 10,qha9 zB XG 11,qha9 zB XG 12,qha9 zB XG 13⟩
 refine⟨fd42,[],λ s v=>?_,λ t ht=>?_,λ base _ _ hB hT=>?_⟩
 ·obtain⟨_,_,_,_,_,_,_,_,_,e,_⟩:=F42.ex
  rw[e]
  exact .of_eq rfl
 ·cases ht
 have cal {n i x ps sp}:=@cal_of l.prog w base h K mg n i x ps sp _ hR XG
 have Cx0:=cal λ F=>qoy9 (n:=0) F B
 have Cj0:=cal λ F=>qne9 (n:=1) F B Cx0
 have gt:Gt mg tk1 tk2 tk3 tk4:=⟨W.mg_of X G.g xg1,W.mg_of X G.g xg2,W.mg_of X G.g xg3,W.mg_of X G.g xg4⟩
 have gr:Gr mg tk5 tk6 tk7:=⟨W.mg_of X G.g xg5,W.mg_of X G.g xg6,W.mg_of X G.g xg7⟩
 have Ca0:=Callee.mk' (P:=l.prog) (w:=w) (base:=base) (ok_numG (n:=0) gt F2 B) (bndF F2) F2.kp m2
 have Ck1:=Callee.mk' (P:=l.prog) (w:=w) (base:=base) ((ok_numG (n:=0) gt F2 B).imp num_of_R) (bndF F2) F2.kp m2
 have Ce0:=cal λ F=>ok_nameR (n:=0) gt F B
 have Cd0:=cal λ F=>ok_ends (n:=1) F Ce0
 have Co0:=cal λ F=>ok_span (n:=1) gt F Ck1
 have Cb0:=cal λ F=>ok_winR (n:=2) gt F Co0 (Ck1.up (by decide)) Cj0
 have Cq0:=cal λ F=>ok_dayR (n:=1) gt F Ck1
 have Cn0:=cal λ F=>ok_boardR (n:=3) F B Cb0
 have Ch0:=cal λ F=>ok_numOf (n:=0) F
 have Cy0:=Callee.mk' (P:=l.prog) (w:=w) (base:=base) (ok_readL (n:=4) F10 B (Cq0.up (by decide)) (Cd0.up (by decide)) Cn0 (Ch0.up (by decide))) (bndF F10) F10.kp m10
 have Ct0:=cal λ F=>ok_showw (n:=0) F
 have Cu0:=cal λ F=>ok_showb (n:=1) F Ct0
 have Cv0:=cal λ F=>ok_showr (n:=2) F B Cu0
 have Cz0:=cal λ F=>ok_shown (n:=3) F Cv0
 have Ci0:=cal λ F=>ok_momR (n:=1) gr F Ca0
 have Ck0:=cal λ F=>ok_turR (n:=1) gr F Ca0
 have Cl0:=cal λ F=>ok_namesR (n:=2) F Cd0 (Ce0.up (by decide))
 have Cm0:=cal λ F=>ok_valR (n:=3) F (Ci0.up (by decide)) (Ck0.up (by decide)) Cb0
 have kS:KDict K w.params aSh _:=⟨⟨_,xk_S⟩,(by simp only[zbh,zei];decide +kernel),xn_S⟩
 have kA:KDict K w.params aAn _:=⟨⟨_,xk_A⟩,(by simp only[zbh,zei];decide +kernel),xn_A⟩
 have mS:=W.mg_of X G.g xa_S
 have mA:=W.mg_of X G.g xa_A
 have Cp0:=cal λ F=>ok_shape (n:=0) gr kS mS F B
 have Cr0:=cal λ F=>ok_rowR (n:=4) F B (Cp0.up (by decide)) (Cl0.up (by decide)) Cm0
 have DX:DkT K cDesk:=⟨ClDesk,nfDesk_day,nfDesk_names,nfDesk_roads⟩
 have X_NoText:ExC K cNoText bmNoText/\mg "NoText"=zhq (.ref cNoText):=⟨xw_NoText,W.mg_of X G.g xa_NoText⟩
 have X_NoRow:ExC K cNoRow bmNoRow/\mg "NoRow"=zhq (.ref cNoRow):=⟨xw_NoRow,W.mg_of X G.g xa_NoRow⟩
 have X_NoName:ExC K cNoName bmNoName/\mg "NoName"=zhq (.ref cNoName):=⟨xw_NoName,W.mg_of X G.g xa_NoName⟩
 have X_NoWindow:ExC K cNoWindow bmNoWindow/\mg "NoWindow"=zhq (.ref cNoWindow):=⟨xw_NoWindow,W.mg_of X G.g xa_NoWindow⟩
 have X_FordError:ExC K cFordError bmFordError/\mg "FordError"=zhq (.ref cFordError):=⟨xw_FordError,W.mg_of X G.g xa_FordError⟩
 have ms:Mgs mg cNoBoard cNoNet cNoPlace cNoRoad cNoTurn cNoText cNoRow cNoName cNoWindow:=⟨W.mg_none_of X G.g xz_ValueError,W.mg_of X G.g xa_NoBoard,W.mg_of X G.g xa_NoNet,W.mg_of X G.g xa_NoPlace,W.mg_of X G.g xa_NoRoad,W.mg_of X G.g xa_NoTurn,X_NoText.2,X_NoRow.2,X_NoName.2,X_NoWindow.2⟩
 have CF_read_number:=cal λ F=>ok_numF (n:=0) gt F B
 have CF_is_name:=cal λ F=>ok_nameF (n:=0) gt F B
 have CF_read_ends:=cal λ F=>ok_endsF (n:=1) F CF_is_name
 have CF_read_span:=cal λ F=>ok_spanF (n:=1) gt F CF_read_number
 have CF_read_window:=cal λ F=>ok_winF (n:=2) gt F CF_read_span (CF_read_number.up (by decide)) Cj0
 have CF_read_day:=cal λ F=>ok_dayF (n:=1) gt F CF_read_number
 have CF_read_board:=cal λ F=>ok_boardF (n:=3) F B CF_read_window
 have CF_read_moment:=cal λ F=>ok_momF (n:=1) gr F CF_read_number
 have CF_read_turns:=cal λ F=>ok_turF (n:=1) gr F CF_read_number
 have CF_read_names:=cal λ F=>ok_namesF (n:=2) F CF_read_ends (CF_is_name.up (by decide))
 have CF_read_value:=cal λ F=>ok_valF (n:=3) F (CF_read_moment.up (by decide)) (CF_read_turns.up (by decide)) CF_read_window
 have CF_shape_of:=cal λ F=>ok_shapeF (n:=0) gr kS mS (sht_of xy_0 xy_1 xy_2 xy_3 xy_4 xy_5 xy_6 xy_7 xy_8) F B
 have CF_read_row:=cal λ F=>ok_rowF (n:=4) F B (CF_shape_of.up (by decide)) (CF_read_names.up (by decide)) CF_read_value
 have CX_read_net:=CalleeX.mk' (P:=l.prog) (w:=w) (base:=base) (ok_netN (n:=4) X_NoText F10 B (CF_read_day.up (by decide)) (CF_read_ends.up (by decide)) CF_read_board (Ch0.up (by decide))) (bndF F10) F10.kp m10
 have K_Desk:KCal l.prog w K mg base 8 "Desk" cDesk ["self","text"] (spDI (λ _=>True) cDesk):=⟨⟨_,_,⟨mkDesk,a43,i43,kcDesk⟩,(ok_dI (n:=5) DX qqa9 tbi_true ⟨⟨_,_,_,_,_,_,_,_,_,_,rfl,l43,c43⟩⟩ Cy0).mono (by decide),b43⟩,mCDesk⟩
 have KX_Desk:KCalX l.prog w K mg base 6 "Desk" cDesk ["self","text"] (spDIN K cNoText):=⟨⟨_,_,⟨mkDesk,a43,i43,kcDesk⟩,ok_dIN (n:=5) ⟨⟨_,_,_,_,_,_,_,_,_,_,rfl,l43,c43⟩⟩ CX_read_net,b43⟩,mCDesk⟩
 have Cf0:=cal λ F=>ok_boards (n:=0) DX F
 have A1:Ans l.prog w K mg base (CXE l.prog w) 5 ["desk","places","values"] f22 (spOpen (λ _=>True) cDesk):=⟨_,(ok_open (n:=4) qqa9 DX F22 B (Cf0.up (by decide))).toX,(bndF F22),lookF F22⟩
 have A2:Ans l.prog w K mg base (CXE l.prog w) 5 ["desk","places","values"] f23 (spShut (λ _=>True) cDesk cNoWindow):=⟨_,ok_shut (n:=4) qqa9 DX X_NoWindow F23 B (Cf0.up (by decide)),(bndF F23),lookF F23⟩
 have A3:Ans l.prog w K mg base (CXE l.prog w) 5 ["desk","places","values"] f24 (spNetRow cDesk):=⟨_,(ok_netrow (n:=4) DX F24 Cz0).toX,(bndF F24),lookF F24⟩
 have RO:=ro_of kS kA (R:=[⟨"open",ta6,["road","window"],f22,spOpen (λ _=>True) cDesk⟩,⟨"shut",ta7,["road","window"],f23,spShut (λ _=>True) cDesk cNoWindow⟩,⟨"net",ta8,[],f24,spNetRow cDesk⟩]) ⟨λ e he=>by
  simp only[zag,zam,or_false] at he
  rcases he with rfl|rfl|rfl
  ·exact qtn9 (by rfl) xy_6 (show wordB "open"=true by decide +kernel)
  ·exact qtn9 (by rfl) xy_7 (show wordB "shut"=true by decide +kernel)
  ·exact qtn9 (by rfl) xy_8 (show wordB "net"=true by decide +kernel),λ e he=>by
  simp only[zag,zam,or_false] at he
  rcases he with rfl|rfl|rfl<;>rfl⟩
 have GA:∀q∈ansL [(⟨"open",ta6,["road","window"],f22,spOpen (λ _=>True) cDesk⟩:RowE),⟨"shut",ta7,["road","window"],f23,spShut (λ _=>True) cDesk cNoWindow⟩,⟨"net",ta8,[],f24,spNetRow cDesk⟩],Ans l.prog w K mg base (CXE l.prog w) 5 ["desk","places","values"] q.1 q.2:=λ q hq=>by
  simp only[ansL,zbh,zei,zag,zam,or_false] at hq
  rcases hq with rfl|rfl|rfl
  ·exact A1
  ·exact A2
  ·exact A3
 have MX_say:MCalX l.prog w K mg base 6 cDesk "say" ["self","row"] (spOr (spSayE cDesk _) (spSayN K cDesk cNoRow cNoName)):=⟨⟨_,_,FnOk_or (ok_sayE (n:=5) DX RO kA mA F44 B Cr0 GA) (ok_sayN (n:=5) DX kA mA X_NoRow X_NoName F44 B CF_read_row GA),b44,me44⟩,ClDesk⟩
 have Cs0:=cal λ F=>ok_cell (n:=0) F B
 have Cd2:=cal λ F=>ok_dayB (n:=0) F
 have Cr1:=cal λ F=>ok_stay (n:=0) F B
 have Cs1:=cal λ F=>ok_ride70 (n:=0) F B
 have Cl1:=cal λ F=>qtm9 (n:=1) F B Cs0 Cr1 Cs1
 have Ct1:=cal λ F=>ok_word8 (n:=0) F B
 have Cm1:=cal λ F=>ok_words8 (n:=1) F B Cs0 Ct1
 have Ca1:=cal λ F=>ok_shown8 (n:=0) F B
 have Cu1:=cal λ F=>ok_text8 (n:=1) F B Ca1
 have Cn1:=cal λ F=>ok_order8 (n:=0) F
 have Cb1:=cal λ F=>ok_saidF (n:=6) ms X_FordError (sd_of xy_NoRow xy_NoName xy_NoWindow xw_NoRow xw_NoName xw_NoWindow xb_NoRow xb_NoName xb_NoWindow) F B MX_say
 have Cg1:=cal λ F=>ok_nodesk (n:=6) ms X_FordError xw_NoText xb_NoText (kd_of xy_NoText) F B KX_Desk
 have Cc1:=cal λ F=>qrs9 (n:=8) F Cg1
 have Ch1:=cal λ F=>ok_norows (n:=0) F B
 have Cd1:=cal λ F=>qte9 (n:=0) F B
 have Cv1:=cal λ F=>ok_free (n:=0) F B
 have Cw1:=cal λ F=>ok_lshut (n:=7) ⟨zan,rfl,rfl,rfl⟩ ⟨zal _ zan,rfl,rfl,rfl⟩ ⟨zal _ (zal _ zan),rfl,rfl,rfl⟩ F Cb1
 exact ok_law (n:=8) ⟨zal _ (zal _ zan),rfl,rfl,rfl⟩ F42 B (Cs0.up (by decide)) (Cd2.up (by decide)) (Cl1.up (by decide)) (Cm1.up (by decide)) (Cn1.up (by decide)) (Cu1.up (by decide)) Cc1 K_Desk (Ch1.up (by decide)) (Cd1.up (by decide)) (Cb1.up (by decide)) (Cv1.up (by decide)) (Ca1.up (by decide)) (Cw1.up (by decide))
theorem walk{l:W.OpenLaw}{q:zih}{loose:List Str}{XP:(Str->Option zhs)->zic->Prop}{YP:zhy->zic->Prop}{d:znu}{K:zis->W.Frag}(hn:l.most=zhq 63)(hdf:d.params.defaults=[])
  (hY:∀(w:zhy)(h:zic),YP w h->(K w.params).In h)
  (F:∀(w:zhy)(mg mb:Str->Option zhs)(mean:zod->Option zhs)(fa:zht)(h:zic),(K w.params).In h->PyProof.Rows.Top q (W.looseW q loose) mean mg mb h->mg d.name=zhq (.ref fa) ->
   ∃(fd:zik) (tabs:List (zht×zht)),(∀(s:zhx)(u:zhs),zjs s fd ⟨[u],[]⟩ [("script",u)])/\(∀t∈tabs,W.CodeHd h t.1 t.2/\h.get? t.2=zhq (W.tabObj #[])/\(K w.params).lookup t.2=zhr) /\
    ∀base:zic,(K w.params).In base->base.Ns zie mg->BMain mg base->(∀t∈tabs,W.CodeHd base t.1 t.2)->FnOk l.prog w (K w.params) mg base CX0 10 fa fd ["script"] (spLaw (K w.params) tabs)) :
  W.WalkO q loose XP YP l.row.toRowW d [] (λ f vs=>PySem.call f vs) :=
 L2.walk_ofT (n:=63) (k:=10) (x := "script") (sp:=spLaw) hn (by decide) hdf ⟨rfl,by decide,by decide⟩ hY F (λ K tabs H a ns hl hT hS=>⟨a,ns,rfl,hS,hl,hT,λ _=>rfl⟩)
end My
open PySem PySem.W PyProof.Rows
set_option maxRecDepth 100000 in
set_option maxHeartbeats 0 in
theorem PySem.Challenge.cw_fordbook_k85_rows_refused_holds : PySem.Challenge.rw_fordbook_k85_rows_refused.Holds := by
 w_on
 refine W.holds_law My.k_ws λ said=>?_
 refine W.holds_open (q:=My.view) (loose:=My.lO) (Xt:=My.xT) (XP:=W.XL My.view []) (YP:=W.Hook.says (W.kmHook My.KK My.kAs My.k_as [387,415,220,302,366,206])) My.k_left (W.Hook.of My.hK) (W.Hook.keeps My.hK)
  (λ s e=>W.xl_of s (zbt.mp e).1) W.XL.keeps (by rfl) (by rfl) (by rfl) (λ s e=>W.recFacts_of (zbt.mp e).2) (by rfl) (by assumption) (by decide +kernel) ⟨rfl,rfl,rfl,rfl,rfl,by decide +kernel⟩ ?hw ?hc
 case hw=>w_witness2
 k_fill
 refine My.walk (l:=PySem.Challenge.rw_fordbook_k85_rows_refused) rfl rfl (λ w h Y=>W.km_in_of Y) ?F
 case F =>
  intro w mg mb mean fa h KX G hmg
  refine' My.all_mk KX G hmg ?a22 ?a23 ?a24 ?a43 ?i43 ?l43 ?c43 ?k43 ?a44 ?i44 ?l44 ?c44 ?k44 ?hR ?zB ?aCDesk ?pgDesk ?hdDesk ?poDesk ?saDesk ?mkDesk ?kcDesk ?nfDesk_day ?nfDesk_names ?nfDesk_roads ?xg1 ?xg2 ?xg3 ?xg4 ?xg5 ?xg6 ?xg7 ?xa_S ?xa_A ?xk_S ?xn_S ?xn_A ?xk_A ?xy_0 ?xy_1 ?xy_2 ?xy_3 ?xy_4 ?xy_5 ?xy_6 ?xy_7 ?xy_8 ?xa_NoBoard ?xa_NoNet ?xa_NoPlace ?xa_NoRoad ?xa_NoTurn ?xa_NoText ?xa_NoRow ?xa_NoName ?xa_NoWindow ?xa_FordError ?xz_ValueError ?xw_NoText ?xw_NoRow ?xw_NoName ?xw_NoWindow ?xw_FordError ?xb_NoText ?xb_NoRow ?xb_NoName ?xb_NoWindow ?xy_NoText ?xy_NoRow ?xy_NoName ?xy_NoWindow
  (case aCDesk=>k_is)
  (case a22|a23|a24|a43=>(try unfold My.NI);(try unfold My.LK);(try unfold My.CI);(try unfold My.KI);k_is)
  (case i43=>k_is)
  (case l43|c43|k43|a44=>(try unfold My.NI);(try unfold My.LK);(try unfold My.CI);(try unfold My.KI);k_is)
  (case i44=>k_is)
  (case l44|c44|k44=>(try unfold My.NI);(try unfold My.LK);(try unfold My.CI);(try unfold My.KI);k_is)
  (case hR|zB=>kernel_rfl)
  (case pgDesk|hdDesk|poDesk|saDesk|mkDesk|kcDesk|nfDesk_day|nfDesk_names|nfDesk_roads|xg1|xg2|xg3|xg4|xg5|xg6|xg7|xa_S|xa_A|xk_S=>k_is)
  (case xn_S|xn_A=>first|rfl|decide +kernel)
  (case xk_A=>k_is)
  (case xy_0|xy_1|xy_2|xy_3|xy_4|xy_5|xy_6|xy_7|xy_8=>kernel_rfl)
  (case xa_NoBoard|xa_NoNet|xa_NoPlace|xa_NoRoad|xa_NoTurn|xa_NoText|xa_NoRow|xa_NoName|xa_NoWindow|xa_FordError|xz_ValueError=>k_is)
  (case xw_NoText|xw_NoRow|xw_NoName|xw_NoWindow|xw_FordError=>(refine' L2.exc_of ?a ?b ?c;(case a=>k_is);(case b=>k_exc);(case c=>first|rfl|decide +kernel)))
  (case xb_NoText|xb_NoRow|xb_NoName|xb_NoWindow=>first|rfl|decide +kernel)
  (case xy_NoText|xy_NoRow|xy_NoName|xy_NoWindow=>kernel_rfl)
