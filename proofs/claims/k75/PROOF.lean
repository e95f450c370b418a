import PyProof.Rows.All
import Wide.All
import OpenK.AllK
import Wide.FinOn
import Lean
import PyProof.EqAt
import PyProof.EqKinds
import PyProof.TupleCall
import PyProof.StationsW
import PySem.Syntax
import KE.KLam
import PyProof.StrBlockH
import KE.KRevIter
import PyProof.JoinWalk
import PyProof.CollectIter
import PyProof.StrCalls
import PyProof.DictStraight
import PyProof.Rows.Range3
import PyProof.StrWalks
import PyProof.LongRange
import KE.KTryMore
import KE.KItem
import PyProof.NsDelKeeps
import PyProof.DictTable
import PyProof.WalkInts
import PyProof.Rows.SortStr
import PyProof.Rows.SortWalk
import PyProof.EnumMake
import PyProof.EnumFor
import KE.KRevSl
import PyProof.Rows.StrNews
import KE.KMinBuiltin
import KE.KSortKey
import PyProof.ZipIter
import PyProof.ExcInit
import PyProof.ExcClass2
import PyProof.InstStoreFacts
import PyProof.FString
import KE.LcSums
import PySem.Challenge.RW_namehouses_k75_each_kind_of_pair
set_option Elab.async false
open List renaming getElem?_eq_some_iff→z7v,length_map→z7B,mem_singleton→z7C,getElem?_append_left→z7F,mem_append→z7H,mem_append_right→z7J,getElem?_append_right→z7L,size_toArray→z7M,mem_cons_of_mem→z7O,mem_of_getElem?→z7P,mem_append_left→z7S,length_cons→z7X,mem_cons_self→z7Z,getElem?_set_ne→z81,map_cons→z82,getElem?_map→z83,map_append→z86,getElem?_eq_getElem→z87,mem_cons→z88,length_append→z8b,lookup_cons→z8c,all_eq_true→z8j,mem_map→z8n,append_nil→z8o,take_of_length_le→z8q,length_take→z8r,filterMap_eq_map'→z8w,drop_eq_getElem_cons→z8x,range→z8y,filterMap_cons→z8z,all_cons→z8B,mem_filter→z8C,getElem?_take→z8L,length_nil→z8S,any_cons→z91,rec→z9c,mem_of_mem_take→z9d,take_add_one→z9f,map_map→z9g,pairwise_map→z9h,getElem?_replicate→z9p,lookup→z9q,mem_filterMap→z9w,find?_cons→z9A,mem_iff_getElem?→z9D,contains_iff_mem→z9E,set_append_right→z9F,mem_range→z9J,replicate→z9L,take_length→z9V,filterMap_cons_none→za5,filterMap_cons_some→za6,zip_cons_cons→zaa,getElem?_set_self'→zaf,getElem?_cons_succ→zag,getElem?_set_self→zaj,nodup_append→zan,getElem?_eq_none→zat,length_drop→zax,cons_append→zaz,mem_of_mem_drop→zaD,nodup_cons→zaE,all_map→zaJ,getElem?_eq_none_iff→zaZ,pairwise_iff_getElem→za_,getElem_inj→zbm,getElem?_cons_zero→zbr,drop_length→zbv,nil_sublist→zby,pairwise_lt_range→zbN,of_mem_zip→zbR,forIn_cons→zbT,length_replicate→zbV,mem_iff_getElem→zc7,map_congr_left→zcf,map_take→zcn,zip_nil_right→zcs,any_eq_false→zcG,take_sublist→zcL,zip_nil_left→zcM,map_nil→zcR,ext_getElem→zda,nil_append→zdi,length_zip→zdk,map_drop→zen,length→zeE
open PySem renaming wpAny_bind→z7w,Shared→z7y,wpAny_pure→z7G,wpAny→z7K,model→z7N,mainGlobals→z7U,Around→z89,wpAny_truthy_bool→z8a,Program→z8e,wpAny_holding→z8f,compareOp→z8h,wpAny_mono→z8i,starEach→z8l,World→z8s,wpAny_Call_Name_kw→z8t,rawInt→z8v,foldedSetIterable→z8G,relabel→z8N,FuncData→z8O,mem_of_lookup→z8V,bootBuiltins→z8W,CmpOp→z8_,sizeLine_eq→z90,wpAny_passesOwn→z96,binaryOp→z97,wpAny_field→z99,wpAny_newObj_type→z9a,codeAny_mono→z9b,assignEach→z9j,keywordEach→z9r,sysModules→z9u,backTo→z9v,tupleKind_room_in1→z9z,wpAny_standAt→z9B,attributeBase→z9C,wpAny_newFunctionEnv_cells→z9M,sliceBounds→z9N,compEnvC→z9O,codeAny→z9S,Keyword→z9U,ExceptHandler→za4,letOwnedTupleGo→za7,wpAny_call→zab,codeAmong→zae,wpAny_isTrue_Compare1→zas,swapsWith→zaw,getItem→zaA,backToKw→zaB,wpAny_loadPart'→zaF,TriplesOk→zaL,NameKind→zaQ,Model→zb2,BindsTo→zb4,wpAny_pyIter_list→zb7,assign→zb9,swapsWithSole→zba,swappedStores→zbb,wpAny_getItem_list_slice→zbe,wpAny_attempt→zbf,comprehension→zbg,methodCallPos→zbi,tupleKind→zbl,bindArgs→zbn,noFill_tuple_add→zbo,wpAny_callSpecial?_slot→zbp,setFlight→zbq,wpAny_comp_letGo→zbu,Paired→zbC,builtinsNs→zbD,richCompare_meets_room→zbG,IsPart→zbH,wpAny_execs_nil→zbP,subscripted→zc1,wpAny_setField→zc2,wpAny_Compare1→zc4,wpAny_of_eq→zc5,PassesOwn→zcb,valueAt→zcc,behindInMarks→zcj,seq_tuple_add→zck,evalPart_none→zcl,wpAny_rule→zcz,closureFor→zcA,methodCall→zcC,Within→zcF,concat_meets→zcN,wpAny_sequenceKey→zcP,wpAny_typeOf→zcQ,slot_list_getitem→zcS,wpAny_forIn_list→zd4,wpAny_call_entry→zd5,slicePick→zd7,noteFrame→zd8,excClassObj→zdd,atKey→zde,getAttrByItsOwn→zdh,holding→zdo,Builtin→zdp,callerA→zdq,notedBy→zdr,wpAny_Name→zds,bindL→zdw,bindC→zdx,typeLookup→zdy,typeIs_str→zdA,call_meets→zdB,Operator→zdE,cStatics→zdK,getMethod→zeo,cellsFrom→zep,seqItems?→zeq,passOn→zey,call→zeP
open Bool renaming and_eq_true→z7x,false_ne_true→z7_,not_eq_true'→z9e,eq_iff_iff→za8,false_eq_true→zac,or_eq_true→zaH,and_false→zc3,decide_and→zdm,false_and→zdt,rec→zdD,and_true→zek
open PySem.Heap renaming get?_push_of_some→z7z,lt_size→z7T,get?_push_size→z7W,SameBut→z8p,get?_update_other→z8X,size_push→z92,get?_none_of_le→z9K,get?_update_self→zbW,get?_push_ne→zcY,size_update→zd9,MadeExcOf→zdC
open Option.some renaming inj→z7A,injEq→zcW
open Nat renaming le_refl→z7D,lt_of_lt_of_le→z7I,le_trans→z7V,ne_of_lt→z85,lt_succ_self→z8J,lt_irrefl→z8M,zero_le→z98,beq→z9H,lt_succ_of_lt→z9I,ne_of_gt→z9Q,le_of_eq→z9T,lt_of_le_of_lt→zaW,le_succ→zb6,le_of_lt→zbE,eq_of_beq_eq_true→zbY,min_self→zcX,not_lt_zero→zdn,rec→zet,ble→zeu,lt_or_ge→zex
open PySem.W renaming Frag→z7E,findIn→z84,emptyDict→z8A,kla_obj→z8E,instObj→z8R,plainGet_of→z9n,keepIn→z9o,fnOf→z9x,callWith_K→z9y,hasDictIn→z9G,plainGet→z9R,callWith_K0→z9X,mroIn→za2,excIn→za3,specialIn→zam,kla_fn→zao,takesIn→zaG,lookIn→zaP,codeIn→zaR,CodeHd→zaU,kitOne→zaV,tabObj→zaY,methodObj→zb0,plainOver→zb3,mg_of→zbz,cellsFrom_some→zbF,nsIn→zbK,KitX→zbL,takerIn→zbQ,kitAny→zc6,exmOne→zc8,kla_callFunE→zc9,kla_codeExpr→zca,mg_none_of→zcB,isFn→zcH,FnAt→zcT,kitx_list→zcU,kitx_dict→zcV,handedIn→zd3,codeHdIn→zdb,makesIn→zdf,binds_K→zdl,typeIn→zdv,clsIn→zel,OpenLaw→zes
open Int renaming emod_nonneg→z7Q,emod_lt_of_pos→z7R,mul_le_mul_of_nonneg_right→z7Y,mul_ediv_add_emod→z8m,le_refl→z8u,mul_nonneg→z8P,mul_comm→z9i,add_mul→z9s,one_mul→z9t,ediv_emod_unique→z9P,ediv_nonneg→za9,add_mul_ediv_right→zap,ediv_eq_zero_of_lt→zaq,ediv_lt_of_lt_mul→zav,fdiv_eq_ediv_of_nonneg→zaO,add_comm→zbO,ediv_mul_add_emod→zbZ,ediv_one→zcO,lt_trichotomy→zd1,ediv_le_ediv→zdc,le_of_lt→zez
open PySem.Value renaming ref→z80,none→z8F,bool→zaM,int→zbk,notImplemented→zb_,str→zd2,isStrOf→zdY,isInt→zeA,bytes→zeB,float→zeC,type→zeM
open False renaming elim→z8d
open PySem.Obj renaming mapSeq→z8g,mapFields→za1,isFreed_of_fields→zbX,data_mapFields→zcw
open PyProof.Rows renaming seqObj→z8k,IntsAre→z8D,slot_tuple_getitem→z8H,callWith_builtin1→z8K,callWith_type1→z8Y,envOfC→zak,AllBare→zb1,subscriptTail→zbd,listUpdate_at→zbj,subscriptTail_builtinR→zbI,get?_update_seq→zbU,entry_tuple_getitem→zcd,arrOf→zcm,args_tuple_getitem→zct,Subscript_→zcu,IsTup→zcE,boot_range→zdH,lt_int→zeI,le_int→zeL
open True renaming intro→z8I
open PySem.Builtin.Str renaming occurrences→z8Q
open ForInStep renaming yield→z8T
open Array renaming length_toList→z8U,getElem?_eq_some_iff→z94,toList_append→zcg,forIn_toList→zcD,size_zip→zdJ,toList→zer
open Option renaming map_eq_some_iff→z8Z,isSome_iff_exists→z9k,bind_some→zay,isSome_map→zb8,getD_some→zbs,bind_eq_some_iff→zbw,getD_none→zd6
open PySem.SeqAt renaming EqAt→z93,RcAt→zcx,RcNeAt→zew
open PySem.Builtin.Slice renaming slicePlaces→z95,sliceAdjust→z9W,sliceApplied→zaS,slicePartIndex→zdg,sliceFields→zdW
open PySem.Builtin.Tuple renaming tupleExact→z9l,tupleCompareSizes→zar,tupleItemsOf→zaT,tupleIsExact→zdG
open Ne renaming symm→z9m
open PySem.Heap.SameBut renaming update→z9Y
open PySem.F renaming args_tuple_add_2→z9Z,entry_tuple_add→zad,plainAttrs_list→zah,slot_tuple_add→zal,slot_dict_get→zau,excBase_ValueError→zaX,attr_ValueError→zbt,args_dict_get_2→zbx,entry_dict_get→zbM
open PySem.Builtin.List renaming listTooLong→z9_,listFitsIndex→zdI
open PySem.Builtin.Range renaming rangeSize→zai,small→zeK
open PySem.Calls renaming evalArgs_plain→zaC,Name_function_global→zaN,callWith_builtin→zbJ,spliced_cons→zcq,spliced_nil→zcK
open PySem.Str renaming ofString→zaI,length→zdz
open PySem.Builtin.ObjectAttr renaming attrName→zaK,bindTo→zdX
open Function renaming comp_def→zb5
open PySem.AutoSeq1 renaming sub_tuple_tuple→zbc
open PySem.NameKind renaming free→zbh
open Sum renaming inl→zbA,inr→zbB
open PySem.SeqAt.EqAt renaming same→zbS,int_str→zco,str_int→zcp,int_int→zcr,of_refs→zcy
open PySem.EntryCells renaming newEntry→zce
open List.Sublist renaming append→zch,refl→zcZ
open PySem.Paired renaming length→zci,snoc→zeH
open PySem.Heap.IsSliceOf renaming new→zcv
open PySem.Around renaming under→zcI
open PySem.Code renaming isFrame→zcJ,frames→zeD
open List.Pairwise renaming imp→zc_,imp_of_mem→zem,nil→zeT
open Nat.succ renaming inj→zd0
open Array.Perm renaming refl→zdj
open PySem.Builtin renaming bitAnd→zdu
open PySem.SeqAt.RcNeAt renaming lists_lengths→zdF,tuples→zeJ,lists→zeQ
open PySem.Value.type renaming inj→zdL
open PySem.EqNone renaming eq_none_none→zdM,eq_none_bool→zdN,eq_bool_none→zdO,ne_none_none→zdR,ne_none_bool→zdS,ne_bool_none→zdT,eq_none_int→zdZ,eq_none_str→zd_,eq_int_none→zea,eq_str_none→zec,ne_none_int→zee,ne_none_str→zef,ne_int_none→zeg,ne_str_none→zei
open PySem.EqMixed renaming eq_bool_str→zdP,eq_str_bool→zdQ,ne_bool_str→zdU,ne_str_bool→zdV,eq_int_str→zeb,eq_str_int→zed,ne_int_str→zeh,ne_str_int→zej
open PySem.Data renaming fields→zeF
open PySem.IsRange renaming new→zeG
open PySem.W.Looks renaming here→zeN,ld→zeW
open PySem.W.WShape renaming has→zeO
open PyProof.Rows.SortSt renaming mk'→zeR
open PySem.Within renaming cons→zeS
open PyProof.Rows.IsTup renaming new→zeU
open PySem.W.WData renaming int→zeV
open PySem.Heap.DictOf renaming new→zeX
set_option linter.all false
set_option maxRecDepth 100000
set_option maxHeartbeats 4000000
set_option bootstrap.genMatcherCode false
noncomputable section
namespace PySem.W.Fast
theorem tw6197139610709994942:True:=⟨⟩
theorem tw11830696601653039579:True:=⟨⟩
theorem tw5915602443078922716:True:=⟨⟩
theorem tw4198232930551930355:True:=⟨⟩
theorem tw14317735099094339856:True:=⟨⟩
theorem tw12576444967733328594:True:=⟨⟩
theorem tw5785034721372338960:True:=⟨⟩
theorem tw10989425854862007746:True:=⟨⟩
theorem tw714374090089232161:True:=⟨⟩
theorem tw12825182119995276228:True:=⟨⟩
theorem tw7688744263345969735:True:=⟨⟩
theorem tw2424798376025671305:True:=⟨⟩
theorem tw2469779710411223343:True:=⟨⟩
theorem tw6515542982589809555:True:=⟨⟩
theorem tw14068510918915944973:True:=⟨⟩
theorem tw12674693451156936500:True:=⟨⟩
theorem tw5491821822685877363:True:=⟨⟩
theorem tw10971655856986640082:True:=⟨⟩
theorem tw16928191211759844528:True:=⟨⟩
theorem tw6750188514632208118:True:=⟨⟩
theorem tw6959294951237619208:True:=⟨⟩
theorem tw5785741024357443043:True:=⟨⟩
theorem tw9579139035945109162:True:=⟨⟩
theorem tw2229645289805453678:True:=⟨⟩
theorem tw2635213710794582860:True:=⟨⟩
theorem tw12759857622726559341:True:=⟨⟩
theorem tw5197466647843918897:True:=⟨⟩
theorem tw14437260973767345187:True:=⟨⟩
theorem tw11089515209887509047:True:=⟨⟩
theorem tw5156684318505081769:True:=⟨⟩
theorem tw2681032773298128620:True:=⟨⟩
theorem tw9152887138194964974:True:=⟨⟩
theorem tw8643301610596147360:True:=⟨⟩
theorem tw12665452633465785689:True:=⟨⟩
theorem tw4539438491005524186:True:=⟨⟩
theorem tw15986677698476887301:True:=⟨⟩
theorem tw15337882419700641857:True:=⟨⟩
theorem tw16853950829646838964:True:=⟨⟩
theorem tw15393422238599936856:True:=⟨⟩
theorem tw13223211120126439141:True:=⟨⟩
theorem tw4719884328792256871:True:=⟨⟩
theorem tw2127652231075587310:True:=⟨⟩
theorem tw10151723490098370601:True:=⟨⟩
theorem tw6236324089320451375:True:=⟨⟩
theorem tw5502647214176962513:True:=⟨⟩
theorem tw15280413463017803867:True:=⟨⟩
theorem tw16644882957842598069:True:=⟨⟩
theorem tw12861115529325959304:True:=⟨⟩
theorem tw3944974133542420924:True:=⟨⟩
theorem tw14740156915290502613:True:=⟨⟩
theorem tw9526785723265090326:True:=⟨⟩
theorem tw8570617007425758645:True:=⟨⟩
theorem tw6226007951565591558:True:=⟨⟩
theorem tw8831777786908320881:True:=⟨⟩
theorem tw11194824480049384880:True:=⟨⟩
theorem tw3247754047329909541:True:=⟨⟩
theorem tw9785470305796802471:True:=⟨⟩
theorem tw9939007895562101745:True:=⟨⟩
theorem tw15263877737888965611:True:=⟨⟩
theorem tw3236129926867427207:True:=⟨⟩
theorem tw17665445711988868355:True:=⟨⟩
theorem tw8179792921129566217:True:=⟨⟩
theorem tw10851893646453869272:True:=⟨⟩
theorem tw5289821546510904668:True:=⟨⟩
theorem tw16952435200968992199:True:=⟨⟩
theorem tw12251672310458124820:True:=⟨⟩
theorem tw5539377283015986397:True:=⟨⟩
theorem tw13532206651314904967:True:=⟨⟩
theorem tw15163074636952670787:True:=⟨⟩
theorem tw9578964891336859025:True:=⟨⟩
theorem tw13440779036647713875:True:=⟨⟩
theorem tw12520661143206145251:True:=⟨⟩
theorem tw14567701400676785858:True:=⟨⟩
theorem tw4080643328045294743:True:=⟨⟩
theorem tw16546252142533964015:True:=⟨⟩
theorem tw18099831465793816994:True:=⟨⟩
theorem tw7538673336538632920:True:=⟨⟩
theorem tw16919496051216376365:True:=⟨⟩
theorem tw6355324564511570276:True:=⟨⟩
theorem tw4591692677988907254:True:=⟨⟩
theorem tw14885316332044410863:True:=⟨⟩
theorem tw17964057675258780448:True:=⟨⟩
theorem tw8277038527685608316:True:=⟨⟩
theorem tw14793679674477470193:True:=⟨⟩
theorem tw17651019213826956909:True:=⟨⟩
theorem tw7663936406224813716:True:=⟨⟩
theorem tw3346564951657744911:True:=⟨⟩
theorem tw13563765861701735187:True:=⟨⟩
theorem tw5354393051466621257:True:=⟨⟩
theorem tw17130476145924773271:True:=⟨⟩
theorem tw1132160905269657634:True:=⟨⟩
theorem tw10023603107999374097:True:=⟨⟩
theorem tw10263162665455053089:True:=⟨⟩
theorem tw8015844128892948918:True:=⟨⟩
theorem tw14862770474218328021:True:=⟨⟩
theorem tw14632069066052722705:True:=⟨⟩
theorem tw5847052824836228725:True:=⟨⟩
theorem tw7610907658878791545:True:=⟨⟩
theorem tw15435105041282622220:True:=⟨⟩
theorem tw7962520482337010332:True:=⟨⟩
theorem tw2171430144798445242:True:=⟨⟩
theorem tw3788807908560007541:True:=⟨⟩
theorem tw2229176668325780931:True:=⟨⟩
theorem tw10168854636085066467:True:=⟨⟩
theorem tw146585258138664936:True:=⟨⟩
theorem tw4320759810121128179:True:=⟨⟩
theorem tw13015498279216015879:True:=⟨⟩
theorem tw8279235977047475726:True:=⟨⟩
theorem tw142372741255630140:True:=⟨⟩
theorem tw5361528338385662222:True:=⟨⟩
theorem tw7086909371920828920:True:=⟨⟩
theorem tw4507046666061310195:True:=⟨⟩
theorem tw1449889585995535050:True:=⟨⟩
theorem tw12208966025303924369:True:=⟨⟩
theorem tw1968226579721001340:True:=⟨⟩
theorem tw10322652836241761549:True:=⟨⟩
theorem tw12863372326103526495:True:=⟨⟩
theorem tw13265875363054511442:True:=⟨⟩
theorem tw15206292657145019992:True:=⟨⟩
theorem tw5024617242186146707:True:=⟨⟩
theorem tw12088194811007226308:True:=⟨⟩
theorem tw11166333358368490075:True:=⟨⟩
theorem tw18169575495283438314:True:=⟨⟩
theorem tw15313200231582528200:True:=⟨⟩
theorem tw17746020120749942424:True:=⟨⟩
theorem tw4941905674593202046:True:=⟨⟩
theorem tw11672440506025411094:True:=⟨⟩
theorem tw10674160757276710367:True:=⟨⟩
theorem tw8267126031549040395:True:=⟨⟩
theorem tw4623334902750463361:True:=⟨⟩
theorem tw11645045755658032533:True:=⟨⟩
theorem tw4563820755236342022:True:=⟨⟩
theorem tw9797670712981107738:True:=⟨⟩
theorem tw17672138810231720485:True:=⟨⟩
theorem tw13227637325623887668:True:=⟨⟩
theorem tw13858677204043182853:True:=⟨⟩
theorem tw1157046181713704511:True:=⟨⟩
theorem tw2483355249904523037:True:=⟨⟩
theorem tw9995054607194046319:True:=⟨⟩
theorem tw14852407888647578122:True:=⟨⟩
theorem tw15592332153347627633:True:=⟨⟩
theorem tw17738732535959196592:True:=⟨⟩
theorem tw11334632820187381441:True:=⟨⟩
theorem tw2601696138282264639:True:=⟨⟩
theorem tw3984861258223923204:True:=⟨⟩
theorem tw16032771613311315830:True:=⟨⟩
theorem tw12569717812265413341:True:=⟨⟩
theorem tw2275145242551710623:True:=⟨⟩
theorem tw9828118847212497729:True:=⟨⟩
theorem tw6759313651217999953:True:=⟨⟩
theorem tw17176305720225481380:True:=⟨⟩
theorem tw13970826170590498885:True:=⟨⟩
theorem tw7550415869240421648:True:=⟨⟩
theorem tw17793739298154157554:True:=⟨⟩
theorem tw13456272024141725192:True:=⟨⟩
theorem tw13725429476317061037:True:=⟨⟩
theorem tw481187071615522056:True:=⟨⟩
theorem tw15764048409865777765:True:=⟨⟩
theorem tw8088931103991174575:True:=⟨⟩
theorem tw2482848415228739791:True:=⟨⟩
theorem tw4504073967854020936:True:=⟨⟩
theorem tw4744645300056590777:True:=⟨⟩
theorem tw5622214227315751857:True:=⟨⟩
theorem tw1674213934633371414:True:=⟨⟩
theorem tw17116947676330953103:True:=⟨⟩
theorem tw1551045646951719158:True:=⟨⟩
theorem tw5787819735381186629:True:=⟨⟩
theorem tw14680042082024495763:True:=⟨⟩
theorem tw2867188576210022801:True:=⟨⟩
theorem tw3554001869857657047:True:=⟨⟩
theorem tw128330676303085793:True:=⟨⟩
theorem tw1709207989622968851:True:=⟨⟩
theorem tw10333659825559001719:True:=⟨⟩
theorem tw6678684391831362842:True:=⟨⟩
theorem tw10104589571653925173:True:=⟨⟩
theorem tw14131806234112083096:True:=⟨⟩
theorem tw3382471513404378256:True:=⟨⟩
theorem tw14429897148985865883:True:=⟨⟩
theorem tw1091142378311979898:True:=⟨⟩
theorem tw8616176278984567507:True:=⟨⟩
theorem tw2522174156473799192:True:=⟨⟩
theorem tw5951271107823170134:True:=⟨⟩
theorem tw14184243980216898600:True:=⟨⟩
theorem tw16293942953373486608:True:=⟨⟩
theorem tw5955773553595490370:True:=⟨⟩
theorem tw240058043279057987:True:=⟨⟩
theorem tw6727616080473943118:True:=⟨⟩
theorem tw8822697894870020340:True:=⟨⟩
theorem tw2106810007667232758:True:=⟨⟩
theorem tw8711014919488196655:True:=⟨⟩
theorem tw13797949987708574216:True:=⟨⟩
theorem tw16091446846542104894:True:=⟨⟩
theorem tw13435097512777267569:True:=⟨⟩
theorem tw9880946083975691222:True:=⟨⟩
theorem tw15535511021621128492:True:=⟨⟩
theorem tw12880776716228866408:True:=⟨⟩
theorem tw4711042528559722690:True:=⟨⟩
theorem tw8818857227190277999:True:=⟨⟩
theorem tw16218290692224225013:True:=⟨⟩
theorem tw11722270802820301622:True:=⟨⟩
theorem tw7193461144550674886:True:=⟨⟩
theorem tw12857707245519187225:True:=⟨⟩
theorem tw3384133417357750152:True:=⟨⟩
theorem tw6704293259798299363:True:=⟨⟩
theorem tw10847619224634276709:True:=⟨⟩
theorem tw2656284232561380744:True:=⟨⟩
theorem tw1511430914468413142:True:=⟨⟩
theorem tw8263977826974478780:True:=⟨⟩
theorem tw2858236131050902524:True:=⟨⟩
theorem tw16108496538821815809:True:=⟨⟩
theorem tw7670357569450052637:True:=⟨⟩
theorem tw9860897423650653058:True:=⟨⟩
theorem tw10444641442517961777:True:=⟨⟩
theorem tw16127192479862747787:True:=⟨⟩
theorem tw7515564256604716926:True:=⟨⟩
theorem tw10213089223850050361:True:=⟨⟩
theorem tw11712308263259413731:True:=⟨⟩
theorem tw8592232639367934427:True:=⟨⟩
theorem tw5818334693425640685:True:=⟨⟩
theorem tw3097016828507174336:True:=⟨⟩
theorem tw14007271170572025802:True:=⟨⟩
theorem tw4078636986588867729:True:=⟨⟩
theorem tw7158692614475511212:True:=⟨⟩
theorem tw7429377307672903919:True:=⟨⟩
theorem tw14158819786793892770:True:=⟨⟩
theorem tw11958525272514882251:True:=⟨⟩
theorem tw5408491288903420134:True:=⟨⟩
theorem tw2054867414714319593:True:=⟨⟩
theorem tw14084567193199702542:True:=⟨⟩
theorem tw14924778793785579688:True:=⟨⟩
theorem tw3610133407248050728:True:=⟨⟩
theorem tw16769469919375996076:True:=⟨⟩
theorem tw3667799648165520664:True:=⟨⟩
theorem tw6473448869689761766:True:=⟨⟩
theorem tw16354809232898768424:True:=⟨⟩
theorem tw300250156165322295:True:=⟨⟩
theorem tw39396067435862076:True:=⟨⟩
theorem tw10460726873586461378:True:=⟨⟩
theorem tw5714143856854308655:True:=⟨⟩
theorem tw918355730521865659:True:=⟨⟩
theorem tw11830680725946238079:True:=⟨⟩
theorem tw13386369277591475053:True:=⟨⟩
theorem tw12536973696843473:True:=⟨⟩
theorem tw12527397757291968519:True:=⟨⟩
theorem tw17461781284944543680:True:=⟨⟩
theorem tw9439339176060563041:True:=⟨⟩
theorem tw10689657073444590112:True:=⟨⟩
theorem tw9112113702149944097:True:=⟨⟩
theorem tw165658668705961003:True:=⟨⟩
theorem tw8285064240268308321:True:=⟨⟩
theorem tw5191494590565860545:True:=⟨⟩
theorem tw17133123343733945408:True:=⟨⟩
theorem tw4194831072114663966:True:=⟨⟩
theorem tw10883732277524665374:True:=⟨⟩
theorem tw3816339857112708398:True:=⟨⟩
theorem tw13653699289882611248:True:=⟨⟩
theorem tw2395130208515397928:True:=⟨⟩
theorem tw11958309212474572820:True:=⟨⟩
theorem tw12929097164007549777:True:=⟨⟩
theorem tw1213805912748910132:True:=⟨⟩
theorem tw6573979645931303174:True:=⟨⟩
theorem tw6443081535465855677:True:=⟨⟩
theorem tw11280057293344023343:True:=⟨⟩
theorem tw15703316336111498782:True:=⟨⟩
theorem tw331788550451646218:True:=⟨⟩
theorem tw5990097858202876655:True:=⟨⟩
theorem tw9960165390055388738:True:=⟨⟩
theorem tw15259588146860501772:True:=⟨⟩
theorem tw9795622834606318406:True:=⟨⟩
theorem tw3365684428941221938:True:=⟨⟩
theorem tw3273385651087951665:True:=⟨⟩
theorem tw3619072196517485023:True:=⟨⟩
theorem tw10435050595541207773:True:=⟨⟩
theorem tw11120767019309974897:True:=⟨⟩
theorem tw14232901744325283535:True:=⟨⟩
theorem tw4359442757432801428:True:=⟨⟩
theorem tw10250639445744567388:True:=⟨⟩
theorem tw11145463104225128585:True:=⟨⟩
theorem tw9823379980262590730:True:=⟨⟩
theorem tw15022752767427466584:True:=⟨⟩
theorem tw15228716751787969425:True:=⟨⟩
theorem tw17087700371463224360:True:=⟨⟩
theorem tw5453034525569694581:True:=⟨⟩
theorem tw16974019955941383847:True:=⟨⟩
theorem tw1972209942534080729:True:=⟨⟩
theorem tw11809076214278322030:True:=⟨⟩
theorem tw1525904477836741626:True:=⟨⟩
theorem tw1997362687766334559:True:=⟨⟩
theorem tw2192014777894559242:True:=⟨⟩
theorem tw4416431465700765623:True:=⟨⟩
theorem tw3930602851305310155:True:=⟨⟩
theorem tw10521042615564706327:True:=⟨⟩
theorem tw18121202369717494153:True:=⟨⟩
theorem tw15322727033249220445:True:=⟨⟩
theorem tw18226947784092058971:True:=⟨⟩
theorem tw8766743015715376617:True:=⟨⟩
theorem tw5350581858115534325:True:=⟨⟩
theorem tw17468185234275848285:True:=⟨⟩
theorem tw5355525320740257181:True:=⟨⟩
theorem tw2484535536869286012:True:=⟨⟩
theorem tw15078405056178091353:True:=⟨⟩
theorem tw11895865837852254652:True:=⟨⟩
theorem tw11015000133248079522:True:=⟨⟩
theorem tw3746168520290376516:True:=⟨⟩
theorem tw10078839934162517703:True:=⟨⟩
theorem tw13293527030539948840:True:=⟨⟩
theorem tw15344028105418621253:True:=⟨⟩
theorem tw2918950153496204536:True:=⟨⟩
theorem tw5808971069444366672:True:=⟨⟩
theorem tw15362599186982783667:True:=⟨⟩
theorem tw5024985784226299299:True:=⟨⟩
theorem tw2090901994209909986:True:=⟨⟩
theorem tw4076673095732003959:True:=⟨⟩
theorem tw12715244867832615888:True:=⟨⟩
theorem tw5900573564603113689:True:=⟨⟩
theorem tw5803887139537728594:True:=⟨⟩
theorem tw3105074662771645014:True:=⟨⟩
theorem tw9838692955494149540:True:=⟨⟩
theorem tw13086003777411509186:True:=⟨⟩
theorem tw1494801525662756174:True:=⟨⟩
theorem tw7675726333574566941:True:=⟨⟩
theorem tw7163354218241998971:True:=⟨⟩
theorem tw1045878303720872958:True:=⟨⟩
theorem tw109444767535163234:True:=⟨⟩
theorem tw13419102131726129044:True:=⟨⟩
theorem tw5272696174933292569:True:=⟨⟩
theorem tw16385506870613762364:True:=⟨⟩
theorem tw2211126521387350910:True:=⟨⟩
theorem tw11499251688635576979:True:=⟨⟩
theorem tw10860649665522021048:True:=⟨⟩
theorem tw10498837978708835680:True:=⟨⟩
theorem tw12288067494578182065:True:=⟨⟩
theorem tw6213974480993962376:True:=⟨⟩
theorem tw2451952486219710988:True:=⟨⟩
theorem tw2441383544808643317:True:=⟨⟩
theorem tw16813088212300300402:True:=⟨⟩
theorem tw1734306865645658884:True:=⟨⟩
theorem tw13673645455912932802:True:=⟨⟩
theorem tw17014900395384114959:True:=⟨⟩
theorem tw1503733104344043692:True:=⟨⟩
theorem tw17781047125149616142:True:=⟨⟩
theorem tw50674204945082480:True:=⟨⟩
theorem tw16300834398914964554:True:=⟨⟩
theorem tw15058967475100330583:True:=⟨⟩
theorem tw15822261738767769726:True:=⟨⟩
theorem tw17932388553335517623:True:=⟨⟩
theorem tw4658920086735971609:True:=⟨⟩
theorem tw10873047086793118812:True:=⟨⟩
theorem tw8549951730697567638:True:=⟨⟩
theorem tw14296883907424428475:True:=⟨⟩
theorem tw12288837349490246575:True:=⟨⟩
theorem tw856485650990759715:True:=⟨⟩
theorem tw6336090507214552507:True:=⟨⟩
theorem tw745660223663900185:True:=⟨⟩
theorem tw8740738798519247964:True:=⟨⟩
theorem tw7943842825105597761:True:=⟨⟩
theorem tw17904966400998279990:True:=⟨⟩
theorem tw17546197265001159105:True:=⟨⟩
theorem tw5040797559434729378:True:=⟨⟩
theorem tw4091151733676176102:True:=⟨⟩
theorem tw10080420323029384647:True:=⟨⟩
theorem tw16789936691960637245:True:=⟨⟩
theorem tw8450112871156633782:True:=⟨⟩
theorem tw14266019682674393731:True:=⟨⟩
theorem tw9625712277933665814:True:=⟨⟩
theorem tw16641969293841612218:True:=⟨⟩
theorem tw6910021250324297530:True:=⟨⟩
theorem tw504381745425027674:True:=⟨⟩
theorem tw12507709151640397082:True:=⟨⟩
theorem tw10360756713165582409:True:=⟨⟩
theorem tw1081935401186630877:True:=⟨⟩
theorem tw12115520029071785853:True:=⟨⟩
theorem tw7561730057899156053:True:=⟨⟩
theorem tw16513205661401531768:True:=⟨⟩
theorem tw6804679001127481727:True:=⟨⟩
theorem tw583963972023673457:True:=⟨⟩
theorem tw12385790847144208920:True:=⟨⟩
theorem tw7965713294139208137:True:=⟨⟩
theorem tw15779424677941735491:True:=⟨⟩
theorem tw4771513380835512442:True:=⟨⟩
theorem tw9950714194430381724:True:=⟨⟩
theorem tw5706619075203287384:True:=⟨⟩
theorem tw10129105090199574558:True:=⟨⟩
theorem tw2948827782573780935:True:=⟨⟩
theorem tw489259215022686818:True:=⟨⟩
theorem tw1296414618108249121:True:=⟨⟩
theorem tw10647929321676807394:True:=⟨⟩
theorem tw18302769511116854693:True:=⟨⟩
theorem tw18155274849119154315:True:=⟨⟩
theorem tw4858135527117860618:True:=⟨⟩
theorem tw2533174636883976948:True:=⟨⟩
theorem tw18226562818814123693:True:=⟨⟩
theorem tw790535713760082375:True:=⟨⟩
theorem tw10080411933296073169:True:=⟨⟩
theorem tw11081623191610289651:True:=⟨⟩
theorem tw12331618558654238659:True:=⟨⟩
theorem tw4760340057373731601:True:=⟨⟩
theorem tw7250776636553704481:True:=⟨⟩
theorem tw11591528895471580718:True:=⟨⟩
theorem tw11543735028438112360:True:=⟨⟩
theorem tw14384168431584006947:True:=⟨⟩
theorem tw10826914534225396851:True:=⟨⟩
theorem tw8271272192495889586:True:=⟨⟩
theorem tw5693483877519895919:True:=⟨⟩
theorem tw14337280471482873284:True:=⟨⟩
theorem tw8343647697354989984:True:=⟨⟩
theorem tw13043727735080230609:True:=⟨⟩
theorem tw2184007643059222945:True:=⟨⟩
theorem tw15447991242853079764:True:=⟨⟩
theorem tw6884371432276015364:True:=⟨⟩
theorem tw12631443785135433859:True:=⟨⟩
theorem tw12404513639842798531:True:=⟨⟩
theorem tw6366344129445463564:True:=⟨⟩
theorem tw6875572417978810474:True:=⟨⟩
theorem tw8853577428646067110:True:=⟨⟩
theorem tw3829160957414510272:True:=⟨⟩
theorem tw10966885558698318858:True:=⟨⟩
theorem tw3569601035832851825:True:=⟨⟩
theorem tw4053520311011340253:True:=⟨⟩
theorem tw6309879279737242710:True:=⟨⟩
theorem tw13014781972143278941:True:=⟨⟩
theorem tw10375141383804898910:True:=⟨⟩
theorem tw2961539997722728220:True:=⟨⟩
theorem tw11478285263602547320:True:=⟨⟩
theorem tw11004377234346868752:True:=⟨⟩
theorem tw7534695178633697419:True:=⟨⟩
theorem tw13429657907062441132:True:=⟨⟩
theorem tw2489112772016254922:True:=⟨⟩
theorem tw10425781912370519146:True:=⟨⟩
theorem tw3962961078100570955:True:=⟨⟩
theorem tw12534984872844701248:True:=⟨⟩
theorem tw13824360147564234577:True:=⟨⟩
theorem tw12236061483190386705:True:=⟨⟩
theorem tw10608866039123066905:True:=⟨⟩
theorem tw4877602675614959660:True:=⟨⟩
theorem tw2550183986278197336:True:=⟨⟩
theorem tw3088477310064910352:True:=⟨⟩
theorem tw16317555022656651717:True:=⟨⟩
theorem tw5960519930192817273:True:=⟨⟩
theorem tw3402954999183361359:True:=⟨⟩
theorem tw8704369919451306122:True:=⟨⟩
theorem tw3423433673600254179:True:=⟨⟩
theorem tw15316991826437704453:True:=⟨⟩
theorem tw13891944755716388453:True:=⟨⟩
theorem tw12306358150625915536:True:=⟨⟩
theorem tw9998203108056994780:True:=⟨⟩
theorem tw16537609187387307983:True:=⟨⟩
theorem tw14118994908616075325:True:=⟨⟩
theorem tw15553191560993753797:True:=⟨⟩
theorem tw8244852485623006029:True:=⟨⟩
theorem tw9488942331533717353:True:=⟨⟩
theorem tw2427353737586057440:True:=⟨⟩
theorem tw8429240584677581388:True:=⟨⟩
theorem tw991011382538969440:True:=⟨⟩
theorem tw12307425357659410463:True:=⟨⟩
theorem tw7838508805995326674:True:=⟨⟩
theorem tw2256986004611717292:True:=⟨⟩
theorem tw1290790366130439299:True:=⟨⟩
theorem tw10738630324193125983:True:=⟨⟩
theorem tw16047924936719997248:True:=⟨⟩
theorem tw913556612659458810:True:=⟨⟩
theorem tw18192271908020237146:True:=⟨⟩
theorem tw7588746041166683120:True:=⟨⟩
theorem tw3757974380993164040:True:=⟨⟩
theorem tw2119129941951023699:True:=⟨⟩
theorem tw8850296638206575248:True:=⟨⟩
theorem tw18018759381295997023:True:=⟨⟩
theorem tw5548273105525137810:True:=⟨⟩
theorem tw9006202003842488830:True:=⟨⟩
theorem tw11811528588189969244:True:=⟨⟩
theorem tw1965596593956270001:True:=⟨⟩
theorem tw8529222000281482017:True:=⟨⟩
theorem tw1382411560457139895:True:=⟨⟩
theorem tw12305778470137845396:True:=⟨⟩
theorem tw4909621107860999357:True:=⟨⟩
theorem tw16003173986293370032:True:=⟨⟩
theorem tw3763262649766565644:True:=⟨⟩
theorem tw8777405337202515697:True:=⟨⟩
theorem tw6630367751515771117:True:=⟨⟩
theorem tw1114701535017520439:True:=⟨⟩
theorem tw5609003674513995845:True:=⟨⟩
theorem tw12040114623090468620:True:=⟨⟩
theorem tw4738287268859391408:True:=⟨⟩
theorem tw11032667790433018884:True:=⟨⟩
theorem tw14510180186138941969:True:=⟨⟩
theorem tw8927365656287858797:True:=⟨⟩
theorem tw4434000468606744340:True:=⟨⟩
theorem tw1083791821407909419:True:=⟨⟩
theorem tw6268274705921960045:True:=⟨⟩
theorem tw3157627897765544292:True:=⟨⟩
theorem tw1452225206830144562:True:=⟨⟩
theorem tw17419581685707466016:True:=⟨⟩
theorem tw16292904891847553431:True:=⟨⟩
theorem tw4487319008119158768:True:=⟨⟩
theorem tw8714561396813365518:True:=⟨⟩
theorem tw17326342368214931927:True:=⟨⟩
theorem tw9417511484924396137:True:=⟨⟩
theorem tw1198213322902729616:True:=⟨⟩
theorem tw16048385290802676456:True:=⟨⟩
end PySem.W.Fast
section
set_option Elab.async false
namespace L2
open PySem PySem.Spec PyProof.Rows
noncomputable abbrev Key:=Sum Int Str
noncomputable def Z_:Key->Value->Bool
 |.inl k,v=>zeA k v
 |.inr x,v=>zdY x v
noncomputable def z74 (w:z8s):Key->Int
 |.inl k=>hashInt k
 |.inr x=>hashStr w x
theorem zH:∀{k:Key} {v:Value},Z_ k v=true->(∃i t,k=zbA i/\v=zbk i t)\/(∃x t,k=zbB x/\v=zd2 x t)
 |.inl i,v,h=>by
  obtain⟨t,e⟩:=Value.isInt_shape (k:=i) (v:=v) h
  exact .inl ⟨i,t,rfl,e⟩
 |.inr x,v,h=>by
  obtain⟨t,e⟩:=Value.isStrOf_shape (x:=x) (v:=v) h
  exact .inr ⟨x,t,rfl,e⟩
theorem Xr(i:Int)(t:Tok):Z_ (.inl i) (.int i t)=true:=by simp[Z_,zeA]
theorem XO(x:Str)(t:Tok):Z_ (.inr x) (.str x t)=true:=by simp[Z_,zdY]
theorem z5c(a b:Int):decide ((zbA a:Key)=zbA b)=(a == b):=by
 by_cases e:a=b
 ·subst e;simp
 ·have h:¬(zbA a:Key)=zbA b:=λq=>e (Sum.inl.inj q)
  rw[decide_eq_false h]
  exact (beq_eq_false_iff_ne.mpr e).symm
theorem z3I(a b:Str):decide ((zbB a:Key)=zbB b)=decide (a=b):=by
 by_cases e:a=b
 ·subst e;simp
 ·have h:¬(zbB a:Key)=zbB b:=λq=>e (Sum.inr.inj q)
  rw[decide_eq_false h,decide_eq_false e]
theorem z57(a:Int)(b:Str):decide ((zbA a:Key)=zbB b)=false:=decide_eq_false (λq=>nomatch q)
theorem z4R(a:Str)(b:Int):decide ((zbB a:Key)=zbA b)=false:=decide_eq_false (λq=>nomatch q)
noncomputable def zT (prog : z8e) (w : z8s) : PySem.KeyKind prog w Key where
  is := Z_
  hash := z74 w
  inj := fun v a b ha hb => by
    rcases zH ha with ⟨i,t,rfl,rfl⟩ | ⟨x,t,rfl,rfl⟩
    · rcases zH hb with ⟨j,u,rfl,e⟩ | ⟨y,u,rfl,e⟩
      · injection e with e1 _; rw [e1]
      · exact nomatch e
    · rcases zH hb with ⟨j,u,rfl,e⟩ | ⟨y,u,rfl,e⟩
      · exact nomatch e
      · injection e with e1 _; rw [e1]
  byValue := fun k v h => by
    rcases zH h with ⟨i,t,rfl,rfl⟩ | ⟨x,t,rfl,rfl⟩ <;> rfl
  pyHash := fun hv h => by
    rcases zH hv with ⟨i,t,rfl,rfl⟩ | ⟨x,t,rfl,rfl⟩
    · exact wpAny_pyHash_int h
    · exact wpAny_pyHash_str h
  eqBool := fun hu hv h => by
    rcases zH hu with ⟨i,t,rfl,rfl⟩ | ⟨x,t,rfl,rfl⟩
    · rcases zH hv with ⟨j,u,rfl,rfl⟩ | ⟨y,u,rfl,rfl⟩
      · rw [z5c] at h; exact wpAny_eqBool_int h
      · rw [z57] at h; exact zco i t y u _ _ _ _ h
    · rcases zH hv with ⟨j,u,rfl,rfl⟩ | ⟨y,u,rfl,rfl⟩
      · rw [z4R] at h; exact zcp x t j u _ _ _ _ h
      · rw [z3I] at h; exact wpAny_eqBool_str h
  «strs» := fun k x t v h => by
    rcases zH h with ⟨i,u,rfl,e⟩ | ⟨y,u,rfl,e⟩
    · exact nomatch e
    · injection e with e1 _
      subst e1
      cases v <;> rfl
theorem Vm(prog:z8e)(w:z8s)(i:Int)(t:Tok):(zT prog w).is (.inl i) (.int i t)=true:=Xr i t
theorem Wm(prog:z8e)(w:z8s)(x:Str)(t:Tok):(zT prog w).is (.inr x) (.str x t)=true:=XO x t
end L2
namespace L2
open PySem PySem.Spec PyProof.Rows
inductive V where
 |non|bl (b:Bool)|int (i:Int)|str (x:Str)|byt (b:Array UInt8)|flt (b:UInt64)|ref (a:Addr)|ty (n:String)
 deriving DecidableEq
noncomputable def RelV:V->Value->Prop
 |.non,u=>u=z8F
 |.bl b,u=>u=zaM b
 |.int i,u=>∃t,u=zbk i t
 |.str x,u=>∃t,u=zd2 x t
 |.byt b,u=>∃t,u=zeB b t
 |.flt b,u=>∃t,u=zeC b t
 |.ref a,u=>u=z80 a
 |.ty n,u=>u=zeM n
abbrev Vals:List V->List Value->Prop:=zbC RelV
theorem Vals.length{xs:List V}{us:List Value}(r:Vals xs us):xs.length=us.length:=zci r
theorem Vals.get:∀{xs:List V} {us:List Value} {i:Nat} {x:V},Vals xs us->xs[i]?=some x->∃u,us[i]?=some u/\RelV x u
 |_,_,_,_,.nil,e=>by simp at e
 |_,_,0,_,.cons r _,e=>by simp at e;subst e;exact⟨_,rfl,r⟩
 |_,_,i+1,x,.cons _ t,e=>by
  obtain⟨u,h1,h2⟩:=Vals.get (i:=i) (x:=x) t (by simpa using e)
  exact⟨u,by simpa using h1,h2⟩
theorem Vals.set{x:V}{u:Value}(r:RelV x u):∀{xs:List V} {us:List Value} (i:Nat),Vals xs us->Vals (xs.set i x) (us.set i u)
 |_,_,_,.nil=>.nil
 |_,_,0,.cons _ t=>.cons r t
 |_,_,i+1,.cons q t=>.cons q (Vals.set r i t)
theorem Vals.append:∀{xs ys:List V} {us ws:List Value},Vals xs us->Vals ys ws->Vals (xs++ys) (us++ws)
 |_,_,_,_,.nil,s=>s
 |_,_,_,_,.cons r t,s=>.cons r (Vals.append t s)
theorem Vals.take:∀{xs:List V} {us:List Value} (n:Nat),Vals xs us->Vals (xs.take n) (us.take n)
 |_,_,0,_=>.nil
 |_,_,_+1,.nil=>.nil
 |_,_,n+1,.cons r t=>.cons r (Vals.take n t)
theorem Vals.drop:∀{xs:List V} {us:List Value} (n:Nat),Vals xs us->Vals (xs.drop n) (us.drop n)
 |_,_,0,r=>r
 |_,_,_+1,.nil=>.nil
 |_,_,n+1,.cons _ t=>Vals.drop n t
noncomputable def RelO:Option V->Option Value->Prop
 |some v,some u=>RelV v u
 |none,none=>True
 |_,_=>False
noncomputable def KV {κ:Type}:List (κ×V)->List (κ×Value)->Prop:=zbC λ(p:κ×V) (q:κ×Value)=>p.1=q.1/\RelV p.2 q.2
noncomputable def kV:Key->V
 |.inl i=>.int i
 |.inr x=>.str x
inductive HO where
 |lst (xs:List V)
 |tup (xs:List V)
 |dK (kvs:List (Key×V))|dT (kvs:List (List Key×V))
 |set (S:Int->Bool) (n:Nat)
 |ins (C dx:Addr) (fs:List (Str×V))
 |own (x:Addr)
 |xd (fs:List (Str×V))
 |met (f x:Addr)
 |rng (lo hi:Int)
 |frz (o:Obj) (u:HO)
 |tbl (ps:Array Value)
 |ext (φ:Heap->Prop)
noncomputable abbrev Hp:=Addr->Option HO
noncomputable def upd (H:Hp)(a:Addr)(o:HO):Hp:=λb=>if b=a then some o else H b
theorem z7{H:Hp}{a:Addr}{o:HO}:upd H a o a=some o:=by unfold upd;rw[if_pos rfl]
theorem z8{H:Hp}{a b:Addr}{o:HO}(h:b≠a):upd H a o b=H b:=by unfold upd;rw[if_neg h]
theorem z6a{H:Hp}{a b:Addr}{o u:HO}(h:H a=some o)(h':H b=some u)(d:o≠u):a≠b:=by
 intro e;subst e;rw[h] at h';exact d (z7A h')
theorem zK{H:Hp}{a b:Addr}{o:HO}(h:H a=some o)(h':H b=none):a≠b:=by
 intro e;subst e;rw[h] at h';cases h'
section
variable (P:Program)(w:World)
noncomputable def ObjOk(H:Hp)(h:Heap)(a:Addr):HO->Prop
 |.lst xs=>xs.length<=sizeLine/\∃(its:List Value) (n:Nat),Vals xs its/\h.get? a=some {cls:=.type "list",data:=.seq its.toArray n}
 |.tup xs=>xs.length<=sizeLine/\∃its:List Value,Vals xs its/\zcE h a its.toArray
 |.dK kvs=>kvs.length<=sizeLine/\(a == z9u)=false/\∃vs,KV kvs vs/\h.DictOf (zT P w) a vs
 |.dT kvs=>kvs.length<=sizeLine/\(a == z9u)=false/\∃xs:List (List Key×Addr×Value),
   zbC (λ(p:List Key×V) (q:List Key×Addr×Value)=>p.1=q.1/\H q.2.1=some (.tup (p.1.map kV))/\RelV p.2 q.2.2) kvs xs/\
   ∃o es ep,h.get? a=some o/\o.ExactDict/\o.data=.dict es ep/\es.toList=xs.map (entryOfKey (zbl (zT P w)))/\(xs.map (·.1)).Nodup
 |.set S n=>h.SetOf (intKind P w) a S n
 |.ins C dx fs=>H dx=some (.own a)/\fs.length<=1000/\dx≠a/\h.get? a=some (z8R C dx)/\
   ∃mA,h.Ns1 dx mA/\(∀f,RelO (fs.lookup f) (mA f))/\zcF mA (fs.map (·.1))
 |.own _=>∃o,h.get? a=some o
 |.xd fs=>∃mA,h.Ns1 a mA/\∀f,RelO (fs.lookup f) (mA f)
 |.rng lo hi=>∃t u v,h.get? a=some {cls:=.type "range",data:=.fields #[.int lo t,.int hi u,.int 1 v]}
 |.frz o u=>h.get? a=some o/\ObjOk H h a u
 |.tbl ps=>h.get? a=some {cls:=.none,data:=.fields ps}
 |.met f x=>h.get? a=some (zb0 (.ref f) (.ref x))
 |.ext φ=>φ h/\(∃o,h.get? a=some o)/\∀h1 h2:Heap,φ h1->(∀o,h1.get? a=some o->h2.get? a=some o)->φ h2
noncomputable def HOk (H:Hp)(h:Heap):Prop:=∀a o,H a=some o->ObjOk P w H h a o
end
section
variable {P:Program}{w:World}{H H':Hp}{h h':Heap}{a:Addr}{o:HO}
theorem ObjOk.lt(x:ObjOk P w H h a o):a<h.objs.size:=by
 cases o with
 |lst xs=>obtain⟨_,_,_,_,e⟩:=x;exact z7T e
 |tup xs=>obtain⟨_,_,_,p⟩:=x;exact p.lt
 |dK kvs=>obtain⟨_,_,_,_,o,_,_,e,_⟩:=x;exact z7T e
 |dT kvs=>obtain⟨_,_,_,_,o,_,_,e,_⟩:=x;exact z7T e
 |set S n=>obtain⟨o,_,_,_,e,_⟩:=x;exact z7T e
 |ins C dx fs=>obtain⟨_,_,_,e,_⟩:=x;exact z7T e
 |own y=>obtain⟨_,e⟩:=x;exact z7T e
 |xd fs=>obtain⟨_,⟨_,_,_,e,_⟩,_⟩:=x;exact z7T e
 |rng lo hi=>obtain⟨_,_,_,e⟩:=x;exact z7T e
 |frz ob u=>obtain⟨e,_⟩:=x;exact z7T e
 |tbl ps=>exact z7T (show h.get? a=some _ from x)
 |met f y=>exact z7T (show h.get? a=some _ from x)
 |ext φ=>obtain⟨_,⟨_,e⟩,_⟩:=x;exact z7T e
theorem zbC.mapP{α β:Type}{F G:α->β->Prop}:∀{l₁:List α} {l₂:List β},zbC F l₁ l₂->(∀a b,F a b->G a b)->zbC G l₁ l₂
 |_,_,.nil,_=>.nil
 |_,_,.cons r t,f=>.cons (f _ _ r) (zbC.mapP t f)
theorem ObjOk.stay(x:ObjOk P w H h a o)(k:∀b u,(b=a\/H b=some (.own a))->h.get? b=some u->h'.get? b=some u)
  (ho:∀b,H b=some (.own a)->H' b=some (.own a)) (ht:∀b xs,H b=some (.tup xs)->H' b=some (.tup xs)):ObjOk P w H' h' a o:=by
 induction o with
 |lst xs=>obtain⟨z,its,n,r,e⟩:=x;exact⟨z,its,n,r,k _ _ (.inl rfl) e⟩
 |tup xs=>obtain⟨z,its,r,ob,e,c⟩:=x;exact⟨z,its,r,ob,k _ _ (.inl rfl) e,c⟩
 |dK kvs=>obtain⟨z,y,vs,r,ob,es,ep,e,c⟩:=x;exact⟨z,y,vs,r,ob,es,ep,k _ _ (.inl rfl) e,c⟩
 |dT kvs=>
  obtain⟨z,y,xs,r,ob,es,ep,e,c⟩:=x
  exact⟨z,y,xs,zbC.mapP r λp q z=>⟨z.1,ht _ _ z.2.1,z.2.2⟩,ob,es,ep,k _ _ (.inl rfl) e,c⟩
 |set S n=>obtain⟨ob,es,ep,t,e,c⟩:=x;exact⟨ob,es,ep,t,k _ _ (.inl rfl) e,c⟩
 |ins C dx fs=>
  obtain⟨d,z,ne,e,mA,⟨od,es,ep,e2,c⟩,r⟩:=x
  exact⟨ho _ d,z,ne,k _ _ (.inl rfl) e,mA,⟨od,es,ep,k _ _ (.inr d) e2,c⟩,r⟩
 |own y=>obtain⟨ob,e⟩:=x;exact⟨ob,k _ _ (.inl rfl) e⟩
 |xd fs=>obtain⟨mA,⟨od,es,ep,e,c⟩,r⟩:=x;exact⟨mA,⟨od,es,ep,k _ _ (.inl rfl) e,c⟩,r⟩
 |rng lo hi=>obtain⟨t,u,v,e⟩:=x;exact⟨t,u,v,k _ _ (.inl rfl) e⟩
 |frz ob u ih=>obtain⟨e,q⟩:=x;exact⟨k _ _ (.inl rfl) e,ih q⟩
 |tbl ps=>
  have e:h.get? a=some {cls:=.none,data:=.fields ps}:=x
  show h'.get? a=some {cls:=.none,data:=.fields ps}
  exact k a _ (.inl rfl) e
 |met f y=>
  have e:h.get? a=some (zb0 (.ref f) (.ref y)):=x
  show h'.get? a=some (zb0 (.ref f) (.ref y))
  exact k a _ (.inl rfl) e
 |ext φ=>obtain⟨p,⟨o,e⟩,st⟩:=x;exact⟨st _ _ p λo q=>k _ _ (.inl rfl) q,⟨o,k _ _ (.inl rfl) e⟩,st⟩
theorem HOk.lt(x:HOk P w H h)(e:H a=some o):a<h.objs.size:=(x a o e).lt
theorem HOk.fresh(x:HOk P w H h)(e:h.objs.size<=a):H a=none:=by
 cases q:H a with
 |none=>rfl
 |some u=>exact absurd (z7I (x.lt q) e) (z8M _)
theorem HOk.kept(x:HOk P w H h)(k:∀b u,h.get? b=some u->h'.get? b=some u):HOk P w H h':=λa o e=>
 (x a o e).stay (λb u _ q=>k b u q) (λ_ q=>q) λ_ _ q=>q
theorem HOk.laid(x:HOk P w H h)(k:∀b u,h.get? b=some u->h'.get? b=some u)(hp:h.objs.size<=a)(new:ObjOk P w (upd H a o) h' a o):HOk P w (upd H a o) h':=λb u e=>by
 have hn:=x.fresh hp
 by_cases hb:b=a
 ·subst hb;rw[z7] at e;cases e;exact new
 ·rw[z8 hb] at e
  exact (x b u e).stay (λc v _ q=>k c v q) (λc q=>by rw[z8 (zK q hn)];exact q) λc xs q=>by rw[z8 (zK q hn)];exact q
end
noncomputable def Rd (H:Hp)(a:Addr)(u:HO):Prop:=H a=some u\/∃o,H a=some (.frz o u)
theorem Rd.ok{P:z8e}{w:z8s}{H:Hp}{h:Heap}{a:Addr}{u:HO}(r:Rd H a u)(x:HOk P w H h):ObjOk P w H h a u:=by
 rcases r with r|⟨o,r⟩
 ·exact x a u r
 ·obtain⟨_,q⟩:=x a _ r
  exact q
noncomputable def Mut:Option HO->Prop
 |some (.lst _)=>True
 |some (.dK _)=>True
 |some (.dT _)=>True
 |some (.set _ _)=>True
 |some (.ins _ _ _)=>True
 |some (.ext _)=>True
 |_=>False
section
variable {P:Program}{w:World}{H:Hp}{h h':Heap}{x e:Addr}{o':HO}
theorem HOk.write(ok:HOk P w H h)(mu:Mut (H x))(he:e=x\/H e=some (.own x))(k:∀b u,b≠e->h.get? b=some u->h'.get? b=some u)(heo:∃u,h'.get? e=some u)
  (new:ObjOk P w (upd H x o') h' x o'):HOk P w (upd H x o') h':=λb u q=>by
 have nown:∀c y,H c=some (.own y)->c≠x:=λc y r z=>by subst z;rw[r] at mu;exact mu
 have ntup:∀c xs,H c=some (.tup xs)->c≠x:=λc xs r z=>by subst z;rw[r] at mu;exact mu
 by_cases hb:b=x
 ·subst hb;rw[z7] at q;cases q;exact new
 ·rw[z8 hb] at q
  by_cases hbe:b=e
  ·have q':H b=some (.own x):=by
    rcases he with z|z
    ·exact absurd (hbe.trans z) hb
    ·rw[hbe];exact z
   rw[q] at q';cases q'
   obtain⟨v,hv⟩:=heo
   exact⟨v,by rw[hbe];exact hv⟩
  ·refine (ok b u q).stay (λc v hc r=>k c v ?_ r) (λc r=>by rw[z8 (nown c b r)];exact r) λc xs r=>by rw[z8 (ntup c xs r)];exact r
   rcases hc with rfl|hc
   ·exact hbe
   ·rintro rfl
    rcases he with z|z
    ·exact nown c b hc z
    ·rw[hc] at z;cases z;exact hb rfl
end
structure Un(fs ex:List Addr)(H H':Hp)(h h':Heap):Prop where
 keep:∀b o,h.get? b=some o->H b=none->b∉fs->b∉ex->h'.get? b=some o
 slot:∀b o,h.get? b=some o->H b=none->b∈fs->b∉ex->∃sl,h'.get? b=some {o with slots:=sl}
 free:∀b o,h.get? b=some o->H b=none->b∉ex->H' b=none
 there:∀b o,h.get? b=some o->b∉ex->∃o',h'.get? b=some o'
 tups:∀b xs,H b=some (.tup xs)->H' b=some (.tup xs)
 frzs:∀b o u,H b=some (.frz o u)->H' b=some (.frz o u)
 tbls:∀b ps,H b=some (.tbl ps)->∃more,H' b=some (.tbl (ps++more))
section
variable {fs fs' ex ex':List Addr}{H H1 H2:Hp}{h h1 h2 h':Heap}{a x e:Addr}{o:HO}
theorem Un.any(u:Un fs ex H H1 h h1){b:Addr}{ob:Obj}(q:h.get? b=some ob)(n:H b=none)(hx:b∉ex):∃sl,h1.get? b=some {ob with slots:=sl}:=by
 by_cases hb:b∈fs
 ·exact u.slot b ob q n hb hx
 ·exact⟨ob.slots,u.keep b ob q n hb hx⟩
theorem Un.kept(k:∀b u,h.get? b=some u->h'.get? b=some u):Un fs ex H H h h':=
 ⟨λb ob q _ _ _=>k b ob q,λb ob q _ _ _=>⟨ob.slots,k b ob q⟩,λ_ _ _ n _=>n,λb ob q _=>⟨ob,k b ob q⟩,λ_ _ q=>q,λ_ _ _ q=>q,λ_ ps q=>⟨#[],by rw[q];simp⟩⟩
theorem Un.refl:Un fs ex H H h h:=Un.kept λ_ _ q=>q
theorem Un.laid(k:∀b u,h.get? b=some u->h'.get? b=some u)(hp:h.objs.size<=a)(hn:H a=none):Un fs ex H (upd H a o) h h' where
 keep:=λb u q _ _ _=>k b u q
 slot:=λb u q _ _ _=>⟨u.slots,k b u q⟩
 free:=λb u q n _=>by rw[z8 (z85 (z7I (z7T q) hp))];exact n
 there:=λb u q _=>⟨u,k b u q⟩
 tups:=λb xs q=>by rw[z8 (zK q hn)];exact q
 frzs:=λb u xs q=>by rw[z8 (zK q hn)];exact q
 tbls:=λb ps q=>⟨#[],by rw[z8 (zK q hn),q];simp⟩
theorem Un.write(mu:Mut (H x))(he:e=x\/H e=some (.own x))(k:∀b u,b≠e->h.get? b=some u->h'.get? b=some u)(heo:∃u,h'.get? e=some u):Un fs ex H (upd H x o) h h':=by
 have hx:∀b,H b=none->b≠x:=λb n z=>by subst z;rw[n] at mu;exact mu
 have hb:∀b,H b=none->b≠e:=λb n z=>by
  subst z
  rcases he with r|r
  ·exact hx b n r
  ·rw[n] at r;cases r
 have hm:∀b u,H b=some u->¬Mut (some u)->b≠x:=λb u q nm z=>by subst z;rw[q] at mu;exact nm mu
 refine⟨λb u q n _ _=>k b u (hb b n) q,λb u q n _ _=>⟨u.slots,k b u (hb b n) q⟩,λb u q n _=>by rw[z8 (hx b n)];exact n,λb u q _=>?_,
  λb xs q=>by rw[z8 (hm b _ q λz=>z)];exact q,λb u xs q=>by rw[z8 (hm b _ q λz=>z)];exact q,λb ps q=>⟨#[],by rw[z8 (hm b _ q λz=>z),q];simp⟩⟩
 by_cases hbe:b=e
 ·subst hbe;exact heo
 ·exact⟨u,k b u hbe q⟩
end
noncomputable def trk (h:Heap)(H:Hp):List Addr:=(z8y h.objs.size).filter λa=>(H a).isSome
noncomputable def Zx (h:Heap)(H:Hp):Heap:=PySem.W.hideAll h (trk h H)
theorem Xv(h:Heap)(H:Hp):(Zx h H).objs.size=h.objs.size:=PySem.W.hideAll_size _ _
theorem Yy{h:Heap}{H:Hp}{b:Addr}{o:Obj}(e:h.get? b=some o)(n:H b=none):(Zx h H).get? b=some o:=
 PySem.W.hideAll_get _ e λhm=>by
  have q:(H b).isSome=true:=(z8C.mp hm).2
  rw[n] at q;simp at q
theorem z1O{h:Heap}{H:Hp}{b:Addr}{o:Obj}(e:(Zx h H).get? b=some o):h.get? b=some o/\H b=none:=by
 have e':h.get? b=some o:=PySem.W.of_hideAll (trk h H) e
 refine⟨e',?_⟩
 cases q:H b with
 |none=>rfl
 |some x=>
  have hm:b∈trk h H:=z8C.mpr ⟨z9J.mpr (z7T e'),by simp[q]⟩
  have z:(Zx h H).get? b=none:=PySem.W.hideAll_none (trk h H) hm
  rw[z] at e;cases e
noncomputable def z1V(g h:Heap)(L:Addr):List (Addr×Obj):=(z8y h.objs.size).filterMap λa=>if a=L\/(g.get? a).isSome=true then none else (h.get? a).map λo=>(a,o)
noncomputable def rest (g h:Heap)(L d:Addr):List (Addr×Obj):=(z1V g h L).filter λp=>decide (p.1≠d)
end L2
namespace L2
open PySem PySem.Spec PyProof.Rows
structure Mod(K:PySem.W.Frag)(mg:Str->Option Value)(base:Heap):Prop where
 kin:K.In base
 glob:base.Ns z7U mg
 blt:∃mb,base.Ns zbD mb/\∀x:Str,x≠"__name__"->mb x=z8W x
 nolimit:base.NoLimit
structure Cx where
 prog:z8e
 w:z8s
 K:z7E
 mg:Str->Option Value
 base:Heap
 A:z89
 N:List Str
 s₀:z7y
 H₀:Hp
 env:Env
 outer:List Env
 stack:List Env
 ex:List Addr
 fn:Str->Bool
 calm:Bool
 pn:List (Addr×Obj)
 xe:Value->z7y->Prop
noncomputable def frs(l:List Env):List Addr:=l.filterMap (·.frame)
noncomputable abbrev Cx.fs(X:Cx):List Addr:=frs X.outer
noncomputable def Vis(sc:Scope)(x:Str):Prop:=sc.names.lookup x=some .local\/sc.names.lookup x=some .cell\/sc.names.lookup x=some .free
noncomputable def Loc(sc:Scope)(x:Str):Prop:=sc.names.lookup x=some .local\/sc.names.lookup x=some .cell
noncomputable def Look(env:Env)(h:Heap)(m:Str->Option Value)(x:Str)(u:Value):Prop:=
 (env.kindOf x=some .local/\m x=some u)\/((env.kindOf x=some .cell\/env.kindOf x=some .free)/\∃c,env.cells.lookup x=some c/\h.IsCell c (some u))
structure Cx.Ok(X:Cx):Prop where
 mod:Mod X.K X.mg X.base
 kind:X.env.scope.kind=.function
 glob:X.env.globals=z7U
 blt:X.env.builtins=zbD
 above:X.s₀.heap.objs.size<=X.env.locals
 inj:∀x y c,X.env.cells.lookup x=some c->X.env.cells.lookup y=some c->x=y
 has:∀x,(X.env.kindOf x=some .cell\/X.env.kindOf x=some .free)->∃c,X.env.cells.lookup x=some c
 cab:∀x c,X.fn x=true->X.env.cells.lookup x=some c->X.s₀.heap.objs.size<=c
 hd:X.calm=true->X.A.handled=none
 frames:X.A.frames=some X.stack
 stk:X.stack=X.outer\/(X.stack=X.env::X.outer/\X.env.frame=some X.env.locals)
 exf:∀b∈X.ex,b≠X.env.locals/\∀x c,X.env.cells.lookup x=some c->c≠b
 bs:∀b o,X.base.get? b=some o->X.s₀.heap.get? b=some o/\X.H₀ b=none
 bsz:X.base.objs.size<=X.s₀.heap.objs.size
 noex:∀b o,X.base.get? b=some o->b∉X.ex
 exfs:∀b∈X.ex,b∉X.fs
 funs:X.s₀.heap.FunFrames X.base X.outer
 frf:∀b∈X.fs,X.H₀ b=none
structure Inv(X:Cx)(pins:List (Addr×Obj))(σ:List (Option V))(H:Hp)(s:Shared):Prop where
 ok:X.Ok
 os:s.os=X.s₀.os
 bare:zb1 s.gens
 base:Un X.fs X.ex X.H₀ H X.s₀.heap s.heap
 loc:∃m,s.heap.Ns X.env.locals m/\∀(i:Nat) (x:Str) (v:V),X.N[i]?=some x->σ[i]?=some (some v)->Vis X.env.scope x->∃u,RelV v u/\Look X.env s.heap m x u
 cell:∀x c,X.env.cells.lookup x=some c->∃v,s.heap.IsCell c v
 free:H X.env.locals=none
 freeC:∀x c,X.env.cells.lookup x=some c->H c=none
 pin:∀p∈X.pn++pins,s.heap.get? p.1=some p.2/\H p.1=none/\p.1≠X.env.locals/\p.1∉X.fs/\∀v,p.2.data≠.cell v
 hok:HOk X.prog X.w H s.heap
 len:σ.length=X.N.length
section
variable {X:Cx}{pins:List (Addr×Obj)}{σ:List (Option V)}{H H':Hp}{s:Shared}{h':Heap}
theorem Cx.Ok.nofr(ok:X.Ok){b:Addr}{o:Obj}(e:X.base.get? b=some o):b∉X.fs:=λhb=>by
 have:=(ok.funs.mem hb).1
 rw[e] at this;cases this
theorem Inv.bs(I:Inv X pins σ H s):∀b o,X.base.get? b=some o->s.heap.get? b=some o/\H b=none:=λb o e=>
 ⟨I.base.keep b o (I.ok.bs b o e).1 (I.ok.bs b o e).2 (I.ok.nofr e) (I.ok.noex b o e),I.base.free b o (I.ok.bs b o e).1 (I.ok.bs b o e).2 (I.ok.noex b o e)⟩
theorem Inv.bk(I:Inv X pins σ H s):∀b o,X.base.get? b=some o->s.heap.get? b=some o:=λb o e=>(I.bs b o e).1
theorem Inv.mod(I:Inv X pins σ H s):Mod X.K X.mg X.base:=I.ok.mod
theorem Inv.kIn(I:Inv X pins σ H s):X.K.In s.heap:=I.ok.mod.kin.keeps I.bk
theorem Inv.lt(I:Inv X pins σ H s):X.env.locals<s.heap.objs.size:=let ⟨_,hn,_⟩:=I.loc;hn.lt
theorem Inv.sz(I:Inv X pins σ H s):X.s₀.heap.objs.size<=s.heap.objs.size:=z7V I.ok.above (zbE I.lt)
theorem Inv.nofs(I:Inv X pins σ H s){a:Addr}(h:s.heap.objs.size<=a):a∉X.fs:=λhb=>by
 obtain⟨_,o,ho,_⟩:=I.ok.funs.mem hb
 exact absurd (z7I (z7T ho) (z7V I.sz h)) (z8M _)
theorem Inv.cne(I:Inv X pins σ H s):∀x c,X.env.cells.lookup x=some c->c≠X.env.locals:=λx c e z=>by
 obtain⟨v,o,ho,hd⟩:=I.cell x c e
 obtain⟨m,⟨o',es,ep,ho',hd',_⟩,_⟩:=I.loc
 rw[z,ho'] at ho;cases ho;rw[hd'] at hd;cases hd
theorem Inv.funs(I:Inv X pins σ H s):s.heap.FunFrames X.base X.outer:=by
 have all:∀(l:List Env),(∀b∈frs l,b∈X.fs)->X.s₀.heap.FunFrames X.base l->s.heap.FunFrames X.base l:=by
  intro l
  induction l with
  |nil=>intro _ _;trivial
  |cons env r ih=>
   intro hs hl
   obtain⟨hk,⟨L,o,hf,hn,ho,hd⟩,hr⟩:=hl
   have hL:L∈X.fs:=hs L (by unfold frs;rw[z8z,hf];exact z7Z)
   obtain⟨sl,e⟩:=I.base.slot L o ho (I.ok.frf L hL) hL λz=>I.ok.exfs L z hL
   exact⟨hk,⟨L,_,hf,hn,e,hd⟩,ih (λb hb=>hs b (by unfold frs;rw[z8z,hf];exact z7O _ hb)) hr⟩
 exact all X.outer (λ_ hb=>hb) I.ok.funs
theorem Inv.stack(I:Inv X pins σ H s):s.heap.FunFrames X.base X.stack:=by
 rcases I.ok.stk with e|⟨e,hf⟩
 ·rw[e];exact I.funs
 ·rw[e]
  obtain⟨m,hn,_⟩:=I.loc
  refine .cons (by rw[I.ok.kind];decide) hf hn ?_ I.funs
  exact z9K (z7V I.ok.bsz I.ok.above)
theorem Inv.stkSub(I:Inv X pins σ H s):∀b∈frs X.stack,b∈X.env.locals::X.fs:=λb hb=>by
 rcases I.ok.stk with e|⟨e,hf⟩
 ·rw[e] at hb;exact z7O _ hb
 ·rw[e] at hb
  unfold frs at hb
  rw[z8z,hf] at hb
  exact hb
theorem Inv.stkFree(I:Inv X pins σ H s):∀b∈frs X.stack,H b=none:=λb hb=>by
 rcases z88.mp (I.stkSub b hb) with e|hb
 ·rw[e];exact I.free
 ·obtain⟨_,o,ho,_⟩:=I.ok.funs.mem hb
  exact I.base.free b o ho (I.ok.frf b hb) λz=>I.ok.exfs b z hb
theorem Inv.step{g':Array GenState}{t':Nat}{d':Drawn}{ch:List Addr}(I:Inv X pins σ H s)
  (hch:∀b∈ch,(b∈X.ex\/X.s₀.heap.objs.size<=b)/\b≠X.env.locals/\(∀x c,X.env.cells.lookup x=some c->c≠b)/\∀p∈X.pn++pins,p.1≠b)
  (keep:∀b o,b≠X.env.locals->b∉X.fs->b∉ch->s.heap.get? b=some o->H b=none->h'.get? b=some o)
  (slot:∀b o,b≠X.env.locals->b∈X.fs->b∉ch->s.heap.get? b=some o->H b=none->∃sl,h'.get? b=some {o with slots:=sl}) (free:∀b o,b∉ch->s.heap.get? b=some o->H b=none->H' b=none)
  (there:∀b o,b∉ch->s.heap.get? b=some o->∃o',h'.get? b=some o')
  (tups:∀b xs,H b=some (.tup xs)->H' b=some (.tup xs)) (frzs:∀b o u,H b=some (.frz o u)->H' b=some (.frz o u)) (tbls:∀b ps,H b=some (.tbl ps)->∃more,H' b=some (.tbl (ps++more)))
  (ns:∀m,s.heap.Ns X.env.locals m->h'.Ns X.env.locals m) (hok:HOk X.prog X.w H' h') (hg:zb1 g') :
  Inv X pins σ H' {s with heap:=h',gens:=g',drawn:=d',toks:=t'}:=by
 have neL:∀b o,X.s₀.heap.get? b=some o->b≠X.env.locals:=λb o e=>z85 (z7I (z7T e) I.ok.above)
 have neC:∀b o,X.s₀.heap.get? b=some o->b∉X.ex->b∉ch:=λb o e hx hb=>by
  rcases (hch b hb).1 with z|z
  ·exact hx z
  ·exact absurd (z7I (z7T e) z) (z8M _)
 have cellK:∀x c,X.env.cells.lookup x=some c->∀v,s.heap.IsCell c v->h'.IsCell c v:=λx c e v ⟨o,ho,hd⟩=>by
  have nch:c∉ch:=λz=>(hch c z).2.2.1 x c e rfl
  by_cases hc:c∈X.fs
  ·obtain⟨sl,q⟩:=slot c o (I.cne x c e) hc nch ho (I.freeC x c e)
   exact⟨_,q,hd⟩
  ·exact⟨o,keep c o (I.cne x c e) hc nch ho (I.freeC x c e),hd⟩
 refine⟨I.ok,I.os,hg,⟨λb o e n hb hx=>?_,λb o e n hb hx=>?_,λb o e n hx=>?_,λb o e hx=>?_,λb xs e=>tups b xs (I.base.tups b xs e),λb o xs e=>frzs b o xs (I.base.frzs b o xs e),λb ps e=>?_⟩,?_,λx c e=>?_,?_,λx c e=>?_,λp hp=>?_,hok,I.len⟩
 ·exact keep b o (neL b o e) hb (neC b o e hx) (I.base.keep b o e n hb hx) (I.base.free b o e n hx)
 ·obtain⟨sl,e1⟩:=I.base.slot b o e n hb hx
  obtain⟨sl',e2⟩:=slot b _ (neL b o e) hb (neC b o e hx) e1 (I.base.free b o e n hx)
  exact⟨sl',e2⟩
 ·obtain⟨o',e1⟩:=I.base.there b o e hx
  exact free b o' (neC b o e hx) e1 (I.base.free b o e n hx)
 ·obtain⟨o',e1⟩:=I.base.there b o e hx
  exact there b o' (neC b o e hx) e1
 ·obtain⟨m1,e1⟩:=I.base.tbls b ps e
  obtain⟨m2,e2⟩:=tbls b _ e1
  exact⟨m1++m2,by rw[e2,Array.append_assoc]⟩
 ·obtain⟨m,hn,hl⟩:=I.loc
  refine⟨m,ns m hn,λi x v e1 e2 e3=>?_⟩
  obtain⟨u,r,l⟩:=hl i x v e1 e2 e3
  refine⟨u,r,?_⟩
  rcases l with l|⟨k,c,e,z⟩
  ·exact .inl l
  ·exact .inr ⟨k,c,e,cellK x c e _ z⟩
 ·obtain⟨v,z⟩:=I.cell x c e
  exact⟨v,cellK x c e v z⟩
 ·obtain⟨m,⟨o,_,_,ho,_⟩,_⟩:=I.loc
  exact free _ o (λz=>(hch _ z).2.1 rfl) ho I.free
 ·obtain⟨v,o,ho,hd⟩:=I.cell x c e
  exact free c o (λz=>(hch c z).2.2.1 x c e rfl) ho (I.freeC x c e)
 ·obtain⟨e,n,ne,nf,d⟩:=I.pin p hp
  have nch:p.1∉ch:=λz=>(hch p.1 z).2.2.2 p hp rfl
  exact⟨keep p.1 p.2 ne nf nch e n,free p.1 p.2 nch e n,ne,nf,d⟩
theorem Inv.un{t':Nat}(I:Inv X pins σ H s)(u:Un X.fs [] H H' s.heap h')(hok:HOk X.prog X.w H' h'):Inv X pins σ H' {s with heap:=h',toks:=t'}:=by
 obtain⟨m,⟨o,es,ep,ho,r⟩,_⟩:=id I.loc
 obtain⟨sl,hL⟩:=u.any ho I.free (by simp)
 exact I.step (g':=s.gens) (d':=s.drawn) (ch:=[]) (λ_ z=>nomatch z) (λb o _ hb _ e n=>u.keep b o e n hb (by simp)) (λb o _ hb _ e n=>u.slot b o e n hb (by simp)) (λb o _ e n=>u.free b o e n (by simp)) (λb o _ e=>u.there b o e (by simp)) u.tups u.frzs u.tbls (λm' hm=>by
  obtain⟨o',es',ep',ho',r'⟩:=hm
  rw[ho] at ho';cases ho'
  exact⟨_,es',ep',hL,r'⟩) hok I.bare
theorem Inv.call{g':Array GenState}{t':Nat}{d':Drawn}{ch:List Addr}(I:Inv X pins σ H s)(u:Un (frs X.stack) ch H H' s.heap h')(hok:HOk X.prog X.w H' h')(hg:zb1 g')
  (hch:∀b∈ch,(b∈X.ex\/X.s₀.heap.objs.size<=b)/\b≠X.env.locals/\(∀x c,X.env.cells.lookup x=some c->c≠b)/\∀p∈X.pn++pins,p.1≠b) :
  Inv X pins σ H' {s with heap:=h',gens:=g',drawn:=d',toks:=t'}:=by
 obtain⟨m,⟨o,es,ep,ho,r⟩,_⟩:=id I.loc
 obtain⟨sl,hL⟩:=u.any ho I.free λz=>(hch _ z).2.1 rfl
 exact I.step (ch:=ch) hch (λb o hL hb hc e n=>u.keep b o e n (λz=>(z88.mp (I.stkSub b z)).elim hL hb) hc) (λb o _ _ hc e n=>u.any e n hc) (λb o hc e n=>u.free b o e n hc) (λb o hc e=>u.there b o e hc) u.tups u.frzs u.tbls (λm' hm=>by
  obtain⟨o',es',ep',ho',r'⟩:=hm
  rw[ho] at ho';cases ho'
  exact⟨_,es',ep',hL,r'⟩) hok hg
theorem Inv.turned{t':Nat}{it:Addr}(I:Inv X pins σ H s)(k:∀b o,b≠it->s.heap.get? b=some o->h'.get? b=some o)(hn:H it=none)(hL:it≠X.env.locals)
  (h1:it∈X.ex\/X.s₀.heap.objs.size<=it) (h2:∀x c,X.env.cells.lookup x=some c->c≠it) (h3:∀p∈X.pn++pins,p.1≠it):Inv X pins σ H {s with heap:=h',toks:=t'}:=by
 have nit:∀b u,H b=some u->b≠it:=λb u e z=>by rw[z,hn] at e;cases e
 refine I.step (g':=s.gens) (d':=s.drawn) (ch:=[it]) (λb hb=>?_) (λb o _ _ hc e _=>k b o (λz=>hc (by simp[z])) e) (λb o _ _ hc e _=>⟨o.slots,k b o (λz=>hc (by simp[z])) e⟩) (λ_ _ _ _ n=>n)
  (λb o hc e=>⟨o,k b o (λz=>hc (by simp[z])) e⟩) (λ_ _ e=>e) (λ_ _ _ e=>e) (λb ps e=>⟨#[],by rw[e];simp⟩) (λm hm=>?_) (λb u e=>?_) I.bare
 ·have e:b=it:=by simpa using hb
  subst e
  exact⟨h1,hL,h2,h3⟩
 ·obtain⟨o,es,ep,ho,r⟩:=hm
  exact⟨o,es,ep,k _ o (z9m hL) ho,r⟩
 ·refine (I.hok b u e).stay (λc v hc q=>k c v ?_ q) (λ_ q=>q) λ_ _ q=>q
  rcases hc with z|z
  ·rw[z];exact nit b u e
  ·exact nit c _ z
theorem Inv.tok(I:Inv X pins σ H s)(t:Nat):Inv X pins σ H {s with toks:=t}:=I.un (h':=s.heap) (t':=t) Un.refl I.hok
theorem Inv.kept{t':Nat}(I:Inv X pins σ H s)(k:∀b u,s.heap.get? b=some u->h'.get? b=some u):Inv X pins σ H {s with heap:=h',toks:=t'}:=I.un (Un.kept k) (I.hok.kept k)
theorem Inv.laid{a:Addr}{o:HO}{t':Nat}(I:Inv X pins σ H s)(k:∀b u,s.heap.get? b=some u->h'.get? b=some u)(hp:s.heap.objs.size<=a)(new:ObjOk X.prog X.w (upd H a o) h' a o) :
  Inv X pins σ (upd H a o) {s with heap:=h',toks:=t'}:=I.un (Un.laid k hp (I.hok.fresh hp)) (I.hok.laid k hp new)
theorem Inv.write{x e:Addr}{o:HO}{t':Nat}(I:Inv X pins σ H s)(mu:Mut (H x))(he:e=x\/H e=some (.own x))(k:∀b u,b≠e->s.heap.get? b=some u->h'.get? b=some u)(heo:∃u,h'.get? e=some u)
  (new:ObjOk X.prog X.w (upd H x o) h' x o):Inv X pins σ (upd H x o) {s with heap:=h',toks:=t'}:=I.un (Un.write mu he k heo) (I.hok.write mu he k heo new)
theorem Inv.pins_of{pins':List (Addr×Obj)}(I:Inv X pins σ H s)(h:∀p∈pins',s.heap.get? p.1=some p.2/\H p.1=none/\p.1≠X.env.locals/\p.1∉X.fs/\∀v,p.2.data≠.cell v):Inv X pins' σ H s:=
 ⟨I.ok,I.os,I.bare,I.base,I.loc,I.cell,I.free,I.freeC,λp hp=>(z7H.mp hp).elim (λz=>I.pin p (z7S _ z)) (h p),I.hok,I.len⟩
theorem kD{N:List Str}(hN:N.Nodup){i j:Nat}{x:Str}(a:N[i]?=some x)(b:N[j]?=some x):i=j:=by
 obtain⟨h1,e1⟩:=z7v.mp a
 obtain⟨h2,e2⟩:=z7v.mp b
 exact (zbm hN).mp (e1.trans e2.symm)
theorem KR{M:zb2}{A:z89}{E:Value->z7y->Prop}{i:Nat}{x:Str}{v:V}{u:Value}{Q:Unit->z7y->Prop}(I:Inv X pins σ H s)(hN:X.N.Nodup)(hi:X.N[i]?=some x)(hx:Loc X.env.scope x)(r:RelV v u)
  (h:∀s',Inv X pins (σ.set i (some v)) H s'->(∃a,z8p a s.heap s'.heap/\(a=X.env.locals\/X.env.cells.lookup x=some a))->Q () s') (hf:X.fn x=true\/X.env.scope.names.lookup x=some .local:=by first|exact .inl rfl|exact .inr rfl|assumption):z7K M A (storeName X.env x u) Q E s:=by
 obtain⟨m,hn,hl⟩:=id I.loc
 have hcls:(X.env.scope.kind == .class || (X.env.scope.kind == .module&&X.env.locals != X.env.globals))=false:=by rw[I.ok.kind];rfl
 have hiσ:i<σ.length:=by rw[I.len];exact (z7v.mp hi).1
 have cne:=I.cne
 have tracked:∀{a:Addr} {h':Heap},(∃o,s.heap.get? a=some o/\H a=none)->z8p a s.heap h'->HOk X.prog X.w H h':=λ{a h'} ha hs b ob e=>by
  obtain⟨_,_,hfree⟩:=ha
  refine (I.hok b ob e).stay (λc w' hc q=>(hs.2 c ?_).trans q) (λ_ q=>q) λ_ _ q=>q
  rintro rfl
  rcases hc with rfl|hc
  ·rw[hfree] at e;cases e
  ·rw[hfree] at hc;cases hc
 rcases hx with hk|hk
 ·refine wpAny_storeName_local hk hn (λh' hn' hs=>?_) hcls
  obtain⟨oL,_,_,hoL,_⟩:=id hn
  refine h _ ⟨I.ok,I.os,I.bare,⟨λb o e n hb hx=>?_,λb o e n hb hx=>?_,I.base.free,λb o e hx=>?_,I.base.tups,I.base.frzs,I.base.tbls⟩,⟨_,hn',λj y v' e1 e2 e3=>?_⟩,λy c e=>?_,I.free,I.freeC,λp hp=>?_,tracked ⟨oL,hoL,I.free⟩ hs,by simpa using I.len⟩ ⟨_,hs,.inl rfl⟩
  ·exact (hs.2 b (z85 (z7I (z7T e) I.ok.above))).trans (I.base.keep b o e n hb hx)
  ·obtain⟨sl,e1⟩:=I.base.slot b o e n hb hx
   exact⟨sl,(hs.2 b (z85 (z7I (z7T e) I.ok.above))).trans e1⟩
  ·obtain⟨o',e1⟩:=I.base.there b o e hx
   exact⟨o',(hs.2 b (z85 (z7I (z7T e) I.ok.above))).trans e1⟩
  ·by_cases hj:j=i
   ·subst hj
    rw[hi] at e1;cases e1
    rw[zaj hiσ] at e2
    cases e2
    exact⟨u,r,.inl ⟨hk,by simp⟩⟩
   ·rw[z81 (z9m hj)] at e2
    obtain⟨u',r',q⟩:=hl j y v' e1 e2 e3
    refine⟨u',r',?_⟩
    rcases q with⟨k,e⟩|⟨k,c,e,z⟩
    ·refine .inl ⟨k,?_⟩
     have:y≠x:=λe=>hj (kD hN e1 (e▸hi))
     simp[this,e]
    ·exact .inr ⟨k,c,e,z.sameBut hs (cne y c e)⟩
  ·obtain⟨w',z⟩:=I.cell y c e
   exact⟨w',z.sameBut hs (cne y c e)⟩
  ·obtain⟨e,n,ne,nf,d⟩:=I.pin p hp
   exact⟨(hs.2 p.1 ne).trans e,n,ne,nf,d⟩
 ·have hfn:X.fn x=true:=by
   rcases hf with z|z
   ·exact z
   ·rw[z] at hk;cases hk
  obtain⟨c,hc⟩:=I.ok.has x (.inl hk)
  obtain⟨w',z⟩:=I.cell x c hc
  refine wpAny_storeName_cell I.ok.kind hk hc z (λh' hc' hs=>?_)
  obtain⟨oc,hoc,hocd⟩:=id z
  refine h {s with heap:=h'} ⟨I.ok,I.os,I.bare,⟨λb o e n hb hx=>?_,λb o e n hb hx=>?_,I.base.free,λb o e hx=>?_,I.base.tups,I.base.frzs,I.base.tbls⟩,⟨m,hn.sameBut hs (z9m (cne x c hc)),λj y v' e1 e2 e3=>?_⟩,λy c' e=>?_,I.free,I.freeC,λp hp=>?_,tracked ⟨oc,hoc,I.freeC x c hc⟩ hs,by simpa using I.len⟩ ⟨c,hs,.inr hc⟩
  ·exact (hs.2 b (z85 (z7I (z7T e) (I.ok.cab x c hfn hc)))).trans (I.base.keep b o e n hb hx)
  ·obtain⟨sl,e1⟩:=I.base.slot b o e n hb hx
   exact⟨sl,(hs.2 b (z85 (z7I (z7T e) (I.ok.cab x c hfn hc)))).trans e1⟩
  ·obtain⟨o',e1⟩:=I.base.there b o e hx
   exact⟨o',(hs.2 b (z85 (z7I (z7T e) (I.ok.cab x c hfn hc)))).trans e1⟩
  ·by_cases hj:j=i
   ·subst hj
    rw[hi] at e1;cases e1
    rw[zaj hiσ] at e2
    cases e2
    exact⟨u,r,.inr ⟨.inl hk,c,hc,hc'⟩⟩
   ·rw[z81 (z9m hj)] at e2
    obtain⟨u',r',q⟩:=hl j y v' e1 e2 e3
    refine⟨u',r',?_⟩
    rcases q with q|⟨k,c',e,z'⟩
    ·exact .inl q
    ·refine .inr ⟨k,c',e,z'.sameBut hs ?_⟩
     rintro rfl
     exact hj (kD hN e1 (I.ok.inj _ _ _ e hc▸hi))
  ·by_cases hcc:c'=c
   ·subst hcc;exact⟨_,hc'⟩
   ·obtain⟨w2,z2⟩:=I.cell y c' e
    exact⟨w2,z2.sameBut hs hcc⟩
  ·obtain⟨e,n,ne,nf,d⟩:=I.pin p hp
   refine⟨(hs.2 p.1 ?_).trans e,n,ne,nf,d⟩
   intro q
   rw[q,hoc] at e
   have q':oc=p.2:=z7A e
   exact d w' (by rw[←q'];exact hocd)
theorem yF{M:zb2}{A:z89}{E:Value->z7y->Prop}{i:Nat}{x:Str}{v:V}{u:Value}{Q:Unit->z7y->Prop}(I:Inv X pins σ H s)(hN:X.N.Nodup)(hi:X.N[i]?=some x)(hx:Loc X.env.scope x)(r:RelV v u)
  (h:∀s',Inv X pins (σ.set i (some v)) H s'->Q () s') (hf:X.fn x=true\/X.env.scope.names.lookup x=some .local:=by first|exact .inl rfl|exact .inr rfl|assumption):z7K M A (storeName X.env x u) Q E s:=
 KR I hN hi hx r (λs' I' _=>h s' I') hf
theorem Inv.call'{s':z7y}{ch:List Addr}(I:Inv X pins σ H s)(ho:s'.os=s.os)(u:Un (frs X.stack) ch H H' s.heap s'.heap)(hok:HOk X.prog X.w H' s'.heap)(hg:zb1 s'.gens)
  (hch:∀b∈ch,(b∈X.ex\/X.s₀.heap.objs.size<=b)/\b≠X.env.locals/\(∀x c,X.env.cells.lookup x=some c->c≠b)/\∀p∈X.pn++pins,p.1≠b):Inv X pins σ H' s':=by
 obtain⟨h',g',d',t',o'⟩:=s'
 have e:o'=s.os:=ho
 subst e
 exact I.call (g':=g') (t':=t') (d':=d') u hok hg hch
end
noncomputable abbrev XK:=Value->Option Addr->Hp->Prop
noncomputable abbrev St:=List (Option V)
noncomputable abbrev VK:=V->Hp->Prop
noncomputable abbrev TE:=St->Hp->VK->Prop
noncomputable abbrev TT:=St->Hp->(Bool->Hp->Prop)->Prop
noncomputable abbrev TA:=St->Hp->(List V->Hp->Prop)->Prop
structure Ends where
 nx:St->Hp->Prop
 rt:VK
 bk:St->Hp->Prop:=λ_ _=>False
 ct:St->Hp->Prop:=λ_ _=>False
noncomputable abbrev TS:=Ends->St->Hp->Prop
noncomputable def EP (X:Cx)(pins:List (Addr×Obj))(σ:St)(Q:VK)(u:Value)(s':z7y):Prop:=∃v H',Inv X pins σ H' s'/\RelV v u/\Q v H'
noncomputable def TP (X:Cx)(pins:List (Addr×Obj))(σ:St)(Q:Bool->Hp->Prop)(b:Bool)(s':z7y):Prop:=∃H',Inv X pins σ H' s'/\Q b H'
noncomputable def AP (X:Cx)(pins:List (Addr×Obj))(σ:St)(Q:List V->Hp->Prop)(us:List Value)(s':z7y):Prop:=∃vs H',Inv X pins σ H' s'/\Vals vs us/\Q vs H'
noncomputable def SP (X:Cx)(pins:List (Addr×Obj))(D:Ends)(f:Flow)(s':z7y):Prop:=
 match f with
 |.next=>∃σ' H',Inv X pins σ' H' s'/\D.nx σ' H'
 |.brk=>∃σ' H',Inv X pins σ' H' s'/\D.bk σ' H'
 |.cont=>∃σ' H',Inv X pins σ' H' s'/\D.ct σ' H'
 |.ret u=>∃v σ' H',Inv X pins σ' H' s'/\RelV v u/\D.rt v H'
noncomputable def PE (X:Cx)(e:Expr)(t:TE):Prop:=
 ∀(pins:List (Addr×Obj)) (s:z7y) (σ:St) (H:Hp) (Q:VK),Inv X pins σ H s->t σ H Q->z7K (z7N X.prog X.w) X.A (eval e X.env) (EP X pins σ Q) X.xe s
noncomputable def PT (X:Cx)(e:Expr)(t:TT):Prop:=
 ∀(pins:List (Addr×Obj)) (s:z7y) (σ:St) (H:Hp) (Q:Bool->Hp->Prop),Inv X pins σ H s->t σ H Q->z7K (z7N X.prog X.w) X.A (isTrue e X.env (eval e X.env)) (TP X pins σ Q) X.xe s
noncomputable def PW (X:Cx)(e:Expr)(t:TT):Prop:=
 ∀(whole:Sem Value) (pins:List (Addr×Obj)) (s:z7y) (σ:St) (H:Hp) (Q:Bool->Hp->Prop),Inv X pins σ H s->t σ H Q->z7K (z7N X.prog X.w) X.A (isTrue e X.env whole) (TP X pins σ Q) X.xe s
theorem PW.pt{X:Cx}{e:Expr}{t:TT}(h:PW X e t):PT X e t:=h _
noncomputable def PA (X:Cx)(es:List Expr)(t:TA):Prop:=
 ∀(pos:Pos) (pins:List (Addr×Obj)) (s:z7y) (σ:St) (H:Hp) (Q:List V->Hp->Prop),Inv X pins σ H s->t σ H Q->z7K (z7N X.prog X.w) X.A (spliced (z9v pos (z8l es X.env))) (AP X pins σ Q) X.xe s
noncomputable def PS (X:Cx)(st:Stmt)(t:TS):Prop:=
 ∀(pins:List (Addr×Obj)) (s:z7y) (σ:St) (H:Hp) (D:Ends),Inv X pins σ H s->t D σ H->z7K (z7N X.prog X.w) X.A (exec st X.env) (SP X pins D) X.xe s
noncomputable def PSs (X:Cx)(st:List Stmt)(t:TS):Prop:=
 ∀(pins:List (Addr×Obj)) (s:z7y) (σ:St) (H:Hp) (D:Ends),Inv X pins σ H s->t D σ H->z7K (z7N X.prog X.w) X.A (execs st X.env) (SP X pins D) X.xe s
theorem thn{α:Type}{t:Sem α}{Q Q':α->z7y->Prop}{M:zb2}{A:z89}{E:Value->z7y->Prop}{s:z7y}(h:z7K M A t Q E s)(hQ:∀a s,Q a s->Q' a s):z7K M A t Q' E s:=z8i h hQ λ_ _ x=>x
end L2
namespace L2
open PySem PySem.Spec PyProof.Rows
section
variable {X:Cx}
noncomputable def z7i (i:Nat):TE:=λσ H Q=>∃v,σ[i]?=some (some v)/\Q v H
noncomputable def tC (v:V):TE:=λ_ H Q=>Q v H
theorem z3d {i:Nat} {x:Str} {pos:Pos} (hN:X.N[i]?=some x) (hv:Vis X.env.scope x) (hd:(x == ("__debug__":Str))=false:=by decide) (hcd:(x == ("__classdict__":Str))=false:=by decide):PE X (.Name x pos) (z7i i):=by
 intro pins s σ H Q I h
 obtain⟨v,e,h⟩:=h
 obtain⟨m,hn,hl⟩:=I.loc
 obtain⟨u,r,l⟩:=hl i x v hN e hv
 have fin:EP X pins σ Q u s:=⟨v,H,I,r,h⟩
 rcases l with⟨hk,hm⟩|⟨hk,c,hc,hcell⟩
 ·exact zds (wpAny_loadName_local I.ok.kind hk hn hm fin) hd
 ·rcases hk with hk|hk
  ·exact zds (wpAny_loadName_cell I.ok.kind hk hc hcell fin) hd
  ·exact zds (wpAny_loadName_free I.ok.kind hk hc hcell fin hcd) hd
theorem z5w{i j pos}:PE X (.Constant (.int i) j pos) (tC (.int i)):=λ_ _ _ H _ I h=>wpAny_Constant_int ⟨.int i,H,I.tok _,⟨_,rfl⟩,h⟩
theorem z6L{b j pos}:PE X (.Constant (.bool b) j pos) (tC (.bl b)):=λ_ _ _ H _ I h=>Constant_bool ⟨.bl b,H,I,rfl,h⟩
theorem Y9{j pos}:PE X (.Constant .none j pos) (tC .non):=λ_ _ _ H _ I h=>Constant_none ⟨.non,H,I,rfl,h⟩
theorem z3r{x j pos}:PE X (.Constant (.str x) j pos) (tC (.str x)):=λ_ _ _ H _ I h=>Calls.Constant_str ⟨.str x,H,I.tok _,⟨_,rfl⟩,h⟩
noncomputable def Gl(X:Cx)(x:Str):Prop:=X.env.kindOf x=some .globalImplicit
theorem vB{E:Value->z7y->Prop}{pins:List (Addr×Obj)}{s:z7y}{σ:St}{H:Hp}{x:Str}{u:Value}{pos:Pos}{Q:Value->z7y->Prop}(I:Inv X pins σ H s)(hg:Gl X x)(hm:X.mg x=some u)(h:Q u s)
  (hd:(x == ("__debug__":Str))=false:=by decide):z7K (z7N X.prog X.w) X.A (eval (.Name x pos) X.env) Q E s:=
 zaN I.ok.kind hg (Calls.loadGlobal_global (by rw[I.ok.glob];exact I.mod.glob.keeps I.bk) hm h) hd
theorem vn{E:Value->z7y->Prop}{pins:List (Addr×Obj)}{s:z7y}{σ:St}{H:Hp}{x:Str}{u:Value}{pos:Pos}{Q:Value->z7y->Prop}(I:Inv X pins σ H s)(hg:Gl X x)(hm:X.mg x=none)(hv:z8W x=some u)(h:Q u s)
  (hn:x≠"__name__":=by decide) (hd:(x == ("__debug__":Str))=false:=by decide):z7K (z7N X.prog X.w) X.A (eval (.Name x pos) X.env) Q E s:=by
 obtain⟨mb,h1,h2⟩:=I.mod.blt
 exact zaN I.ok.kind hg (Calls.loadGlobal_builtin (by rw[I.ok.glob];exact I.mod.glob.keeps I.bk) hm (by rw[I.ok.blt];exact h1.keeps I.bk) ((h2 x hn).trans hv) h) hd
theorem Kh {x:Str} {v:V} {u:Value} {pos:Pos} (hg:Gl X x) (hm:X.mg x=some u) (r:RelV v u) (hd:(x == ("__debug__":Str))=false:=by decide):PE X (.Name x pos) (tC v):=
 λ_ _ _ H _ I h=>vB I hg hm ⟨v,H,I,r,h⟩ hd
theorem z0T {x:Str} {v:V} {u:Value} {pos:Pos} (hg:Gl X x) (hm:X.mg x=none) (hv:z8W x=some u) (r:RelV v u) (hn:x≠"__name__":=by decide) (hd:(x == ("__debug__":Str))=false:=by decide):PE X (.Name x pos) (tC v):=
 λ_ _ _ H _ I h=>vn I hg hm hv ⟨v,H,I,r,h⟩ hn hd
variable {a b:Expr}{ta tb:TE}{pos:Pos}
variable {tA tB':TT}{rest:List Expr}
noncomputable def wb (t u:TT):TT:=λσ H Q=>t σ H λc H1=>if c=true then u σ H1 Q else Q false H1
noncomputable def tOr (t u:TT):TT:=λσ H Q=>t σ H λc H1=>if c=true then Q true H1 else u σ H1 Q
noncomputable def q9 (t:TT):TT:=λσ H Q=>t σ H λc H1=>Q (!c) H1
theorem z0t(ha:PT X a tA):PW X (.BoolOp .And [a] pos) tA:=by
 intro wh pins s σ H Q I h
 refine isTrue_and (thn (ha pins s σ H Q I h) λc s1 e=>?_)
 cases c with
 |true=>exact isTrue_and_nil e
 |false=>exact e
theorem z4K(ha:PT X a tA):PW X (.BoolOp .Or [a] pos) tA:=by
 intro wh pins s σ H Q I h
 refine isTrue_or (thn (ha pins s σ H Q I h) λc s1 e=>?_)
 cases c with
 |false=>exact isTrue_or_nil e
 |true=>exact e
theorem z2H(ha:PT X a tA)(hb:PW X (.BoolOp .And (b::rest) pos) tB'):PW X (.BoolOp .And (a::b::rest) pos) (wb tA tB'):=by
 intro wh pins s σ H Q I h
 refine isTrue_and (thn (ha pins s σ H _ I h) λc s1 ⟨H1,I1,q1⟩=>?_)
 cases c with
 |true=>exact hb wh pins s1 σ H1 Q I1 q1
 |false=>exact⟨H1,I1,q1⟩
theorem z6J(ha:PT X a tA)(hb:PW X (.BoolOp .Or (b::rest) pos) tB'):PW X (.BoolOp .Or (a::b::rest) pos) (tOr tA tB'):=by
 intro wh pins s σ H Q I h
 refine isTrue_or (thn (ha pins s σ H _ I h) λc s1 ⟨H1,I1,q1⟩=>?_)
 cases c with
 |true=>exact⟨H1,I1,q1⟩
 |false=>exact hb wh pins s1 σ H1 Q I1 q1
theorem z2L(ha:PT X a tA):PT X (.UnaryOp .Not a pos) (q9 tA):=by
 intro pins s σ H Q I h
 exact isTrue_not (ha pins s σ H (λc H1=>Q (!c) H1) I h)
theorem z4I{op}{t:TE}(h:PE X a t):PE X (.BoolOp op [a] pos) t:=λpins s σ H Q I hw=>BoolOp_one (h pins s σ H Q I hw)
end
end L2
namespace L2
open PySem PySem.Spec PyProof.Rows
noncomputable def SqL (K:z7E)(H:Hp)(a:Addr)(xs:List V):Prop:=
 Rd H a (.lst xs)\/
  ∃(o:Obj) (its:Array Value) (n:Nat),K.lookup a=some o/\o.cls=.type "list"/\o.dict=none/\o.data=.seq its n/\its.size<=sizeLine/\Vals xs its.toList
noncomputable def SqT (K:z7E)(H:Hp)(a:Addr)(xs:List V):Prop:=
 Rd H a (.tup xs)\/
  ∃(o:Obj) (its:Array Value) (n:Nat),K.lookup a=some o/\o.cls=.type "tuple"/\o.data=.seq its n/\its.size<=sizeLine/\Vals xs its.toList
noncomputable def z7d:Value->Option V
 |.none=>some .non
 |.bool b=>some (.bl b)
 |.int i _=>some (.int i)
 |.str x _=>some (.str x)
 |.bytes b _=>some (.byt b)
 |.float b _=>some (.flt b)
 |.ref a=>some (.ref a)
 |.type n=>some (.ty n)
 |_=>none
theorem RelV.abs{x:V}{u:Value}(r:RelV x u):z7d u=some x:=by
 cases x with
 |non=>cases r;rfl
 |bl _=>cases r;rfl
 |int _=>obtain⟨t,rfl⟩:=r;rfl
 |str _=>obtain⟨t,rfl⟩:=r;rfl
 |byt _=>obtain⟨t,rfl⟩:=r;rfl
 |flt _=>obtain⟨t,rfl⟩:=r;rfl
 |ref _=>cases r;rfl
 |ty _=>cases r;rfl
theorem RelV.inj{x y:V}{u:Value}(r:RelV x u)(q:RelV y u):x=y:=z7A (r.abs.symm.trans q.abs)
theorem Vals.inj:∀{xs ys:List V} {us:List Value},Vals xs us->Vals ys us->xs=ys
 |_,_,_,.nil,.nil=>rfl
 |_,_,_,.cons r t,.cons r' t'=>by rw[r.inj r',Vals.inj t t']
section
variable {X:Cx}{pins:List (Addr×Obj)}{σ:St}{H:Hp}{s:Shared}{a:Addr}{xs ys:List V}
theorem Inv.list(I:Inv X pins σ H s)(h:SqL X.K H a xs):∃its:List Value,Vals xs its/\PlainL s.heap a its.toArray/\xs.length<=sizeLine:=by
 rcases h with h|⟨o,its,n,hk,hc,hd,hs,hz,r⟩
 ·obtain⟨z,its,n,r,e⟩:=h.ok I.hok
  exact⟨its,r,⟨_,n,e,rfl,rfl,rfl⟩,z⟩
 ·refine⟨its.toList,r,⟨o,n,I.kIn a o hk,hc,hd,by simpa using hs⟩,?_⟩
  have e:=r.length
  simp only[z8U] at e
  omega
theorem Inv.tuple(I:Inv X pins σ H s)(h:SqT X.K H a xs):∃its:List Value,Vals xs its/\zcE s.heap a its.toArray/\xs.length<=sizeLine:=by
 rcases h with h|⟨o,its,n,hk,hc,hs,hz,r⟩
 ·obtain⟨z,its,r,p⟩:=h.ok I.hok
  exact⟨its,r,p,z⟩
 ·refine⟨its.toList,r,⟨o,I.kIn a o hk,hc,n,by simpa using hs⟩,?_⟩
  have e:=r.length
  simp only[z8U] at e
  omega
theorem Inv.list_inj(I:Inv X pins σ H s)(h:SqL X.K H a xs)(h':SqL X.K H a ys):xs=ys:=by
 obtain⟨its,r,⟨o,n,e,_,_,d⟩,_⟩:=I.list h
 obtain⟨its',r',⟨o',n',e',_,_,d'⟩,_⟩:=I.list h'
 rw[e] at e';cases e'
 rw[d] at d'
 injection d' with d1 _
 have:its=its':=by simpa using congrArg zer d1
 subst this
 exact r.inj r'
theorem Inv.tuple_inj(I:Inv X pins σ H s)(h:SqT X.K H a xs)(h':SqT X.K H a ys):xs=ys:=by
 obtain⟨its,r,⟨o,e,_,n,d⟩,_⟩:=I.tuple h
 obtain⟨its',r',⟨o',e',_,n',d'⟩,_⟩:=I.tuple h'
 rw[e] at e';cases e'
 rw[d] at d'
 injection d' with d1 _
 have:its=its':=by simpa using congrArg zer d1
 subst this
 exact r.inj r'
end
noncomputable abbrev Cx.wish(X:Cx)(E:Value->z7y->Prop):Cx:={X with xe:=E}
theorem Cx.Ok.wish{X:Cx}(ok:X.Ok)(E:Value->z7y->Prop):(X.wish E).Ok:=
 ⟨ok.mod,ok.kind,ok.glob,ok.blt,ok.above,ok.inj,ok.has,ok.cab,ok.hd,ok.frames,ok.stk,ok.exf,ok.bs,ok.bsz,ok.noex,ok.exfs,ok.funs,ok.frf⟩
theorem Cx.Ok.unwish{X:Cx}{E:Value->z7y->Prop}(ok:(X.wish E).Ok):X.Ok:=
 ⟨ok.mod,ok.kind,ok.glob,ok.blt,ok.above,ok.inj,ok.has,ok.cab,ok.hd,ok.frames,ok.stk,ok.exf,ok.bs,ok.bsz,ok.noex,ok.exfs,ok.funs,ok.frf⟩
section
variable {X:Cx}{pins:List (Addr×Obj)}{σ:St}{H:Hp}{s:Shared}{E:Value->Shared->Prop}
theorem Inv.wish(I:Inv X pins σ H s)(E:Value->z7y->Prop):Inv (X.wish E) pins σ H s:=⟨I.ok.wish E,I.os,I.bare,I.base,I.loc,I.cell,I.free,I.freeC,I.pin,I.hok,I.len⟩
theorem Inv.unwish(I:Inv (X.wish E) pins σ H s):Inv X pins σ H s:=⟨I.ok.unwish,I.os,I.bare,I.base,I.loc,I.cell,I.free,I.freeC,I.pin,I.hok,I.len⟩
theorem SP.unwish{D:Ends}{f:Flow}{s':z7y}(h:SP (X.wish E) pins D f s'):SP X pins D f s':=by
 cases f with
 |next=>obtain⟨σ',H',I,q⟩:=h;exact⟨σ',H',I.unwish,q⟩
 |brk=>obtain⟨σ',H',I,q⟩:=h;exact⟨σ',H',I.unwish,q⟩
 |cont=>obtain⟨σ',H',I,q⟩:=h;exact⟨σ',H',I.unwish,q⟩
 |ret u=>obtain⟨v,σ',H',I,r,q⟩:=h;exact⟨v,σ',H',I.unwish,r,q⟩
end
section
variable {X:Cx}{st:Stmt}{rest:List Stmt}{t u:TS}{e:Expr}{te:TE}{pos:Pos}
noncomputable def z6U:TS:=λD σ H=>D.nx σ H
noncomputable def z7o (t u:TS):TS:=λD σ H=>t {D with nx:=u D} σ H
theorem Kf:PSs X [] z6U:=λ_ _ σ H _ I h=>zbP ⟨σ,H,I,h⟩
theorem Y3(h1:PS X st t)(h2:PSs X rest u):PSs X (st::rest) (z7o t u):=by
 intro pins s σ H D I h
 refine wpAny_execs_cons (thn (h1 pins s σ H {D with nx:=u D} I h) λf s1 q=>?_)
 cases f with
 |next=>
  obtain⟨σ',H',I',q⟩:=q
  exact h2 pins s1 σ' H' D I' q
 |ret v=>exact q
 |brk=>exact q
 |cont=>exact q
theorem Inv.quiet{pins:List (Addr×Obj)}{σ:St}{H:Hp}{s:z7y}(I:Inv X pins σ H s):interactive X.env=false:=by simp[interactive,I.ok.kind]
noncomputable def z6B(te:TE):TS:=λD σ H=>te σ H λ_ H1=>D.nx σ H1
theorem z18(he:PE X e te)(hs:zaw e none pos.line X.env=pure false:=by rfl):PS X (.Expr e pos) (z6B te):=by
 intro pins s σ H D I h
 exact wpAny_Expr_any (thn (he pins s σ H _ I h) λv s1 ⟨x,H1,I1,r1,q1⟩=>⟨σ,H1,I1,q1⟩) I.quiet hs
noncomputable def z73 (te:TE):TS:=λD σ H=>te σ H D.rt
theorem z3m(he:PE X e te):PS X (.Return (some e) pos) (z73 te):=by
 intro pins s σ H D I h
 exact wpAny_Return_some (thn (he pins s σ H _ I h) λv s1 ⟨x,H1,I1,r1,q1⟩=>⟨x,σ,H1,I1,r1,q1⟩)
noncomputable def z5U:TS:=λD _ H=>D.rt .non H
theorem z0w:PS X (.Return none pos) z5U:=λ_ _ σ H _ I h=>wpAny_Return_none ⟨.non,σ,H,I,rfl,h⟩
noncomputable def z7e (c:TT)(t u:TS):TS:=λD σ H=>c σ H λb H1=>if b=true then t D σ H1 else u D σ H1
theorem z6M{c:Expr}{a b:List Stmt}{tc:TT}(hc:PT X c tc)(ha:PSs X a t)(hb:PSs X b u):PS X (.If c a b pos) (z7e tc t u):=by
 intro pins s σ H D I h
 refine wpAny_If (thn (hc pins s σ H _ I h) λd s1 ⟨H1,I1,q1⟩=>?_)
 cases d with
 |true=>exact ha pins s1 σ H1 D I1 q1
 |false=>exact hb pins s1 σ H1 D I1 q1
end
noncomputable abbrev TG:=V->St->Hp->(St->Hp->Prop)->Prop
noncomputable abbrev TGs:=List V->St->Hp->(St->Hp->Prop)->Prop
noncomputable def PG (X:Cx)(target:Expr)(t:TG):Prop:=
 ∀(pins:List (Addr×Obj)) (s:z7y) (σ:St) (H:Hp) (v:V) (u:Value) (Q:St->Hp->Prop),Inv X pins σ H s->RelV v u->t v σ H Q->
  z7K (z7N X.prog X.w) X.A (zb9 target X.env u) (λ_ s'=>∃σ' H',Inv X pins σ' H' s'/\Q σ' H') X.xe s
noncomputable def PGs (X:Cx)(ts:List Expr)(t:TGs):Prop:=
 ∀(pins:List (Addr×Obj)) (s:z7y) (σ:St) (H:Hp) (vs:List V) (us:List Value) (Q:St->Hp->Prop),Inv X pins σ H s->Vals vs us->t vs σ H Q->
  z7K (z7N X.prog X.w) X.A (assignInOrder ((z9j ts X.env).map (·.2)) us) (λ_ s'=>∃σ' H',Inv X pins σ' H' s'/\Q σ' H') X.xe s
noncomputable abbrev z56:=V->V->V->Hp->(Hp->Prop)->Prop
noncomputable def z4M (X:Cx)(t:z56):Prop:=
 ∀(pins:List (Addr×Obj)) (s:z7y) (σ:St) (H:Hp) (o i v:V) (ov iv u:Value) (Q:Hp->Prop),Inv X pins σ H s->RelV o ov->RelV i iv->RelV v u->t o i v H Q->
  z7K (z7N X.prog X.w) X.A (setItem ov iv u) (λ_ s'=>∃H',Inv X pins σ H' s'/\Q H') X.xe s
section
variable {X:Cx}{pos:Pos}
noncomputable def JS(i:Nat):TG:=λv σ H Q=>Q (σ.set i (some v)) H
theorem Kc{i:Nat}{x:Str}(hN:X.N.Nodup)(hi:X.N[i]?=some x)(hx:Loc X.env.scope x)(hf:X.fn x=true\/X.env.scope.names.lookup x=some .local:=by first|exact .inl rfl|exact .inr rfl|assumption):PG X (.Name x pos) (JS i):=by
 intro pins s σ H v u Q I r h
 exact wpAny_assign_Name (yF I hN hi hx r (λs' I'=>⟨_,H,I',h⟩) hf)
noncomputable def z6Q:TGs:=λvs σ H Q=>vs=[]/\Q σ H
noncomputable def z2l(t:TG)(u:TGs):TGs:=λvs σ H Q=>∃v r,vs=v::r/\t v σ H λσ' H'=>u r σ' H' Q
theorem z0A:PGs X [] z6Q:=by
 intro pins s σ H vs us Q I r h
 obtain⟨e,h⟩:=h
 subst e
 cases r
 exact assignInOrder_nil ⟨σ,H,I,h⟩
theorem XX{e:Expr}{es:List Expr}{t:TG}{u:TGs}(h1:PG X e t)(h2:PGs X es u)
  (hs:(z9j (e::es) X.env).map (·.2)=zb9 e X.env::(z9j es X.env).map (·.2):=by rfl):PGs X (e::es) (z2l t u):=by
 intro pins s σ H vs us Q I r h
 obtain⟨v,vr,e1,h⟩:=h
 subst e1
 cases r with
 |cons r rr=>
  rw[hs]
  refine assignInOrder_cons (thn (h1 pins s σ H _ _ _ I r h) λ_ s1 ⟨σ1,H1,I1,q1⟩=>?_)
  exact h2 pins s1 σ1 H1 _ _ Q I1 rr q1
noncomputable def z7l (K:z7E)(n:Nat)(t:TGs):TG:=λv σ H Q=>∃a xs,v=.ref a/\SqT K H a xs/\xs.length=n/\t xs σ H Q
theorem z43{es:List Expr}{k:Nat}{t:TGs}{n:Nat}(hc:X.calm=true)(h:PGs X es t)
  (hn:(z9j es X.env).length=n:=by rfl) (hst:(z9j es X.env).findIdx? (·.1)=none:=by rfl):PG X (.Tuple es k pos) (z7l X.K n t):=by
 intro pins s σ H v u Q I r hw
 obtain⟨a,xs,e1,hq,hl,hw⟩:=hw
 subst e1
 cases r
 obtain⟨its,rv,ht,hz⟩:=I.tuple hq
 refine assign_Tuple_tuple (I.ok.hd hc) ht (by simp[hn,←hl,rv.length]) hst λh' hx=>?_
 have I1:Inv X pins σ H {s with heap:=h'}:=I.kept (t':=s.toks) λb o e=>hx b o (z85 (z7T e)) e
 exact h pins _ σ H xs _ Q I1 (by simpa using rv) hw
noncomputable def z77 (to ti:TE)(t:z56):TG:=λv σ H Q=>to σ H λo H1=>ti σ H1 λi H2=>t o i v H2 λH3=>Q σ H3
theorem Yz{o i:Expr}{to ti:TE}{t:z56}(ho:PE X o to)(hi:PE X i ti)(hs:z4M X t)
  (ha:∀v,zb9 (.Subscript o i pos) X.env v=(do
   let ov ←zdo [v] (eval o X.env)
   let iv ←zdo [v,ov] (eval i X.env)
   standAt pos
   zdo [v,ov,iv] (setItem ov iv v)
   release [v,ov,iv] []):=by intro _;rfl):PG X (.Subscript o i pos) (z77 to ti t):=by
 intro pins s σ H v u Q I r h
 rw[ha]
 refine z7w (z8f (thn (ho pins s σ H _ I h) λov s1 ⟨x,H1,I1,r1,q1⟩=>?_))
 refine z7w (z8f (thn (hi pins s1 σ H1 _ I1 q1) λiv s2 ⟨y,H2,I2,r2,q2⟩=>?_))
 refine z7w (z9B (z7w (z8f (thn (hs pins s2 σ H2 x y v ov iv u _ I2 r1 r2 r q2) λ_ s3 ⟨H3,I3,q3⟩=>?_))))
 exact wpAny_release ⟨σ,H3,I3,q3⟩
noncomputable def z6E (te:TE)(g:TG):TS:=λD σ H=>te σ H λx H1=>g x σ H1 D.nx
theorem Jj{tg e:Expr}{te:TE}{g:TG}(he:PE X e te)(hg:PG X tg g)(hs:zba [tg] e pos.line X.env=pure false:=by rfl)(hw:zbb [tg] e X.env=pure none:=by rfl)
  (h1:(z9j [tg] X.env).map (·.2)=[zb9 tg X.env]:=by rfl):PS X (.Assign [tg] e pos) (z6E te g):=by
 intro pins s σ H D I h
 refine wpAny_Assign_stores (thn (he pins s σ H _ I h) λv s1 ⟨x,H1,I1,r1,q1⟩=>?_) hs hw
 rw[h1]
 exact thn (hg pins s1 σ H1 x v _ I1 r1 q1) λ_ s2 q=>q
theorem z4o{i:Nat}{x:Str}{e:Expr}{te:TE}{pos':Pos}(hN:X.N.Nodup)(hi:X.N[i]?=some x)(hx:Loc X.env.scope x)(he:PE X e te)(hs:zaw e (some (.Name x pos')) pos.line X.env=pure false:=by rfl)(hf:X.fn x=true\/X.env.scope.names.lookup x=some .local:=by first|exact .inl rfl|exact .inr rfl|assumption) :
  PS X (.Assign [.Name x pos'] e pos) (z6E te (JS i)):=by
 intro pins s σ H D I h
 refine wpAny_Assign_Name (thn (he pins s σ H _ I h) λv s1 ⟨y,H1,I1,r1,q1⟩=>?_) hs
 exact yF I1 hN hi hx r1 (λs2 I2=>⟨_,H1,I2,q1⟩) hf
end
section
variable {X:Cx}{pos:Pos}
noncomputable def z30(c:TT)(tb:TS):TS:=λD σ H=>∃W:Nat->St->Hp->Prop,(∃m,W m σ H)/\∀m σ H,W m σ H->
 c σ H λb H1=>if b=true then ∃N:St->Hp->Prop,(∀σ' H',N σ' H'->∃m',m'<m/\W m' σ' H')/\tb {D with nx:=N,ct:=N,bk:=D.nx} σ H1 else D.nx σ H1
theorem YB{c:Expr}{body:List Stmt}{tc:TT}{tb:TS}(hp:zcb (z7N X.prog X.w) X.A X.env X.xe)(hc:PT X c tc)(hb:PSs X body tb):PS X (.While c body [] pos) (z30 tc tb):=by
 intro pins s σ H D I h
 obtain⟨W,⟨m0,w0⟩,turn⟩:=h
 refine wpAny_While (codeAny_whileLoop (λn s'=>∃σ' H',Inv X pins σ' H' s'/\W n σ' H') ?_ m0 ⟨σ,H,I,w0⟩)
 rintro n s1 ⟨σ1,H1,I1,w1⟩
 refine z96 hp (thn (hc pins s1 σ1 H1 _ I1 (turn n σ1 H1 w1)) λb s2 ⟨H2,I2,q2⟩=>?_)
 cases b with
 |true=>
  obtain⟨N,hN,q2⟩:=q2
  rw[if_pos rfl]
  refine z96 hp (thn (hb pins s2 σ1 H2 _ I2 q2) λf s3 q3=>?_)
  cases f with
  |next=>
   obtain⟨σ3,H3,I3,n3⟩:=q3
   obtain⟨m',hm,w3⟩:=hN σ3 H3 n3
   exact⟨m',hm,σ3,H3,I3,w3⟩
  |cont=>
   obtain⟨σ3,H3,I3,n3⟩:=q3
   obtain⟨m',hm,w3⟩:=hN σ3 H3 n3
   exact⟨m',hm,σ3,H3,I3,w3⟩
  |brk=>exact q3
  |ret v=>exact q3
 |false=>
  rw[if_neg z7_]
  exact zbP ⟨σ1,H2,I2,q2⟩
end
structure It where
 go:Nat->Hp->Prop
 yld:Nat->Hp->V->Hp->Prop
 stop:Nat->Hp->Prop
noncomputable def QD (X:Cx)(pins:List (Addr×Obj))(H:Hp)(b:Addr):Prop:=
 H b=none/\b≠X.env.locals/\b∉X.fs/\(b∈X.ex\/X.s₀.heap.objs.size<=b)/\(∀x c,X.env.cells.lookup x=some c->c≠b)/\∀p∈X.pn++pins,p.1≠b
theorem Inv.fpOk{X:Cx}{pins:List (Addr×Obj)}{σ:St}{H H':Hp}{s:z7y}{b:Addr}(I:Inv X pins σ H s)(hb:s.heap.objs.size<=b)(hn:H' b=none):QD X pins H' b:=by
 refine⟨hn,z9Q (z7I I.lt hb),I.nofs hb,.inr (z7V I.sz hb),λx c e z=>?_,λp hp z=>?_⟩
 ·obtain⟨v,q⟩:=I.cell x c e
  exact absurd (z7I q.lt (by rw[z];exact hb)) (z8M _)
 ·exact absurd (z7I (z7T (I.pin p hp).1) (by rw[z];exact hb)) (z8M _)
structure Turn(P:Program)(w:World)(K:PySem.W.Frag)(tg:Expr)(J:It)(fp:List Addr)(it:Addr)(tn:Nat->Heap->Prop):Prop where
 mem:it∈fp
 obj:∀i h,tn i h->∀b∈fp,∃o,h.get? b=some o/\∀v,o.data≠.cell v
 keep:∀i h h',tn i h->(∀b∈fp,∀o,h.get? b=some o->h'.get? b=some o)->tn i h'
 item:∀(X:Cx),X.prog=P->X.w=w->X.K=K->X.calm=true->∀(i:Nat) (pins:List (Addr×Obj)) (s:z7y) (σ:St) (H:Hp) (E:Value->z7y->Prop),Inv X pins σ H s->(∀b∈fp,QD X pins H b)->tn i s.heap->J.go i H->
  z7K (z7N P w) X.A (pyNext (.ref it)) (λr s1=>∃u,r=some u/\
   z7K (z7N P w) X.A (za7 tg (.ref it) u) (λ_ s2=>∃x H',Inv X pins σ H' s2/\RelV x u/\J.yld i H x H'/\tn (i+1) s2.heap/\∀b∈fp,H' b=none) E s1) E s
 done:∀(X:Cx),X.prog=P->X.w=w->X.K=K->X.calm=true->∀(i:Nat) (pins:List (Addr×Obj)) (s:z7y) (σ:St) (H:Hp) (E:Value->z7y->Prop),Inv X pins σ H s->(∀b∈fp,QD X pins H b)->tn i s.heap->J.stop i H->
  z7K (z7N P w) X.A (pyNext (.ref it)) (λr s1=>r=none/\Inv X pins σ H s1) E s
 self:∀(A:z89) (i:Nat) (s:z7y) (Q:Value->z7y->Prop) (E:Value->z7y->Prop),tn i s.heap->Q (.ref it) s->z7K (z7N P w) A (pyIter (.ref it)) Q E s
noncomputable abbrev TI:=St->Hp->(It->Hp->Prop)->Prop
noncomputable def PIE (X:Cx)(pins:List (Addr×Obj))(σ:St)(tg:Expr)(R:It->Hp->Prop)(itv:Value)(s2:z7y):Prop:=
 ∃(it:Addr) (fp:List Addr) (tn:Nat->Heap->Prop) (J:It) (H':Hp),itv=.ref it/\Inv X pins σ H' s2/\Turn X.prog X.w X.K tg J fp it tn/\tn 0 s2.heap/\(∀b∈fp,QD X pins H' b)/\R J H'
noncomputable def PI (X:Cx)(tg iter:Expr)(wi:TI):Prop:=
 ∀(pins:List (Addr×Obj)) (s:z7y) (σ:St) (H:Hp) (R:It->Hp->Prop),Inv X pins σ H s->wi σ H R->
  z7K (z7N X.prog X.w) X.A (eval iter X.env) (λv s1=>z7K (z7N X.prog X.w) X.A (pyIter v) (PIE X pins σ tg R) X.xe s1) X.xe s
theorem Q7{M:zb2}{A:z89}{E:Value->z7y->Prop}{s:z7y}{tg:Expr}{it:Addr}{u:Value}{o:Obj}{n:String}{vs:Array Value}{Q:Unit->z7y->Prop}(ho:s.heap.get? it=some o)(hc:o.cls=.type n)(hd:o.data=.fields vs)
    (hn:["enumerate", "zip", "dict_itemiterator", "dict_reverseitemiterator", "odict_iterator", "itertools.zip_longest", "itertools.pairwise"].contains n=false) (hQ:Q () s):z7K M A (za7 tg (.ref it) u) Q E s:=by
  unfold za7
  cases tg <;> first
    |exact z7G hQ
    | (cases u <;> first
        |exact z7G hQ
        | (refine z7w (wpAny_load ho ?_)
           rw[hc, hd]
           show z7K M A (if (["enumerate", "zip", "dict_itemiterator", "dict_reverseitemiterator", "odict_iterator", "itertools.zip_longest", "itertools.pairwise"].contains n&&vs[0]? == some (z8v _))=true then _ else _) Q E s
           rw[if_neg (by intro h;rw[hn, zdt] at h;cases h)]
           exact z7G hQ))
noncomputable def Itl (K:z7E)(a:Addr):It:=
 ⟨λi H=>∃xs x,SqL K H a xs/\xs[i]?=some x,λi H x H'=>H'=H/\∀xs,SqL K H a xs->xs[i]?=some x,λi H=>∃xs,SqL K H a xs/\xs.length<=i⟩
noncomputable def Itt (K:z7E)(a:Addr):It:=
 ⟨λi H=>∃xs x,SqT K H a xs/\xs[i]?=some x,λi H x H'=>H'=H/\∀xs,SqT K H a xs->xs[i]?=some x,λi H=>∃xs,SqT K H a xs/\xs.length<=i⟩
noncomputable def Itr(lo:Int)(n:Nat):It:=⟨λi _=>i<n,λi H x H'=>H'=H/\x=.int (lo+i),λi _=>n<=i⟩
theorem Qk{P:z8e}{w:z8s}{K:z7E}{tg:Expr}(a it:Addr):Turn P w K tg (Itl K a) [it] it (λi h=>h.IsListIter it a i) where
 mem:=by simp
 obj:=λi h st b hb=>by
  have e:b=it:=by simpa using hb
  subst e
  obtain⟨o,e,c,d⟩:=st
  exact⟨o,e,λv z=>by rw[d] at z;cases z⟩
 keep:=λi h h' st k=>st.at λo e=>k it (by simp) o e
 item:=by
  intro X hP hw hK hc i pins s σ H E I hf st hg
  subst hP hw hK
  obtain⟨xs,x,hq,hx⟩:=hg
  obtain⟨its,rv,p,hz⟩:=I.list hq
  obtain⟨u,hu,ru⟩:=rv.get hx
  obtain⟨f0,f1,f2,f3,f4,f5⟩:=hf it (by simp)
  refine wpAny_pyNext_list_item st p.isList (x:=u) (by simpa using hu) λh' st' sb=>?_
  have I1:Inv X pins σ H {s with heap:=h'}:=I.turned (t':=s.toks) (λb o hb e=>(sb.2 b hb).trans e) f0 f1 f3 f4 f5
  obtain⟨o,e,c,d⟩:=id st'
  exact⟨u,rfl,Q7 (s:={s with heap:=h'}) e c d (by decide) ⟨x,H,I1,ru,⟨rfl,λys hy=>by rw[I.list_inj hy hq];exact hx⟩,st',λb hb=>(hf b hb).1⟩⟩
 done:=by
  intro X hP hw hK hc i pins s σ H E I hf st hg
  subst hP hw hK
  obtain⟨xs,hq,hx⟩:=hg
  obtain⟨its,rv,p,hz⟩:=I.list hq
  obtain⟨f0,f1,f2,f3,f4,f5⟩:=hf it (by simp)
  have hl:=rv.length
  exact wpAny_pyNext_list_end (I.ok.hd hc) st p.isList (by simp;omega) λh' eb=>⟨rfl,I.turned (t':=s.toks) (λb o hb e=>eb b o hb e) f0 f1 f3 f4 f5⟩
 self:=λ_ _ _ _ _ st h=>wpAny_pyIter_listiter st h
theorem VX{P:z8e}{w:z8s}{K:z7E}{tg:Expr}(a it:Addr):Turn P w K tg (Itt K a) [it] it (λi h=>h.IsTupleIter it a i) where
 mem:=by simp
 obj:=λi h st b hb=>by
  have e:b=it:=by simpa using hb
  subst e
  obtain⟨o,e,c,d⟩:=st
  exact⟨o,e,λv z=>by rw[d] at z;cases z⟩
 keep:=λi h h' st k=>st.at λo e=>k it (by simp) o e
 item:=by
  intro X hP hw hK hc i pins s σ H E I hf st hg
  subst hP hw hK
  obtain⟨xs,x,hq,hx⟩:=hg
  obtain⟨its,rv,p,hz⟩:=I.tuple hq
  obtain⟨u,hu,ru⟩:=rv.get hx
  obtain⟨f0,f1,f2,f3,f4,f5⟩:=hf it (by simp)
  refine wpAny_pyNext_tuple_item st (show s.heap.IsTuple a its.toArray from p) (x:=u) (by simpa using hu) λh' st' sb=>?_
  have I1:Inv X pins σ H {s with heap:=h'}:=I.turned (t':=s.toks) (λb o hb e=>(sb.2 b hb).trans e) f0 f1 f3 f4 f5
  obtain⟨o,e,c,d⟩:=id st'
  exact⟨u,rfl,Q7 (s:={s with heap:=h'}) e c d (by decide) ⟨x,H,I1,ru,⟨rfl,λys hy=>by rw[I.tuple_inj hy hq];exact hx⟩,st',λb hb=>(hf b hb).1⟩⟩
 done:=by
  intro X hP hw hK hc i pins s σ H E I hf st hg
  subst hP hw hK
  obtain⟨xs,hq,hx⟩:=hg
  obtain⟨its,rv,p,hz⟩:=I.tuple hq
  obtain⟨f0,f1,f2,f3,f4,f5⟩:=hf it (by simp)
  have hl:=rv.length
  exact wpAny_pyNext_tuple_end (I.ok.hd hc) st (show s.heap.IsTuple a its.toArray from p) (by simp;omega) λh' eb=>⟨rfl,I.turned (t':=s.toks) (λb o hb e=>eb b o hb e) f0 f1 f3 f4 f5⟩
 self:=λ_ _ _ _ _ st h=>wpAny_pyIter_tupleiter st h
end L2
namespace L2
open PySem PySem.Spec PyProof.Rows
section
variable {X:Cx}{tg:Expr}
noncomputable def JK(ta:TA):TI:=λσ H R=>ta σ H λvs H1=>∃i j:Int,vs=[.int i,.int j]/\(-(2 ^ 62)<=i/\i<2 ^ 62 /\ -(2 ^ 62)<=j/\j<2 ^ 62)/\R (Itr i (j-i).toNat) H1
noncomputable def z79 (wi:TI)(g:TG)(tb:TS):TS:=λD σ H=>wi σ H λJ H1=>∃W:Nat->Nat->St->Hp->Prop,(∃m,W 0 m σ H1)/\∀i m σ H,W i m σ H->
 (J.stop i H/\D.nx σ H)\/(J.go i H/\∃N:St->Hp->Prop,(∀σ' H',N σ' H'->∃m',m'<m/\W (i+1) m' σ' H')/\∀x H',J.yld i H x H'->g x σ H' λσ2 H2=>tb {D with nx:=N,ct:=N,bk:=D.nx} σ2 H2)
noncomputable def Z1(fp:List Addr)(h:Heap):List (Addr×Obj):=fp.filterMap λb=>(h.get? b).map λo=>(b,o)
theorem vq{fp:List Addr}{h:Heap}{b:Addr}{o:Obj}(hb:b∈fp)(e:h.get? b=some o):(b,o)∈Z1 fp h:=z9w.mpr ⟨b,hb,by rw[e];rfl⟩
theorem KW{fp:List Addr}{h:Heap}{p:Addr×Obj}(hp:p∈Z1 fp h):p.1∈fp/\h.get? p.1=some p.2:=by
 obtain⟨b,hb,e⟩:=z9w.mp hp
 cases q:h.get? b with
 |none=>rw[q] at e;cases e
 |some o=>
  rw[q] at e
  have e':(b,o)=p:=z7A e
  subst e'
  exact⟨hb,q⟩
theorem Inv.pinned{pins:List (Addr×Obj)}{σ:St}{H:Hp}{s:z7y}{fp:List Addr}(I:Inv X pins σ H s)(hf:∀b∈fp,QD X pins H b)(ho:∀b∈fp,∃o,s.heap.get? b=some o/\∀v,o.data≠.cell v):Inv X (pins++Z1 fp s.heap) σ H s:=
 I.pins_of λp hp=>(z7H.mp hp).elim (λz=>I.pin p (z7J _ z)) λz=>by
  obtain⟨hb,e⟩:=KW z
  obtain⟨f0,f1,f2,_⟩:=hf p.1 hb
  obtain⟨o,e',d⟩:=ho p.1 hb
  rw[e] at e';cases e'
  exact⟨e,f0,f1,f2,d⟩
theorem Inv.unpinned{pins pl:List (Addr×Obj)}{σ:St}{H:Hp}{s:z7y}(I:Inv X (pins++pl) σ H s):Inv X pins σ H s:=I.pins_of λp hp=>I.pin p (z7J _ (z7S _ hp))
theorem z3A{iter:Expr}{body:List Stmt}{wi:TI}{g:TG}{tb:TS}{pos:Pos}(hp:zcb (z7N X.prog X.w) X.A X.env X.xe)(hc:X.calm=true)(hi:PI X tg iter wi)(hg:PG X tg g)(hb:PSs X body tb)
  (hs:∀x,z8G iter X.env x=pure x:=by intro _;rfl):PS X (.For tg iter body [] pos) (z79 wi g tb):=by
 intro pins s σ H D I h
 refine wpAny_For (thn (hi pins s σ H _ I h) λv s1 h1=>thn h1 λitv s2 h2=>?_) hs
 obtain⟨it,fp,tn,J,H2,e,I2,T,st2,f2,W,⟨m0,w0⟩,turn⟩:=h2
 subst e
 have stat:∀{H':Hp},(∀b∈fp,H' b=none)->∀b∈fp,QD X pins H' b:=λhn b hb=>⟨hn b hb,(f2 b hb).2⟩
 refine codeAny_forLoop_any (λn s'=>∃i σ' H',Inv X pins σ' H' s'/\tn i s'.heap/\(∀b∈fp,H' b=none)/\W i n σ' H') ?_ m0 ⟨0,σ,H2,I2,st2,λb hb=>(f2 b hb).1,w0⟩
 rintro n s3 ⟨i,σ3,H3,I3,st3,fr3,w3⟩
 rcases turn i n σ3 H3 w3 with⟨stop,qn⟩|⟨go,N,hN,step⟩
 ·refine z96 hp (thn (T.done X rfl rfl rfl hc i pins s3 σ3 H3 X.xe I3 (stat fr3) st3 stop) λr s4 ⟨hr,I4⟩=>?_)
  subst hr
  exact zbP ⟨σ3,H3,I4,qn⟩
 ·refine z96 hp (thn (T.item X rfl rfl rfl hc i pins s3 σ3 H3 X.xe I3 (stat fr3) st3 go) λr s4 ⟨u,hr,h4⟩=>?_)
  subst hr
  refine z96 hp (thn h4 λ_ s5 ⟨x,H5,I5,r5,y5,st5,fr5⟩=>?_)
  have I5':=I5.pinned (stat fr5) (T.obj _ _ st5)
  refine z96 hp (thn (hg _ s5 σ3 H5 x u _ I5' r5 (step x H5 y5)) λ_ s6 ⟨σ6,H6,I6,q6⟩=>?_)
  refine z96 hp (thn (hb _ s6 σ6 H6 _ I6 q6) λf s7 q7=>?_)
  have again:∀{σ7:St} {H7:Hp},Inv X (pins++Z1 fp s5.heap) σ7 H7 s7->N σ7 H7->∃m,m<n/\∃i σ' H',Inv X pins σ' H' s7/\tn i s7.heap/\(∀b∈fp,H' b=none)/\W i m σ' H':=λ{σ7 H7} I7 n7=>by
   obtain⟨m',hm,w7⟩:=hN σ7 H7 n7
   refine⟨m',hm,i+1,σ7,H7,I7.unpinned,T.keep _ _ _ st5 λb hb o e=>(I7.pin (b,o) (z7J _ (z7J _ (vq hb e)))).1,λb hb=>?_,w7⟩
   obtain⟨o,e,d⟩:=T.obj _ _ st5 b hb
   exact (I7.pin (b,o) (z7J _ (z7J _ (vq hb e)))).2.1
  cases f with
  |next=>obtain⟨σ7,H7,I7,n7⟩:=q7;exact again I7 n7
  |cont=>obtain⟨σ7,H7,I7,n7⟩:=q7;exact again I7 n7
  |brk=>obtain⟨σ7,H7,I7,q7⟩:=q7;exact⟨σ7,H7,I7.unpinned,q7⟩
  |ret v=>obtain⟨x7,σ7,H7,I7,r7,q7⟩:=q7;exact⟨x7,σ7,H7,I7.unpinned,r7,q7⟩
end
end L2
namespace L2
open PySem PySem.Spec PyProof.Rows
noncomputable abbrev R2:=V->V->Hp->VK->Prop
noncomputable def OpR (X:Cx)(f:Value->Value->Sem Value)(r:R2):Prop:=
 ∀(pins:List (Addr×Obj)) (s:z7y) (σ:St) (H:Hp) (x y:V) (v u:Value) (Q:VK),Inv X pins σ H s->RelV x v->RelV y u->r x y H Q->
  z7K (z7N X.prog X.w) X.A (f v u) (EP X pins σ Q) X.xe s
noncomputable def UnR (X:Cx)(f:Value->Sem Value)(r:V->Hp->VK->Prop):Prop:=
 ∀(pins:List (Addr×Obj)) (s:z7y) (σ:St) (H:Hp) (x:V) (v:Value) (Q:VK),Inv X pins σ H s->RelV x v->r x H Q->
  z7K (z7N X.prog X.w) X.A (f v) (EP X pins σ Q) X.xe s
noncomputable def K7(X:Cx)(f:Value)(r:List V->Hp->VK->Prop):Prop:=
 ∀(pins:List (Addr×Obj)) (s:z7y) (σ:St) (H:Hp) (xs:List V) (us:List Value) (Q:VK),Inv X pins σ H s->Vals xs us->r xs H Q->
  z7K (z7N X.prog X.w) X.A (call f us) (EP X pins σ Q) X.xe s
noncomputable def rI (C:Int->Int->Prop)(g:Int->Int->V):R2:=λx y H Q=>∃i j,x=.int i/\y=.int j/\C i j/\Q (g i j) H
noncomputable def rI0 (g:Int->Int->V):R2:=λx y H Q=>∃i j,x=.int i/\y=.int j/\Q (g i j) H
noncomputable def rU (g:Int->V):V->Hp->VK->Prop:=λx H Q=>∃i,x=.int i/\Q (g i) H
section
variable {X:Cx}{a b c:Expr}{ta tb tc:TE}{pos:Pos}
theorem opI{f:Value->Value->Sem Value}{C:Int->Int->Prop}{g:Int->Int->Int}
  (rule:∀(i j:Int) (t u:Tok) (s:z7y) (Q:Value->z7y->Prop) (E:Value->z7y->Prop),C i j->Q (.int (g i j) s.toks) {s with toks:=s.toks+1}->z7K (z7N X.prog X.w) X.A (f (.int i t) (.int j u)) Q E s) :
  OpR X f (rI C λi j=>.int (g i j)):=by
 intro pins s σ H x y v u Q I rx ry h
 obtain⟨i,j,rfl,rfl,hc,q⟩:=h
 obtain⟨t,rfl⟩:=rx
 obtain⟨t',rfl⟩:=ry
 exact rule i j t t' s _ _ hc ⟨.int (g i j),H,I.tok _,⟨_,rfl⟩,q⟩
theorem z47{f:Value->Value->Sem Value}{g:Int->Int->Int}
  (rule:∀(i j:Int) (t u:Tok) (s:z7y) (Q:Value->z7y->Prop) (E:Value->z7y->Prop),Q (.int (g i j) s.toks) {s with toks:=s.toks+1}->z7K (z7N X.prog X.w) X.A (f (.int i t) (.int j u)) Q E s) :
  OpR X f (rI0 λi j=>.int (g i j)):=by
 intro pins s σ H x y v u Q I rx ry h
 obtain⟨i,j,rfl,rfl,q⟩:=h
 obtain⟨t,rfl⟩:=rx
 obtain⟨t',rfl⟩:=ry
 exact rule i j t t' s _ _ ⟨.int (g i j),H,I.tok _,⟨_,rfl⟩,q⟩
theorem z0E{f:Value->Value->Sem Value}{g:Int->Int->Bool}
  (rule:∀(i j:Int) (t u:Tok) (s:z7y) (Q:Value->z7y->Prop) (E:Value->z7y->Prop),Q (.bool (g i j)) s->z7K (z7N X.prog X.w) X.A (f (.int i t) (.int j u)) Q E s) :
  OpR X f (rI0 λi j=>.bl (g i j)):=by
 intro pins s σ H x y v u Q I rx ry h
 obtain⟨i,j,rfl,rfl,q⟩:=h
 obtain⟨t,rfl⟩:=rx
 obtain⟨t',rfl⟩:=ry
 exact rule i j t t' s _ _ ⟨.bl (g i j),H,I,rfl,q⟩
noncomputable def z76(i j:Int):Prop:=0<=j/\j<=1000000/\i.natAbs<2 ^ 64
noncomputable def CMul(i j:Int):Prop:=(-(2 ^ 64)<i/\i<2 ^ 64)\/(-(2 ^ 64)<j/\j<2 ^ 64)
theorem CMul.ok{i j:Int}(h:CMul i j):IntMulOk i j:=by
 rcases h with⟨h1,h2⟩|⟨h1,h2⟩
 ·exact .of_left (intBits_le_64 h1 h2)
 ·exact .of_right (intBits_le_64 h1 h2)
theorem Vz(k:Nat):(0:Int)<=2 ^ k:=by
 rw[two_pow_cast]
 exact Int.natCast_nonneg _
theorem z5t:OpR X (z97 .Add) (rI0 λi j=>.int (i+j)):=z47 λ_ _ _ _ _ _ _ q=>add_int q
theorem z2J:OpR X (z97 .Sub) (rI0 λi j=>.int (i-j)):=z47 λ_ _ _ _ _ _ _ q=>sub_int q
theorem z3X:OpR X (z97 .Mult) (rI CMul λi j=>.int (i * j)):=opI λ_ _ _ _ _ _ _ hc q=>mul_int q hc.ok
theorem z2N:OpR X (z97 .Mod) (rI (λ_ j=>0<j) λi j=>.int (i % j)):=opI λi j _ _ _ _ _ hc q=>by
 have h1:(0:Int)<j:=hc
 exact mod_int' (by omega) (by rw[Int.fmod_eq_emod_of_nonneg i (by omega)];exact q)
theorem z3p:OpR X (z97 .Pow) (rI z76 λi j=>.int (i ^ j.toNat)):=opI λ_ _ _ _ _ _ _ hc q=>pow_int_small hc.1 hc.2.1 hc.2.2 q
theorem z3i:OpR X (z97 .RShift) (rI (λ_ j=>0<=j) λi j=>.int (i / 2 ^ j.toNat)):=opI λi j _ _ _ _ _ hc q=>
 rshift_int hc (by rw[zaO i (Vz _)];exact q)
theorem z4e:OpR X (z97 .BitAnd) (rI0 λi j=>.int (zdu i j)):=z47 λ_ _ _ _ _ _ _ q=>and_int q
theorem unI{f:Value->Sem Value}{g:Int->Int}
  (rule:∀(i:Int) (t:Tok) (s:z7y) (Q:Value->z7y->Prop) (E:Value->z7y->Prop),Q (.int (g i) s.toks) {s with toks:=s.toks+1}->z7K (z7N X.prog X.w) X.A (f (.int i t)) Q E s) :
  UnR X f (rU λi=>.int (g i)):=by
 intro pins s σ H x v Q I rx h
 obtain⟨i,rfl,q⟩:=h
 obtain⟨t,rfl⟩:=rx
 exact rule i t s _ _ ⟨.int (g i),H,I.tok _,⟨_,rfl⟩,q⟩
theorem z3O:UnR X (unaryOp .USub) (rU λi=>.int (-i)):=unI λ_ _ _ _ _ q=>neg_int q
end
noncomputable def z1y:V->V->Bool
 |.non,.non=>true|.non,.int _=>true|.int _,.non=>true|.non,.bl _=>true|.bl _,.non=>true|.non,.str _=>true|.str _,.non=>true
 |.int _,.int _=>true|.bl _,.bl _=>true|.str _,.str _=>true|.byt _,.byt _=>true
 |.int _,.str _=>true|.str _,.int _=>true|.bl _,.str _=>true|.str _,.bl _=>true
 |_,_=>false
noncomputable def rEq:R2:=λx y H Q=>z1y x y=true/\Q (.bl (decide (x=y))) H
noncomputable def rNe:R2:=λx y H Q=>z1y x y=true/\Q (.bl (!decide (x=y))) H
theorem Kg{i j:Int}:decide (V.int i=V.int j)=(i == j):=by
 rw[za8]
 simp
theorem z0c{i j:Bool}:decide (V.bl i=V.bl j)=(i == j):=by
 rw[za8]
 simp
theorem JL{i j:Str}:decide (V.str i=V.str j)=(i == j):=by
 rw[za8]
 simp
theorem K4{i j:Array UInt8}:decide (V.byt i=V.byt j)=(i.toList == j.toList):=by
 rw[za8]
 cases i
 cases j
 simp
section
variable {X:Cx}{a b c:Expr}{ta tb tc:TE}{pos:Pos}
theorem zr{pins:List (Addr×Obj)}{σ:St}{H:Hp}{s:z7y}{Q:VK}{k k':Bool}(I:Inv X pins σ H s)(q:Q (.bl k) H)(e:k=k'):EP X pins σ Q (.bool k') s:=by
 subst e
 exact⟨.bl k,H,I,rfl,q⟩
theorem z6V:OpR X (z8h .Eq) rEq:=by
 intro pins s σ H x y v u Q I rx ry h
 obtain⟨hs,q⟩:=h
 cases x with
 |non=>
  cases rx
  cases y with
  |non=>cases ry;exact zdM (zr I q (by simp))
  |bl j=>cases ry;exact zdN (zr I q (by simp))
  |int j=>obtain⟨t',rfl⟩:=ry;exact zdZ (zr I q (by simp))
  |str j=>obtain⟨t',rfl⟩:=ry;exact zd_ (zr I q (by simp))
  |_=>exact absurd (show false=true from hs) z7_
 |bl i=>
  cases rx
  cases y with
  |non=>cases ry;exact zdO (zr I q (by simp))
  |bl j=>cases ry;exact eq_bool (zr I q z0c)
  |str j=>obtain⟨t',rfl⟩:=ry;exact zdP (zr I q (by simp))
  |_=>exact absurd (show false=true from hs) z7_
 |int i=>
  obtain⟨t,rfl⟩:=rx
  cases y with
  |non=>cases ry;exact zea (zr I q (by simp))
  |int j=>obtain⟨t',rfl⟩:=ry;exact eq_int (zr I q Kg)
  |str j=>obtain⟨t',rfl⟩:=ry;exact zeb (zr I q (by simp))
  |_=>exact absurd (show false=true from hs) z7_
 |str i=>
  obtain⟨t,rfl⟩:=rx
  cases y with
  |non=>cases ry;exact zec (zr I q (by simp))
  |bl j=>cases ry;exact zdQ (zr I q (by simp))
  |int j=>obtain⟨t',rfl⟩:=ry;exact zed (zr I q (by simp))
  |str j=>obtain⟨t',rfl⟩:=ry;exact eq_str (zr I q JL)
  |_=>exact absurd (show false=true from hs) z7_
 |byt i=>
  obtain⟨t,rfl⟩:=rx
  cases y with
  |byt j=>obtain⟨t',rfl⟩:=ry;exact PySem.W.eq_bytes (zr I q K4)
  |_=>exact absurd (show false=true from hs) z7_
 |_=>cases y<;>exact absurd (show false=true from hs) z7_
theorem z5J:OpR X (z8h .NotEq) rNe:=by
 intro pins s σ H x y v u Q I rx ry h
 obtain⟨hs,q⟩:=h
 cases x with
 |non=>
  cases rx
  cases y with
  |non=>cases ry;exact zdR (zr I q (by simp))
  |bl j=>cases ry;exact zdS (zr I q (by simp))
  |int j=>obtain⟨t',rfl⟩:=ry;exact zee (zr I q (by simp))
  |str j=>obtain⟨t',rfl⟩:=ry;exact zef (zr I q (by simp))
  |_=>exact absurd (show false=true from hs) z7_
 |bl i=>
  cases rx
  cases y with
  |non=>cases ry;exact zdT (zr I q (by simp))
  |bl j=>cases ry;exact ne_bool (zr I q (congrArg not z0c))
  |str j=>obtain⟨t',rfl⟩:=ry;exact zdU (zr I q (by simp))
  |_=>exact absurd (show false=true from hs) z7_
 |int i=>
  obtain⟨t,rfl⟩:=rx
  cases y with
  |non=>cases ry;exact zeg (zr I q (by simp))
  |int j=>obtain⟨t',rfl⟩:=ry;exact ne_int (zr I q (congrArg not Kg))
  |str j=>obtain⟨t',rfl⟩:=ry;exact zeh (zr I q (by simp))
  |_=>exact absurd (show false=true from hs) z7_
 |str i=>
  obtain⟨t,rfl⟩:=rx
  cases y with
  |non=>cases ry;exact zei (zr I q (by simp))
  |bl j=>cases ry;exact zdV (zr I q (by simp))
  |int j=>obtain⟨t',rfl⟩:=ry;exact zej (zr I q (by simp))
  |str j=>obtain⟨t',rfl⟩:=ry;exact ne_str (zr I q (congrArg not JL))
  |_=>exact absurd (show false=true from hs) z7_
 |byt i=>
  obtain⟨t,rfl⟩:=rx
  cases y with
  |byt j=>obtain⟨t',rfl⟩:=ry;exact PySem.W.ne_bytes (zr I q (congrArg not K4))
  |_=>exact absurd (show false=true from hs) z7_
 |_=>cases y<;>exact absurd (show false=true from hs) z7_
theorem z5V:OpR X (z8h .Lt) (rI0 λi j=>.bl (decide (i<j))):=z0E λ_ _ _ _ _ _ _ q=>zeI q
theorem z6l:OpR X (z8h .LtE) (rI0 λi j=>.bl (decide (i<=j))):=z0E λ_ _ _ _ _ _ _ q=>zeL q
theorem z6g:OpR X (z8h .Gt) (rI0 λi j=>.bl (decide (j<i))):=z0E λ_ _ _ _ _ _ _ q=>gt_int q
theorem z5I:OpR X (z8h .GtE) (rI0 λi j=>.bl (decide (j<=i))):=z0E λ_ _ _ _ _ _ _ q=>ge_int q
theorem KD:OpR X (z8h .In) (λx y H Q=>∃i j,x=.str i/\y=.str j/\Q (.bl (!(z8Q j i 0 j.length 1).isEmpty)) H):=by
 intro pins s σ H x y v u Q I rx ry h
 obtain⟨i,j,rfl,rfl,q⟩:=h
 obtain⟨t,rfl⟩:=rx
 obtain⟨t',rfl⟩:=ry
 exact in_str (zr I q rfl)
theorem z3h:OpR X (z8h .Is) (λx y H Q=>y=.non/\Q (.bl (decide (x=.non))) H):=by
 intro pins s σ H x y v u Q I rx ry h
 obtain⟨rfl,q⟩:=h
 cases ry
 refine is_none_gen (zr I q ?_)
 cases x<;>first
  |(cases rx;rfl)
  |(obtain⟨t,rfl⟩:=rx;rfl)
theorem z1_:OpR X (z8h .IsNot) (λx y H Q=>y=.non/\Q (.bl (!decide (x=.non))) H):=by
 intro pins s σ H x y v u Q I rx ry h
 obtain⟨rfl,q⟩:=h
 cases ry
 refine isnot_none_gen (zr I q ?_)
 cases x<;>first
  |(cases rx;rfl)
  |(obtain⟨t,rfl⟩:=rx;rfl)
theorem QS:OpR X (z8h .NotIn) (λx y H Q=>∃i j,x=.str i/\y=.str j/\Q (.bl (!(!(z8Q j i 0 j.length 1).isEmpty))) H):=by
 intro pins s σ H x y v u Q I rx ry h
 obtain⟨i,j,rfl,rfl,q⟩:=h
 obtain⟨t,rfl⟩:=rx
 obtain⟨t',rfl⟩:=ry
 exact notIn_str (zr I q rfl)
theorem YG(b:Expr){op:z8_}(h:op≠.In:=by decide)(h2:op≠.NotIn:=by decide):zcj op b=false:=by
 have e1:(op == CmpOp.In)=false:=by cases op<;>first|rfl|exact absurd rfl h
 have e2:(op == CmpOp.NotIn)=false:=by cases op<;>first|rfl|exact absurd rfl h2
 cases b<;>simp[zcj,e1,e2]
theorem y_:(sizeLine:Nat)<2 ^ 63:=by rw[z90];decide
theorem VH:OpR X (z97 .Add) (λx y H Q=>∃i j,x=.str i/\y=.str j/\i.length+j.length<=sizeLine/\Q (.str (i++j)) H):=by
 intro pins s σ H x y v u Q I rx ry h
 obtain⟨i,j,rfl,rfl,hz,q⟩:=h
 obtain⟨t,rfl⟩:=rx
 obtain⟨t',rfl⟩:=ry
 exact add_str (λt' tk=>⟨.str (i++j),H,I.tok _,⟨_,rfl⟩,q⟩) hz
theorem vals1{x:V}{us:List Value}(r:Vals [x] us):∃u,us=[u]/\RelV x u:=by
 cases r with
 |cons r1 r2=>cases r2;exact⟨_,rfl,r1⟩
theorem vals2{x y:V}{us:List Value}(r:Vals [x,y] us):∃u w',us=[u,w']/\RelV x u/\RelV y w':=by
 cases r with
 |cons r1 r2=>
  cases r2 with
  |cons r3 r4=>cases r4;exact⟨_,_,rfl,r1,r3⟩
theorem Q8:K7 X (.type "int") (λxs H Q=>(∃i,xs=[.int i]/\Q (.int i) H)\/∃k,xs=[.bl k]/\Q (.int (if k then 1 else 0)) H):=by
 intro pins s σ H xs us Q I r h
 rcases h with⟨i,rfl,q⟩|⟨k,rfl,q⟩
 ·obtain⟨u,rfl,t,rfl⟩:=vals1 r
  exact call_int_int ⟨.int i,H,I,⟨_,rfl⟩,q⟩
 ·obtain⟨u,rfl,r1⟩:=vals1 r
  cases r1
  exact call_int_bool ⟨.int (if k then 1 else 0),H,I.tok _,⟨_,rfl⟩,q⟩
end
end L2
namespace L2
open PySem PySem.Spec PyProof.Rows
structure ObjM(h:Heap)(x dx C:Addr)(mA:Str->Option Value):Prop where
 obj:h.get? x=some (z8R C dx)
 ns:h.Ns1 dx mA
 ne:dx≠x
theorem KY{h:Heap}{dx:Addr}{mA:Str->Option Value}(n:h.Ns1 dx mA):∃od,h.get? dx=some od/\∀name,zaP name od=some (mA name):=by
 obtain⟨o,es,ep,ho,hd,hk,_,hm⟩:=n
 refine⟨o,ho,λname=>?_⟩
 have e:=hm name
 unfold nsFind findBy at e
 rw[←Array.find?_toList] at e
 unfold zaP
 rw[hd]
 dsimp only
 split
 ·rename_i y q
  rw[q] at e
  exact congrArg some e
 ·rename_i q
  rw[q] at e
  have a:es.toList.any (·.refKey)=false:=by
   rw[zcG]
   intro y hy
   obtain⟨z,t,hkey⟩:=hk y (Array.mem_toList_iff.mp hy)
   simp[DictEntry.refKey,hkey]
  have a':¬es.toList.any (·.refKey)=true:=by rw[a];exact z7_
  rw[if_neg a']
  exact congrArg some e
theorem ObjM.look{h:Heap}{x dx C:Addr}{mA:Str->Option Value}(I:ObjM h x dx C mA):∃od,PySem.W.InstAt h x (z8R C dx) C (some od)/\∀name,zaP name od=some (mA name):=
 let ⟨od,ho,hl⟩:=KY I.ns
 ⟨od,⟨I.obj,rfl,rfl,ho⟩,hl⟩
section
variable {prog:Program}{w:World}{A:Around}{E:Value->Shared->Prop}{s:Shared}{K:PySem.W.Frag}{x dx C f:Addr}{mA:Str->Option Value}{name:Str}{v:Value}
theorem get_map{expr:Bool}{Q:Value->z7y->Prop}(X:K.In s.heap)(I:ObjM s.heap x dx C mA)(hg:z9R K C name=true)(hh:z9G K C=true)
  (ha:z84 K (.ref C) name=some none) (hv:mA name=some v) (hv':zd3 v=true) (h:Q v {s with toks:=s.toks+1}) :
  z7K (z7N prog w) A (getAttr (.ref x) name expr) Q E s:=by
 obtain⟨od,J,hl⟩:=I.look
 exact PySem.W.get_value X J (z9n hg).1 (PySem.W.findObj_own hh ha rfl (by rw[hl,hv])) hv' h
theorem U_{pl:Sem Bool}{Q:Value×List Value->z7y->Prop}(X:K.In s.heap)(I:ObjM s.heap x dx C mA)(hg:z9R K C name=true)
  (hf:z84 K (.ref C) name=some (some (.ref f))) (ht:zcH K (.ref f)=true) (hv:mA name=none) (h:Q (.ref f,[.ref x]) s) :
  z7K (z7N prog w) A (zeo (.ref x) name pl) Q E s:=by
 obtain⟨od,J,hl⟩:=I.look
 exact PySem.W.method_fn X J (z9n hg).1 (z9n hg).2 hf (beq_iff_eq.mp ht) (by show (zaP name od).map (·.isSome)=some false;rw[hl,hv];rfl) h
theorem z14{ns:List Str}{Q:Unit->z7y->Prop}(X:K.In s.heap)(I:ObjM s.heap x dx C mA)
  (hs:z84 K (.ref C) "__setattr__"=some (some (.builtin "object.__setattr__"))) (hp:zb3 K C=true) (ht:zbQ K C name=some none) (hh:z9G K C=true)
  (hw:zcF mA ns) (hsz:ns.length<=sizeLine)
  (h:∀h',ObjM h' x dx C (λy=>if y=name then some v else mA y)->z8p dx s.heap h'->Q () {s with heap:=h',toks:=s.toks+2}) :
  z7K (z7N prog w) A (setAttr (.ref x) name v) Q E s:=by
 obtain⟨od,J,hl⟩:=I.look
 refine PySem.W.set_plain X J hs (PySem.W.osa_open (s:={s with toks:=s.toks+1}) (r:=none) X J hp ht λb=>?_)
 obtain⟨cd,hc,hd'⟩:=PySem.W.any_some hh
 have hx:s.heap.get? x=some ⟨.ref C,some dx,.plain,#[]⟩:=I.obj
 refine z7w (z7G (z7w (z7w (wpAny_loadPart hx (z7w (zeN (s:={s with toks:=s.toks+1}) (PySem.W.looks_clsIn X hc) ?_))))))
 rw[hd']
 refine z7G (a:=some dx) (z7w (z7G (z7w ?_)))
 refine wpAny_nsSet1 (s:={s with toks:=s.toks+1}) I.ns λh' hn2 hs2=>?_
 obtain⟨oD,esD,epD,hoD,hdD,hcD⟩:=hn2.count (zeS name v hw)
 refine z7w (wpAny_lookBehind hoD (by rw[hdD];exact pastItsLine_dict (z7V hcD (by rw[z7X];omega))) ?_)
 exact z7G (h _ ⟨(hs2.2 _ (z9m I.ne)).trans I.obj,hn2,I.ne⟩ hs2)
theorem uy{R:Result->z7y->Prop}{vs:List Value}{kw:List (Str×Value)}(X:K.In s.heap)(hm:zdf K C=true)
  (hi:z84 K (.ref C) "__init__"=some (some (.ref f))) (hf:zdv K (.ref f)=some (.type "function"))
  (h:z9S (z7N prog w) (A.under (.builtin "type.__call__" ⟨.ref C::vs,kw⟩)) (.call (.ref f) ⟨.ref (s.heap.objs.size+1)::vs,kw⟩) (PySem.W.InitBack (s.heap.objs.size+1) R)
   {s with heap:=(s.heap.push z8A).push (z8R C s.heap.objs.size)}) :
  z9S (z7N prog w) A (.call (.ref C) ⟨vs,kw⟩) R s:=by
 obtain⟨hh,g,d,t,os⟩:=s
 exact PySem.W.make_core (PySem.W.makes_of X hm) (PySem.W.looks_findIn X hi) (λself=>PySem.W.bind_fn X self hf) (.inl rfl) h
end
noncomputable def v7(f:Str)(v:V):List (Str×V)->List (Str×V)
 |[]=>[(f,v)]
 |(g,x)::r=>if g=f then (g,v)::r else (g,x)::v7 f v r
theorem y6(f g:Str)(v:V):∀fs:List (Str×V),(v7 f v fs).lookup g=if g=f then some v else fs.lookup g
 |[]=>by
  show z9q g [(f,v)]=_
  by_cases h:g=f
  ·have hb:(g == f)=true:=beq_iff_eq.mpr h
   simp only[z9q,hb,if_pos h]
  ·have hb:(g == f)=false:=beq_eq_false_iff_ne.mpr h
   simp only[z9q,hb,if_neg h]
 |(k,x)::r=>by
  have ih:=y6 f g v r
  rw[show v7 f v ((k,x)::r)=(if k=f then (k,v)::r else (k,x)::v7 f v r) from rfl]
  by_cases hk:k=f
  ·rw[if_pos hk]
   by_cases h:g=k
   ·have hb:(g == k)=true:=beq_iff_eq.mpr h
    simp only[z9q,hb,if_pos (h.trans hk)]
   ·have hb:(g == k)=false:=beq_eq_false_iff_ne.mpr h
    simp only[z9q,hb,if_neg (λe:g=f=>h (e.trans hk.symm))]
  ·rw[if_neg hk]
   by_cases h:g=k
   ·have hb:(g == k)=true:=beq_iff_eq.mpr h
    simp only[z9q,hb,if_neg (λe:g=f=>hk (h.symm.trans e))]
   ·have hb:(g == k)=false:=beq_eq_false_iff_ne.mpr h
    simp only[z9q,hb]
    exact ih
theorem xS(f:Str)(v:V):∀fs:List (Str×V),f∈(v7 f v fs).map (·.1)/\∀g,g∈fs.map (·.1)->g∈(v7 f v fs).map (·.1)
 |[]=>⟨by simp[v7],λg h=>by simp at h⟩
 |(k,x)::r=>by
  obtain⟨i1,i2⟩:=xS f v r
  rw[show v7 f v ((k,x)::r)=(if k=f then (k,v)::r else (k,x)::v7 f v r) from rfl]
  by_cases hk:k=f
  ·rw[if_pos hk]
   subst hk
   exact⟨by simp,λg h=>by simpa using h⟩
  ·rw[if_neg hk]
   refine⟨?_,λg h=>?_⟩
   ·rw[z82]
    exact z7O _ i1
   ·rw[z82] at h ⊢
    rcases z88.mp h with e|e
    ·exact z88.mpr (.inl e)
    ·exact z7O _ (i2 g e)
theorem yd(f:Str)(v:V):∀fs:List (Str×V),(v7 f v fs).length<=fs.length+1
 |[]=>by simp[v7]
 |(k,x)::r=>by
  have ih:=yd f v r
  rw[show v7 f v ((k,x)::r)=(if k=f then (k,v)::r else (k,x)::v7 f v r) from rfl]
  by_cases hk:k=f
  ·rw[if_pos hk,z7X,z7X];omega
  ·rw[if_neg hk,z7X,z7X];omega
theorem RelO.some_of{v:V}{o:Option Value}(r:RelO (some v) o):∃u,o=some u/\RelV v u:=by
 cases o with
 |none=>exact (show False from r).elim
 |some u=>exact⟨u,rfl,r⟩
theorem RelO.none_of{o:Option Value}(r:RelO none o):o=none:=by
 cases o with
 |none=>rfl
 |some u=>exact (show False from r).elim
theorem Xk{v:V}{u:Value}(r:RelV v u):zd3 u=true:=by
 cases v with
 |non=>cases (show u=z8F from r);rfl
 |bl b=>cases (show u=zaM b from r);rfl
 |int i=>obtain⟨t,e⟩:=(show ∃t,u=zbk i t from r);cases e;rfl
 |str x=>obtain⟨t,e⟩:=(show ∃t,u=zd2 x t from r);cases e;rfl
 |byt b=>obtain⟨t,e⟩:=(show ∃t,u=zeB b t from r);cases e;rfl
 |flt b=>obtain⟨t,e⟩:=(show ∃t,u=zeC b t from r);cases e;rfl
 |ref a=>cases (show u=z80 a from r);rfl
 |ty n=>cases (show u=zeM n from r);rfl
section
variable {P:Program}{w:World}{H H':Hp}{h h':Heap}{a C dx:Addr}{fs fs':List (Str×V)}
theorem kI(hok:HOk P w H h)(e:H a=some (.ins C dx fs)):∃mA,ObjM h a dx C mA/\(∀f,RelO (fs.lookup f) (mA f))/\zcF mA (fs.map (·.1))/\fs.length<=1000/\H dx=some (.own a):=by
 obtain⟨d,z,ne,ob,mA,n,r,q⟩:=(show ObjOk P w H h a (.ins C dx fs) from hok a _ e)
 exact⟨mA,⟨ob,n,ne⟩,r,q,z,d⟩
end
structure Cls(K:PySem.W.Frag)(C:Addr):Prop where
 pg:z9R K C Str.empty=true
 hd:z9G K C=true
 po:zb3 K C=true
 sa:z84 K (.ref C) "__setattr__"=some (some (.builtin "object.__setattr__"))
theorem Cls.get{K:z7E}{C:Addr}(c:Cls K C)(f:Str):z9R K C f=true:=c.pg
noncomputable def NoAttr(K:z7E)(C:Addr)(f:Str):Prop:=z84 K (.ref C) f=some none
theorem NoAttr.taker{K:z7E}{C:Addr}{f:Str}(n:NoAttr K C f):zbQ K C f=some none:=by
 unfold zbQ
 rw[show z84 K (.ref C) f=some none from n]
 rfl
structure Meth(K:PySem.W.Frag)(C:Addr)(m:Str)(f:Addr):Prop where
 at_:z84 K (.ref C) m=some (some (.ref f))
 fn:zcH K (.ref f)=true
 kp:z9o K (.ref f)=true
section
variable {X:Cx}{pins:List (Addr×Obj)}{σ:St}{H:Hp}{s:Shared}{a C dx:Addr}{fs:List (Str×V)}{f:Str}{v:V}{A:Around}{E:Value->Shared->Prop}
theorem u5{b:Bool}{Q:Value->z7y->Prop}(I:Inv X pins σ H s)(e:H a=some (.ins C dx fs))(c:Cls X.K C)(n:NoAttr X.K C f)(l:fs.lookup f=some v)
  (h:∀u s',Inv X pins σ H s'->RelV v u->Q u s'):z7K (z7N X.prog X.w) A (getAttr (.ref a) f b) Q E s:=by
 obtain⟨mA,O,r,_,_,_⟩:=kI I.hok e
 obtain⟨u,hu,ru⟩:=RelO.some_of (v:=v) (o:=mA f) (by rw[←l];exact r f)
 exact get_map I.kIn O (c.get f) c.hd n hu (Xk ru) (h u _ (I.tok _) ru)
theorem Jc{m:Str}{g:Addr}{pl:Sem Bool}{Q:Value×List Value->z7y->Prop}(I:Inv X pins σ H s)(e:H a=some (.ins C dx fs))(c:Cls X.K C)(k:Meth X.K C m g)(l:fs.lookup m=none)
  (h:Q (.ref g,[.ref a]) s):z7K (z7N X.prog X.w) A (zeo (.ref a) m pl) Q E s:=by
 obtain⟨mA,O,r,_,_,_⟩:=kI I.hok e
 have hn:mA m=none:=RelO.none_of (by rw[←l];exact r m)
 exact U_ I.kIn O (c.get m) k.at_ k.fn hn h
theorem Jk{y:V}{u:Value}{Q:Unit->z7y->Prop}(I:Inv X pins σ H s)(e:H a=some (.ins C dx fs))(c:Cls X.K C)(n:NoAttr X.K C f)(hl:fs.length<1000)(ry:RelV y u)
  (h:∀s',Inv X pins σ (upd H a (.ins C dx (v7 f y fs))) s'->Q () s'):z7K (z7N X.prog X.w) A (setAttr (.ref a) f u) Q E s:=by
 obtain⟨mA,O,r,wi,_,ho⟩:=kI I.hok e
 have hz:(fs.map (·.1)).length<=sizeLine:=by rw[z7B,z90];omega
 refine z14 I.kIn O c.sa c.po n.taker c.hd wi hz λh' O' sb=>h _ ?_
 have hd:∃o,h'.get? dx=some o:=let ⟨o,_,_,e',_⟩:=O'.ns;⟨o,e'⟩
 refine I.write (x:=a) (e:=dx) (by rw[e];exact z8I) (.inr ho) (λb q hb z=>(sb.2 b hb).trans z) hd ?_
 refine⟨by rw[z8 O.ne];exact ho,?_,O.ne,O'.obj,_,O'.ns,λg=>?_,λg hg=>?_⟩
 ·have:=yd f y fs;omega
 ·show RelO ((v7 f y fs).lookup g) (if g=f then some u else mA g)
  rw[y6]
  by_cases q:g=f
  ·rw[if_pos q,if_pos q];exact ry
  ·rw[if_neg q,if_neg q];exact r g
 ·by_cases q:g=f
  ·rw[q];exact (xS f y fs).1
  ·refine (xS f y fs).2 g (wi g λz=>hg ?_)
   show (if g=f then some u else mA g)=none
   rw[if_neg q];exact z
theorem Inv.made(I:Inv X pins σ H s):Inv X pins σ (upd (upd H s.heap.objs.size (.own (s.heap.objs.size+1))) (s.heap.objs.size+1) (.ins C s.heap.objs.size []))
  {s with heap:=(s.heap.push z8A).push (z8R C s.heap.objs.size)}:=by
 have e1:(s.heap.push z8A).get? s.heap.objs.size=some z8A:=z7W s.heap rfl
 have e2:((s.heap.push z8A).push (z8R C s.heap.objs.size)).get? (s.heap.objs.size+1)=some (z8R C s.heap.objs.size):=by
  have:=z7W (s.heap.push z8A) (o:=z8R C s.heap.objs.size) rfl
  rwa[z92] at this
 have e3:(s.heap.push z8A).Ns s.heap.objs.size (λ_=>none):=⟨z8A,#[],_,e1,rfl,(λe he=>absurd he (by simp)),λ_=>rfl⟩
 have I1:=I.laid (a:=s.heap.objs.size) (o:=.own (s.heap.objs.size+1)) (h':=s.heap.push z8A) (t':=s.toks) (λb u q=>z7z _ q) (z7D _) ⟨_,e1⟩
 refine I1.laid (a:=s.heap.objs.size+1) (o:=.ins C s.heap.objs.size []) (t':=s.toks) (λb u q=>z7z _ q) (z9T (z92 _ _)) ?_
 have ne:s.heap.objs.size≠s.heap.objs.size+1:=z85 (z8J _)
 refine⟨by rw[z8 ne,z7],z98 _,ne,e2,λ_=>none,(Heap.Ns1.of_empty e3).at λo q=>z7z _ q,λ_=>z8I,λy hy=>absurd rfl hy⟩
theorem z0F{prog:z8e}{w:z8s}{env:Env}{e:Expr}{f:Str}{pos:Pos}{s:z7y}{Q:Value->z7y->Prop}(hb:z9C e f env (eval e env)=eval e env)
  (h:z7K (z7N prog w) A (eval e env) (λo s₁=>z7K (z7N prog w) A (getAttr o f true) Q E s₁) E s):z7K (z7N prog w) A (eval (.Attribute e f pos) env) Q E s:=
 Attribute_any_ h (by rw[arm_eval_Attribute,hb])
end
noncomputable def z72 (K:z7E)(ta:TE)(f:Str):TE:=λσ H Q=>ta σ H λx H1=>∃a C dx fs v,x=.ref a/\H1 a=some (.ins C dx fs)/\Cls K C/\NoAttr K C f/\fs.lookup f=some v/\Q v H1
noncomputable def ql (K:z7E)(ta tv:TE)(f:Str):TS:=λD σ H=>tv σ H λy H1=>ta σ H1 λx H2=>∃a C dx fs,x=.ref a/\H2 a=some (.ins C dx fs)/\Cls K C/\NoAttr K C f/\fs.length<1000/\
 D.nx σ (upd H2 a (.ins C dx (v7 f y fs)))
section
variable {X:Cx}{o e value:Expr}{f:Str}{pos pos' tpos:Pos}{ta tv:TE}
theorem z3t(he:PE X e ta)(hb:z9C e f X.env (eval e X.env)=eval e X.env):PE X (.Attribute e f pos) (z72 X.K ta f):=by
 intro pins s σ H Q I h
 refine z0F hb (thn (he pins s σ H _ I h) λu s1 ⟨x,H1,I1,rx,a,C,dx,fs,v,ex,ea,c,n,l,q⟩=>?_)
 subst ex
 obtain rfl:u=z80 a:=rx
 exact u5 I1 ea c n l λu' s2 I2 ru=>⟨v,H1,I2,ru,q⟩
theorem z2Z(ha:PE X o ta)(hv:PE X value tv)(hs:zaw value (some (.Attribute o f pos')) pos.line X.env=pure false):PS X (.Assign [.Attribute o f pos'] value pos) (ql X.K ta tv f):=by
 intro pins s σ H D I h
 refine plainObj_wpAny_Assign_Attribute (thn (hv pins s σ H _ I h) λu s1 ⟨y,H1,I1,ry,q⟩=>thn (ha pins s1 σ H1 _ I1 q) λov s2 ⟨x,H2,I2,rx,a,C,dx,fs,ex,ea,c,n,l,q2⟩=>?_) hs
 subst ex
 obtain rfl:ov=z80 a:=rx
 exact Jk I2 ea c n l ry λs3 I3=>⟨σ,_,I3,q2⟩
noncomputable def z3Q:V->V->Hp->VK->Prop:=λx y H Q=>∃i j,x=.int i/\y=.int j/\Q (.int (i-j)) H
end
end L2
namespace L2
open PySem PySem.Spec PyProof.Rows
structure Room(k:Nat)(A:Around):Prop where
 hd:A.handled=none
 dp:A.depth+3 * k+5<recursionLimit
 un:A.units+16 * k+200<cLine
theorem Room.mono{j k:Nat}{A:z89}(r:Room k A)(h:j<=k):Room j A:=⟨r.hd,by have:=r.dp;omega,by have:=r.un;omega⟩
theorem Room.deeper{k:Nat}{A:z89}(r:Room (k+1) A)(env:Env):Room k (A.deeper env):=
 ⟨r.hd,by have:=r.dp;show A.depth+1+3 * k+5<_;omega,by have:=r.un;show A.units+3+16 * k+200<_;omega⟩
theorem Jd{A:z89}{C:Addr}{us:List Value}{kw:List (Str×Value)}:(A.under (.builtin "type.__call__" ⟨.ref C::us,kw⟩)).depth=A.depth+1:=by
 first|rfl|simp[zcI,Code.weight,Code.isCreation,Code.isGuard,Code.isCaller,zeD,zcJ,guardIds]
theorem JD{A:z89}{C:Addr}{us:List Value}{kw:List (Str×Value)}:(A.under (.builtin "type.__call__" ⟨.ref C::us,kw⟩)).units=A.units+1:=by
 first|rfl|simp[zcI,Code.cUnits,zeD,zcJ]
theorem Room.make{k:Nat}{A:z89}(r:Room (k+1) A)(C:Addr)(us:List Value)(kw:List (Str×Value)):Room k (A.under (.builtin "type.__call__" ⟨.ref C::us,kw⟩)):=
 ⟨r.hd,by have:=r.dp;rw[Jd];omega,by have:=r.un;rw[JD];omega⟩
theorem Room.depth{k:Nat}{A:z89}(r:Room k A):A.depth<recursionLimit:=by have:=r.dp;omega
noncomputable def z7h:TA:=λ_ H Q=>Q [] H
noncomputable def z5F(ta:TE)(tr:TA):TA:=λσ H Q=>ta σ H λx H1=>tr σ H1 λxs H2=>Q (x::xs) H2
section
variable {X:Cx}{e:Expr}{es:List Expr}{te:TE}{t:TA}{pos:Pos}
theorem qD:PA X [] z7h:=λ_ _ _ _ H Q I h=>zcK ⟨[],H,I,.nil,h⟩
theorem zy(ha:PE X e te)(hr:PA X es t)(hs:z8l (e::es) X.env=(false,eval e X.env)::z8l es X.env:=by rfl):PA X (e::es) (z5F te t):=by
 intro pos pins s σ H Q I h
 rw[hs]
 show z7K _ _ (spliced ((false,eval e X.env)::z9v pos (z8l es X.env))) _ _ s
 refine zcq (thn (ha pins s σ H _ I h) λu s1 ⟨x,H1,I1,r1,q1⟩=>?_)
 exact thn (hr pos pins s1 σ H1 _ I1 q1) λus s2 ⟨xs,H2,I2,r2,q2⟩=>⟨x::xs,H2,I2,.cons r1 r2,q2⟩
noncomputable def z71 (t:TA):TE:=λσ H Q=>t σ H λxs H1=>xs.length<=sizeLine/\∀p,H1 p=none->Q (.ref p) (upd H1 p (.tup xs))
noncomputable def z7f (t:TA):TE:=λσ H Q=>t σ H λxs H1=>xs.length<=sizeLine/\∀p,H1 p=none->Q (.ref p) (upd H1 p (.lst xs))
theorem YZ{x1}(h:PA X es t):PE X (.Tuple es x1 pos) (z71 t):=by
 intro pins s σ H Q I hq
 refine wpAny_Tuple_spliced (thn (h pos pins s σ H _ I hq) λus s1 ⟨xs,H1,I1,r,z,q⟩=>⟨by rw[←r.length];exact z,?_⟩)
 have hf:H1 s1.heap.objs.size=none:=I1.hok.fresh (z7D _)
 refine⟨.ref s1.heap.objs.size,upd H1 s1.heap.objs.size (.tup xs),I1.laid (t':=s1.toks) (λb u e=>z7z _ e) (z7D _) ?_,rfl,q _ hf⟩
 exact⟨z,us,r,⟨_,z7W _ rfl,rfl,_,rfl⟩⟩
theorem YH(h:PA X es t):PE X (.List es pos) (z7f t):=by
 intro pins s σ H Q I hq
 refine wpAny_List_spliced (thn (h pos pins s σ H _ I hq) λus s1 ⟨xs,H1,I1,r,z,q⟩=>⟨by rw[←r.length];exact z,?_⟩)
 have hf:H1 s1.heap.objs.size=none:=I1.hok.fresh (z7D _)
 refine⟨.ref s1.heap.objs.size,upd H1 s1.heap.objs.size (.lst xs),I1.laid (t':=s1.toks) (λb u e=>z7z _ e) (z7D _) ?_,rfl,q _ hf⟩
 exact⟨z,us,0,r,z7W _ rfl⟩
end
noncomputable abbrev Sp:=List V->Hp->VK->XK->Prop
noncomputable abbrev CXT:=List Env->Hp->z7y->XK->Value->z7y->Prop
structure Env0(P:Program)(w:World)(K:PySem.W.Frag)(mg:Str->Option Value)(base:Heap)(A:Around)(outer:List Env)(s:Shared)(H:Hp):Prop where
 frames:A.frames=some outer
 mod:Mod K mg base
 bs:∀b o,base.get? b=some o->s.heap.get? b=some o/\H b=none
 bsz:base.objs.size<=s.heap.objs.size
 funs:s.heap.FunFrames base outer
 frf:∀b∈frs outer,H b=none
 hok:HOk P w H s.heap
 bare:zb1 s.gens
noncomputable def CE (outer:List Env)(P:z8e)(w:z8s)(H:Hp)(s:z7y)(Q:VK)(u:Value)(s':z7y):Prop:=
 ∃v H',s'.os=s.os/\zb1 s'.gens/\Un (frs outer) [] H H' s.heap s'.heap/\HOk P w H' s'.heap/\RelV v u/\Q v H'
noncomputable def CR (CX:CXT)(outer:List Env)(P:z8e)(w:z8s)(H:Hp)(s:z7y)(Q:VK)(E:XK)(r:Result)(s':z7y):Prop:=
 match r with
 |.ok (.ret u)=>CE outer P w H s Q u s'
 |.ok _=>False
 |.error e=>CX outer H s E e s'
structure FnOk(P:Program)(w:World)(K:PySem.W.Frag)(mg:Str->Option Value)(base:Heap)(CX:CXT)(k:Nat)(f:Addr)(fd:FuncData)(ps:List Str)(sp:Sp):Prop where
 len:∀vs H Q E,sp vs H Q E->vs.length=ps.length
 run:∀(A:z89) (outer:List Env) (s:z7y) (H:Hp) (args:Args) (us:List Value) (vs:List V) (Q:VK) (E:XK),Room k A->Env0 P w K mg base A outer s H->zb4 s fd args (ps.zip us)->Vals vs us->sp vs H Q E->
  z9S (z7N P w) A (.call (.ref f) args) (CR CX outer P w H s Q E) s
theorem FnOk.imp{P:z8e}{w:z8s}{K:z7E}{mg:Str->Option Value}{base:Heap}{CX:CXT}{k:Nat}{f:Addr}{fd:z8O}{ps:List Str}{sp sp':Sp}(F:FnOk P w K mg base CX k f fd ps sp)
  (h:∀vs H Q E,sp' vs H Q E->sp vs H Q E):FnOk P w K mg base CX k f fd ps sp':=
 ⟨λvs H Q E q=>F.len vs H Q E (h _ _ _ _ q),λA outer s H args us vs Q E hr he hb hv hs=>F.run A outer s H args us vs Q E hr he hb hv (h _ _ _ _ hs)⟩
theorem Env0.make{P:z8e}{w:z8s}{K:z7E}{mg:Str->Option Value}{base:Heap}{A:z89}{outer:List Env}{s:z7y}{H:Hp}(e:Env0 P w K mg base A outer s H)(C:Addr)(us:List Value)(kw:List (Str×Value)) :
  Env0 P w K mg base (A.under (.builtin "type.__call__" ⟨.ref C::us,kw⟩)) outer s H:=⟨by first|exact e.frames|(simpa[zcI,Code.envs,zcJ,pushEnvs] using e.frames),e.mod,e.bs,e.bsz,e.funs,e.frf,e.hok,e.bare⟩
theorem Env0.in1{P:z8e}{w:z8s}{K:z7E}{mg:Str->Option Value}{base:Heap}{A:z89}{outer:List Env}{s:z7y}{H:Hp}(e:Env0 P w K mg base A outer s H) :
  Env0 P w K mg base A.in1 outer s H:=⟨e.frames,e.mod,e.bs,e.bsz,e.funs,e.frf,e.hok,e.bare⟩
section
variable {X:Cx}{pins:List (Addr×Obj)}{σ:St}{H:Hp}{s s':Shared}
theorem Inv.env0(I:Inv X pins σ H s):Env0 X.prog X.w X.K X.mg X.base X.A X.stack s H:=
 ⟨I.ok.frames,I.ok.mod,I.bs,z7V I.ok.bsz I.sz,I.stack,I.stkFree,I.hok,I.bare⟩
theorem Inv.after{Q:VK}{u:Value}(I:Inv X pins σ H s)(h:CE X.stack X.prog X.w H s Q u s'):EP X pins σ Q u s':=by
 obtain⟨v,H',os,bare,un,hok,r,q⟩:=h
 obtain⟨hh,g,d,t,os'⟩:=s'
 obtain rfl:os'=s.os:=os
 exact⟨v,H',I.call (h':=hh) (g':=g) (d':=d) (t':=t) (ch:=[]) un hok bare (λb z=>absurd z (by simp)),r,q⟩
end
noncomputable def Binds(K:z7E)(fd:z8O)(ps:List Str)(ds:List Value):Prop:=
 ∀(s:z7y) (us:List Value),K.In s.heap->(us++ds).length=ps.length->zb4 s fd ⟨us,[]⟩ (ps.zip (us++ds))
theorem Binds.all{K:z7E}{fd:z8O}{ps:List Str}(h:∀us:List Value,us.length=ps.length->zbn fd ⟨us,[]⟩=pure (ps.zip us)):Binds K fd ps []:=λs us _ hl=>by
 rw[z8o] at hl ⊢
 exact .of_eq (h us hl)
section
variable {X:Cx}{CX:CXT}{k:Nat}{f C:Addr}{fd:FuncData}{ps:List Str}{sp:Sp}{dvs:List V}{ds:List Value}{E:XK}{x m:Str}{p pos apos:Pos}{e o:Expr}{es:List Expr}{ta:TE}{t:TA}
structure Mk(K:PySem.W.Frag)(C f:Addr):Prop where
 makes:zdf K C=true
 init:z84 K (.ref C) "__init__"=some (some (.ref f))
 fn:zcH K (.ref f)=true
 kp:z9o K (.ref C)=true
end
structure FnScope(N P:List Str)(sc:Scope):Prop where
 kind:sc.kind=.function
 co:sc.isCoroutine=false
 gen:sc.isGenerator=false
 nd:N.Nodup
 pre:N.take P.length=P
 par:∀x∈P,sc.names.lookup x=some .local\/sc.names.lookup x=some .cell
 nofree:∀y∈sc.names,y.2≠.free
theorem ZH{kindOf:Str->Option zaQ}{x:Str}:∀{binds:List (Str×Value)} {m:Str->Option Value},(∀v,(x,v)∉binds)->zdw kindOf binds m x=m x
 |[],_,_=>rfl
 |(n,v)::r,m,h=>by
  unfold zdw
  rw[ZH λw hw=>h w (z7O _ hw)]
  split
  ·have:x≠n:=by rintro rfl;exact h v z7Z
   simp[this]
  ·rfl
theorem Qm{kindOf:Str->Option zaQ}{x:Str}:∀{binds:List (Str×Value)} {m:Str->Option Value},(∀v,(x,v)∉binds)->zdx kindOf binds m x=m x
 |[],_,_=>rfl
 |(n,v)::r,m,h=>by
  unfold zdx
  rw[Qm λw hw=>h w (z7O _ hw)]
  split
  ·rfl
  ·have:x≠n:=by rintro rfl;exact h v z7Z
   simp[this]
theorem ZN{kindOf:Str->Option zaQ}{x:Str}{v:Value}:∀{P:List Str} {vs:List Value} {i:Nat} {m:Str->Option Value},P.Nodup->P[i]?=some x->vs[i]?=some v->kindOf x=some .local->
  zdw kindOf (P.zip vs) m x=some v
 |[],_,_,_,_,h,_,_=>by simp at h
 |_::_,[],_,_,_,_,h,_=>by simp at h
 |p::P,w::vs,0,m,nd,h1,h2,hk=>by
  simp at h1 h2;subst h1;subst h2
  show zdw kindOf ((p,w)::P.zip vs) m p=_
  unfold zdw
  rw[ZH λv hv=>(zaE.mp nd).1 (zbR hv).1,if_pos hk]
  simp
 |p::P,w::vs,i+1,m,nd,h1,h2,hk=>by
  show zdw kindOf ((p,w)::P.zip vs) m x=_
  unfold zdw
  exact ZN (i:=i) (zaE.mp nd).2 (by simpa using h1) (by simpa using h2) hk
theorem Qi{kindOf:Str->Option zaQ}{x:Str}{v:Value}:∀{P:List Str} {vs:List Value} {i:Nat} {m:Str->Option Value},P.Nodup->P[i]?=some x->vs[i]?=some v->kindOf x≠some .local->
  zdx kindOf (P.zip vs) m x=some v
 |[],_,_,_,_,h,_,_=>by simp at h
 |_::_,[],_,_,_,_,h,_=>by simp at h
 |p::P,w::vs,0,m,nd,h1,h2,hk=>by
  simp at h1 h2;subst h1;subst h2
  show zdx kindOf ((p,w)::P.zip vs) m p=_
  unfold zdx
  rw[Qm λv hv=>(zaE.mp nd).1 (zbR hv).1,if_neg hk]
  simp
 |p::P,w::vs,i+1,m,nd,h1,h2,hk=>by
  show zdx kindOf ((p,w)::P.zip vs) m x=_
  unfold zdx
  exact Qi (i:=i) (zaE.mp nd).2 (by simpa using h1) (by simpa using h2) hk
noncomputable def start(N:List Str)(vs:List V):St:=vs.map some++z9L (N.length-vs.length) none
noncomputable def Vc (CX:CXT)(P:z8e)(w:z8s)(K:z7E)(mg:Str->Option Value)(base:Heap)(N:List Str)(qual:Str)(scope:Scope)(f:Addr)(cd:Value)(A:z89)(outer:List Env)(s:z7y)(H:Hp)(E:XK):Cx where
 prog:=P
 w:=w
 K:=K
 mg:=mg
 base:=base
 A:=A.deeper (zak qual scope s.heap.objs.size f cd)
 N:=N
 s₀:=s
 H₀:=H
 env:=zak qual scope s.heap.objs.size f cd
 outer:=outer
 stack:=zak qual scope s.heap.objs.size f cd::outer
 ex:=[]
 calm:=true
 fn:=λ_=>true
 pn:=[]
 xe:=λe s'=>z7K (z7N P w) (A.deeper (zak qual scope s.heap.objs.size f cd)) (leaving (zak qual scope s.heap.objs.size f cd) e) (λ_ s''=>CX outer H s E e s'') (λe' s''=>CX outer H s E e' s'') s'
theorem WK{sc:Scope}{n:Nat}{x:Str}(h:sc.names.lookup x=some .cell):∃c,(zep n sc.names []).lookup x=some c:=by
 have q:=zbF sc.names n [] (.inl h)
 exact z9k.mp q
theorem xN{CX:CXT}{P:z8e}{w:z8s}{K:z7E}{mg:Str->Option Value}{base:Heap}{N ps:List Str}{qual:Str}{scope:Scope}{f:Addr}{cd:Value}{A:z89}{outer:List Env}{s s1:z7y}{H:Hp}{E:XK}{us:List Value}{vs:List V}
  (S:FnScope N ps scope) (hd:A.handled=none) (e0:Env0 P w K mg base A outer s H) (hl:vs.length=ps.length) (r:Vals vs us)
  (x:InCallC s s.heap.objs.size (zdw (zak qual scope s.heap.objs.size f cd).kindOf (ps.zip us) λ_=>none) (zep (s.heap.objs.size+1) scope.names []) (zdx (zak qual scope s.heap.objs.size f cd).kindOf (ps.zip us) λ_=>none) s1) :
  Inv (Vc CX P w K mg base N qual scope f cd A outer s H E) [] (start N vs) H s1:=by
 have hpl:ps.length<=N.length:=by have:=congrArg zeE S.pre;rw[z8r] at this;omega
 obtain⟨h1,tk,rfl,hk⟩:=x.done
 have noA:∀b:Addr,b∉(Vc CX P w K mg base N qual scope f cd A outer s H E).ex:=λb z=>absurd (show b∈([]:List Addr) from z) (by simp)
 refine⟨⟨e0.mod,S.kind,rfl,rfl,z7D _,λy z c h1 h2=>?_,λy hy=>?_,λy c _ h=>?_,λ_=>hd,Around.frames_deeper e0.frames,.inr ⟨rfl,rfl⟩,λb z=>absurd z (noA b),e0.bs,e0.bsz,λb _ _=>noA b,λb z=>absurd z (noA b),e0.funs,e0.frf⟩,
  rfl,e0.bare,Un.kept hk,⟨_,x.toInCall.ns,λi y v h1 h2 h3=>?_⟩,λy c h=>⟨_,x.cell y c h⟩,e0.hok.fresh (z7D _),λy c h=>?_,λp hp=>absurd (show p∈([]:List (Addr×Obj)) from hp) (by simp),e0.hok.kept hk,?_⟩
 ·exact name_of_addr x.apart (z8V h1) (z8V h2)
 ·have hy:scope.names.lookup y=some .cell\/scope.names.lookup y=some .free:=hy
  rcases hy with hy|hy
  ·exact WK hy
  ·exact absurd rfl (S.nofree _ (z8V hy))
 ·exact zbE (x.above y c (z8V h))
 ·have hi:i<vs.length:=by
   unfold start at h2
   by_cases hi:i<vs.length
   ·exact hi
   ·rw[z7L (by simpa using hi)] at h2
    rw[z9p] at h2
    split at h2<;>cases h2
  have ha:vs[i]?=some v:=by
   unfold start at h2
   rw[z7F (by simpa using hi),z83] at h2
   cases e:vs[i]? with
   |none=>rw[e] at h2;cases h2
   |some a=>rw[e] at h2;cases h2;rfl
  obtain⟨u,hu,rv⟩:=r.get ha
  have hp:ps[i]?=some y:=by
   rw[←S.pre,List.getElem?_take_of_lt (by omega)];exact h1
  have ndP:ps.Nodup:=by rw[←S.pre];exact S.nd.sublist (zcL _ _)
  refine⟨u,rv,?_⟩
  rcases S.par y (z7P hp) with k|k
  ·exact .inl ⟨k,ZN ndP hp hu k⟩
  ·obtain⟨c,e⟩:=WK (n:=s.heap.objs.size+1) k
   refine .inr ⟨.inl k,c,e,?_⟩
   have q:=x.cell y c e
   rw[Qi ndP hp hu (by show scope.names.lookup y≠_;rw[k];decide)] at q
   exact q
 ·exact e0.hok.fresh (zbE (x.above y c (z8V h)))
 ·unfold start
  show _=N.length
  rw[z8b,z7B,zbV]
  omega
theorem z6q{CX:CXT}{P:z8e}{w:z8s}{K:z7E}{mg:Str->Option Value}{base:Heap}{k:Nat}{f:Addr}{name qual:Str}{params:Arguments}{body:List Stmt}{scope:Scope}{dV kV doc pm cdv ct oc:Value}{an od:Option Addr}
  {osl:Array (Option Value)} {N ps:List Str} {sp:Sp} (lk:K.lookup f=some ⟨oc,od,.func (z9x name qual params body scope dV kV doc pm an cdv ct),osl⟩) (hcd:zaR K cdv qual=true) (S:FnScope N ps scope)
  (len:∀vs H Q E,sp vs H Q E->vs.length=ps.length)
  (hbody:∀(A:z89) (outer:List Env) (s:z7y) (H:Hp) (vs:List V) (Q:VK) (E:XK),Room k (A.deeper (zak qual scope s.heap.objs.size f cdv))->sp vs H Q E->
   ∃t,PSs (Vc CX P w K mg base N qual scope f cdv A outer s H E) body t/\t {nx:=λ_ H'=>Q .non H',rt:=Q} (start N vs) H) :
  FnOk P w K mg base CX (k+1) f (z9x name qual params body scope dV kV doc pm an cdv ct) ps sp:=by
 refine⟨len,λA outer s H args us vs Q E hr e0 hb r hsp=>?_⟩
 have hl:=len _ _ _ _ hsp
 have KX:K.In s.heap:=e0.mod.kin.keeps λb o e=>(e0.bs b o e).1
 have lim:s.heap.NoLimit:=e0.mod.nolimit.keeps λb o e=>(e0.bs b o e).1
 have hkind:∀y∈ps.zip us,scope.names.lookup y.1=some .local\/(scope.names.lookup y.1=some .cell/\((zep (s.heap.objs.size+1) scope.names []).lookup y.1).isSome=true):=λ⟨n,v⟩ hy=>by
  rcases S.par n (zbR hy).1 with q|q
  ·exact .inl q
  ·exact .inr ⟨q,zbF _ _ _ (.inl q)⟩
 refine codeAny_call_function hr.depth (KX _ _ lk) rfl S.co S.gen rfl (PySem.W.codeRec_of KX hcd) (hb _ _ _ _ ?_)
 refine z9M S.kind hkind λenv he s1 x=>?_
 subst he
 refine⟨lim.keeps x.toInCall.keep,codeAny_func ?_⟩
 obtain⟨t,ht,hq⟩:=hbody A outer s H vs Q E (hr.deeper _) hsp
 have I:Inv (Vc CX P w K mg base N qual scope f cdv A outer s H E) [] (start N vs) H s1:=xN S hr.hd e0 hl r x
 refine z8i (ht [] s1 (start N vs) H _ I hq) (λfl s' hs=>?_) λe s' hs=>hs
 have fin:∀{σ':St} {H':Hp} {v:V} {u:Value},Inv (Vc CX P w K mg base N qual scope f cdv A outer s H E) [] σ' H' s'->RelV v u->Q v H'->CE outer P w H s Q u s':=
  λ{σ' H' v u} J rv q=>⟨v,H',J.os,J.bare,J.base,J.hok,rv,q⟩
 cases fl with
 |ret u=>
  obtain⟨v,σ',H',J,rv,q⟩:=hs
  exact fin J rv q
 |next=>
  obtain⟨σ',H',J,q⟩:=hs
  exact fin (v:=V.non) (u:=z8F) J rfl q
 |brk=>
  obtain⟨_,_,_,q⟩:=hs
  exact z8d q
 |cont=>
  obtain⟨_,_,_,q⟩:=hs
  exact z8d q
end L2
namespace HT
open PySem PyProof.Rows
noncomputable def lexLt:List Int->List Int->Bool
 |[],[]=>false
 |[],_::_=>true
 |_::_,[]=>false
 |x::xs,y::ys=>if x=y then lexLt xs ys else decide (x<y)
theorem lexLt_cons(x y:Int)(xs ys:List Int):lexLt (x::xs) (y::ys)=if x=y then lexLt xs ys else decide (x<y):=rfl
theorem lexLt_nil_nil:lexLt [] []=false:=rfl
theorem Z3(y:Int)(ys:List Int):lexLt [] (y::ys)=true:=rfl
theorem uj(x:Int)(xs:List Int):lexLt (x::xs) []=false:=rfl
theorem eqAt_int(A:z89)(s:z7y)(a:Int)(t:Tok)(c:Int)(u:Tok):∃e,z93 A s (.int a t) (.int c u) e/\(e=true↔a=c):=
 ⟨(a == c),zcr a t c u,by simp⟩
theorem Yq(A:z89)(s:z7y)(a:Int)(t:Tok)(c:Int)(u:Tok)(prog:z8e)(w:z8s)(E:Value->z7y->Prop)(Q:Value->z7y->Prop)(h:Q (.bool (decide (a<c))) s) :
  z7K (z7N prog w) A (richCompare .Lt (.int a t) (.int c u)) Q E s:=
 (zeI h:z7K (z7N prog w) A (z8h .Lt (.int a t) (.int c u)) Q E s)
section
open PySem.SeqAt
open PySem.AutoSeq1 (wpAny_loadPart')
open PySem.MeetsSeq PySem.MeetsSeq2 PySem.MeetsSeq3
theorem Z9 (l b : Addr) (items items2 : Array Value) (n n2 : Nat) (dd dd2 : Option Addr) (sl sl2 : Array (Option Value)) (ns ms : List Int) (hi : z8D items.toList ns) (hj : z8D items2.toList ms) :
    Meets (zdp.«tuple.__lt__» ⟨[.ref l,.ref b],[]⟩)
      (fun _ R s => s.heap.get? l = some { cls := .type "tuple",dict := dd,data := .seq items n,slots := sl } /\ s.heap.get? b = some { cls := .type "tuple",dict := dd2,data := .seq items2 n2,slots := sl2 } /\
        R (.ok (.ret (.bool (lexLt ns ms)))) s) :=
  .of_wp fun prog w A R s h => by
    obtain ⟨hp,g,d,tk,os⟩ := s; obtain ⟨hl,hb,h⟩ := h
    have f2 := zbc
    have z1 : items.size = ns.length := by rw [← hi.length]; simp
    have z2 : items2.size = ms.length := by rw [← hj.length]; simp
    wp_walk using zaF hl,zaF hb,zd4 _ (fun rest b s' => b.1 = none /\ s' = ⟨hp,g,d,tk,os⟩ /\ ∃ (vs ws : List Value) (ns' ms' : List Int),rest = vs.zip ws /\
      z8D vs ns' /\ z8D ws ms' /\ ns'.length + items2.size = ms'.length + items.size /\ R (.ok (.ret (.bool (lexLt ns' ms')))) ⟨hp,g,d,tk,os⟩) _
    case turn =>
      rintro ⟨y,x⟩ rest b s' ⟨hb',rfl,vs,ws,ns',ms',hz,hvi,hwi,hlen,hR⟩
      cases hvi with
      | nil => rw [zcM] at hz; cases hz
      | cons a t hvi' =>
        cases hwi with
        | nil => rw [zcs] at hz; cases hz
        | cons c u hwi' =>
          rw [zaa] at hz
          injection hz with hyx hrest
          injection hyx with hy hx
          subst hy hx
          rw [lexLt_cons] at hR
          simp only [z7X] at hlen
          obtain ⟨e,he,hiff⟩ := eqAt_int A.in1 ⟨hp,g,d,tk,os⟩ a t c u
          refine z7w (he prog w _ _ ?_)
          cases e with
          | true =>
            rw [if_pos (hiff.mp rfl)] at hR
            wp_walk
            exact ⟨rfl,rfl,_,_,_,_,hrest,hvi',hwi',by omega,hR⟩
          | false =>
            rw [if_neg (fun q => absurd (hiff.mpr q) z7_)] at hR
            have hri := Yq A.in1 ⟨hp,g,d,tk,os⟩ a t c u prog w
            wp_walk using hri
            exact ⟨_,rfl,by simpa using hR⟩
    case fin =>
      rintro ⟨b1,b2⟩ s' ⟨hb',rfl,vs,ws,ns',ms',hz,hvi,hwi,hlen,hR⟩
      simp only at hb'
      subst hb'
      have hv : lexLt ns' ms' = decide (items.size < items2.size) := by
        cases hvi with
        | nil =>
          cases hwi with
          | nil =>
            simp only [z8S] at hlen
            rw [lexLt_nil_nil]
            exact (decide_eq_false (by omega)).symm
          | cons c u hw =>
            simp only [z8S,z7X] at hlen
            rw [Z3]
            exact (decide_eq_true (by omega)).symm
        | cons a t hv =>
          cases hwi with
          | nil =>
            simp only [z8S,z7X] at hlen
            rw [uj]
            exact (decide_eq_false (by omega)).symm
          | cons c u hw =>
            rw [zaa] at hz
            cases hz
      rw [hv] at hR
      wp_walk
      exact ⟨_,rfl,by simpa [zar] using hR⟩
    case h =>
      exact ⟨rfl,rfl,items.toList,items2.toList,ns,ms,rfl,hi,hj,by omega,h⟩
end
section
variable {prog:Program}{w:World}{A:Around}{E:Value->Shared->Prop}{s:Shared}
theorem lt_tupInts{l b:Addr}{items items2:Array Value}{ns ms:List Int}{Q:Value->z7y->Prop}(hl:zcE s.heap l items)(hb:zcE s.heap b items2)(hi:z8D items.toList ns)(hj:z8D items2.toList ms)
  (hu:A.units<cLine) (h:Q (.bool (lexLt ns ms)) s):z7K (z7N prog w) A (z8h .Lt (.ref l) (.ref b)) Q E s:=by
 obtain⟨⟨cls,dd,data,sl⟩,ho,hc,n,hd⟩:=id hl
 obtain⟨⟨cls2,dd2,data2,sl2⟩,ho2,hc2,n2,hd2⟩:=id hb
 simp only at hc hd hc2 hd2
 subst hc hd hc2 hd2
 exact zbG (op:=.Lt) ⟨_,ho,rfl⟩ ⟨_,ho2,rfl⟩ PySem.F.slot_tuple_lt PySem.F.entry_tuple_lt (PySem.F.args_tuple_lt_2 _ _) (Z9 l b items items2 n n2 dd dd2 sl sl2 ns ms hi hj)
  ⟨ho,ho2,show zaM (lexLt ns ms)≠zb_/\Q (.bool (lexLt ns ms)) s from ⟨(λx=>nomatch x),h⟩⟩ hu
theorem cat_tup{t b:Addr}{vs ws:List Value}{Q:Value->z7y->Prop}(ht:zcE s.heap t vs.toArray)(hb:zcE s.heap b ws.toArray)(hv:vs≠[])
  (h1:ws=[]->Q (.ref t) s) (h2:ws≠[]->Q (.ref s.heap.objs.size) {s with heap:=s.heap.push {cls:=.type "tuple",data:=.seq (vs++ws).toArray}})
  (hsz:vs.length+ws.length<=sizeLine):z7K (z7N prog w) A (z97 .Add (.ref t) (.ref b)) Q E s:=by
 obtain⟨⟨cls,dd,data,sl⟩,ho,hc,n,hd⟩:=id ht
 obtain⟨⟨cls2,dd2,data2,sl2⟩,ho2,hc2,n2,hd2⟩:=id hb
 simp only at hc hd hc2 hd2
 subst hc hd hc2 hd2
 have e:vs.toArray++ws.toArray=(vs++ws).toArray:=by simp
 by_cases hw:ws=[]
 ·exact zcN ⟨_,ho,rfl⟩ ⟨_,ho2,rfl⟩ zbo zck zal zad (z9Z _ _)
   (tuple_addW1 t b vs.toArray ws.toArray n n2 dd dd2 sl sl2 (by simpa using hv) (by simp[hw])) ⟨ho,ho2,h1 hw⟩
 ·refine zcN ⟨_,ho,rfl⟩ ⟨_,ho2,rfl⟩ zbo zck zal zad (z9Z _ _)
   (tuple_addW2 t b vs.toArray ws.toArray n n2 dd dd2 sl sl2 (by simpa using hv) (by simpa using hw) (by rw[z7M,z7M];exact hsz)) ⟨ho,ho2,?_⟩
  rw[e]
  exact h2 hw
noncomputable def sIx(n d:Nat):Option Int->Nat
 |none=>d
 |some v=>if v<0 then (v+(n:Int)).toNat else min v.toNat n
theorem z2B(n d:Nat)(hd:d<=n)(o:Option Int):sIx n d o<=n:=by
 cases o with
 |none=>exact hd
 |some v=>
  show (if v<0 then (v+(n:Int)).toNat else min v.toNat n)<=n
  by_cases hv:v<0
  ·rw[if_pos hv];omega
  ·rw[if_neg hv];exact Nat.min_le_right _ _
theorem K1(v:Int)(n d:Nat):(if v<0 then max (v+(n:Int)) 0 else min v (n:Int))=((sIx n d (some v):Nat):Int):=by
 show (if v<0 then max (v+(n:Int)) 0 else min v (n:Int))=(((if v<0 then (v+(n:Int)).toNat else min v.toNat n):Nat):Int)
 by_cases hv:v<0
 ·simp only[if_pos hv];omega
 ·simp only[if_neg hv];omega
theorem VD(lo hi:Option Int)(n:Nat):z9W lo hi 1 (n:Int)=(((sIx n 0 lo:Nat):Int),((sIx n n hi:Nat):Int)):=by
 have h1:¬((1:Int)<0):=by omega
 unfold z9W
 simp only[h1,if_false]
 refine Prod.ext ?_ ?_
 ·cases lo with
  |none=>rfl
  |some v=>exact K1 v n 0
 ·cases hi with
  |none=>rfl
  |some v=>exact K1 v n n
theorem Jb(i j:Nat):z95 (i:Int) (j:Int) 1=j-i:=by
 unfold z95
 have h1:(1:Int) > 0:=by omega
 simp only[h1,if_true,zcO]
 split<;>omega
theorem u9{v:Value}{o:Option Int}{Q:Option Int->z7y->Prop}(p:zbH v o)(h:Q o s):z7K (z7N prog w) A (zdg v) Q E s:=by
 cases p with
 |none=>exact slicePart_none h
 |int i t=>exact slicePart_int h
theorem sliceApplied_gen{sl:Addr}{vl vu:Value}{lo hi:Option Int}{n:Nat}{Q:Int×Int×Nat->z7y->Prop}(hs:s.heap.IsSliceOf sl vl vu .none)(pl:zbH vl lo)(pu:zbH vu hi)
  (h:Q (((sIx n 0 lo:Nat):Int),1,sIx n n hi-sIx n 0 lo) s):z7K (z7N prog w) A (zaS (.ref sl) (pure (n:Int))) Q E s:=by
 obtain⟨os,hos,hcs,hds⟩:=id hs
 unfold zaS zdW
 refine z7w (z7w (z99 hos hds (x:=vl) rfl (z7w (z99 hos hds (x:=vu) rfl (z7w (z99 hos hds (x:=.none) rfl (z7G ?_)))))))
 refine z7w (slicePart_none ?_)
 show z7K _ _ (if ((1:Int) == 0)=true then _ else _) _ _ s
 rw[if_neg (by decide)]
 refine z7w (u9 pl (z7w (u9 pu (z7w (z7G ?_)))))
 show z7K _ _ (match z9W lo hi 1 (n:Int) with|(lo,hi)=>pure (lo,(1:Int),z95 lo hi 1)) _ _ s
 rw[VD lo hi n]
 show z7K _ _ (pure (((sIx n 0 lo:Nat):Int),(1:Int),z95 ((sIx n 0 lo:Nat):Int) ((sIx n n hi:Nat):Int) 1)) _ _ s
 rw[Jb]
 exact z7G h
theorem Yf(xs:Array Value)(i k:Nat):((z8y k).filterMap λ(m:Nat)=>xs[((i:Int)+(m:Int) * 1).toNat]?).toArray=((xs.toList.drop i).take k).toArray:=by
 have e:(λ(m:Nat)=>xs[((i:Int)+(m:Int) * 1).toNat]?)=λm=>xs[i+m]?:=by
  funext m
  have:((i:Int)+(m:Int) * 1).toNat=i+m:=by omega
  rw[this]
 rw[e]
 have:=pick_run xs i k
 rw[List.filterMap_map] at this
 have e2:((λx=>xs[x]?) ∘ λx=>i+x)=λm=>xs[i+m]?:=rfl
 rw[e2] at this
 rw[this]
theorem getItem_tuple_cut{t sl:Addr}{items:Array Value}{vl vu:Value}{lo hi:Option Int}{Q:Value->z7y->Prop}(ht:zcE s.heap t items)(hs:s.heap.IsSliceOf sl vl vu .none)(pl:zbH vl lo)(pu:zbH vu hi)
  (hw:¬(sIx items.size 0 lo=0/\sIx items.size items.size hi=items.size))
  (h:Q (.ref s.heap.objs.size) {s with heap:=s.heap.push {cls:=.type "tuple",data:=.seq ((items.toList.drop (sIx items.size 0 lo)).take (sIx items.size items.size hi-sIx items.size 0 lo)).toArray}})
  (hsz:items.size<=sizeLine):z7K (z7N prog w) A (zaA (.ref t) (.ref sl)) Q E s:=by
 have htake:sizeOk (.seq ((items.toList.drop (sIx items.size 0 lo)).take (sIx items.size items.size hi-sIx items.size 0 lo)).toArray):=by
  show ((items.toList.drop (sIx items.size 0 lo)).take (sIx items.size items.size hi-sIx items.size 0 lo)).toArray.size<=sizeLine
  rw[z7M,z8r,zax,z8U]
  omega
 have hj:sIx items.size items.size hi<=items.size:=z2B _ _ (z7D _) hi
 obtain⟨os,hos,hcs,hds⟩:=id hs
 have hTs:s.TypeIs (.ref sl) "slice":=⟨os,hos,hcs⟩
 unfold zaA
 try with_reducible refine z8f ?_
 first|refine z7w (z7G ?_)|skip
 refine z7w (zcP ht.typeIs (by decide) ?_)
 refine z7w (zbp (name:=zaI "__getitem__") ht.typeIs z8H
  (zd5 z8H ht.typeIs zcd ?_ (zct _ _)))
 show z7K _ _ (zaT (.ref t) >>= _) _ _ s
 refine z7w (tupleItemsOf_ ht ?_)
 refine z7w (zcQ hTs ?_)
 rw[if_pos (by decide)]
 refine z7w (sliceApplied_gen hs pl pu ?_)
 have hno:¬((((sIx items.size 0 lo:Nat):Int) == 0&&(1:Int) == 1&&(sIx items.size items.size hi-sIx items.size 0 lo) == items.size)=true):=by
  intro q
  rw[z7x,z7x] at q
  have q1:((sIx items.size 0 lo:Nat):Int)=0:=eq_of_beq q.1.1
  have q2:sIx items.size items.size hi-sIx items.size 0 lo=items.size:=eq_of_beq q.2
  exact hw ⟨by omega,by omega⟩
 show z7K _ _ (if (((sIx items.size 0 lo:Nat):Int) == 0&&(1:Int) == 1&&(sIx items.size items.size hi-sIx items.size 0 lo) == items.size)=true then _ else _) _ _ s
 rw[if_neg hno,Yf]
 first
  |exact z7w (m:=z9l _) (z9a (z7G ⟨_,rfl,z7G h⟩) htake)
  |exact z7w (m:=z9l _) (z9a (z7w (z7G (z7G ⟨_,rfl,z7G h⟩))) htake)
  |exact z7w (z7w (m:=z9l _) (z9a (z7G (z7G ⟨_,rfl,z7G h⟩)) htake))
  |exact z7w (z7w (m:=z9l _) (z9a (z7G ⟨_,rfl,z7G h⟩) htake))
end
end HT
namespace L2
open PySem PySem.Spec PyProof.Rows
noncomputable abbrev TO:=St->Hp->(Option Int->Hp->Prop)->Prop
noncomputable def PO (X:Cx)(e:Option Expr)(t:TO):Prop:=
 ∀(pins:List (Addr×Obj)) (s:z7y) (σ:St) (H:Hp) (Q:Option Int->Hp->Prop),Inv X pins σ H s->t σ H Q->
  z7K (z7N X.prog X.w) X.A (evalPart e X.env) (λu s'=>∃o H',Inv X pins σ H' s'/\zbH u o/\Q o H') X.xe s
noncomputable def z0K:TO:=λ_ H Q=>Q none H
noncomputable def z6R(t:TE):TO:=λσ H Q=>t σ H λx H1=>∃i,x=.int i/\Q (some i) H1
theorem intsAre_of{ns:List Int}:∀{us:List Value},Vals (ns.map V.int) us->z8D us ns:=by
 induction ns with
 |nil=>intro us r;rw[zcR] at r;cases r;exact .nil
 |cons n ns ih=>
  intro us r
  rw[z82] at r
  cases r with
  |cons r1 r2=>
   obtain⟨t,e⟩:=r1
   subst e
   exact .cons n t (ih r2)
section
variable {X:Cx}{e:Expr}{te:TE}{lo hi:Option Expr}{tl th:TO}{pos p2:Pos}
theorem z1i:PO X none z0K:=by
 intro pins s σ H Q I h
 rw[zcl]
 exact z7G ⟨none,H,I,.none,h⟩
theorem z0r(h:PE X e te):PO X (some e) (z6R te):=by
 intro pins s σ H Q I hw
 rw[evalPart_some]
 refine thn (h pins s σ H _ I hw) λu s1 ⟨x,H1,I1,r1,q1⟩=>?_
 obtain⟨i,rfl,q⟩:=q1
 obtain⟨t,rfl⟩:=r1
 exact⟨some i,H1,I1,.int i t,q⟩
noncomputable def SlR (X:Cx)(r:V->Option Int->Option Int->Hp->VK->Prop):Prop:=
 ∀(pins:List (Addr×Obj)) (s:z7y) (σ:St) (H:Hp) (x:V) (v vl vu:Value) (lo hi:Option Int) (sl:Addr) (Q:VK),Inv X pins σ H s->RelV x v->s.heap.IsSliceOf sl vl vu .none->zbH vl lo->zbH vu hi->r x lo hi H Q->
  ∃T id,zdy (.type T) "__getitem__"=pure (some (.builtin id))/\s.TypeIs v T/\z7K (z7N X.prog X.w) X.A (zaA v (.ref sl)) (EP X pins σ Q) X.xe s
theorem SlR.or{r r':V->Option Int->Option Int->Hp->VK->Prop}(h:SlR X r)(h':SlR X r'):SlR X (λx lo hi H Q=>r x lo hi H Q\/r' x lo hi H Q):=by
 intro pins s σ H x v vl vu lo hi sl Q I rx hs pl pu q
 rcases q with q|q
 ·exact h pins s σ H x v vl vu lo hi sl Q I rx hs pl pu q
 ·exact h' pins s σ H x v vl vu lo hi sl Q I rx hs pl pu q
noncomputable def tSl (r:V->Option Int->Option Int->Hp->VK->Prop)(te:TE)(tl th:TO):TE:=λσ H Q=>te σ H λx H1=>tl σ H1 λl H2=>th σ H2 λu H3=>r x l u H3 Q
theorem YK{r:V->Option Int->Option Int->Hp->VK->Prop}(hr:SlR X r)(he:PE X e te)(hl:PO X lo tl)(hu:PO X hi th):PE X (.Subscript e (.Slice lo hi none p2) pos) (tSl r te tl th):=by
 intro pins s σ H Q I h
 refine zcu (thn (he pins s σ H _ I h) λv s1 ⟨x,H1,I1,r1,q1⟩=>?_)
 refine wpAny_Slice (thn (hl pins s1 σ H1 _ I1 q1) λvl s2 ⟨l,H2,I2,pl,q2⟩=>thn (hu pins s2 σ H2 _ I2 q2) λvu s3 ⟨u,H3,I3,pu,q3⟩=>?_)
 rw[zcl]
 refine z7G ?_
 have I4:Inv X pins σ H3 {s3 with heap:=s3.heap.push {cls:=.type "slice",data:=.fields #[vl,vu,.none]}}:=I3.kept (t':=s3.toks) λb ob q=>z7z _ q
 obtain⟨T,id,hT,ht,hg⟩:=hr pins {s3 with heap:=s3.heap.push {cls:=.type "slice",data:=.fields #[vl,vu,.none]}} σ H3 x v vl vu l u s3.heap.objs.size Q I4 r1 (zcv ..) pl pu q3
 show z7K (z7N X.prog X.w) X.A (zbd e (.Slice lo hi none p2) v (.ref s3.heap.objs.size)) (EP X pins σ Q) X.xe {s3 with heap:=s3.heap.push {cls:=.type "slice",data:=.fields #[vl,vu,.none]}}
 exact tail_any (ops:=[.ref s3.heap.objs.size,v]) ht hT hg (by with_unfolding_all rfl)
noncomputable def Zo (xs:List V)(lo hi:Option Int):List V:=(xs.drop (HT.sIx xs.length 0 lo)).take (HT.sIx xs.length xs.length hi-HT.sIx xs.length 0 lo)
theorem x_(xs:List V)(lo hi:Option Int):(Zo xs lo hi).length<=xs.length:=by
 unfold Zo
 rw[z8r,zax]
 omega
noncomputable def z7m (K:z7E):V->Option Int->Option Int->Hp->VK->Prop:=λx lo hi H Q=>∃a xs,x=.ref a/\SqT K H a xs/\
 ¬(HT.sIx xs.length 0 lo=0/\HT.sIx xs.length xs.length hi=xs.length)/\∀p,H p=none->Q (.ref p) (upd H p (.tup (Zo xs lo hi)))
theorem z3Z:SlR X (z7m X.K):=by
 intro pins s σ H x v vl vu lo hi sl Q I rx hs pl pu h
 obtain⟨a,xs,rfl,hx,hw,q⟩:=h
 cases rx
 obtain⟨its,r,ht,hz⟩:=I.tuple hx
 have hlen:its.toArray.size=xs.length:=by rw[z7M];exact r.length.symm
 refine⟨"tuple",_,z8H.lookup,ht.typeIs,?_⟩
 refine HT.getItem_tuple_cut ht hs pl pu (by rw[hlen];exact hw) ?_ (by rw[hlen];exact hz)
 rw[hlen]
 refine⟨.ref s.heap.objs.size,_,I.laid (t':=s.toks) (o:=.tup (Zo xs lo hi)) (λb ob q=>z7z _ q) (z7D _) ?_,rfl,q _ (I.hok.fresh (z7D _))⟩
 exact⟨z7V (x_ xs lo hi) hz,_,(r.drop (HT.sIx xs.length 0 lo)).take (HT.sIx xs.length xs.length hi-HT.sIx xs.length 0 lo),zeU _ _⟩
noncomputable def z6Z (K:z7E):R2:=λx y H Q=>∃a b ns ms,x=.ref a/\y=.ref b/\SqT K H a (ns.map V.int)/\SqT K H b (ms.map V.int)/\Q (.bl (HT.lexLt ns ms)) H
theorem z2O(hu:X.A.units<cLine):OpR X (z8h .Lt) (z6Z X.K):=by
 intro pins s σ H x y v u Q I rx ry h
 obtain⟨a,b,ns,ms,rfl,rfl,ha,hb,q⟩:=h
 cases rx
 cases ry
 obtain⟨its,r1,p1,_⟩:=I.tuple ha
 obtain⟨its2,r2,p2,_⟩:=I.tuple hb
 have i1:z8D its.toArray.toList ns:=intsAre_of r1
 have i2:z8D its2.toArray.toList ms:=intsAre_of r2
 exact HT.lt_tupInts p1 p2 i1 i2 hu ⟨.bl (HT.lexLt ns ms),H,I,rfl,q⟩
noncomputable def z5L(K:z7E):R2:=λx y H Q=>∃a b xs ys,x=.ref a/\y=.ref b/\SqT K H a xs/\SqT K H b ys/\xs≠[]/\xs.length+ys.length<=sizeLine/\
 (ys=[]->Q (.ref a) H)/\(ys≠[]->∀p,H p=none->Q (.ref p) (upd H p (.tup (xs++ys))))
theorem Vals.nil_iff{xs:List V}{us:List Value}(r:Vals xs us):us=[]↔xs=[]:=by
 cases r with
 |nil=>simp
 |cons _ _=>simp
theorem z0u:OpR X (z97 .Add) (z5L X.K):=by
 intro pins s σ H x y v u Q I rx ry h
 obtain⟨a,b,xs,ys,rfl,rfl,ha,hb,hx,hz,q1,q2⟩:=h
 cases rx
 cases ry
 obtain⟨its,r1,p1,_⟩:=I.tuple ha
 obtain⟨its2,r2,p2,_⟩:=I.tuple hb
 refine HT.cat_tup p1 p2 (λz=>hx (r1.nil_iff.mp z)) (λz=>⟨.ref a,H,I,rfl,q1 (r2.nil_iff.mp z)⟩) (λz=>?_) (by rw[←r1.length,←r2.length];exact hz)
 refine⟨.ref s.heap.objs.size,_,I.laid (t':=s.toks) (o:=.tup (xs++ys)) (λb ob q=>z7z _ q) (z7D _) ?_,rfl,q2 (λw=>z (r2.nil_iff.mpr w)) _ (I.hok.fresh (z7D _))⟩
 exact⟨by rw[z8b];exact hz,_,r1.append r2,zeU _ _⟩
end
end L2
namespace L2
open PySem PySem.Spec PyProof.Rows
noncomputable def ixN(n:Nat)(i:Int):Option Nat:=if 0<=i then (if i<n then some i.toNat else none) else if -(n:Int)<=i then some (i+n).toNat else none
noncomputable def atI {α:Type}(xs:List α)(i:Int):Option α:=(ixN xs.length i).bind λj=>xs[j]?
theorem z1G{n:Nat}{i:Int}{j:Nat}(h:ixN n i=some j):seqIndex? i n=some j/\j<n /\ -(n:Int)<=i/\i<n:=by
 unfold ixN at h
 by_cases h0:0<=i
 ·rw[if_pos h0] at h
  by_cases h1:i<n
  ·rw[if_pos h1] at h
   have e:i.toNat=j:=z7A h
   exact⟨by rw[seqIndex_of h0 h1,e],by omega,by omega,h1⟩
  ·rw[if_neg h1] at h;cases h
 ·rw[if_neg h0] at h
  by_cases h1:-(n:Int)<=i
  ·rw[if_pos h1] at h
   have e:(i+n).toNat=j:=z7A h
   exact⟨by rw[seqIndex_neg (by omega) h1,e],by omega,h1,by omega⟩
  ·rw[if_neg h1] at h;cases h
theorem QE{α:Type}{xs:List α}{i:Int}{v:α}(h:atI xs i=some v):∃j,seqIndex? i xs.length=some j/\xs[j]?=some v/\j<xs.length /\ -(xs.length:Int)<=i/\i<xs.length:=by
 unfold atI at h
 cases e:ixN xs.length i with
 |none=>rw[e] at h;cases h
 |some j=>
  rw[e] at h
  obtain⟨h1,h2,h3,h4⟩:=z1G e
  exact⟨j,h1,h,h2,h3,h4⟩
noncomputable def z0U(b:Expr):Prop:=∀o i,zc1 b false o i=operate [o,i] (zaA o i)
noncomputable def IxR (X:Cx)(r:R2):Prop:=
 ∀(value slice:Expr) (pins:List (Addr×Obj)) (s:z7y) (σ:St) (H:Hp) (x y:V) (v u:Value) (Q:VK),Inv X pins σ H s->RelV x v->RelV y u->r x y H Q->
  zc1 slice false v u=operate [v,u] (zaA v u)->z7K (z7N X.prog X.w) X.A (zbd value slice v u) (EP X pins σ Q) X.xe s
noncomputable def MtR (X:Cx)(id:String)(r:V->List V->Hp->VK->Prop):Prop:=
 ∀(pins:List (Addr×Obj)) (s:z7y) (σ:St) (H:Hp) (x:V) (xs:List V) (v:Value) (us:List Value) (Q:VK),Inv X pins σ H s->RelV x v->Vals xs us->r x xs H Q->
  z7K (z7N X.prog X.w) X.A (call (.builtin id) (v::us)) (EP X pins σ Q) X.xe s
section
variable {X:Cx}{a b:Expr}{ta tb:TE}{pos:Pos}
noncomputable def z7p (K:z7E):R2:=λx y H Q=>∃p xs i v,x=.ref p/\y=.int i/\SqL K H p xs/\atI xs i=some v/\Q v H
noncomputable def z7b (K:z7E):R2:=λx y H Q=>∃p xs i v,x=.ref p/\y=.int i/\SqT K H p xs/\atI xs i=some v/\Q v H
noncomputable def z75:R2:=λx y H Q=>∃z i c,x=.str z/\y=.int i/\z.length<=sizeLine/\atI z.cps.toList i=some c/\Q (.str ⟨#[c]⟩) H
theorem JI:IxR X (z7p X.K):=by
 intro value slice pins s σ H x y v u Q I rx ry h hs
 obtain⟨p,xs,i,z,rfl,rfl,hq,he,q⟩:=h
 cases rx
 obtain⟨t,rfl⟩:=ry
 obtain⟨its,r,pl,hz⟩:=I.list hq
 obtain⟨j,h1,h2,h3,h4,h5⟩:=QE he
 obtain⟨w,ew,rw'⟩:=r.get h2
 have hl:=r.length
 have hn:=y_
 have fin:EP X pins σ Q w s:=⟨z,H,I,rw',q⟩
 by_cases h0:0<=i
 ·have hj:i.toNat=j:=by
   rw[seqIndex_of h0 h5] at h1
   exact z7A h1
  exact item_listR pl.isList h0 (by omega) (by rw[hj];simpa using ew) fin hs
 ·have hj:(i+(its.toArray.size:Int)).toNat=j:=by
   rw[seqIndex_neg (by omega) h4] at h1
   rw[z7M,←hl]
   exact z7A h1
  exact zbI (x:=w) pl.isList.typeIs zcS.lookup
   (wpAny_getItem_list_neg (Q:=λr s'=>r=w/\EP X pins σ Q r s') pl.isList (by omega) (by rw[z7M]<;>omega) (by omega) (by rw[hj];simpa using ew) ⟨rfl,fin⟩) hs
theorem z58:IxR X (z7b X.K):=by
 intro value slice pins s σ H x y v u Q I rx ry h hs
 obtain⟨p,xs,i,z,rfl,rfl,hq,he,q⟩:=h
 cases rx
 obtain⟨t,rfl⟩:=ry
 obtain⟨its,r,pl,hz⟩:=I.tuple hq
 obtain⟨j,h1,h2,h3,h4,h5⟩:=QE he
 obtain⟨w,ew,rw'⟩:=r.get h2
 have hl:=r.length
 have hn:=y_
 have fin:EP X pins σ Q w s:=⟨z,H,I,rw',q⟩
 exact zbI (x:=w) pl.typeIs z8H.lookup
  (getItem_tuple (j:=j) (Q:=λr s'=>r=w/\EP X pins σ Q r s') pl (by omega) (by omega) (by rw[z7M,←hl];exact h1) (by simpa using ew) ⟨rfl,fin⟩) hs
theorem z3L:IxR X z75:=by
 intro value slice pins s σ H x y v u Q I rx ry h hs
 obtain⟨z,i,c,rfl,rfl,hz,he,q⟩:=h
 obtain⟨t,rfl⟩:=rx
 obtain⟨t',rfl⟩:=ry
 obtain⟨j,h1,h2,h3,h4,h5⟩:=QE he
 have hl:z.cps.toList.length=z.length:=by simp[zdz]
 rw[hl] at h1 h4 h5
 have hn:=y_
 exact tail_any (zdA s z t) slot_str_getitem.lookup (getItem_str (c:=c) (by
  have e1:decide (i < -(2 ^ 63:Int))=false:=decide_eq_false (by omega)
  have e2:decide (i ≥ 2 ^ 63)=false:=decide_eq_false (by omega)
  rw[e1,e2,Bool.or_false]) (by rw[h1];simpa using h2) ⟨.str ⟨#[c]⟩,H,I.tok _,⟨_,rfl⟩,q⟩) hs
theorem We(lo hi:Option Int)(n:Nat):(z9N lo hi none n).1=((HT.sIx n 0 lo:Nat):Int)/\(z9N lo hi none n).2.1=((HT.sIx n n hi:Nat):Int)/\(z9N lo hi none n).2.2=1:=by
 refine⟨?_,?_,rfl⟩
 ·cases lo with
  |none=>simp[z9N,HT.sIx]
  |some i=>
   simp only[z9N,HT.sIx,zd6,show (1:Int) > 0 by decide,if_true]
   by_cases h:i<0
   ·simp only[h,if_true]<;>omega
   ·simp only[h,if_false]<;>omega
 ·cases hi with
  |none=>simp[z9N,HT.sIx]
  |some i=>
   simp only[z9N,HT.sIx,zd6,show (1:Int) > 0 by decide,if_true]
   by_cases h:i<0
   ·simp only[h,if_true]<;>omega
   ·simp only[h,if_false]<;>omega
theorem Z5(its:List Value)(lo hi:Option Int):zd7 its.toArray lo hi none=((its.drop (HT.sIx its.length 0 lo)).take (HT.sIx its.length its.length hi-HT.sIx its.length 0 lo)).toArray:=by
 obtain⟨h1,h2,h3⟩:=We lo hi its.toArray.size
 unfold zd7
 rw[h1,h2,h3]
 simp only[sliceRange_one,pick_run,z7M]<;>rfl
noncomputable def z7n (K:z7E):V->Option Int->Option Int->Hp->VK->Prop:=λx lo hi H Q=>∃a xs,x=.ref a/\SqL K H a xs/\∀p,H p=none->Q (.ref p) (upd H p (.lst (Zo xs lo hi)))
theorem z0j:SlR X (z7n X.K):=by
 intro pins s σ H x v vl vu lo hi sl Q I rx hs pl pu h
 obtain⟨a,xs,rfl,hx,q⟩:=h
 cases rx
 obtain⟨its,r,ht,hz⟩:=I.list hx
 have hlen:=r.length
 refine⟨"list",_,zcS.lookup,ht.isList.typeIs,?_⟩
 refine zbe ht.isList hs pl pu .none (by simp) ?_ (by rw[z7M]<;>omega)
 rw[Z5,←hlen]
 refine⟨.ref s.heap.objs.size,_,I.laid (t':=s.toks) (o:=.lst (Zo xs lo hi)) (λb ob q=>z7z _ q) (z7D _) ?_,rfl,q _ (I.hok.fresh (z7D _))⟩
 exact⟨z7V (x_ xs lo hi) hz,_,0,(r.drop (HT.sIx xs.length 0 lo)).take (HT.sIx xs.length xs.length hi-HT.sIx xs.length 0 lo),z7W _ rfl⟩
theorem vp:K7 X (.builtin "len") (λxs H Q=>∃p ys,xs=[.ref p]/\(SqL X.K H p ys\/SqT X.K H p ys)/\Q (.int ys.length) H):=by
 intro pins s σ H xs us Q I r h
 obtain⟨p,ys,rfl,hq,q⟩:=h
 obtain⟨u,rfl,rx⟩:=vals1 r
 cases rx
 have hn:=y_
 rcases hq with hq|hq
 ·obtain⟨its,r',pl,hz⟩:=I.list hq
  have hlen:=r'.length
  exact Calls.call_len_list pl.isList (by simp only[z7M]<;>omega) ⟨.int ys.length,H,I.tok _,⟨s.toks+1,by rw[z7M,hlen]⟩,q⟩
 ·obtain⟨its,r',pl,hz⟩:=I.tuple hq
  have hlen:=r'.length
  exact len_tuple pl (by simp only[z7M]<;>omega) ⟨.int ys.length,H,I.tok _,⟨s.toks+1,by rw[z7M,hlen]⟩,q⟩
theorem QL:K7 X (.builtin "len") (λxs H Q=>∃z,xs=[.str z]/\z.length<=sizeLine/\Q (.int z.length) H):=by
 intro pins s σ H xs us Q I r h
 obtain⟨z,rfl,hz,q⟩:=h
 obtain⟨u,rfl,t,rfl⟩:=vals1 r
 have hn:=y_
 exact len_str (by omega) ⟨.int z.length,H,I.tok _,⟨_,rfl⟩,q⟩
theorem qj:K7 X (.type "list") (λxs H Q=>∃p ys,xs=[.ref p]/\(SqL X.K H p ys\/SqT X.K H p ys)/\∀l,H l=none->Q (.ref l) (upd H l (.lst ys))):=by
 intro pins s σ H xs us Q I r h
 obtain⟨p,ys,rfl,hq,q⟩:=h
 obtain⟨u,rfl,rx⟩:=vals1 r
 cases rx
 have fin:∀(its:List Value),Vals ys its->ys.length<=sizeLine->∀(h':Heap) (c':Nat),(∀b o',s.heap.get? b=some o'->h'.get? b=some o')->
   h'.get? s.heap.objs.size=some {cls:=.type "list",dict:=none,data:=.seq its.toArray c',slots:=#[]}->EP X pins σ Q (.ref s.heap.objs.size) {s with heap:=h'}:=λits r' hz h' c' kp e=>
  ⟨.ref s.heap.objs.size,_,I.laid (t':=s.toks) kp (z7D _) (show ObjOk X.prog X.w _ h' _ (.lst ys) from ⟨hz,its,c',r',e⟩),rfl,q _ (I.hok.fresh (z7D _))⟩
 rcases hq with hq|hq
 ·obtain⟨its,r',pl,hz⟩:=I.list hq
  have hlen:=r'.length
  obtain⟨o,ho,hc,n,hd⟩:=pl.isList
  exact call_list_seq p (.inl rfl) ho hc hd (λh' c' kp e=>fin its r' hz h' c' kp e) (by simp only[z7M]<;>omega)
 ·obtain⟨its,r',pl,hz⟩:=I.tuple hq
  have hlen:=r'.length
  obtain⟨o,ho,hc,n,hd⟩:=pl
  exact call_list_seq p (.inr rfl) ho hc hd (λh' c' kp e=>fin its r' hz h' c' kp e) (by simp only[z7M]<;>omega)
noncomputable def tyV (K:z7E)(T:String)(x:V)(H:Hp):Prop:=match x with
 |.str _=>T="str"
 |.int _=>T="int"
 |.ref p=>(T="list"/\∃xs,SqL K H p xs)\/(T="tuple"/\∃o,K.lookup p=some o/\o.cls=.type "tuple"/\o.dict=none)\/
   (T="dict"/\((∃kvs,H p=some (.dK kvs))\/∃kvs,H p=some (.dT kvs)))\/(T="set"/\∃S n,H p=some (.set S n))
 |_=>False
theorem z4Q{pins:List (Addr×Obj)}{σ:St}{H:Hp}{s:z7y}{T:String}{x:V}{v:Value}(I:Inv X pins σ H s)(r:RelV x v)(ty:tyV X.K T x H) :
  s.TypeIs v T/\∀a,v=.ref a->∃ob,s.heap.get? a=some ob/\ob.dict=none:=by
 cases x with
 |str z=>
  obtain⟨t,rfl⟩:=r
  cases (show T="str" from ty)
  exact⟨zdA s z t,λ_ e=>nomatch e⟩
 |int i=>
  obtain⟨t,rfl⟩:=r
  cases (show T="int" from ty)
  exact⟨typeIs_int s i t,λ_ e=>nomatch e⟩
 |ref p=>
  cases r
  rcases ty with⟨rfl,xs,hq⟩|⟨rfl,o,hk,hc,hd⟩|⟨rfl,hk⟩|⟨rfl,S,n,hk⟩
  ·obtain⟨its,_,pl,_⟩:=I.list hq
   refine⟨pl.isList.typeIs,λa e=>?_⟩
   cases e
   obtain⟨o,n,e,c,hd,_⟩:=pl
   exact⟨o,e,hd⟩
  ·refine⟨⟨o,I.kIn p o hk,hc⟩,λa e=>?_⟩
   cases e
   exact⟨o,I.kIn _ o hk,hd⟩
  ·have z:∃o,s.heap.get? p=some o/\o.ExactDict:=by
    rcases hk with⟨kvs,hk⟩|⟨kvs,hk⟩
    ·obtain⟨_,_,_,_,o,_,_,e,ex,_⟩:=I.hok p _ hk
     exact⟨o,e,ex⟩
    ·obtain⟨_,_,_,_,o,_,_,e,ex,_⟩:=I.hok p _ hk
     exact⟨o,e,ex⟩
   obtain⟨o,e,ex⟩:=z
   refine⟨⟨o,e,ex.1⟩,λa e2=>?_⟩
   cases e2
   exact⟨o,e,ex.2.1⟩
  ·obtain⟨o,_,_,_,e,ex,_⟩:=I.hok p _ hk
   refine⟨⟨o,e,ex.1⟩,λa e2=>?_⟩
   cases e2
   exact⟨o,e,ex.2.1⟩
 |_=>exact z8d ty
noncomputable def tBM (K:z7E)(T:String)(r:V->List V->Hp->VK->Prop)(to:TE)(t:TA):TE:=λσ H Q=>to σ H λx H1=>tyV K T x H1/\t σ H1 λxs H2=>r x xs H2 Q
variable {o e:Expr}{es:List Expr}{to:TE}{t:TA}{name:Str}{apos cpos:Pos}{T id:String}{r:V->List V->Hp->VK->Prop}
theorem XR (pa:PlainAttrs T) (slot:Slot T name id) (hty:typeOf (.builtin id)=pure (.type "method_descriptor")) (hm:MtR X id r) (ho:PE X o to) (ha:PA X (e::es) t)
  (hbase:z9C o name X.env (eval o X.env)=eval o X.env:=by rfl)
  (hfew:((z9v cpos (z8l (e::es) X.env)).all (λx=>!x.1)&&(zaB cpos (z9r [] X.env)).all (λx=>x.1.isSome)
   &&decide ((e::es).length+([]:List z9U).length+(if ([]:List z9U).isEmpty then 0 else 1)<30))=true:=by rfl)
  (hline:(apos.endLine == cpos.line)=true:=by rfl) (hs:z8l (e::es) X.env=(false,eval e X.env)::z8l es X.env:=by rfl) (hplain:(z9v cpos (z8l es X.env)).any (·.1)=false:=by rfl) :
  PE X (.Call (.Attribute o name apos) (e::es) [] cpos) (tBM X.K T r to t):=by
 intro pins s σ H Q I h
 refine wpAny_Call_method_late hbase hfew hline rfl (thn (ho pins s σ H _ I h) λv s1 ⟨x,H1,I1,r1,ty,q1⟩=>?_)
 obtain⟨h1,h2⟩:=z4Q I1 r1 ty
 refine⟨T,id,pa,slot,hty,h1,h2,?_⟩
 have hA:=ha cpos pins s1 σ H1 _ I1 q1
 rw[hs] at hA ⊢
 refine zbJ (by show (false || (z9v cpos (z8l es X.env)).any (·.1))=false;rw[hplain]<;>rfl) (zaC ?_)
 exact thn hA λus s2 ⟨vs,H2,I2,r2,q2⟩=>hm pins s2 σ H2 x vs v us Q I2 r1 r2 q2
end
end L2
namespace L2
open PySem PySem.Spec PyProof.Rows
noncomputable def MtM (X:Cx)(id:String)(r:V->List V->Hp->VK->Prop):Prop:=
 ∀(pins:List (Addr×Obj)) (s:z7y) (σ:St) (H:Hp) (x:V) (xs:List V) (v:Value) (us:List Value) (Q:VK),Inv X pins σ H s->RelV x v->Vals xs us->r x xs H Q->
  z7K (z7N X.prog X.w) X.A (call (.builtin id) (v::us)) (EP X pins σ Q) X.xe s
theorem Vals.one:∀{x:V} {us:List Value},Vals [x] us->∃u,us=[u]/\RelV x u
 |_,_,.cons r .nil=>⟨_,rfl,r⟩
section
variable {X:Cx}{pins:List (Addr×Obj)}{σ:St}{H:Hp}{s:Shared}{l b:Addr}{xs ys zs:List V}
theorem Inv.lset{its its':List Value}{n:Nat}{f:Array Value->Array Value}{t':Nat}(I:Inv X pins σ H s)(hH:H l=some (.lst xs))
  (e:s.heap.get? l=some {cls:=.type "list",data:=.seq its.toArray n}) (hf:f its.toArray=its'.toArray) (hv:Vals ys its') (hz:ys.length<=sizeLine) :
  Inv X pins σ (upd H l (.lst ys)) {s with heap:=s.heap.update l (z8g f),toks:=t'}:=by
 have q:=PySem.IsL.update e f
 rw[hf] at q
 refine I.write (x:=l) (e:=l) (by rw[hH];exact trivial) (.inl rfl) (λb' u hb hu=>(z8X s.heap (z8g f) (z9m hb)).trans hu) ⟨_,q⟩ ?_
 exact⟨hz,its',_,hv,q⟩
theorem Inv.lnew{its:List Value}{t':Nat}(I:Inv X pins σ H s)(hv:Vals ys its)(hz:ys.length<=sizeLine) :
  Inv X pins σ (upd H s.heap.objs.size (.lst ys)) {s with heap:=s.heap.push {cls:=.type "list",data:=.seq its.toArray},toks:=t'}:=
 I.laid (λ_ _ q=>z7z _ q) (z7D _) ⟨hz,its,0,hv,z7W _ rfl⟩
theorem Inv.fresh(I:Inv X pins σ H s):H s.heap.objs.size=none:=I.hok.fresh (z7D _)
theorem Inv.lstM(I:Inv X pins σ H s)(hH:H l=some (.lst xs)):xs.length<=sizeLine/\∃(its:List Value) (n:Nat),Vals xs its/\xs.length=its.length/\s.heap.get? l=some {cls:=.type "list",data:=.seq its.toArray n}:=by
 obtain⟨z,its,n,r,e⟩:=I.hok l _ hH
 exact⟨z,its,n,r,r.length,e⟩
theorem UL{n:Nat}(h:n<=sizeLine):z9_ n=false:=by
 unfold z9_
 exact decide_eq_false (by omega)
end
section
variable {X:Cx}
noncomputable def z17:V->List V->Hp->VK->Prop:=λx vs H Q=>∃l xs y,x=.ref l/\vs=[y]/\H l=some (.lst xs)/\xs.length<sizeLine/\Q .non (upd H l (.lst (xs++[y])))
theorem ZA:MtM X "list.append" z17:=by
 intro pins s σ H x vs v us Q I rx rv h
 obtain⟨l,xs,y,rfl,rfl,hH,hz,q⟩:=h
 cases rx
 obtain⟨u,rfl,ru⟩:=rv.one
 obtain⟨z,its,n,r,hl,e⟩:=I.lstM hH
 refine zdB F.slot_list_append ⟨_,e,rfl⟩ F.entry_list_append (F.args_list_append_2 _ _) (PySem.list_append l its.toArray n u (by rw[z7M];omega)) ⟨e,?_⟩
 refine⟨.non,_,I.lset (its':=its++[u]) hH e (by simp) (r.append (.cons ru .nil)) ?_,rfl,q⟩
 rw[z8b,List.length_singleton]
 omega
end
end L2
namespace Att
open PySem PySem.W PySem.Calls PyProof.Rows
theorem yj{P:Params}{h:Heap}:∀(ns:List Int) (vs:List Value),WellAll P h vs (ns.map zeV)->z8D vs ns:=by
 intro ns
 induction ns with
 |nil=>
  intro vs w
  rw[zcR] at w
  cases w
  exact .nil
 |cons n ns ih=>
  intro vs w
  rw[z82] at w
  cases w with
  |cons a b=>
   cases a
   exact .cons _ _ (ih _ b)
theorem Xf{l:zes}{n:Nat}(hn:l.most=some n){P:Params}{h:Heap}{args:List WData}{vals:List Value}
  (hpre:l.row.toRowW.claim.pre args=true) (hwl:WellAll P h vals args) :
  ∃a vs ns,vals=[z80 a]/\args=[WData.list (ns.map zeV)]/\h.get? a=some {cls:=.type "list",data:=.seq vs.toArray}/\z8D vs ns/\ns.length<=n:=by
 have hsh:WShape.hasAll [] args [.list .int]=true:=(pre_splitW hpre).1
 have hc:l.pre.holds [] {args:=args}=true:=(pre_splitW hpre).2
 obtain⟨d,r,rfl,h1,h2⟩:=hasAllW_cons hsh
 obtain rfl:=hasAllW_nil h2
 obtain⟨xs,rfl,h3⟩:=hasW_list h1
 obtain⟨ns,rfl⟩:=items_int h3
 have hlen:ns.length<=n:=by
  unfold OpenLaw.pre at hc
  have h4:(WTm.not (.lt (.lit (.int (n:Int))) (.len (.arg 0)))).holds [] {args:=[.list (ns.map .int)]}=true:=by
   have h4:=(holds_andW hc).1
   rw[hn] at h4
   exact h4
  have h5:=condW_of h4 (w_not (w_lt w_lit (w_len_list (w_arg rfl))))
  rw[z7B] at h5
  refine Nat.le_of_not_lt λq=>?_
  have q':(n:Int)<((ns.length:Nat):Int):=by omega
  first
   |(rw[decide_eq_true q'] at h5;exact absurd h5 (by decide))
   |(simp at h5;omega)
 cases hwl with
 |cons w1 w2=>
  cases w2
  cases w1 with
  |list ho hall=>exact⟨_,_,ns,rfl,rfl,ho,yj ns _ hall,hlen⟩
theorem KU(l:zes)(args:List WData):l.row.toRowW.claim.post args (.bool true) args=true:=
 postW_of (r:=l.row.toRowW) (X:=(true == true))
  (show zeO [] (.bool true) .bool=true by first|rfl|decide|simp[zeO,WShape.arms,WShape.armsAll])
  (show (WTm.eq .res (.lit (.bool true))).value [] {args:=args,res:=some (.bool true),after:=args}=some (.bool (true == true)) from w_eq_bool (w_res rfl) w_lit) rfl
theorem attach_call{l:zes}{n:Nat}{q:z8e}{loose:List Str}{XP:(Str->Option Value)->Heap->Prop}{YP:z8s->Heap->Prop}{d:DefRec}
  (hn:l.most=some n) (hdf:d.params.defaults=[])
  (call:∀(w:z8s) (s₀ s₁:z7y) (mg mb:Str->Option Value) (fa:Addr) (o:Obj) (pm cd doc:Value) (a:Addr) (vs:List Value) (ns:List Int),
   Ground q loose [] XP w s₀ mg mb s₁.heap->YP w s₁.heap->
   s₁.heap.get? fa=some o->o.data=.func (docDef d.name d.params d.body d.scope pm cd doc)->s₁.heap.CodeRec cd d.name->mg d.name=some (.ref fa)->
   s₁.heap.get? a=some {cls:=.type "list",data:=.seq vs.toArray}->z8D vs ns->ns.length<=n->s₁.gens=#[]->
   z9S (z7N l.prog w) zdq (.call (.ref fa) ⟨[.ref a],[]⟩) (λr s'=>r=.ok (.ret (.bool true))/\OldK s₁.heap s'.heap/\s'.os=s₁.os/\zb1 s'.gens) s₁) :
  WalkO q loose XP YP l.row.toRowW d [] (λf vs=>zeP f vs):=by
 intro w s₀ s₁ mg mb G Y fa o pm cd doc dV kV ho hd hcd hD hmg hg args vals as hpre hlay hrd hwl hlo
 obtain rfl:dV=.none:=Dflts.none hD hdf
 obtain rfl:kV=.none:=Dflts.noKw hD
 obtain⟨a,vs,ns,rfl,rfl,hobj,hints,hlen⟩:=Xf hn hpre hwl
 refine enter_call (z9b (call w s₀ s₁ mg mb fa o pm cd doc a vs ns G Y ho (fd_plain hd) hcd hmg hobj hints hlen hg) λr s' hq=>?_)
 obtain⟨rfl,h2,h3,h4⟩:=hq
 exact⟨.inl ⟨.bool true,.bool true,[],rfl,λ_=>rfl,.bool true,KU l _,λ_=>⟨zeT,λ_ hm=>(nomatch hm)⟩⟩,h2,h3,h4⟩
section
variable {prog:Program}{w:World}{A:Around}{E:Value->Shared->Prop}{s:Shared}{K:Frag}
noncomputable def ledger(h:Heap)(L d:Addr):List (Addr×Obj):=(z8y h.objs.size).filterMap λa=>if a=L\/a=d then none else (h.get? a).map λo=>(a,o)
end
end Att
namespace L2
open PySem PySem.Spec PyProof.Rows
theorem vals_ints:∀{vs:List Value} {ns:List Int},z8D vs ns->Vals (ns.map V.int) vs
 |_,_,.nil=>.nil
 |_,_,.cons n t h=>.cons ⟨t,rfl⟩ (vals_ints h)
end L2
namespace L2
open PySem PySem.Spec PyProof.Rows
noncomputable abbrev KOf{K:z7E}{h:Heap}(_:K.In h):z7E:=K
end L2
namespace L2
open PySem PySem.Spec PyProof.Rows
noncomputable def inClass(s:Stmt)(j:Nat):Stmt:=match s with
 |.ClassDef _ _ _ body _ _ _ _ _ _ _=>body.getD j (.Pass ⟨0,0,0,0⟩)
 |_=>.Pass ⟨0,0,0,0⟩
noncomputable def zz(s:Stmt):Arguments:=match s with
 |.FunctionDef _ a _ _ _ _ _ _ _ _=>a
 |_=>{posonlyargs:=[],args:=[],vararg:=none,kwonlyargs:=[],kw_defaults:=[],kwarg:=none,defaults:=[]}
noncomputable def z3(s:Stmt):List Stmt:=match s with
 |.FunctionDef _ _ b _ _ _ _ _ _ _=>b
 |_=>[]
noncomputable def zj(s:Stmt):Scope:=match s with
 |.FunctionDef _ _ _ _ _ _ sc _ _ _=>sc
 |_=>{kind:=.function,names:=[],isGenerator:=false,isCoroutine:=false}
noncomputable abbrev E0:XK:=λ_ _ _=>False
structure Fun(K:PySem.W.Frag)(x qual:Str)(st:Stmt)(f:Addr)(fd:FuncData):Prop where
 ex:∃(oc:Value) (od:Option Addr) (kV doc pm:Value) (an:Option Addr) (cdv ct:Value) (osl:Array (Option Value)),
  fd=z9x x qual (zz st) (z3 st) (zj st) .none kV doc pm an cdv ct/\K.lookup f=some ⟨oc,od,.func fd,osl⟩/\zaR K cdv qual=true
 kp:z9o K (.ref f)=true
section
variable {P:Program}{w:World}{K:PySem.W.Frag}{mg:Str->Option Value}{base:Heap}
theorem Fun.binds{x qual:Str}{st:Stmt}{f:Addr}{fd:z8O}{ps:List Str}(F:Fun K x qual st f fd)
  (h:∀(kV doc pm:Value) (an:Option Addr) (cdv ct:Value) (us:List Value),us.length=ps.length->zbn (z9x x qual (zz st) (z3 st) (zj st) .none kV doc pm an cdv ct) ⟨us,[]⟩=pure (ps.zip us)):Binds K fd ps []:=by
 obtain⟨oc,od,kV,doc,pm,an,cdv,ct,osl,rfl,lk,hcd⟩:=F.ex
 exact .all (h kV doc pm an cdv ct)
theorem xt{x qual:Str}{st:Stmt}{f:Addr}{oc:Value}{od an:Option Addr}{osl:Array (Option Value)}{kV doc pm cdv ct:Value}(l:K.lookup f=some ⟨oc,od,.func (z9x x qual (zz st) (z3 st) (zj st) .none kV doc pm an cdv ct),osl⟩)
  (c:zaR K cdv qual=true) (k:z9o K (.ref f)=true):Fun K x qual st f (z9x x qual (zz st) (z3 st) (zj st) .none kV doc pm an cdv ct):=⟨⟨oc,od,kV,doc,pm,an,cdv,ct,osl,rfl,l,c⟩,k⟩
end
noncomputable def yl (H H':Hp):Prop:=∀b o,H b=some o->H' b=some o
end L2
end
section
namespace NH
open PySem
noncomputable def z7g (h:Heap)(x:Addr)(cls:Value)(d:Option Addr):Prop:=∃oe vs a0,h.get? x=some oe/\(oe.cls=cls/\oe.dict=d)/\oe.data=.fields vs/\vs[0]?=some a0/\vs[1]?=some .none
noncomputable def XTr (h:Heap)(x T:Addr)(cls:Value)(d:Option Addr)(fl:Value):Prop:=∃oe vs a0 oT ts,h.get? x=some oe/\(oe.cls=cls/\oe.dict=d)/\oe.data=.fields vs/\vs[0]?=some a0/\vs[1]?=some (.ref T)/\T≠x/\h.get? T=some oT/\oT.data=.fields ts/\ts[3]?=some fl
noncomputable def z5K (h:Heap)(x:Addr)(cls:Value)(d:Option Addr):Option Addr->Value->Prop
 |none,fl=>z7g h x cls d/\fl=.none
 |some T,fl=>XTr h x T cls d fl
structure XMove(fs:List Addr)(x:Addr)(T T':Option Addr)(h h':Heap):Prop where
 keep:∀b o,h.get? b=some o->b∉fs->b≠x->b∉T.toList->h'.get? b=some o
 slot:∀b o,h.get? b=some o->b∈fs->b≠x->b∉T.toList->∃sl,h'.get? b=some {o with slots:=sl}
 newT:∀t∈T'.toList,t∈T.toList\/h.objs.size<=t
theorem XMove.refl(fs:List Addr)(x:Addr)(T:Option Addr)(h:Heap):XMove fs x T T h h:=⟨λ_ _ e _ _ _=>e,λ_ o e _ _ _=>⟨o.slots,e⟩,λ_ ht=>.inl ht⟩
theorem uu(o:Obj)(f:Array Value->Array Value):(za1 f o).dict=o.dict:=by
 obtain⟨c,d,dt,sl⟩:=o
 cases dt<;>rfl
section
variable {M:Model}{A:Around}{E:Value->Shared->Prop}{s:Shared}
theorem z02{base:Heap}{env e0:Env}{outer:List Env}{L:Addr}{Q:Value->z7y->Prop}(hfr:A.frames=some (e0::outer))(hl:s.heap.FunFrames base (e0::outer))
  (hf:env.frame=some L) (h0:e0.frame=some L) (h:∀h',Heap.SlotsOnly ((e0::outer).filterMap (·.frame)) s.heap h'->Q (.ref L) {s with heap:=h'}):z7K M A (frameOf env) Q E s:=by
 unfold frameOf
 refine z7w (wpAny_frameEnvs hfr ?_)
 have hw:((e0::outer).dropWhile λy=>y.frame != env.frame)=e0::outer:=by simp[List.dropWhile,hf,h0]
 rw[hw]
 unfold frameObject
 refine z7w (z7w (wpAny_readyFrames_fun hl λh1 q1=>z7G ?_))
 rw[h0]
 exact z7G (h h1 q1)
theorem uN{base:Heap}{env e0:Env}{outer:List Env}{L x:Addr}{cls head:Value}{d T:Option Addr}{had:Bool}{oe:Obj}{vs:Array Value}{a0:Value}{Q:Unit->z7y->Prop}
  (hfr:A.frames=some (e0::outer)) (hl:s.heap.FunFrames base (e0::outer)) (hf:env.frame=some L) (h0:e0.frame=some L)
  (ho:s.heap.get? x=some oe) (hc:oe.cls=cls/\oe.dict=d) (hd:oe.data=.fields vs) (hv0:vs[0]?=some a0) (hsz:1<vs.size)
  (h:∀h' t,XTr h' x t cls d (z8v L)->XMove ((e0::outer).filterMap (·.frame)) x T (some t) s.heap h'->s.heap.objs.size<=t->Q () {s with heap:=h'}) :
  z7K M A (do let a ←frameOf env;let pl ←entryPlaceOf L had;let b ←zce head a .none (z8v L) .none pl;setField (.ref x) 1 b) Q E s:=by
 have nin:x∉(e0::outer).filterMap (·.frame):=λhm=>by
  obtain⟨_,o,ho',nf⟩:=hl.mem hm
  rw[ho] at ho';cases ho';exact nf vs hd
 refine z7w (z02 hfr hl hf h0 λh1 q1=>?_)
 refine z7w (wpAny_entryPlaceOf λpl hpl=>?_)
 unfold zce newFields
 refine z7w (z9a ?_ (hpl.sizeOk5 _ _ _ _ _))
 have e1:h1.get? x=some oe:=(q1.2.1 x nin).trans ho
 generalize hob:({cls:=.type "traceback",dict:=none,data:=.fields ([head,.ref L,.none,z8v L,.none]++(if pl.isEmpty then z9L 6 z8F else pl)).toArray}:Obj)=ob
 have e2:=z7z (h:=h1) ob e1
 have hdata:ob.data=.fields ([head,.ref L,.none,z8v L,.none]++(if pl.isEmpty then z9L 6 z8F else pl)).toArray:=by rw[←hob]
 have hfree:ob.isFreed=false:=by rw[←hob];rfl
 refine zc2 e2 hd hsz ?_
 have tx:h1.objs.size≠x:=z9Q (z7T e1)
 have d3:=zcw hd (·.setIfInBounds 1 (z80 h1.objs.size))
 have e3:=zbW (za1 (·.setIfInBounds 1 (z80 h1.objs.size))) e2 (zbX d3)
 have other:∀b o,b≠x->h1.get? b=some o->((h1.push ob).update x (za1 (·.setIfInBounds 1 (z80 h1.objs.size)))).get? b=some o:=λb o hb e=>by
  rw[z8X _ _ (z9m hb)];exact z7z _ e
 refine h _ h1.objs.size ⟨_,_,a0,ob,_,e3,⟨(Obj.cls_mapFields _ _).trans hc.1,(uu _ _).trans hc.2⟩,d3,by rw[Array.getElem?_setIfInBounds_ne (by decide)];exact hv0,by simp[hsz],tx,?_,hdata,?_⟩ ⟨λb o e nb nx _=>?_,λb o e _ nx _=>?_,λt ht=>.inr ?_⟩ (z9T q1.1.symm)
 ·rw[z8X _ _ (z9m tx)];exact z7W _ hfree
 ·first|(simp;done)|(rcases hpl with rfl|⟨_,_,_,_,_,_,_,rfl⟩<;>simp)
 ·exact other b o nx ((q1.2.1 b nb).trans e)
 ·obtain⟨sl,e'⟩:=q1.2.2 b o e
  exact⟨sl,other b _ nx e'⟩
 ·have:t=h1.objs.size:=by simpa using ht
  rw[this];exact z9T q1.1.symm
theorem Ye{base:Heap}{env e0:Env}{outer:List Env}{L x:Addr}{cls:Value}{d T:Option Addr}{fl:Value}{Q:Unit->z7y->Prop}
  (hfr:A.frames=some (e0::outer)) (hl:s.heap.FunFrames base (e0::outer)) (hf:env.frame=some L) (h0:e0.frame=some L) (hx:z5K s.heap x cls d T fl) (hfl:fl=.none\/fl=z8v L)
  (h:∀h' t,XTr h' x t cls d (z8v L)->XMove ((e0::outer).filterMap (·.frame)) x T (some t) s.heap h'->Q () {s with heap:=h'}):z7K M A (zd8 (.ref x) env) Q E s:=by
 unfold zd8
 simp only[hf]
 cases T with
 |none=>
  obtain⟨⟨oe,vs,a0,ho,hc,hd,hv0,hv1⟩,_⟩:=hx
  refine z7w (z99 ho hd hv1 ?_)
  rw[if_neg (by decide)]
  exact uN (T:=none) hfr hl hf h0 ho hc hd hv0 (z94.mp hv1).1 λh' t a b _=>h h' t a b
 |some T=>
  obtain⟨oe,vs,a0,oT,ts,ho,hc,hd,hv0,hv1,hT,hoT,hdT,h3⟩:=hx
  refine z7w (z99 ho hd hv1 ?_)
  rw[if_pos (show (z80 T != z8F)=true from by simp)]
  refine z7w (z99 hoT hdT h3 ?_)
  by_cases hq:fl=z8v L
  ·subst hq
   rw[if_pos (show (z8v L == z8v L)=true from by simp)]
   exact z7G (h s.heap T ⟨oe,vs,a0,oT,ts,ho,hc,hd,hv0,hv1,hT,hoT,hdT,h3⟩ (XMove.refl _ _ _ _))
  ·obtain rfl:fl=.none:=hfl.resolve_right hq
   rw[if_neg (show ¬((z8F == z8v L)=true) from by simp[z8v])]
   refine z7w (zc2 hoT hdT (z94.mp h3).1 ?_)
   have oth:∀b,b≠T->(s.heap.update T (za1 (·.setIfInBounds 3 z8F))).get? b=s.heap.get? b:=λb hb=>z8X _ _ (z9m hb)
   have fr:∀b∈(e0::outer).filterMap (·.frame),b≠T:=λb hb z=>by
    obtain⟨_,o,ho',nf⟩:=hl.mem hb
    rw[z,hoT] at ho';cases ho';exact nf ts hdT
   refine uN (T:=some T) (s:={s with heap:=s.heap.update T (za1 (·.setIfInBounds 3 z8F))}) (base:=base) hfr (hl.of_keeps λb o e nf=>⟨o,(oth b λz=>?_).trans e,rfl⟩) hf h0 ((oth x (z9m hT)).trans ho) hc hd hv0 (z94.mp hv1).1 λh' t a b c=>h h' t a ⟨?_,?_,?_⟩
   ·rw[z,hoT] at e;cases e;exact nf ts hdT
   ·exact λd o e n1 n2 n3=>b.keep d o ((oth d λz=>n3 (by simp[z])).trans e) n1 n2 n3
   ·exact λd o e n1 n2 n3=>b.slot d o ((oth d λz=>n3 (by simp[z])).trans e) n1 n2 n3
   ·intro t' ht'
    rcases b.newT t' ht' with z|z
    ·exact .inl z
    ·refine .inr (z7V (z9T ?_) z)
     exact (Heap.size_after_update ..).symm
theorem J9{x T:Addr}{cls fl:Value}{d fr:Option Addr}{fs:List Addr}{Q:Unit->z7y->Prop}(hx:XTr s.heap x T cls d fl)
  (h:∀h',XTr h' x T cls d (fr.elim .none λf=>z8v f)->XMove fs x (some T) (some T) s.heap h'->Q () {s with heap:=h'}):z7K M A (zbq (.ref x) fr) Q E s:=by
 obtain⟨oe,vs,a0,oT,ts,ho,hc,hd,hv0,hv1,hT,hoT,hdT,h3⟩:=hx
 have sz:3<ts.size:=(z94.mp h3).1
 unfold zbq
 refine z7w (z99 ho hd hv1 ?_)
 rw[if_pos (show (z80 T != z8F)=true from by simp)]
 refine zc2 hoT hdT sz ?_
 have oth:∀b,b≠T->(s.heap.update T (za1 (·.setIfInBounds 3 (fr.elim .none λf=>z8v f)))).get? b=s.heap.get? b:=λb hb=>z8X _ _ (z9m hb)
 have dT:=zcw hdT (·.setIfInBounds 3 (fr.elim z8F λf=>z8v f))
 exact h _ ⟨oe,vs,a0,_,_,(oth x (z9m hT)).trans ho,hc,hd,hv0,hv1,hT,zbW _ hoT (zbX dT),dT,by simp[sz]⟩
  ⟨λb o e _ _ n=>(oth b λz=>n (by simp[z])).trans e,λb o e _ _ n=>⟨o.slots,(oth b λz=>n (by simp[z])).trans e⟩,λt ht=>.inl ht⟩
end
end NH
end
section
namespace NH
open PySem PySem.Spec PyProof.Rows L2
noncomputable abbrev St:=L2.St
theorem Qj{P:z8e}{w:z8s}{H:Hp}{h:Heap}{a:Addr}{o:HO}(x:ObjOk P w H h a o):∃ob,h.get? a=some ob:=by
 cases o with
 |lst xs=>obtain⟨_,_,_,_,e⟩:=x;exact⟨_,e⟩
 |tup xs=>obtain⟨_,_,_,ob,e,_⟩:=x;exact⟨ob,e⟩
 |dK kvs=>obtain⟨_,_,_,_,o,_,_,e,_⟩:=x;exact⟨o,e⟩
 |dT kvs=>obtain⟨_,_,_,_,o,_,_,e,_⟩:=x;exact⟨o,e⟩
 |set S n=>obtain⟨o,_,_,_,e,_⟩:=x;exact⟨o,e⟩
 |ins C dx fs=>obtain⟨_,_,_,e,_⟩:=x;exact⟨_,e⟩
 |own y=>obtain⟨o,e⟩:=x;exact⟨o,e⟩
 |xd fs=>obtain⟨_,⟨o,_,_,e,_⟩,_⟩:=x;exact⟨o,e⟩
 |rng lo hi=>obtain⟨_,_,_,e⟩:=x;exact⟨_,e⟩
 |frz ob u=>obtain⟨e,_⟩:=x;exact⟨_,e⟩
 |tbl ps=>exact⟨_,(show h.get? a=some _ from x)⟩
 |met f y=>exact⟨_,(show h.get? a=some _ from x)⟩
 |ext φ=>obtain⟨_,⟨o,e⟩,_⟩:=x;exact⟨o,e⟩
structure XOk(X:Cx)(H:Hp)(b:Addr):Prop where
 free:H b=none
 loc:b≠X.env.locals
 nfs:b∉X.fs
 new:b∈X.ex\/X.s₀.heap.get? b=none
 cel:∀x c,X.env.cells.lookup x=some c->c≠b
 pin:∀p∈X.pn,p.1≠b
section
variable {X:Cx}{pins:List (Addr×Obj)}{σ:St}{H H':Hp}{s:Shared}{h':Heap}
theorem V5(I:Inv X pins σ H s){b:Addr}(e:s.heap.get? b=none):H b=none:=by
 cases q:H b with
 |none=>rfl
 |some o=>
  obtain⟨ob,z⟩:=Qj (I.hok b o q)
  rw[e] at z;cases z
theorem kE(I:Inv X pins σ H s){b:Addr}(e:s.heap.get? b=none):XOk X H b:=by
 refine⟨V5 I e,λz=>?_,λz=>?_,?_,λx c q z=>?_,λp hp z=>?_⟩
 ·obtain⟨m,⟨o,_,_,ho,_⟩,_⟩:=I.loc
  rw[←z,e] at ho;cases ho
 ·obtain⟨_,o,ho,_⟩:=I.funs.mem z
  rw[e] at ho;cases ho
 ·by_cases hx:b∈X.ex
  ·exact .inl hx
  ·refine .inr ?_
   cases q:X.s₀.heap.get? b with
   |none=>rfl
   |some o=>
    obtain⟨o',z⟩:=I.base.there b o q hx
    rw[e] at z;cases z
 ·obtain⟨v,o,ho,_⟩:=I.cell x c q
  rw[z,e] at ho;cases ho
 ·have:=(I.pin p (z7S _ hp)).1
  rw[z,e] at this;cases this
theorem Ve{ch:List Addr}(I:Inv X pins σ H s)(hch:∀b∈ch,XOk X H b/\∀p∈pins,p.1≠b)
  (keep:∀b o,b∉frs X.stack->b∉ch->s.heap.get? b=some o->h'.get? b=some o)
  (slot:∀b o,b∈frs X.stack->b∉ch->s.heap.get? b=some o->∃sl,h'.get? b=some {o with slots:=sl}) :
  Inv X pins σ H {s with heap:=h'}:=by
 have tr:∀b u,H b=some u->b∉ch:=λb u e z=>by rw[(hch b z).1.free] at e;cases e
 have trf:∀b u,H b=some u->b∉frs X.stack:=λb u e z=>by rw[I.stkFree b z] at e;cases e
 have any:∀b o,b∉ch->s.heap.get? b=some o->∃sl,h'.get? b=some {o with slots:=sl}:=λb o hb e=>by
  by_cases hf:b∈frs X.stack
  ·exact slot b o hf hb e
  ·exact⟨o.slots,keep b o hf hb e⟩
 have inf:∀b,b≠X.env.locals->b∉X.fs->b∉frs X.stack:=λb h1 h2 z=>(z88.mp (I.stkSub b z)).elim h1 h2
 have nec:∀b o,X.s₀.heap.get? b=some o->b∉X.ex->b∉ch:=λb o e hx z=>by
  rcases (hch b z).1.new with q|q
  ·exact hx q
  ·rw[e] at q;cases q
 have neL:∀b o,X.s₀.heap.get? b=some o->b≠X.env.locals:=λb o e=>z85 (z7I (z7T e) I.ok.above)
 have cellK:∀x c,X.env.cells.lookup x=some c->∀v,s.heap.IsCell c v->h'.IsCell c v:=λx c e v ⟨o,ho,hd⟩=>by
  obtain⟨sl,q⟩:=any c o (λz=>(hch c z).1.cel x c e rfl) ho
  exact⟨_,q,hd⟩
 refine⟨I.ok,I.os,I.bare,⟨λb o e n hb hx=>?_,λb o e n hb hx=>?_,λb o e n hx=>I.base.free b o e n hx,λb o e hx=>?_,λb xs e=>I.base.tups b xs e,λb o xs e=>I.base.frzs b o xs e,λb ps e=>I.base.tbls b ps e⟩,?_,λx c e=>?_,I.free,λx c e=>I.freeC x c e,λp hp=>?_,λb u e=>?_,I.len⟩
 ·exact keep b o (inf b (neL b o e) hb) (nec b o e hx) (I.base.keep b o e n hb hx)
 ·obtain⟨sl,e1⟩:=I.base.slot b o e n hb hx
  obtain⟨sl',e2⟩:=any b _ (nec b o e hx) e1
  exact⟨sl',e2⟩
 ·obtain⟨o',e1⟩:=I.base.there b o e hx
  obtain⟨sl,e2⟩:=any b o' (nec b o e hx) e1
  exact⟨_,e2⟩
 ·obtain⟨m,⟨o,es,ep,ho,r⟩,hl⟩:=I.loc
  obtain⟨sl,hL⟩:=any X.env.locals o (λz=>(hch _ z).1.loc rfl) ho
  refine⟨m,⟨_,es,ep,hL,r⟩,λi x v e1 e2 e3=>?_⟩
  obtain⟨u,ru,l⟩:=hl i x v e1 e2 e3
  refine⟨u,ru,?_⟩
  rcases l with l|⟨k,c,e,z⟩
  ·exact .inl l
  ·exact .inr ⟨k,c,e,cellK x c e _ z⟩
 ·obtain⟨v,z⟩:=I.cell x c e
  exact⟨v,cellK x c e v z⟩
 ·obtain⟨e,n,ne,nf,d⟩:=I.pin p hp
  have nch:p.1∉ch:=λz=>by
   rcases z7H.mp hp with q|q
   ·exact (hch p.1 z).1.pin p q rfl
   ·exact (hch p.1 z).2 p q rfl
  exact⟨keep p.1 p.2 (inf p.1 ne nf) nch e,n,ne,nf,d⟩
 ·refine (I.hok b u e).stay (λc v hc q=>?_) (λ_ q=>q) λ_ _ q=>q
  rcases hc with z|z
  ·subst z;exact keep c v (trf c u e) (tr c u e) q
  ·exact keep c v (trf c _ z) (tr c _ z) q
structure Frm(X:Cx)(e0:Env)(out:List Env)(L:Addr):Prop where
 stk:X.stack=e0::out
 f0:e0.frame=some L
 fe:X.env.frame=some L
noncomputable abbrev XW:=Value->Option Addr->St->Hp->Prop
noncomputable def XP (X:Cx)(W:XW)(e:Value)(s:z7y):Prop:=
 ∃(x:Addr) (cls:Value) (d:Option Addr) (σ:St) (H:Hp) (T:Option Addr) (fl:Value),e=.ref x/\Inv X [] σ H s/\XOk X H x/\(∀t∈T.toList,XOk X H t)/\z5K s.heap x cls d T fl/\(fl=.none\/∃L,X.env.frame=some L/\fl=z8v L)/\W cls d σ H
theorem Kj{x:Addr}{T:Option Addr}{t:Addr}(I:Inv X [] σ H s)(ox:XOk X H x)(ot:∀t∈T.toList,XOk X H t)(mv:XMove (frs X.stack) x T (some t) s.heap h') :
  Inv X [] σ H {s with heap:=h'}/\XOk X H t:=by
 refine⟨Ve (ch:=x::T.toList) I (λb hb=>⟨?_,λp hp=>absurd hp (by simp)⟩) (λb o hf hc e=>?_) (λb o hf hc e=>?_),?_⟩
 ·rcases z88.mp hb with z|z
  ·rw[z];exact ox
  ·exact ot b z
 ·exact mv.keep b o e hf (λz=>hc (by simp[z])) (λz=>hc (z7O _ z))
 ·exact mv.slot b o e hf (λz=>hc (by simp[z])) (λz=>hc (z7O _ z))
 ·rcases mv.newT t (by simp) with z|z
  ·exact ot t z
  ·exact kE I (z9K z)
theorem yu{M:zb2}{A:z89}{E:Value->z7y->Prop}{W:XW}{e:Value}{e0:Env}{out:List Env}{L:Addr}{Q:Unit->z7y->Prop}(F:Frm X e0 out L)(hfr:A.frames=some X.stack)(p:XP X W e s)
  (h:∀x cls d σ H T h',e=.ref x->Inv X [] σ H {s with heap:=h'}->XOk X H x->XOk X H T->XTr h' x T cls d (z8v L)->W cls d σ H->Q () {s with heap:=h'}):z7K M A (zd8 e X.env) Q E s:=by
 obtain⟨x,cls,d,σ,H,T,fl,rfl,I,ox,ot,hr,hfl,w⟩:=p
 have hst:=I.stack
 rw[F.stk] at hfr hst
 refine Ye hfr hst F.fe F.f0 hr (hfl.imp_right λ⟨L',e1,e2⟩=>by rw[F.fe] at e1;cases e1;exact e2) λh' t tr mv=>?_
 have mv':XMove (frs X.stack) x T (some t) s.heap h':=by rw[F.stk];exact mv
 obtain⟨I',o'⟩:=Kj I ox ot mv'
 exact h x cls d σ H t h' rfl I' ox o' tr w
theorem qK{M:zb2}{A:z89}{E:Value->z7y->Prop}{x T:Addr}{cls fl:Value}{d fr:Option Addr}{Q:Unit->z7y->Prop}(I:Inv X [] σ H s)(ox:XOk X H x)(oT:XOk X H T)(tr:XTr s.heap x T cls d fl)
  (h:∀h',Inv X [] σ H {s with heap:=h'}->XTr h' x T cls d (fr.elim .none λf=>z8v f)->Q () {s with heap:=h'}):z7K M A (zbq (.ref x) fr) Q E s:=by
 refine J9 (fs:=frs X.stack) tr λh' tr' mv=>h h' (Kj (T:=some T) I ox (λt ht=>?_) mv).1 tr'
 have:t=T:=by simpa using ht
 rw[this];exact oT
theorem Q6{W:XW}{M:zb2}{e0:Env}{out:List Env}{L:Addr}(F:Frm X e0 out L)(hfr:X.A.frames=some X.stack):zcb M X.A X.env (XP X W):=by
 intro e s p
 unfold zdr
 refine yu F hfr p λx cls d σ H T h' ee I ox oT tr w=>?_
 subst ee
 unfold cameBackBy
 obtain⟨oe,vs,a0,oT',ts,ho,hc,hd,hv0,hv1,hT,hoT,hdT,h3⟩:=id tr
 refine z7w (z99 ho hd hv1 ?_)
 rw[if_neg (show ¬((z80 T == z8F)=true) from by simp)]
 rw[F.fe]
 have go:z7K M X.A (zbq (.ref x) (some L)) (λ_ s''=>XP X W (.ref x) s'') (XP X W) {s with heap:=h'}:=
  qK (s:={s with heap:=h'}) I ox oT tr λh2 I2 tr2=>⟨x,cls,d,σ,H,some T,z8v L,rfl,I2,ox,λt ht=>by
   have:t=T:=by simpa using ht
   rw[this];exact oT,tr2,.inr ⟨L,F.fe,rfl⟩,w⟩
 first|exact go|exact z7w (z7G go)
noncomputable def CX1 (P:z8e)(w:z8s):CXT:=λouter H s E e s'=>
 ∃(x T:Addr) (cls:Value) (d:Option Addr) (H':Hp),e=.ref x/\s'.os=s.os/\zb1 s'.gens/\Un (frs outer) [] H H' s.heap s'.heap/\HOk P w H' s'.heap/\s.heap.get? x=none/\s.heap.get? T=none/\H' x=none/\H' T=none/\XTr s'.heap x T cls d .none/\E cls d H'
noncomputable def wOf (E:XK):XW:=λc d _ H=>E c d H
theorem Yk{M:zb2}{E:XK}{e:Value}{e0:Env}{out:List Env}{L:Addr}{F2:Value->z7y->Prop}(F:Frm X e0 out L)(hfr:X.A.frames=some X.stack)(hex:X.ex=[])(p:XP X (wOf E) e s) :
  z7K M X.A (leaving X.env e) (λ_ s''=>CX1 X.prog X.w X.outer X.H₀ X.s₀ E e s'') F2 s:=by
 unfold leaving
 refine z7w (yu F hfr p λx cls d σ H T h' ee I ox oT tr w=>?_)
 subst ee
 refine qK (s:={s with heap:=h'}) I ox oT tr λh2 I2 tr2=>?_
 have nw:∀b,XOk X H b->X.s₀.heap.get? b=none:=λb o=>o.new.resolve_left (by rw[hex];simp)
 refine⟨x,T,cls,d,H,rfl,I2.os,I2.bare,?_,I2.hok,nw x ox,nw T oT,ox.free,oT.free,tr2,w⟩
 have:=I2.base
 rw[hex] at this
 exact this
theorem yq{E:XK}{W:XW}{e:Value}{s':z7y}(I:Inv X pins σ H s)(c:CX1 X.prog X.w X.stack H s E e s')(h:∀cls d H',E cls d H'->W cls d σ H'):XP X W e s':=by
 obtain⟨x,T,cls,d,H',rfl,os,bare,un,hok,nx,nT,fx,fT,tr,w⟩:=c
 have J:Inv X pins σ H' s':=I.call' (ch:=[]) os un hok bare λb z=>absurd z (by simp)
 have k:∀b,s.heap.get? b=none->H' b=none->XOk X H' b:=λb e f=>by
  have o:=kE I e
  exact⟨f,o.loc,o.nfs,o.new,o.cel,o.pin⟩
 refine⟨x,cls,d,σ,H',some T,.none,rfl,J.pins_of (λp hp=>absurd hp (by simp)),k x nx fx,λt ht=>?_,tr,.inl rfl,h cls d H' w⟩
 have:t=T:=by simpa using ht
 rw[this];exact k T nT fT
theorem z1C{W:XW}{x:Addr}{cls:Value}{args:List Value}{h2:Heap}(I:Inv X pins σ H s)(mk:zdC s.heap h2 x cls args)(w:W cls none σ H):XP X W (.ref x) {s with heap:=h2}:=by
 have J:Inv X pins σ H {s with heap:=h2,toks:=s.toks}:=I.kept mk.keeps
 obtain⟨t,ho,_,_⟩:=mk.there
 exact⟨x,cls,none,σ,H,none,.none,rfl,J.pins_of (λp hp=>absurd hp (by simp)),kE I mk.new,λt ht=>absurd ht (by simp),⟨⟨_,_,.ref t,ho,⟨rfl,rfl⟩,rfl,rfl,rfl⟩,rfl⟩,.inl rfl,w⟩
noncomputable abbrev Cx.pin'(X:Cx)(pins:List (Addr×Obj)):Cx:={X with pn:=X.pn++pins}
noncomputable abbrev Cx.han(X:Cx)(x:Addr):Cx:={X with A:=X.A.mark (some (.ref x)),calm:=false,xe:=λ_ _=>False}
theorem Uo(ok:X.Ok):(Cx.pin' X pins).Ok:=⟨ok.mod,ok.kind,ok.glob,ok.blt,ok.above,ok.inj,ok.has,ok.cab,ok.hd,ok.frames,ok.stk,ok.exf,ok.bs,ok.bsz,ok.noex,ok.exfs,ok.funs,ok.frf⟩
theorem WR(ok:(Cx.pin' X pins).Ok):X.Ok:=⟨ok.mod,ok.kind,ok.glob,ok.blt,ok.above,ok.inj,ok.has,ok.cab,ok.hd,ok.frames,ok.stk,ok.exf,ok.bs,ok.bsz,ok.noex,ok.exfs,ok.funs,ok.frf⟩
theorem z3w{x:Addr}(ok:X.Ok):(Cx.han X x).Ok:=⟨ok.mod,ok.kind,ok.glob,ok.blt,ok.above,ok.inj,ok.has,ok.cab,(λh=>by cases h),ok.frames,ok.stk,ok.exf,ok.bs,ok.bsz,ok.noex,ok.exfs,ok.funs,ok.frf⟩
theorem V0(I:Inv X pins σ H s):Inv (Cx.pin' X pins) [] σ H s:=⟨Uo I.ok,I.os,I.bare,I.base,I.loc,I.cell,I.free,I.freeC,λp hp=>I.pin p (by simpa using hp),I.hok,I.len⟩
theorem zL(I:Inv (Cx.pin' X pins) [] σ H s):Inv X pins σ H s:=⟨WR I.ok,I.os,I.bare,I.base,I.loc,I.cell,I.free,I.freeC,λp hp=>I.pin p (by simpa using hp),I.hok,I.len⟩
theorem QF{x:Addr}(I:Inv X pins σ H s):Inv (Cx.han X x) pins σ H s:=⟨z3w I.ok,I.os,I.bare,I.base,I.loc,I.cell,I.free,I.freeC,I.pin,I.hok,I.len⟩
theorem xr{x:Addr}(ok:X.Ok)(I:Inv (Cx.han X x) pins σ H s):Inv X pins σ H s:=⟨ok,I.os,I.bare,I.base,I.loc,I.cell,I.free,I.freeC,I.pin,I.hok,I.len⟩
theorem xy{E:Value->z7y->Prop}{W:XW}{e:Value}(p:XP (X.wish E) W e s):XP X W e s:=by
 obtain⟨x,cls,d,σ,H,T,fl,a,I,b,c,r⟩:=p
 exact⟨x,cls,d,σ,H,T,fl,a,I.unwish,⟨b.free,b.loc,b.nfs,b.new,b.cel,b.pin⟩,λt ht=>let b:=c t ht;⟨b.free,b.loc,b.nfs,b.new,b.cel,b.pin⟩,r⟩
end
end NH
end
section
namespace NH
open PySem
inductive T where
 |non|bl (b:Bool)|int (i:Int)|str (x:Str)
 |tup (ts:List T)|lst (ts:List T)|obj (c:Nat) (fs:List (Nat×T))
 |mut (i:Nat)
 |exc (c:Nat) (fs:List (Nat×T))
 |dic (kvs:List (L2.Key×T))
 |clo (j:Nat) (cs:List T)
inductive MO where
 |lst (ts:List T)|obj (c:Nat) (fs:List (Nat×T))|dic (kvs:List (L2.Key×T))
 |tab (j:Nat)
noncomputable abbrev z2s:MO->Bool
 |.tab _=>true
 |_=>false
noncomputable abbrev Mem:=List MO
noncomputable abbrev Sl:=List (Option T)
mutual
def vV:T->Bool
 |.mut _=>false
 |.tup ts=>yW ts
 |.lst ts=>yW ts
 |.obj _ fs=>xY fs
 |.exc _ fs=>xY fs
 |.dic kvs=>JW kvs
 |.clo _ cs=>yW cs
 |_=>true
def yW:List T->Bool
 |[]=>true
 |t::r=>vV t&&yW r
def xY:List (Nat×T)->Bool
 |[]=>true
 |p::r=>vV p.2&&xY r
def JW:List (L2.Key×T)->Bool
 |[]=>true
 |p::r=>vV p.2&&JW r
end
noncomputable abbrev Xp:=Nat->List (Nat×T)->Mem->Prop
noncomputable abbrev RE(β:Type):=(β->Mem->Prop)->Xp->Prop
noncomputable abbrev RE.ok{β:Type}(a:β)(μ:Mem):RE β:=λK _=>K a μ
noncomputable abbrev RE.st{β:Type}:RE β:=λ_ _=>False
noncomputable abbrev RE.bind{β γ:Type}(r:RE γ)(k:γ->Mem->RE β):RE β:=λK Z=>r (λa μ=>k a μ K Z) Z
noncomputable abbrev RE.grd{β:Type}(p:Prop)(r:RE β):RE β:=λK Z=>p/\r K Z
noncomputable abbrev RE.som{β γ:Type}(o:Option γ)(k:γ->RE β):RE β:=λK Z=>∃a,o=some a/\k a K Z
@[reducible] noncomputable def brW(b:Bool)(A B:Prop):Prop:=match b with
 |true=>A
 |false=>B
noncomputable abbrev RE.br{β:Type}(b:Bool)(r s:RE β):RE β:=λK Z=>brW b (r K Z) (s K Z)
structure En where
 nx:Sl->Mem->Prop
 rt:T->Mem->Prop
 bk:Sl->Mem->Prop
 ct:Sl->Mem->Prop
 ex:Nat->List (Nat×T)->Sl->Mem->Prop
noncomputable abbrev Out:=En->Prop
noncomputable abbrev En.nxt(E:En)(f:Sl->Mem->Prop):En:=⟨f,E.rt,E.bk,E.ct,E.ex⟩
noncomputable abbrev En.turn(E:En)(N:Sl->Mem->Prop):En:=⟨N,E.rt,E.nx,N,E.ex⟩
noncomputable abbrev En.tri(E:En)(X:Nat->List (Nat×T)->Sl->Mem->Prop):En:=⟨E.nx,E.rt,E.bk,E.ct,X⟩
noncomputable abbrev En.fn(K:T->Mem->Prop)(Z:Xp):En:=⟨λ_ μ1=>K .non μ1,K,λ_ _=>False,λ_ _=>False,λc fs _ μ1=>Z c fs μ1⟩
noncomputable abbrev Out.nx(τ:Sl)(μ:Mem):Out:=λE=>E.nx τ μ
noncomputable abbrev Out.rt(t:T)(μ:Mem):Out:=λE=>E.rt t μ
noncomputable abbrev Out.ex(c:Nat)(fs:List (Nat×T))(τ:Sl)(μ:Mem):Out:=λE=>E.ex c fs τ μ
noncomputable abbrev Out.st:Out:=λ_=>False
noncomputable abbrev Out.grd(p:Prop)(o:Out):Out:=λE=>p/\o E
noncomputable abbrev Out.som{γ:Type}(o:Option γ)(k:γ->Out):Out:=λE=>∃a,o=some a/\k a E
noncomputable abbrev Out.br(b:Bool)(r s:Out):Out:=λE=>brW b (r E) (s E)
noncomputable abbrev Out.seq(o:Out)(f:Sl->Mem->Out):Out:=λE=>o (E.nxt λτ μ=>f τ μ E)
noncomputable abbrev RE.out{β:Type}(r:RE β)(τ:Sl)(f:β->Mem->Out):Out:=λE=>r (λa μ=>f a μ E) (λc fs μ=>E.ex c fs τ μ)
noncomputable abbrev Fn:=List T->Mem->RE T
noncomputable abbrev De:=Sl->Mem->RE T
noncomputable abbrev Dt:=Sl->Mem->RE Bool
noncomputable abbrev Da:=Sl->Mem->RE (List T)
noncomputable abbrev Ds:=Sl->Mem->Out
noncomputable abbrev RI:=(List T->(Mem->Prop)->Mem->Prop)->Xp->Prop
noncomputable abbrev RI.ok(xs:List T)(o:Mem->Prop)(μ:Mem):RI:=λK _=>K xs o μ
noncomputable abbrev RI.st:RI:=λ_ _=>False
noncomputable abbrev RI.grd(p:Prop)(r:RI):RI:=λK Z=>p/\r K Z
noncomputable abbrev RI.go{β:Type}(r:RI)(k:List T->(Mem->Prop)->Mem->RE β):RE β:=λK Z=>r (λxs o μ=>k xs o μ K Z) Z
noncomputable abbrev RI.out(r:RI)(τ:Sl)(f:List T->(Mem->Prop)->Mem->Out):Out:=λE=>r (λxs o μ=>f xs o μ E) (λc fs μ=>E.ex c fs τ μ)
noncomputable abbrev RI.re(r:RI):RE (List T×(Mem->Prop)):=λK Z=>r (λxs o μ=>K (xs,o) μ) Z
noncomputable abbrev RE.it{β:Type}(r:RE β)(k:β->Mem->RI):RI:=λK Z=>r (λa μ=>k a μ K Z) Z
noncomputable abbrev Di:=Sl->Mem->RI
abbrev lvT:Mem->Prop:=λ_=>True
abbrev lvM(i:Nat)(xs:List T):Mem->Prop:=λμ=>μ[i]?=some (.lst xs)
inductive GM where
 |fn (f:Fn)
 |fnh (nm:Str) (f:Fn)
 |met (c:Nat) (nm:Str) (f:Fn)
 |mk (c:Nat) (frozen:Bool) (f:Fn)
 |cst (t:T)
 |xcl (c:Nat)
 |xcf (c:Nat) (f:Nat)
 |xin (c f:Nat) (nm fl:Str)
 |mkd (c:Nat) (nm:Str) (n:Nat) (f:Fn)
 |metd (c:Nat) (nm:Str) (n:Nat) (d:T) (f:Fn)
 |kpr
 |none
 |bad
noncomputable abbrev X9(τ:Sl):Nat->Option T:=z9c (motive:=λ_=>Nat->Option T) (λ_=>none) (λo _ ih i=>zet (motive:=λ_=>Option T) o (λn _=>ih n) i) τ
noncomputable abbrev jP(τ:Sl):Nat->Option T->Sl:=z9c (motive:=λ_=>Nat->Option T->Sl) (λ_ _=>[]) (λo r ih i t=>zet (motive:=λ_=>Sl) (t::r) (λn _=>o::ih n t) i) τ
theorem Ke:∀{τ:Sl} {i:Nat} {t:T},X9 τ i=some t↔τ[i]?=some (some t)
 |[],_,_=>by simp
 |o::r,0,t=>by show o=some t↔_;simp
 |o::r,n+1,t=>by
  show X9 r n=some t↔_
  rw[Ke (τ:=r) (i:=n)];simp
theorem yv:∀{τ:Sl} {i:Nat} {t:Option T},jP τ i t=τ.set i t
 |[],_,_=>by simp
 |o::r,0,t=>rfl
 |o::r,n+1,t=>by
  show o::jP r n t=_
  rw[yv (τ:=r) (i:=n)];simp
noncomputable abbrev Vq(fs:List (Nat×T)):Nat->Option T:=z9c (motive:=λ_=>Nat->Option T) (λ_=>none) (λp _ ih i=>zdD (motive:=λ_=>Option T) (ih i) (some p.2) (z9H p.1 i)) fs
noncomputable abbrev XH(f:Nat)(v:T)(fs:List (Nat×T)):List (Nat×T):=z9c (motive:=λ_=>List (Nat×T)) [(f,v)] (λp r ih=>zdD (motive:=λ_=>List (Nat×T)) (p::ih) ((p.1,v)::r) (z9H p.1 f)) fs
theorem Xw{p:Nat×T}{r:List (Nat×T)}{i:Nat}:Vq (p::r) i=match z9H p.1 i with
  |true=>some p.2
  |false=>Vq r i:=by
 show (zdD (Vq r i) (some p.2) (z9H p.1 i):Option T)=_
 cases z9H p.1 i<;>rfl
theorem X8{f:Nat}{v:T}{p:Nat×T}{r:List (Nat×T)}:XH f v (p::r)=match z9H p.1 f with
  |true=>(p.1,v)::r
  |false=>p::XH f v r:=by
 show (zdD (p::XH f v r) ((p.1,v)::r) (z9H p.1 f):List (Nat×T))=_
 cases z9H p.1 f<;>rfl
noncomputable def idx:List Str->Str->Option Nat
 |[],_=>none
 |y::r,x=>if y=x then some 0 else (idx r x).map (·+1)
noncomputable abbrev tyN:T->Mem->Option Nat
 |.non,_=>some 0
 |.bl _,_=>some 1
 |.int _,_=>some 2
 |.str _,_=>some 3
 |.tup _,_=>some 4
 |.lst _,_=>some 5
 |.dic _,_=>some 6
 |.exc c _,_=>some c
 |.obj c _,_=>some c
 |_,_=>none
noncomputable abbrev tyO:MO->Nat
 |.lst _=>5
 |.obj c _=>c
 |.dic _=>6
 |.tab _=>99
noncomputable abbrev z0J(a b:Bool):Bool:=match a with
 |true=>b
 |false=>false
noncomputable abbrev bOr(a b:Bool):Bool:=match a with
 |true=>true
 |false=>b
noncomputable abbrev vL(a c:Nat):Bool:=bOr (z9H a c) (bOr (z0J (z9H a 1) (z9H c 2)) (z0J (zeu 10 a) (z0J (zeu a 39) (bOr (z9H c 11) (z0J (z9H c 10) (zeu 12 a))))))
noncomputable abbrev isAny(t:Nat)(cs:List Nat):Bool:=z9c (motive:=λ_=>Bool) false (λc _ ih=>bOr (vL t c) ih) cs
theorem yQ{t c:Nat}{r:List Nat}:isAny t (c::r)=bOr (vL t c) (isAny t r):=rfl
noncomputable def big:Int:=18446744073709551616
noncomputable def room:Nat:=1000000
noncomputable abbrev z4h:T->T->Mem->RE T
 |.int i,.int j,μ=>.ok (.int (i+j)) μ
 |.str x,.str y,μ=>.grd (x.length+y.length<=room) (.ok (.str (x++y)) μ)
 |.lst xs,.lst ys,μ=>.grd (xs.length+ys.length<=room) (.ok (.lst (xs++ys)) μ)
 |.tup xs,.tup ys,μ=>.grd (xs.length+ys.length<=room) (.ok (.tup (xs++ys)) μ)
 |.mut i,.lst ys,μ=>λK _=>∃xs,μ[i]?=some (.lst xs)/\xs.length+ys.length<=room/\K (.lst (xs++ys)) μ
 |.lst xs,.mut j,μ=>λK _=>∃ys,μ[j]?=some (.lst ys)/\xs.length+ys.length<=room/\K (.lst (xs++ys)) μ
 |.mut i,.mut j,μ=>λK _=>∃p:List T×List T,(μ[i]?=some (.lst p.1)/\μ[j]?=some (.lst p.2))/\p.1.length+p.2.length<=room/\K (.lst (p.1++p.2)) μ
 |_,_,_=>.st
noncomputable abbrev QN(f:Int->Int->Mem->RE T):T->T->Mem->RE T
 |.int i,.int j,μ=>f i j μ
 |_,_,_=>.st
noncomputable abbrev z5S:zdE->T->T->Mem->RE T
 |.Add=>z4h
 |.Sub=>QN λi j μ=>.ok (.int (i-j)) μ
 |.Mult=>QN λi j μ=>.grd ((-big<i/\i<big)\/(-big<j/\j<big)) (.ok (.int (i * j)) μ)
 |.FloorDiv=>QN λi j μ=>.grd (0<j/\j<1606938044258990275541962092341162602522202993782792835301376) (.ok (.int (i / j)) μ)
 |.Mod=>QN λi j μ=>.grd (0<j) (.ok (.int (i % j)) μ)
 |.Pow=>QN λi j μ=>.grd (0<=j/\j<=1000000/\i.natAbs<18446744073709551616) (.ok (.int (i ^ j.toNat)) μ)
 |.RShift=>QN λi j μ=>.grd (0<=j) (.ok (.int (i / 2 ^ j.toNat)) μ)
 |.BitAnd=>QN λi j μ=>.ok (.int (zdu i j)) μ
 |_=>λ_ _ _=>.st
mutual
def eqT:T->T->Option Bool
 |.int i,b=>match b with
  |.int j=>some (i == j)
  |.bl k=>some (i == (if k then 1 else 0))
  |.str _=>some false
  |.non=>some false
  |.tup _=>some false
  |.lst _=>some false
  |_=>none
 |.bl k,b=>match b with
  |.int j=>some ((if k then 1 else 0) == j)
  |.bl j=>some (k == j)
  |.str _=>some false
  |.non=>some false
  |.tup _=>some false
  |.lst _=>some false
  |_=>none
 |.str x,b=>match b with
  |.str y=>some (x == y)
  |.int _=>some false
  |.bl _=>some false
  |.non=>some false
  |.tup _=>some false
  |.lst _=>some false
  |_=>none
 |.non,b=>match b with
  |.non=>some true
  |.int _=>some false
  |.bl _=>some false
  |.str _=>some false
  |.tup _=>some false
  |.lst _=>some false
  |_=>none
 |.tup xs,b=>match b with
  |.tup ys=>eqL xs ys
  |.non=>some false
  |.int _=>some false
  |.bl _=>some false
  |.str _=>some false
  |.lst _=>some false
  |_=>none
 |.lst xs,b=>match b with
  |.lst ys=>eqL xs ys
  |.non=>some false
  |.int _=>some false
  |.bl _=>some false
  |.str _=>some false
  |.tup _=>some false
  |_=>none
 |_,_=>none
def eqL:List T->List T->Option Bool
 |[],[]=>some true
 |[],_::_=>some false
 |_::_,[]=>some false
 |x::xs,y::ys=>match eqT x y,eqL xs ys with
  |some a,some b=>some (a&&b)
  |_,_=>none
end
mutual
def vU:T->Nat
 |.tup ts=>qH ts+1
 |.lst ts=>qH ts+1
 |_=>0
def qH:List T->Nat
 |[]=>0
 |t::r=>max (vU t) (qH r)
end
noncomputable abbrev scT:T->T->Option Bool
 |.non,.non=>some true
 |.non,.int _=>some false|.int _,.non=>some false|.non,.bl _=>some false|.bl _,.non=>some false|.non,.str _=>some false|.str _,.non=>some false
 |.int i,.int j=>some (decide (i=j))|.bl i,.bl j=>some (decide (i=j))|.str i,.str j=>some (decide (i=j))
 |.int _,.str _=>some false|.str _,.int _=>some false|.bl _,.str _=>some false|.str _,.bl _=>some false
 |_,_=>none
noncomputable abbrev eqW(x y:T)(μ:Mem)(k:Bool->RE T):RE T:=match x,y with
 |.tup xs,.tup ys=>.grd (qH xs<=40) (.som (eqL xs ys) k)
 |.lst xs,.lst ys=>.grd (qH xs<=40) (.som (eqL xs ys) k)
 |.mut i,.lst ys=>λK Z=>∃xs,μ[i]?=some (.lst xs)/\RE.grd (qH xs<=40) (.som (eqL xs ys) k) K Z
 |.lst xs,.mut j=>λK Z=>∃ys,μ[j]?=some (.lst ys)/\RE.grd (qH xs<=40) (.som (eqL xs ys) k) K Z
 |.mut i,.mut j=>λK Z=>∃p:List T×List T,(μ[i]?=some (.lst p.1)/\μ[j]?=some (.lst p.2))/\RE.grd (qH p.1<=40) (.som (eqL p.1 p.2) k) K Z
 |x,y=>match scT x y with
  |some b=>k b
  |none=>.st
noncomputable def intsOf:List T->Option (List Int)
 |[]=>some []
 |.int i::r=>(intsOf r).map (i::·)
 |_::_=>none
noncomputable abbrev ltW(x y:T)(k:Bool->RE T):RE T:=match x,y with
 |.int i,.int j=>k (decide (i<j))
 |.tup xs,.tup ys=>.som (intsOf xs) λns=>.som (intsOf ys) λms=>k (HT.lexLt ns ms)
 |.str a,.str b=>k (decide (a.cps.toList<b.cps.toList))
 |_,_=>.st
noncomputable abbrev Zn(op:z8_)(x y:T)(μ:Mem):RE T:=
 match op with
 |.Eq=>eqW x y μ λb=>.ok (.bl b) μ
 |.NotEq=>eqW x y μ λb=>.ok (.bl (!b)) μ
 |.Lt=>ltW x y λb=>.ok (.bl b) μ
 |.LtE=>match x,y with|.int i,.int j=>.ok (.bl (decide (i<=j))) μ|_,_=>.st
 |.Gt=>match x,y with|.int i,.int j=>.ok (.bl (decide (j<i))) μ|_,_=>.st
 |.GtE=>match x,y with|.int i,.int j=>.ok (.bl (decide (j<=i))) μ|_,_=>.st
 |.Is=>(match y with
  |.non=>.ok (.bl (match x with|.non=>true|_=>false)) μ
  |.bl b=>(match x with|.bl a=>.ok (.bl (decide (a=b))) μ|_=>.st)
  |_=>.st)
 |.IsNot=>(match y with
  |.non=>.ok (.bl (match x with|.non=>false|_=>true)) μ
  |.bl b=>(match x with|.bl a=>.ok (.bl (!decide (a=b))) μ|_=>.st)
  |_=>.st)
 |.In=>(match x,y with|.str i,.str j=>.ok (.bl (!(z8Q j i 0 j.length 1).isEmpty)) μ|_,_=>.st)
 |.NotIn=>(match x,y with|.str i,.str j=>.ok (.bl (!(!(z8Q j i 0 j.length 1).isEmpty))) μ|_,_=>.st)
noncomputable abbrev kJ:T->Mem->RE Bool
 |.bl b,μ=>.ok b μ
 |_,_=>.st
noncomputable abbrev eC(t:T):De:=λ_ μ=>.ok t μ
noncomputable abbrev eV(i:Nat):De:=λτ μ=>match X9 τ i with
 |some t=>.ok t μ
 |none=>.st
noncomputable abbrev z9(op:zdE)(f g:De):De:=λτ μ=>(f τ μ).bind λx μ1=>(g τ μ1).bind λy μ2=>z5S op x y μ2
noncomputable abbrev z0O(f:De):De:=λτ μ=>(f τ μ).bind λx μ1=>match x with|.int i=>.ok (.int (-i)) μ1|_=>.st
noncomputable abbrev z4l(f:De):De:=λτ μ=>(f τ μ).bind λx μ1=>match x with|.bl b=>.ok (.bl (!b)) μ1|_=>.st
noncomputable abbrev WZ(f g:De):De:=λτ μ=>(f τ μ).bind λx μ1=>match x with|.bl b=>.br b (g τ μ1) (.ok (.bl false) μ1)|_=>.st
noncomputable abbrev eOr(f g:De):De:=λτ μ=>(f τ μ).bind λx μ1=>match x with|.bl b=>.br b (.ok (.bl true) μ1) (g τ μ1)|_=>.st
noncomputable abbrev zi(op:z8_)(f g:De):De:=λτ μ=>(f τ μ).bind λx μ1=>(g τ μ1).bind λy μ2=>Zn op x y μ2
noncomputable abbrev chS(op:z8_)(last:Bool)(ih:T->Sl->Mem->RE T)(x y:T)(τ:Sl)(μ1:Mem):RE T:=match last with
 |true=>Zn op x y μ1
 |false=>(Zn op x y μ1).bind λk μ2=>match k with
  |.bl b=>.br b (ih y τ μ2) (.ok (.bl false) μ2)
  |_=>.st
noncomputable abbrev U7(ps:List (z8_×De)):T->Sl->Mem->RE T:=z9c (motive:=λ_=>T->Sl->Mem->RE T) (λ_ _ _=>.st) (λp r ih x τ μ=>(p.2 τ μ).bind λy μ1=>chS p.1 r.isEmpty ih x y τ μ1) ps
noncomputable abbrev eCh(f:De)(ps:List (z8_×De)):De:=λτ μ=>(f τ μ).bind λx μ1=>U7 ps x τ μ1
noncomputable abbrev tE(f:De):Dt:=λτ μ=>(f τ μ).bind kJ
noncomputable abbrev wb(f g:Dt):Dt:=λτ μ=>(f τ μ).bind λb μ1=>.br b (g τ μ1) (.ok false μ1)
noncomputable abbrev tOr(f g:Dt):Dt:=λτ μ=>(f τ μ).bind λb μ1=>.br b (.ok true μ1) (g τ μ1)
noncomputable abbrev q9(f:Dt):Dt:=λτ μ=>(f τ μ).bind λb μ1=>.ok (!b) μ1
noncomputable abbrev eIf(c:Dt)(f g:De):De:=λτ μ=>(c τ μ).bind λb μ1=>.br b (f τ μ1) (g τ μ1)
noncomputable abbrev Qy(t:T)(f:Nat)(μ:Mem):RE T:=match t with
 |.obj _ fs=>(match Vq fs f with|some v=>.ok v μ|none=>.st)
 |.mut i=>λK _=>∃c fs v,μ[i]?=some (.obj c fs)/\Vq fs f=some v/\K v μ
 |_=>.st
noncomputable abbrev ze(f:De)(n:Nat):De:=λτ μ=>(f τ μ).bind λt μ1=>Qy t n μ1
noncomputable def Xq(n:Nat)(i:Int):Option Nat:=if 0<=i then (if i<n then some i.toNat else none) else if -(n:Int)<=i then some (i+n).toNat else none
noncomputable def w_ {α:Type}(xs:List α)(i:Int):Option α:=(Xq xs.length i).bind λj=>xs[j]?
noncomputable abbrev z27(t i:T)(μ:Mem):RE T:=match i with
 |.int k=>(match t with
  |.lst ts=>.som (w_ ts k) λv=>.ok v μ
  |.tup ts=>.som (w_ ts k) λv=>.ok v μ
  |.mut j=>λK _=>∃ts v,μ[j]?=some (.lst ts)/\w_ ts k=some v/\K v μ
  |.str z=>.grd (z.length<=room) (.som (w_ z.cps.toList k) λc=>.ok (.str ⟨#[c]⟩) μ)
  |_=>.st)
 |_=>.st
noncomputable abbrev eIx(f g:De):De:=λτ μ=>(f τ μ).bind λx μ1=>(g τ μ1).bind λy μ2=>z27 x y μ2
noncomputable def KZ(n d:Nat):Option Int->Nat
 |none=>d
 |some v=>if v<0 then (v+(n:Int)).toNat else min v.toNat n
noncomputable def jj {α:Type}(xs:List α)(lo hi:Option Int):List α:=(xs.drop (KZ xs.length 0 lo)).take (KZ xs.length xs.length hi-KZ xs.length 0 lo)
noncomputable abbrev Dp:=Sl->Mem->RE (Option Int)
noncomputable abbrev pN:Dp:=λ_ μ=>.ok none μ
noncomputable abbrev pS(f:De):Dp:=λτ μ=>(f τ μ).bind λt μ1=>match t with|.int i=>.ok (some i) μ1|_=>.st
noncomputable abbrev z6W(x:T)(l h:Option Int)(μ:Mem):RE T:=match x with
 |.lst xs=>.ok (.lst (jj xs l h)) μ
 |.tup xs=>.ok (.tup (jj xs l h)) μ
 |.str z=>.grd (z.length<=room) (.ok (.str (Txt.slice z l h)) μ)
 |.mut i=>λK _=>∃ts,μ[i]?=some (.lst ts)/\K (.lst (jj ts l h)) μ
 |_=>.st
noncomputable abbrev eSl(f:De)(lo hi:Dp):De:=λτ μ=>(f τ μ).bind λx μ1=>(lo τ μ1).bind λl μ2=>(hi τ μ2).bind λh μ3=>z6W x l h μ3
noncomputable abbrev evs(fs:List De):Da:=z9c (motive:=λ_=>Da) (λ_ μ=>.ok [] μ) (λf _ ih τ μ=>(f τ μ).bind λt μ1=>(ih τ μ1).bind λts μ2=>.ok (t::ts) μ2) fs
noncomputable abbrev jn(fs:List De):De:=λτ μ=>(evs fs τ μ).bind λts μ1=>.ok (.lst ts) μ1
noncomputable abbrev z_(fs:List De):De:=λτ μ=>(evs fs τ μ).bind λts μ1=>.ok (.tup ts) μ1
noncomputable abbrev Vv(fs:List De):De:=λτ μ=>(evs fs τ μ).bind λts μ1=>.ok (.mut μ1.length) (μ1++[.lst ts])
noncomputable abbrev z5(g:Fn)(fs:List De):De:=λτ μ=>(evs fs τ μ).bind g
noncomputable abbrev V3(c:Nat)(g:Fn)(ts:List T)(μ:Mem):RE T:=λK Z=>
 yW ts=true/\g (.mut 0::ts) [.obj c []] (λr μ1=>r=.non/\∃fs,μ1[0]?=some (.obj c fs)/\xY fs=true/\K (.obj c fs) μ) (λk fs _=>xY fs=true/\Z k fs μ)
noncomputable abbrev eMk(c:Nat)(g:Fn)(fs:List De):De:=λτ μ=>(evs fs τ μ).bind (V3 c g)
noncomputable abbrev YV(cs:List Nat)(x:T)(μ:Mem):RE T:=match x with
 |.mut i=>.som μ[i]? λo=>.br (z2s o) .st (.ok (.bl (isAny (tyO o) cs)) μ)
 |x=>match tyN x μ with
  |some t=>.ok (.bl (isAny t cs)) μ
  |none=>.st
noncomputable abbrev jZ(cs:List Nat)(f:De):De:=λτ μ=>(f τ μ).bind (YV cs)
noncomputable abbrev eB1(op:T->Mem->RE T)(f:De):De:=λτ μ=>(f τ μ).bind op
noncomputable abbrev vN(t:T)(μ:Mem):RE T:=match t with
 |.lst xs=>.ok (.int xs.length) μ
 |.tup xs=>.ok (.int xs.length) μ
 |.str s=>.grd (s.length<=room) (.ok (.int s.length) μ)
 |.mut i=>λK _=>∃xs,μ[i]?=some (.lst xs)/\K (.int xs.length) μ
 |_=>.st
noncomputable abbrev z1H(t:T)(μ:Mem):RE T:=match t with
 |.int i=>.ok (.int i) μ
 |.bl b=>.ok (.int (if b then 1 else 0)) μ
 |_=>.st
noncomputable abbrev V4(t:T)(μ:Mem):RE T:=match t with
 |.lst xs=>.ok (.lst xs) μ
 |.tup xs=>.ok (.lst xs) μ
 |.mut i=>λK _=>∃xs,μ[i]?=some (.lst xs)/\K (.lst xs) μ
 |_=>.st
noncomputable abbrev z0l(t:T)(μ:Mem):RE T:=match t with
 |.lst xs=>.ok (.mut μ.length) (μ++[.lst xs])
 |.tup xs=>.ok (.mut μ.length) (μ++[.lst xs])
 |.mut i=>λK _=>∃xs,μ[i]?=some (.lst xs)/\K (.mut μ.length) (μ++[.lst xs])
 |_=>.st
noncomputable def bools:List T->Option (List Bool)
 |[]=>some []
 |.bl b::r=>(bools r).map (b::·)
 |_::_=>none
noncomputable abbrev XE(t:T)(μ:Mem):RE T:=match t with
 |.lst xs=>.som (bools xs) λbs=>.ok (.bl (bs.all id)) μ
 |_=>.st
noncomputable abbrev WC(o f:De):De:=λτ μ=>(o τ μ).bind λot μ1=>match ot with
 |.mut i=>λK Z=>(∃ts,μ1[i]?=some (.lst ts))/\f τ μ1 (λt μ2=>∃ts,μ2[i]?=some (.lst ts)/\ts.length<room/\K .non (μ2.set i (.lst (ts++[t])))) Z
 |_=>.st
noncomputable abbrev u4(z:Str):List T:=z.cps.toList.map λc=>T.str ⟨#[c]⟩
noncomputable abbrev z5u(t:T)(μ:Mem):RI:=match t with
 |.lst xs=>.ok xs lvT μ
 |.tup xs=>.ok xs lvT μ
 |.str z=>.ok (u4 z) lvT μ
 |.mut i=>λK _=>∃xs,μ[i]?=some (.lst xs)/\K xs (lvM i xs) μ
 |_=>.st
noncomputable abbrev iE(f:De):Di:=λτ μ=>(f τ μ).it z5u
noncomputable def rangeT(n:Int):List T:=(z8y n.toNat).map λ(i:Nat)=>T.int i
noncomputable def xv(a b c:Int):List T:=(z8y (if a<b then (b-a-1) / c+1 else 0:Int).toNat).map λ(i:Nat)=>T.int (a+i * c)
noncomputable abbrev inL(a:Int):Prop := -1606938044258990275541962092341162602522202993782792835301376<=a/\a<1606938044258990275541962092341162602522202993782792835301376
noncomputable abbrev WB(f:De):Di:=λτ μ=>(f τ μ).it λt μ1=>match t with
 |.int n=>.grd (inL n) (.ok (rangeT n) lvT μ1)
 |_=>.st
noncomputable abbrev z0e(x y z:T)(μ:Mem):RI:=match x,y,z with
 |.int a,.int b,.int c=>.grd (inL a/\inL b/\0<c/\c<1073741824) (.ok (xv a b c) lvT μ)
 |_,_,_=>.st
noncomputable abbrev z2f(f g h:De):Di:=λτ μ=>(f τ μ).it λx μ1=>(g τ μ1).it λy μ2=>(h τ μ2).it λz μ3=>z0e x y z μ3
noncomputable abbrev JK(f g:De):Di:=λτ μ=>(f τ μ).it λx μ1=>(g τ μ1).it λy μ2=>match x,y with
 |.int a,.int b=>.grd (inL a/\inL b) (.ok (xv a b 1) lvT μ2)
 |_,_=>.st
inductive Tg where
 |one (i:Nat)|tup (is:List Nat)
noncomputable abbrev W_(is:List Nat):List T->Sl->Option Sl:=z9c (motive:=λ_=>List T->Sl->Option Sl) (λts τ=>z9c (motive:=λ_=>Option Sl) (some τ) (λ_ _ _=>none) ts) (λi _ ih ts τ=>z9c (motive:=λ_=>Option Sl) none (λt ts' _=>ih ts' (jP τ i (some t))) ts) is
noncomputable abbrev asg:Tg->T->Sl->Option Sl
 |.one i,t,τ=>some (jP τ i (some t))
 |.tup is,.tup ts,τ=>W_ is ts τ
 |_,_,_=>none
noncomputable def zO(tg:Tg)(g:Sl->Mem->RE (Option T))(lv:Mem->Prop)(τ:Sl):List T->Mem->RE (List T)
 |[],μ=>.ok [] μ
 |x::r,μ=>.som (asg tg x τ) λτ'=>(g τ' μ).bind λo μ1=>.grd (lv μ1) (match o with
  |some y=>(zO tg g lv τ r μ1).bind λys μ2=>.ok (y::ys) μ2
  |none=>zO tg g lv τ r μ1)
noncomputable abbrev yk(cs:List Dt)(f:De):Sl->Mem->RE (Option T):=z9c (motive:=λ_=>Sl->Mem->RE (Option T)) (λτ μ=>(f τ μ).bind λy μ1=>.ok (some y) μ1) (λc _ ih τ μ=>(c τ μ).bind λb μ1=>.br b (ih τ μ1) (.ok none μ1)) cs
noncomputable abbrev VM(is:List Nat)(τ:Sl):Sl:=z9c (motive:=λ_=>Sl) [] (λi _ ih=>X9 τ i::ih) is
noncomputable abbrev blk(n:Nat)(fs:List Nat)(τ:Sl):Sl:=zet (motive:=λ_=>Sl) (VM fs τ) (λ_ ih=>none::ih) n
noncomputable abbrev qI(n:Nat)(fs:List Nat)(tg:Tg)(it:Di)(cs:List Dt)(f:De):De:=λτ μ=>(it τ μ).go λxs o μ1=>.grd (xs.length<=room) ((zO tg (yk cs f) o (blk n fs τ) xs μ1).bind λys μ2=>.ok (.lst ys) μ2)
noncomputable abbrev xJ(n:Nat)(fs:List Nat)(tg:Tg)(it:Di)(cs:List Dt)(f:De):De:=λτ μ=>(it τ μ).go λxs o μ1=>.grd (xs.length<=room) ((zO tg (yk cs f) o (blk n fs τ) xs μ1).bind λys μ2=>.ok (.mut μ2.length) (μ2++[.lst ys]))
noncomputable abbrev zh(f:De):Ds:=λτ μ=>(f τ μ).out τ λt μ1=>.rt t μ1
noncomputable abbrev U1:Ds:=λ_ μ=>.rt .non μ
noncomputable abbrev zF(f:De):Ds:=λτ μ=>(f τ μ).out τ λ_ μ1=>.nx τ μ1
noncomputable abbrev zQ(ss:List Ds):Ds:=z9c (motive:=λ_=>Ds) (λτ μ=>.nx τ μ) (λs _ ih τ μ=>(s τ μ).seq ih) ss
noncomputable abbrev sIf(c:Dt)(a b:List Ds):Ds:=λτ μ=>(c τ μ).out τ λk μ1=>.br k (zQ a τ μ1) (zQ b τ μ1)
noncomputable abbrev zk(i:Nat)(f:De):Ds:=λτ μ=>(f τ μ).out τ λt μ1=>.nx (jP τ i (some t)) μ1
noncomputable abbrev ug(is:List Nat)(f:De):Ds:=λτ μ=>(f τ μ).out τ λt μ1=>.som (asg (.tup is) t τ) λτ'=>.nx τ' μ1
noncomputable abbrev ql(o:De)(n:Nat)(f:De):Ds:=λτ μ=>(f τ μ).out τ λt μ1=>(o τ μ1).out τ λot μ2=>match ot with
 |.mut i=>λE=>∃c fs,μ2[i]?=some (.obj c fs)/\fs.length<900/\E.nx τ (μ2.set i (.obj c (XH n t fs)))
 |_=>.st
noncomputable abbrev z66(o b f:De):Ds:=λτ μ=>(f τ μ).out τ λt μ1=>(o τ μ1).out τ λot μ2=>(b τ μ2).out τ λit μ3=>match ot,it with
 |.mut i,.int k=>λE=>∃ts,μ3[i]?=some (.lst ts)/\(0<=k/\k<ts.length/\k<9223372036854775808)/\E.nx τ (μ3.set i (.lst (ts.set k.toNat t)))
 |_,_=>.st
noncomputable def forM(tg:Tg)(body:Ds)(lv:Mem->Prop):List T->Ds
 |[],τ,μ=>.nx τ μ
 |x::r,τ,μ=>.som (asg tg x τ) λτ'=>λE=>body τ' μ (E.turn λτ2 μ2=>lv μ2/\forM tg body lv r τ2 μ2 E)
noncomputable abbrev jI(tg:Tg)(it:Di)(body:List Ds):Ds:=λτ μ=>(it τ μ).out τ λxs o μ1=>forM tg (zQ body) o xs τ μ1
noncomputable def Wg(c:Dt)(body:List Ds):Ds:=λτ μ E=>∃I:Nat->Sl->Mem->Prop,(∃n,I n τ μ)/\∀n τ μ,I n τ μ->
 c τ μ (λb μ1=>brW b (zQ body τ μ1 (E.turn λτ2 μ2=>∃m,m<n/\I m τ2 μ2)) (E.nx τ μ1)) (λk fs μ1=>E.ex k fs τ μ1)
noncomputable abbrev zC(c:Nat)(fs:List De):Ds:=λτ μ=>(evs fs τ μ).out τ λts μ1=>.grd (ts.length<=room) (.ex c [] τ μ1)
noncomputable abbrev z69(i:Option Nat)(v:List Ds)(k:Nat)(fs:List (Nat×T))(τ:Sl)(μ:Mem):Out:=λE=>match i with
 |some j=>zQ v (jP τ j (some (.exc k fs))) μ {nx:=λτ2 μ2=>E.nx (jP τ2 j none) μ2,rt:=E.rt,bk:=λ_ _=>False,ct:=λ_ _=>False,ex:=λ_ _ _ _=>False}
 |none=>zQ v τ μ {nx:=E.nx,rt:=E.rt,bk:=λ_ _=>False,ct:=λ_ _=>False,ex:=λ_ _ _ _=>False}
noncomputable abbrev z0V(hs:List (List Nat×Option Nat×List Ds)):Nat->List (Nat×T)->Sl->Mem->Out:=z9c (motive:=λ_=>Nat->List (Nat×T)->Sl->Mem->Out) (λk fs τ μ=>.ex k fs τ μ) (λp _ ih k fs τ μ=>.br (isAny k p.1) (z69 p.2.1 p.2.2 k fs τ μ) (ih k fs τ μ)) hs
noncomputable abbrev z3u(b:List Ds)(hs:List (List Nat×Option Nat×List Ds)):Ds:=λτ μ E=>zQ b τ μ (E.tri λk fs τ1 μ1=>z0V hs k fs τ1 μ1 E)
noncomputable abbrev pad(n:Nat):Sl:=zet (motive:=λ_=>Sl) [] (λ_ ih=>none::ih) n
noncomputable abbrev z1v(ts:List T)(n:Nat):Sl:=z9c (motive:=λ_=>Sl) (pad n) (λt _ ih=>some t::ih) ts
noncomputable abbrev fnW(n m:Nat)(body:List Ds):Fn:=λts μ K Z=>ts.length=n/\zQ body (z1v ts m) μ (En.fn K Z)
end NH
end
section
namespace NH
open PySem PySem.Spec PyProof.Rows L2
structure DP where
 K:z7E
 adr:Nat->Option Addr
 cad:Nat->Option Addr
 fn:Nat->Option Str
 inj:∀i j x,fn i=some x->fn j=some x->i=j
 clo:Nat->Addr->Option HO->List V->Prop
 tabs:Nat->Option (Addr×List Pos×Str)
noncomputable def XcAt (a C:Addr)(d:Option Addr):Heap->Prop:=λh=>∃oe vs,h.get? a=some oe/\oe.cls=.ref C/\oe.data=.fields vs/\oe.dict=d
noncomputable def wO(c:Addr)(qn:Str):Heap->Prop:=λh=>h.CodeRec (.ref c) qn
mutual
def Den (D:DP)(φ α:List Addr)(H:Hp):T->V->Prop
 |.non,v=>v=.non
 |.bl b,v=>v=.bl b
 |.int i,v=>v=.int i
 |.str x,v=>v=.str x
 |.mut i,v=>∃a,α[i]?=some a/\v=.ref a
 |.tup ts,v=>∃a xs,v=.ref a/\a∉φ/\a∉α/\Rd H a (.tup xs)/\DenL D φ α H ts xs
 |.lst ts,v=>∃a xs,v=.ref a/\a∉φ/\a∉α/\Rd H a (.lst xs)/\DenL D φ α H ts xs
 |.obj c fs,v=>∃a C dx gs,v=.ref a/\a∉φ/\a∉α/\D.cad c=some C/\H a=some (.ins C dx gs)/\DenF D φ α H fs gs
 |.exc c fs,v=>∃a C d,v=.ref a/\a∉φ/\a∉α/\D.adr c=some C/\H a=some (.ext (XcAt a C d))/\(match d with
  |none=>fs=[]
  |some dx=>∃gs,dx∉φ/\dx∉α/\H dx=some (.xd gs)/\DenF D φ α H fs gs)
 |.dic kvs,v=>∃a gs,v=.ref a/\a∉φ/\a∉α/\H a=some (.dK gs)/\DenK D φ α H kvs gs
 |.clo j cs,v=>∃a ob xs,v=.ref a/\D.clo j a ob xs/\(∀o,ob=some o->a∉φ/\a∉α/\H a=some o)/\DenL D φ α H cs xs
def DenL (D:DP)(φ α:List Addr)(H:Hp):List T->List V->Prop
 |[],vs=>vs=[]
 |t::ts,vs=>∃v r,vs=v::r/\Den D φ α H t v/\DenL D φ α H ts r
def DenF (D:DP)(φ α:List Addr)(H:Hp):List (Nat×T)->List (Str×V)->Prop
 |[],gs=>gs=[]
 |p::fs,gs=>∃x v r,D.fn p.1=some x/\gs=(x,v)::r/\Den D φ α H p.2 v/\DenF D φ α H fs r
def DenK (D:DP)(φ α:List Addr)(H:Hp):List (Key×T)->List (Key×V)->Prop
 |[],gs=>gs=[]
 |p::fs,gs=>∃v r,gs=(p.1,v)::r/\Den D φ α H p.2 v/\DenK D φ α H fs r
end
noncomputable def XDict(D:DP)(φ α:List Addr)(H:Hp)(fs:List (Nat×T)):Option Addr->Prop
 |none=>fs=[]
 |some dx=>∃gs,dx∉φ/\dx∉α/\H dx=some (.xd gs)/\DenF D φ α H fs gs
noncomputable def DenO (D:DP)(φ α:List Addr)(H:Hp):MO->Addr->Prop
 |.lst ts,a=>∃xs,H a=some (.lst xs)/\DenL D φ α H ts xs
 |.obj c fs,a=>∃C dx gs,D.cad c=some C/\H a=some (.ins C dx gs)/\DenF D φ α H fs gs
 |.dic kvs,a=>∃gs,H a=some (.dK gs)/\DenK D φ α H kvs gs
 |.tab j,a=>∃poss qn ps,D.tabs j=some (a,poss,qn)/\H a=some (.tbl ps)/\zaL ps.toList/\∀pos∈poss,zae pos ps.toList=none\/∃c,zae pos ps.toList=some (.ref c)/\c∉φ/\c∉α/\H c=some (.ext (wO c qn))
structure Stp(α:List Addr)(H:Hp)(α':List Addr)(H':Hp):Prop where
 ext:∃β,α'=α++β/\∀b∈β,H b=none
 keep:∀b o,b∉α->H b=some o->H' b=some o
 live:∀b,H' b=none->H b=none
theorem Stp.refl(α:List Addr)(H:Hp):Stp α H α H:=⟨⟨[],by simp,by simp⟩,λ_ _ _ e=>e,λ_ e=>e⟩
theorem Stp.trans{α α1 α2:List Addr}{H H1 H2:Hp}(a:Stp α H α1 H1)(b:Stp α1 H1 α2 H2):Stp α H α2 H2:=by
 obtain⟨β,rfl,hβ⟩:=a.ext
 obtain⟨γ,rfl,hγ⟩:=b.ext
 refine⟨⟨β++γ,by simp,λc hc=>?_⟩,λc o n e=>?_,λc e=>a.live c (b.live c e)⟩
 ·rcases z7H.mp hc with h|h
  ·exact hβ c h
  ·exact a.live c (hγ c h)
 ·refine b.keep c o (λh=>?_) (a.keep c o n e)
  rcases z7H.mp h with h|h
  ·exact n h
  ·rw[hβ c h] at e;cases e
theorem Stp.new{α:List Addr}{H H':Hp}(s:yl H H'):Stp α H α H':=⟨⟨[],by simp,by simp⟩,λb o _ e=>s b o e,λb e=>by
 cases q:H b with
 |none=>rfl
 |some o=>rw[s b o q] at e;cases e⟩
theorem za{H:Hp}{p:Addr}{o:HO}(h:H p=none):yl H (upd H p o):=λb u e=>by rw[z8 (zK e h)];exact e
theorem Stp.out{α α':List Addr}{H H':Hp}(s:Stp α H α' H'){a:Addr}{o:HO}(n:a∉α)(e:H a=some o):a∉α':=by
 obtain⟨β,rfl,hβ⟩:=s.ext
 intro h
 rcases z7H.mp h with h|h
 ·exact n h
 ·rw[hβ a h] at e;cases e
section
variable {D:DP}{φ φ' α α':List Addr}{H H':Hp}
structure Lk(φ α:List Addr)(H:Hp)(φ' α':List Addr)(H':Hp):Prop where
 ob:∀a o,a∉φ->a∉α->H a=some o->a∉φ'/\a∉α'/\H' a=some o
 st:∀(i:Nat) (a:Addr),α[i]?=some a->α'[i]?=some a
mutual
theorem Den.lk(h:Lk φ α H φ' α' H'):∀{t:T} {v:V},Den D φ α H t v->Den D φ' α' H' t v
 |.non,_,d=>d
 |.bl _,_,d=>d
 |.int _,_,d=>d
 |.str _,_,d=>d
 |.mut i,_,d=>by obtain⟨a,e,q⟩:=d;exact⟨a,h.st i a e,q⟩
 |.tup ts,_,d=>by
  obtain⟨a,xs,rfl,n1,n2,r,l⟩:=d
  rcases r with r|⟨o,r⟩
  ·obtain⟨m1,m2,e⟩:=h.ob a _ n1 n2 r
   exact⟨a,xs,rfl,m1,m2,.inl e,DenL.lk h l⟩
  ·obtain⟨m1,m2,e⟩:=h.ob a _ n1 n2 r
   exact⟨a,xs,rfl,m1,m2,.inr ⟨o,e⟩,DenL.lk h l⟩
 |.lst ts,_,d=>by
  obtain⟨a,xs,rfl,n1,n2,r,l⟩:=d
  rcases r with r|⟨o,r⟩
  ·obtain⟨m1,m2,e⟩:=h.ob a _ n1 n2 r
   exact⟨a,xs,rfl,m1,m2,.inl e,DenL.lk h l⟩
  ·obtain⟨m1,m2,e⟩:=h.ob a _ n1 n2 r
   exact⟨a,xs,rfl,m1,m2,.inr ⟨o,e⟩,DenL.lk h l⟩
 |.obj c fs,_,d=>by
  obtain⟨a,C,dx,gs,rfl,n1,n2,ad,e,l⟩:=d
  obtain⟨m1,m2,e⟩:=h.ob a _ n1 n2 e
  exact⟨a,C,dx,gs,rfl,m1,m2,ad,e,DenF.lk h l⟩
 |.exc c fs,_,d=>by
  obtain⟨a,C,d,rfl,n1,n2,ad,e,l⟩:=d
  obtain⟨m1,m2,e⟩:=h.ob a _ n1 n2 e
  refine⟨a,C,d,rfl,m1,m2,ad,e,?_⟩
  cases d with
  |none=>exact l
  |some dx=>
   obtain⟨gs,k1,k2,e2,l⟩:=l
   obtain⟨k1,k2,e2⟩:=h.ob dx _ k1 k2 e2
   exact⟨gs,k1,k2,e2,DenF.lk h l⟩
 |.dic kvs,_,d=>by
  obtain⟨a,gs,rfl,n1,n2,e,l⟩:=d
  obtain⟨m1,m2,e⟩:=h.ob a _ n1 n2 e
  exact⟨a,gs,rfl,m1,m2,e,DenK.lk h l⟩
 |.clo j cs,_,d=>by
  obtain⟨a,ob,xs,rfl,c,e,l⟩:=d
  exact⟨a,ob,xs,rfl,c,λo z=>let ⟨n1,n2,q⟩:=e o z;h.ob a o n1 n2 q,DenL.lk h l⟩
theorem DenL.lk(h:Lk φ α H φ' α' H'):∀{ts:List T} {vs:List V},DenL D φ α H ts vs->DenL D φ' α' H' ts vs
 |[],_,l=>l
 |t::ts,_,l=>by
  obtain⟨v,r,rfl,a,b⟩:=l
  exact⟨v,r,rfl,Den.lk h a,DenL.lk h b⟩
theorem DenF.lk(h:Lk φ α H φ' α' H'):∀{fs:List (Nat×T)} {gs:List (Str×V)},DenF D φ α H fs gs->DenF D φ' α' H' fs gs
 |[],_,l=>l
 |p::fs,_,l=>by
  obtain⟨x,v,r,e,rfl,a,b⟩:=l
  exact⟨x,v,r,e,rfl,Den.lk h a,DenF.lk h b⟩
theorem DenK.lk(h:Lk φ α H φ' α' H'):∀{fs:List (Key×T)} {gs:List (Key×V)},DenK D φ α H fs gs->DenK D φ' α' H' fs gs
 |[],_,l=>l
 |p::fs,_,l=>by
  obtain⟨v,r,rfl,a,b⟩:=l
  exact⟨v,r,rfl,Den.lk h a,DenK.lk h b⟩
end
theorem Stp.lk(s:Stp α H α' H'):Lk φ α H φ α' H':=⟨λa o n1 n2 e=>⟨n1,s.out n2 e,s.keep a o n2 e⟩,λi a e=>by
 obtain⟨β,rfl,_⟩:=s.ext
 rw[z7F (z7v.mp e).1];exact e⟩
theorem Den.step(s:Stp α H α' H'){t:T}{v:V}(d:Den D φ α H t v):Den D φ α' H' t v:=d.lk s.lk
theorem DenL.step(s:Stp α H α' H'){t:List T}{v:List V}(d:DenL D φ α H t v):DenL D φ α' H' t v:=d.lk s.lk
theorem DenF.step(s:Stp α H α' H'){t:List (Nat×T)}{v:List (Str×V)}(d:DenF D φ α H t v):DenF D φ α' H' t v:=d.lk s.lk
theorem DenK.step(s:Stp α H α' H'){t:List (Key×T)}{v:List (Key×V)}(d:DenK D φ α H t v):DenK D φ α' H' t v:=d.lk s.lk
theorem XDict.lk{fs:List (Nat×T)}{d:Option Addr}(h:Lk φ α H φ' α' H')(x:XDict D φ α H fs d):XDict D φ' α' H' fs d:=by
 cases d with
 |none=>exact x
 |some dx=>
  obtain⟨gs,k1,k2,e2,l⟩:=x
  obtain⟨k1,k2,e2⟩:=h.ob dx _ k1 k2 e2
  exact⟨gs,k1,k2,e2,DenF.lk h l⟩
mutual
theorem Den.hide{β:List Addr}:∀{t:T} {v:V},vV t=true->Den D φ α H t v->(∀a,a∉φ->a∉α->a∉φ'/\a∉β)->Den D φ' β H t v
 |.non,_,_,h,_=>h
 |.bl _,_,_,h,_=>h
 |.int _,_,_,h,_=>h
 |.str _,_,_,h,_=>h
 |.mut i,_,p,_,_=>by simp[vV] at p
 |.tup ts,_,p,h,k=>by
  obtain⟨a,xs,rfl,n1,n2,r,l⟩:=h
  exact⟨a,xs,rfl,(k a n1 n2).1,(k a n1 n2).2,r,DenL.hide (by simpa[vV] using p) l k⟩
 |.lst ts,_,p,h,k=>by
  obtain⟨a,xs,rfl,n1,n2,r,l⟩:=h
  exact⟨a,xs,rfl,(k a n1 n2).1,(k a n1 n2).2,r,DenL.hide (by simpa[vV] using p) l k⟩
 |.obj c fs,_,p,h,k=>by
  obtain⟨a,C,dx,gs,rfl,n1,n2,ad,e,l⟩:=h
  exact⟨a,C,dx,gs,rfl,(k a n1 n2).1,(k a n1 n2).2,ad,e,DenF.hide (by simpa[vV] using p) l k⟩
 |.exc c fs,_,p,h,k=>by
  obtain⟨a,C,d,rfl,n1,n2,ad,e,l⟩:=h
  refine⟨a,C,d,rfl,(k a n1 n2).1,(k a n1 n2).2,ad,e,?_⟩
  cases d with
  |none=>exact l
  |some dx=>
   obtain⟨gs,k1,k2,e2,l⟩:=l
   exact⟨gs,(k dx k1 k2).1,(k dx k1 k2).2,e2,DenF.hide (by simpa[vV] using p) l k⟩
 |.dic kvs,_,p,h,k=>by
  obtain⟨a,gs,rfl,n1,n2,e,l⟩:=h
  exact⟨a,gs,rfl,(k a n1 n2).1,(k a n1 n2).2,e,DenK.hide (by simpa[vV] using p) l k⟩
 |.clo j cs,_,p,h,k=>by
  obtain⟨a,ob,xs,rfl,c,e,l⟩:=h
  exact⟨a,ob,xs,rfl,c,λo z=>let ⟨n1,n2,q⟩:=e o z;⟨(k a n1 n2).1,(k a n1 n2).2,q⟩,DenL.hide (by simpa[vV] using p) l k⟩
theorem DenL.hide{β:List Addr}:∀{ts:List T} {vs:List V},yW ts=true->DenL D φ α H ts vs->(∀a,a∉φ->a∉α->a∉φ'/\a∉β)->DenL D φ' β H ts vs
 |[],_,_,h,_=>h
 |t::ts,_,p,h,k=>by
  obtain⟨v,r,rfl,a,b⟩:=h
  simp only[yW,z7x] at p
  exact⟨v,r,rfl,Den.hide p.1 a k,DenL.hide p.2 b k⟩
theorem DenF.hide{β:List Addr}:∀{fs:List (Nat×T)} {gs:List (Str×V)},xY fs=true->DenF D φ α H fs gs->(∀a,a∉φ->a∉α->a∉φ'/\a∉β)->DenF D φ' β H fs gs
 |[],_,_,h,_=>h
 |q::fs,_,p,h,k=>by
  obtain⟨x,v,r,e,rfl,a,b⟩:=h
  simp only[xY,z7x] at p
  exact⟨x,v,r,e,rfl,Den.hide p.1 a k,DenF.hide p.2 b k⟩
theorem DenK.hide{β:List Addr}:∀{fs:List (Key×T)} {gs:List (Key×V)},JW fs=true->DenK D φ α H fs gs->(∀a,a∉φ->a∉α->a∉φ'/\a∉β)->DenK D φ' β H fs gs
 |[],_,_,h,_=>h
 |q::fs,_,p,h,k=>by
  obtain⟨v,r,rfl,a,b⟩:=h
  simp only[JW,z7x] at p
  exact⟨v,r,rfl,Den.hide p.1 a k,DenK.hide p.2 b k⟩
end
theorem XDict.hide{fs:List (Nat×T)}{d:Option Addr}{β:List Addr}(p:xY fs=true)(x:XDict D φ α H fs d)(k:∀a,a∉φ->a∉α->a∉φ'/\a∉β):XDict D φ' β H fs d:=by
 cases d with
 |none=>exact x
 |some dx=>
  obtain⟨gs,k1,k2,e2,l⟩:=x
  exact⟨gs,(k dx k1 k2).1,(k dx k1 k2).2,e2,DenF.hide p l k⟩
theorem z0C:∀a:Addr,a∉φ->a∉α->a∉φ++α/\a∉([]:List Addr):=λa n1 n2=>⟨λz=>(z7H.mp z).elim n1 n2,by simp⟩
theorem Wo{β:List Addr}:∀a:Addr,a∉φ++α->a∉β->a∉φ/\a∉α:=λa n1 _=>⟨λz=>n1 (z7S _ z),λz=>n1 (z7J _ z)⟩
theorem DenL.length:∀{ts:List T} {vs:List V},DenL D φ α H ts vs->ts.length=vs.length
 |[],_,h=>by have:_=[]:=h;subst this;rfl
 |t::ts,_,h=>by
  obtain⟨v,r,rfl,_,b⟩:=h
  simp[DenL.length b]
theorem DenL.get:∀{ts:List T} {vs:List V} {i:Nat} {t:T},DenL D φ α H ts vs->ts[i]?=some t->∃v,vs[i]?=some v/\Den D φ α H t v
 |[],_,_,_,_,e=>by simp at e
 |t::ts,_,0,_,h,e=>by
  obtain⟨v,r,rfl,a,b⟩:=h
  simp at e;subst e
  exact⟨v,rfl,a⟩
 |t::ts,_,i+1,u,h,e=>by
  obtain⟨v,r,rfl,a,b⟩:=h
  obtain⟨w,e',d⟩:=DenL.get (i:=i) (t:=u) b (by simpa using e)
  exact⟨w,by simpa using e',d⟩
theorem DenL.append:∀{ts us:List T} {vs ws:List V},DenL D φ α H ts vs->DenL D φ α H us ws->DenL D φ α H (ts++us) (vs++ws)
 |[],us,_,ws,h,k=>by have:_=[]:=h;subst this;exact k
 |t::ts,us,_,ws,h,k=>by
  obtain⟨v,r,rfl,a,b⟩:=h
  exact⟨v,r++ws,rfl,a,DenL.append b k⟩
theorem DenL.drop:∀(n:Nat) {ts:List T} {vs:List V},DenL D φ α H ts vs->DenL D φ α H (ts.drop n) (vs.drop n)
 |0,_,_,h=>h
 |n+1,[],_,h=>by have:_=[]:=h;subst this;exact rfl
 |n+1,t::ts,_,h=>by
  obtain⟨v,r,rfl,a,b⟩:=h
  exact DenL.drop n b
theorem DenL.take:∀(n:Nat) {ts:List T} {vs:List V},DenL D φ α H ts vs->DenL D φ α H (ts.take n) (vs.take n)
 |0,_,_,h=>by simp[DenL]
 |n+1,[],_,h=>by have:_=[]:=h;subst this;exact rfl
 |n+1,t::ts,_,h=>by
  obtain⟨v,r,rfl,a,b⟩:=h
  exact⟨v,r.take n,rfl,a,DenL.take n b⟩
theorem DenL.set:∀{ts:List T} {vs:List V} {i:Nat} {t:T} {v:V},DenL D φ α H ts vs->Den D φ α H t v->DenL D φ α H (ts.set i t) (vs.set i v)
 |[],vs,i,t,v,l,d=>by have l:vs=[]:=l;subst l;exact rfl
 |x::ts,_,0,t,v,l,d=>by
  obtain⟨w,r,rfl,dw,l⟩:=l
  exact⟨v,r,rfl,d,l⟩
 |x::ts,_,i+1,t,v,l,d=>by
  obtain⟨w,r,rfl,dw,l⟩:=l
  exact⟨w,r.set i v,rfl,dw,DenL.set l d⟩
theorem DenF.look:∀{fs:List (Nat×T)} {gs:List (Str×V)} {f:Nat} {t:T},DenF D φ α H fs gs->Vq fs f=some t->∃x v,D.fn f=some x/\gs.lookup x=some v/\Den D φ α H t v
 |[],_,_,_,_,e=>by simp[Vq] at e
 |p::fs,_,f,t,h,e=>by
  obtain⟨x,v,r,ex,rfl,a,b⟩:=h
  rw[Xw] at e
  cases q:z9H p.1 f with
  |true=>
   have q':=zbY q
   rw[q] at e
   have e:some p.2=some t:=e
   cases e
   exact⟨x,v,by rw[←q'];exact ex,by simp[z8c],a⟩
  |false=>
   rw[q] at e
   obtain⟨y,w,h1,h2,h3⟩:=DenF.look b e
   refine⟨y,w,h1,?_,h3⟩
   rw[z8c]
   have ne:(y == x)=false:=by
    refine beq_eq_false_iff_ne.mpr λz=>?_
    subst z
    have:=D.inj _ _ _ ex h1
    rw[this] at q
    simp at q
   rw[ne];exact h2
theorem DenF.put{f:Nat}{x:Str}{t:T}{w:V}(hx:D.fn f=some x):∀{fs:List (Nat×T)} {gs:List (Str×V)},DenF D φ α H fs gs->Den D φ α H t w->DenF D φ α H (XH f t fs) (v7 x w gs)
 |[],gs,h,d=>by
  have:gs=[]:=h
  subst this
  exact⟨x,w,[],hx,rfl,d,rfl⟩
 |p::fs,gs,h,d=>by
  obtain⟨z,y,r,ez,rfl,dy,l⟩:=h
  rw[X8]
  show DenF D φ α H _ (if z=x then (z,w)::r else (z,y)::v7 x w r)
  cases q:z9H p.1 f with
  |true=>
   have q':=zbY q
   have:z=x:=by rw[q',hx] at ez;exact (z7A ez).symm
   rw[if_pos this]
   exact⟨z,w,r,ez,rfl,d,l⟩
  |false=>
   have:z≠x:=λe=>by
    subst e
    have:=D.inj _ _ _ ez hx
    rw[this] at q
    simp at q
   rw[if_neg this]
   exact⟨z,y,v7 x w r,ez,rfl,dy,DenF.put hx l d⟩
theorem DenF.length:∀{fs:List (Nat×T)} {gs:List (Str×V)},DenF D φ α H fs gs->fs.length=gs.length
 |[],_,h=>by have:_=[]:=h;subst this;rfl
 |p::fs,_,h=>by
  obtain⟨x,v,r,_,rfl,_,b⟩:=h
  simp[DenF.length b]
structure MRel(D:DP)(φ α:List Addr)(H:Hp)(μ:Mem):Prop where
 len:α.length=μ.length
 nd:α.Nodup
 dis:∀b∈α,b∉φ
 phi:∀b∈φ,∃o,H b=some o
 ob:∀(i:Nat) (a:Addr) (o:MO),α[i]?=some a->μ[i]?=some o->DenO D φ α H o a
theorem DenO.lk{o:MO}{a:Addr}(s:Lk φ α H φ' α' H')(e:H' a=H a)(h:DenO D φ α H o a):DenO D φ' α' H' o a:=by
 cases o with
 |lst ts=>
  obtain⟨xs,q,l⟩:=h
  exact⟨xs,e.trans q,DenL.lk s l⟩
 |obj c fs=>
  obtain⟨C,dx,gs,ad,q,l⟩:=h
  exact⟨C,dx,gs,ad,e.trans q,DenF.lk s l⟩
 |dic kvs=>
  obtain⟨xs,q,l⟩:=h
  exact⟨xs,e.trans q,DenK.lk s l⟩
 |tab j=>
  obtain⟨pos,qn,ps,h1,h2,h3,h4⟩:=h
  refine⟨pos,qn,ps,h1,e.trans h2,h3,λp hp=>(h4 p hp).imp id λ⟨c,k1,k2,k3,k4⟩=>?_⟩
  obtain⟨m1,m2,m3⟩:=s.ob c _ k2 k3 k4
  exact⟨c,k1,m1,m2,m3⟩
theorem DenO.step{o:MO}{a:Addr}(s:Stp α H α' H')(e:H' a=H a)(h:DenO D φ α H o a):DenO D φ α' H' o a:=h.lk s.lk e
theorem DenO.some{o:MO}{a:Addr}(h:DenO D φ α H o a):∃u,H a=Option.some u:=by
 cases o with
 |lst ts=>obtain⟨xs,q,_⟩:=h;exact⟨_,q⟩
 |obj c fs=>obtain⟨C,dx,gs,_,q,_⟩:=h;exact⟨_,q⟩
 |dic ts=>obtain⟨xs,q,_⟩:=h;exact⟨_,q⟩
 |tab j=>obtain⟨_,_,ps,_,q,_⟩:=h;exact⟨_,q⟩
theorem MRel.new{μ:Mem}(m:MRel D φ α H μ)(s:yl H H'):MRel D φ α H' μ:=
 ⟨m.len,m.nd,m.dis,λb hb=>let ⟨o,e⟩:=m.phi b hb;⟨o,s b o e⟩,λi a o e1 e2=>by
  have d:=m.ob i a o e1 e2
  obtain⟨u,q⟩:=d.some
  exact d.step (Stp.new s) ((s _ _ q).trans q.symm)⟩
theorem MRel.lk{μ:Mem}(h:Lk φ α H φ' α H')(hα:∀a∈α,H' a=H a/\a∉φ')(hφ:∀b∈φ',∃o,H' b=some o)(m:MRel D φ α H μ):MRel D φ' α H' μ:=
 ⟨m.len,m.nd,λb hb=>(hα b hb).2,hφ,λi a o e1 e2=>(m.ob i a o e1 e2).lk h (hα a (z7P e1)).1⟩
structure SRel(D:DP)(φ α:List Addr)(H:Hp)(τ:Sl)(σ:St):Prop where
 len:τ.length=σ.length
 val:∀(i:Nat) (t:T),τ[i]?=some (some t)->∃v,σ[i]?=some (some v)/\Den D φ α H t v
theorem SRel.lk{τ:Sl}{σ:St}(r:SRel D φ α H τ σ)(s:Lk φ α H φ' α' H'):SRel D φ' α' H' τ σ:=⟨r.len,λi t e=>by
 obtain⟨v,q,d⟩:=r.val i t e
 exact⟨v,q,d.lk s⟩⟩
theorem SRel.step{τ:Sl}{σ:St}(r:SRel D φ α H τ σ)(s:Stp α H α' H'):SRel D φ α' H' τ σ:=r.lk s.lk
theorem SRel.set{τ:Sl}{σ:St}(r:SRel D φ α H τ σ){i:Nat}{t:T}{v:V}(d:Den D φ α H t v):SRel D φ α H (jP τ i (some t)) (σ.set i (some v)):=by
 rw[yv]
 refine⟨by simp[r.len],λj u e=>?_⟩
 by_cases h:i=j
 ·subst h
  rw[zaf] at e
  cases q:τ[i]? with
  |none=>rw[q] at e;cases e
  |some o=>
   rw[q] at e
   simp at e
   subst e
   have hl:i<σ.length:=by rw[←r.len];exact (z7v.mp q).1
   exact⟨v,by simp[hl],d⟩
 ·rw[z81 h] at e ⊢
  exact r.val j u e
theorem SRel.unset{τ:Sl}{σ:St}{i:Nat}(r:SRel D φ α H τ σ):SRel D φ α H (jP τ i none) (σ.set i none):=by
 rw[yv]
 refine⟨by simp[r.len],λj t e=>?_⟩
 by_cases h:i=j
 ·subst h
  rw[zaf] at e
  cases q:τ[i]? with
  |none=>rw[q] at e;cases e
  |some o=>rw[q] at e;cases e
 ·rw[z81 h] at e ⊢
  exact r.val j t e
theorem SRel.get{τ:Sl}{σ:St}(r:SRel D φ α H τ σ){i:Nat}{t:T}(e:X9 τ i=some t):∃v,σ[i]?=some (some v)/\Den D φ α H t v:=r.val i t (Ke.mp e)
end
theorem xA{φ α:List Addr}{H:Hp}{b:Addr}(hb:H b=none):Lk φ α H (φ++[b]) α H:=by
 refine⟨λa o n1 n2 e=>⟨λz=>?_,n2,e⟩,λ_ _ e=>e⟩
 rcases z7H.mp z with z|z
 ·exact n1 z
 ·rw[z7C.mp z,hb] at e
  cases e
theorem Vh{φ α:List Addr}{H H':Hp}{b:Addr}(hb:H b=none)(s:yl H H'):Lk φ α H (φ++[b]) α H':=⟨λa o n1 n2 e=>let ⟨q1,q2,q3⟩:=(xA hb).ob a o n1 n2 e;⟨q1,q2,s a o e⟩,λ_ _ e=>e⟩
theorem wV{φ α:List Addr}{H:Hp}{b:Addr}:Lk (φ++[b]) α H φ α H:=⟨λa o n1 n2 e=>⟨λz=>n1 (z7S _ z),n2,e⟩,λ_ _ e=>e⟩
theorem uO{φ α:List Addr}{H:Hp}{b:Addr}{u:HO}(hb:b∈φ):Lk φ α H φ α (upd H b u):=⟨λa o n1 n2 e=>⟨n1,n2,by rw[z8 (λz:a=b=>n1 (by rw[z];exact hb))];exact e⟩,λ_ _ e=>e⟩
end NH
end
section
namespace NH
open PySem PySem.Spec PyProof.Rows L2
noncomputable def Post (D:DP)(W:XW)(φ α:List Addr)(H:Hp)(σ:St){β:Type}(R:β->Mem->List Addr->Hp->Prop)(r:RE β):Prop:=
 ∃K Z,r K Z/\(∀a μ',K a μ'->∀α' H',Stp α H α' H'->MRel D φ α' H' μ'->R a μ' α' H')/\
  ∀c fs μ',Z c fs μ'->∀α' H' C d,Stp α H α' H'->MRel D φ α' H' μ'->D.adr c=some C->XDict D φ α' H' fs d->W (.ref C) d σ H'
section
variable {D:DP}{W:XW}{φ α α':List Addr}{H H':Hp}{σ:St}{β γ:Type}{R R':β->Mem->List Addr->Hp->Prop}{S:γ->Mem->List Addr->Hp->Prop}
theorem Post.mono{r:RE β}(p:Post D W φ α H σ R r)(h:∀a μ' α' H',Stp α H α' H'->MRel D φ α' H' μ'->R a μ' α' H'->R' a μ' α' H'):Post D W φ α H σ R' r:=by
 obtain⟨K,Z,q,k,z⟩:=p
 exact⟨K,Z,q,λa μ' e α' H' s m=>h a μ' α' H' s m (k a μ' e α' H' s m),z⟩
theorem Post.bind{r:RE γ}{k:γ->Mem->RE β}(p:Post D W φ α H σ R (r.bind k)):Post D W φ α H σ (λa μ' α' H'=>Post D W φ α' H' σ R (k a μ')) r:=by
 obtain⟨K,Z,q,h,z⟩:=p
 exact⟨λa μ=>k a μ K Z,Z,q,λa μ' e α' H' s m=>⟨K,Z,e,λb μ2 e2 α2 H2 s2 m2=>h b μ2 e2 α2 H2 (s.trans s2) m2,λc fs μ2 e2 α2 H2 C d s2 m2=>z c fs μ2 e2 α2 H2 C d (s.trans s2) m2⟩,z⟩
theorem Post.elim{C:Prop}(p:Post D W φ α H σ R RE.st):C:=by obtain⟨_,_,q,_⟩:=p;exact q.elim
theorem Post.grd{c:Prop}{r:RE β}(p:Post D W φ α H σ R (RE.grd c r)):c/\Post D W φ α H σ R r:=by
 obtain⟨K,Z,q,h⟩:=p
 exact⟨q.1,K,Z,q.2,h⟩
theorem Post.som{o:Option γ}{k:γ->RE β}(p:Post D W φ α H σ R (RE.som o k)):∃a,o=some a/\Post D W φ α H σ R (k a):=by
 obtain⟨K,Z,⟨a,e,q⟩,h⟩:=p
 exact⟨a,e,K,Z,q,h⟩
theorem Post.br{b:Bool}{r s:RE β}(p:Post D W φ α H σ R (RE.br b r s)):(b=true/\Post D W φ α H σ R r)\/(b=false/\Post D W φ α H σ R s):=by
 obtain⟨K,Z,q,h⟩:=p
 cases b with
 |true=>exact .inl ⟨rfl,K,Z,q,h⟩
 |false=>exact .inr ⟨rfl,K,Z,q,h⟩
theorem Post.ok{a:β}{μ:Mem}(p:Post D W φ α H σ R (RE.ok a μ)){α':List Addr}{H':Hp}(s:Stp α H α' H')(m:MRel D φ α' H' μ):R a μ α' H':=by
 obtain⟨K,Z,q,h,_⟩:=p
 exact h a μ q α' H' s m
theorem Post.step{r:RE β}(p:Post D W φ α H σ R r)(st:Stp α H α' H'):Post D W φ α' H' σ R r:=by
 obtain⟨K,Z,q,h,z⟩:=p
 exact⟨K,Z,q,λb μ2 e2 α2 H2 s2 m2=>h b μ2 e2 α2 H2 (st.trans s2) m2,λc fs μ2 e2 α2 H2 C d s2 m2=>z c fs μ2 e2 α2 H2 C d (st.trans s2) m2⟩
theorem Post.ex1{δ:Type}{P:δ->Prop}{k:δ->RE β}(p:Post D W φ α H σ R (λK Z=>∃x,P x/\k x K Z)):∃x,P x/\Post D W φ α H σ R (k x):=by
 obtain⟨K,Z,⟨x,hx,q⟩,h⟩:=p
 exact⟨x,hx,K,Z,q,h⟩
end
noncomputable def rdE (D:DP)(W:XW)(f:De):TE:=λσ H Q=>∃φ α τ μ,SRel D φ α H τ σ/\MRel D φ α H μ/\Post D W φ α H σ (λt _ α' H'=>∀v,Den D φ α' H' t v->Q v H') (f τ μ)
noncomputable def rdT (D:DP)(W:XW)(f:Dt):TT:=λσ H Q=>∃φ α τ μ,SRel D φ α H τ σ/\MRel D φ α H μ/\Post D W φ α H σ (λb _ _ H'=>Q b H') (f τ μ)
noncomputable def rdA (D:DP)(W:XW)(n:Nat)(f:Da):TA:=λσ H Q=>∃φ α τ μ,SRel D φ α H τ σ/\MRel D φ α H μ/\Post D W φ α H σ (λts _ α' H'=>∀vs,DenL D φ α' H' ts vs->vs.length=n->Q vs H') (f τ μ)
section
variable {X:Cx}{D:DP}{W:XW}{pins:List (Addr×Obj)}{s:Shared}{σ:St}{H:Hp}{φ α:List Addr}{τ:Sl}{μ:Mem}{β:Type}{R:β->Mem->List Addr->Hp->Prop}
theorem sub{a:Expr}{f:Sl->Mem->RE T}{k:T->Mem->RE β}(ha:PE X a (rdE D W f))(I:Inv X pins σ H s)(sr:SRel D φ α H τ σ)(mr:MRel D φ α H μ)(p:Post D W φ α H σ R ((f τ μ).bind k)) :
  z7K (z7N X.prog X.w) X.A (eval a X.env) (λu s1=>∃v H1 t μ1 α1,Inv X pins σ H1 s1/\RelV v u/\Stp α H α1 H1/\SRel D φ α1 H1 τ σ/\MRel D φ α1 H1 μ1/\Den D φ α1 H1 t v/\Post D W φ α1 H1 σ R (k t μ1)) X.xe s:=by
 refine thn (ha pins s σ H (λv H1=>∃t μ1 α1,Stp α H α1 H1/\SRel D φ α1 H1 τ σ/\MRel D φ α1 H1 μ1/\Den D φ α1 H1 t v/\Post D W φ α1 H1 σ R (k t μ1)) I ⟨φ,α,τ,μ,sr,mr,p.bind.mono λt μ' α' H' st m q v d=>⟨t,μ',α',st,sr.step st,m,d,q⟩⟩) ?_
 rintro u s1 ⟨v,H1,I1,r,t,μ1,α1,h⟩
 exact⟨v,H1,t,μ1,α1,I1,r,h⟩
theorem z6r{a:Expr}{f:Sl->Mem->RE Bool}{k:Bool->Mem->RE β}(ha:PT X a (rdT D W f))(I:Inv X pins σ H s)(sr:SRel D φ α H τ σ)(mr:MRel D φ α H μ)(p:Post D W φ α H σ R ((f τ μ).bind k)) :
  z7K (z7N X.prog X.w) X.A (isTrue a X.env (eval a X.env)) (λb s1=>∃H1 μ1 α1,Inv X pins σ H1 s1/\Stp α H α1 H1/\SRel D φ α1 H1 τ σ/\MRel D φ α1 H1 μ1/\Post D W φ α1 H1 σ R (k b μ1)) X.xe s:=by
 refine thn (ha pins s σ H (λb H1=>∃μ1 α1,Stp α H α1 H1/\SRel D φ α1 H1 τ σ/\MRel D φ α1 H1 μ1/\Post D W φ α1 H1 σ R (k b μ1)) I ⟨φ,α,τ,μ,sr,mr,p.bind.mono λb μ' α' H' st m q=>⟨μ',α',st,sr.step st,m,q⟩⟩) ?_
 rintro b s1 ⟨H1,I1,μ1,α1,h⟩
 exact⟨H1,μ1,α1,I1,h⟩
theorem UZ{es:List Expr}{n:Nat}{pos:Pos}{f:Da}{k:List T->Mem->RE β}(ha:PA X es (rdA D W n f))(I:Inv X pins σ H s)(sr:SRel D φ α H τ σ)(mr:MRel D φ α H μ)(p:Post D W φ α H σ R ((f τ μ).bind k)) :
  z7K (z7N X.prog X.w) X.A (spliced (z9v pos (z8l es X.env))) (λus s1=>∃vs H1 ts μ1 α1,Inv X pins σ H1 s1/\Vals vs us/\Stp α H α1 H1/\SRel D φ α1 H1 τ σ/\MRel D φ α1 H1 μ1/\DenL D φ α1 H1 ts vs/\vs.length=n/\Post D W φ α1 H1 σ R (k ts μ1)) X.xe s:=by
 refine thn (ha pos pins s σ H (λvs H1=>∃ts μ1 α1,Stp α H α1 H1/\SRel D φ α1 H1 τ σ/\MRel D φ α1 H1 μ1/\DenL D φ α1 H1 ts vs/\vs.length=n/\Post D W φ α1 H1 σ R (k ts μ1)) I ⟨φ,α,τ,μ,sr,mr,p.bind.mono λts μ' α' H' st m q vs d hn=>⟨ts,μ',α',st,sr.step st,m,d,hn,q⟩⟩) ?_
 rintro us s1 ⟨vs,H1,I1,r,ts,μ1,α1,h⟩
 exact⟨vs,H1,ts,μ1,α1,I1,r,h⟩
abbrev RV(D:DP)(φ:List Addr)(Q:VK):T->Mem->List Addr->Hp->Prop:=λt _ α' H'=>∀v,Den D φ α' H' t v->Q v H'
theorem Post.here{Q:VK}{t:T}{v:V}(p:Post D W φ α H σ (RV D φ Q) (.ok t μ))(mr:MRel D φ α H μ)(d:Den D φ α H t v):Q v H:=p.ok (Stp.refl _ _) mr v d
theorem Post.fresh{Q:VK}{t:T}{v:V}{H':Hp}(p:Post D W φ α H σ (RV D φ Q) (.ok t μ))(mr:MRel D φ α H μ)(sm:yl H H')(d:Den D φ α H' t v):Q v H':=p.ok (Stp.new sm) (mr.new sm) v d
theorem zt{n:Nat}(h:n<=room):n<=sizeLine:=z7V h (by unfold room;decide)
theorem zo{α:List Addr}(mr:MRel D φ α H μ){p:Addr}(h:H p=none):p∉φ:=λz=>by
 obtain⟨o,e⟩:=mr.phi p z
 rw[h] at e;cases e
theorem zm{α:List Addr}(mr:MRel D φ α H μ){p:Addr}(h:H p=none):p∉α:=λz=>by
 obtain⟨i,hi⟩:=z9D.mp z
 have hl:i<μ.length:=by rw[←mr.len];exact (z7v.mp hi).1
 obtain⟨u,e⟩:=(mr.ob i p μ[i] hi (by simp[hl])).some
 rw[h] at e;cases e
theorem qN:∀{ts:List T} {ns:List Int} {vs:List V},intsOf ts=some ns->DenL D φ α H ts vs->vs=ns.map V.int
 |[],ns,vs,h,l=>by
  simp[intsOf] at h;subst h
  exact l
 |t::ts,ns,vs,h,l=>by
  obtain⟨v,r,rfl,d,l⟩:=l
  cases t with
  |int i=>
   simp only[intsOf] at h
   cases q:intsOf ts with
   |none=>rw[q] at h;cases h
   |some ms=>
    rw[q] at h;cases h
    rw[qN q l]
    have d:v=.int i:=d
    rw[d];rfl
  |_=>simp[intsOf] at h
theorem JU:OpR X (z97 .Add) (λx y H Q=>∃l b xs zs,x=.ref l/\y=.ref b/\Rd H l (.lst xs)/\Rd H b (.lst zs)/\xs.length+zs.length<=sizeLine/\∀p,H p=none->Q (.ref p) (upd H p (.lst (xs++zs)))):=by
 intro pins s σ H x y v u Q I rx ry h
 obtain⟨l,b,xs,zs,rfl,rfl,hH,hB,hz,q⟩:=h
 cases rx
 cases ry
 obtain⟨z,its,n,r,e⟩:=hH.ok I.hok
 obtain⟨z2,its2,n2,r2,e2⟩:=hB.ok I.hok
 refine PySem.P.add_list e e2 ?_ (by rw[z7M,z7M,←r.length,←r2.length];exact hz)
 rw[show its.toArray++its2.toArray=(its++its2).toArray by simp]
 exact⟨.ref _,_,I.lnew (t':=s.toks) (r.append r2) (by rw[z8b];exact hz),rfl,q _ I.fresh⟩
theorem UT:OpR X (z97 .Add) (λx y H Q=>∃a b ys,x=.ref a/\y=.ref b/\SqT X.K H a []/\SqT X.K H b ys/\Q (.ref b) H):=by
 intro pins s σ H x y v u Q I rx ry h
 obtain⟨a,b,ys,rfl,rfl,ha,hb,q⟩:=h
 cases rx
 cases ry
 obtain⟨its,r1,p1,_⟩:=I.tuple ha
 obtain⟨its2,r2,p2,_⟩:=I.tuple hb
 cases r1
 obtain⟨⟨cls,dd,data,sl⟩,ho,hc,n,hd⟩:=id p1
 obtain⟨⟨cls2,dd2,data2,sl2⟩,ho2,hc2,n2,hd2⟩:=id p2
 simp only at hc hd hc2 hd2
 subst hc hd hc2 hd2
 exact zcN ⟨_,ho,rfl⟩ ⟨_,ho2,rfl⟩ zbo zck zal zad (z9Z _ _)
  (tuple_addW0 a b #[] its2.toArray n n2 dd dd2 sl sl2 rfl) ⟨ho,ho2,⟨.ref b,H,I,rfl,q⟩⟩
theorem Ub:OpR X (z97 .FloorDiv) (rI (λ_ j=>0<j/\j<1606938044258990275541962092341162602522202993782792835301376) λi j=>.int (i / j)):=opI λi j _ _ _ _ _ hc q=>by
 have h1:(0:Int)<j:=hc.1
 have h2:j<1606938044258990275541962092341162602522202993782792835301376:=hc.2
 refine floordiv_int (by omega) (by rw[zaO i (by omega)];exact q) (.inl (PyProof.noPylong_of_log2 ?_))
 refine z7I ((Nat.log2_lt (by omega)).2 (show j.natAbs<2 ^ 200 by omega)) (by decide)
theorem vD{f:Int->Int->Mem->RE T}{x y:T}{Q:VK}(p:Post D W φ α H σ (RV D φ Q) (QN f x y μ)):∃i j,x=.int i/\y=.int j/\Post D W φ α H σ (RV D φ Q) (f i j μ):=by
 unfold QN at p
 split at p
 ·exact⟨_,_,rfl,rfl,p⟩
 ·exact p.elim
theorem z53{op:zdE}{x y:T}{v1 v2:V}{u1 u2:Value}{Q:VK}(I:Inv X pins σ H s)(mr:MRel D φ α H μ)(d1:Den D φ α H x v1)(d2:Den D φ α H y v2)(r1:RelV v1 u1)(r2:RelV v2 u2)
  (p:Post D W φ α H σ (RV D φ Q) (z5S op x y μ)):z7K (z7N X.prog X.w) X.A (z97 op u1 u2) (EP X pins σ Q) X.xe s:=by
 have cat:∀{a b:Addr} {vs ws:List V} {xs ys:List T},Rd H a (.lst vs)->Rd H b (.lst ws)->DenL D φ α H xs vs->DenL D φ α H ys ws->v1=.ref a->v2=.ref b->xs.length+ys.length<=room->Post D W φ α H σ (RV D φ Q) (RE.ok (.lst (xs++ys)) μ)->z7K (z7N X.prog X.w) X.A (z97 .Add u1 u2) (EP X pins σ Q) X.xe s:=λ{a b vs ws xs ys} q1 q2 l1 l2 e1 e2 h p=>by
  subst e1 e2
  refine JU pins s σ H _ _ _ _ Q I r1 r2 ⟨a,b,vs,ws,rfl,rfl,q1,q2,by rw[←l1.length,←l2.length];exact zt h,λz hz=>?_⟩
  have sm:=za (o:=.lst (vs++ws)) hz
  exact p.fresh mr sm ⟨z,_,rfl,zo mr hz,zm mr hz,.inl z7,(l1.step (Stp.new sm)).append (l2.step (Stp.new sm))⟩
 cases op with
 |Add=>
  replace p:Post D W φ α H σ (RV D φ Q) (z4h x y μ):=p
  unfold z4h at p
  split at p
  ·cases d1;cases d2
   exact z5t pins s σ H _ _ _ _ Q I r1 r2 ⟨_,_,rfl,rfl,p.here mr rfl⟩
  ·cases d1;cases d2
   obtain⟨h,p⟩:=p.grd
   exact VH pins s σ H _ _ _ _ Q I r1 r2 ⟨_,_,rfl,rfl,zt h,p.here mr rfl⟩
  ·obtain⟨h,p⟩:=p.grd
   obtain⟨a,vs,rfl,n1,n2,q1,l1⟩:=d1
   obtain⟨b,ws,rfl,m1,m2,q2,l2⟩:=d2
   refine JU pins s σ H _ _ _ _ Q I r1 r2 ⟨a,b,vs,ws,rfl,rfl,q1,q2,by rw[←l1.length,←l2.length];exact zt h,λz hz=>?_⟩
   have sm:=za (o:=.lst (vs++ws)) hz
   exact p.fresh mr sm ⟨z,_,rfl,zo mr hz,zm mr hz,.inl z7,(l1.step (Stp.new sm)).append (l2.step (Stp.new sm))⟩
  ·rename_i xs ys
   obtain⟨h,p⟩:=p.grd
   ·obtain⟨a,vs,rfl,n1,n2,q1,l1⟩:=d1
    obtain⟨b,ws,rfl,m1,m2,q2,l2⟩:=d2
    cases vs with
    |nil=>
     cases xs with
     |cons x xs=>obtain⟨_,_,e,_⟩:=l1;cases e
     |nil=>exact UT pins s σ H _ _ _ _ Q I r1 r2 ⟨a,b,ws,rfl,rfl,.inl q1,.inl q2,p.here mr ⟨b,ws,rfl,m1,m2,q2,l2⟩⟩
    |cons v vs=>
     refine z0u pins s σ H _ _ _ _ Q I r1 r2 ⟨a,b,v::vs,ws,rfl,rfl,.inl q1,.inl q2,by simp,by rw[←l1.length,←l2.length];exact zt h,λhw=>?_,λhw z hz=>?_⟩
     ·subst hw
      cases ys with
      |cons y ys=>obtain⟨_,_,e,_⟩:=l2;cases e
      |nil=>
       rw[z8o] at p
       exact p.here mr ⟨a,v::vs,rfl,n1,n2,q1,l1⟩
     ·have sm:=za (o:=.tup (v::vs++ws)) hz
      exact p.fresh mr sm ⟨z,_,rfl,zo mr hz,zm mr hz,.inl z7,(l1.step (Stp.new sm)).append (l2.step (Stp.new sm))⟩
  ·obtain⟨xs,hi,p⟩:=p.ex1
   obtain⟨h,p⟩:=Post.grd p
   obtain⟨a,hi',rfl⟩:=d1
   obtain⟨vs,q1,l1⟩:=mr.ob _ a _ hi' hi
   obtain⟨b,ws,rfl,m1,m2,q2,l2⟩:=d2
   exact cat (.inl q1) q2 l1 l2 rfl rfl h p
  ·obtain⟨ys,hi,p⟩:=p.ex1
   obtain⟨h,p⟩:=Post.grd p
   obtain⟨a,hi',rfl⟩:=d2
   obtain⟨vs,q1,l1⟩:=mr.ob _ a _ hi' hi
   obtain⟨b,ws,rfl,m1,m2,q2,l2⟩:=d1
   exact cat q2 (.inl q1) l2 l1 rfl rfl h p
  ·obtain⟨pr,hi,p⟩:=p.ex1
   obtain⟨h,p⟩:=Post.grd p
   obtain⟨a,hi',rfl⟩:=d1
   obtain⟨vs,q1,l1⟩:=mr.ob _ a _ hi' hi.1
   obtain⟨b,hj',rfl⟩:=d2
   obtain⟨ws,q2,l2⟩:=mr.ob _ b _ hj' hi.2
   exact cat (.inl q1) (.inl q2) l1 l2 rfl rfl h p
  ·exact p.elim
 |Sub=>
  obtain⟨i,j,rfl,rfl,p⟩:=vD p
  cases d1;cases d2
  exact z2J pins s σ H _ _ _ _ Q I r1 r2 ⟨_,_,rfl,rfl,p.here mr rfl⟩
 |Mult=>
  obtain⟨i,j,rfl,rfl,p⟩:=vD p
  cases d1;cases d2
  obtain⟨h,p⟩:=p.grd
  exact z3X pins s σ H _ _ _ _ Q I r1 r2 ⟨_,_,rfl,rfl,by simpa[CMul,big] using h,p.here mr rfl⟩
 |FloorDiv=>
  obtain⟨i,j,rfl,rfl,p⟩:=vD p
  cases d1;cases d2
  obtain⟨h,p⟩:=p.grd
  exact Ub pins s σ H _ _ _ _ Q I r1 r2 ⟨_,_,rfl,rfl,h,p.here mr rfl⟩
 |Mod=>
  obtain⟨i,j,rfl,rfl,p⟩:=vD p
  cases d1;cases d2
  obtain⟨h,p⟩:=p.grd
  exact z2N pins s σ H _ _ _ _ Q I r1 r2 ⟨_,_,rfl,rfl,h,p.here mr rfl⟩
 |Pow=>
  obtain⟨i,j,rfl,rfl,p⟩:=vD p
  cases d1;cases d2
  obtain⟨h,p⟩:=p.grd
  exact z3p pins s σ H _ _ _ _ Q I r1 r2 ⟨_,_,rfl,rfl,⟨h.1,h.2.1,by simpa using h.2.2⟩,p.here mr rfl⟩
 |RShift=>
  obtain⟨i,j,rfl,rfl,p⟩:=vD p
  cases d1;cases d2
  obtain⟨h,p⟩:=p.grd
  exact z3i pins s σ H _ _ _ _ Q I r1 r2 ⟨_,_,rfl,rfl,h,p.here mr rfl⟩
 |BitAnd=>
  obtain⟨i,j,rfl,rfl,p⟩:=vD p
  cases d1;cases d2
  exact z4e pins s σ H _ _ _ _ Q I r1 r2 ⟨_,_,rfl,rfl,p.here mr rfl⟩
 |_=>exact (show Post D W φ α H σ (RV D φ Q) .st from p).elim
end
end NH
end
section
namespace NH
open PySem PySem.Spec PyProof.Rows L2
section
variable {D:DP}{φ α:List Addr}{H:Hp}
theorem Rd.inj{a:Addr}{u w:HO}(hu:∀o z,u≠.frz o z)(hw:∀o z,w≠.frz o z)(r:Rd H a u)(q:Rd H a w):u=w:=by
 rcases r with r|⟨o,r⟩<;>rcases q with q|⟨o',q⟩<;>rw[r] at q
 ·exact z7A q
 ·exact absurd (z7A q) (hu _ _)
 ·exact absurd (z7A q).symm (hw _ _)
 ·injection z7A q
mutual
theorem uM:∀{t u:T} {v:V} {k:Bool},Den D φ α H t v->Den D φ α H u v->eqT t u=some k->k=true
 |.int i,u,_,k,h1,h2,e=>by
  have h1:_=V.int i:=h1
  subst h1
  cases u with
  |int j=>have h2:V.int i=V.int j:=h2;injection h2 with h2;subst h2;rw[←z7A e];simp
  |bl b=>have h2:V.int i=V.bl b:=h2;cases h2
  |str b=>have h2:V.int i=V.str b:=h2;cases h2
  |non=>have h2:V.int i=V.non:=h2;cases h2
  |tup b=>obtain⟨_,_,h2,_⟩:=h2;cases h2
  |lst b=>obtain⟨_,_,h2,_⟩:=h2;cases h2
  |_=>cases e
 |.bl i,u,_,k,h1,h2,e=>by
  have h1:_=V.bl i:=h1
  subst h1
  cases u with
  |bl j=>have h2:V.bl i=V.bl j:=h2;injection h2 with h2;subst h2;rw[←z7A e];simp
  |int b=>have h2:V.bl i=V.int b:=h2;cases h2
  |str b=>have h2:V.bl i=V.str b:=h2;cases h2
  |non=>have h2:V.bl i=V.non:=h2;cases h2
  |tup b=>obtain⟨_,_,h2,_⟩:=h2;cases h2
  |lst b=>obtain⟨_,_,h2,_⟩:=h2;cases h2
  |_=>cases e
 |.str i,u,_,k,h1,h2,e=>by
  have h1:_=V.str i:=h1
  subst h1
  cases u with
  |str j=>have h2:V.str i=V.str j:=h2;injection h2 with h2;subst h2;rw[←z7A e];simp
  |int b=>have h2:V.str i=V.int b:=h2;cases h2
  |bl b=>have h2:V.str i=V.bl b:=h2;cases h2
  |non=>have h2:V.str i=V.non:=h2;cases h2
  |tup b=>obtain⟨_,_,h2,_⟩:=h2;cases h2
  |lst b=>obtain⟨_,_,h2,_⟩:=h2;cases h2
  |_=>cases e
 |.non,u,_,k,h1,h2,e=>by
  have h1:_=V.non:=h1
  subst h1
  cases u with
  |non=>exact (z7A e).symm
  |int b=>have h2:V.non=V.int b:=h2;cases h2
  |bl b=>have h2:V.non=V.bl b:=h2;cases h2
  |str b=>have h2:V.non=V.str b:=h2;cases h2
  |tup b=>obtain⟨_,_,h2,_⟩:=h2;cases h2
  |lst b=>obtain⟨_,_,h2,_⟩:=h2;cases h2
  |_=>cases e
 |.tup ts,u,_,k,h1,h2,e=>by
  obtain⟨a,xs,rfl,_,_,r,l⟩:=h1
  cases u with
  |tup us=>
   obtain⟨b,ys,e2,_,_,r',l'⟩:=h2
   cases e2
   have:=Rd.inj (by intro _ _ z;cases z) (by intro _ _ z;cases z) r r'
   injection this with this
   subst this
   exact xD l l' e
  |lst us=>
   obtain⟨b,ys,e2,_,_,r',l'⟩:=h2
   cases e2
   have:=Rd.inj (by intro _ _ z;cases z) (by intro _ _ z;cases z) r r'
   cases this
  |int b=>have h2:V.ref a=V.int b:=h2;cases h2
  |bl b=>have h2:V.ref a=V.bl b:=h2;cases h2
  |str b=>have h2:V.ref a=V.str b:=h2;cases h2
  |non=>have h2:V.ref a=V.non:=h2;cases h2
  |_=>cases e
 |.lst ts,u,_,k,h1,h2,e=>by
  obtain⟨a,xs,rfl,_,_,r,l⟩:=h1
  cases u with
  |lst us=>
   obtain⟨b,ys,e2,_,_,r',l'⟩:=h2
   cases e2
   have:=Rd.inj (by intro _ _ z;cases z) (by intro _ _ z;cases z) r r'
   injection this with this
   subst this
   exact xD l l' e
  |tup us=>
   obtain⟨b,ys,e2,_,_,r',l'⟩:=h2
   cases e2
   have:=Rd.inj (by intro _ _ z;cases z) (by intro _ _ z;cases z) r r'
   cases this
  |int b=>have h2:V.ref a=V.int b:=h2;cases h2
  |bl b=>have h2:V.ref a=V.bl b:=h2;cases h2
  |str b=>have h2:V.ref a=V.str b:=h2;cases h2
  |non=>have h2:V.ref a=V.non:=h2;cases h2
  |_=>cases e
 |.obj _ _,_,_,_,_,_,e=>by cases e
 |.mut _,_,_,_,_,_,e=>by cases e
 |.exc _ _,_,_,_,_,_,e=>by cases e
 |.dic _,_,_,_,_,_,e=>by cases e
 |.clo _ _,_,_,_,_,_,e=>by cases e
theorem xD:∀{ts us:List T} {vs:List V} {k:Bool},DenL D φ α H ts vs->DenL D φ α H us vs->eqL ts us=some k->k=true
 |[],[],_,k,_,_,e=>by simpa[eqL] using e.symm
 |[],_::_,_,k,h1,h2,e=>by
  have h1:_=[]:=h1
  obtain⟨_,_,h2,_⟩:=h2
  rw[h1] at h2;cases h2
 |_::_,[],_,k,h1,h2,e=>by
  have h2:_=[]:=h2
  obtain⟨_,_,h1,_⟩:=h1
  rw[h2] at h1;cases h1
 |t::ts,u::us,_,k,h1,h2,e=>by
  obtain⟨v,r,rfl,a1,b1⟩:=h1
  obtain⟨v',r',q,a2,b2⟩:=h2
  injection q with q1 q2
  subst q1 q2
  cases h:eqT t u with
  |none=>simp[eqL,h] at e
  |some x=>
   cases h':eqL ts us with
   |none=>simp[eqL,h,h'] at e
   |some y=>
    have e1:=uM a1 a2 h
    have e2:=xD b1 b2 h'
    subst e1 e2
    simpa[eqL,h,h'] using e.symm
end
end
section
variable {X:Cx}{D:DP}{pins:List (Addr×Obj)}{s:Shared}{σ:St}{H:Hp}{φ α:List Addr}
theorem uK:∀{ts us:List T} {k:Bool},eqL ts us=some k->(∀j (h1:j<ts.length) (h2:j<us.length),∃b,eqT ts[j] us[j]=some b)/\
  k=((z8y (min ts.length us.length)).all (λj=>match ts[j]?,us[j]? with|some t,some u=>(eqT t u).getD false|_,_=>false)&&ts.length == us.length)
 |[],[],k,e=>by
  simp[eqL] at e;subst e
  exact⟨λj h1=>by simp at h1,by simp⟩
 |[],u::us,k,e=>by
  simp[eqL] at e;subst e
  exact⟨λj h1=>by simp at h1,by simp⟩
 |t::ts,[],k,e=>by
  simp[eqL] at e;subst e
  exact⟨λj h1 h2=>by simp at h2,by simp⟩
 |t::ts,u::us,k,e=>by
  cases h:eqT t u with
  |none=>simp[eqL,h] at e
  |some x=>
   cases h':eqL ts us with
   |none=>simp[eqL,h,h'] at e
   |some y=>
    obtain⟨g,ih⟩:=uK h'
    simp[eqL,h,h'] at e
    subst e
    refine⟨λj h1 h2=>?_,?_⟩
    ·cases j with
     |zero=>exact⟨x,h⟩
     |succ j=>exact g j (by simpa using h1) (by simpa using h2)
    ·rw[ih]
     have e1:min (t::ts).length (u::us).length=min ts.length us.length+1:=by simp[Nat.succ_min_succ]
     rw[e1,List.range_succ_eq_map,z8B,zaJ]
     simp only[zbr,h,zbs,zb5,zag,z7X]
     rw[Bool.and_assoc]
     congr 2
     simp
theorem in1_units(A:z89):A.in1.units=A.units+1:=by first|rfl|simp[Around.in1,Around.units]
theorem eqAt_int(I:Inv X pins σ H s){i:Int}{u:T}{v w:V}{a b:Value}{k:Bool}{A:z89}(h1:Den D φ α H (.int i) v)(h2:Den D φ α H u w)(r1:RelV v a)(r2:RelV w b)(e:eqT (.int i) u=some k)(hu:A.units+vU (.int i)+1<cLine):z93 A s a b k:=by
 have h1:_=V.int i:=h1
 subst h1
 obtain⟨t1,rfl⟩:=r1
 cases u with
 |int j=>have h2:w=V.int j:=h2;subst h2;obtain⟨t2,rfl⟩:=r2;cases z7A e;exact zcr _ _ _ _
 |bl j=>have h2:w=V.bl j:=h2;subst h2;cases r2;cases z7A e;exact SeqAt.EqAt.int_bool _ _ _
 |str j=>have h2:w=V.str j:=h2;subst h2;obtain⟨t2,rfl⟩:=r2;cases z7A e;exact zco _ _ _ _
 |non=>have h2:w=V.non:=h2;subst h2;cases r2;cases z7A e;exact SeqAt.EqAt.int_none _ _
 |tup ys=>obtain⟨c,xs,rfl,_,_,r,_⟩:=h2;cases r2;obtain⟨its,_,p,_⟩:=I.tuple (.inl r);cases z7A e;exact SeqAt.EqAt.int_tuple _ _ p (by omega)
 |lst ys=>obtain⟨c,xs,rfl,_,_,r,_⟩:=h2;cases r2;obtain⟨its,_,p,_⟩:=I.list (.inl r);cases z7A e;exact SeqAt.EqAt.int_list _ _ p.isList (by omega)
 |_=>cases e
theorem z1k(I:Inv X pins σ H s){i:Bool}{u:T}{v w:V}{a b:Value}{k:Bool}{A:z89}(h1:Den D φ α H (.bl i) v)(h2:Den D φ α H u w)(r1:RelV v a)(r2:RelV w b)(e:eqT (.bl i) u=some k)(hu:A.units+vU (.bl i)+1<cLine):z93 A s a b k:=by
 have h1:_=V.bl i:=h1
 subst h1
 cases r1
 cases u with
 |int j=>have h2:w=V.int j:=h2;subst h2;obtain⟨t2,rfl⟩:=r2;cases z7A e;exact SeqAt.EqAt.bool_int _ _ _
 |bl j=>have h2:w=V.bl j:=h2;subst h2;cases r2;cases z7A e;exact SeqAt.EqAt.bool_bool _ _
 |str j=>have h2:w=V.str j:=h2;subst h2;obtain⟨t2,rfl⟩:=r2;cases z7A e;exact SeqAt.EqAt.bool_str _ _ _
 |non=>have h2:w=V.non:=h2;subst h2;cases r2;cases z7A e;exact SeqAt.EqAt.bool_none _
 |tup ys=>obtain⟨c,xs,rfl,_,_,r,_⟩:=h2;cases r2;obtain⟨its,_,p,_⟩:=I.tuple (.inl r);cases z7A e;exact SeqAt.EqAt.bool_tuple _ p (by omega)
 |lst ys=>obtain⟨c,xs,rfl,_,_,r,_⟩:=h2;cases r2;obtain⟨its,_,p,_⟩:=I.list (.inl r);cases z7A e;exact SeqAt.EqAt.bool_list _ p.isList (by omega)
 |_=>cases e
theorem YN(I:Inv X pins σ H s){i:Str}{u:T}{v w:V}{a b:Value}{k:Bool}{A:z89}(h1:Den D φ α H (.str i) v)(h2:Den D φ α H u w)(r1:RelV v a)(r2:RelV w b)(e:eqT (.str i) u=some k)(hu:A.units+vU (.str i)+1<cLine):z93 A s a b k:=by
 have h1:_=V.str i:=h1
 subst h1
 obtain⟨t1,rfl⟩:=r1
 cases u with
 |int j=>have h2:w=V.int j:=h2;subst h2;obtain⟨t2,rfl⟩:=r2;cases z7A e;exact zcp _ _ _ _
 |bl j=>have h2:w=V.bl j:=h2;subst h2;cases r2;cases z7A e;exact SeqAt.EqAt.str_bool _ _ _
 |str j=>have h2:w=V.str j:=h2;subst h2;obtain⟨t2,rfl⟩:=r2;cases z7A e;exact SeqAt.EqAt.str_str _ _ _ _
 |non=>have h2:w=V.non:=h2;subst h2;cases r2;cases z7A e;exact SeqAt.EqAt.str_none _ _
 |tup ys=>obtain⟨c,xs,rfl,_,_,r,_⟩:=h2;cases r2;obtain⟨its,_,p,_⟩:=I.tuple (.inl r);cases z7A e;exact SeqAt.EqAt.str_tuple _ _ p (by omega)
 |lst ys=>obtain⟨c,xs,rfl,_,_,r,_⟩:=h2;cases r2;obtain⟨its,_,p,_⟩:=I.list (.inl r);cases z7A e;exact SeqAt.EqAt.str_list _ _ p.isList (by omega)
 |_=>cases e
theorem YW(I:Inv X pins σ H s){u:T}{v w:V}{a b:Value}{k:Bool}{A:z89}(h1:Den D φ α H .non v)(h2:Den D φ α H u w)(r1:RelV v a)(r2:RelV w b)(e:eqT .non u=some k)(hu:A.units+vU .non+1<cLine):z93 A s a b k:=by
 have h1:_=V.non:=h1
 subst h1
 cases r1
 cases u with
 |int j=>have h2:w=V.int j:=h2;subst h2;obtain⟨t2,rfl⟩:=r2;cases z7A e;exact SeqAt.EqAt.none_int _ _
 |bl j=>have h2:w=V.bl j:=h2;subst h2;cases r2;cases z7A e;exact SeqAt.EqAt.none_bool _
 |str j=>have h2:w=V.str j:=h2;subst h2;obtain⟨t2,rfl⟩:=r2;cases z7A e;exact SeqAt.EqAt.none_str _ _
 |non=>have h2:w=V.non:=h2;subst h2;cases r2;cases z7A e;exact zbS _
 |tup ys=>obtain⟨c,xs,rfl,_,_,r,_⟩:=h2;cases r2;obtain⟨its,_,p,_⟩:=I.tuple (.inl r);cases z7A e;exact SeqAt.EqAt.none_tuple p (by omega)
 |lst ys=>obtain⟨c,xs,rfl,_,_,r,_⟩:=h2;cases r2;obtain⟨its,_,p,_⟩:=I.list (.inl r);cases z7A e;exact SeqAt.EqAt.none_list p.isList (by omega)
 |_=>cases e
theorem Vu(I:Inv X pins σ H s){ts:List T}{u:T}{v0 w:V}{a b:Value}{k:Bool}{A:z89}(hn:∀us,u≠.tup us)(h1:Den D φ α H (.tup ts) v0)(h2:Den D φ α H u w)(r1:RelV v0 a)(r2:RelV w b)(e:eqT (.tup ts) u=some k)(hu:A.units+vU (.tup ts)+1<cLine):z93 A s a b k:=by
 cases u with
 |tup us=>exact absurd rfl (hn us)
 |lst us=>
  obtain⟨c,xs,rfl,_,_,r,l⟩:=h1
  obtain⟨d,ys,rfl,_,_,r',l'⟩:=h2
  cases r1;cases r2
  obtain⟨_,_,p,_⟩:=I.tuple (.inl r)
  obtain⟨_,_,p',_⟩:=I.list (.inl r')
  cases z7A e
  exact SeqAt.EqAt.tuple_list p p'.isList (by omega)
 |int j=>have h2:w=V.int j:=h2;subst h2;obtain⟨t2,rfl⟩:=r2;obtain⟨c,xs,rfl,_,_,r,_⟩:=h1;cases r1;obtain⟨its,_,p,_⟩:=I.tuple (.inl r);cases z7A e;exact SeqAt.EqAt.tuple_int _ _ p (by omega)
 |bl j=>have h2:w=V.bl j:=h2;subst h2;cases r2;obtain⟨c,xs,rfl,_,_,r,_⟩:=h1;cases r1;obtain⟨its,_,p,_⟩:=I.tuple (.inl r);cases z7A e;exact SeqAt.EqAt.tuple_bool _ p (by omega)
 |str j=>have h2:w=V.str j:=h2;subst h2;obtain⟨t2,rfl⟩:=r2;obtain⟨c,xs,rfl,_,_,r,_⟩:=h1;cases r1;obtain⟨its,_,p,_⟩:=I.tuple (.inl r);cases z7A e;exact SeqAt.EqAt.tuple_str _ _ p (by omega)
 |non=>have h2:w=V.non:=h2;subst h2;cases r2;obtain⟨c,xs,rfl,_,_,r,_⟩:=h1;cases r1;obtain⟨its,_,p,_⟩:=I.tuple (.inl r);cases z7A e;exact SeqAt.EqAt.tuple_none p (by omega)
 |_=>cases e
theorem Vs(I:Inv X pins σ H s){ts:List T}{u:T}{v0 w:V}{a b:Value}{k:Bool}{A:z89}(hn:∀us,u≠.lst us)(h1:Den D φ α H (.lst ts) v0)(h2:Den D φ α H u w)(r1:RelV v0 a)(r2:RelV w b)(e:eqT (.lst ts) u=some k)(hu:A.units+vU (.lst ts)+1<cLine):z93 A s a b k:=by
 cases u with
 |lst us=>exact absurd rfl (hn us)
 |tup us=>
  obtain⟨c,xs,rfl,_,_,r,l⟩:=h1
  obtain⟨d,ys,rfl,_,_,r',l'⟩:=h2
  cases r1;cases r2
  obtain⟨_,_,p,_⟩:=I.list (.inl r)
  obtain⟨_,_,p',_⟩:=I.tuple (.inl r')
  cases z7A e
  exact SeqAt.EqAt.list_tuple p.isList p' (by omega)
 |int j=>have h2:w=V.int j:=h2;subst h2;obtain⟨t2,rfl⟩:=r2;obtain⟨c,xs,rfl,_,_,r,_⟩:=h1;cases r1;obtain⟨its,_,p,_⟩:=I.list (.inl r);cases z7A e;exact SeqAt.EqAt.list_int _ _ p.isList (by omega)
 |bl j=>have h2:w=V.bl j:=h2;subst h2;cases r2;obtain⟨c,xs,rfl,_,_,r,_⟩:=h1;cases r1;obtain⟨its,_,p,_⟩:=I.list (.inl r);cases z7A e;exact SeqAt.EqAt.list_bool _ p.isList (by omega)
 |str j=>have h2:w=V.str j:=h2;subst h2;obtain⟨t2,rfl⟩:=r2;obtain⟨c,xs,rfl,_,_,r,_⟩:=h1;cases r1;obtain⟨its,_,p,_⟩:=I.list (.inl r);cases z7A e;exact SeqAt.EqAt.list_str _ _ p.isList (by omega)
 |non=>have h2:w=V.non:=h2;subst h2;cases r2;obtain⟨c,xs,rfl,_,_,r,_⟩:=h1;cases r1;obtain⟨its,_,p,_⟩:=I.list (.inl r);cases z7A e;exact SeqAt.EqAt.list_none p.isList (by omega)
 |_=>cases e
noncomputable def EqN (D:DP)(φ α:List Addr)(H:Hp)(s:z7y)(n:Nat):Prop:=∀(t u:T) (v w:V) (a b:Value) (k:Bool) (A:z89),vU t<n->Den D φ α H t v->Den D φ α H u w->RelV v a->RelV w b->eqT t u=some k->A.units+vU t+1<cLine->z93 A s a b k
theorem wB{n:Nat}(ih:EqN D φ α H s n):∀{ts us:List T} {xs ys:List V} {its its2:List Value} {A:z89},qH ts<n->DenL D φ α H ts xs->DenL D φ α H us ys->Vals xs its->Vals ys its2->A.units+qH ts+1<cLine->
  ∀(j:Nat) (h1:j<its.length) (h2:j<its2.length),(∀(g1:j<ts.length) (g2:j<us.length),∃b,eqT ts[j] us[j]=some b)->z93 A s its[j] its2[j] (match ts[j]?,us[j]? with|some t,some u=>(eqT t u).getD false|_,_=>false)
 |[],_,xs,_,its,_,A,_,l,_,rv,_,_,j,h1,_,_=>by
  have l:xs=[]:=l
  subst l
  cases rv
  simp at h1
 |t::ts,us,xs,ys,its,its2,A,hd,l,l',rv,rv',hu,j,h1,h2,g=>by
  obtain⟨v,r,rfl,d1,l⟩:=l
  cases rv with
  | @cons _ u0 _ us0 r0 rv=>
  cases us with
  |nil=>
   have l':ys=[]:=l'
   subst l'
   cases rv'
   simp at h2
  |cons u us=>
   obtain⟨w,r',rfl,d2,l'⟩:=l'
   cases rv' with
   | @cons _ u0' _ us0' r0' rv'=>
   simp only[qH] at hu hd
   cases j with
   |zero=>
    obtain⟨b,hb⟩:=g (by simp) (by simp)
    have hb':eqT t u=some b:=by simpa using hb
    simp only[zbr,hb',zbs,List.getElem_cons_zero]
    exact ih _ _ _ _ _ _ _ _ (by omega) d1 d2 r0 r0' hb' (by omega)
   |succ j=>
    simp only[zag,List.getElem_cons_succ]
    exact wB ih (by omega) l l' rv rv' (by omega) j (by simpa using h1) (by simpa using h2) λg1 g2=>by
     obtain⟨b,hb⟩:=g (by simpa using g1) (by simpa using g2)
     exact⟨b,by simpa using hb⟩
theorem ZP(I:Inv X pins σ H s){n:Nat}(ih:EqN D φ α H s n){ts us:List T}{xs ys:List V}{c d:Addr}{k:Bool}{A:z89}(hd:qH ts<n)(l:DenL D φ α H ts xs)(l':DenL D φ α H us ys)(r:Rd H c (.tup xs))(r':Rd H d (.tup ys))(e:eqL ts us=some k)(hu:A.units+qH ts+2<cLine):zcx A s (.ref c) (.ref d) k:=by
 obtain⟨its,rv,p,_⟩:=I.tuple (.inl r)
 obtain⟨its2,rv',p',_⟩:=I.tuple (.inl r')
 obtain⟨g,rfl⟩:=uK e
 have h1:ts.length=its.length:=l.length.trans rv.length
 have h2:us.length=its2.length:=l'.length.trans rv'.length
 have:=SeqAt.RcAt.tuples (A:=A) (e:=λj=>match ts[j]?,us[j]? with|some t,some u=>(eqT t u).getD false|_,_=>false) p p' (by omega) λj q1 q2=>by
  have:=wB (A:=A.in1) ih hd l l' rv rv' (by rw[in1_units];omega) j (by simpa using q1) (by simpa using q2) λg1 g2=>g j g1 g2
  simpa using this
 simpa[h1,h2] using this
theorem ZE(I:Inv X pins σ H s){n:Nat}(ih:EqN D φ α H s n){ts us:List T}{xs ys:List V}{c d:Addr}{k:Bool}{A:z89}(hd:qH ts<n)(l:DenL D φ α H ts xs)(l':DenL D φ α H us ys)(r:Rd H c (.lst xs))(r':Rd H d (.lst ys))(e:eqL ts us=some k)(hu:A.units+qH ts+2<cLine):zcx A s (.ref c) (.ref d) k:=by
 obtain⟨its,rv,p,_⟩:=I.list (.inl r)
 obtain⟨its2,rv',p',_⟩:=I.list (.inl r')
 obtain⟨g,rfl⟩:=uK e
 have h1:ts.length=its.length:=l.length.trans rv.length
 have h2:us.length=its2.length:=l'.length.trans rv'.length
 by_cases hl:ts.length=us.length
 ·have:=SeqAt.RcAt.lists (A:=A) (e:=λj=>match ts[j]?,us[j]? with|some t,some u=>(eqT t u).getD false|_,_=>false) p.isList p'.isList (by simp;omega) (by omega) λj q1 q2=>by
   have:=wB (A:=A.in1) ih hd l l' rv rv' (by rw[in1_units];omega) j (by simpa using q1) (by simpa using q2) λg1 g2=>g j g1 g2
   simpa using this
  have e2:min ts.length us.length=its.length:=by omega
  have e3:(ts.length == us.length)=true:=by simpa using hl
  rw[e2,e3,zek]
  simpa using this
 ·have e3:(ts.length == us.length)=false:=by simpa using hl
  rw[e3,zc3]
  exact SeqAt.RcAt.lists_lengths p.isList p'.isList (by simp;omega) (by omega)
theorem ui(I:Inv X pins σ H s):∀n,EqN D φ α H s n
 |0=>λ_ _ _ _ _ _ _ _ hn=>absurd hn (by omega)
 |n+1=>λt u v w a b k A hn h1 h2 r1 r2 e hu=>by
  have ih:=ui I n
  cases t with
  |int i=>exact eqAt_int I h1 h2 r1 r2 e hu
  |bl i=>exact z1k I h1 h2 r1 r2 e hu
  |str i=>exact YN I h1 h2 r1 r2 e hu
  |non=>exact YW I h1 h2 r1 r2 e hu
  |tup ts=>
   cases u with
   |tup us=>
    have hs:=λ(q:w=v)=>uM h1 (q▸h2) e
    obtain⟨c,xs,rfl,_,_,r,l⟩:=h1
    obtain⟨d,ys,rfl,_,_,r',l'⟩:=h2
    cases r1;cases r2
    by_cases hcd:c=d
    ·subst hcd
     rw[hs rfl]
     exact zbS _
    ·refine zcy hcd ?_
     exact ZP I ih (by simp only[vU] at hn;omega) l l' r r' e (by simp only[vU] at hu;omega)
   |_=>exact Vu I (by intro _ z;cases z) h1 h2 r1 r2 e hu
  |lst ts=>
   cases u with
   |lst us=>
    have hs:=λ(q:w=v)=>uM h1 (q▸h2) e
    obtain⟨c,xs,rfl,_,_,r,l⟩:=h1
    obtain⟨d,ys,rfl,_,_,r',l'⟩:=h2
    cases r1;cases r2
    by_cases hcd:c=d
    ·subst hcd
     rw[hs rfl]
     exact zbS _
    ·refine zcy hcd ?_
     exact ZE I ih (by simp only[vU] at hn;omega) l l' r r' e (by simp only[vU] at hu;omega)
   |_=>exact Vs I (by intro _ z;cases z) h1 h2 r1 r2 e hu
  |_=>cases e
theorem Xl(I:Inv X pins σ H s){t u:T}{v w:V}{a b:Value}{k:Bool}{A:z89}(h1:Den D φ α H t v)(h2:Den D φ α H u w)(r1:RelV v a)(r2:RelV w b)(e:eqT t u=some k)(hu:A.units+vU t+1<cLine):z93 A s a b k:=ui I _ _ _ _ _ _ _ _ _ (z8J _) h1 h2 r1 r2 e hu
theorem YX(I:Inv X pins σ H s){ts us:List T}{xs ys:List V}{c d:Addr}{k:Bool}{A:z89}(l:DenL D φ α H ts xs)(l':DenL D φ α H us ys)(r:Rd H c (.tup xs))(r':Rd H d (.tup ys))(e:eqL ts us=some k)(hu:A.units+qH ts+2<cLine):zcx A s (.ref c) (.ref d) k:=ZP I (ui I _) (z8J _) l l' r r' e hu
theorem Uy(I:Inv X pins σ H s){ts us:List T}{xs ys:List V}{c d:Addr}{k:Bool}{A:z89}(l:DenL D φ α H ts xs)(l':DenL D φ α H us ys)(r:Rd H c (.lst xs))(r':Rd H d (.lst ys))(e:eqL ts us=some k)(hu:A.units+qH ts+2<cLine):zcx A s (.ref c) (.ref d) k:=ZE I (ui I _) (z8J _) l l' r r' e hu
theorem uV(I:Inv X pins σ H s):∀{ts us:List T} {xs ys:List V} {its its2:List Value} {A:z89},DenL D φ α H ts xs->DenL D φ α H us ys->Vals xs its->Vals ys its2->A.units+qH ts+1<cLine->
  ∀(j:Nat) (h1:j<its.length) (h2:j<its2.length),(∀(g1:j<ts.length) (g2:j<us.length),∃b,eqT ts[j] us[j]=some b)->z93 A s its[j] its2[j] (match ts[j]?,us[j]? with|some t,some u=>(eqT t u).getD false|_,_=>false):=λl l' rv rv' hu=>wB (ui I _) (z8J _) l l' rv rv' hu
theorem Y_(I:Inv X pins σ H s){ts us:List T}{xs ys:List V}{c d:Addr}{k:Bool}{A:z89}(l:DenL D φ α H ts xs)(l':DenL D φ α H us ys)(r:Rd H c (.tup xs))(r':Rd H d (.tup ys))(e:eqL ts us=some k)(hu:A.units+qH ts+2<cLine):zew A s (.ref c) (.ref d) (!k):=by
 obtain⟨its,rv,p,_⟩:=I.tuple (.inl r)
 obtain⟨its2,rv',p',_⟩:=I.tuple (.inl r')
 obtain⟨g,rfl⟩:=uK e
 have h1:ts.length=its.length:=l.length.trans rv.length
 have h2:us.length=its2.length:=l'.length.trans rv'.length
 have:=zeJ (A:=A) (e:=λj=>match ts[j]?,us[j]? with|some t,some u=>(eqT t u).getD false|_,_=>false) p p' (by omega) λj q1 q2=>by
  have:=uV (A:=A.in1) I l l' rv rv' (by rw[in1_units];omega) j (by simpa using q1) (by simpa using q2) λg1 g2=>g j g1 g2
  simpa using this
 simpa[h1,h2] using this
theorem UW(I:Inv X pins σ H s){ts us:List T}{xs ys:List V}{c d:Addr}{k:Bool}{A:z89}(l:DenL D φ α H ts xs)(l':DenL D φ α H us ys)(r:Rd H c (.lst xs))(r':Rd H d (.lst ys))(e:eqL ts us=some k)(hu:A.units+qH ts+2<cLine):zew A s (.ref c) (.ref d) (!k):=by
 obtain⟨its,rv,p,_⟩:=I.list (.inl r)
 obtain⟨its2,rv',p',_⟩:=I.list (.inl r')
 obtain⟨g,rfl⟩:=uK e
 have h1:ts.length=its.length:=l.length.trans rv.length
 have h2:us.length=its2.length:=l'.length.trans rv'.length
 by_cases hl:ts.length=us.length
 ·have:=zeQ (A:=A) (e:=λj=>match ts[j]?,us[j]? with|some t,some u=>(eqT t u).getD false|_,_=>false) p.isList p'.isList (by simp;omega) (by omega) λj q1 q2=>by
   have:=uV (A:=A.in1) I l l' rv rv' (by rw[in1_units];omega) j (by simpa using q1) (by simpa using q2) λg1 g2=>g j g1 g2
   simpa using this
  have e2:min ts.length us.length=its.length:=by omega
  have e3:(ts.length == us.length)=true:=by simpa using hl
  rw[e2,e3,zek]
  simpa using this
 ·have e3:(ts.length == us.length)=false:=by simpa using hl
  rw[e3,zc3]
  exact zdF p.isList p'.isList (by simp;omega) (by omega)
end
end NH
end
section
namespace NH
open PySem PySem.Spec PyProof.Rows L2
noncomputable def spM (D:DP)(f:Fn):Sp:=λvs H Q E=>∃φ α ts μ,DenL D φ α H ts vs/\MRel D φ α H μ/\Post D (wOf E) φ α H [] (λt _ α' H'=>∀v,Den D φ α' H' t v->Q v H') (f ts μ)
noncomputable def spN (D:DP)(n:Nat)(f:Fn):Sp:=λvs H Q E=>vs.length=n/\spM D f vs H Q E
noncomputable def Wu (D:DP)(t:Nat)(u:Value):Prop:=
 (t=0/\u=.type "NoneType")\/(t=1/\u=.type "bool")\/(t=2/\u=.type "int")\/(t=3/\u=.type "str")\/(t=4/\u=.type "tuple")\/(t=5/\u=.type "list")\/(∃C,D.adr t=some C/\u=.ref C)\/(t=6/\u=.type "dict")\/(∃C,D.cad t=some C/\u=.ref C)
noncomputable def yJ(mg:Str->Option Value)(c:Str)(u:Value):Prop:=mg c=some u\/(mg c=none/\z8W c=some u/\c≠"__name__")
abbrev UJ(X:Cx)(c:Str)(u:Value):Prop:=yJ X.mg c u
noncomputable def ClsV(v:V)(u:Value):Prop:=(∃C,v=.ref C/\u=.ref C)\/∃n,v=.ty n/\u=.type n
theorem ClsV.rel{v:V}{u:Value}(h:ClsV v u):L2.RelV v u:=by
 rcases h with⟨C,rfl,rfl⟩|⟨n,rfl,rfl⟩<;>rfl
theorem ClsV.only{v:V}{u u':Value}(h:ClsV v u)(r:L2.RelV v u'):u'=u:=by
 rcases h with⟨C,rfl,rfl⟩|⟨n,rfl,rfl⟩<;>exact r
structure XCls(K:PySem.W.Frag)(C:Addr):Prop where
 ga:z84 K (.ref C) "__getattribute__"=some (some (.builtin "BaseException.__getattribute__"))
 hk:z84 K (.ref C) "__getattr__"=some none
 fi:z84 K (.ref C) "__class__"=some (some (.builtin "object.__class__"))
 sp:zam K (.builtin "object.__class__") "__get__"=some (some (.builtin "getset_descriptor.__get__"))
 tk:zaG K (.builtin "object.__class__")=some true
 ob:za2 K C (.type "object")=some true
 bx:za2 K C (.type "BaseException")=some true
 cl:(zel K C).isSome=true
structure OCls(K:PySem.W.Frag)(C:Addr):Prop where
 cl:Cls K C
 fi:z84 K (.ref C) "__class__"=some (some (.builtin "object.__class__"))
 sp:zam K (.builtin "object.__class__") "__get__"=some (some (.builtin "getset_descriptor.__get__"))
 tk:zaG K (.builtin "object.__class__")=some true
 ob:za2 K C (.type "object")=some true
abbrev qG:List Value:=[.type "ValueError",.type "Exception",.type "BaseException",.type "object"]
noncomputable def FOk (D:DP)(P:z8e)(w:z8s)(K:z7E)(mg:Str->Option Value)(base:Heap)(k:Nat)(fa:Addr)(f:Fn):Prop:=
 ∃fd ps kk,z9o K (.ref fa)=true/\Binds K fd ps []/\kk<=k/\FnOk P w K mg base (CX1 P w) kk fa fd ps (spN D ps.length f)/\∀ts μ K Z,f ts μ K Z->ts.length=ps.length
structure RoomH(k:Nat)(A:Around):Prop where
 dp:A.depth+3 * k+5<recursionLimit
 un:A.units+16 * k+200<cLine
theorem RoomH.units{k:Nat}{A:z89}(r:RoomH k A):A.units+64<cLine:=by have:=r.un;omega
noncomputable def z6y(P:z8e)(w:z8s)(K:z7E)(mg:Str->Option Value)(base:Heap)(k:Nat)(f:Addr)(fd:z8O)(ps:List Str)(sp:Sp):Prop:=
 ∀(A:z89) (outer:List Env) (s:z7y) (H:Hp) (args:Args) (us:List Value) (vs:List V) (Q:VK),RoomH k A->Env0 P w K mg base A outer s H->zb4 s fd args (ps.zip us)->Vals vs us->sp vs H Q (λ_ _ _=>False)->
  z9S (z7N P w) A (.call (.ref f) args) (CR (λ_ _ _ _ _ _=>False) outer P w H s Q (λ_ _ _=>False)) s
noncomputable def z7j (x C:Addr):Heap->Prop:=λh=>∃t,h.get? x=some {cls:=.ref C,data:=.fields #[.ref t,.none,.none,.none,.bool false,.none]}
noncomputable def z6f(x C dx:Addr):Heap->Prop:=λh=>∃t,h.get? x=some {cls:=.ref C,dict:=some dx,data:=.fields #[.ref t,.none,.none,.none,.bool false,.none]}
structure XIn(K:PySem.W.Frag)(C HE fI:Addr)(fl:Str):Prop where
 cls:∃N nm q bs hd sn sub ab col dd k0 k1 k2 k3 k5,K.lookup C=some (zdd nm q C N bs (.ref HE::qG) hd sn sub ab col dd k0 k1 k2 k3 k5 "ValueError.__new__")/\PySem.W.nsOkIn K N=true/\zbK K N "__init__"=some (some (.ref fI))
 he:za3 K HE qG "ValueError.__new__"=true
 fn:zdv K (.ref fI)=some (.type "function")
 sa:z84 K (.ref C) "__setattr__"=some (some (.builtin "object.__setattr__"))
 no:z84 K (.ref C) fl=some none
 dct:z9G K C=true
 kp:z9o K (.ref C)=true
noncomputable def spI (C:Addr)(fl:Str):Sp:=λvs H Q E=>∃(x:Addr) (i:Int),vs=[.ref x,.int i]/\i.natAbs.log2<1920/\H x=some (.ext (z7j x C))/\∀dx,H dx=none->dx≠x->Q .non (upd (upd H x (.ext (z6f x C dx))) dx (.xd [(fl,.int i)]))
noncomputable def z0d(y:Str)(sc:Scope):Bool:=(sc.kind == .function)&&!sc.isCoroutine&&!sc.isGenerator&&sc.names.all (λy=>y.2 != .free)&&(sc.names.lookup y == some .local)&&y != ("__debug__":Str)&&y != ("__classdict__":Str)
noncomputable def Kn(a c:Addr)(qn:Str):Heap->Prop:=λh=>∃(y:Str) (pa:Pos) (kk:Nat) (bp:Pos) (sc:Scope) (pm ctv:Value),z0d y sc=true/\h.get? a=some (z8E "<lambda>" qn ⟨[],[⟨y,none,pa⟩],none,[],[],none,[]⟩ (.Constant .none kk bp) sc [] pm c ctv)
noncomputable def WU (t:T):Prop:=t=.clo 0 [.clo 100 []]\/t=.clo 1 []\/t=.clo 2 [.clo 101 []]
noncomputable def z70 (D:DP)(P:z8e)(w:z8s)(K:z7E)(mg:Str->Option Value)(base:Heap)(k:Nat):Prop:=
 ∀(t:T) (φ α:List Addr) (H:Hp) (v:V),WU t->Den D φ α H t v->∃a kk,v=.ref a/\kk<=k/\∀(A:z89) (outer:List Env) (s:z7y),Env0 P w K mg base A outer s H->zcT a s.heap/\(Room kk A->∀(u:Value) (x:V) (Q:VK) (t:T) (φ α:List Addr) (μ:Mem),RelV x u->Den D φ α H t x->MRel D φ α H μ->(∀α' H',Stp α H α' H'->MRel D φ α' H' μ->Q .non H')->
  z9S (z7N P w) A (.call (.ref a) ⟨[u],[]⟩) (CR (CX1 P w) outer P w H s Q (λ_ _ _=>False)) s)
noncomputable def GlOkM(D:DP)(P:z8e)(w:z8s)(K:z7E)(mg:Str->Option Value)(base:Heap)(k:Nat)(x:Str):GM->Prop
 |.fn f=>∃fa,mg x=some (.ref fa)/\FOk D P w K mg base k fa f
 |.fnh nm f=>∃fa,mg nm=some (.ref fa)/\∃fd ps kk,z9o K (.ref fa)=true/\Binds K fd ps []/\kk<=k/\z6y P w K mg base kk fa fd ps (spN D ps.length f)/\∀ts μ K Z,f ts μ K Z->ts.length=ps.length
 |.met c nm f=>∃C fI fd ps kk,D.cad c=some C/\Cls K C/\Meth K C nm fI/\(∀i,D.fn i≠some nm)/\Binds K fd ps []/\kk<=k/\FnOk P w K mg base (CX1 P w) kk fI fd ps (spN D ps.length f)/\∀ts μ K Z,f ts μ K Z->ts.length=ps.length
 |.mk c _ f=>∃C fI fd ps kk,D.cad c=some C/\mg x=some (.ref C)/\Mk K C fI/\Binds K fd ps []/\kk+1<=k/\FnOk P w K mg base (CX1 P w) kk fI fd ps (spN D ps.length f)/\∀ts μ K Z,f ts μ K Z->ts.length=ps.length
 |.cst t=>∃u v,mg x=some u/\RelV v u/\∀φ α H,Den D φ α H t v
 |.xcl c=>∃C,D.adr c=some C/\mg x=some (.ref C)/\za3 K C qG "ValueError.__new__"=true
 |.xcf c _=>∃C,D.adr c=some C/\mg x=some (.ref C)
 |.xin c f nm fl=>∃C HE fI fd ps kk,D.adr c=some C/\mg nm=some (.ref C)/\D.fn f=some fl/\XIn K C HE fI fl/\Binds K fd ps []/\kk+1<=k/\FnOk P w K mg base (CX1 P w) kk fI fd ps (spI C fl)
 |.mkd c nm n f=>∃C fI fd ps kk,D.cad c=some C/\mg nm=some (.ref C)/\Mk K C fI/\Binds K fd ps [.none]/\kk+1<=k/\FnOk P w K mg base (CX1 P w) kk fI fd ps (spN D ps.length f)/\(∀ts μ K Z,f ts μ K Z->ts.length=ps.length)/\ps.length=n+2
 |.metd c nm n d f=>∃C fI fd ps kk du dv,D.cad c=some C/\Cls K C/\Meth K C nm fI/\(∀i,D.fn i≠some nm)/\Binds K fd ps [du]/\RelV dv du/\(∀φ α H,Den D φ α H d dv)/\kk<=k/\FnOk P w K mg base (CX1 P w) kk fI fd ps (spN D ps.length f)/\(∀ts μ K Z,f ts μ K Z->ts.length=ps.length)/\ps.length=n+2
 |.kpr=>z70 D P w K mg base k/\∀j P' pos qn,j<2->D.tabs j=some (P',pos,qn)->∀a c,D.clo (2 * j) a (some (.ext (Kn a c qn))) [.ref c]/\D.clo (100+j) c (some (.ext (wO c qn))) []
 |.none=>mg x=none
 |.bad=>True
abbrev z62(D:DP)(X:Cx)(k:Nat)(x:Str)(g:GM):Prop:=GlOkM D X.prog X.w X.K X.mg X.base k x g
structure Cn where
 N:List Str
 G:List Str
 calm:Bool
 gl:Str->GM
 cls:List (Str×Nat)
 fld:List (Str×Nat)
 U:List Str
 cel:List Str
 own:List Str
 lam:Option (Nat×List Pos):=none
noncomputable def Cn.look(Γ:Cn)(x:Str):GM:=if Γ.G.contains x then Γ.gl x else .bad
noncomputable def LamOk(D:DP)(mg:Str->Option Value)(base:Heap)(code:Value)(qual:Str)(k:Nat)(l:Option (Nat×List Pos)):Prop:=∀j poss,l=some (j,poss)->2<=k/\∃c P,code=.ref c/\zaU base c P/\base.BuiltinsAt mg P/\D.tabs j=some (P,poss,qual++"<lambda>")
theorem LamOk.no{D:DP}{mg:Str->Option Value}{base:Heap}{code:Value}{qual:Str}{k:Nat}{l:Option (Nat×List Pos)}(h:l=none):LamOk D mg base code qual k l:=λj pos e=>by rw[h] at e;cases e
structure Ck(D:DP)(W:XW)(Γ:Cn)(X:Cx)(k:Nat):Prop where
 hK:X.K=D.K
 hN:X.N=Γ.N
 nd:Γ.N.Nodup
 vis:∀x∈Γ.N,Vis X.env.scope x
 dbg:∀x∈Γ.N,(x == ("__debug__":Str))=false/\(x == ("__classdict__":Str))=false
 dbG:∀x∈Γ.G,(x == ("__debug__":Str))=false
 glb:∀x∈Γ.G,Gl X x
 glo:∀x∈Γ.G,z62 D X k x (Γ.gl x)
 glU:∀x∈Γ.U,z62 D X k x (Γ.gl x)/\(x == ("__debug__":Str))=false
 cel:∀x∈Γ.cel,X.env.kindOf x=some .cell\/X.env.kindOf x=some .free
 isi:∀t x c,(x,c)∈Γ.cls->∀u v,Wu D t u->UJ X x v->zaV X.K u v=some (vL t c)
 fld:∀c C x f,D.cad c=some C->(x,f)∈Γ.fld->D.fn f=some x/\Cls X.K C/\NoAttr X.K C x
 xcx:∀c C,D.adr c=some C->XCls X.K C
 ocx:∀c C,D.cad c=some C->OCls X.K C
 clv:∀x c,(x,c)∈Γ.cls->∃u v,UJ X x u/\ClsV v u
 clm:Γ.calm=true->X.calm=true
 rom:Γ.calm=true->Room k X.A
 rmh:RoomH k X.A
 xe:∀e s,XP X W e s->X.xe e s
 frm:∃e0 out L,Frm X e0 out L
 lam:LamOk D X.mg X.base X.env.code X.env.qual k Γ.lam
theorem Ck.unt{D:DP}{W:XW}{Γ:Cn}{X:Cx}{k:Nat}(C:Ck D W Γ X k):X.A.units+64<cLine:=C.rmh.units
theorem wH:∀{N:List Str} {x:Str} {i:Nat},idx N x=some i->N[i]?=some x
 |[],_,_,h=>by simp[idx] at h
 |y::r,x,i,h=>by
  simp only[idx] at h
  split at h
  ·rename_i e;cases h;simp[e]
  ·cases q:idx r x with
   |none=>rw[q] at h;cases h
   |some j=>rw[q] at h;cases h;simpa using wH q
theorem w8{N:List Str}{x:Str}{i:Nat}(h:idx N x=some i):x∈N:=z7P (wH h)
section
variable {X:Cx}{D:DP}{W:XW}{Γ:Cn}{k:Nat}{pins:List (Addr×Obj)}{s:Shared}{σ:St}{H:Hp}{φ α:List Addr}{τ:Sl}{μ:Mem}{f g h:De}{a b c:Expr}{pos:Pos}
theorem PE.mono{e:Expr}{t t':TE}(h:PE X e t)(m:∀σ H Q,t' σ H Q->t σ H Q):PE X e t':=λpins s σ H Q I q=>h pins s σ H Q I (m σ H Q q)
theorem z3o{i j pos}:PE X (.Constant (.int i) j pos) (rdE D W (eC (.int i))):=PE.mono z5w λσ H Q ⟨φ,α,τ,μ,sr,mr,p⟩=>Post.here p mr rfl
theorem z6F{i j pos}:PE X (.Constant (.bool i) j pos) (rdE D W (eC (.bl i))):=PE.mono z6L λσ H Q ⟨φ,α,τ,μ,sr,mr,p⟩=>Post.here p mr rfl
theorem z4N{j pos}:PE X (.Constant .none j pos) (rdE D W (eC .non)):=PE.mono Y9 λσ H Q ⟨φ,α,τ,μ,sr,mr,p⟩=>Post.here p mr rfl
theorem z31{i j pos}:PE X (.Constant (.str i) j pos) (rdE D W (eC (.str i))):=PE.mono z3r λσ H Q ⟨φ,α,τ,μ,sr,mr,p⟩=>Post.here p mr rfl
theorem z3D(C:Ck D W Γ X k){x:Str}{i:Nat}(hi:idx Γ.N x=some i):PE X (.Name x pos) (rdE D W (eV i)):=by
 refine PE.mono (z3d (i:=i) (by rw[C.hN];exact wH hi) (C.vis x (w8 hi)) (C.dbg x (w8 hi)).1 (C.dbg x (w8 hi)).2) ?_
 rintro σ H Q ⟨φ,α,τ,μ,sr,mr,p⟩
 dsimp only[eV] at p
 split at p
 ·rename_i t e
  obtain⟨v,q,d⟩:=sr.get e
  exact⟨v,q,p.here mr d⟩
 ·exact p.elim
theorem z52(C:Ck D W Γ X k){x:Str}{t:T}(hx:x∈Γ.G)(ht:Γ.gl x=.cst t):PE X (.Name x pos) (rdE D W (eC t)):=by
 have g:=C.glo x hx
 rw[ht] at g
 obtain⟨u,v,hm,r,d⟩:=g
 exact PE.mono (Kh (C.glb x hx) hm r (C.dbG x hx)) λσ H Q ⟨φ,α,τ,μ,sr,mr,p⟩=>Post.here p mr (d _ _ _)
theorem z55{op:zdE}(ha:PE X a (rdE D W f))(hb:PE X b (rdE D W g)):PE X (.BinOp a op b pos) (rdE D W (z9 op f g)):=by
 rintro pins s σ H Q I ⟨φ,α,τ,μ,sr,mr,p⟩
 refine wpAny_BinOp (thn (sub ha I sr mr p) ?_)
 rintro u s1 ⟨v,H1,t,μ1,α1,I1,r1,st1,sr1,mr1,d1,p1⟩
 refine thn (sub hb I1 sr1 mr1 p1) ?_
 rintro u' s2 ⟨v',H2,t',μ2,α2,I2,r2,st2,sr2,mr2,d2,p2⟩
 exact z53 I2 mr2 (d1.step st2) d2 r1 r2 p2
theorem z4p(ha:PE X a (rdE D W f)):PE X (.UnaryOp .USub a pos) (rdE D W (z0O f)):=by
 rintro pins s σ H Q I ⟨φ,α,τ,μ,sr,mr,p⟩
 refine UnaryOp_ (thn (sub ha I sr mr p) ?_)
 rintro u s1 ⟨v,H1,t,μ1,α1,I1,r1,st1,sr1,mr1,d1,p1⟩
 try dsimp only at p1
 split at p1
 ·cases d1
  exact z3O pins s1 σ H1 _ _ Q I1 r1 ⟨_,rfl,p1.here mr1 rfl⟩
 ·exact p1.elim
theorem z3H(ha:PE X a (rdE D W f)):PE X (.UnaryOp .Not a pos) (rdE D W (z4l f)):=by
 rintro pins s σ H Q I ⟨φ,α,τ,μ,sr,mr,p⟩
 refine UnaryOp_ (thn (sub ha I sr mr p) ?_)
 rintro u s1 ⟨v,H1,t,μ1,α1,I1,r1,st1,sr1,mr1,d1,p1⟩
 try dsimp only at p1
 split at p1
 ·rename_i b
  cases d1
  cases r1
  exact not_of (z8a ⟨.bl (!b),H1,I1,rfl,p1.here mr1 rfl⟩)
 ·exact p1.elim
theorem z5b{op:BoolOp}(ha:PE X a (rdE D W f)):PE X (.BoolOp op [a] pos) (rdE D W f):=z4I ha
theorem z36{r:List Expr}(ha:PE X a (rdE D W f))(hb:PE X (.BoolOp .And (b::r) pos) (rdE D W g)):PE X (.BoolOp .And (a::b::r) pos) (rdE D W (WZ f g)):=by
 rintro pins s σ H Q I ⟨φ,α,τ,μ,sr,mr,p⟩
 refine BoolOp_and (thn (sub ha I sr mr p) ?_)
 rintro u s1 ⟨v,H1,t,μ1,α1,I1,r1,st1,sr1,mr1,d1,p1⟩
 try dsimp only at p1
 split at p1
 ·cases d1
  cases r1
  rcases p1.br with⟨rfl,p1⟩|⟨rfl,p1⟩
  ·exact z8a (hb pins s1 σ H1 Q I1 ⟨φ,α1,τ,μ1,sr1,mr1,p1⟩)
  ·exact z8a ⟨.bl false,H1,I1,rfl,p1.here mr1 rfl⟩
 ·exact p1.elim
theorem z6C{r:List Expr}(ha:PE X a (rdE D W f))(hb:PE X (.BoolOp .Or (b::r) pos) (rdE D W g)):PE X (.BoolOp .Or (a::b::r) pos) (rdE D W (eOr f g)):=by
 rintro pins s σ H Q I ⟨φ,α,τ,μ,sr,mr,p⟩
 refine BoolOp_or (thn (sub ha I sr mr p) ?_)
 rintro u s1 ⟨v,H1,t,μ1,α1,I1,r1,st1,sr1,mr1,d1,p1⟩
 try dsimp only at p1
 split at p1
 ·cases d1
  cases r1
  rcases p1.br with⟨rfl,p1⟩|⟨rfl,p1⟩
  ·exact z8a ⟨.bl true,H1,I1,rfl,p1.here mr1 rfl⟩
  ·exact z8a (hb pins s1 σ H1 Q I1 ⟨φ,α1,τ,μ1,sr1,mr1,p1⟩)
 ·exact p1.elim
theorem z2M{x y:T}{v w:V}{b:Bool}(d1:Den D φ α H x v)(d2:Den D φ α H y w)(h:scT x y=some b):z1y v w=true/\decide (v=w)=b:=by
 unfold scT at h
 split at h<;>first
  |(cases h;cases d1;cases d2;exact⟨rfl,by simp⟩)
  |cases h
theorem z4F:OpR X (z8h .Is) (λx y H Q=>∃a b,x=.bl a/\y=.bl b/\Q (.bl (decide (a=b))) H):=by
 intro pins s σ H x y v u Q I rx ry h
 obtain⟨a,b,rfl,rfl,q⟩:=h
 cases rx;cases ry
 refine wpAny_is_plain (by rfl) ⟨.bl (decide (a=b)),H,I,?_,q⟩
 cases a<;>cases b<;>rfl
theorem U6:OpR X (z8h .IsNot) (λx y H Q=>∃a b,x=.bl a/\y=.bl b/\Q (.bl (!decide (a=b))) H):=by
 intro pins s σ H x y v u Q I rx ry h
 obtain⟨a,b,rfl,rfl,q⟩:=h
 cases rx;cases ry
 refine wpAny_isNot_plain (by rfl) ⟨.bl (!decide (a=b)),H,I,?_,q⟩
 cases a<;>cases b<;>rfl
theorem Yh{b:Bool}{C:Prop}{x y:T}{v w:V}{kk:Bool->RE T}{Q:VK}(I:Inv X pins σ H s)(hu:X.A.units+64<cLine)(mr:MRel D φ α H μ)(d1:Den D φ α H x v)(d2:Den D φ α H y w)(p:Post D W φ α H σ (RV D φ Q) (eqW x y μ kk))
  (h1:∀b,Post D W φ α H σ (RV D φ Q) (kk b)->z1y v w=true/\decide (v=w)=b->C)
  (h2:∀b,Post D W φ α H σ (RV D φ Q) (kk b)->((∀u1 u2,RelV v u1->RelV w u2->∀{R:Value->z7y->Prop},R (.bool b) s->z7K (z7N X.prog X.w) X.A (z8h .Eq u1 u2) R X.xe s)/\(∀u1 u2,RelV v u1->RelV w u2->∀{R:Value->z7y->Prop},R (.bool (!b)) s->z7K (z7N X.prog X.w) X.A (z8h .NotEq u1 u2) R X.xe s))->C):C:=by
 have lst:∀{xs ys:List T} {c d:Addr} {vs ws:List V},v=.ref c->w=.ref d->Rd H c (.lst vs)->Rd H d (.lst ws)->DenL D φ α H xs vs->DenL D φ α H ys ws->Post D W φ α H σ (RV D φ Q) (RE.grd (qH xs<=40) (.som (eqL xs ys) kk))->C:=λ{xs ys c d vs ws} e1 e2 r r' l l' p=>by
  obtain⟨hd,p⟩:=p.grd
  obtain⟨b,hb,p⟩:=p.som
  subst e1 e2
  exact h2 b p ⟨λu1 u2 r1 r2 R q=>by cases r1;cases r2;exact Uy I l l' r r' hb (by omega) _ _ _ _ q,λu1 u2 r1 r2 R q=>by cases r1;cases r2;exact UW I l l' r r' hb (by omega) _ _ _ _ q⟩
 unfold eqW at p
 split at p
 ·obtain⟨hd,p⟩:=p.grd
  obtain⟨b,hb,p⟩:=p.som
  obtain⟨c,vs,rfl,_,_,r,l⟩:=d1
  obtain⟨d,ws,rfl,_,_,r',l'⟩:=d2
  exact h2 b p ⟨λu1 u2 r1 r2 R q=>by cases r1;cases r2;exact YX I l l' r r' hb (by omega) _ _ _ _ q,λu1 u2 r1 r2 R q=>by cases r1;cases r2;exact Y_ I l l' r r' hb (by omega) _ _ _ _ q⟩
 ·obtain⟨c,vs,e1,_,_,r,l⟩:=d1
  obtain⟨d,ws,e2,_,_,r',l'⟩:=d2
  exact lst e1 e2 r r' l l' p
 ·obtain⟨xs,hi,p⟩:=p.ex1
  obtain⟨c,hc,e1⟩:=d1
  obtain⟨vs,q,l⟩:=mr.ob _ c _ hc hi
  obtain⟨d,ws,e2,_,_,r',l'⟩:=d2
  exact lst e1 e2 (.inl q) r' l l' p
 ·obtain⟨ys,hi,p⟩:=p.ex1
  obtain⟨c,hc,e2⟩:=d2
  obtain⟨vs,q,l⟩:=mr.ob _ c _ hc hi
  obtain⟨d,ws,e1,_,_,r',l'⟩:=d1
  exact lst e1 e2 r' (.inl q) l' l p
 ·obtain⟨z,hi,p⟩:=p.ex1
  obtain⟨c,hc,e1⟩:=d1
  obtain⟨vs,q,l⟩:=mr.ob _ c _ hc hi.1
  obtain⟨d,hd,e2⟩:=d2
  obtain⟨ws,q',l'⟩:=mr.ob _ d _ hd hi.2
  exact lst e1 e2 (.inl q) (.inl q') l l' p
 ·split at p
  ·rename_i hb
   exact h1 _ p (z2M d1 d2 hb)
  ·exact p.elim
theorem QA{op:z8_}{x y:T}{v w:V}{u1 u2:Value}{Q:VK}(I:Inv X pins σ H s)(hu:X.A.units+64<cLine)(mr:MRel D φ α H μ)(d1:Den D φ α H x v)(d2:Den D φ α H y w)(r1:RelV v u1)(r2:RelV w u2)
  (p:Post D W φ α H σ (RV D φ Q) (Zn op x y μ)):z7K (z7N X.prog X.w) X.A (z8h op u1 u2) (EP X pins σ Q) X.xe s:=by
 unfold Zn at p
 split at p
 ·refine Yh (b:=true) I hu mr d1 d2 p (λb q h=>?_) (λb q h=>?_)
  ·obtain⟨s1,s2⟩:=h
   exact z6V pins s σ H v w u1 u2 Q I r1 r2 ⟨s1,by rw[s2];exact Post.here q mr rfl⟩
  ·exact h.1 _ _ r1 r2 ⟨.bl b,H,I,rfl,Post.here q mr rfl⟩
 ·refine Yh (b:=false) I hu mr d1 d2 p (λb q h=>?_) (λb q h=>?_)
  ·obtain⟨s1,s2⟩:=h
   exact z5J pins s σ H v w u1 u2 Q I r1 r2 ⟨s1,by rw[s2];exact Post.here q mr rfl⟩
  ·exact h.2 _ _ r1 r2 ⟨.bl (!b),H,I,rfl,Post.here q mr rfl⟩
 ·unfold ltW at p
  split at p
  ·cases d1;cases d2
   exact z5V pins s σ H _ _ u1 u2 Q I r1 r2 ⟨_,_,rfl,rfl,Post.here p mr rfl⟩
  ·obtain⟨ns,h1,p⟩:=p.som
   obtain⟨ms,h2,p⟩:=p.som
   obtain⟨a,vs,rfl,_,_,q1,l1⟩:=d1
   obtain⟨c,ws,rfl,_,_,q2,l2⟩:=d2
   rw[qN h1 l1] at q1
   rw[qN h2 l2] at q2
   exact z2O (by omega) pins s σ H _ _ u1 u2 Q I r1 r2 ⟨a,c,ns,ms,rfl,rfl,.inl q1,.inl q2,Post.here p mr rfl⟩
  ·have d1:v=.str _:=d1
   have d2:w=.str _:=d2
   subst d1 d2
   obtain⟨t1,rfl⟩:=r1
   obtain⟨t2,rfl⟩:=r2
   exact PySem.P.lt_str ⟨.bl _,H,I,rfl,Post.here p mr rfl⟩
  ·exact p.elim
 ·split at p
  ·cases d1;cases d2
   exact z6l pins s σ H _ _ u1 u2 Q I r1 r2 ⟨_,_,rfl,rfl,p.here mr rfl⟩
  ·exact p.elim
 ·split at p
  ·cases d1;cases d2
   exact z6g pins s σ H _ _ u1 u2 Q I r1 r2 ⟨_,_,rfl,rfl,p.here mr rfl⟩
  ·exact p.elim
 ·split at p
  ·cases d1;cases d2
   exact z5I pins s σ H _ _ u1 u2 Q I r1 r2 ⟨_,_,rfl,rfl,p.here mr rfl⟩
  ·exact p.elim
 ·split at p
  ·cases d2
   refine z3h pins s σ H _ _ u1 u2 Q I r1 r2 ⟨rfl,?_⟩
   have q:=p.here mr rfl
   cases x<;>first
    |(have d1:v=_:=d1;subst d1;simpa using q)
    |(obtain⟨_,_,rfl,_⟩:=d1;simpa using q)
    |(obtain⟨_,_,_,_,rfl,_⟩:=d1;simpa using q)
    |(obtain⟨_,_,rfl⟩:=d1;simpa using q)
    |(obtain⟨_,_,_,rfl,_⟩:=d1;simpa using q)
  ·split at p
   ·have d1:v=.bl _:=d1
    have d2:w=.bl _:=d2
    subst d1 d2
    exact z4F pins s σ H _ _ u1 u2 Q I r1 r2 ⟨_,_,rfl,rfl,p.here mr rfl⟩
   ·exact p.elim
  ·exact p.elim
 ·split at p
  ·cases d2
   refine z1_ pins s σ H _ _ u1 u2 Q I r1 r2 ⟨rfl,?_⟩
   have q:=p.here mr rfl
   cases x<;>first
    |(have d1:v=_:=d1;subst d1;simpa using q)
    |(obtain⟨_,_,rfl,_⟩:=d1;simpa using q)
    |(obtain⟨_,_,_,_,rfl,_⟩:=d1;simpa using q)
    |(obtain⟨_,_,rfl⟩:=d1;simpa using q)
    |(obtain⟨_,_,_,rfl,_⟩:=d1;simpa using q)
  ·split at p
   ·have d1:v=.bl _:=d1
    have d2:w=.bl _:=d2
    subst d1 d2
    exact U6 pins s σ H _ _ u1 u2 Q I r1 r2 ⟨_,_,rfl,rfl,p.here mr rfl⟩
   ·exact p.elim
  ·exact p.elim
 ·split at p
  ·have d1:v=.str _:=d1
   have d2:w=.str _:=d2
   subst d1 d2
   exact KD pins s σ H _ _ u1 u2 Q I r1 r2 ⟨_,_,rfl,rfl,p.here mr rfl⟩
  ·exact p.elim
 ·split at p
  ·have d1:v=.str _:=d1
   have d2:w=.str _:=d2
   subst d1 d2
   exact QS pins s σ H _ _ u1 u2 Q I r1 r2 ⟨_,_,rfl,rfl,p.here mr rfl⟩
  ·exact p.elim
noncomputable def qE:Expr->Bool
 |.Name _ _=>true
 |.Constant _ _ _=>true
 |.BinOp _ _ _ _=>true
 |.UnaryOp _ _ _=>true
 |.Call _ _ _ _=>true
 |.Subscript _ _ _=>true
 |.Attribute _ _ _=>true
 |_=>false
noncomputable def wC:Expr->Bool
 |.Set _ _ _=>false
 |_=>true
noncomputable def xh:z8_->Bool
 |.In=>false|.NotIn=>false
 |_=>true
noncomputable def vj(op:z8_)(b:Expr):Bool:=xh op || wC b
noncomputable def jR:z8_->Bool
 |.Lt=>true|.LtE=>true|.Gt=>true|.GtE=>true|.Eq=>true|.NotEq=>true
 |_=>false
theorem ji{op:z8_}{b:Expr}(h:vj op b=true):zcj op b=false:=by
 cases hp:xh op with
 |true=>exact YG b (by rintro rfl;simp[xh] at hp) (by rintro rfl;simp[xh] at hp)
 |false=>
  have hb:wC b=true:=by unfold vj at h;rw[hp] at h;exact h
  cases b<;>first|rfl|(simp[wC] at hb)
theorem z2I(C:Ck D W Γ X k){op:z8_}(ho:vj op b=true)(ha:PE X a (rdE D W f))(hb:PE X b (rdE D W g)):PE X (.Compare a [op] [b] pos) (rdE D W (zi op f g)):=by
 rintro pins s σ H Q I ⟨φ,α,τ,μ,sr,mr,p⟩
 refine zc4 (thn (sub ha I sr mr p) ?_) (ji ho)
 rintro u s1 ⟨v,H1,t,μ1,α1,I1,r1,st1,sr1,mr1,d1,p1⟩
 refine thn (sub hb I1 sr1 mr1 p1) ?_
 rintro u' s2 ⟨v',H2,t',μ2,α2,I2,r2,st2,sr2,mr2,d2,p2⟩
 exact QA I2 C.unt mr2 (d1.step st2) d2 r1 r2 p2
theorem yt{op:z8_}{β:Type}{R:β->Mem->List Addr->Hp->Prop}{kk:T->Mem->RE β}{x y:T}{v w:V}{u1 u2:Value}(I:Inv X pins σ H s)(hu:X.A.units+64<cLine)(mr:MRel D φ α H μ)(d1:Den D φ α H x v)(d2:Den D φ α H y w)(r1:RelV v u1)(r2:RelV w u2)
  (p:Post D W φ α H σ R ((Zn op x y μ).bind kk)):z7K (z7N X.prog X.w) X.A (z8h op u1 u2) (EP X pins σ λz H1=>∃t μ1 α1,Stp α H α1 H1/\MRel D φ α1 H1 μ1/\Den D φ α1 H1 t z/\Post D W φ α1 H1 σ R (kk t μ1)) X.xe s:=
 QA I hu mr d1 d2 r1 r2 (p.bind.mono λt μ' α' H' st m q v d=>⟨t,μ',α',st,m,d,q⟩)
theorem vH:∀{ops:List z8_} {es:List Expr},ops.all jR=true->lastMarks ops es=false
 |[],es,_=>by cases es<;>rfl
 |[op],[],_=>rfl
 |[op],[e],h=>YG e (by rintro rfl;simp[jR] at h) (by rintro rfl;simp[jR] at h)
 |[op],_::_::_,_=>rfl
 |op::op'::ops,[],_=>rfl
 |op::op'::ops,e::es,h=>by
  have:lastMarks (op'::ops) es=false:=vH (by simp only[z8B,z7x] at h ⊢;exact h.2)
  cases es with
  |nil=>cases ops<;>rfl
  |cons e' es=>exact this
noncomputable def KQ (X:Cx)(D:DP)(W:XW):List Expr->List (z8_×De)->Prop
 |[],[]=>True
 |e::es,p::ps=>PE X e (rdE D W p.2)/\KQ X D W es ps
 |_,_=>False
theorem WW(hu:X.A.units+64<cLine){Q:VK}:∀{ps:List (z8_×De)} {es:List Expr} {s:z7y} {H:Hp} {α:List Addr} {μ:Mem} {x:T} {v:V} {u:Value},KQ X D W es ps->Inv X pins σ H s->SRel D φ α H τ σ->MRel D φ α H μ->Den D φ α H x v->RelV v u->Post D W φ α H σ (RV D φ Q) (U7 ps x τ μ)->
  z7K (z7N X.prog X.w) X.A (compareChain pos u (ps.map (·.1)) (evalEach es X.env)) (EP X pins σ Q) X.xe s
 |[],_,_,_,_,_,_,_,_,_,_,_,_,_,_,p=>p.elim
 |[(op,g)],[],_,_,_,_,_,_,_,h,_,_,_,_,_,_=>h.elim
 |[(op,g)],[e],s,H,α,μ,x,v,u,h,I,sr,mr,d,r,p=>by
  refine chain_last (thn (sub h.1 I sr mr p) ?_)
  rintro u' s2 ⟨v',H2,t',μ2,α2,I2,r2,st2,sr2,mr2,d2,p2⟩
  exact QA I2 hu mr2 (d.step st2) d2 r r2 p2
 |[(op,g)],_::_::_,_,_,_,_,_,_,_,h,_,_,_,_,_,_=>h.2.elim
 |(op,g)::p'::ps,[],_,_,_,_,_,_,_,h,_,_,_,_,_,_=>h.elim
 |(op,g)::p'::ps,[e],_,_,_,_,_,_,_,h,_,_,_,_,_,_=>h.2.elim
 |(op,g)::(op',g')::ps,e::e'::es,s,H,α,μ,x,v,u,h,I,sr,mr,d,r,p=>by
  refine chain_link (thn (sub h.1 I sr mr p) ?_)
  rintro u' s2 ⟨v',H2,t',μ2,α2,I2,r2,st2,sr2,mr2,d2,p2⟩
  refine thn (yt I2 hu mr2 (d.step st2) d2 r r2 p2) ?_
  rintro dd s3 ⟨z,H3,I3,r3,t3,μ3,α3,st3,mr3,d3,p3⟩
  try dsimp only at p3
  split at p3
  ·cases d3
   cases r3
   rcases p3.br with⟨rfl,p3⟩|⟨rfl,p3⟩
   ·exact z8a (ite_tt (WW hu (ps:=(op',g')::ps) (es:=e'::es) h.2 I3 (sr2.step st3) mr3 (d2.step st3) r2 p3))
   ·exact z8a (ite_ff ⟨.bl false,H3,I3,rfl,p3.here mr3 rfl⟩)
  ·exact p3.elim
theorem XS(C:Ck D W Γ X k){e1 e2:Expr}{es:List Expr}{p1 p2:z8_×De}{ps:List (z8_×De)}(ho:(p1::p2::ps).all (λp=>jR p.1)=true)(ha:PE X a (rdE D W f))(h:KQ X D W (e1::e2::es) (p1::p2::ps)):PE X (.Compare a (p1.1::p2.1::ps.map (·.1)) (e1::e2::es) pos) (rdE D W (eCh f (p1::p2::ps))):=by
 rintro pins s σ H Q I ⟨φ,α,τ,μ,sr,mr,p⟩
 refine Compare_chain (thn (sub ha I sr mr p) ?_) (vH (by simpa[zaJ,zb5] using ho))
 rintro u s1 ⟨v,H1,t,μ1,α1,I1,r1,st1,sr1,mr1,d1,p1⟩
 exact WW C.unt h I1 sr1 mr1 d1 r1 p1
theorem JV(hu:X.A.units+64<cLine){β:Type}{R:β->Mem->List Addr->Hp->Prop}{kk:Bool->Mem->RE β}:∀{ps:List (z8_×De)} {es:List Expr} {s:z7y} {H:Hp} {α:List Addr} {μ:Mem} {x:T} {v:V} {u:Value} {Q:Bool->Hp->Prop},KQ X D W es ps->Inv X pins σ H s->SRel D φ α H τ σ->MRel D φ α H μ->Den D φ α H x v->RelV v u->Post D W φ α H σ (λb _ _ H'=>Q b H') ((U7 ps x τ μ).bind kJ)->
  z7K (z7N X.prog X.w) X.A (testChain pos u (ps.map (·.1)) (evalEach es X.env)) (TP X pins σ Q) X.xe s
 |[],_,_,_,_,_,_,_,_,_,_,_,_,_,_,_,p=>Post.elim p
 |[(op,g)],[],_,_,_,_,_,_,_,_,h,_,_,_,_,_,_=>h.elim
 |[(op,g)],[e],s,H,α,μ,x,v,u,Q,h,I,sr,mr,d,r,p=>by
  have p:Post D W φ α H σ (λb _ _ H'=>Q b H') ((g τ μ).bind λy μ1=>(Zn op x y μ1).bind kJ):=p
  refine test_last (thn (sub h.1 I sr mr p) ?_)
  rintro u' s2 ⟨v',H2,t',μ2,α2,I2,r2,st2,sr2,mr2,d2,p2⟩
  refine thn (yt I2 hu mr2 (d.step st2) d2 r r2 p2) ?_
  rintro dd s3 ⟨z,H3,I3,r3,t3,μ3,α3,st3,mr3,d3,p3⟩
  unfold kJ at p3
  split at p3
  ·cases d3
   cases r3
   exact z8a ⟨H3,I3,p3.ok (Stp.refl _ _) mr3⟩
  ·exact p3.elim
 |[(op,g)],_::_::_,_,_,_,_,_,_,_,_,h,_,_,_,_,_,_=>h.2.elim
 |(op,g)::p'::ps,[],_,_,_,_,_,_,_,_,h,_,_,_,_,_,_=>h.elim
 |(op,g)::p'::ps,[e],_,_,_,_,_,_,_,_,h,_,_,_,_,_,_=>h.2.elim
 |(op,g)::(op',g')::ps,e::e'::es,s,H,α,μ,x,v,u,Q,h,I,sr,mr,d,r,p=>by
  have p:Post D W φ α H σ (λb _ _ H'=>Q b H') ((g τ μ).bind λy μ1=>(Zn op x y μ1).bind λk μ2=>(match k with|.bl b=>RE.br b (U7 ((op',g')::ps) y τ μ2) (.ok (.bl false) μ2)|_=>RE.st:RE T).bind kJ):=p
  refine test_link (thn (sub h.1 I sr mr p) ?_)
  rintro u' s2 ⟨v',H2,t',μ2,α2,I2,r2,st2,sr2,mr2,d2,p2⟩
  refine thn (yt I2 hu mr2 (d.step st2) d2 r r2 p2) ?_
  rintro dd s3 ⟨z,H3,I3,r3,t3,μ3,α3,st3,mr3,d3,p3⟩
  try dsimp only at p3
  split at p3
  ·rename_i bb
   cases d3
   cases r3
   cases bb with
   |true=>exact z8a (ite_tt (JV hu (kk:=kk) (R:=R) (ps:=(op',g')::ps) (es:=e'::es) h.2 I3 (sr2.step st3) mr3 (d2.step st3) r2 p3))
   |false=>
    have p3:Post D W φ α3 H3 σ (λb _ _ H'=>Q b H') (RE.ok false μ3):=p3
    exact z8a (ite_ff ⟨H3,I3,p3.ok (Stp.refl _ _) mr3⟩)
  ·have p3:Post D W φ α3 H3 σ (λb _ _ H'=>Q b H') RE.st:=p3
   exact p3.elim
end
end NH
end
section
namespace NH
open PySem PySem.Spec PyProof.Rows L2
section
variable {X:Cx}{D:DP}{W:XW}{Γ:Cn}{k:Nat}{pins:List (Addr×Obj)}{s:Shared}{σ:St}{H:Hp}{φ α:List Addr}{τ:Sl}{μ:Mem}{f g h:De}{ft gt:Dt}{a b c:Expr}{pos:Pos}
theorem K2(ha:PE X a (rdE D W f))(he:∀whole,isTrue a X.env whole=(do let v ←whole;standAt a.pos;zdo [v] (truthy v))):PT X a (rdT D W (tE f)):=by
 rintro pins s σ H Q I ⟨φ,α,τ,μ,sr,mr,p⟩
 rw[he]
 refine z7w (thn (sub ha I sr mr p) ?_)
 rintro u s1 ⟨v,H1,t,μ1,α1,I1,r1,st1,sr1,mr1,d1,p1⟩
 unfold kJ at p1
 split at p1
 ·cases d1
  cases r1
  exact z7w (z9B (z8f (z8a ⟨H1,I1,p1.ok (Stp.refl _ _) mr1⟩)))
 ·exact p1.elim
theorem VC(C:Ck D W Γ X k){op:z8_}(ho:vj op b=true)(ha:PE X a (rdE D W f))(hb:PE X b (rdE D W g)):PT X (.Compare a [op] [b] pos) (rdT D W (tE (zi op f g))):=by
 rintro pins s σ H Q I ⟨φ,α,τ,μ,sr,mr,p⟩
 have p:Post D W φ α H σ (λb _ _ H'=>Q b H') ((f τ μ).bind λx μ1=>(g τ μ1).bind λy μ2=>(Zn op x y μ2).bind kJ):=p
 refine zas (thn (sub ha I sr mr p) ?_) (ji ho)
 rintro u s1 ⟨v,H1,t,μ1,α1,I1,r1,st1,sr1,mr1,d1,p1⟩
 refine thn (sub hb I1 sr1 mr1 p1) ?_
 rintro u' s2 ⟨v',H2,t',μ2,α2,I2,r2,st2,sr2,mr2,d2,p2⟩
 refine thn (yt I2 C.unt mr2 (d1.step st2) d2 r1 r2 p2) ?_
 rintro d s3 ⟨z,H3,I3,r3,t3,μ3,α3,st3,mr3,d3,p3⟩
 unfold kJ at p3
 split at p3
 ·cases d3
  cases r3
  exact z8a ⟨H3,I3,p3.ok (Stp.refl _ _) mr3⟩
 ·exact p3.elim
theorem V7(C:Ck D W Γ X k){e1 e2:Expr}{es:List Expr}{p1 p2:z8_×De}{ps:List (z8_×De)}(ho:(p1::p2::ps).all (λp=>jR p.1)=true)(ha:PE X a (rdE D W f))(h:KQ X D W (e1::e2::es) (p1::p2::ps)):PT X (.Compare a (p1.1::p2.1::ps.map (·.1)) (e1::e2::es) pos) (rdT D W (tE (eCh f (p1::p2::ps)))):=by
 rintro pins s σ H Q I ⟨φ,α,τ,μ,sr,mr,p⟩
 have p:Post D W φ α H σ (λb _ _ H'=>Q b H') ((f τ μ).bind λx μ1=>(U7 (p1::p2::ps) x τ μ1).bind kJ):=p
 refine isTrue_chain (thn (sub ha I sr mr p) ?_) (vH (by simpa[zaJ,zb5] using ho))
 rintro u s1 ⟨v,H1,t,μ1,α1,I1,r1,st1,sr1,mr1,d1,p1⟩
 exact JV (kk:=λ_ _=>RE.st (β:=Bool)) (R:=λ_ _ _ _=>True) C.unt h I1 sr1 mr1 d1 r1 p1
theorem z4B{r:List Expr}(ha:PT X a (rdT D W ft))(hb:PW X (.BoolOp .And (b::r) pos) (rdT D W gt)):PW X (.BoolOp .And (a::b::r) pos) (rdT D W (wb ft gt)):=by
 intro whole pins s σ H Q I hq
 refine z2H ha hb whole pins s σ H Q I ?_
 obtain⟨φ,α,τ,μ,sr,mr,p⟩:=hq
 refine⟨φ,α,τ,μ,sr,mr,p.bind.mono λc μ' α' H' st m q=>?_⟩
 rcases q.br with⟨rfl,q⟩|⟨rfl,q⟩
 ·exact⟨φ,α',τ,μ',sr.step st,m,q⟩
 ·exact q.ok (Stp.refl _ _) m
theorem z6A{r:List Expr}(ha:PT X a (rdT D W ft))(hb:PW X (.BoolOp .Or (b::r) pos) (rdT D W gt)):PW X (.BoolOp .Or (a::b::r) pos) (rdT D W (tOr ft gt)):=by
 intro whole pins s σ H Q I hq
 refine z6J ha hb whole pins s σ H Q I ?_
 obtain⟨φ,α,τ,μ,sr,mr,p⟩:=hq
 refine⟨φ,α,τ,μ,sr,mr,p.bind.mono λc μ' α' H' st m q=>?_⟩
 rcases q.br with⟨rfl,q⟩|⟨rfl,q⟩
 ·exact q.ok (Stp.refl _ _) m
 ·exact⟨φ,α',τ,μ',sr.step st,m,q⟩
theorem z3y(ha:PT X a (rdT D W ft)):PT X (.UnaryOp .Not a pos) (rdT D W (q9 ft)):=by
 intro pins s σ H Q I hq
 refine z2L ha pins s σ H Q I ?_
 obtain⟨φ,α,τ,μ,sr,mr,p⟩:=hq
 exact⟨φ,α,τ,μ,sr,mr,p.bind.mono λc μ' α' H' st m q=>q.ok (Stp.refl _ _) m⟩
theorem z5T(hc:PT X c (rdT D W ft))(ha:PE X a (rdE D W f))(hb:PE X b (rdE D W g)):PE X (.IfExp c a b pos) (rdE D W (eIf ft f g)):=by
 rintro pins s σ H Q I ⟨φ,α,τ,μ,sr,mr,p⟩
 refine wpAny_IfExp (thn (z6r hc I sr mr p) ?_)
 rintro d s1 ⟨H1,μ1,α1,I1,st1,sr1,mr1,p1⟩
 rcases p1.br with⟨rfl,p1⟩|⟨rfl,p1⟩
 ·exact ha pins s1 σ H1 Q I1 ⟨φ,α1,τ,μ1,sr1,mr1,p1⟩
 ·exact hb pins s1 σ H1 Q I1 ⟨φ,α1,τ,μ1,sr1,mr1,p1⟩
noncomputable def zR:Expr->Bool
 |.Name _ _=>true
 |.Attribute _ _ _=>true
 |.Subscript _ _ _=>true
 |.Call (.Name x _) _ _ _=>x != ("super":Str)
 |.Call (.Attribute _ _ _) _ _ _=>true
 |_=>false
theorem Post.ex3{β δ1 δ2 δ3:Type}{R:β->Mem->List Addr->Hp->Prop}{P:δ1->δ2->Prop}{P2:δ1->δ2->δ3->Prop}{r:δ1->δ2->δ3->RE β}(p:Post D W φ α H σ R (λK Z=>∃x y z,P x y/\P2 x y z/\r x y z K Z)):∃x y z,P x y/\P2 x y z/\Post D W φ α H σ R (r x y z):=by
 obtain⟨K,Z,⟨x,y,z,h1,h2,q⟩,h⟩:=p
 exact⟨x,y,z,h1,h2,K,Z,q,h⟩
theorem Post.ex2{β δ1 δ2:Type}{R:β->Mem->List Addr->Hp->Prop}{P:δ1->Prop}{P2:δ1->δ2->Prop}{r:δ1->δ2->RE β}(p:Post D W φ α H σ R (λK Z=>∃x y,P x/\P2 x y/\r x y K Z)):∃x y,P x/\P2 x y/\Post D W φ α H σ R (r x y):=by
 obtain⟨K,Z,⟨x,y,h1,h2,q⟩,h⟩:=p
 exact⟨x,y,h1,h2,K,Z,q,h⟩
theorem vI{b:Expr}(h:qE b=true):z0U b:=by
 intro o i
 cases b<;>first|(simp[qE] at h;done)|rfl
theorem yX{D:DP}{ts:List T}{xs:List V}{i:Int}{t:T}(l:DenL D φ α H ts xs)(h:w_ ts i=some t):∃v,atI xs i=some v/\Den D φ α H t v:=by
 unfold w_ at h
 have e:ixN xs.length i=Xq ts.length i:=by rw[l.length];rfl
 unfold atI
 rw[e]
 cases q:Xq ts.length i with
 |none=>rw[q] at h;cases h
 |some j=>
  rw[q] at h
  exact l.get h
theorem z5B(hb':qE b=true)(hK:X.K=D.K)(ha:PE X a (rdE D W f))(hb:PE X b (rdE D W g)):PE X (.Subscript a b pos) (rdE D W (eIx f g)):=by
 rintro pins s σ H Q I ⟨φ,α,τ,μ,sr,mr,p⟩
 refine zcu (thn (sub ha I sr mr p) ?_)
 rintro u s1 ⟨v,H1,t,μ1,α1,I1,r1,st1,sr1,mr1,d1,p1⟩
 refine thn (sub hb I1 sr1 mr1 p1) ?_
 rintro u' s2 ⟨v',H2,t',μ2,α2,I2,r2,st2,sr2,mr2,d2,p2⟩
 have d1:=d1.step st2
 unfold z27 at p2
 split at p2
 ·cases d2
  split at p2
  ·obtain⟨w,hw,p2⟩:=p2.som
   obtain⟨ad,xs,rfl,_,_,r,l⟩:=d1
   obtain⟨z,hz,dz⟩:=yX l hw
   exact JI a b pins s2 σ H2 _ _ _ _ Q I2 r1 r2 ⟨ad,xs,_,z,rfl,rfl,.inl r,hz,p2.here mr2 dz⟩ (vI hb' _ _)
  ·obtain⟨w,hw,p2⟩:=p2.som
   obtain⟨ad,xs,rfl,_,_,r,l⟩:=d1
   obtain⟨z,hz,dz⟩:=yX l hw
   exact z58 a b pins s2 σ H2 _ _ _ _ Q I2 r1 r2 ⟨ad,xs,_,z,rfl,rfl,.inl r,hz,p2.here mr2 dz⟩ (vI hb' _ _)
  ·obtain⟨ts,w,hj,hw,p2⟩:=p2.ex2
   obtain⟨ad,hi',rfl⟩:=d1
   obtain⟨xs,e2,l⟩:=mr2.ob _ ad _ hi' hj
   obtain⟨z,hz,dz⟩:=yX l hw
   exact JI a b pins s2 σ H2 _ _ _ _ Q I2 r1 r2 ⟨ad,xs,_,z,rfl,rfl,.inl (.inl e2),hz,Post.here p2 mr2 dz⟩ (vI hb' _ _)
  ·obtain⟨hl,p2⟩:=p2.grd
   obtain⟨c,hc,p2⟩:=p2.som
   have d1:v=.str _:=d1
   subst d1
   exact z3L a b pins s2 σ H2 _ _ _ _ Q I2 r1 r2 ⟨_,_,c,rfl,rfl,zt hl,hc,p2.here mr2 rfl⟩ (vI hb' _ _)
  ·exact p2.elim
 ·exact p2.elim
noncomputable def noStar:Expr->Bool
 |.Starred _ _=>false
 |_=>true
theorem z4{e:Expr}{es:List Expr}{env:Env}(h:noStar e=true):z8l (e::es) env=(false,eval e env)::z8l es env:=by
 cases e<;>first|(simp[noStar] at h;done)|rfl
theorem zX{es:List Expr}{env:Env}{pos:Pos}(h:es.all noStar=true):(z9v pos (z8l es env)).any (·.1)=false:=by
 induction es with
 |nil=>rfl
 |cons e es ih=>
  simp only[z8B,z7x] at h
  rw[z4 h.1]
  have:=ih h.2
  first
   |(simp[z9v] at this ⊢;exact this)
   |(simpa[z9v] using this)
theorem z5e:PA X [] (rdA D W 0 (evs [])):=by
 rintro pos pins s σ H Q I ⟨φ,α,τ,μ,sr,mr,p⟩
 exact qD pos pins s σ H Q I (Post.ok p (Stp.refl _ _) mr [] rfl rfl)
theorem z0I{e:Expr}{es:List Expr}{fs:List De}{n:Nat}(hs:noStar e=true)(ha:PE X e (rdE D W f))(hr:PA X es (rdA D W n (evs fs))):PA X (e::es) (rdA D W (n+1) (evs (f::fs))):=by
 intro pos pins s σ H Q I hq
 refine zy ha hr (z4 hs) pos pins s σ H Q I ?_
 obtain⟨φ,α,τ,μ,sr,mr,p⟩:=hq
 have p:Post D W φ α H σ _ ((f τ μ).bind λt μ1=>(evs fs τ μ1).bind λts μ2=>.ok (t::ts) μ2):=p
 refine⟨φ,α,τ,μ,sr,mr,p.bind.mono λt μ1 α1 H1 st m q v d=>?_⟩
 refine⟨φ,α1,τ,μ1,sr.step st,m,q.bind.mono λts μ2 α2 H2 st2 m2 q2 vs dl hn=>?_⟩
 exact q2.ok (Stp.refl _ _) m2 _ ⟨v,vs,rfl,d.step st2,dl⟩ (by simp[hn])
noncomputable def EsOk (X:Cx)(D:DP)(W:XW):List Expr->List De->Prop
 |[],[]=>True
 |e::es,f::fs=>noStar e=true/\PE X e (rdE D W f)/\EsOk X D W es fs
 |_,_=>False
theorem wM:∀{es:List Expr} {fs:List De},EsOk X D W es fs->PA X es (rdA D W es.length (evs fs))
 |[],[],_=>z5e
 |e::es,f::fs,h=>z0I h.1 h.2.1 (wM h.2.2)
 |[],_::_,h=>h.elim
 |_::_,[],h=>h.elim
theorem EsOk.stars:∀{es:List Expr} {fs:List De},EsOk X D W es fs->es.all noStar=true
 |[],[],_=>rfl
 |e::es,f::fs,h=>by simp[h.1,EsOk.stars h.2.2]
 |[],_::_,h=>h.elim
 |_::_,[],h=>h.elim
theorem z4q{es:List Expr}{fs:List De}(hl:es.length<=room)(h:EsOk X D W es fs):PE X (.List es pos) (rdE D W (jn fs)):=by
 refine PE.mono (YH (wM h)) ?_
 rintro σ H Q ⟨φ,α,τ,μ,sr,mr,p⟩
 refine⟨φ,α,τ,μ,sr,mr,p.bind.mono λts μ1 α1 H1 st m q vs dl hn=>⟨by rw[hn];exact zt hl,λz hz=>?_⟩⟩
 exact q.fresh m (za hz) ⟨z,vs,rfl,zo m hz,zm m hz,.inl z7,dl.step (Stp.new (za hz))⟩
theorem z3x{es:List Expr}{fs:List De}{kk:Nat}(hl:es.length<=room)(h:EsOk X D W es fs):PE X (.Tuple es kk pos) (rdE D W (z_ fs)):=by
 refine PE.mono (YZ (wM h)) ?_
 rintro σ H Q ⟨φ,α,τ,μ,sr,mr,p⟩
 refine⟨φ,α,τ,μ,sr,mr,p.bind.mono λts μ1 α1 H1 st m q vs dl hn=>⟨by rw[hn];exact zt hl,λz hz=>?_⟩⟩
 exact q.fresh m (za hz) ⟨z,vs,rfl,zo m hz,zm m hz,.inl z7,dl.step (Stp.new (za hz))⟩
end
end NH
end
section
namespace NH
open PySem PySem.Spec PyProof.Rows L2
section
open PySem.W
theorem ZD {prog : z8e} {w : z8s} {A : z89} {E : Value -> z7y -> Prop} {s : z7y} {K : Frag} {x D : Addr} {ox : Obj} {od : Option Obj} {Q : Option Value -> z7y -> Prop} (X : K.In s.heap) (I : InstAt s.heap x ox D od)
  (hga : z84 K (.ref D) "__getattribute__" = some (some (.builtin "BaseException.__getattribute__"))) (hk : z84 K (.ref D) "__getattr__" = some none)
  (hf : findObj K D od "__class__" = some (.bind (.builtin "getset_descriptor.__get__") (.builtin "object.__class__"))) (hm : za2 K D (.type "object") = some true) (hb : za2 K D (.type "BaseException") = some true)
  (h : Q (some (.ref D)) { s with toks := s.toks + 1 }) : z7K (z7N prog w) A (getAttr? (.ref x) "__class__") Q E s := by
  obtain ⟨hh,g,d,t,os⟩ := s
  have L0 := I.type (M := z7N prog w)
  have L1 := looks_findIn (M := z7N prog w) X hga
  have L2 := looks_findIn (M := z7N prog w) X hk
  have L3 := looks_find (M := z7N prog w) X I hf
  have L4 := looks_mroIn (M := z7N prog w) X hb
  have f3 := zbt.ga.bind (.ref x)
  unfold getAttr? getAttrBy? getAttrBy
  refine z7w (wpAny_mkText (z7w (zbf (z8f (z7w (L0.at (z7w (L1.at ?_))))))))
  show z7K _ _ (zdh (.ref x) _ (.ref D) (.builtin "BaseException.__getattribute__") false false) _ _ _
  unfold zdh hookBefore
  refine z7w ?_
  show z7K _ _ (zdy (.ref D) "__getattr__") _ _ _
  refine L2.at ?_
  refine z7w (zbf (z8f ?_))
  unfold callGetattribute boundAndCalled
  show z7K _ _ (bindSpecial (.builtin "BaseException.__getattribute__") (.ref x) >>= _) _ _ _
  rw [f3]
  refine z7w (z7G ?_)
  show z7K _ _ (call (.builtin "BaseException.__getattribute__") [.ref x,.str "__class__" _]) _ _ _
  refine zab (codeAny_call_builtin zbt.ga.plain PySem.F.entry_bexc_ga ?_)
  have hkd : builtinKind "BaseException.__getattribute__" = some .slot := by decide +kernel
  have hsp : splitId "BaseException.__getattribute__" = some ("BaseException","__getattribute__") := by decide +kernel
  have ha := PySem.F.args_bexc_ga (.ref x) (.str "__class__" t)
  have LI : Looks (z7N prog w) hh (isInstance (.ref x) (.type "BaseException")) true := L0.andThen L4
  simp only [checkBuiltinCall,hkd,hsp]
  refine z7w (LI.at ?_)
  simp only [Bool.not_true,zac,if_false]
  refine zc5 (a := ()) ha ?_
  unfold zdp.«object.__getattribute__»
  refine z7w (m := slotArgs _ _ _) (z7G ?_)
  dsimp only
  refine z7w ?_
  show z7K _ _ (zaK (.str "__class__" t)) _ _ _
  first
    | exact z7G (z7w (L0.at (z7w (L3.at ?_))))
    | (refine z7G (z7w (L0.at (z7w (L3.at ?_)))))
    | (unfold zaK; refine z7G (z7w (L0.at (z7w (L3.at ?_)))))
  dsimp only
  unfold zdX
  show z7K _ _ (zdo [Value.builtin "object.__class__"] (call (.builtin "getset_descriptor.__get__") [.builtin "object.__class__",.ref x,.ref D]) >>= ret) _ _ _
  refine z7w (z8f (zab (class_get (s := ⟨hh,g,d,t + 1,os⟩) X I hm ?_)))
  refine z7G ?_
  exact handed_on rfl (z7G h)
theorem XCls.fo{K:Frag}{C:Addr}(h:XCls K C)(od:Option Obj):findObj K C od "__class__"=some (.bind (.builtin "getset_descriptor.__get__") (.builtin "object.__class__")):=by
 have hc:=h.cl
 obtain⟨cd,e⟩:=z9k.mp hc
 unfold findObj
 rw[e,h.fi]
 simp only[zay]
 rw[h.sp]
 simp only[zay]
 rw[h.tk]
 rfl
noncomputable def XcP (x C:Addr)(d:Option Addr)(h:Heap):Prop:=XcAt x C d h/\∀dx,d=some dx->∃o,h.get? dx=some o
theorem UP{K:Frag}{x C:Addr}{d:Option Addr}(hC:XCls K C):KitX K (.ref x) (.ref C) (XcP x C d) where
 ty:=λM h _ p=>by
  obtain⟨⟨oe,vs,h1,h2,h3,h4⟩,_⟩:=p
  exact h2▸(zeW h1).andThen .now
 it:=λM h X _=>by
  have hcD:=hC.cl
  unfold zel at hcD
  split at hcD
  ·rename_i c' d' cd' sl' ho
   intro A' Q' E' s' k q
   unfold isType loadHead
   exact z7w (wpAny_loadPart (k _ _ (X _ _ ho)) (z7G q))
  ·cases hcD
 ne:=λh tp dd its n sl X htp=>by
  refine Bool.eq_false_iff.mpr λq=>?_
  have e:C=tp:=Value.ref.inj (beq_iff_eq.mp q)
  subst e
  have hcD:=hC.cl
  unfold zel at hcD
  split at hcD
  ·rename_i c' d' cd' sl' ho
   have z:=(X _ _ ho).symm.trans htp
   cases z
  ·cases hcD
 ca:=λX p k=>by
  obtain⟨⟨oe,vs,h1,h2,h3,h4⟩,h5⟩:=p
  cases d with
  |none=>
   refine ZD (ox:=oe) (od:=none) X ⟨h1,h2,?_,?_⟩ hC.ga hC.hk (hC.fo _) hC.ob hC.bx k
   ·unfold notCls;rw[h3]
   ·rw[h4];trivial
  |some dx=>
   obtain⟨o,ho⟩:=h5 dx rfl
   refine ZD (ox:=oe) (od:=some o) X ⟨h1,h2,?_,?_⟩ hC.ga hC.hk (hC.fo _) hC.ob hC.bx k
   ·unfold notCls;rw[h3]
   ·rw[h4];exact ho
end
section
variable {X:Cx}{D:DP}{W:XW}{Γ:Cn}{k:Nat}{pins:List (Addr×Obj)}{s:Shared}{σ:St}{H:Hp}{φ α:List Addr}{τ:Sl}{μ:Mem}{f g h:De}{a b c:Expr}{pos:Pos}{es:List Expr}{fs:List De}
theorem qA{e:Expr}{f:Str}{env:Env}(h:zR e=true):z9C e f env (eval e env)=eval e env:=by
 cases e with
 |Call g args kws p=>
  cases g with
  |Name x p0=>
   have hx:(x != ("super":Str))=true:=h
   cases args<;>cases kws<;>first|rfl|(unfold z9C;simp[hx])
  |Attribute _ _ _=>rfl
  |_=>exact absurd (show false=true from h) z7_
 |_=>first|exact absurd (show false=true from h) z7_|rfl
theorem XDict.ext{D:DP}{fs:List (Nat×T)}{d:Option Addr}(x:XDict D φ α H fs d)(I:Inv X pins σ H s):∀dx,d=some dx->∃o,s.heap.get? dx=some o:=λdx e=>by
 subst e
 obtain⟨gs,_,_,e,_⟩:=x
 exact Qj (I.hok dx _ e)
noncomputable def rdO (D:DP)(W:XW)(f:Dp):TO:=λσ H Q=>∃φ α τ μ,SRel D φ α H τ σ/\MRel D φ α H μ/\Post D W φ α H σ (λo _ _ H'=>Q o H') (f τ μ)
theorem z1K:PO X none (rdO D W pN):=by
 rintro pins s σ H Q I ⟨φ,α,τ,μ,sr,mr,p⟩
 exact z1i pins s σ H Q I (Post.ok p (Stp.refl _ _) mr)
theorem Kr(h:PE X a (rdE D W f)):PO X (some a) (rdO D W (pS f)):=by
 rintro pins s σ H Q I ⟨φ,α,τ,μ,sr,mr,p⟩
 refine z0r h pins s σ H Q I ⟨φ,α,τ,μ,sr,mr,p.bind.mono λt μ' α' H' st m q v d=>?_⟩
 split at q
 ·cases d
  exact⟨_,rfl,q.ok (Stp.refl _ _) m⟩
 ·exact q.elim
theorem xj{ts:List T}{xs:List V}(l:DenL D φ α H ts xs)(lo hi:Option Int):DenL D φ α H (jj ts lo hi) (Zo xs lo hi):=by
 have e:ts.length=xs.length:=l.length
 have e1:∀n d o,KZ n d o=HT.sIx n d o:=λn d o=>by cases o<;>rfl
 unfold jj Zo
 rw[e1,e1,e]
 exact (l.drop _).take _
theorem kO{prog:z8e}{w:z8s}{A:z89}{E:Value->z7y->Prop}{s:z7y}{t sl:Addr}{items:Array Value}{vl vu:Value}{lo hi:Option Int}{Q:Value->z7y->Prop}(ht:zcE s.heap t items)(hs:s.heap.IsSliceOf sl vl vu .none)(pl:zbH vl lo)(pu:zbH vu hi)
  (hw:HT.sIx items.size 0 lo=0/\HT.sIx items.size items.size hi=items.size) (h:Q (.ref t) s):z7K (z7N prog w) A (zaA (.ref t) (.ref sl)) Q E s:=by
 obtain⟨os,hos,hcs,hds⟩:=id hs
 have hTs:s.TypeIs (.ref sl) "slice":=⟨os,hos,hcs⟩
 unfold zaA
 try with_reducible refine z8f ?_
 first|refine z7w (z7G ?_)|skip
 refine z7w (zcP ht.typeIs (by decide) ?_)
 refine z7w (zbp (name:=zaI "__getitem__") ht.typeIs z8H (zd5 z8H ht.typeIs zcd ?_ (zct _ _)))
 show z7K _ _ (zaT (.ref t) >>= _) _ _ s
 refine z7w (tupleItemsOf_ ht ?_)
 refine z7w (zcQ hTs ?_)
 rw[if_pos (by decide)]
 refine z7w (HT.sliceApplied_gen hs pl pu ?_)
 show z7K _ _ (if (((HT.sIx items.size 0 lo:Nat):Int) == 0&&(1:Int) == 1&&(HT.sIx items.size items.size hi-HT.sIx items.size 0 lo) == items.size)=true then _ else _) _ _ s
 rw[if_pos (by rw[hw.1,hw.2];simp)]
 refine z7w ?_
 unfold zdG
 refine z7w (zcQ ht.typeIs (z7G ?_))
 rw[if_pos (by decide)]
 first
  |exact z7w (zcz (z7G ⟨_,rfl,z7G h⟩))
  |exact z7w (zcz (z7w (z7G (z7G ⟨_,rfl,z7G h⟩))))
theorem z0Z:SlR X (λx lo hi H Q=>∃a xs,x=.ref a/\SqT X.K H a xs/\(HT.sIx xs.length 0 lo=0/\HT.sIx xs.length xs.length hi=xs.length)/\Q (.ref a) H):=by
 intro pins s σ H x v vl vu lo hi sl Q I rx hs pl pu h
 obtain⟨a,xs,rfl,hx,hw,q⟩:=h
 cases rx
 obtain⟨its,r,ht,hz⟩:=I.tuple hx
 have hlen:its.toArray.size=xs.length:=by rw[z7M];exact r.length.symm
 exact⟨"tuple",_,z8H.lookup,ht.typeIs,kO ht hs pl pu (by rw[hlen];exact hw) ⟨.ref a,H,I,rfl,q⟩⟩
theorem z4D:SlR X (λx lo hi H Q=>∃z,x=.str z/\z.length<=sizeLine/\Q (.str (Txt.slice z lo hi)) H):=by
 intro pins s σ H x v vl vu lo hi sl Q I rx hs pl pu h
 obtain⟨z,rfl,hz,q⟩:=h
 obtain⟨t0,rfl⟩:=rx
 refine⟨"str",_,F.slot_str_getitem.lookup,zdA _ _ _,?_⟩
 obtain⟨o,h1,h2,h3⟩:=hs
 have fin:∀(l u:Option (Int×Tok)),vl=partValue l->vu=partValue u->lo=l.map (·.1)->hi=u.map (·.1)->z7K (z7N X.prog X.w) X.A (zaA (.str z t0) (.ref sl)) (EP X pins σ Q) X.xe s:=by
  rintro l u rfl rfl rfl rfl
  exact wpAny_getItem_str_slice (l:=l) (u:=u) (st:=none) ⟨o,h1,h2,h3⟩ rfl (post_val_or_str ⟨z7V (Txt.slice_le z _ _) hz,λt' k=>⟨.str _,H,I.tok _,⟨t',rfl⟩,q⟩⟩)
 cases pl with
 |none=>
  cases pu with
  |none=>exact fin none none rfl rfl rfl rfl
  |int j u=>exact fin none (some (j,u)) rfl rfl rfl rfl
 |int i t=>
  cases pu with
  |none=>exact fin (some (i,t)) none rfl rfl rfl rfl
  |int j u=>exact fin (some (i,t)) (some (j,u)) rfl rfl rfl rfl
theorem YO{lo hi:Option Expr}{fo go:Dp}{p2:Pos}(ha:PE X a (rdE D W f))(hl:PO X lo (rdO D W fo))(hu:PO X hi (rdO D W go)):PE X (.Subscript a (.Slice lo hi none p2) pos) (rdE D W (eSl f fo go)):=by
 refine PE.mono (YK (z0j.or (z3Z.or (z0Z.or z4D))) ha hl hu) ?_
 rintro σ H Q ⟨φ,α,τ,μ,sr,mr,p⟩
 refine⟨φ,α,τ,μ,sr,mr,p.bind.mono λt μ1 α1 H1 st m q v d=>?_⟩
 refine⟨φ,α1,τ,μ1,sr.step st,m,q.bind.mono λl μ2 α2 H2 st2 m2 q2=>?_⟩
 refine⟨φ,α2,τ,μ2,(sr.step st).step st2,m2,q2.bind.mono λu μ3 α3 H3 st3 m3 q3=>?_⟩
 unfold z6W at q3
 split at q3
 ·obtain⟨ad,xs,rfl,_,_,r,dl⟩:=(d.step st2).step st3
  refine .inl ⟨ad,xs,rfl,.inl r,λz hz=>?_⟩
  exact q3.fresh m3 (za hz) ⟨z,_,rfl,zo m3 hz,zm m3 hz,.inl z7,xj (dl.step (Stp.new (za hz))) _ _⟩
 ·obtain⟨ad,xs,rfl,n1,n2,r,dl⟩:=(d.step st2).step st3
  by_cases hw:HT.sIx xs.length 0 l=0/\HT.sIx xs.length xs.length u=xs.length
  ·refine .inr (.inr (.inl ⟨ad,xs,rfl,.inl r,hw,?_⟩))
   have e:Zo xs l u=xs:=by unfold Zo;rw[hw.1,hw.2];simp
   have dd:=xj dl l u
   rw[e] at dd
   exact q3.here m3 ⟨ad,xs,rfl,n1,n2,r,dd⟩
  ·refine .inr (.inl ⟨ad,xs,rfl,.inl r,hw,λz hz=>?_⟩)
   exact q3.fresh m3 (za hz) ⟨z,_,rfl,zo m3 hz,zm m3 hz,.inl z7,xj (dl.step (Stp.new (za hz))) _ _⟩
 ·obtain⟨hz,q3⟩:=q3.grd
  have d:v=.str _:=d
  subst d
  exact .inr (.inr (.inr ⟨_,rfl,zt hz,q3.here m3 rfl⟩))
 ·obtain⟨ts,hj,q3⟩:=q3.ex1
  obtain⟨ad,hi',rfl⟩:=(d.step st2).step st3
  obtain⟨xs,e2,dl⟩:=m3.ob _ ad _ hi' hj
  refine .inl ⟨ad,xs,rfl,.inl (.inl e2),λz hz=>?_⟩
  exact Post.fresh q3 m3 (za hz) ⟨z,_,rfl,zo m3 hz,zm m3 hz,.inl z7,xj (dl.step (Stp.new (za hz))) _ _⟩
 ·exact q3.elim
theorem yo{g:Fn}{fa:Addr}{fd:z8O}{ps:List Str}{kk:Nat}{us:List Value}{vs:List V}{ts:List T}{Q:VK}(C:Ck D W Γ X k)(F:FnOk X.prog X.w X.K X.mg X.base (CX1 X.prog X.w) kk fa fd ps (spN D ps.length g))
  (hr:Room kk X.A) (hb:Binds X.K fd ps []) (har:∀ts μ K Z,g ts μ K Z->ts.length=ps.length) (I:Inv X pins σ H s) (r:Vals vs us) (mr:MRel D φ α H μ) (d:DenL D φ α H ts vs) (p:Post D W φ α H σ (RV D φ Q) (g ts μ)) :
  z7K (z7N X.prog X.w) X.A (call (.ref fa) us) (EP X pins σ Q) X.xe s:=by
 obtain⟨K,Z,q,hq,hz⟩:=p
 have hl:ts.length=ps.length:=har ts μ K Z q
 have sp:spN D ps.length g vs H Q (λc d H'=>W c d σ H'):=⟨by rw[←d.length];exact hl,φ,α,ts,μ,d,mr,K,Z,q,hq,hz⟩
 have hl2:us.length=ps.length:=by rw[←r.length,←d.length];exact hl
 refine zab (z9b (F.run X.A X.stack s H ⟨us,[]⟩ us vs Q (λc d H'=>W c d σ H') hr I.env0 (by simpa using hb s us I.kIn (by simpa using hl2)) r sp) λr s' hq=>?_)
 cases r with
 |error e=>exact C.xe e s' (yq (E:=λc d H'=>W c d σ H') I hq λcls d H' w=>w)
 |ok fl=>
  cases fl with
  |ret u=>exact I.after hq
  |next=>exact z8d hq
  |brk=>exact z8d hq
  |cont=>exact z8d hq
theorem z1m(C:Ck D W Γ X k){x:Str}{g:Fn}{p0:Pos}(hx:x∈Γ.G)(hg:Γ.gl x=.fn g)(hc:Γ.calm=true)(ha:EsOk X D W es fs):PE X (.Call (.Name x p0) es [] pos) (rdE D W (z5 g fs)):=by
 have q:=C.glo x hx
 rw[hg] at q
 obtain⟨fa,hm,fd,ps,kk,hk,hb,hkk,Fn,har⟩:=q
 have hr:=(C.rom hc).mono hkk
 have hs:=ha.stars
 have pa:=wM ha
 rintro pins s σ H Q I ⟨φ,α,τ,μ,sr,mr,p⟩
 refine z8t (vB I (C.glb x hx) hm ?_ (C.dbG x hx))
 cases es with
 |nil=>
  cases fs with
  |nil=>exact z9X I.kIn hk (yo (ts:=[]) C Fn hr hb har I .nil mr rfl p)
  |cons f fs=>exact ha.elim
 |cons e es=>
  simp only[z8B,z7x] at hs
  refine z9y (h₀:=X.base) I.ok.mod.kin hk (thn (UZ pa I sr mr p) ?_) (z4 hs.1) (zX hs.2)
  rintro us s1 ⟨vs,H1,ts,μ1,α1,I1,r1,st1,sr1,mr1,d1,_,p1⟩
  exact⟨I1.kIn,yo C Fn hr hb har I1 r1 mr1 d1 p1⟩
theorem run_mk{c:Nat}{g:Fn}{C0 fI:Addr}{fd:z8O}{ps:List Str}{kk:Nat}{us:List Value}{vs:List V}{ts:List T}{Q:VK}(C:Ck D W Γ X k)(ad:D.cad c=some C0)(M:Mk X.K C0 fI)(F:FnOk X.prog X.w X.K X.mg X.base (CX1 X.prog X.w) kk fI fd ps (spN D ps.length g))
  (hr:Room (kk+1) X.A) (hb:Binds X.K fd ps []) (har:∀ts μ K Z,g ts μ K Z->ts.length=ps.length) (I:Inv X pins σ H s) (r:Vals vs us) (mr:MRel D φ α H μ) (d:DenL D φ α H ts vs) (p:Post D W φ α H σ (RV D φ Q) (V3 c g ts μ)) :
  z7K (z7N X.prog X.w) X.A (call (.ref C0) us) (EP X pins σ Q) X.xe s:=by
 obtain⟨K,Z,⟨hp,hg⟩,hk,hz⟩:=p
 have hl:(T.mut 0::ts).length=ps.length:=har _ _ _ _ hg
 have hq:∀x dx,H x=none->H dx=none->dx≠x->spN D ps.length g (.ref x::(vs++[])) (upd (upd H dx (.own x)) x (.ins C0 dx [])) (λv H2=>v=.non/\Q (.ref x) H2) (λc d H'=>W c d σ H'):=by
  intro x dx hx hdx hne
  have sm:yl H (upd (upd H dx (.own x)) x (.ins C0 dx [])):=λb o e=>by rw[z8 (zK e hx),z8 (zK e hdx)];exact e
  have st0:Stp [] H [x] (upd (upd H dx (.own x)) x (.ins C0 dx [])):=⟨⟨[x],rfl,λb hb'=>by rw[z7C.mp hb'];exact hx⟩,λb o _ e=>sm b o e,λb e=>by
   cases q:H b with
   |none=>rfl
   |some o=>rw[sm b o q] at e;cases e⟩
  have nx:x∉φ++α:=λz=>(z7H.mp z).elim (zo mr hx) (zm mr hx)
  have ph:∀b∈φ++α,∃o,H b=some o:=λb hb'=>(z7H.mp hb').elim (mr.phi b) λz=>by
   obtain⟨i,hi⟩:=z9D.mp z
   have hl':i<μ.length:=by rw[←mr.len];exact (z7v.mp hi).1
   exact (mr.ob i b μ[i] hi (by simp[hl'])).some
  refine⟨by simp only[z7X,z8o] at hl ⊢;rw[←d.length];exact hl,φ++α,[x],.mut 0::ts,[.obj c []],⟨.ref x,vs++[],rfl,⟨x,rfl,rfl⟩,by rw[z8o];exact (DenL.hide hp d z0C).step st0⟩,⟨rfl,by simp,λb hb'=>by rw[z7C.mp hb'];exact nx,λb hb'=>let ⟨o,e⟩:=ph b hb';⟨o,sm b o e⟩,λi a o e1 e2=>?_⟩,?_⟩
  ·cases i with
   |zero=>simp at e1 e2;subst e1 e2;exact⟨C0,dx,[],ad,z7,rfl⟩
   |succ i=>simp at e1
  have back:∀{α2:List Addr} {H3:Hp},Stp [x] (upd (upd H dx (.own x)) x (.ins C0 dx [])) α2 H3->yl H H3:=λst b o e=>st.keep b o (λz=>by rw[z7C.mp z,hx] at e;cases e) (sm b o e)
  refine⟨_,_,hg,?_,?_⟩
  ·rintro t μ2 ⟨rfl,fs,h0,hpf,q⟩ α2 H3 st m v dv
   refine⟨dv,?_⟩
   obtain⟨β,rfl,_⟩:=st.ext
   obtain⟨C1,dx1,gs,ad1,e1,lf⟩:=m.ob 0 x _ rfl h0
   have sm3:=back st
   exact hk _ _ q α H3 (Stp.new sm3) (mr.new sm3) _ ⟨x,C1,dx1,gs,rfl,zo mr hx,zm mr hx,ad1,e1,DenF.hide hpf lf Wo⟩
  ·rintro e fs μ2 ⟨hpf,q⟩ α2 H3 C1 d1 st m had xd
   have sm3:=back st
   exact hz _ _ _ q α H3 C1 d1 (Stp.new sm3) (mr.new sm3) had (XDict.hide hpf xd Wo)
 have hq1:=hq (s.heap.objs.size+1) s.heap.objs.size (I.hok.fresh (zb6 _)) (I.hok.fresh (z7D _)) (z85 (z8J _))
 have I2:=Inv.made (C:=C0) I
 have r2:Vals (V.ref (s.heap.objs.size+1)::(vs++[])) (z80 (s.heap.objs.size+1)::us):=.cons rfl (by rw[z8o];exact r)
 have hlu:(z80 (s.heap.objs.size+1)::us++[]).length=ps.length:=by
  rw[z8o,z7X,←r.length,←d.length]
  exact hl
 refine zab (uy (f:=fI) I.kIn M.makes M.init (beq_iff_eq.mp M.fn) (z9b (F.run _ X.stack _ _ ⟨z80 (s.heap.objs.size+1)::us,[]⟩ (z80 (s.heap.objs.size+1)::us) _ _ (λc d H'=>W c d σ H') (hr.make C0 us [])
  (I2.env0.make C0 us []) (by simpa using hb _ (z80 (s.heap.objs.size+1)::us) I2.kIn hlu) r2 hq1) λr s' hq'=>?_))
 cases r with
 |error e=>exact C.xe e s' (yq (E:=λc d H'=>W c d σ H') I2 hq' λcls d H' w=>w)
 |ok fl=>
  cases fl with
  |ret u=>
   obtain⟨v,H',I3,rv,ev,q3⟩:=I2.after hq'
   subst ev
   exact⟨rv,⟨V.ref (s.heap.objs.size+1),H',I3,rfl,q3⟩⟩
  |next=>exact z8d hq'
  |brk=>exact z8d hq'
  |cont=>exact z8d hq'
theorem z1r(C:Ck D W Γ X k){x:Str}{c:Nat}{g:Fn}{p0:Pos}(hx:x∈Γ.G)(hg:Γ.gl x=.mk c true g)(hc:Γ.calm=true)(ha:EsOk X D W es fs):PE X (.Call (.Name x p0) es [] pos) (rdE D W (eMk c g fs)):=by
 have q:=C.glo x hx
 rw[hg] at q
 obtain⟨C0,fI,fd,ps,kk,ad,hm,M,hb,hkk,Fn,har⟩:=q
 have hr:=(C.rom hc).mono hkk
 have hs:=ha.stars
 have pa:=wM ha
 rintro pins s σ H Q I ⟨φ,α,τ,μ,sr,mr,p⟩
 refine z8t (vB I (C.glb x hx) hm ?_ (C.dbG x hx))
 cases es with
 |nil=>
  cases fs with
  |nil=>exact z9X I.kIn M.kp (run_mk (ts:=[]) C ad M Fn hr hb har I .nil mr rfl p)
  |cons f fs=>exact ha.elim
 |cons e es=>
  simp only[z8B,z7x] at hs
  refine z9y (h₀:=X.base) I.ok.mod.kin M.kp (thn (UZ pa I sr mr p) ?_) (z4 hs.1) (zX hs.2)
  rintro us s1 ⟨vs,H1,ts,μ1,α1,I1,r1,st1,sr1,mr1,d1,_,p1⟩
  exact⟨I1.kIn,run_mk C ad M Fn hr hb har I1 r1 mr1 d1 p1⟩
theorem z4b(C:Ck D W Γ X k){x:Str}{n:Nat}(hp:zR a=true)(hn:(x,n)∈Γ.fld)(ha:PE X a (rdE D W f)):PE X (.Attribute a x pos) (rdE D W (ze f n)):=by
 refine PE.mono (z3t ha (qA hp)) ?_
 rintro σ H Q ⟨φ,α,τ,μ,sr,mr,p⟩
 refine⟨φ,α,τ,μ,sr,mr,p.bind.mono λt μ1 α1 H1 st m q v d=>?_⟩
 unfold Qy at q
 split at q
 ·split at q
  ·rename_i c fs _ w hw
   obtain⟨ad,C0,dx,gs,rfl,_,_,e1,e2,l⟩:=d
   obtain⟨y,z,hy,hz,dz⟩:=l.look hw
   obtain⟨c0,c1,c2⟩:=C.fld c C0 x n e1 hn
   rw[hy] at c0;cases c0
   exact⟨ad,C0,dx,gs,z,rfl,e2,c1,c2,hz,q.here m dz⟩
  ·exact q.elim
 ·obtain⟨c,fs,w,hi,hw,q⟩:=q.ex3
  obtain⟨ad,hi',rfl⟩:=d
  obtain⟨C0,dx,gs,e1,e2,l⟩:=m.ob _ ad _ hi' hi
  obtain⟨y,z,hy,hz,dz⟩:=l.look hw
  obtain⟨c0,c1,c2⟩:=C.fld c C0 x n e1 hn
  rw[hy] at c0;cases c0
  exact⟨ad,C0,dx,gs,z,rfl,e2,c1,c2,hz,Post.here q m dz⟩
 ·exact q.elim
end
end NH
end
section
namespace NH
open PySem PySem.Spec PyProof.Rows L2
section
variable {X:Cx}{D:DP}{W:XW}{Γ:Cn}{k:Nat}{pins:List (Addr×Obj)}{s:Shared}{σ:St}{H:Hp}{φ α:List Addr}{τ:Sl}{μ:Mem}{f g h:De}{a b c:Expr}{pos:Pos}{es:List Expr}
theorem JZ{B:Prop}(C:Ck D W Γ X k){c:Nat}{C0 dx ad:Addr}{gs:List (Str×V)}(I:Inv X pins σ H s)(e1:D.cad c=some C0)(ea:H ad=some (.ins C0 dx gs))
  (hh:∀tv P,Wu D c tv->zbL X.K (.ref ad) tv P->P s.heap->(z80 ad)≠.builtin "__main__.__loader__#opaque"->B):B:=by
 have o:=C.ocx c C0 e1
 obtain⟨mA,O,_⟩:=kI I.hok ea
 obtain⟨od,J,_⟩:=O.look
 exact hh _ _ (.inr (.inr (.inr (.inr (.inr (.inr (.inr (.inr ⟨C0,e1,rfl⟩)))))))) (PySem.W.kitx_own (o.cl.get _) o.cl.hd o.fi o.sp o.tk o.ob) J (λz=>nomatch z)
theorem z4y {B : Prop} (C : Ck D W Γ X k) {t : T} {v : V} {u : Value} {n : Nat} (I : Inv X pins σ H s) (d : Den D φ α H t v) (r : RelV v u) (ht : tyN t μ = some n)
    (hh : ∀ tv P,Wu D n tv -> zbL X.K u tv P -> P s.heap -> u ≠ .builtin "__main__.__loader__#opaque" -> B) : B := by
  cases t with
  | non => cases d; cases r; cases ht; exact hh _ _ (.inl ⟨rfl,rfl⟩) PySem.W.kitx_none z8I (fun z => nomatch z)
  | bl b => cases d; cases r; cases ht; exact hh _ _ (.inr (.inl ⟨rfl,rfl⟩)) PySem.W.kitx_bool z8I (fun z => nomatch z)
  | int i => cases d; obtain ⟨t,rfl⟩ := r; cases ht; exact hh _ _ (.inr (.inr (.inl ⟨rfl,rfl⟩))) PySem.W.kitx_int z8I (fun z => nomatch z)
  | str i => cases d; obtain ⟨t,rfl⟩ := r; cases ht; exact hh _ _ (.inr (.inr (.inr (.inl ⟨rfl,rfl⟩)))) PySem.W.kitx_str z8I (fun z => nomatch z)
  | tup ts =>
    obtain ⟨ad,xs,rfl,_,_,q,_⟩ := d; cases r; cases ht
    obtain ⟨its,_,⟨o,h1,h2,_⟩,_⟩ := I.tuple (.inl q)
    exact hh _ _ (.inr (.inr (.inr (.inr (.inl ⟨rfl,rfl⟩))))) PySem.W.kitx_tuple ⟨o,h1,h2⟩ (fun z => nomatch z)
  | lst ts =>
    obtain ⟨ad,xs,rfl,_,_,q,_⟩ := d; cases r; cases ht
    obtain ⟨its,_,p,_⟩ := I.list (.inl q)
    obtain ⟨o,h1,h2,_⟩ := p.isList
    exact hh _ _ (.inr (.inr (.inr (.inr (.inr (.inl ⟨rfl,rfl⟩)))))) zcU ⟨o,h1,h2⟩ (fun z => nomatch z)
  | exc c fs =>
    obtain ⟨ad,C0,dd,rfl,_,_,e1,e2,xd⟩ := d; cases r; cases ht
    have hx := C.xcx n C0 e1
    obtain ⟨p,_⟩ := (show ObjOk X.prog X.w H s.heap ad (.ext (XcAt ad C0 dd)) from I.hok ad _ e2)
    have xd : XDict D φ α H fs dd := by cases dd <;> exact xd
    exact hh _ _ (.inr (.inr (.inr (.inr (.inr (.inr (.inl ⟨C0,e1,rfl⟩))))))) (UP hx) ⟨p,xd.ext I⟩ (fun z => nomatch z)
  | dic kvs =>
    obtain ⟨ad,gs,rfl,_,_,e,_⟩ := d; cases r; cases ht
    obtain ⟨_,_,vs,_,dd⟩ := (show ObjOk X.prog X.w H s.heap ad (.dK gs) from I.hok ad _ e)
    exact hh _ _ (.inr (.inr (.inr (.inr (.inr (.inr (.inr (.inl ⟨rfl,rfl⟩)))))))) zcV dd.typeIs (fun z => nomatch z)
  | obj c fs =>
    obtain ⟨ad,C0,dx,gs,rfl,_,_,e1,e2,l⟩ := d; cases r; cases ht
    exact JZ C I e1 e2 hh
  | «mut» i => cases ht
  | clo j cs => cases ht
theorem z0y{B:Prop}(C:Ck D W Γ X k){i:Nat}{v:V}{u:Value}{o:MO}(I:Inv X pins σ H s)(mr:MRel D φ α H μ)(d:Den D φ α H (.mut i) v)(r:RelV v u)(ht:μ[i]?=some o)(hnt:z2s o=false)
  (hh:∀tv P,Wu D (tyO o) tv->zbL X.K u tv P->P s.heap->u≠.builtin "__main__.__loader__#opaque"->B):B:=by
 obtain⟨ad,hi,rfl⟩:=d
 cases r
 have dd:=mr.ob i ad o hi ht
 cases o with
 |lst ts=>
  obtain⟨xs,q,_⟩:=dd
  obtain⟨its,_,p,_⟩:=I.list (.inl (.inl q))
  obtain⟨o,h1,h2,_⟩:=p.isList
  exact hh _ _ (.inr (.inr (.inr (.inr (.inr (.inl ⟨rfl,rfl⟩)))))) zcU ⟨o,h1,h2⟩ (λz=>nomatch z)
 |obj c fs=>
  obtain⟨C0,dx,gs,e1,e2,l⟩:=dd
  exact JZ C I e1 e2 hh
 |dic kvs=>
  obtain⟨gs,e,_⟩:=dd
  obtain⟨_,_,vs,_,dd⟩:=(show ObjOk X.prog X.w H s.heap ad (.dK gs) from I.hok ad _ e)
  exact hh _ _ (.inr (.inr (.inr (.inr (.inr (.inr (.inr (.inl ⟨rfl,rfl⟩)))))))) zcV dd.typeIs (λz=>nomatch z)
 |tab j=>cases hnt
theorem Ki{B:Prop}(C:Ck D W Γ X k){t:T}{v:V}{u:Value}{cs:List Nat}{Q:VK}(I:Inv X pins σ H s)(mr:MRel D φ α H μ)(d:Den D φ α H t v)(r:RelV v u)(q:Post D W φ α H σ (RV D φ Q) (YV cs t μ))
  (hh:∀n tv P,Post D W φ α H σ (RV D φ Q) (.ok (.bl (isAny n cs)) μ)->Wu D n tv->zbL X.K u tv P->P s.heap->u≠.builtin "__main__.__loader__#opaque"->B):B:=by
 unfold YV at q
 split at q
 ·obtain⟨o,ho,q⟩:=q.som
  rcases q.br with⟨_,q⟩|⟨hb,q⟩
  ·exact q.elim
  ·exact z0y C I mr d r ho hb λtv P=>hh _ tv P q
 ·split at q
  ·rename_i tn htn
   exact z4y C I d r htn λtv P=>hh _ tv P q
  ·exact q.elim
noncomputable def vy(Γ:Cn):List Expr->Option (List Nat)
 |[]=>some []
 |e::r=>match e with
  |.Name x _=>if (idx Γ.N x).isNone&&Γ.G.contains x then (match Γ.cls.lookup x with
   |some c=>(vy Γ r).map (c::·)
   |none=>none) else none
  |_=>none
noncomputable def uf(Γ:Cn)(e:Expr):Option (List Nat):=match e with
 |.Name _ _=>vy Γ [e]
 |.Tuple es _ _=>if decide (es.length<=room) then vy Γ es else none
 |_=>none
theorem lookup_mem{β:Type}{x:Str}{v:β}:∀{l:List (Str×β)},l.lookup x=some v->(x,v)∈l
 |[],h=>by cases h
 |(y,w)::r,h=>by
  rw[z8c] at h
  cases q:x == y with
  |true=>rw[q] at h;cases h;rw[beq_iff_eq.mp q];exact z7Z
  |false=>rw[q] at h;exact z7O _ (lookup_mem h)
theorem z4g(C:Ck D W Γ X k){x:Str}{c:Nat}(hc:x∈Γ.G)(hl:(x,c)∈Γ.cls):∃u v,UJ X x u/\ClsV v u/\∀p0,PE X (.Name x p0) (tC v):=by
 obtain⟨u,v,cv,r⟩:=C.clv x c hl
 refine⟨u,v,cv,r,λp0=>?_⟩
 rcases cv with h|⟨h,hb,hn⟩
 ·exact Kh (C.glb x hc) h r.rel (C.dbG x hc)
 ·exact z0T (C.glb x hc) h hb r.rel hn (C.dbG x hc)
theorem Qr(C:Ck D W Γ X k):∀{es:List Expr} {cs:List Nat},vy Γ es=some cs->∃us vs,(∀us',Vals vs us'->us'=us)/\vs.length=es.length/\es.all noStar=true/\PA X es (λ_ H Q=>Q vs H)/\∀t tv,Wu D t tv->zc6 X.K tv us=some (isAny t cs)
 |[],cs,h=>by
  simp[vy] at h;subst h
  exact⟨[],[],λus' r=>by cases r;rfl,rfl,rfl,λpos pins s σ H Q I q=>qD pos pins s σ H Q I q,λt tv _=>rfl⟩
 |e::es,cs,h=>by
  unfold vy at h
  split at h
  ·rename_i x p0
   split at h
   ·rename_i hc
    simp only[z7x,z9E] at hc
    split at h
    ·rename_i c hl
     cases hr:vy Γ es with
     |none=>rw[hr] at h;cases h
     |some cs'=>
      rw[hr] at h
      cases h
      have hm:=lookup_mem hl
      obtain⟨us,vs,rv,hl,hs,hp,hk⟩:=Qr C hr
      obtain⟨u,v,cv,r,pe⟩:=z4g C hc.2 hm
      refine⟨u::us,v::vs,λus' q=>by cases q with|cons q1 q2=>rw[r.only q1,rv _ q2],by simp[hl],by simp[noStar,hs],λpos pins s σ H Q I q=>zy (pe p0) hp (z4 rfl) pos pins s σ H Q I q,λt tv ht=>?_⟩
      have k1:=C.isi t x c hm tv u ht cv
      have k2:=hk t tv ht
      unfold zc6
      rw[k1]
      rw[yQ]
      cases hb:vL t c with
      |true=>rfl
      |false=>exact k2
    ·cases h
   ·cases h
  ·cases h
theorem z5r (C:Ck D W Γ X k) {cs:List Nat} {p0:Pos} (hx:("isinstance":Str)∈Γ.G) (hg:Γ.gl "isinstance"=.none) (hs:noStar a=true) (hcs:uf Γ c=some cs) (ha:PE X a (rdE D W f)):PE X (.Call (.Name "isinstance" p0) [a,c] [] pos) (rdE D W (jZ cs f)):=by
 have hm:=C.glo _ hx
 rw[hg] at hm
 rintro pins s σ H Q I ⟨φ,α,τ,μ,sr,mr,p⟩
 refine z8t (vn I (C.glb _ hx) hm boot_isinstance ?_ (by decide) (C.dbG _ hx))
 unfold uf at hcs
 split at hcs
 ·rename_i cn pc
  obtain⟨us0,vs0,hu,hl,hst,hp,hk⟩:=Qr C hcs
  refine z8K (thn (zy ha hp (z4 hs) pos pins s σ H (λvs H1=>∃v t μ1 α1,vs=v::vs0/\Stp α H α1 H1/\MRel D φ α1 H1 μ1/\Den D φ α1 H1 t v/\Post D W φ α1 H1 σ (RV D φ Q) (YV cs t μ1)) I ⟨φ,α,τ,μ,sr,mr,p.bind.mono λt μ' α' H' st m q v d=>⟨v,t,μ',α',rfl,st,m,d,q⟩⟩) ?_) (z4 hs) (zX (by rfl))
  rintro us s1 ⟨vs,H1,I1,rv,v,t,μ1,α1,rfl,st,m,d,q⟩
  cases rv with
  | @cons _ u _ us' r1 r2=>
  obtain rfl:=hu us' r2
  have hlu:us'.length=1:=by rw[←r2.length];exact hl
  match us',hlu with
  |[uc],_=>
  refine Ki C I1 m d r1 q λtn tv P q ht kx hP hne=>?_
  have kk:=hk tn tv ht
  have k1:zaV X.K tv uc=some (isAny tn cs):=by
   unfold zc6 at kk
   split at kk
   ·rename_i hb;rw[hb];exact kk
   ·rename_i hb;rw[hb];exact kk
   ·cases kk
  exact PySem.W.kia_one kx I1.kIn hP k1 hne λtk=>⟨.bl _,H1,I1.tok tk,rfl,q.here m rfl⟩
 ·rename_i ees kk pc
  split at hcs
  case isFalse=>cases hcs
  rename_i hlen
  obtain⟨us0,vs0,hu,hl,hst,hp,hk⟩:=Qr C hcs
  refine z8K (thn (zy ha (zy (YZ hp) qD (z4 rfl)) (z4 hs) pos pins s σ H (λvs H2=>∃v tp H1 t μ1 α1,vs=[v,.ref tp]/\H1 tp=none/\H2=upd H1 tp (.tup vs0)/\Stp α H α1 H1/\MRel D φ α1 H1 μ1/\Den D φ α1 H1 t v/\Post D W φ α1 H1 σ (RV D φ Q) (YV cs t μ1)) I ⟨φ,α,τ,μ,sr,mr,p.bind.mono λt μ' α' H' st m q v d=>⟨by rw[hl];exact zt (by simpa using hlen),λtp htp=>⟨v,tp,H',t,μ',α',rfl,htp,rfl,st,m,d,q⟩⟩⟩) ?_) (z4 hs) (zX (by rfl))
  rintro us s1 ⟨vs,H2,I1,rv,v,tp,H1,t,μ1,α1,rfl,htp,rfl,st,m,d,q⟩
  obtain⟨u,ut,rfl,r1,r2⟩:=vals2 rv
  have r2:ut=z80 tp:=r2
  subst r2
  have sm:yl H1 (upd H1 tp (.tup vs0)):=za htp
  refine Ki C I1 (m.new sm) (d.step (Stp.new sm)) r1 (q.step (Stp.new sm)) λtn tv P q ht kx hP hne=>?_
  obtain⟨_,its,rvs,⟨o,ho,hcl,n,hd⟩⟩:=(show ObjOk X.prog X.w _ s1.heap tp (.tup vs0) from I1.hok tp _ z7)
  obtain rfl:=hu its rvs
  obtain⟨oc,odd,odt,osl⟩:=o
  simp only at hcl hd
  subst hcl hd
  exact PySem.W.kia_tup kx I1.kIn hP ho (hk tn tv ht) hne λtk=>⟨.bl _,_,I1.tok tk,rfl,q.here (m.new sm) rfl⟩
 ·cases hcs
end
end NH
end
section
namespace NH
open PySem PySem.Spec PyProof.Rows L2
section
variable {X:Cx}{D:DP}{W:XW}{Γ:Cn}{k:Nat}{pins:List (Addr×Obj)}{s:Shared}{σ:St}{H:Hp}{φ α:List Addr}{τ:Sl}{μ:Mem}{f g h:De}{a b c:Expr}{pos:Pos}{es:List Expr}
noncomputable def B1 (X:Cx)(D:DP)(W:XW)(fv:Value)(op:T->Mem->RE T):Prop:=
 ∀(pins:List (Addr×Obj)) (s:z7y) (σ:St) (H:Hp) (φ α:List Addr) (μ:Mem) (t:T) (v:V) (u:Value) (Q:VK),Inv X pins σ H s->MRel D φ α H μ->Den D φ α H t v->RelV v u->Post D W φ α H σ (RV D φ Q) (op t μ)->
  z7K (z7N X.prog X.w) X.A (call fv [u]) (EP X pins σ Q) X.xe s
theorem Yb (C:Ck D W Γ X k) {x:Str} {id:String} {op:T->Mem->RE T} {p0:Pos} (hx:x∈Γ.G) (hg:Γ.gl x=.none) (hv:z8W x=some (.builtin id)) (hn:x≠"__name__") (hs:noStar a=true) (hb:B1 X D W (.builtin id) op) (ha:PE X a (rdE D W f)) :
  PE X (.Call (.Name x p0) [a] [] pos) (rdE D W (eB1 op f)):=by
 have hm:=C.glo _ hx
 rw[hg] at hm
 rintro pins s σ H Q I ⟨φ,α,τ,μ,sr,mr,p⟩
 refine z8t (vn I (C.glb _ hx) hm hv ?_ hn (C.dbG _ hx))
 refine z8K (thn (zy ha qD (z4 hs) pos pins s σ H (λvs H1=>∃v t μ1 α1,vs=[v]/\Stp α H α1 H1/\MRel D φ α1 H1 μ1/\Den D φ α1 H1 t v/\Post D W φ α1 H1 σ (RV D φ Q) (op t μ1)) I ⟨φ,α,τ,μ,sr,mr,p.bind.mono λt μ' α' H' st m q v d=>⟨v,t,μ',α',rfl,st,m,d,q⟩⟩) ?_) (z4 hs) (zX (by rfl))
 rintro us s1 ⟨vs,H1,I1,rv,v,t,μ1,α1,rfl,st,m,d,q⟩
 obtain⟨u,rfl,r1⟩:=vals1 rv
 exact hb pins s1 σ H1 φ α1 μ1 t v u Q I1 m d r1 q
theorem U3 (C:Ck D W Γ X k) {x:Str} {id:String} {op:T->Mem->RE T} {p0:Pos} (hx:x∈Γ.G) (hg:Γ.gl x=.none) (hv:z8W x=some (.type id)) (hn:x≠"__name__") (hs:noStar a=true) (hb:B1 X D W (.type id) op) (ha:PE X a (rdE D W f)) :
  PE X (.Call (.Name x p0) [a] [] pos) (rdE D W (eB1 op f)):=by
 have hm:=C.glo _ hx
 rw[hg] at hm
 rintro pins s σ H Q I ⟨φ,α,τ,μ,sr,mr,p⟩
 refine z8t (vn I (C.glb _ hx) hm hv ?_ hn (C.dbG _ hx))
 refine z8Y (thn (zy ha qD (z4 hs) pos pins s σ H (λvs H1=>∃v t μ1 α1,vs=[v]/\Stp α H α1 H1/\MRel D φ α1 H1 μ1/\Den D φ α1 H1 t v/\Post D W φ α1 H1 σ (RV D φ Q) (op t μ1)) I ⟨φ,α,τ,μ,sr,mr,p.bind.mono λt μ' α' H' st m q v d=>⟨v,t,μ',α',rfl,st,m,d,q⟩⟩) ?_) (z4 hs) (zX (by rfl))
 rintro us s1 ⟨vs,H1,I1,rv,v,t,μ1,α1,rfl,st,m,d,q⟩
 obtain⟨u,rfl,r1⟩:=vals1 rv
 exact hb pins s1 σ H1 φ α1 μ1 t v u Q I1 m d r1 q
theorem z64:B1 X D W (.builtin "len") vN:=by
 intro pins s σ H φ α μ t v u Q I mr d r p
 unfold vN at p
 split at p
 ·obtain⟨ad,xs,rfl,_,_,q,l⟩:=d
  exact vp pins s σ H _ _ Q I (.cons r .nil) ⟨ad,xs,rfl,.inl (.inl q),by rw[←l.length];exact p.here mr rfl⟩
 ·obtain⟨ad,xs,rfl,_,_,q,l⟩:=d
  exact vp pins s σ H _ _ Q I (.cons r .nil) ⟨ad,xs,rfl,.inr (.inl q),by rw[←l.length];exact p.here mr rfl⟩
 ·cases d
  obtain⟨hl,p⟩:=p.grd
  exact QL pins s σ H _ _ Q I (.cons r .nil) ⟨_,rfl,zt hl,p.here mr rfl⟩
 ·obtain⟨ts,hj,p⟩:=p.ex1
  obtain⟨ad,hi,rfl⟩:=d
  obtain⟨xs,q,l⟩:=mr.ob _ ad _ hi hj
  exact vp pins s σ H _ _ Q I (.cons r .nil) ⟨ad,xs,rfl,.inl (.inl (.inl q)),by rw[←l.length];exact Post.here p mr rfl⟩
 ·exact p.elim
theorem z5Q:B1 X D W (.type "int") z1H:=by
 intro pins s σ H φ α μ t v u Q I mr d r p
 unfold z1H at p
 split at p
 ·cases d;exact Q8 pins s σ H _ _ Q I (.cons r .nil) (.inl ⟨_,rfl,p.here mr rfl⟩)
 ·cases d;exact Q8 pins s σ H _ _ Q I (.cons r .nil) (.inr ⟨_,rfl,p.here mr rfl⟩)
 ·exact p.elim
theorem z5a:B1 X D W (.type "list") V4:=by
 intro pins s σ H φ α μ t v u Q I mr d r p
 unfold V4 at p
 split at p
 ·obtain⟨ad,xs,rfl,_,_,q,l⟩:=d
  exact qj pins s σ H _ _ Q I (.cons r .nil) ⟨ad,xs,rfl,.inl (.inl q),λz hz=>p.fresh mr (za hz) ⟨z,xs,rfl,zo mr hz,zm mr hz,.inl z7,l.step (Stp.new (za hz))⟩⟩
 ·obtain⟨ad,xs,rfl,_,_,q,l⟩:=d
  exact qj pins s σ H _ _ Q I (.cons r .nil) ⟨ad,xs,rfl,.inr (.inl q),λz hz=>p.fresh mr (za hz) ⟨z,xs,rfl,zo mr hz,zm mr hz,.inl z7,l.step (Stp.new (za hz))⟩⟩
 ·obtain⟨ts,hj,p⟩:=p.ex1
  obtain⟨ad,hi,rfl⟩:=d
  obtain⟨xs,q,l⟩:=mr.ob _ ad _ hi hj
  exact qj pins s σ H _ _ Q I (.cons r .nil) ⟨ad,xs,rfl,.inl (.inl (.inl q)),λz hz=>Post.fresh p mr (za hz) ⟨z,xs,rfl,zo mr hz,zm mr hz,.inl z7,l.step (Stp.new (za hz))⟩⟩
 ·exact p.elim
theorem jg{p:Addr}{o:HO}(hp:H p=none):Stp α H (α++[p]) (upd H p o):=⟨⟨[p],rfl,by simpa using hp⟩,λb u _ e=>za hp b u e,λb e=>by
 by_cases z:b=p
 ·rw[z,z7] at e;cases e
 ·rw[z8 z] at e;exact e⟩
theorem MRel.lay{p:Addr}{ts:List T}{vs:List V}(m:MRel D φ α H μ)(hp:H p=none)(l:DenL D φ α H ts vs):MRel D φ (α++[p]) (upd H p (.lst vs)) (μ++[.lst ts]):=by
 have st:Stp α H (α++[p]) (upd H p (.lst vs)):=jg hp
 have hl:=m.len
 refine⟨by simp[hl],?_,λb hb=>?_,λb hb=>?_,λi a o e1 e2=>?_⟩
 ·rw[zan]
  refine⟨m.nd,by simp,λa ha b hb=>?_⟩
  rw[z7C.mp hb]
  intro z
  exact zm m hp (z▸ha)
 ·rcases z7H.mp hb with h|h
  ·exact m.dis b h
  ·rw[z7C.mp h];exact zo m hp
 ·obtain⟨u,e⟩:=m.phi b hb
  exact⟨u,za hp b u e⟩
 ·by_cases hi:i<α.length
  ·rw[z7F hi] at e1
   rw[z7F (by omega)] at e2
   have d:=m.ob i a o e1 e2
   obtain⟨u,q⟩:=d.some
   exact d.step st ((za hp _ _ q).trans q.symm)
  ·rw[z7L (by omega)] at e1 e2
   have hi':i-α.length=0:=by
    by_cases z:i-α.length=0
    ·exact z
    ·rw[zat (by simp;omega)] at e1;cases e1
   have hi2:i-μ.length=0:=by omega
   rw[hi'] at e1
   rw[hi2] at e2
   have e1:some p=some a:=e1
   have e2:some (MO.lst ts)=some o:=e2
   cases e1;cases e2
   exact⟨vs,z7,l.step st⟩
theorem Post.lay{Q:VK}{p:Addr}{ts:List T}{vs:List V}(q:Post D W φ α H σ (RV D φ Q) (.ok (.mut μ.length) (μ++[.lst ts])))(m:MRel D φ α H μ)(hp:H p=none)(l:DenL D φ α H ts vs):Q (.ref p) (upd H p (.lst vs)):=
 q.ok (jg hp) (m.lay hp l) _ ⟨p,by rw[←m.len,z7L (z7D _)];simp,rfl⟩
theorem z67:B1 X D W (.type "list") z0l:=by
 intro pins s σ H φ α μ t v u Q I mr d r p
 unfold z0l at p
 split at p
 ·obtain⟨ad,xs,rfl,_,_,q,l⟩:=d
  exact qj pins s σ H _ _ Q I (.cons r .nil) ⟨ad,xs,rfl,.inl (.inl q),λz hz=>p.lay mr hz l⟩
 ·obtain⟨ad,xs,rfl,_,_,q,l⟩:=d
  exact qj pins s σ H _ _ Q I (.cons r .nil) ⟨ad,xs,rfl,.inr (.inl q),λz hz=>p.lay mr hz l⟩
 ·obtain⟨ts,hj,p⟩:=p.ex1
  obtain⟨ad,hi,rfl⟩:=d
  obtain⟨xs,q,l⟩:=mr.ob _ ad _ hi hj
  exact qj pins s σ H _ _ Q I (.cons r .nil) ⟨ad,xs,rfl,.inl (.inl (.inl q)),λz hz=>Post.lay p mr hz l⟩
 ·exact p.elim
theorem z4H{fs:List De}(hl:es.length<=room)(ha:EsOk X D W es fs):PE X (.List es pos) (rdE D W (Vv fs)):=by
 refine PE.mono (YH (wM ha)) ?_
 rintro σ H Q ⟨φ,α,τ,μ,sr,mr,p⟩
 refine⟨φ,α,τ,μ,sr,mr,p.bind.mono λts μ1 α1 H1 st m q vs dl hn=>⟨by rw[hn];exact zt hl,λz hz=>q.lay m hz dl⟩⟩
theorem WI:∀{ts:List T} {bs:List Bool} {vs:List V} {us:List Value},bools ts=some bs->DenL D φ α H ts vs->Vals vs us->us=bs.map zaM
 |[],bs,vs,us,h,l,r=>by
  simp[bools] at h;subst h
  have l:vs=[]:=l
  subst l;cases r;rfl
 |t::ts,bs,vs,us,h,l,r=>by
  obtain⟨v,w,rfl,d,l⟩:=l
  cases t with
  |bl b=>
   simp only[bools] at h
   cases q:bools ts with
   |none=>rw[q] at h;cases h
   |some cs=>
    rw[q] at h;cases h
    cases r with
    |cons r1 r2=>
     cases d;cases r1
     rw[WI q l r2];rfl
  |_=>simp[bools] at h
theorem z6P(hh:X.calm=true):B1 X D W (.builtin "all") XE:=by
 intro pins s σ H φ α μ t v u Q I mr d r p
 unfold XE at p
 split at p
 case h_2=>exact p.elim
 rename_i xs
 obtain⟨bs,hb,p⟩:=p.som
 obtain⟨ad,vs,rfl,_,_,q,l⟩:=d
 cases r
 obtain⟨its,rv,pl,hz⟩:=I.list (.inl q)
 have eb:=WI hb l rv
 have hl:=pl.isList
 have hlt:ad<s.heap.objs.size:=by obtain⟨_,e,_⟩:=hl;exact z7T e
 refine call_all_walk (zb7 hl ?_)
 refine⟨s.heap.objs.size,[s.heap.objs.size,ad],[s.heap.objs.size],its.toArray.size,_,_,λi=>(bs[i]?).getD true,rfl,Walks.list (A:=X.A.in1) (I.ok.hd hh) _ ad (z85 hlt) its.toArray,
  ⟨⟨_,z7W _ rfl,rfl,rfl⟩,hl.push _⟩,λi v s' Q' E' hP hQ=>?_,λh' tk hk=>?_⟩
 ·have hP':its[i]?=some v:=by simpa using hP
  rw[eb,z83] at hP'
  cases e:bs[i]? with
  |none=>rw[e] at hP';cases hP'
  |some b=>
   rw[e] at hP'
   simp at hP'
   subst hP'
   simp only[e,zbs] at hQ
   exact z8a hQ
 ·have e:((z8y its.toArray.size).all λi=>(bs[i]?).getD true)=bs.all id:=by
   have hn:its.toArray.size=bs.length:=by simp[eb]
   rw[hn]
   rw[za8]
   simp only[z8j,z9J,id_eq]
   constructor
   ·intro h b hb'
    obtain⟨i,hi,rfl⟩:=zc7.mp hb'
    have:=h i hi
    simpa[hi] using this
   ·intro h i hi
    have:=h bs[i] (List.getElem_mem hi)
    simpa[hi] using this
  rw[e]
  have kp:∀b x,s.heap.get? b=some x->h'.get? b=some x:=λb x e=>hk b x (λhm=>by rw[z7C.mp hm] at e;exact z8M _ (z7T e)) (z7z _ e)
  exact⟨.bl (bs.all id),H,I.kept (t':=tk) kp,rfl,p.here mr rfl⟩
theorem Stp.turn{x:Addr}{o:HO}(hx:x∈α)(hh:∃o',H x=some o'):Stp α H α (upd H x o):=by
 refine⟨⟨[],by simp,by simp⟩,λb u n e=>?_,λb e=>?_⟩
 ·rw[z8 (λ(z:b=x)=>n (by rw[z];exact hx))];exact e
 ·by_cases z:b=x
  ·rw[z,z7] at e;cases e
  ·rw[z8 z] at e;exact e
theorem MRel.turn{i:Nat}{x:Addr}{o:HO}{mo:MO}(m:MRel D φ α H μ)(hx:α[i]?=some x)(hi:i<μ.length)(st:Stp α H α (upd H x o))(d:DenO D φ α (upd H x o) mo x):MRel D φ α (upd H x o) (μ.set i mo):=by
 refine⟨by simp[m.len],m.nd,m.dis,λb hb=>?_,λj y o' e1 e2=>?_⟩
 ·obtain⟨u,hu⟩:=m.phi b hb
  exact⟨u,st.keep b u (λz=>m.dis b z hb) hu⟩
 ·by_cases q:i=j
  ·subst q
   rw[hx] at e1;cases e1
   rw[zaj hi] at e2;cases e2
   exact d
  ·rw[z81 q] at e2
   have ne:y≠x:=λz=>by
    subst z
    obtain⟨h1,e1'⟩:=z7v.mp e1
    obtain⟨h2,e2'⟩:=z7v.mp hx
    exact q ((zbm m.nd).mp (e2'.trans e1'.symm))
   exact DenO.step st (z8 ne) (m.ob j y o' e1 e2)
theorem Yc{i:Nat}{x:Addr}{xs:List V}{ts:List T}{v:V}{t:T}(m2:MRel D φ α H μ)(hx2:α[i]?=some x)(hμ:μ[i]?=some (.lst ts))(hH:H x=some (.lst xs))(l:DenL D φ α H ts xs)(d:Den D φ α H t v) :
  Stp α H α (upd H x (.lst (xs++[v])))/\MRel D φ α (upd H x (.lst (xs++[v]))) (μ.set i (.lst (ts++[t]))):=by
 have st3:Stp α H α (upd H x (.lst (xs++[v]))):=Stp.turn (z7P hx2) ⟨_,hH⟩
 have hi:i<μ.length:=(z7v.mp hμ).1
 exact⟨st3,m2.turn hx2 hi st3 ⟨_,z7,(l.step st3).append ⟨v,[],rfl,d.step st3,rfl⟩⟩⟩
theorem z4S{o:Expr}{pa pc:Pos}{go:De}(hp:zR o=true)(hs:noStar a=true)(hline:(pa.endLine == pc.line)=true)(ho:PE X o (rdE D W go))(ha:PE X a (rdE D W f)) :
  PE X (.Call (.Attribute o "append" pa) [a] [] pc) (rdE D W (WC go f)):=by
 have hb:z8l [a] X.env=[(false,eval a X.env)]:=z4 hs
 refine PE.mono (XR zah PySem.F.slot_list_append PySem.F.type_list_append ZA ho (zy ha qD (z4 hs)) (qA hp) (by rw[hb];rfl) hline (z4 hs) rfl) ?_
 rintro σ H Q ⟨φ,α,τ,μ,sr,mr,p⟩
 refine⟨φ,α,τ,μ,sr,mr,p.bind.mono λot μ1 α1 H1 st1 m1 q ov dv=>?_⟩
 split at q
 case h_2=>exact q.elim
 rename_i i
 obtain⟨K,Z,⟨⟨ts0,hμ0⟩,hf⟩,hk,hz⟩:=q
 obtain⟨x,hx,rfl⟩:=dv
 obtain⟨xs0,hH0,l0⟩:=m1.ob _ x _ hx hμ0
 refine⟨.inl ⟨rfl,_,.inl (.inl hH0)⟩,φ,α1,τ,μ1,sr.step st1,m1,_,Z,hf,?_,hz⟩
 rintro t μ2 ⟨ts,hμ,hl,q2⟩ α2 H2 st2 m2 v d
 obtain⟨β,e2,_⟩:=st2.ext
 have hx2:α2[i]?=some x:=by
  rw[e2,z7F (z7v.mp hx).1];exact hx
 obtain⟨xs,hH,l⟩:=m2.ob i x _ hx2 hμ
 obtain⟨st3,m3⟩:=Yc m2 hx2 hμ hH l d
 refine⟨x,xs,v,rfl,rfl,hH,?_,?_⟩
 ·rw[←l.length];exact z7I hl (zt (z7D _))
 ·exact hk _ _ q2 α2 _ (st2.trans st3) m3 .non rfl
end
end NH
end
section
namespace NH
open PySem PySem.Spec PyProof.Rows L2
structure ItV(D:DP)(J:It)(Ok:List Addr->List Addr->Hp->Prop)(xs:List T):Prop where
 go:∀(i:Nat) φ α H,Ok φ α H->i<xs.length->J.go i H
 yld:∀(i:Nat) φ α H v H' t,Ok φ α H->xs[i]?=some t->J.yld i H v H'->yl H H'/\Den D φ α H' t v
 stop:∀φ α H,Ok φ α H->J.stop xs.length H
noncomputable def OkI (D:DP)(φ α:List Addr)(H:Hp)(xs:List T)(lv:Mem->Prop)(Ok:List Addr->List Addr->Hp->Prop):Prop:=∀φ' α' H' μ',Lk φ α H φ' α' H'->MRel D φ' α' H' μ'->lv μ'->Ok φ' α' H'
noncomputable def rdI (D:DP)(W:XW)(f:Di):TI:=λσ H R=>∃φ α τ μ,SRel D φ α H τ σ/\MRel D φ α H μ/\
 Post D W φ α H σ (λp μ' α' H'=>∀J Ok,ItV D J Ok p.1->OkI D φ α' H' p.1 p.2 Ok->p.2 μ'->R J H') (f τ μ).re
theorem Lk.trans{φ φ1 φ2 α α1 α2:List Addr}{H H1 H2:Hp}(a:Lk φ α H φ1 α1 H1)(b:Lk φ1 α1 H1 φ2 α2 H2):Lk φ α H φ2 α2 H2:=
 ⟨λx o n1 n2 e=>let ⟨m1,m2,e1⟩:=a.ob x o n1 n2 e;b.ob x o m1 m2 e1,λi x e=>b.st i x (a.st i x e)⟩
theorem Kk{D:DP}{φ α:List Addr}{H:Hp}{γ:Type}{f:γ->T}{xs:List γ}{i:Nat}{t:T}(h:(xs.map f)[i]?=some t):∃a,xs[i]?=some a/\t=f a:=by
 rw[z83] at h
 cases q:xs[i]? with
 |none=>rw[q] at h;cases h
 |some a=>rw[q] at h;cases h;exact⟨a,rfl,rfl⟩
section
variable {X:Cx}{D:DP}{W:XW}{Γ:Cn}{k:Nat}{pins:List (Addr×Obj)}{s:Shared}{σ:St}{H:Hp}{φ α:List Addr}{τ:Sl}{μ:Mem}{f g h:De}{a b c tg:Expr}{pos:Pos}{es:List Expr}
theorem Vj{K:z7E}{ad:Addr}{xs:List T}:ItV D (Itl K ad) (λφ α H=>∃vs,Rd H ad (.lst vs)/\DenL D φ α H xs vs) xs:=
 ⟨λi φ α H ⟨vs,ok,l⟩ hi=>⟨vs,vs[i]'(by rw[←l.length];exact hi),.inl ok,by simp⟩,λi φ α H v H' t ⟨vs,ok,l⟩ hi y=>by
  obtain⟨rfl,y⟩:=y
  obtain⟨x,hx,d⟩:=l.get hi
  have e:=y vs (.inl ok)
  rw[e] at hx;cases hx;exact⟨λ_ _ z=>z,d⟩,λφ α H ⟨vs,ok,l⟩=>⟨vs,.inl ok,by rw[l.length];exact z7D _⟩⟩
theorem z11{K:z7E}{ad:Addr}{xs:List T}:ItV D (Itt K ad) (λφ α H=>∃vs,Rd H ad (.tup vs)/\DenL D φ α H xs vs) xs:=
 ⟨λi φ α H ⟨vs,ok,l⟩ hi=>⟨vs,vs[i]'(by rw[←l.length];exact hi),.inl ok,by simp⟩,λi φ α H v H' t ⟨vs,ok,l⟩ hi y=>by
  obtain⟨rfl,y⟩:=y
  obtain⟨x,hx,d⟩:=l.get hi
  have e:=y vs (.inl ok)
  rw[e] at hx;cases hx;exact⟨λ_ _ z=>z,d⟩,λφ α H ⟨vs,ok,l⟩=>⟨vs,.inl ok,by rw[l.length];exact z7D _⟩⟩
theorem XI{n i j:Nat}(h:(z8y n)[i]?=some j):j=i:=by
 have:=(z7v.mp h).2
 simpa using this.symm
noncomputable def ItC(z:Str):It:=⟨λi _=>i<z.cps.toList.length,λi H x H'=>H'=H/\∃c,z.cps.toList[i]?=some c/\x=.str ⟨#[c]⟩,λi _=>z.cps.toList.length<=i⟩
theorem z0s{z:Str}:ItV D (ItC z) (λ_ _ _=>True) (z.cps.toList.map λc=>T.str ⟨#[c]⟩):=
 ⟨λi φ α H _ hi=>by (show i<_);simpa using hi,λi φ α H v H' t _ hi y=>by
  obtain⟨j,hj,rfl⟩:=Kk (D:=D) (φ:=φ) (α:=α) (H:=H) hi
  obtain⟨rfl,c,hc,rfl⟩:=y
  rw[hj] at hc;cases hc;exact⟨λ_ _ z=>z,rfl⟩,λφ α H _=>by show _<=_;simp⟩
theorem UE {P:z8e} {w:z8s} {K:z7E} {tg:Expr} {kd:String} (hk:kd="str_ascii_iterator"\/kd="str_iterator") (it:Addr) (z:Str) (t0:Tok):Turn P w K tg (ItC z) [it] it (λi h=>h.IsStrIter it kd z t0 i) where
 mem:=by simp
 obj:=λi h st b hb=>by
  have e:b=it:=by simpa using hb
  subst e
  obtain⟨o,e,c,d⟩:=st
  exact⟨o,e,λv z=>by rw[d] at z;cases z⟩
 keep:=λi h h' st k=>let ⟨o,ho,r⟩:=st;⟨o,k it (by simp) o ho,r⟩
 item:=by
  intro X hP hw hK hc i pins s σ H E I hf st hg
  subst hP hw hK
  obtain⟨f0,f1,f2,f3,f4,f5⟩:=hf it (by simp)
  have hi:i<z.cps.size:=by simpa[ItC] using hg
  have hcx:z.cps[i]?=some z.cps[i]:=Array.getElem?_eq_getElem hi
  have hcl:z.cps.toList[i]?=some z.cps[i]:=by rw[Array.getElem?_toList];exact hcx
  rcases hk with rfl|rfl
  ·refine wpAny_pyNext_ascii_item st hcx λh' st' sb=>?_
   have I1:Inv X pins σ H {s with heap:=h',toks:=s.toks+1}:=I.turned (λb o hb e=>(sb.2 b hb).trans e) f0 f1 f3 f4 f5
   obtain⟨o,e,c,d⟩:=id st'
   exact⟨.str ⟨#[z.cps[i]]⟩ s.toks,rfl,Q7 (s:={s with heap:=h',toks:=s.toks+1}) e c d (by decide) ⟨.str ⟨#[z.cps[i]]⟩,H,I1,⟨_,rfl⟩,⟨rfl,z.cps[i],hcl,rfl⟩,st',λb hb=>(hf b hb).1⟩⟩
  ·refine wpAny_pyNext_wide_item st hcx λh' st' sb=>?_
   have I1:Inv X pins σ H {s with heap:=h',toks:=s.toks+1}:=I.turned (λb o hb e=>(sb.2 b hb).trans e) f0 f1 f3 f4 f5
   obtain⟨o,e,c,d⟩:=id st'
   exact⟨.str ⟨#[z.cps[i]]⟩ s.toks,rfl,Q7 (s:={s with heap:=h',toks:=s.toks+1}) e c d (by decide) ⟨.str ⟨#[z.cps[i]]⟩,H,I1,⟨_,rfl⟩,⟨rfl,z.cps[i],hcl,rfl⟩,st',λb hb=>(hf b hb).1⟩⟩
 done:=by
  intro X hP hw hK hc i pins s σ H E I hf st hg
  subst hP hw hK
  obtain⟨f0,f1,f2,f3,f4,f5⟩:=hf it (by simp)
  have hx:z.cps[i]?=none:=Array.getElem?_eq_none (by have:z.cps.toList.length<=i:=hg;simpa using this)
  rcases hk with rfl|rfl
  ·exact wpAny_pyNext_ascii_end (I.ok.hd hc) st hx λh' eb=>⟨rfl,I.turned (t':=s.toks) (λb o hb e=>eb b o hb e) f0 f1 f3 f4 f5⟩
  ·exact wpAny_pyNext_wide_end (I.ok.hd hc) st hx λh' eb=>⟨rfl,I.turned (t':=s.toks) (λb o hb e=>eb b o hb e) f0 f1 f3 f4 f5⟩
 self:=λ_ _ _ _ _ st h=>by
  rcases hk with rfl|rfl
  ·exact wpAny_pyIter_striter_ascii st h
  ·exact wpAny_pyIter_striter_wide st h
theorem z1s (ha : PE X a (rdE D W f)) : PI X tg a (rdI D W (iE f)) := by
  rintro pins s σ H R I ⟨φ,α,τ,μ,sr,mr,p⟩
  refine thn (sub ha I sr mr p) ?_
  rintro u s1 ⟨v,H1,t,μ1,α1,I1,r1,st1,sr1,mr1,d1,p1⟩
  cases t with
  | lst ts =>
    obtain ⟨ad,vs,rfl,n1,n2,q,l⟩ := d1
    cases r1
    obtain ⟨its,rv,pl,hz⟩ := I1.list (.inl q)
    refine zb7 pl.isList ?_
    refine ⟨s1.heap.objs.size,[s1.heap.objs.size],_,_,H1,rfl,I1.kept (t' := s1.toks) fun b o e => z7z _ e,Qk ad _,⟨_,z7W _ rfl,rfl,rfl⟩,fun b hb => ?_,?_⟩
    · have e : b = s1.heap.objs.size := by simpa using hb
      subst e
      exact I1.fpOk (z7D _) (I1.hok.fresh (z7D _))
    · have p2 : Post D W φ α1 H1 σ _ (RE.ok (ts,lvT) μ1) := p1
      exact p2.ok (Stp.refl _ _) mr1 _ _ Vj (fun φ' α' H' μ' lk _ _ => by
        obtain ⟨a',ws,e,_,_,q',l'⟩ := Den.lk lk (show Den D φ α1 H1 (.lst ts) (.ref ad) from ⟨ad,vs,rfl,n1,n2,q,l⟩)
        cases e; exact ⟨ws,q',l'⟩) trivial
  | tup ts =>
    obtain ⟨ad,vs,rfl,n1,n2,q,l⟩ := d1
    cases r1
    obtain ⟨its,rv,pl,hz⟩ := I1.tuple (.inl q)
    refine wpAny_pyIter_tuple (show s1.heap.IsTuple ad its.toArray from pl) ?_
    refine ⟨s1.heap.objs.size,[s1.heap.objs.size],_,_,H1,rfl,I1.kept (t' := s1.toks) fun b o e => z7z _ e,VX ad _,⟨_,z7W _ rfl,rfl,rfl⟩,fun b hb => ?_,?_⟩
    · have e : b = s1.heap.objs.size := by simpa using hb
      subst e
      exact I1.fpOk (z7D _) (I1.hok.fresh (z7D _))
    · have p2 : Post D W φ α1 H1 σ _ (RE.ok (ts,lvT) μ1) := p1
      exact p2.ok (Stp.refl _ _) mr1 _ _ z11 (fun φ' α' H' μ' lk _ _ => by
        obtain ⟨a',ws,e,_,_,q',l'⟩ := Den.lk lk (show Den D φ α1 H1 (.tup ts) (.ref ad) from ⟨ad,vs,rfl,n1,n2,q,l⟩)
        cases e; exact ⟨ws,q',l'⟩) trivial
  | «mut» j =>
    obtain ⟨ad,hj,rfl⟩ := d1
    cases r1
    have p2 : Post D W φ α1 H1 σ _ (fun K _ => ∃ xs,μ1[j]? = some (.lst xs) /\ K (xs,lvM j xs) μ1) := p1
    obtain ⟨xs,hx,p2⟩ := p2.ex1
    obtain ⟨vs,q,l⟩ := mr1.ob j ad _ hj hx
    obtain ⟨its,rv,pl,hz⟩ := I1.list (.inl (.inl q))
    refine zb7 pl.isList ?_
    refine ⟨s1.heap.objs.size,[s1.heap.objs.size],_,_,H1,rfl,I1.kept (t' := s1.toks) fun b o e => z7z _ e,Qk ad _,⟨_,z7W _ rfl,rfl,rfl⟩,fun b hb => ?_,?_⟩
    · have e : b = s1.heap.objs.size := by simpa using hb
      subst e
      exact I1.fpOk (z7D _) (I1.hok.fresh (z7D _))
    · have p2 : Post D W φ α1 H1 σ _ (RE.ok (xs,lvM j xs) μ1) := p2
      exact p2.ok (Stp.refl _ _) mr1 _ _ Vj (fun φ' α' H' μ' lk m hl => by
        obtain ⟨ws,q',l'⟩ := m.ob j ad _ (lk.st j ad hj) hl
        exact ⟨ws,.inl q',l'⟩) hx
  | str z =>
    have d1 : v = .str z := d1
    subst d1
    obtain ⟨t0,rfl⟩ := r1
    have fin : ∀ {kd : String},(kd = "str_ascii_iterator" \/ kd = "str_iterator") -> PIE X pins σ tg R (.ref s1.heap.objs.size) { s1 with heap := s1.heap.push { cls := .type kd,data := .fields #[.str z t0,.int 0 0] } } := fun {kd} hk => by
      refine ⟨s1.heap.objs.size,[s1.heap.objs.size],_,_,H1,rfl,I1.kept (t' := s1.toks) fun b o e => z7z _ e,UE hk _ z t0,⟨_,z7W _ rfl,rfl,rfl⟩,fun b hb => ?_,?_⟩
      · have e : b = s1.heap.objs.size := by simpa using hb
        subst e
        exact I1.fpOk (z7D _) (I1.hok.fresh (z7D _))
      · have p2 : Post D W φ α1 H1 σ _ (RE.ok (u4 z,lvT) μ1) := p1
        exact p2.ok (Stp.refl _ _) mr1 _ _ z0s (fun _ _ _ _ _ _ _ => z8I) trivial
    cases ha : z.cps.all (· < 128) with
    | true => exact wpAny_pyIter_ascii ha (fin (.inl rfl))
    | false => exact wpAny_pyIter_wide ha (fin (.inr rfl))
  | _ => exact Post.elim p1
theorem YQ{x:V}{xs:List V}{us:List Value}(h:Vals (x::xs) us):∃u r,us=u::r/\RelV x u/\Vals xs r:=by
 cases h with
 |cons r q=>exact⟨_,_,rfl,r,q⟩
theorem vals3{x y z:V}{us:List Value}(h:Vals [x,y,z] us):∃u v w,us=[u,v,w]/\RelV x u/\RelV y v/\RelV z w:=by
 obtain⟨u,_,rfl,a,h⟩:=YQ h
 obtain⟨v,_,rfl,b,h⟩:=YQ h
 obtain⟨w,_,rfl,c,h⟩:=YQ h
 cases h
 exact⟨_,_,_,rfl,a,b,c⟩
noncomputable def ItS(lo c:Int)(n:Nat):It:=⟨λi _=>i<n,λi H x H'=>H'=H/\x=.int (lo+i * c),λi _=>n<=i⟩
theorem Wt{P:z8e}{w:z8s}{K:z7E}{tg:Expr}(it:Addr)(lo c:Int)(n:Nat):Turn P w K tg (ItS lo c n) [it] it (λi h=>IsRangeIter h it (lo+(i:Nat) * c) ((n:Int)-(i:Nat)) c) where
 mem:=by simp
 obj:=λi h st b hb=>by
  have e:b=it:=by simpa using hb
  subst e
  exact⟨_,st,λv z=>by cases (show zeF _=Data.cell v from z)⟩
 keep:=λi h h' st k=>k it (by simp) _ st
 item:=by
  intro X hP hw hK hc i pins s σ H E I hf st hg
  subst hP hw hK
  obtain⟨f0,f1,f2,f3,f4,f5⟩:=hf it (by simp)
  have W:=Walks.range (prog:=X.prog) (w:=X.w) (I.ok.hd hc) it lo c n
  refine W.item i s _ _ hg st λv h' tk hv st' kk=>?_
  obtain⟨t,rfl⟩:=hv
  have I1:Inv X pins σ H {s with heap:=h',toks:=tk}:=I.turned (λb o hb e=>kk b o (by simpa using hb) e) f0 f1 f3 f4 f5
  exact⟨_,rfl,Q7 (s:={s with heap:=h',toks:=tk}) (n:="range_iterator") st' rfl rfl (by decide) ⟨.int (lo+i * c),H,I1,⟨t,rfl⟩,⟨rfl,rfl⟩,st',λb hb=>(hf b hb).1⟩⟩
 done:=by
  intro X hP hw hK hc i pins s σ H E I hf st hg
  subst hP hw hK
  obtain⟨f0,f1,f2,f3,f4,f5⟩:=hf it (by simp)
  exact wpAny_pyNext_range_end (I.ok.hd hc) st (by have:n<=i:=hg;omega) λh' eb=>⟨rfl,I.turned (t':=s.toks) (λb o hb e=>eb b o hb e) f0 f1 f3 f4 f5⟩
 self:=λ_ _ _ _ _ st h=>wpAny_pyIter_rangeiter st h
theorem V6{P:z8e}{w:z8s}{K:z7E}{tg:Expr}(it:Addr)(lo c:Int)(n:Nat):Turn P w K tg (ItS lo c n) [it] it (λi h=>IsLongIter h it (lo+(i:Nat) * c) ((n:Int)-(i:Nat)) c) where
 mem:=by simp
 obj:=λi h st b hb=>by
  have e:b=it:=by simpa using hb
  subst e
  exact⟨_,st,λv z=>by cases (show zeF _=Data.cell v from z)⟩
 keep:=λi h h' st k=>k it (by simp) _ st
 item:=by
  intro X hP hw hK hc i pins s σ H E I hf st hg
  subst hP hw hK
  obtain⟨f0,f1,f2,f3,f4,f5⟩:=hf it (by simp)
  have W:=Walks.longrange (prog:=X.prog) (w:=X.w) (I.ok.hd hc) it lo c n
  refine W.item i s _ _ hg st λv h' tk hv st' kk=>?_
  obtain⟨t,rfl⟩:=hv
  have I1:Inv X pins σ H {s with heap:=h',toks:=tk}:=I.turned (λb o hb e=>kk b o (by simpa using hb) e) f0 f1 f3 f4 f5
  exact⟨_,rfl,Q7 (s:={s with heap:=h',toks:=tk}) (n:="longrange_iterator") st' rfl rfl (by decide) ⟨.int (lo+i * c),H,I1,⟨t,rfl⟩,⟨rfl,rfl⟩,st',λb hb=>(hf b hb).1⟩⟩
 done:=by
  intro X hP hw hK hc i pins s σ H E I hf st hg
  subst hP hw hK
  obtain⟨f0,f1,f2,f3,f4,f5⟩:=hf it (by simp)
  exact wpAny_pyNext_long_end (I.ok.hd hc) st (by have:n<=i:=hg;omega) λh' eb=>⟨rfl,I.turned (t':=s.toks) (λb o hb e=>eb b o hb e) f0 f1 f3 f4 f5⟩
 self:=λ_ _ _ _ _ st h=>wpAny_pyIter_longiter st h
theorem z0X{a b c:Int}(hc:0<c):zai a b c=if a<b then (b-a-1) / c+1 else 0:=by
 unfold zai
 rw[if_pos hc]
theorem xI{pins:List (Addr×Obj)}{σ:St}{H:Hp}{s:z7y}{R:It->Hp->Prop}{E:Value->z7y->Prop}{lo hi c:Int}{t u v:Tok}{tk:Nat}(I:Inv X pins σ H s)(h3:0<c)
  (q:R (ItS lo c (if lo<hi then (hi-lo-1) / c+1 else 0:Int).toNat) H):z7K (z7N X.prog X.w) X.A (pyIter (.ref s.heap.objs.size)) (PIE X pins σ tg R) E {s with heap:=s.heap.push {cls:=.type "range",data:=.fields #[.int lo t,.int hi u,.int c v]},toks:=tk}:=by
 have I1:Inv X pins σ H {s with heap:=s.heap.push {cls:=.type "range",data:=.fields #[.int lo t,.int hi u,.int c v]},toks:=tk}:=I.kept λb o e=>z7z _ e
 have e1:lo+((0:Nat):Int) * c=lo:=by simp
 have e2:(((if lo<hi then (hi-lo-1) / c+1 else 0:Int).toNat:Nat):Int)-((0:Nat):Int)=zai lo hi c:=by
  rw[z0X h3]
  have:0<=(if lo<hi then (hi-lo-1) / c+1 else 0):=by
   split
   ·have h1:0<=(hi-lo-1) / c:=za9 (by omega) (by omega)
    omega
   ·omega
  omega
 have fr:∀b∈[(s.heap.push {cls:=.type "range",data:=.fields #[.int lo t,.int hi u,.int c v]}).objs.size],b=(s.heap.push {cls:=.type "range",data:=.fields #[.int lo t,.int hi u,.int c v]}).objs.size:=λb hb=>by simpa using hb
 cases hsm:zeK lo hi c with
 |true=>
  refine wpAny_pyIter_range (zeG ..) hsm ?_
  refine⟨(s.heap.push {cls:=.type "range",data:=.fields #[.int lo t,.int hi u,.int c v]}).objs.size,[(s.heap.push {cls:=.type "range",data:=.fields #[.int lo t,.int hi u,.int c v]}).objs.size],_,_,H,rfl,
   I1.kept (t':=tk) λb o e=>z7z _ e,Wt _ lo c (if lo<hi then (hi-lo-1) / c+1 else 0:Int).toNat,?_,λb hb=>?_,q⟩
  ·show IsRangeIter _ _ (lo+((0:Nat):Int) * c) ((((if lo<hi then (hi-lo-1) / c+1 else 0:Int).toNat:Nat):Int)-((0:Nat):Int)) c
   rw[e1,e2]
   exact z7W _ rfl
  ·rw[fr b hb]
   exact I1.fpOk (z7D _) (I1.hok.fresh (z7D _))
 |false=>
  refine wpAny_pyIter_longrange (zeG ..) hsm ?_
  refine⟨(s.heap.push {cls:=.type "range",data:=.fields #[.int lo t,.int hi u,.int c v]}).objs.size,[(s.heap.push {cls:=.type "range",data:=.fields #[.int lo t,.int hi u,.int c v]}).objs.size],_,_,H,rfl,
   I1.kept (t':=tk) λb o e=>z7z _ e,V6 _ lo c (if lo<hi then (hi-lo-1) / c+1 else 0:Int).toNat,?_,λb hb=>?_,q⟩
  ·show IsLongIter _ _ (lo+((0:Nat):Int) * c) ((((if lo<hi then (hi-lo-1) / c+1 else 0:Int).toNat:Nat):Int)-((0:Nat):Int)) c
   rw[e1,e2]
   exact z7W _ rfl
  ·rw[fr b hb]
   exact I1.fpOk (z7D _) (I1.hok.fresh (z7D _))
theorem jK{lo c:Int}{n:Nat}:ItV D (ItS lo c n) (λ_ _ _=>True) ((z8y n).map λ(i:Nat)=>T.int (lo+i * c)):=
 ⟨λi φ α H _ hi=>by (show i<n);simpa using hi,λi φ α H v H' t _ hi y=>by
  obtain⟨j,hj,rfl⟩:=Kk (D:=D) (φ:=φ) (α:=α) (H:=H) hi
  rw[XI hj]
  obtain⟨rfl,rfl⟩:=y
  exact⟨λ_ _ z=>z,rfl⟩,λφ α H _=>by show n<=_;simp⟩
theorem K_ (C:Ck D W Γ X k) {p0:Pos} (hx:("range":Str)∈Γ.G) (hg:Γ.gl "range"=.none) (ha':noStar a=true) (hb':noStar b=true) (hc':noStar c=true) (ha:PE X a (rdE D W f)) (hb:PE X b (rdE D W g)) (hc:PE X c (rdE D W h)) :
  PI X tg (.Call (.Name "range" p0) [a,b,c] [] pos) (rdI D W (z2f f g h)):=by
 have hm:=C.glo _ hx
 rw[hg] at hm
 rintro pins s σ H R I ⟨φ,α,τ,μ,sr,mr,p⟩
 have s3:z8l [a,b,c] X.env=[(false,eval a X.env),(false,eval b X.env),(false,eval c X.env)]:=by
  rw[z4 ha',z4 hb',z4 hc'];rfl
 refine Call_ (vn I (C.glb _ hx) hm zdH (z8Y (thn (zy ha (zy hb (zy hc qD (z4 hc')) (z4 hb')) (z4 ha') pos pins s σ H (λvs H1=>∃i j l:Int,vs=[.int i,.int j,.int l]/\(0<l/\l<1073741824)/\R (ItS i l (if i<j then (j-i-1) / l+1 else 0:Int).toNat) H1) I ?_) ?_) (z4 ha') (zX (by simp[hb',hc']))))
 ·refine⟨φ,α,τ,μ,sr,mr,p.bind.mono λx μ1 α1 H1 st1 m1 q1 v1 d1=>⟨φ,α1,τ,μ1,sr.step st1,m1,q1.bind.mono λy μ2 α2 H2 st2 m2 q2 v2 d2=>⟨φ,α2,τ,μ2,(sr.step st1).step st2,m2,q2.bind.mono λz μ3 α3 H3 st3 m3 q3 v3 d3=>?_⟩⟩⟩
  cases x with
  |int a=>
   cases y with
   |int b=>
    cases z with
    |int c=>
     have q3:Post D W φ α3 H3 σ _ (RE.grd (inL a/\inL b/\0<c/\c<1073741824) (RE.ok (xv a b c,lvT) μ3)):=q3
     obtain⟨hh,q3⟩:=q3.grd
     have d1:v1=.int _:=d1
     have d2:v2=.int _:=d2
     have d3:v3=.int _:=d3
     subst d1 d2 d3
     exact⟨_,_,_,rfl,hh.2.2,q3.ok (Stp.refl _ _) m3 _ _ jK (λ_ _ _ _ _ _ _=>z8I) trivial⟩
    |_=>exact Post.elim q3
   |_=>exact Post.elim q3
  |_=>exact Post.elim q3
 ·rintro us s1 ⟨vs,H1,I1,rv,i,j,l,rfl,h3,q⟩
  obtain⟨u1,u2,u3,rfl,r1,r2,r3⟩:=vals3 rv
  obtain⟨t1,rfl⟩:=r1
  obtain⟨t2,rfl⟩:=r2
  obtain⟨t3,rfl⟩:=r3
  exact call_range_3 (by omega) (xI I1 h3.1 q) (.inl (PyProof.noPylong_small (by omega)))
theorem Xg (C:Ck D W Γ X k) {p0:Pos} (hx:("range":Str)∈Γ.G) (hg:Γ.gl "range"=.none) (ha':noStar a=true) (hb':noStar b=true) (ha:PE X a (rdE D W f)) (hb:PE X b (rdE D W g)) :
  PI X tg (.Call (.Name "range" p0) [a,b] [] pos) (rdI D W (JK f g)):=by
 have hm:=C.glo _ hx
 rw[hg] at hm
 rintro pins s σ H R I ⟨φ,α,τ,μ,sr,mr,p⟩
 refine Call_ (vn I (C.glb _ hx) hm zdH (z8Y (thn (zy ha (zy hb qD (z4 hb')) (z4 ha') pos pins s σ H (λvs H1=>∃i j:Int,vs=[.int i,.int j]/\R (ItS i 1 (if i<j then (j-i-1) / 1+1 else 0:Int).toNat) H1) I ?_) ?_) (by rw[z4 ha',z4 hb']) (by rw[z4 hb'];rfl)))
 ·refine⟨φ,α,τ,μ,sr,mr,p.bind.mono λx μ1 α1 H1 st1 m1 q1 v1 d1=>⟨φ,α1,τ,μ1,sr.step st1,m1,q1.bind.mono λy μ2 α2 H2 st2 m2 q2 v2 d2=>?_⟩⟩
  cases x with
  |int i=>
   cases y with
   |int j=>
    have q2:Post D W φ α2 H2 σ _ (RE.grd (inL i/\inL j) (RE.ok (xv i j 1,lvT) μ2)):=q2
    obtain⟨hh,q2⟩:=q2.grd
    have d1:v1=.int _:=d1
    have d2:v2=.int _:=d2
    subst d1 d2
    exact⟨_,_,rfl,q2.ok (Stp.refl _ _) m2 _ _ jK (λ_ _ _ _ _ _ _=>z8I) trivial⟩
   |_=>exact Post.elim q2
  |_=>exact Post.elim q2
 ·rintro us s1 ⟨vs,H1,I1,rv,i,j,rfl,q⟩
  cases rv with
  |cons r rr=>
   cases rr with
   |cons r' rr=>
    cases rr
    obtain⟨t,rfl⟩:=r
    obtain⟨t',rfl⟩:=r'
    exact call_range_2 (xI I1 (by omega) q)
theorem Y6 (C:Ck D W Γ X k) {p0:Pos} (hx:("range":Str)∈Γ.G) (hg:Γ.gl "range"=.none) (hs:noStar a=true) (ha:PE X a (rdE D W f)) :
  PI X tg (.Call (.Name "range" p0) [a] [] pos) (rdI D W (WB f)):=by
 have hm:=C.glo _ hx
 rw[hg] at hm
 rintro pins s σ H R I ⟨φ,α,τ,μ,sr,mr,p⟩
 refine Call_ (vn I (C.glb _ hx) hm zdH (z8Y (thn (zy ha qD (z4 hs) pos pins s σ H (λvs H1=>∃j:Int,vs=[.int j]/\R (ItS 0 1 (if 0<j then (j-0-1) / 1+1 else 0:Int).toNat) H1) I ?_) ?_) (z4 hs) rfl))
 ·refine⟨φ,α,τ,μ,sr,mr,p.bind.mono λt μ' α' H' st m q v d=>?_⟩
  cases t with
  |int n=>
   have d:v=.int _:=d
   subst d
   have q:Post D W φ α' H' σ _ (RE.grd (inL n) (RE.ok (rangeT n,lvT) μ')):=q
   obtain⟨hn,q⟩:=q.grd
   have e2:(if 0<n then (n-0-1) / 1+1 else 0:Int).toNat=n.toNat:=by
    split
    ·rw[zcO];congr 1;omega
    ·omega
   have e3:((z8y n.toNat).map λ(i:Nat)=>T.int (0+i * 1))=rangeT n:=by
    unfold rangeT
    refine zcf λi _=>?_
    simp
   refine⟨n,rfl,?_⟩
   rw[e2]
   exact q.ok (Stp.refl _ _) m _ _ (e3▸jK) (λ_ _ _ _ _ _ _=>z8I) trivial
  |_=>exact Post.elim q
 ·rintro us s1 ⟨vs,H1,I1,rv,j,rfl,q⟩
  cases rv with
  |cons r rr=>
   cases rr
   obtain⟨t,rfl⟩:=r
   exact call_range_1 (xI I1 (by omega) q)
noncomputable def idxs (N:List Str):List Expr->Option (List Nat)
 |[]=>some []
 |.Name x _::r=>match idx N x,idxs N r with
  |some i,some is=>some (i::is)
  |_,_=>none
 |_::_=>none
noncomputable def wz (N:List Str):Expr->Option Tg
 |.Name x _=>(idx N x).map Tg.one
 |.Tuple es _ _=>(idxs N es).map Tg.tup
 |_=>none
noncomputable def z6:Expr->List Str
 |.Name x _=>[x]
 |.Tuple es _ _=>es.filterMap λe=>match e with|.Name x _=>some x|_=>none
 |_=>[]
noncomputable def Sto (X:Cx)(S:List Str):Prop:=∀x∈S,Loc X.env.scope x/\(X.fn x=true\/X.env.scope.names.lookup x=some .local)
theorem K9{S N:List Str}(hN:X.N=N)(nd:N.Nodup)(hS:Sto X S):∀{es:List Expr} {is:List Nat} {ts:List T} {τ τ':Sl},(∀e∈es,∀x p,e=.Name x p->x∈S)->idxs N es=some is->W_ is ts τ=some τ'->
  ∃t,PGs X es t/\(z9j es X.env).length=ts.length/\(z9j es X.env).findIdx? (·.1)=none/\∀{σ:St} {vs:List V} {φ α H} {Q:St->Hp->Prop},SRel D φ α H τ σ->DenL D φ α H ts vs->(∀σ',SRel D φ α H τ' σ'->Q σ' H)->t vs σ H Q
 |[],is,ts,τ,τ',_,h0,h=>by
  simp[idxs] at h0;subst h0
  cases ts with
  |nil=>
   simp[W_] at h;subst h
   exact⟨z6Q,z0A,rfl,rfl,λsr l q=>⟨l,q _ sr⟩⟩
  |cons _ _=>simp[W_] at h
 |e::es,is,ts,τ,τ',hn,h0,h=>by
  cases e with
  |Name x p0=>
   simp only[idxs] at h0
   split at h0
   ·rename_i i is' hi his
    cases h0
    cases ts with
    |nil=>simp[W_] at h
    |cons t ts=>
     have h:W_ is' ts (jP τ i (some t))=some τ':=h
     have hx:=hn _ z7Z x p0 rfl
     have pg:PG X (.Name x p0) (JS i):=Kc (hN▸nd) (by rw[hN];exact wH hi) (hS x hx).1 (hS x hx).2
     obtain⟨u,pgs,hl,hf,hu⟩:=K9 hN nd hS (λe he=>hn e (z7O _ he)) his h
     refine⟨z2l (JS i) u,XX pg pgs rfl,by simpa[z9j] using hl,?_,λ{σ vs φ α H Q} sr l k=>?_⟩
     ·have e1:z9j (.Name x p0::es) X.env=(false,zb9 (.Name x p0) X.env)::z9j es X.env:=rfl
      rw[e1,List.findIdx?_cons]
      simp[hf]
     ·obtain⟨v,r,rfl,d,l⟩:=l
      exact⟨v,r,rfl,hu (sr.set d) l k⟩
   ·cases h0
  |_=>simp[idxs] at h0
theorem VW{S N:List Str}(hN:X.N=N)(nd:N.Nodup)(hS:Sto X S)(hc:X.calm=true){e:Expr}{tgt:Tg}{t:T}{τ τ':Sl}(hn:∀x∈z6 e,x∈S)(h0:wz N e=some tgt)(h:asg tgt t τ=some τ'){v:V}{u:Value}(I:Inv X pins σ H s)(sr:SRel D φ α H τ σ)(d:Den D φ α H t v)(r:RelV v u) :
  z7K (z7N X.prog X.w) X.A (zb9 e X.env u) (λ_ s'=>∃σ',Inv X pins σ' H s'/\SRel D φ α H τ' σ') X.xe s:=by
 cases e with
 |Name x p0=>
  simp only[wz] at h0
  cases q:idx N x with
  |none=>rw[q] at h0;cases h0
  |some i=>
   rw[q] at h0;cases h0
   cases (z7A h:jP τ i (some t)=τ')
   have hx:x∈S:=hn x (by simp[z6])
   refine thn (Kc (i:=i) (hN▸nd) (by rw[hN];exact wH q) (hS x hx).1 (hS x hx).2 pins s σ H v u (λσ' H'=>H'=H/\σ'=σ.set i (some v)) I r ⟨rfl,rfl⟩) ?_
   rintro _ s1 ⟨σ',H',I1,rfl,rfl⟩
   exact⟨_,I1,sr.set d⟩
 |Tuple es kk p0=>
  simp only[wz] at h0
  cases q:idxs N es with
  |none=>rw[q] at h0;cases h0
  |some is=>
   rw[q] at h0;cases h0
   cases t with
   |tup ts=>
    obtain⟨g,pgs,hl,hf,hu⟩:=K9 (D:=D) hN nd hS (λe he x p hx=>hn x (by subst hx;exact z9w.mpr ⟨_,he,rfl⟩)) q h
    obtain⟨ad,xs,rfl,_,_,q,l⟩:=d
    refine thn (z43 (k:=kk) (pos:=p0) hc pgs hl hf pins s σ H (.ref ad) u (λσ' H'=>H'=H/\SRel D φ α H τ' σ') I r ⟨ad,xs,rfl,.inl q,l.length.symm,hu sr l λσ' sr'=>⟨rfl,sr'⟩⟩) ?_
    rintro _ s1 ⟨σ',H',I1,rfl,sr'⟩
    exact⟨σ',I1,sr'⟩
   |_=>cases h
 |_=>simp[wz] at h0
end
end NH
end
section
namespace NH
open PySem PySem.Spec PyProof.Rows L2
theorem z0Q(env:Env):∀(names:List (Str×zaQ)) (cs:List (Str×Addr)),(∀p∈names,p.2=.free->∃c,env.cells.lookup p.1=some c)->
  ∃cl,(forIn names cs (λ(x:Str×zaQ) r=>if (x.2 == .free)=true then do let a ←cellOf env x.1;pure (z8T ((x.1,a)::r)) else pure (z8T r)):Sem (List (Str×Addr)))=pure cl/\
   (∀x c,cl.lookup x=some c->cs.lookup x=some c\/(env.cells.lookup x=some c/\∃p∈names,p.1=x/\p.2=.free))/\(∀x c,cs.lookup x=some c->∃c',cl.lookup x=some c')/\∀p∈names,p.2=.free->∃c,cl.lookup p.1=some c:=by
 intro names
 induction names with
 |nil=>intro cs _;exact⟨cs,rfl,λx c h=>.inl h,λx c h=>⟨c,h⟩,λp hp=>absurd hp (by simp)⟩
 |cons p names ih=>
  intro cs h
  rw[zbT]
  by_cases hp:p.2=.free
  ·obtain⟨c,hc⟩:=h p z7Z hp
   have e:cellOf env p.1=pure c:=by unfold cellOf;rw[hc]
   rw[if_pos (by simp[hp]),e]
   obtain⟨cl,e1,e2,e3,e4⟩:=ih ((p.1,c)::cs) λq hq=>h q (z7O _ hq)
   refine⟨cl,e1,λx c' hx=>?_,λx c' hx=>?_,λq hq hf=>?_⟩
   ·rcases e2 x c' hx with z|⟨z,q,hq,z1,z2⟩
    ·rw[z8c] at z
     cases hb:x == p.1 with
     |true=>
      simp[hb] at z
      subst z
      have hb':x=p.1:=by simpa using hb
      exact .inr ⟨by rw[hb'];exact hc,p,z7Z,hb'.symm,hp⟩
     |false=>simp[hb] at z;exact .inl z
    ·exact .inr ⟨z,q,z7O _ hq,z1,z2⟩
   ·cases hb:x == p.1 with
    |true=>exact e3 x c (by simp[z8c,hb])
    |false=>exact e3 x c' (by simp[z8c,hb,hx])
   ·rcases z88.mp hq with rfl|hq
    ·exact e3 _ c (by simp[z8c])
    ·exact e4 q hq hf
  ·rw[if_neg (by simp[hp])]
   obtain⟨cl,e1,e2,e3,e4⟩:=ih cs λq hq=>h q (z7O _ hq)
   refine⟨cl,e1,λx c' hx=>?_,e3,λq hq hf=>?_⟩
   ·rcases e2 x c' hx with z|⟨z,q,hq,z1,z2⟩
    ·exact .inl z
    ·exact .inr ⟨z,q,z7O _ hq,z1,z2⟩
   ·rcases z88.mp hq with rfl|hq
    ·exact absurd hf hp
    ·exact e4 q hq hf
noncomputable def Q1(sc:Scope):List Str:=(sc.names.filter λp=>p.2 == .globalImplicit).map (·.1)
noncomputable def frees(sc:Scope):List Str:=(sc.names.filter λp=>p.2 == .free).map (·.1)
theorem je{sc:Scope}{x:Str}:x∈frees sc↔∃p∈sc.names,p.1=x/\p.2=.free:=by
 unfold frees
 simp only[z8n,z8C,beq_iff_eq]
 constructor
 ·rintro⟨p,⟨h1,h2⟩,h3⟩;exact⟨p,h1,h3,h2⟩
 ·rintro⟨p,h1,h3,h2⟩;exact⟨p,⟨h1,h2⟩,h3⟩
theorem Jq{sc:Scope}{env:Env}(h:∀x∈frees sc,∃c,env.cells.lookup x=some c) :
  ∃cl,zcA sc env=pure cl/\(∀x c,cl.lookup x=some c->env.cells.lookup x=some c/\x∈frees sc)/\∀x∈frees sc,∃c,cl.lookup x=some c:=by
 obtain⟨cl,e1,e2,e3,e4⟩:=z0Q env sc.names [] λp hp hf=>h p.1 (je.mpr ⟨p,hp,rfl,hf⟩)
 refine⟨cl,?_,λx c hx=>?_,λx hx=>?_⟩
 ·rw[←e1]
  unfold zcA
  simp
 ·rcases e2 x c hx with z|⟨z,p,hp,z1,z2⟩
  ·simp at z
  ·exact⟨z,je.mpr ⟨p,hp,z1,z2⟩⟩
 ·obtain⟨p,hp,rfl,hf⟩:=je.mp hx
  exact e4 p hp hf
section
variable {M:Model}{A:Around}{E:Value->Shared->Prop}{s:Shared}{env:Env}
noncomputable def Wc(M:zb2)(A:z89)(E:Value->z7y->Prop)(use:Option (Value->Sem Unit))(Q:Value->z7y->Prop)(acc:Value)(ce:Env):Result->z7y->Prop
 |.ok _,t=>(match use with
  |none=>∃m,t.heap.Ns ce.locals m/\∀g,z8p ce.locals t.heap g->Q acc {t with heap:=g}
  |some u=>z7K M A (u acc) (λ_ t2=>∃m,t2.heap.Ns ce.locals m/\∀g,z8p ce.locals t2.heap g->Q .none {t2 with heap:=g}) E t)
 |.error x,t=>∃m,t.heap.Ns ce.locals m/\∀g,z8p ce.locals t.heap g->z7K M A (passOn "comprehension.variables-let-go" x ce:Sem Value) (λ_ _=>False) E {t with heap:=g}
theorem z1I{e:Expr}{sc:Scope}{pos:Pos}{mk fst:Sem Value}{g:Comprehension}{gs:List Comprehension}{cl:List (Str×Addr)}{use:Option (Value->Sem Unit)}{Q:Value->z7y->Prop}
  (h1:clausesOf e=g::gs) (h2:∀x,z8G g.iter env x=pure x) (h3:zcA sc env=pure cl) (h4:sc.kind=.function) (h5:∀x∈sc.names,x.2=.local->sc.names.lookup x.1=some .local)
  (h:z7K M A fst (λx t1=>z7K M A (pyIter x) (λit t2=>z7K M A mk (λacc t3=>z7K M A (newFunctionEnv sc env.globals cl [] env.qual none .none (some env)) (λce t4=>
    z9S M A (.compStart e 0 it acc {ce with scope:=z8N sc env}) (Wc M A E use Q acc {ce with scope:=z8N sc env}) t4) E t3) E t2) E t1) E s) :
  z7K M A (zbg e sc env pos mk false fst use) Q E s:=by
 unfold zbg
 rw[h3,h1]
 have id2:∀(x:Value) (t:z7y),E x t->E x t:=λ_ _ z=>z
 refine z7w (z8i h (λx t1 q1=>?_) id2)
 refine z7w (z9B (z7w (zc5 (h2 x) (z7w (z8f (z8i q1 (λit t2 q2=>?_) id2))))))
 refine wpAny_standIf (z7w (z8i q2 (λacc t3 q3=>?_) id2))
 refine z7w (z7G (z7w (z8i q3 (λce t4 q4=>?_) id2)))
 dsimp only
 have lc:∀y∈(sc.names.filter λx=>(x.2 == .local || x.2 == .cell)&&x.1 != (".0":Str)),y.2=.local->Env.kindOf {ce with scope:=z8N sc env} y.1=some .local:=
  λy hy hl=>lookup_relabel_local (h5 y (z8C.mp hy).1 hl)
 have lr:∀y∈(sc.names.filter λx=>(x.2 == .local || x.2 == .cell)&&x.1 != (".0":Str)).reverse,y.2=.local->Env.kindOf {ce with scope:=z8N sc env} y.1=some .local:=
  λy hy=>lc y (List.mem_reverse.mp hy)
 refine z8f (z7w (zbf (z8f (wpAny_run (z9b q4 λr t5 q5=>?_)))))
 cases r with
 |error x=>
  obtain⟨m,hn,q6⟩:=q5
  refine z7w (z8f (zbu (cenv:={ce with scope:=z8N sc env}) h4 _ t5 m lr hn λg m' _ sb=>?_))
  exact z8i (q6 g sb) (λ_ _ z=>z.elim) id2
 |ok f=>
  cases use with
  |none=>
   obtain⟨m,hn,q6⟩:=q5
   exact z7w (z8f (zbu (cenv:={ce with scope:=z8N sc env}) h4 _ t5 m lr hn λg m' _ sb=>z7G (q6 g sb)))
  |some u=>
   refine z7w (zcz (z7w (z8f (z8i q5 (λ_ t6 q6=>?_) id2))))
   obtain⟨m,hn,q6⟩:=q6
   refine z7w (zbu (cenv:={ce with scope:=z8N sc env}) h4 _ t6 m (λy hy=>?_) hn λg m' _ sb=>z7G (q6 g sb))
   rcases z7H.mp hy with z|z
   ·exact lr y (zaD z)
   ·exact lr y (z9d z)
end
section
variable {prog:Program}{w:World}{A:Around}{R:Result->Shared->Prop}{s:Shared}
theorem z09(elt target iter:Expr)(ifs:List Expr)(scope:Scope)(pos:Pos)(it acc:Value)(env:Env) :
  compTurn (.ListComp elt [⟨target,iter,ifs,0⟩] scope pos) 0 it acc env=(standAt iter.pos >>= λ_=>pyNext it >>= λr=>match r with
   |none=>pure (.done .next)
   |some v=>za7 target it v >>= λ_=>zb9 target env v >>= λ_=>
    (forIn ifs true λc s=>if s=true then isTrue c env (eval c env) >>= λok=>pure (z8T ok) else pure (z8T s)) >>= λok=>
     if ok=true then (eval elt env >>= λx=>call (.builtin "list.append") [acc,x] >>= λ_=>pure ()) >>= λ_=>
      again (.compLoop (.ListComp elt [⟨target,iter,ifs,0⟩] scope pos) 0 it acc env)
     else again (.compLoop (.ListComp elt [⟨target,iter,ifs,0⟩] scope pos) 0 it acc env)):=by rfl
noncomputable def xK(M:zb2)(A:z89)(env:Env)(E:Value->z7y->Prop):List Expr->(Bool->z7y->Prop)->z7y->Prop
 |[],Q,s=>Q true s
 |c::cs,Q,s=>z7K M A (isTrue c env (eval c env)) (λb s1=>if b=true then xK M A env E cs Q s1 else Q false s1) E s
theorem ZV{M:zb2}{env:Env}{E:Value->z7y->Prop}{Q:Bool->z7y->Prop}:∀(cs:List Expr) {s:z7y},Q false s->
  z7K M A (forIn cs false λc s=>if s=true then isTrue c env (eval c env) >>= λok=>pure (z8T ok) else pure (z8T s)) Q E s
 |[],s,h=>z7G h
 |c::cs,s,h=>by
  rw[zbT]
  refine z7w ?_
  rw[if_neg (by decide)]
  exact z7G (ZV cs h)
theorem V9{M:zb2}{env:Env}{E:Value->z7y->Prop}{Q:Bool->z7y->Prop}:∀(cs:List Expr) {s:z7y},xK M A env E cs Q s->
  z7K M A (forIn cs true λc s=>if s=true then isTrue c env (eval c env) >>= λok=>pure (z8T ok) else pure (z8T s)) Q E s
 |[],s,h=>z7G h
 |c::cs,s,h=>by
  rw[zbT]
  refine z7w ?_
  rw[if_pos rfl]
  refine z7w (thn h λb s1 h1=>z7G ?_)
  cases b with
  |true=>rw[if_pos rfl] at h1;exact V9 cs h1
  |false=>rw[if_neg (by decide)] at h1;exact ZV cs h1
theorem X2{elt target iter:Expr}{ifs:List Expr}{scope:Scope}{pos:Pos}{it acc:Value}{env:Env}(I:Nat->z7y->Prop)
  (turn:∀n s,I n s->z7K (z7N prog w) A (pyNext it) (λr s₁=>match r with
   |none=>R (.ok .next) s₁
   |some v=>z7K (z7N prog w) A (za7 target it v) (λ_ s₂=>z7K (z7N prog w) A (zb9 target env v) (λ_ s₃=>xK (z7N prog w) A env (zdr (z7N prog w) A env λx s'=>R (.error x) s') ifs (λb s₄=>
     if b=true then z7K (z7N prog w) A (eval elt env) (λx s₅=>z7K (z7N prog w) A (call (.builtin "list.append") [acc,x]) (λ_ s₆=>∃m,m<n/\I m s₆) (λ_ _=>False) s₅) (zdr (z7N prog w) A env λx s'=>R (.error x) s') s₄ else ∃m,m<n/\I m s₄) s₃) (λ_ _=>False) s₂) (λ_ _=>False) s₁) (λ_ _=>False) s)
  (n:Nat) (h:I n s):z9S (z7N prog w) A (.compLoop (.ListComp elt [⟨target,iter,ifs,0⟩] scope pos) 0 it acc env) R s:=by
 refine codeAny_loop rfl I (λn s hI=>?_) n h
 show z7K _ _ ((compTurn (.ListComp elt [⟨target,iter,ifs,0⟩] scope pos) 0 it acc env).onRaise (λx=>do zd8 x env;theTreesLotGoes x)) _ _ s
 refine wpAny_noted ?_
 rw[z09]
 have nx:∀{α:Type} {t:Sem α} {Q:α->z7y->Prop} {s:z7y} {N:Value->z7y->Prop},z7K (z7N prog w) A t Q (λ_ _=>False) s->z7K (z7N prog w) A t Q N s:=λh=>z8i h (λ_ _ q=>q) λ_ _ z=>z.elim
 refine z7w (z9B (z7w (nx (thn (turn n s hI) λr s₁ h₁=>?_))))
 cases r with
 |none=>exact z7G h₁
 |some v=>
  refine z7w (nx (thn h₁ λ_ s₂ h₂=>?_))
  refine z7w (nx (thn h₂ λ_ s₃ h₃=>?_))
  refine z7w (thn (V9 ifs h₃) λb s₄ h₄=>?_)
  cases b with
  |true=>
   rw[if_pos rfl] at h₄ ⊢
   exact z7w (z7w (thn h₄ λx s₅ h₅=>z7w (nx (thn h₅ λ_ s₆ h₆=>z7G (z7G ⟨rfl,h₆⟩)))))
  |false=>
   rw[if_neg (by decide)] at h₄ ⊢
   exact z7G ⟨rfl,h₄⟩
end
noncomputable abbrev noW:XW:=λ_ _ _ _=>False
noncomputable def cxC (X:Cx)(N:List Str)(sc:Scope)(cl:List (Str×Addr))(C0:Addr)(s3:z7y)(H3:Hp)(fp:List Addr):Cx:=
 {X with N:=N,s₀:=s3,H₀:=H3,env:=z9O sc cl C0 X.env,outer:=X.stack,ex:=fp,fn:=λ_=>false,pn:=[],xe:=λ_ _=>False}
noncomputable def JH(N cel:List Str)(tg:Expr)(sc:Scope):Bool:=
 (sc.kind == .function)&&sc.names.all (λp=>p.2 != .cell)&&sc.names.all (λp=>p.2 != .local || sc.names.lookup p.1 == some .local)&&
 (z6 tg).all (λx=>sc.names.lookup x == some .local&&x != ("__debug__":Str)&&x != ("__classdict__":Str))&&(frees sc).all (λx=>(idx N x).isSome&&sc.names.lookup x == some .free&&cel.contains x&&x != ("__debug__":Str)&&x != ("__classdict__":Str))&&decide ((z6 tg++frees sc).Nodup)&&
 (Q1 sc).all (λx=>sc.names.lookup x == some .globalImplicit)
structure CompOk(N cel:List Str)(tg:Expr)(sc:Scope):Prop where
 kind:sc.kind=.function
 noc:∀p∈sc.names,p.2≠.cell
 lcl:∀p∈sc.names,p.2=.local->sc.names.lookup p.1=some .local
 own:∀x∈z6 tg,sc.names.lookup x=some .local/\(x == ("__debug__":Str))=false/\(x == ("__classdict__":Str))=false
 fre:∀x∈frees sc,(∃i,idx N x=some i)/\sc.names.lookup x=some .free/\x∈cel/\(x == ("__debug__":Str))=false/\(x == ("__classdict__":Str))=false
 nd:(z6 tg++frees sc).Nodup
 glb:∀x∈Q1 sc,sc.names.lookup x=some .globalImplicit
theorem Xc{N cel:List Str}{tg:Expr}{sc:Scope}(h:JH N cel tg sc=true):CompOk N cel tg sc:=by
 unfold JH at h
 simp only[z7x,z8j,beq_iff_eq,bne_iff_ne,zaH,decide_eq_true_eq,z9E,z9k,ne_eq] at h
 obtain⟨⟨⟨⟨⟨⟨h1,h2⟩,h3⟩,h4⟩,h5⟩,h6⟩,h7⟩:=h
 refine⟨h1,h2,λp hp hl=>?_,λx hx=>?_,λx hx=>?_,h6,h7⟩
 ·rcases h3 p hp with z|z
  ·exact absurd hl z
  ·exact z
 ·obtain⟨⟨a,b⟩,c⟩:=h4 x hx
  exact⟨a,by simpa using b,by simpa using c⟩
 ·obtain⟨⟨⟨⟨a,b⟩,c⟩,d⟩,e⟩:=h5 x hx
  exact⟨a,b,c,by simpa using d,by simpa using e⟩
theorem zM{env:Env}{x:Str}:∀{names:List (Str×zaQ)} {kd:zaQ},names.lookup x=some kd->
  (names.map λ(n,k)=>if (k == zbh&&env.scope.kind == .function&&env.kindOf n == some .cell) then (n,NameKind.cell) else (n,k)).lookup x=some (if (kd == zbh&&env.scope.kind == .function&&env.kindOf x == some .cell) then .cell else kd)
 |[],_,h=>by simp at h
 |(n,k)::r,kd,h=>by
  have ih:=@zM env x r kd
  rw[z82]
  rw[z8c] at h
  cases hx:x == n with
  |true=>
   have hx':x=n:=by simpa using hx
   subst hx'
   simp at h
   subst h
   dsimp only
   split<;>simp_all[z8c]
  |false=>
   simp only[hx] at h
   dsimp only
   split
   ·rw[z8c];simp only[hx];exact ih h
   ·rw[z8c];simp only[hx];exact ih h
end NH
end
section
namespace NH
open PySem PySem.Spec PyProof.Rows L2
section
variable {X:Cx}{D:DP}{W:XW}{Γ:Cn}{k:Nat}{pins:List (Addr×Obj)}{s2:Shared}{σ:St}{H2:Hp}{φ α:List Addr}{τ:Sl}{μ:Mem}{tg:Expr}{sc:Scope}{cl:List (Str×Addr)}{fp:List Addr}
noncomputable def WY (N:List Str)(σ:St)(fs:List Str):St:=fs.map λx=>(idx N x).bind λi=>(σ[i]?).join
noncomputable def yi (N:List Str):List Str->Option (List Nat)
 |[]=>some []
 |x::r=>match idx N x,yi N r with
  |some i,some is=>some (i::is)
  |_,_=>none
theorem QC:∀(n:Nat) {fs:List Nat} {τ:Sl},blk n fs τ=z9L n none++VM fs τ
 |0,_,_=>rfl
 |n+1,fs,τ=>by
  show none::blk n fs τ=_
  rw[QC n];rfl
theorem ua:∀{fs:List Nat} {τ:Sl},(VM fs τ).length=fs.length
 |[],_=>rfl
 |i::r,τ=>by show (VM r τ).length+1=_;rw[ua];rfl
theorem uw:∀{N xs:List Str} {fs:List Nat},yi N xs=some fs->fs.length=xs.length
 |N,[],fs,h=>by cases h;rfl
 |N,x::r,fs,h=>by
  simp only[yi] at h
  split at h
  ·rename_i i is h1 h2
   cases h
   simp[uw h2]
  ·cases h
theorem WS{N:List Str}{H:Hp}(sr:SRel D φ α H τ σ):∀{xs:List Str} {fs:List Nat},yi N xs=some fs->∀(j:Nat) (t:T),(VM fs τ)[j]?=some (some t)->∃v,(WY N σ xs)[j]?=some (some v)/\Den D φ α H t v
 |[],fs,h,j,t,e=>by cases h;simp[VM] at e
 |x::r,fs,h,j,t,e=>by
  simp only[yi] at h
  split at h
  ·rename_i i is h1 h2
   cases h
   cases j with
   |zero=>
    have e:some (X9 τ i)=some (some t):=e
    obtain⟨v,hv,d⟩:=sr.get (z7A e)
    exact⟨v,by simp[WY,h1,hv],d⟩
   |succ j=>
    have e:(VM is τ)[j]?=some (some t):=e
    obtain⟨v,hv,d⟩:=WS sr h2 j t e
    exact⟨v,by simpa[WY] using hv,d⟩
  ·cases h
theorem z0_{N:List Str}{H:Hp}{ns xs:List Str}{fs:List Nat}(sr:SRel D φ α H τ σ)(h:yi N xs=some fs):SRel D φ α H (blk ns.length fs τ) (ns.map (λ_=>none)++WY N σ xs):=by
 rw[QC]
 refine⟨by simp[ua,uw h,WY],λj t e=>?_⟩
 rcases zex j ns.length with hj|hj
 ·rw[z7F (by simpa using hj),z9p] at e
  split at e<;>cases e
 ·rw[z7L (by simpa using hj)] at e
  rw[z7L (by simpa using hj)]
  simp only[z7B,zbV] at e ⊢
  exact WS sr h _ t e
theorem VO(C:Ck D W Γ X k)(ok:CompOk Γ.N Γ.cel tg sc)(I2:Inv X pins σ H2 s2)(hf:∀b∈fp,QD X pins H2 b)(hfo:∀b∈fp,∃o,s2.heap.get? b=some o)(hcl:∀x c,cl.lookup x=some c->X.env.cells.lookup x=some c/\x∈frees sc)(hcl2:∀x∈frees sc,∃c,cl.lookup x=some c)
  {h1:Heap} (hns:h1.Ns (s2.heap.objs.size+1) (λ_=>none)) (hsb:z8p (s2.heap.objs.size+1) ((s2.heap.push {cls:=.type "list",data:=.seq ([]:List Value).toArray}).push {cls:=.type "dict",data:=.dict #[]}) h1) {tk:Nat} :
  Inv X pins σ (upd H2 s2.heap.objs.size (.lst [])) {s2 with heap:=s2.heap.push {cls:=.type "list",data:=.seq ([]:List Value).toArray}}/\
  Inv (cxC X (z6 tg++frees sc) sc cl (s2.heap.objs.size+1) {s2 with heap:=s2.heap.push {cls:=.type "list",data:=.seq ([]:List Value).toArray}} (upd H2 s2.heap.objs.size (.lst [])) fp) []
   ((z6 tg).map (λ_=>none)++WY Γ.N σ (frees sc)) (upd H2 s2.heap.objs.size (.lst [])) {s2 with heap:=h1,toks:=tk}:=by
 have I3:Inv X pins σ (upd H2 s2.heap.objs.size (.lst [])) {s2 with heap:=s2.heap.push {cls:=.type "list",data:=.seq ([]:List Value).toArray}}:=I2.lnew (its:=[]) (t':=s2.toks) .nil (by simp)
 refine⟨I3,?_⟩
 generalize hA:s2.heap.push {cls:=.type "list",data:=.seq ([]:List Value).toArray}=HA at hsb I3 ⊢
 have szA:HA.objs.size=s2.heap.objs.size+1:=by rw[←hA,z92]
 have old:∀b o,HA.get? b=some o->h1.get? b=some o:=λb o e=>hsb.extBut b o (by rw[←szA];exact z85 (z7T e)) (z7z _ e)
 have fresh:(upd H2 s2.heap.objs.size (.lst [])) (s2.heap.objs.size+1)=none:=by rw[←szA];exact I3.hok.fresh (z7D _)
 have kindC:∀x∈frees sc,(cxC X (z6 tg++frees sc) sc cl (s2.heap.objs.size+1) {s2 with heap:=HA} (upd H2 s2.heap.objs.size (.lst [])) fp).env.kindOf x=some .cell\/(cxC X (z6 tg++frees sc) sc cl (s2.heap.objs.size+1) {s2 with heap:=HA} (upd H2 s2.heap.objs.size (.lst [])) fp).env.kindOf x=some .free:=λx hx=>by
  have:=zM (env:=X.env) (ok.fre x hx).2.1
  show (z8N sc X.env).names.lookup x=some .cell\/(z8N sc X.env).names.lookup x=some .free
  unfold z8N
  dsimp only
  rw[this]
  split
  ·exact .inl rfl
  ·exact .inr rfl
 refine⟨⟨I2.ok.mod,ok.kind,I2.ok.glob,I2.ok.blt,?_,?_,?_,λx c h=>absurd h (by simp[cxC]),I2.ok.hd,I2.ok.frames,.inl rfl,?_,?_,?_,?_,?_,?_,?_⟩,rfl,I2.bare,Un.kept old,⟨_,hns,?_⟩,?_,fresh,?_,λp hp=>absurd hp (by simp[cxC]),I3.hok.kept old,?_⟩
 ·show HA.objs.size<=s2.heap.objs.size+1
  omega
 ·intro x y c h1 h2
  exact I2.ok.inj x y c (hcl x c h1).1 (hcl y c h2).1
 ·intro x hx
  have hx':(z8N sc X.env).names.lookup x=some .cell\/(z8N sc X.env).names.lookup x=some .free:=hx
  by_cases hm:x∈frees sc
  ·exact hcl2 x hm
  ·exfalso
   cases q:sc.names.lookup x with
   |none=>
    have:(z8N sc X.env).names.lookup x=none:=by
     unfold z8N
     dsimp only
     rw[List.lookup_eq_none_iff] at q ⊢
     intro p hp
     obtain⟨p0,hp0,rfl⟩:=z8n.mp hp
     have:=q p0 hp0
     try dsimp only
     split<;>exact this
    rw[this] at hx'
    rcases hx' with z|z<;>cases z
   |some kd=>
    have hr:=zM (env:=X.env) q
    have hx2:=hx'
    unfold z8N at hx2
    dsimp only at hx2
    rw[hr] at hx2
    have hmem:(x,kd)∈sc.names:=z8V q
    by_cases hkf:kd=.free
    ·exact hm (je.mpr ⟨_,hmem,rfl,hkf⟩)
    ·have e:(kd == zbh)=false:=by simpa using hkf
     rw[e] at hx2
     simp only[zdt,zac,if_false,zcW] at hx2
     rcases hx2 with z|z
     ·exact ok.noc _ hmem z
     ·exact hkf z
 ·intro b hb
  obtain⟨f0,f1,f2,f3,f4,f5⟩:=hf b hb
  obtain⟨o,ho⟩:=hfo b hb
  refine⟨?_,λx c h=>f4 x c (hcl x c h).1⟩
  show b≠s2.heap.objs.size+1
  exact z85 (z9I (z7T ho))
 ·intro b o e
  exact I3.bs b o e
 ·exact z7V I3.ok.bsz I3.sz
 ·intro b o e hb
  obtain⟨f0,f1,f2,f3,f4,f5⟩:=hf b hb
  rcases f3 with z|z
  ·exact I2.ok.noex b o e z
  ·exact absurd (z7I (z7T e) (z7V I2.ok.bsz z)) (z8M _)
 ·intro b hb hfs
  obtain⟨f0,f1,f2,f3,f4,f5⟩:=hf b hb
  rcases z88.mp (I2.stkSub b hfs) with z|z
  ·exact f1 z
  ·exact f2 z
 ·exact I3.stack
 ·intro b hb
  exact I3.stkFree b hb
 ·intro i x v hN hσ hv
  obtain⟨m,hn,hl⟩:=I2.loc
  by_cases hi:i<(z6 tg).length
  ·exfalso
   rw[z7F (by simpa using hi),z83] at hσ
   cases q:(z6 tg)[i]? with
   |none=>rw[q] at hσ;cases hσ
   |some y=>rw[q] at hσ;cases hσ
  ·have hN':(frees sc)[i-(z6 tg).length]?=some x:=by
    have:(z6 tg++frees sc)[i]?=some x:=hN
    rwa[z7L (by omega)] at this
   rw[z7L (by simpa using hi)] at hσ
   simp only[z7B] at hσ
   unfold WY at hσ
   rw[z83,hN'] at hσ
   simp only[Option.map_some,zcW] at hσ
   have hx:x∈frees sc:=z7P hN'
   obtain⟨⟨j,hj⟩,_,hcelm,_⟩:=ok.fre x hx
   rw[hj] at hσ
   simp only[zay] at hσ
   cases u:σ[j]? with
   |none=>rw[u] at hσ;cases hσ
   |some o=>
    rw[u] at hσ
    simp only[Option.join_some] at hσ
    subst hσ
    obtain⟨w,rw',lk⟩:=hl j x v (by rw[C.hN];exact wH hj) u (C.vis x (w8 hj))
    refine⟨w,rw',.inr ⟨kindC x hx,?_⟩⟩
    have kx:=C.cel x hcelm
    rcases lk with⟨z,_⟩|⟨_,c,hc,hcell⟩
    ·rw[z] at kx
     rcases kx with kx|kx<;>cases kx
    ·obtain⟨c',hc'⟩:=hcl2 x hx
     have:=(hcl x c' hc').1
     rw[hc] at this
     cases this
     refine⟨c,hc',?_⟩
     obtain⟨oc,ho,hd⟩:=hcell
     exact⟨oc,old c oc (by rw[←hA];exact z7z _ ho),hd⟩
 ·intro x c h
  obtain⟨v,oc,ho,hd⟩:=I2.cell x c (hcl x c h).1
  exact⟨v,oc,old c oc (by rw[←hA];exact z7z _ ho),hd⟩
 ·intro x c h
  exact I3.freeC x c (hcl x c h).1
 ·show _=(z6 tg++frees sc).length
  simp[WY]
end
end NH
end
section
namespace NH
open PySem PySem.Spec PyProof.Rows L2
section
variable {X:Cx}{D:DP}{W:XW}{Γ:Cn}{k:Nat}{pins:List (Addr×Obj)}{s:Shared}{σ:St}{H:Hp}{φ α:List Addr}{τ:Sl}{μ:Mem}{tg iter elt:Expr}{sc:Scope}{fp:List Addr}{pos pos':Pos}
noncomputable def inComp(Γ:Cn)(tg:Expr)(sc:Scope):Cn:={Γ with N:=z6 tg++frees sc,G:=(Q1 sc).filter Γ.U.contains,cel:=frees sc,lam:=none}
theorem z1e{W':XW}{pn:List (Addr×Obj)}{xe:Value->z7y->Prop}(C:Ck D W Γ X k)(ok:CompOk Γ.N Γ.cel tg sc){cl:List (Str×Addr)}{C0:Addr}{s3:z7y}{H3:Hp}
  (hxe:∀e s,XP {(cxC X (z6 tg++frees sc) sc cl C0 s3 H3 fp) with pn:=pn,xe:=xe} W' e s->xe e s):Ck D W' (inComp Γ tg sc) {(cxC X (z6 tg++frees sc) sc cl C0 s3 H3 fp) with pn:=pn,xe:=xe} k:=by
 have kindC:∀x∈frees sc,(z8N sc X.env).names.lookup x=some .cell\/(z8N sc X.env).names.lookup x=some .free:=λx hx=>by
  have:=zM (env:=X.env) (ok.fre x hx).2.1
  unfold z8N
  dsimp only
  rw[this]
  split
  ·exact .inl rfl
  ·exact .inr rfl
 have other:∀{x kd},sc.names.lookup x=some kd->kd≠.free->(z8N sc X.env).names.lookup x=some kd:=λ{x kd} h hk=>by
  have:=zM (env:=X.env) h
  unfold z8N
  dsimp only
  rw[this]
  have e:(kd == zbh)=false:=by simpa using hk
  simp[e]
 refine⟨C.hK,rfl,ok.nd,λx hx=>?_,λx hx=>?_,λx hx=>?_,λx hx=>?_,λx hx=>?_,C.glU,kindC,C.isi,C.fld,C.xcx,C.ocx,C.clv,C.clm,C.rom,C.rmh,hxe,?_,LamOk.no rfl⟩
 ·rcases z7H.mp hx with h|h
  ·exact .inl (other (ok.own x h).1 (by decide))
  ·rcases kindC x h with z|z
   ·exact .inr (.inl z)
   ·exact .inr (.inr z)
 ·rcases z7H.mp hx with h|h
  ·exact (ok.own x h).2
  ·exact (ok.fre x h).2.2.2
 ·exact (C.glU x (by have:=(z8C.mp hx).2;simpa using this)).2
 ·exact other (ok.glb x (z8C.mp hx).1) (by decide)
 ·exact (C.glU x (by have:=(z8C.mp hx).2;simpa using this)).1
 ·obtain⟨e0,out,L,F⟩:=C.frm
  exact⟨e0,out,L,⟨F.stk,F.f0,F.fe⟩⟩
theorem UU(ok:CompOk Γ.N Γ.cel tg sc){cl:List (Str×Addr)}{C0:Addr}{s3:z7y}{H3:Hp}:Sto (cxC X (z6 tg++frees sc) sc cl C0 s3 H3 fp) (z6 tg):=λx hx=>by
 have e:=zM (env:=X.env) (ok.own x hx).1
 have e':(z8N sc X.env).names.lookup x=some .local:=by
  unfold z8N
  dsimp only
  rw[e]
  rfl
 exact⟨.inl e',.inr e'⟩
theorem Jf{M:List Str}{x:Str}:∀{L:List Str} {i:Nat},x∈L->idx (L++M) x=some i->i<L.length
 |[],_,h,_=>absurd h (by simp)
 |y::L,i,h,e=>by
  rw[zaz] at e
  simp only[idx] at e
  split at e
  ·cases e;simp
  ·rename_i hn
   have hm:x∈L:=(z88.mp h).resolve_left λz=>hn z.symm
   cases q:idx (L++M) x with
   |none=>rw[q] at e;cases e
   |some j=>rw[q] at e;cases e;simpa using Jf hm q
theorem Qa{n i:Nat}{t:Option T}{τ:Sl}(h:i<n):∀j,n<=j->(jP τ i t)[j]?=τ[j]?:=λj hj=>by
 rw[yv,z81 (by omega)]
theorem ZZ{L M:List Str}:∀{es:List Expr} {is:List Nat} {ts:List T} {τ τ':Sl},(∀e∈es,∀x p,e=.Name x p->x∈L)->idxs (L++M) es=some is->W_ is ts τ=some τ'->∀j,L.length<=j->τ'[j]?=τ[j]?
 |[],is,ts,τ,τ',_,h0,h=>by
  cases h0
  cases ts with
  |nil=>cases h;exact λ_ _=>rfl
  |cons _ _=>cases h
 |e::es,is,ts,τ,τ',hn,h0,h=>by
  cases e with
  |Name x p0=>
   simp only[idxs] at h0
   split at h0
   ·rename_i i is' hi his
    cases h0
    cases ts with
    |nil=>cases h
    |cons t ts=>
     intro j hj
     rw[ZZ (λe he=>hn e (z7O _ he)) his (show W_ is' ts (jP τ i (some t))=some τ' from h) j hj]
     exact Qa (Jf (hn _ z7Z x p0 rfl) hi) j hj
   ·cases h0
  |_=>simp[idxs] at h0
theorem Ur{M:List Str}{e:Expr}{tgt:Tg}{t:T}{τ τ':Sl}(h0:wz (z6 e++M) e=some tgt)(h:asg tgt t τ=some τ'):∀j,(z6 e).length<=j->τ'[j]?=τ[j]?:=by
 cases e with
 |Name x p0=>
  simp only[wz] at h0
  cases q:idx (z6 (.Name x p0)++M) x with
  |none=>rw[q] at h0;cases h0
  |some i=>
   rw[q] at h0;cases h0
   cases (z7A h:jP τ i (some t)=τ')
   exact Qa (Jf (by simp[z6]) q)
 |Tuple es kk p0=>
  simp only[wz] at h0
  cases q:idxs (z6 (.Tuple es kk p0)++M) es with
  |none=>rw[q] at h0;cases h0
  |some is=>
   rw[q] at h0;cases h0
   cases t with
   |tup ts=>exact ZZ (λe he x p hx=>by subst hx;exact z9w.mpr ⟨_,he,rfl⟩) q h
   |_=>cases h
 |_=>simp[wz] at h0
noncomputable def Ja (X:Cx)(D:DP)(W:XW):List Expr->List Dt->Prop
 |[],[]=>True
 |e::es,f::fs=>PT X e (rdT D W f)/\Ja X D W es fs
 |_,_=>False
theorem Ys{M:zb2}{A:z89}{β:Type}{R:β->Mem->List Addr->Hp->Prop}{fe:De}{kk:Option T->Mem->RE β}{Qf:Bool->z7y->Prop}:∀{cs:List Expr} {fs:List Dt} {s:z7y} {H:Hp} {α:List Addr} {μ:Mem},Ja X D W cs fs->Inv X pins σ H s->SRel D φ α H τ σ->MRel D φ α H μ->Post D W φ α H σ R ((yk fs fe τ μ).bind kk)->
  (∀s' H' α' μ',Inv X pins σ H' s'->Stp α H α' H'->SRel D φ α' H' τ σ->MRel D φ α' H' μ'->Post D W φ α' H' σ R ((fe τ μ').bind λy μ1=>kk (some y) μ1)->Qf true s')->
  (∀s' H' α' μ',Inv X pins σ H' s'->Stp α H α' H'->SRel D φ α' H' τ σ->MRel D φ α' H' μ'->Post D W φ α' H' σ R (kk none μ')->Qf false s')->
  xK (z7N X.prog X.w) X.A X.env X.xe cs Qf s
 |[],[],s,H,α,μ,_,I,sr,mr,p,h1,_=>h1 s H α μ I (Stp.refl _ _) sr mr p
 |[],_::_,_,_,_,_,h,_,_,_,_,_,_=>h.elim
 |_::_,[],_,_,_,_,h,_,_,_,_,_,_=>h.elim
 |c::cs,f::fs,s,H,α,μ,h,I,sr,mr,p,h1,h2=>by
  have p:Post D W φ α H σ R ((f τ μ).bind λb μ1=>(RE.br b (yk fs fe τ μ1) (.ok none μ1)).bind kk):=p
  refine thn (z6r h.1 I sr mr p) ?_
  rintro b s1 ⟨H1,μ1,α1,I1,st1,sr1,mr1,p1⟩
  cases b with
  |true=>
   rw[if_pos rfl]
   exact Ys (M:=M) (A:=A) h.2 I1 sr1 mr1 p1 (λs' H' α' μ' a b=>h1 s' H' α' μ' a (st1.trans b)) (λs' H' α' μ' a b=>h2 s' H' α' μ' a (st1.trans b))
  |false=>
   rw[if_neg (by decide)]
   exact h2 s1 H1 α1 μ1 I1 st1 sr1 mr1 p1
end
end NH
end
section
namespace NH
open PySem PySem.Spec PyProof.Rows L2
section
variable {X:Cx}{D:DP}{W:XW}{Γ:Cn}{k:Nat}{pins:List (Addr×Obj)}{s:Shared}{σ:St}{H:Hp}{φ α:List Addr}{τ:Sl}{μ:Mem}{tg iter elt:Expr}{sc:Scope}{fp:List Addr}{pos pos':Pos}
theorem y4{M:zb2}{A:z89}{env:Env}{E E':Value->z7y->Prop}{Q:Bool->z7y->Prop}(h:∀e s,E e s->E' e s):∀{cs:List Expr} {s:z7y},xK M A env E cs Q s->xK M A env E' cs Q s
 |[],_,q=>q
 |c::cs,s,q=>z8i q (λb s1 q1=>by
  cases b with
  |true=>rw[if_pos rfl] at q1 ⊢;exact y4 h q1
  |false=>rw[if_neg (by decide)] at q1 ⊢;exact q1) h
theorem XTr.but{C0 x T:Addr}{cls fl:Value}{d:Option Addr}{h g:Heap}(t:XTr h x T cls d fl)(sb:z8p C0 h g)(hx:x≠C0)(hT:T≠C0):XTr g x T cls d fl:=by
 obtain⟨oe,vs,a0,oT,ts,ho,hc,hd,hv0,hv1,hTx,hoT,hdT,h3⟩:=t
 exact⟨oe,vs,a0,oT,ts,sb.extBut x oe hx ho,hc,hd,hv0,hv1,hTx,sb.extBut T oT hT hoT,hdT,h3⟩
theorem yr{C0:Addr}{h':Heap}(I:Inv X pins σ H s)(xo:XOk X H C0)(hp:∀q∈pins,q.1≠C0)(sb:z8p C0 s.heap h'):Inv X pins σ H {s with heap:=h'}:=
 Ve (ch:=[C0]) I (λb hb=>by rw[z7C.mp hb];exact⟨xo,hp⟩) (λb o _ hc e=>sb.extBut b o (λz=>hc (by simp[z])) e) λb o _ hc e=>⟨o.slots,sb.extBut b o (λz=>hc (by simp[z])) e⟩
theorem xR{β:Type}{R:β->Mem->List Addr->Hp->Prop}{fi:Di}{fs:List Nat}{tgt:Tg}{ifs:List Expr}{cs:List Dt}{fe:De}{kk:List T->Mem->RE β}{use:Option (Value->Sem Unit)}{Qf:Value->z7y->Prop}
  (C:Ck D W Γ X k) (hc:Γ.calm=true) (ok:CompOk Γ.N Γ.cel tg sc) (hfs:yi Γ.N (frees sc)=some fs) (htg:wz (z6 tg++frees sc) tg=some tgt) (hi:PI X tg iter (rdI D W fi)) (hel:∀X' W',Ck D W' (inComp Γ tg sc) X' k->PE X' elt (rdE D W' fe)) (hts:∀X' W',Ck D W' (inComp Γ tg sc) X' k->Ja X' D W' ifs cs) (hs:∀x,z8G iter X.env x=pure x)
  (I:Inv X pins σ H s) (sr:SRel D φ α H τ σ) (mr:MRel D φ α H μ)
  (p:Post D W φ α H σ R ((fi τ μ).go λxs o μ1=>.grd (xs.length<=room) ((zO tgt (yk cs fe) o (blk (z6 tg).length fs τ) xs μ1).bind kk)))
  (Kq:∀acc C0 s' α1 H1 H' α' ys vs μ',Inv X pins σ H' s'->Stp α H α1 H1->Stp α1 H1 α' H'->H1 acc=none->acc∉φ->acc∉α1->SRel D (φ++[acc]) α' H' τ σ->MRel D (φ++[acc]) α' H' μ'->H' acc=some (.lst vs)->DenL D (φ++[acc]) α' H' ys vs->Post D W φ α1 H1 σ R (kk ys μ')->XOk X H' C0->(∀q∈pins,q.1≠C0)->(∃m,s'.heap.Ns C0 m)->
   (match use with
    |none=>∃m,s'.heap.Ns C0 m/\∀g,z8p C0 s'.heap g->Qf (.ref acc) {s' with heap:=g}
    |some u=>z7K (z7N X.prog X.w) X.A (u (.ref acc)) (λ_ t2=>∃m,t2.heap.Ns C0 m/\∀g,z8p C0 t2.heap g->Qf .none {t2 with heap:=g}) X.xe s')) :
  z7K (z7N X.prog X.w) X.A (zbg (.ListComp elt [⟨tg,iter,ifs,0⟩] sc pos) sc X.env pos' (newList []) false (eval iter X.env) use) Qf X.xe s:=by
 obtain⟨cl,hclos,hcl,hcl2⟩:=Jq (sc:=sc) (env:=X.env) λx hx=>I.ok.has x (C.cel x (ok.fre x hx).2.2.1)
 refine z1I (use:=use) rfl hs hclos ok.kind ok.lcl (thn (hi pins s σ H (λJ H2=>∃xs o μ1 α1 Ok,ItV D J Ok xs/\OkI D φ α1 H2 xs o Ok/\o μ1/\Stp α H α1 H2/\MRel D φ α1 H2 μ1/\
  Post D W φ α1 H2 σ R (.grd (xs.length<=room) ((zO tgt (yk cs fe) o (blk (z6 tg).length fs τ) xs μ1).bind kk))) I
  ⟨φ,α,τ,μ,sr,mr,(show Post D W φ α H σ R ((fi τ μ).re.bind λpr μ1=>.grd (pr.1.length<=room) ((zO tgt (yk cs fe) pr.2 (blk (z6 tg).length fs τ) pr.1 μ1).bind kk)) from p).bind.mono λpr μ' α' H' st m q J Ok iv okk lv=>⟨pr.1,pr.2,μ',α',Ok,iv,okk,lv,st,m,q⟩⟩) λv s1 h1=>thn h1 λitv s2 h2=>?_)
 obtain⟨it,fp,tn,J,H2,rfl,I2,Tn,tn0,f2,xs,Lv,μ1,α1,Ok,iv,okk,lv1,st1,mr1,p1⟩:=h2
 obtain⟨hroom,K0,Z0,q0,hk0,hz0⟩:=p1.grd
 have fo:∀b∈fp,∃o,s2.heap.get? b=some o:=λb hb=>let ⟨o,e,_⟩:=Tn.obj 0 _ tn0 b hb;⟨o,e⟩
 refine z9a (wpAny_newFunctionEnv ok.noc (by intro y hy;simp at hy) (λh₁ hns₁ hsb₁=>?_) ok.kind)
 have sz:(s2.heap.push {cls:=.type "list",dict:=none,data:=.seq ([]:List Value).toArray}).objs.size=s2.heap.objs.size+1:=z92 ..
 dsimp only at hns₁ hsb₁ ⊢
 rw[sz] at hns₁ hsb₁ ⊢
 have hns:h₁.Ns (s2.heap.objs.size+1) (λ_=>none):=by simpa using hns₁
 obtain⟨I3,J0⟩:=VO (tk:=s2.toks+([]:List (Str×Value)).length) C ok I2 f2 fo hcl hcl2 hns hsb₁
 have hD:H2 s2.heap.objs.size=none:=I2.hok.fresh (z7D _)
 have nph:s2.heap.objs.size∉φ:=zo mr1 hD
 have nal:s2.heap.objs.size∉α1:=zm mr1 hD
 have old:∀b o,s2.heap.get? b=some o->h₁.get? b=some o:=λb o e=>hsb₁.extBut b o (z85 (z9I (z7T e))) (z7z _ (z7z _ e))
 have n3:({s2 with heap:=s2.heap.push {cls:=.type "list",data:=.seq ([]:List Value).toArray}}:z7y).heap.get? (s2.heap.objs.size+1)=none:=z9K (by show (s2.heap.push _).objs.size<=_;rw[z92];exact z7D _)
 have xo0:=kE I3 n3
 have pn3:∀q∈pins,q.1≠s2.heap.objs.size+1:=λq hq z=>by
  have:=(I3.pin q (z7J _ hq)).1
  rw[z,n3] at this;cases this
 generalize hS3:({s2 with heap:=s2.heap.push {cls:=.type "list",data:=.seq ([]:List Value).toArray}}:z7y)=S3 at I3 J0 n3
 generalize hH3:upd H2 s2.heap.objs.size (.lst [])=H3 at I3 J0 xo0
 generalize hXb:cxC X (z6 tg++frees sc) sc cl (s2.heap.objs.size+1) S3 H3 fp=Xb at J0
 have hXb':Xb.prog=X.prog/\Xb.w=X.w/\Xb.K=X.K/\Xb.A=X.A/\Xb.env=z9O sc cl (s2.heap.objs.size+1) X.env/\Xb.calm=X.calm/\Xb.pn=[]/\Xb.stack=X.stack/\Xb.N=z6 tg++frees sc/\Xb.fs=frs X.stack:=by subst hXb;exact⟨rfl,rfl,rfl,rfl,rfl,rfl,rfl,rfl,rfl,rfl⟩
 have sto:Sto Xb (z6 tg):=by subst hXb;exact UU (Γ:=Γ) ok
 have cm:Xb.calm=true:=by rw[hXb'.2.2.2.2.2.1];exact C.clm hc
 have back:∀{s4:z7y} {σ4:St} {H4:Hp} {pp:List (Addr×Obj)},Inv Xb pp σ4 H4 s4->Inv X pins σ H4 s4:=λ{s4 σ4 H4 pp} I4=>by
  subst hXb
  exact I3.call' (ch:=fp) I4.os I4.base I4.hok I4.bare λb hb=>by
   obtain⟨f0,f1,f2',f3,f4,f5⟩:=f2 b hb
   exact⟨f3,f1,f4,f5⟩
 have fpk:∀{H':Hp},(∀b∈fp,H' b=none)->∀b∈fp,QD Xb [] H' b:=λhn b hb=>by
  obtain⟨f0,f1,f2',f3,f4,f5⟩:=f2 b hb
  obtain⟨o,ho⟩:=fo b hb
  subst hXb
  refine⟨hn b hb,z85 (z9I (z7T ho)),λz=>?_,.inl hb,λx c h=>f4 x c (hcl x c h).1,λq hq=>absurd hq (by simp[cxC])⟩
  rcases z88.mp (I2.stkSub b z) with z|z
  ·exact f1 z
  ·exact f2' z
 have TnI:=Tn.item Xb hXb'.1 hXb'.2.1 hXb'.2.2.1 cm
 have TnD:=Tn.done Xb hXb'.1 hXb'.2.1 hXb'.2.2.1 cm
 obtain⟨e0,out,L,F⟩:=C.frm
 have ce:(z9O sc cl (s2.heap.objs.size+1) X.env).frame=some L:=F.fe
 obtain⟨NB,hNB⟩:∃NB:Value->z7y->Prop,NB=zdr (z7N X.prog X.w) X.A (z9O sc cl (s2.heap.objs.size+1) X.env) (λx s'=>Wc (z7N X.prog X.w) X.A X.xe use Qf (.ref s2.heap.objs.size) (z9O sc cl (s2.heap.objs.size+1) X.env) (.error x) s'):=⟨_,rfl⟩
 have leave:∀{pp:List (Addr×Obj)} {e:Value} {t:z7y},(∀b∈fp,∃o,(b,o)∈pp)->XP (Cx.pin' Xb pp) (λcls d _ He=>∃c fs' μ' α' Cc,Z0 c fs' μ'/\Stp α1 H2 α' He/\MRel D (φ++[s2.heap.objs.size]) α' He μ'/\D.adr c=some Cc/\cls=.ref Cc/\XDict D (φ++[s2.heap.objs.size]) α' He fs' d) e t->
   NB e t:=λ{pp e t} hpp xp=>by
  have Fb:Frm (Cx.pin' Xb pp) e0 out L:=⟨by show Xb.stack=_;rw[hXb'.2.2.2.2.2.2.2.1];exact F.stk,F.f0,by show Xb.env.frame=_;rw[hXb'.2.2.2.2.1];exact ce⟩
  have hfr:X.A.frames=some (Cx.pin' Xb pp).stack:=by show _=some Xb.stack;rw[hXb'.2.2.2.2.2.2.2.1];exact I.ok.frames
  rw[hNB]
  unfold zdr
  rw[show z9O sc cl (s2.heap.objs.size+1) X.env=(Cx.pin' Xb pp).env from hXb'.2.2.2.2.1.symm]
  refine yu (X:=Cx.pin' Xb pp) Fb hfr xp λx cls d σe He T h' ee Ie ox oT tr w=>?_
  subst ee
  have en:(Cx.pin' Xb pp).env=z9O sc cl (s2.heap.objs.size+1) X.env:=hXb'.2.2.2.2.1
  rw[en]
  have Iu:Inv Xb pp σe He {t with heap:=h'}:=zL Ie
  have IX:=back Iu
  have nw:∀b,XOk (Cx.pin' Xb pp) He b->XOk X He b/\b≠s2.heap.objs.size+1:=λb o=>by
   have hb:b∉fp:=λz=>by
    obtain⟨ob,hm⟩:=hpp b z
    exact o.pin (b,ob) (z7J _ hm) rfl
   have h3:S3.heap.get? b=none:=by
    have:=o.new
    subst hXb
    exact this.resolve_left hb
   have q:=kE I3 h3
   refine⟨⟨o.free,q.loc,q.nfs,q.new,q.cel,q.pin⟩,?_⟩
   have:=o.loc
   have e2:(Cx.pin' Xb pp).env.locals=s2.heap.objs.size+1:=by rw[en];rfl
   rw[e2] at this;exact this
  have xoC:XOk X He (s2.heap.objs.size+1):=⟨by have:=Iu.free;rw[hXb'.2.2.2.2.1] at this;exact this,xo0.loc,xo0.nfs,xo0.new,xo0.cel,xo0.pin⟩
  obtain⟨m,hm,_⟩:=Iu.loc
  rw[hXb'.2.2.2.2.1] at hm
  refine⟨m,hm,λg sb=>?_⟩
  have sb':z8p (s2.heap.objs.size+1) h' g:=sb
  have Ig:Inv X [] σ He {t with heap:=g}:=(yr IX xoC pn3 sb').pins_of λp hp=>absurd hp (by simp)
  have tg':=tr.but sb' (nw x ox).2 (nw T oT).2
  unfold zey
  obtain⟨oe,vs',a0,oT',ts,ho,hcc,hd,hv0,hv1,hT,hoT,hdT,h3⟩:=id tg'
  refine z7w (z99 ho hd hv1 ?_)
  rw[if_neg (show ¬((z80 T == z8F)=true) from by simp)]
  have go:∀{t2:z7y},XP X W (.ref x) t2->z7K (z7N X.prog X.w) X.A (throw (z80 x):Sem Value) (λ_ _=>False) X.xe t2:=λ{t2} xp=>wpAny_throw (C.xe _ _ xp)
  have fin:z7K (z7N X.prog X.w) X.A (zbq (.ref x) (z9O sc cl (s2.heap.objs.size+1) X.env).frame) (λ_ t2=>XP X W (.ref x) t2) X.xe {t with heap:=g}:=by
   refine qK (s:={t with heap:=g}) Ig (nw x ox).1 (nw T oT).1 tg' λh4 I4 tr4=>?_
   obtain⟨c,fs',μ',α',Cc,z,stp,m',ad,rfl,xd⟩:=w
   refine⟨x,.ref Cc,d,σ,He,some T,z8v L,rfl,I4,(nw x ox).1,λt ht=>?_,?_,.inr ⟨L,F.fe,rfl⟩,?_⟩
   ·have:t=T:=by simpa using ht
    rw[this];exact (nw T oT).1
   ·rw[ce] at tr4;exact tr4
   ·refine hz0 c fs' μ' z α' He Cc d stp (m'.lk wV (λa ha=>⟨rfl,λz=>m'.dis a ha (z7S _ z)⟩) λb hb=>m'.phi b (z7S _ hb)) ad (xd.lk wV)
  first
   |exact z7w (thn fin λ_ t2 xp=>go xp)
   |exact z7w (z7G (z7w (thn fin λ_ t2 xp=>go xp)))
 have loop:z9S (z7N X.prog X.w) X.A (.compLoop (.ListComp elt [⟨tg,iter,ifs,0⟩] sc pos) 0 (.ref it) (.ref s2.heap.objs.size) (z9O sc cl (s2.heap.objs.size+1) X.env)) (Wc (z7N X.prog X.w) X.A X.xe use Qf (.ref s2.heap.objs.size) (z9O sc cl (s2.heap.objs.size+1) X.env)) {s2 with heap:=h₁,toks:=s2.toks+([]:List (Str×Value)).length}:=by
  obtain⟨LI,hLI⟩:∃LI:Nat->z7y->Prop,LI=(λn s'=>∃i σ' H' α' μ' yT yV,n=xs.length-i/\i<=xs.length/\Inv Xb [] σ' H' s'/\tn i s'.heap/\(∀b∈fp,H' b=none)/\
   Stp α1 H2 α' H'/\MRel D (φ++[s2.heap.objs.size]) α' H' μ'/\SRel D (φ++[s2.heap.objs.size]) α' H' (blk (z6 tg).length fs τ) σ'/\H' s2.heap.objs.size=some (.lst yV)/\DenL D (φ++[s2.heap.objs.size]) α' H' yT yV/\yT.length<=i/\
   Lv μ'/\zO tgt (yk cs fe) Lv (blk (z6 tg).length fs τ) (xs.drop i) μ' (λrest μ2=>kk (yT++rest) μ2 K0 Z0) Z0):=⟨_,rfl⟩
  refine X2 LI ?_ xs.length ?_
  ·intro n s' h0
   rw[hLI] at h0
   obtain⟨i,σ',H',α',μ',yT,yV,rfl,hi',Iv,tni,fr,stp,mr',sr',hacc,dly,hyl,lv',hcmi⟩:=h0
   have okH:Ok (φ++[s2.heap.objs.size]) α' H':=okk _ α' H' μ' ((xA hD).trans stp.lk) mr' lv'
   by_cases hlt:i<xs.length
   ·have TI:=TnI i [] s' σ' H' (λ_ _=>False) Iv (fpk fr) tni (iv.go i _ _ H' okH (by omega))
    rw[hXb'.2.2.2.1] at TI
    refine thn TI ?_
    rintro r s4 ⟨u,rfl,h4⟩
    refine thn h4 ?_
    rintro _ s5 ⟨x,H5,I5,r5,y5,tn5,fr5⟩
    obtain⟨sm5,dx'⟩:=iv.yld i _ _ H' x H5 xs[i] okH (by simp[hlt]) y5
    have stp:=stp.trans (Stp.new (α:=α') sm5)
    have sr':=sr'.step (Stp.new (α:=α') sm5)
    have mr':=mr'.new sm5
    have hacc:=sm5 _ _ hacc
    have dly:=dly.step (Stp.new (α:=α') sm5)
    have hdr:xs.drop i=xs[i]::xs.drop (i+1):=z8x hlt
    rw[hdr] at hcmi
    obtain⟨τ',ha,hfe⟩:=hcmi
    have I5':=I5.pinned (fpk fr5) (Tn.obj _ _ tn5)
    have A6:=VW (S:=z6 tg) (X:=Xb) hXb'.2.2.2.2.2.2.2.2.1 ok.nd sto cm (λx h=>h) htg ha I5' sr' dx' r5
    rw[hXb'.1,hXb'.2.1,hXb'.2.2.2.1,hXb'.2.2.2.2.1,show Xb.xe=λ_ _=>False by subst hXb;rfl] at A6
    refine thn A6 ?_
    rintro _ s6 ⟨σ6,I6,sr6⟩
    generalize hpp:([]++Z1 fp s5.heap:List (Addr×Obj))=pp at I6
    have hppm:∀b∈fp,∃o,(b,o)∈pp:=λb hb=>by
     obtain⟨o,e,_⟩:=Tn.obj _ _ tn5 b hb
     exact⟨o,by rw[←hpp];exact z7J _ (vq hb e)⟩
    generalize hW1:(λ(cls:Value) (d:Option Addr) (_:St) (He:Hp)=>∃c fs' μ' α' Cc,Z0 c fs' μ'/\Stp α1 H2 α' He/\MRel D (φ++[s2.heap.objs.size]) α' He μ'/\D.adr c=some Cc/\cls=.ref Cc/\XDict D (φ++[s2.heap.objs.size]) α' He fs' d:XW)=W1
    have lv:∀e t,XP (Cx.pin' Xb pp) W1 e t->NB e t:=λe t xp=>by
     rw[←hW1] at xp;exact leave hppm xp
    have ck:Ck D W1 (inComp Γ tg sc) ((Cx.pin' Xb pp).wish (XP (Cx.pin' Xb pp) W1)) k:=by
     subst hXb
     exact z1e (W':=W1) (pn:=[]++pp) (xe:=XP (Cx.pin' (cxC X (z6 tg++frees sc) sc cl (s2.heap.objs.size+1) S3 H3 fp) pp) W1) C ok λe s p=>xy (X:=Cx.pin' (cxC X (z6 tg++frees sc) sc cl (s2.heap.objs.size+1) S3 H3 fp) pp) p
    have I6':Inv ((Cx.pin' Xb pp).wish (XP (Cx.pin' Xb pp) W1)) [] σ6 H5 s6:=(V0 I6).wish _
    have next:∀{s7:z7y} {H7:Hp} {α7:List Addr} {μ7:Mem} {yT':List T} {yV':List V},Inv ((Cx.pin' Xb pp).wish (XP (Cx.pin' Xb pp) W1)) [] σ6 H7 s7->Stp α1 H2 α7 H7->MRel D (φ++[s2.heap.objs.size]) α7 H7 μ7->SRel D (φ++[s2.heap.objs.size]) α7 H7 τ' σ6->H7 s2.heap.objs.size=some (.lst yV')->DenL D (φ++[s2.heap.objs.size]) α7 H7 yT' yV'->yT'.length<=i+1->
      Lv μ7->zO tgt (yk cs fe) Lv (blk (z6 tg).length fs τ) (xs.drop (i+1)) μ7 (λrest μ2=>kk (yT'++rest) μ2 K0 Z0) Z0->
      ∃m,m<xs.length-i/\LI m s7:=λ{s7 H7 α7 μ7 yT' yV'} I7 st7 m7 sr7 ac7 dy7 hy7 lv7 q7=>by
     have I7u:Inv Xb pp σ6 H7 s7:=zL I7.unwish
     have pinned:∀b∈fp,∃o,s5.heap.get? b=some o/\s7.heap.get? b=some o/\H7 b=none:=λb hb=>by
      obtain⟨o,e,_⟩:=Tn.obj _ _ tn5 b hb
      have:=I7u.pin (b,o) (z7J _ (by rw[←hpp];exact z7J _ (vq hb e)))
      exact⟨o,e,this.1,this.2.1⟩
     refine⟨xs.length-(i+1),by omega,?_⟩
     rw[hLI]
     refine⟨i+1,σ6,H7,α7,μ7,yT',yV',rfl,hlt,I7u.pins_of (λp hp=>absurd hp (by simp)),Tn.keep _ _ _ tn5 (λb hb o e=>?_),λb hb=>(pinned b hb).choose_spec.2.2,st7,m7,⟨?_,λj t e=>?_⟩,ac7,dy7,hy7,lv7,q7⟩
     ·obtain⟨o',e1,e2,_⟩:=pinned b hb
      rw[e] at e1;cases e1;exact e2
     ·have:=I7u.len
      rw[hXb'.2.2.2.2.2.2.2.2.1] at this
      rw[QC,this]
      simp[ua,uw hfs]
     ·have hj:(z6 tg).length<=j:=by
       rcases zex j (z6 tg).length with h|h
       ·rw[QC,z7F (by simpa using h),z9p] at e
        split at e<;>cases e
       ·exact h
      exact sr7.val j t (by rw[Ur htg ha j hj];exact e)
    have P0:Post D W1 (φ++[s2.heap.objs.size]) α' H5 σ6 (λ(o:Option T) μ7 α7 H7=>match o with
      |some y=>∀v,Den D (φ++[s2.heap.objs.size]) α7 H7 y v->Lv μ7/\zO tgt (yk cs fe) Lv (blk (z6 tg).length fs τ) (xs.drop (i+1)) μ7 (λys μ2=>kk (yT++y::ys) μ2 K0 Z0) Z0
      |none=>Lv μ7/\zO tgt (yk cs fe) Lv (blk (z6 tg).length fs τ) (xs.drop (i+1)) μ7 (λys μ2=>kk (yT++ys) μ2 K0 Z0) Z0) ((yk cs fe τ' μ').bind λo μ7=>RE.ok o μ7):=by
     refine⟨_,Z0,hfe,λo μ7 e α7 H7 st m=>?_,λc fs' μ7 z α7 H7 Cc d st m ad xd=>?_⟩
     ·cases o with
      |some y=>exact λv _=>e
      |none=>exact e
     ·rw[←hW1];exact⟨c,fs',μ7,α7,Cc,z,stp.trans st,m,ad,rfl,xd⟩
    have ep:((Cx.pin' Xb pp).wish (XP (Cx.pin' Xb pp) W1)).prog=X.prog:=hXb'.1
    have ew:((Cx.pin' Xb pp).wish (XP (Cx.pin' Xb pp) W1)).w=X.w:=hXb'.2.1
    have eA:((Cx.pin' Xb pp).wish (XP (Cx.pin' Xb pp) W1)).A=X.A:=hXb'.2.2.2.1
    have ee:((Cx.pin' Xb pp).wish (XP (Cx.pin' Xb pp) W1)).env=z9O sc cl (s2.heap.objs.size+1) X.env:=hXb'.2.2.2.2.1
    have nD:s2.heap.objs.size∉α':=λz=>mr'.dis _ z (by simp)
    have G:=Ys (X:=(Cx.pin' Xb pp).wish (XP (Cx.pin' Xb pp) W1)) (M:=z7N X.prog X.w) (A:=X.A) (Qf:=λb s₄=>if b=true then z7K (z7N X.prog X.w) X.A (eval elt (z9O sc cl (s2.heap.objs.size+1) X.env)) (λx s₅=>z7K (z7N X.prog X.w) X.A (call (.builtin "list.append") [.ref s2.heap.objs.size,x]) (λ_ s₆=>∃m,m<xs.length-i/\LI m s₆) (λ_ _=>False) s₅) NB s₄ else ∃m,m<xs.length-i/\LI m s₄) (hts _ W1 ck) I6' sr6 mr' P0 (λs7 H7 α7 μ7 I7 st7 sr7 m7 p7=>?_) (λs7 H7 α7 μ7 I7 st7 sr7 m7 p7=>?_)
    ·rw[ep,ew,eA,ee] at G
     rw[←hNB]
     exact y4 (λe t h=>lv e t h) G
    ·rw[if_pos rfl]
     have E7:=sub (hel _ W1 ck) I7 sr7 m7 p7
     rw[ep,ew,eA,ee] at E7
     refine z8i E7 (λx8 s8 h8=>?_) λe t h=>lv e t h
     obtain⟨v8,H8,y8,μ8,α8,I8,r8,st8,sr8,m8,d8,p8⟩:=h8
     have q8:=p8.ok (Stp.refl _ _) m8 v8 d8
     have acc8:H8 s2.heap.objs.size=some (.lst yV):=st8.keep _ _ (λz=>m7.dis _ z (by simp)) (st7.keep _ _ nD hacc)
     have hyv:yV.length<=i:=by rw[←dly.length];exact hyl
     have AP:=ZA (X:=Cx.pin' Xb pp) [] s8 σ6 H8 (.ref s2.heap.objs.size) [v8] (.ref s2.heap.objs.size) [x8] (λ_ H9=>H9=upd H8 s2.heap.objs.size (.lst (yV++[v8]))) I8.unwish rfl (.cons r8 .nil) ⟨_,yV,v8,rfl,rfl,acc8,zaW hyv (z7I hlt (zt hroom)),rfl⟩
     rw[show (Cx.pin' Xb pp).prog=X.prog from hXb'.1,show (Cx.pin' Xb pp).w=X.w from hXb'.2.1,show (Cx.pin' Xb pp).A=X.A from hXb'.2.2.2.1,show (Cx.pin' Xb pp).xe=λ_ _=>False by subst hXb;rfl] at AP
     refine thn AP ?_
     rintro x9 s9 ⟨v9,H9,I9,r9,rfl⟩
     have inphi:s2.heap.objs.size∈φ++[s2.heap.objs.size]:=by simp
     have t:=(stp.trans st7).trans st8
     have one:DenL D (φ++[s2.heap.objs.size]) α8 H8 [y8] [v8]:=⟨v8,[],rfl,d8,rfl⟩
     refine next (I9.wish _) ⟨t.ext,λb o n e=>?_,λb e=>t.live b ?_⟩ (m8.lk (uO inphi) (λa ha'=>⟨by rw[z8 (λz=>m8.dis a ha' (by rw[z];simp))],m8.dis a ha'⟩) (λb hb=>?_)) (sr8.lk (uO inphi)) z7 ((((dly.step st7).step st8).append one).lk (uO inphi)) (by simp;omega) q8.1 (by simpa using q8.2)
     ·rw[z8 (zK e hD)];exact t.keep b o n e
     ·by_cases hb:b=s2.heap.objs.size
      ·rw[hb,z7] at e;cases e
      ·rw[z8 hb] at e;exact e
     ·by_cases hb':b=s2.heap.objs.size
      ·rw[hb',z7];exact⟨_,rfl⟩
      ·rw[z8 hb'];exact m8.phi b hb
    ·rw[if_neg (by decide)]
     exact next I7 (stp.trans st7) m7 sr7 (st7.keep _ _ nD hacc) (dly.step st7) (by omega) (p7.ok (Stp.refl _ _) m7).1 (p7.ok (Stp.refl _ _) m7).2
   ·have hie:i=xs.length:=by omega
    have TD:=TnD i [] s' σ' H' (λ_ _=>False) Iv (fpk fr) tni (by rw[hie];exact iv.stop _ _ H' okH)
    rw[hXb'.2.2.2.1] at TD
    refine thn TD ?_
    rintro r s4 ⟨rfl,I4⟩
    have hdr:xs.drop i=[]:=by rw[hie];simp
    rw[hdr] at hcmi
    have q4:kk yT μ' K0 Z0:=by
     have:kk (yT++[]) μ' K0 Z0:=hcmi
     simpa using this
    have I5:=back I4
    obtain⟨m,hm,_⟩:=I4.loc
    rw[hXb'.2.2.2.2.1] at hm
    exact Kq s2.heap.objs.size (s2.heap.objs.size+1) s4 α1 H2 H' α' yT yV μ' I5 st1 stp hD nph nal (((sr.step st1).lk (xA hD)).step stp) mr' hacc dly ⟨K0,Z0,q4,hk0,hz0⟩ ⟨by have:=I4.free;rw[hXb'.2.2.2.2.1] at this;exact this,xo0.loc,xo0.nfs,xo0.new,xo0.cel,xo0.pin⟩ pn3 ⟨m,hm⟩
  ·have sm:yl H2 H3:=by rw[←hH3];exact za hD
   rw[hLI]
   refine⟨0,_,_,α1,μ1,[],[],rfl,z98 _,J0,Tn.keep _ _ _ tn0 λb hb o e=>old b o e,λb hb=>?_,Stp.new sm,?_,?_,by rw[←hH3];exact z7,rfl,z7D _,lv1,by simpa using q0⟩
   ·obtain⟨o,ho⟩:=fo b hb
    rw[←hH3,z8 (z85 (z7T ho))]
    exact (f2 b hb).1
   ·refine mr1.lk (Vh hD sm) (λa ha=>?_) λb hb=>?_
    ·have na:a≠s2.heap.objs.size:=λz=>nal (z▸ha)
     exact⟨by rw[←hH3];exact z8 na,λz=>(z7H.mp z).elim (mr1.dis a ha) λz=>na (z7C.mp z)⟩
    ·rcases z7H.mp hb with z|z
     ·obtain⟨o,e⟩:=mr1.phi b z
      exact⟨o,sm b o e⟩
     ·rw[z7C.mp z,←hH3,z7];exact⟨_,rfl⟩
   ·exact (z0_ (sr.step st1) hfs).lk (Vh hD sm)
 exact codeAny_compStart_list loop (z8i (Tn.self _ 0 _ _ _ (Tn.keep _ _ _ tn0 λb hb o e=>old b o e) loop) (λ_ _ q=>q) λ_ _ q=>q)
end
end NH
end
section
namespace NH
open PySem PySem.Spec PyProof.Rows L2
section
variable {X:Cx}{D:DP}{W:XW}{Γ:Cn}{k:Nat}{pins:List (Addr×Obj)}{s:Shared}{σ:St}{H:Hp}{φ α:List Addr}{τ:Sl}{μ:Mem}{tg iter elt:Expr}{sc:Scope}{pos:Pos}{fi:Di}{fs:List Nat}{tgt:Tg}{ifs:List Expr}{cs:List Dt}{fe:De}
theorem WJ{β:Type}{R:β->Mem->List Addr->Hp->Prop}{kk:T->Mem->RE β}{acc:Addr}{α1 α':List Addr}{H1 H':Hp}{ys:List T}{vs:List V}{μ':Mem}(st:Stp α1 H1 α' H')(hn:H1 acc=none)(nph:acc∉φ)(mr:MRel D (φ++[acc]) α' H' μ')(ha:H' acc=some (.lst vs))(dl:DenL D (φ++[acc]) α' H' ys vs)(p:Post D W φ α1 H1 σ R (kk (.lst ys) μ')) :
  MRel D φ α' H' μ'/\Den D φ α' H' (.lst ys) (.ref acc)/\Post D W φ α' H' σ R (kk (.lst ys) μ'):=
 ⟨mr.lk wV (λa ha=>⟨rfl,λz=>mr.dis a ha (z7S _ z)⟩) λb hb=>mr.phi b (z7S _ hb),⟨acc,vs,rfl,nph,λz=>mr.dis _ z (by simp),.inl ha,dl.lk wV⟩,p.step st⟩
theorem jV{acc:Addr}{α':List Addr}{H':Hp}:Lk (φ++[acc]) α' H' φ (α'++[acc]) H':=⟨λa o n1 n2 e=>⟨λz=>n1 (z7S _ z),λz=>(z7H.mp z).elim n2 λz=>n1 (by rw[z7C.mp z];simp),e⟩,λi a e=>by
 rw[z7F (z7v.mp e).1];exact e⟩
theorem Qg{acc:Addr}{α1 α':List Addr}{H1 H':Hp}{ys:List T}{vs:List V}{μ':Mem}(st:Stp α1 H1 α' H')(hn:H1 acc=none)(nph:acc∉φ)(mr:MRel D (φ++[acc]) α' H' μ')(ha:H' acc=some (.lst vs))(dl:DenL D (φ++[acc]) α' H' ys vs) :
  Stp α1 H1 (α'++[acc]) H'/\MRel D φ (α'++[acc]) H' (μ'++[.lst ys])/\Den D φ (α'++[acc]) H' (.mut μ'.length) (.ref acc):=by
 have nal:acc∉α':=λz=>mr.dis _ z (by simp)
 refine⟨?_,⟨by simp[mr.len],?_,λb hb=>?_,λb hb=>mr.phi b (z7S _ hb),λi a o e1 e2=>?_⟩,acc,by rw[←mr.len,z7L (z7D _)];simp,rfl⟩
 ·obtain⟨β,e,hβ⟩:=st.ext
  exact⟨⟨β++[acc],by rw[e];simp,λb hb=>(z7H.mp hb).elim (hβ b) λz=>by rw[z7C.mp z];exact hn⟩,st.keep,st.live⟩
 ·rw[zan]
  exact⟨mr.nd,by simp,λa ha b hb z=>nal (by rw[z7C.mp hb] at z;exact z▸ha)⟩
 ·rcases z7H.mp hb with h|h
  ·exact λz=>mr.dis b h (z7S _ z)
  ·rw[z7C.mp h];exact nph
 ·by_cases hi:i<α'.length
  ·rw[z7F hi] at e1
   rw[z7F (by rw[←mr.len];exact hi)] at e2
   exact (mr.ob i a o e1 e2).lk jV rfl
  ·have hl:=mr.len
   rw[z7L (by omega)] at e1 e2
   have hi':i-α'.length=0:=by
    by_cases z:i-α'.length=0
    ·exact z
    ·rw[zat (by simp;omega)] at e1;cases e1
   have hi2:i-μ'.length=0:=by omega
   rw[hi'] at e1
   rw[hi2] at e2
   have e1:some acc=some a:=e1
   have e2:some (MO.lst ys)=some o:=e2
   cases e1;cases e2
   exact⟨vs,ha,dl.lk jV⟩
theorem K8(C:Ck D W Γ X k)(hc:Γ.calm=true)(ok:CompOk Γ.N Γ.cel tg sc)(hfs:yi Γ.N (frees sc)=some fs)(htg:wz (z6 tg++frees sc) tg=some tgt)(hi:PI X tg iter (rdI D W fi))(hel:∀X' W',Ck D W' (inComp Γ tg sc) X' k->PE X' elt (rdE D W' fe))(hts:∀X' W',Ck D W' (inComp Γ tg sc) X' k->Ja X' D W' ifs cs)(hs:∀x,z8G iter X.env x=pure x) :
  PE X (.ListComp elt [⟨tg,iter,ifs,0⟩] sc pos) (rdE D W (qI (z6 tg).length fs tgt fi cs fe)):=by
 rintro pins s σ H Q I ⟨φ,α,τ,μ,sr,mr,p⟩
 rw[eval_ListComp]
 refine xR (kk:=λys μ=>RE.ok (T.lst ys) μ) (use:=none) (Qf:=EP X pins σ Q) C hc ok hfs htg hi hel hts hs I sr mr p ?_
 rintro acc C0 s' α1 H1 H' α' ys vs μ' I' st1 st hn nph nal sr' m ha dl post xo hp ⟨mm,hm⟩
 obtain⟨m2,d,post⟩:=WJ (kk:=λt μ=>RE.ok t μ) st hn nph m ha dl post
 exact⟨mm,hm,λg sb=>⟨.ref acc,H',yr I' xo hp sb,rfl,post.here m2 d⟩⟩
theorem YA(C:Ck D W Γ X k)(hc:Γ.calm=true)(ok:CompOk Γ.N Γ.cel tg sc)(hfs:yi Γ.N (frees sc)=some fs)(htg:wz (z6 tg++frees sc) tg=some tgt)(hi:PI X tg iter (rdI D W fi))(hel:∀X' W',Ck D W' (inComp Γ tg sc) X' k->PE X' elt (rdE D W' fe))(hts:∀X' W',Ck D W' (inComp Γ tg sc) X' k->Ja X' D W' ifs cs)(hs:∀x,z8G iter X.env x=pure x) :
  PE X (.ListComp elt [⟨tg,iter,ifs,0⟩] sc pos) (rdE D W (xJ (z6 tg).length fs tgt fi cs fe)):=by
 rintro pins s σ H Q I ⟨φ,α,τ,μ,sr,mr,p⟩
 rw[eval_ListComp]
 refine xR (kk:=λys μ=>RE.ok (T.mut μ.length) (μ++[MO.lst ys])) (use:=none) (Qf:=EP X pins σ Q) C hc ok hfs htg hi hel hts hs I sr mr p ?_
 rintro acc C0 s' α1 H1 H' α' ys vs μ' I' st1 st hn nph nal sr' m ha dl post xo hp ⟨mm,hm⟩
 obtain⟨st2,m2,d⟩:=Qg st hn nph m ha dl
 exact⟨mm,hm,λg sb=>⟨.ref acc,H',yr I' xo hp sb,rfl,post.ok st2 m2 _ d⟩⟩
theorem qR{x:Str}{g:GM}(h:Γ.look x=g)(hg:g≠.bad):x∈Γ.G/\Γ.gl x=g:=by
 unfold Cn.look at h
 split at h
 ·rename_i hm
  exact⟨by simpa using hm,h⟩
 ·exact absurd h.symm hg
theorem WG{iter:Expr}(h:wC iter=true):∀x,z8G iter X.env x=pure x:=by
 intro x
 cases iter<;>first|rfl|(simp[wC] at h)
end
end NH
end
section
namespace NH
open PySem PySem.Spec PyProof.Rows L2
noncomputable def PostS(D:DP)(W:XW)(φ α:List Addr)(H:Hp)(E:Ends)(o:Out):Prop:=
 ∃Q:En,o Q/\(∀τ μ,Q.nx τ μ->∀α' H' σ',Stp α H α' H'->MRel D φ α' H' μ->SRel D φ α' H' τ σ'->E.nx σ' H')/\
  (∀τ μ,Q.bk τ μ->∀α' H' σ',Stp α H α' H'->MRel D φ α' H' μ->SRel D φ α' H' τ σ'->E.bk σ' H')/\
  (∀τ μ,Q.ct τ μ->∀α' H' σ',Stp α H α' H'->MRel D φ α' H' μ->SRel D φ α' H' τ σ'->E.ct σ' H')/\
  (∀t μ,Q.rt t μ->∀α' H' v,Stp α H α' H'->MRel D φ α' H' μ->Den D φ α' H' t v->E.rt v H')/\
  (∀c fs τ μ,Q.ex c fs τ μ->∀α' H' σ' C d,Stp α H α' H'->MRel D φ α' H' μ->SRel D φ α' H' τ σ'->D.adr c=some C->XDict D φ α' H' fs d->W (.ref C) d σ' H')
noncomputable def rdS (D:DP)(W:XW)(f:Ds):TS:=λE σ H=>∃φ α τ μ,SRel D φ α H τ σ/\MRel D φ α H μ/\PostS D W φ α H E (f τ μ)
structure Sk(D:DP)(W:XW)(Γ:Cn)(X:Cx)(k:Nat):Prop extends Ck D W Γ X k where
 sto:Sto X Γ.N
 lcl:∀x∈Γ.N,Γ.cel.contains x=false->X.env.scope.names.lookup x=some .local
 pso:zcb (z7N X.prog X.w) X.A X.env X.xe
 xmt:∀t x c,(x,c)∈Γ.cls->c<40->∀Ct Cc,D.adr t=some Ct->X.mg x=some (.ref Cc)->zc8 X.K (.ref Ct) (.ref Cc)=some (vL t c)
section
variable {X:Cx}{D:DP}{W:XW}{Γ:Cn}{k:Nat}{pins:List (Addr×Obj)}{s:Shared}{σ:St}{H:Hp}{φ α:List Addr}{τ:Sl}{μ:Mem}{f g:De}{a b c e:Expr}{pos:Pos}{E:Ends}{u v:Ds}
theorem PostS.step{α':List Addr}{H':Hp}{o:Out}(p:PostS D W φ α H E o)(st:Stp α H α' H'):PostS D W φ α' H' E o:=by
 obtain⟨Q,q,h1,h2,h3,h4,h5⟩:=p
 exact⟨Q,q,λτ μ z α2 H2 σ2 s2=>h1 τ μ z α2 H2 σ2 (st.trans s2),λτ μ z α2 H2 σ2 s2=>h2 τ μ z α2 H2 σ2 (st.trans s2),λτ μ z α2 H2 σ2 s2=>h3 τ μ z α2 H2 σ2 (st.trans s2),λτ μ z α2 H2 σ2 s2=>h4 τ μ z α2 H2 σ2 (st.trans s2),λc fs τ μ z α2 H2 σ2 C d s2=>h5 c fs τ μ z α2 H2 σ2 C d (st.trans s2)⟩
theorem PostS.elim{C:Prop}(p:PostS D W φ α H E Out.st):C:=by obtain⟨_,q,_⟩:=p;exact q.elim
theorem PostS.nx{τ:Sl}{μ:Mem}(p:PostS D W φ α H E (.nx τ μ)){α':List Addr}{H':Hp}{σ':St}(s:Stp α H α' H')(m:MRel D φ α' H' μ)(r:SRel D φ α' H' τ σ'):E.nx σ' H':=by
 obtain⟨Q,q,h1,_⟩:=p
 exact h1 τ μ q α' H' σ' s m r
theorem PostS.rt{t:T}{μ:Mem}(p:PostS D W φ α H E (.rt t μ)){α':List Addr}{H':Hp}{v:V}(s:Stp α H α' H')(m:MRel D φ α' H' μ)(r:Den D φ α' H' t v):E.rt v H':=by
 obtain⟨Q,q,_,_,_,h,_⟩:=p
 exact h t μ q α' H' v s m r
theorem PostS.ex{c:Nat}{fs:List (Nat×T)}{τ:Sl}{μ:Mem}(p:PostS D W φ α H E (.ex c fs τ μ)){α':List Addr}{H':Hp}{σ':St}{C:Addr}{d:Option Addr}(s:Stp α H α' H')(m:MRel D φ α' H' μ)(r:SRel D φ α' H' τ σ')(ad:D.adr c=some C)(x:XDict D φ α' H' fs d):W (.ref C) d σ' H':=by
 obtain⟨Q,q,_,_,_,_,h⟩:=p
 exact h c fs τ μ q α' H' σ' C d s m r ad x
theorem PostS.grd{c:Prop}{o:Out}(p:PostS D W φ α H E (Out.grd c o)):c/\PostS D W φ α H E o:=by
 obtain⟨Q,q,h⟩:=p
 exact⟨q.1,Q,q.2,h⟩
theorem PostS.som{γ:Type}{o:Option γ}{k:γ->Out}(p:PostS D W φ α H E (Out.som o k)):∃a,o=some a/\PostS D W φ α H E (k a):=by
 obtain⟨Q,⟨a,e,q⟩,h⟩:=p
 exact⟨a,e,Q,q,h⟩
theorem PostS.br{b:Bool}{r s:Out}(p:PostS D W φ α H E (Out.br b r s)):(b=true/\PostS D W φ α H E r)\/(b=false/\PostS D W φ α H E s):=by
 obtain⟨Q,q,h⟩:=p
 cases b with
 |true=>exact .inl ⟨rfl,Q,q,h⟩
 |false=>exact .inr ⟨rfl,Q,q,h⟩
theorem PostS.ex2{δ1 δ2:Type}{P P2:δ1->δ2->Prop}{r:δ1->δ2->Out}(p:PostS D W φ α H E (λQ=>∃x y,P x y/\P2 x y/\r x y Q)):∃x y,P x y/\P2 x y/\PostS D W φ α H E (r x y):=by
 obtain⟨Q,⟨x,y,h1,h2,q⟩,h⟩:=p
 exact⟨x,y,h1,h2,Q,q,h⟩
theorem PostS.ex1{δ1:Type}{P P2:δ1->Prop}{r:δ1->Out}(p:PostS D W φ α H E (λQ=>∃x,P x/\P2 x/\r x Q)):∃x,P x/\P2 x/\PostS D W φ α H E (r x):=by
 obtain⟨Q,⟨x,h1,h2,q⟩,h⟩:=p
 exact⟨x,h1,h2,Q,q,h⟩
theorem PostS.out{β:Type}{r:RE β}{kk:β->Mem->Out}(sr:SRel D φ α H τ σ)(p:PostS D W φ α H E (r.out τ kk)):Post D W φ α H σ (λt μ' α' H'=>PostS D W φ α' H' E (kk t μ')) r:=by
 obtain⟨Q,q,h⟩:=p
 refine⟨_,_,q,λa μ' e α' H' st m=>PostS.step ⟨Q,e,h⟩ st,λc fs μ' e α' H' C d st m ad xd=>?_⟩
 exact h.2.2.2.2 c fs τ μ' e α' H' σ C d st m (sr.step st) ad xd
theorem z34(ha:PE X a (rdE D W f)):PS X (.Return (some a) pos) (rdS D W (zh f)):=by
 rintro pins s σ H E I ⟨φ,α,τ,μ,sr,mr,p⟩
 refine z3m ha pins s σ H E I ⟨φ,α,τ,μ,sr,mr,(PostS.out sr p).mono λt μ' α' H' st m q v d=>PostS.rt q (Stp.refl _ _) m d⟩
theorem z1o:PS X (.Return none pos) (rdS D W U1):=by
 rintro pins s σ H E I ⟨φ,α,τ,μ,sr,mr,p⟩
 exact z0w pins s σ H E I (PostS.rt p (Stp.refl _ _) mr rfl)
theorem z1N(hs:zaw a none pos.line X.env=pure false)(ha:PE X a (rdE D W f)):PS X (.Expr a pos) (rdS D W (zF f)):=by
 rintro pins s σ H E I ⟨φ,α,τ,μ,sr,mr,p⟩
 refine z18 ha hs pins s σ H E I ⟨φ,α,τ,μ,sr,mr,(PostS.out sr p).mono λt μ' α' H' st m q v d=>PostS.nx q (Stp.refl _ _) m (sr.step st)⟩
theorem z1F:PSs X [] (rdS D W (zQ [])):=by
 rintro pins s σ H E I ⟨φ,α,τ,μ,sr,mr,p⟩
 exact Kf pins s σ H E I (PostS.nx p (Stp.refl _ _) mr sr)
theorem U5{st:Stmt}{r:List Stmt}{fs:List Ds}(h1:PS X st (rdS D W u))(h2:PSs X r (rdS D W (zQ fs))):PSs X (st::r) (rdS D W (zQ (u::fs))):=by
 rintro pins s σ H E I ⟨φ,α,τ,μ,sr,mr,Q,q,h3,h4,h5,h6,h7⟩
 refine Y3 h1 h2 pins s σ H E I ⟨φ,α,τ,μ,sr,mr,_,q,λτ1 μ1 e α' H' σ' st m sr'=>?_,h4,h5,h6,h7⟩
 exact⟨φ,α',τ1,μ1,sr',m,PostS.step ⟨Q,e,h3,h4,h5,h6,h7⟩ st⟩
noncomputable def Wf (X:Cx)(D:DP)(W:XW):List Stmt->List Ds->Prop
 |[],[]=>True
 |e::es,f::fs=>PS X e (rdS D W f)/\Wf X D W es fs
 |_,_=>False
theorem w4:∀{sts:List Stmt} {fs:List Ds},Wf X D W sts fs->PSs X sts (rdS D W (zQ fs))
 |[],[],_=>z1F
 |st::r,f::fs,h=>U5 h.1 (w4 h.2)
 |[],_::_,h=>h.elim
 |_::_,[],h=>h.elim
theorem z6O{ft:Dt}{as bs:List Stmt}{us vs:List Ds}(hc:PT X c (rdT D W ft))(ha:Wf X D W as us)(hb:Wf X D W bs vs):PS X (.If c as bs pos) (rdS D W (sIf ft us vs)):=by
 rintro pins s σ H E I ⟨φ,α,τ,μ,sr,mr,p⟩
 refine z6M hc (w4 ha) (w4 hb) pins s σ H E I ⟨φ,α,τ,μ,sr,mr,(PostS.out sr p).mono λb μ' α' H' st m q=>?_⟩
 rcases PostS.br q with⟨rfl,q⟩|⟨rfl,q⟩
 ·exact⟨φ,α',τ,μ',sr.step st,m,q⟩
 ·exact⟨φ,α',τ,μ',sr.step st,m,q⟩
theorem Yi(C:Sk D W Γ X k){x:Str}{i:Nat}{p0:Pos}(hi:idx Γ.N x=some i)(hs:zaw a (some (.Name x p0)) pos.line X.env=pure false)(ha:PE X a (rdE D W f)):PS X (.Assign [.Name x p0] a pos) (rdS D W (zk i f)):=by
 rintro pins s σ H E I ⟨φ,α,τ,μ,sr,mr,p⟩
 have hx:=w8 hi
 refine z4o (i:=i) (X:=X) (by rw[C.hN];exact C.nd) (by rw[C.hN];exact wH hi) (C.sto x hx).1 ha hs (C.sto x hx).2 pins s σ H E I ⟨φ,α,τ,μ,sr,mr,(PostS.out sr p).mono λt μ' α' H' st m q v d=>?_⟩
 exact PostS.nx q (Stp.refl _ _) m ((sr.step st).set d)
theorem Wr{N:List Str}:∀{es:List Expr} {is:List Nat},idxs N es=some is->∀e∈es,∀x p,e=.Name x p->x∈N
 |[],_,_,e,he,_,_,_=>absurd he (by simp)
 |e0::es,is,h,e,he,x,p,hx=>by
  cases e0 with
  |Name y p0=>
   simp only[idxs] at h
   split at h
   ·rename_i i is' hi his
    rcases z88.mp he with rfl|he
    ·cases hx;exact w8 hi
    ·exact Wr his e he x p hx
   ·cases h
  |_=>simp[idxs] at h
theorem z06{N:List Str}{e:Expr}{tgt:Tg}(h:wz N e=some tgt):∀x∈z6 e,x∈N:=by
 intro x hx
 cases e with
 |Name y p=>
  simp[z6] at hx
  subst hx
  simp only[wz] at h
  cases q:idx N x with
  |none=>rw[q] at h;cases h
  |some i=>exact w8 q
 |Tuple es kk p=>
  obtain⟨e,he,q⟩:=z9w.mp hx
  simp only[wz] at h
  cases q2:idxs N es with
  |none=>rw[q2] at h;cases h
  |some is=>
   cases e with
   |Name y p0=>
    have q:some y=some x:=q
    cases q
    exact Wr q2 _ he x p0 rfl
   |_=>cases q
 |_=>simp[z6] at hx
theorem z2p(C:Sk D W Γ X k)(hc:X.calm=true){tg:Expr}{tgt:Tg}(ht:wz Γ.N tg=some tgt):PG X tg (λv σ H Q=>∃φ α τ t τ',SRel D φ α H τ σ/\Den D φ α H t v/\asg tgt t τ=some τ'/\∀σ',SRel D φ α H τ' σ'->Q σ' H):=by
 rintro pins s σ H v u Q I r ⟨φ,α,τ,t,τ',sr,d,ha,q⟩
 refine thn (VW (S:=Γ.N) C.hN C.nd C.sto hc (z06 ht) ht ha I sr d r) ?_
 rintro _ s1 ⟨σ',I1,sr'⟩
 exact⟨σ',H,I1,q σ' sr'⟩
noncomputable def kT:Expr->Bool
 |.Call _ _ _ _=>true
 |.Name _ _=>true
 |.Subscript _ _ _=>true
 |.Attribute _ _ _=>true
 |_=>false
theorem z39(C:Sk D W Γ X k)(hc:Γ.calm=true){es:List Expr}{is:List Nat}{kk:Nat}{p0:Pos}(hp:kT a=true)(hn:idxs Γ.N es=some is)(ha:PE X a (rdE D W f)):PS X (.Assign [.Tuple es kk p0] a pos) (rdS D W (ug is f)):=by
 rintro pins s σ H E I ⟨φ,α,τ,μ,sr,mr,p⟩
 have h1:zba [.Tuple es kk p0] a pos.line X.env=pure false:=by cases a<;>first|(simp[kT] at hp;done)|rfl
 have h2:zbb [.Tuple es kk p0] a X.env=pure none:=by cases a<;>first|(simp[kT] at hp;done)|rfl
 refine Jj ha (z2p C (C.clm hc) (tg:=.Tuple es kk p0) (tgt:=.tup is) (by simp[wz,hn])) h1 h2 rfl pins s σ H E I ⟨φ,α,τ,μ,sr,mr,(PostS.out sr p).mono λt μ' α' H' st m q v d=>?_⟩
 obtain⟨τ',h,q⟩:=PostS.som q
 exact⟨φ,α',τ,t,τ',sr.step st,d,h,λσ' sr'=>PostS.nx q (Stp.refl _ _) m sr'⟩
theorem z54(C:Sk D W Γ X k){o:Expr}{x:Str}{n:Nat}{p1:Pos}{go:De}(hn:(x,n)∈Γ.fld)(ha:PE X a (rdE D W f))(ho:PE X o (rdE D W go)) :
  PS X (.Assign [.Attribute o x p1] a pos) (rdS D W (ql go n f)):=by
 rintro pins s σ H E I ⟨φ,α,τ,μ,sr,mr,p⟩
 have hs:zaw a (some (.Attribute o x p1)) pos.line X.env=pure false:=by cases a<;>rfl
 refine z2Z ho ha hs pins s σ H E I ⟨φ,α,τ,μ,sr,mr,(PostS.out sr p).mono λt μ1 α1 H1 st1 m1 q v d=>?_⟩
 have sr1:=sr.step st1
 refine⟨φ,α1,τ,μ1,sr1,m1,(PostS.out sr1 q).mono λot μ2 α2 H2 st2 m2 q2 ov dv=>?_⟩
 split at q2
 case h_2=>exact PostS.elim q2
 rename_i i
 obtain⟨c,fs,hμ,hl,q2⟩:=PostS.ex2 q2
 obtain⟨y,hx,rfl⟩:=dv
 obtain⟨C0,dx,gs,ad,hH,df⟩:=m2.ob i y _ hx hμ
 obtain⟨fx,cl,na⟩:=C.fld c C0 x n ad hn
 refine⟨y,C0,dx,gs,rfl,hH,cl,na,by rw[←df.length];omega,?_⟩
 have st3:Stp α2 H2 α2 (upd H2 y (.ins C0 dx (v7 x v gs))):=Stp.turn (z7P hx) ⟨_,hH⟩
 have hi:i<μ2.length:=(z7v.mp hμ).1
 exact PostS.nx q2 st3 (m2.turn hx hi st3 ⟨C0,dx,_,ad,z7,DenF.put fx (df.step st3) ((d.step st2).step st3)⟩) ((sr1.step st2).step st3)
theorem set_list:z4M X (λo i v H Q=>∃l k xs,o=.ref l/\i=.int k/\H l=some (.lst xs)/\0<=k/\k<xs.length/\k<9223372036854775808/\Q (upd H l (.lst (xs.set k.toNat v)))):=by
 intro pins s σ H o i v ov iv u Q I ro ri rv h
 obtain⟨l,k,xs,rfl,rfl,hH,h0,h1,h2,q⟩:=h
 cases ro
 obtain⟨t,rfl⟩:=ri
 obtain⟨z,its,n,r,hl,e⟩:=I.lstM hH
 refine PySem.W.ki_setAt (n:=n) (items:=its.toArray) e h0 (by simpa using h2) (by rw[z7M,←hl];exact h1) ?_
 exact⟨_,I.lset (t':=s.toks) (ys:=xs.set k.toNat v) (its':=its.set k.toNat u) (f:=λa=>a.setIfInBounds k.toNat u) hH e (by simp) (Vals.set rv _ r) (by rw[List.length_set];exact z),q⟩
theorem z4V(C:Sk D W Γ X k){o:Expr}{p1:Pos}{fo fb:De}(hb':qE b=true)(ha:PE X a (rdE D W f))(ho:PE X o (rdE D W fo))(hb:PE X b (rdE D W fb)) :
  PS X (.Assign [.Subscript o b p1] a pos) (rdS D W (z66 fo fb f)):=by
 rintro pins s σ H E I ⟨φ,α,τ,μ,sr,mr,p⟩
 have h1:zba [.Subscript o b p1] a pos.line X.env=pure false:=by cases a<;>rfl
 have h2:zbb [.Subscript o b p1] a X.env=pure none:=by cases a<;>rfl
 refine Jj ha (Yz ho hb set_list (λv=>by cases b<;>first|(simp[qE] at hb';done)|rfl)) h1 h2 rfl pins s σ H E I ⟨φ,α,τ,μ,sr,mr,(PostS.out sr p).mono λt μ1 α1 H1 st1 m1 q v d=>?_⟩
 have sr1:=sr.step st1
 refine⟨φ,α1,τ,μ1,sr1,m1,(PostS.out sr1 q).mono λot μ2 α2 H2 st2 m2 q2 ov dv=>?_⟩
 have sr2:=sr1.step st2
 refine⟨φ,α2,τ,μ2,sr2,m2,(PostS.out sr2 q2).mono λit μ3 α3 H3 st3 m3 q3 iv di=>?_⟩
 have d3:=(d.step st2).step st3
 split at q3
 case h_2=>exact PostS.elim q3
 rename_i i kk
 have dv:=dv.step st3
 obtain⟨ts,hμ,hk,q3⟩:=PostS.ex1 q3
 obtain⟨x,hx,rfl⟩:=dv
 have di:iv=.int kk:=di
 subst di
 obtain⟨xs,hH,l⟩:=m3.ob i x _ hx hμ
 have st4:Stp α3 H3 α3 (upd H3 x (.lst (xs.set kk.toNat v))):=Stp.turn (z7P hx) ⟨_,hH⟩
 have hi:i<μ3.length:=(z7v.mp hμ).1
 exact⟨x,kk,xs,rfl,rfl,hH,hk.1,by rw[←l.length];exact hk.2.1,hk.2.2,PostS.nx q3 st4 (m3.turn hx hi st4 ⟨_,z7,DenL.set (l.step st4) (d3.step st4)⟩) ((sr2.step st3).step st4)⟩
theorem z4G(C:Sk D W Γ X k)(hc:Γ.calm=true){tg iter:Expr}{tgt:Tg}(ht:wz Γ.N tg=some tgt){fi:Di}{body:List Stmt}{vs:List Ds}(hi:PI X tg iter (rdI D W fi))(hb:Wf X D W body vs)(hs:∀x,z8G iter X.env x=pure x) :
  PS X (.For tg iter body [] pos) (rdS D W (jI tgt fi vs)):=by
 rintro pins s σ H E I ⟨φ,α,τ,μ,sr,mr,p⟩
 refine z3A C.pso (C.clm hc) hi (z2p C (C.clm hc) ht) (w4 hb) hs pins s σ H E I ⟨φ,α,τ,μ,sr,mr,(PostS.out sr (show PostS D W φ α H E ((fi τ μ).re.out τ λpr μ1=>forM tgt (zQ vs) pr.2 pr.1 τ μ1) from p)).mono λpr μ1 α1 H1 st1 m1 q J Ok iv okk lv1=>?_⟩
 obtain⟨xs,o⟩:=pr
 obtain⟨Q,q,h1,h2,h3,h4,h5⟩:=q
 refine⟨λi m σ' H'=>m=xs.length-i/\i<=xs.length/\∃α' τ' μ',Stp α1 H1 α' H'/\MRel D φ α' H' μ'/\SRel D φ α' H' τ' σ'/\o μ'/\forM tgt (zQ vs) o (xs.drop i) τ' μ' Q,⟨xs.length,by simp,z98 _,α1,τ,μ1,Stp.refl _ _,m1,sr.step st1,lv1,by simpa using q⟩,?_⟩
 rintro i m σ' H' ⟨rfl,hi',α',τ',μ',stp,mr',sr',lv',pf⟩
 have okH:Ok φ α' H':=okk _ α' H' μ' stp.lk mr' lv'
 by_cases hlt:i<xs.length
 ·refine .inr ⟨iv.go i _ _ H' okH hlt,λσ2 H2=>∃α2 τ2 μ2,Stp α1 H1 α2 H2/\MRel D φ α2 H2 μ2/\SRel D φ α2 H2 τ2 σ2/\o μ2/\forM tgt (zQ vs) o (xs.drop (i+1)) τ2 μ2 Q,λσ2 H2 h2=>⟨xs.length-(i+1),by omega,rfl,hlt,h2⟩,λx H2 y=>?_⟩
  obtain⟨sm,dx⟩:=iv.yld i _ _ H' x H2 xs[i] okH (by simp[hlt]) y
  have stp:=stp.trans (Stp.new (α:=α') sm)
  have sr':=sr'.step (Stp.new (α:=α') sm)
  have mr':=mr'.new sm
  rw[z8x hlt] at pf
  obtain⟨τ3,ha,pf⟩:=pf
  refine⟨φ,α',τ',xs[i],τ3,sr',dx,ha,λσ3 sr3=>⟨φ,α',τ3,μ',sr3,mr',_,pf,?_,?_,?_,?_,?_⟩⟩
  ·exact λτ4 μ4 e α4 H4 σ4 st4 m4 sr4=>⟨α4,τ4,μ4,stp.trans st4,m4,sr4,e⟩
  ·exact λτ4 μ4 e α4 H4 σ4 st4 m4 sr4=>h1 τ4 μ4 e α4 H4 σ4 (stp.trans st4) m4 sr4
  ·exact λτ4 μ4 e α4 H4 σ4 st4 m4 sr4=>⟨α4,τ4,μ4,stp.trans st4,m4,sr4,e⟩
  ·exact λt μ4 e α4 H4 v st4 m4 d4=>h4 t μ4 e α4 H4 v (stp.trans st4) m4 d4
  ·exact λc fs τ4 μ4 e α4 H4 σ4 Cc d st4 m4 sr4=>h5 c fs τ4 μ4 e α4 H4 σ4 Cc d (stp.trans st4) m4 sr4
 ·have hie:i=xs.length:=by omega
  rw[hie,zbv] at pf
  exact .inl ⟨by rw[hie];exact iv.stop _ _ H' okH,h1 τ' μ' pf α' H' σ' stp mr' sr'⟩
theorem UG(C:Sk D W Γ X k){ft:Dt}{body:List Stmt}{vs:List Ds}(hc:PT X c (rdT D W ft))(hb:Wf X D W body vs):PS X (.While c body [] pos) (rdS D W (Wg ft vs)):=by
 rintro pins s σ H E I ⟨φ,α,τ,μ,sr,mr,Q,⟨J,⟨N,hN⟩,hJ⟩,h1,h2,h3,h4,h5⟩
 refine YB C.pso hc (w4 hb) pins s σ H E I ?_
 refine⟨λm σ' H'=>∃α' τ' μ',Stp α H α' H'/\MRel D φ α' H' μ'/\SRel D φ α' H' τ' σ'/\J m τ' μ',⟨N,α,τ,μ,Stp.refl _ _,mr,sr,hN⟩,?_⟩
 rintro m σ' H' ⟨α',τ',μ',stp,mr',sr',pf⟩
 refine⟨φ,α',τ',μ',sr',mr',_,_,hJ m τ' μ' pf,λb μ1 e α2 H2 st2 m2=>?_,λc fs μ1 e α2 H2 Cc d st2 m2 ad xd=>h5 c fs τ' μ1 e α2 H2 σ' Cc d (stp.trans st2) m2 (sr'.step st2) ad xd⟩
 cases b with
 |false=>exact h1 τ' μ1 e α2 H2 σ' (stp.trans st2) m2 (sr'.step st2)
 |true=>
  rw[if_pos rfl]
  have t2:=stp.trans st2
  refine⟨λσ4 H4=>∃j,j<m/\∃α4 τ4 μ4,Stp α H α4 H4/\MRel D φ α4 H4 μ4/\SRel D φ α4 H4 τ4 σ4/\J j τ4 μ4,λσ4 H4 h4=>h4,φ,α2,τ',μ1,sr'.step st2,m2,_,e,?_,?_,?_,?_,?_⟩
  ·exact λτ4 μ4 ⟨j,hj,q⟩ α4 H4 σ4 st4 m4 sr4=>⟨j,hj,α4,τ4,μ4,t2.trans st4,m4,sr4,q⟩
  ·exact λτ4 μ4 e α4 H4 σ4 st4 m4 sr4=>h1 τ4 μ4 e α4 H4 σ4 (t2.trans st4) m4 sr4
  ·exact λτ4 μ4 ⟨j,hj,q⟩ α4 H4 σ4 st4 m4 sr4=>⟨j,hj,α4,τ4,μ4,t2.trans st4,m4,sr4,q⟩
  ·exact λt μ4 e α4 H4 v st4 m4 d4=>h4 t μ4 e α4 H4 v (t2.trans st4) m4 d4
  ·exact λc fs τ4 μ4 e α4 H4 σ4 Cc d st4 m4 sr4=>h5 c fs τ4 μ4 e α4 H4 σ4 Cc d (t2.trans st4) m4 sr4
theorem z0H(C:Sk D W Γ X k)(hc:Γ.calm=true){tg iter elt:Expr}{sc:Scope}{fi:Di}{fs:List Nat}{tgt:Tg}{ifs:List Expr}{cs:List Dt}{fe:De}{x:Str}{ix:Nat}{p0 p1:Pos}(hix:idx Γ.N x=some ix)(ok:CompOk Γ.N Γ.cel tg sc)(hfs:yi Γ.N (frees sc)=some fs)(htg:wz (z6 tg++frees sc) tg=some tgt)(hi:PI X tg iter (rdI D W fi))(hel:∀X' W',Ck D W' (inComp Γ tg sc) X' k->PE X' elt (rdE D W' fe))(hts:∀X' W',Ck D W' (inComp Γ tg sc) X' k->Ja X' D W' ifs cs)(hs:∀x,z8G iter X.env x=pure x)
  (own:Bool) (hsw:zaw (.ListComp elt [⟨tg,iter,ifs,0⟩] sc p1) (some (.Name x p0)) pos.line X.env=pure true) :
  PS X (.Assign [.Name x p0] (.ListComp elt [⟨tg,iter,ifs,0⟩] sc p1) pos) (rdS D W (zk ix (match own with|true=>xJ (z6 tg).length fs tgt fi cs fe|false=>qI (z6 tg).length fs tgt fi cs fe))):=by
 rintro pins s σ H E I ⟨φ,α,τ,μ,sr,mr,p⟩
 rw[exec_Assign_Name_used _ _ _ _ hsw]
 refine z7w (z9B (z7w ?_))
 show z7K _ _ (do let _ ←zbg (.ListComp elt [⟨tg,iter,ifs,0⟩] sc p1) sc X.env _ (newList []) false (eval iter X.env) (some (zb9 (.Name x p0) X.env))) _ _ s
 refine z7w (thn (xR (kk:=λys μ=>match own with|true=>RE.ok (T.mut μ.length) (μ++[MO.lst ys])|false=>RE.ok (T.lst ys) μ) (use:=some (zb9 (.Name x p0) X.env)) (Qf:=λ_ s'=>∃σ' H',Inv X pins σ' H' s'/\E.nx σ' H') C.toCk hc ok hfs htg hi hel hts hs I sr mr (PostS.out sr (by cases own<;>exact p)) ?_) λ_ s' hq=>z7G (z7G hq))
 rintro acc C0 s' α1 H1 H' α' ys vs μ' I' st1 st hn nph nal sr' m ha dl post xo hp ⟨mm,hm⟩
 have hx:=w8 hix
 obtain⟨oc,es,ep,hoc,hdc,hrest⟩:=hm
 have I2:Inv X (pins++[(C0,oc)]) σ H' s':=I'.pins_of λp hp'=>(z7H.mp hp').elim (λz=>I'.pin p (z7J _ z)) λz=>by
  rw[z7C.mp z]
  exact⟨hoc,xo.free,xo.loc,xo.nfs,λv e=>by rw[hdc] at e;cases e⟩
 have fin:∀{α'':List Addr} {t:T} {μ2:Mem},SRel D φ α'' H' τ σ->Den D φ α'' H' t (.ref acc)->(∀σ',SRel D φ α'' H' (jP τ ix (some t)) σ'->E.nx σ' H')->z7K (z7N X.prog X.w) X.A (zb9 (.Name x p0) X.env (.ref acc)) (λ_ t2=>∃m,t2.heap.Ns C0 m/\∀g,z8p C0 t2.heap g->∃σ' H',Inv X pins σ' H' {t2 with heap:=g}/\E.nx σ' H') X.xe s':=λ{α'' t μ2} sr2 d q=>by
  refine thn (VW (e:=.Name x p0) (S:=Γ.N) (tgt:=.one ix) (t:=t) (τ:=τ) C.hN C.nd C.sto (C.clm hc) (λy hy=>by simp[z6] at hy;rw[hy];exact hx) (by simp[wz,hix]) rfl I2 sr2 d (show RelV (.ref acc) (.ref acc) from rfl)) ?_
  rintro _ s2 ⟨σ',I3,sr3⟩
  have hpin:=(I3.pin (C0,oc) (z7J _ (z7J _ (z7C.mpr rfl)))).1
  refine⟨mm,⟨oc,es,ep,hpin,hdc,hrest⟩,λg sb=>⟨σ',H',?_,q σ' sr3⟩⟩
  exact yr (I3.pins_of λp hp'=>I3.pin p (z7J _ (z7S _ hp'))) xo hp sb
 cases own with
 |false=>
  obtain⟨m2,d,post⟩:=WJ (kk:=λt μ=>RE.ok t μ) st hn nph m ha dl post
  exact fin (μ2:=μ') (sr'.lk wV) d λσ' sr3=>PostS.nx (post.ok (Stp.refl _ _) m2) (Stp.refl _ _) m2 sr3
 |true=>
  obtain⟨st2,m2,d⟩:=Qg st hn nph m ha dl
  exact fin (μ2:=μ') (sr'.lk jV) d λσ' sr3=>PostS.nx (post.ok st2 m2) (Stp.refl _ _) m2 sr3
end
end NH
end
section
namespace NH
open PySem PySem.Spec PyProof.Rows L2
noncomputable def z6x(C:Addr)(h:Heap):Prop:=∃tl N nm q bs hd sn sub ab col dd k0 k1 k2 k3 k5 mN,h.get? C=some (zdd nm q C N bs tl hd sn sub ab col dd k0 k1 k2 k3 k5 "ValueError.__new__")/\h.Ns N mN/\mN "__init__"=none/\OwnTail h qG tl
theorem UB {K:z7E} {h:Heap} {C:Addr} (kin:K.In h) (e:za3 K C qG "ValueError.__new__"=true):z6x C h:=by
 simp only[za3] at e
 revert e
 cases hk:K.lookup C with
 |none=>intro e;cases e
 |some o=>
  intro e
  split at e
  case h_2=>cases e
  rename_i dd cd sl ho
  cases ho
  split at e
  case h_2=>cases e
  rename_i C' tl k0 k1 k2 k3 n k5 hm hs
  simp only[z7x,beq_iff_eq,z9e] at e
  obtain⟨⟨⟨⟨⟨e1,e2⟩,e3⟩,e4⟩,e5⟩,e6⟩:=e
  cases cd
  rename_i nm bs mro ns qn hd sn sub ab col del
  simp only at hm e3 e5 e6
  cases e1;cases e2;cases hm;cases e3
  have hsl:sl=#[k0,k1,k2,k3,some (.builtin "ValueError.__new__"),k5]:=by
   cases sl;simp only at hs;rw[hs]
  cases hsl
  exact⟨tl,ns,nm,qn,bs,hd,sn,sub,ab,col,dd,k0,k1,k2,k3,k5,h.nsMap ns,kin _ _ hk,.of_isNs (PySem.W.isNs_of_in kin e5),PySem.W.nsMap_none_of_in kin e5 e6,PySem.W.tail_of_in kin e4⟩
section
variable {X:Cx}{pins:List (Addr×Obj)}{s:Shared}{σ:St}{H:Hp}
theorem XF{i:Nat}{x:Str}{m:Str->Option Value}{h':Heap}{u:Option Value}{tk:Nat}(I:Inv X pins σ H s)(hN:X.N.Nodup)(hi:X.N[i]?=some x)
  (hm:∀(i:Nat) (x:Str) (v:V),X.N[i]?=some x->σ[i]?=some (some v)->Vis X.env.scope x->∃u,RelV v u/\Look X.env s.heap m x u)
  (hn:h'.Ns X.env.locals λy=>if y=x then u else m y) (hs:z8p X.env.locals s.heap h'):Inv X pins (σ.set i none) H {s with heap:=h',toks:=tk}:=by
 have cne:=I.cne
 have low:∀b o,X.s₀.heap.get? b=some o->b≠X.env.locals:=λb o e=>z85 (z7I (z7T e) I.ok.above)
 refine⟨I.ok,I.os,I.bare,⟨λb o e n hb hx=>?_,λb o e n hb hx=>?_,I.base.free,λb o e hx=>?_,I.base.tups,I.base.frzs,I.base.tbls⟩,⟨_,hn,λj y v e1 e2 e3=>?_⟩,λy c e=>?_,I.free,I.freeC,λp hp=>?_,λb ob e=>?_,by simpa using I.len⟩
 ·exact (hs.2 b (low b o e)).trans (I.base.keep b o e n hb hx)
 ·obtain⟨sl,e1⟩:=I.base.slot b o e n hb hx
  exact⟨sl,(hs.2 b (low b o e)).trans e1⟩
 ·obtain⟨o',e1⟩:=I.base.there b o e hx
  exact⟨o',(hs.2 b (low b o e)).trans e1⟩
 ·by_cases hj:j=i
  ·subst hj
   rw[zaf] at e2
   cases q:σ[j]? with
   |none=>rw[q] at e2;cases e2
   |some w=>rw[q] at e2;cases e2
  ·rw[z81 (z9m hj)] at e2
   obtain⟨w,r,q⟩:=hm j y v e1 e2 e3
   refine⟨w,r,?_⟩
   rcases q with⟨k,e⟩|⟨k,c,e,z⟩
   ·have:y≠x:=λz=>hj (kD hN e1 (by rw[z];exact hi))
    exact .inl ⟨k,by simp[this,e]⟩
   ·exact .inr ⟨k,c,e,z.sameBut hs (cne y c e)⟩
 ·obtain⟨w,z⟩:=I.cell y c e
  exact⟨w,z.sameBut hs (cne y c e)⟩
 ·obtain⟨e,n,ne,nf,d⟩:=I.pin p hp
  exact⟨(hs.2 p.1 ne).trans e,n,ne,nf,d⟩
 ·refine (I.hok b ob e).stay (λc w hc q=>(hs.2 c ?_).trans q) (λ_ q=>q) λ_ _ q=>q
  rintro rfl
  rcases hc with rfl|hc
  ·rw[I.free] at e;cases e
  ·rw[I.free] at hc;cases hc
theorem Xa{x C:Addr}{d:Option Addr}(I:Inv X pins σ H s)(ox:XOk X H x)(hp:∀p∈pins,p.1≠x)(hx:XcAt x C d s.heap):Inv X pins σ (upd H x (.ext (XcAt x C d))) s:=by
 have ne:∀b,H b≠none->b≠x:=λb h z=>h (by rw[z];exact ox.free)
 refine⟨I.ok,I.os,I.bare,⟨I.base.keep,I.base.slot,λb o e n hx'=>?_,I.base.there,λb xs e=>?_,λb o u e=>?_,λb ps e=>?_⟩,I.loc,I.cell,?_,λy c e=>?_,λp hp'=>?_,λb ob e=>?_,I.len⟩
 ·have:b≠x:=λz=>by
   rcases ox.new with q|q
   ·exact hx' (by rw[z];exact q)
   ·rw[←z,e] at q;cases q
  rw[z8 this];exact I.base.free b o e n hx'
 ·have q:=I.base.tups b xs e
  rw[z8 (ne b (by rw[q];simp))];exact q
 ·have q:=I.base.frzs b o u e
  rw[z8 (ne b (by rw[q];simp))];exact q
 ·obtain⟨more,q⟩:=I.base.tbls b ps e
  exact⟨more,by rw[z8 (ne b (by rw[q];simp))];exact q⟩
 ·rw[z8 (z9m ox.loc)];exact I.free
 ·rw[z8 (ox.cel y c e)];exact I.freeC y c e
 ·obtain⟨e,n,r⟩:=I.pin p hp'
  have:p.1≠x:=(z7H.mp hp').elim (ox.pin p) (hp p)
  exact⟨e,by rw[z8 this];exact n,r⟩
 ·by_cases z:b=x
  ·subst z
   rw[z7] at e
   cases e
   obtain⟨oe,vs,h1,h2⟩:=id hx
   refine⟨hx,⟨oe,h1⟩,λg1 g2 p k=>?_⟩
   obtain⟨oe',vs',h1',h2'⟩:=p
   exact⟨oe',vs',k _ h1',h2'⟩
  ·rw[z8 z] at e
   have sm:∀c o,H c=some o->upd H x (.ext (XcAt x C d)) c=some o:=λc o q=>by rw[z8 (ne c (by rw[q];simp))];exact q
   exact (I.hok b ob e).stay (λ_ _ _ q=>q) (λc q=>sm c _ q) λc xs q=>sm c _ q
end
section
variable {X:Cx}{D:DP}{W:XW}{Γ:Cn}{k:Nat}{pins:List (Addr×Obj)}{s:Shared}{σ:St}{H:Hp}{φ α:List Addr}{τ:Sl}{μ:Mem}{a b c e:Expr}{pos:Pos}{E:Ends}{es:List Expr}{fs:List De}
theorem UR(C:Sk D W Γ X k)(hc:Γ.calm=true){x:Str}{n:Nat}{p0 p1:Pos}(hx:x∈Γ.G)(hg:Γ.gl x=.xcl n)(ha:EsOk X D W (a::es) fs) :
  PS X (.Raise (some (.Call (.Name x p0) (a::es) [] p1)) none pos) (rdS D W (zC n fs)):=by
 rintro pins s σ H E I ⟨φ,α,τ,μ,sr,mr,p⟩
 have q:=C.glo x hx
 rw[hg] at q
 obtain⟨C0,ad,hm,hex⟩:=q
 have hs:=ha.stars
 obtain⟨tl,N,nm,qn,bs,hd,sn,sub,ab,col,dd,k0,k1,k2,k3,k5,mN,o1,o2,o3,o4⟩:=UB I.ok.mod.kin hex
 have hb:tl.contains (.type "BaseException")=true:=o4.hasType zaX.hasBase
 have hp:(z9v p1 (z8l (a::es) X.env)).any (·.1)=false:=zX hs
 refine wpAny_Raise_call_subT (nm:=nm) (q:=qn) (C:=C0) (N:=N) (bs:=bs) (bm:=tl) (hdct:=hd) (sn:=sn) (sub:=sub) (ab:=ab) (col:=col) (dd:=dd) (k0:=k0) (k1:=k1) (k2:=k2) (k3:=k3) (k5:=k5) (mN:=mN) zaX hb (I.ok.hd (C.clm hc)) hp o3 ?_
 refine vB I (C.glb x hx) hm ⟨rfl,?_⟩ (C.dbG x hx)
 have hs1:noStar a=true:=by simp only[z8B,z7x] at hs;exact hs.1
 have sA:=thn (wM ha p1 pins s σ H (λvs H1=>∃ts μ1 α1,Stp α H α1 H1/\SRel D φ α1 H1 τ σ/\MRel D φ α1 H1 μ1/\DenL D φ α1 H1 ts vs/\PostS D W φ α1 H1 E (.grd (ts.length<=room) (.ex n [] τ μ1))) I ⟨φ,α,τ,μ,sr,mr,(PostS.out sr p).mono λts μ' α' H' st m q vs d _=>⟨ts,μ',α',st,sr.step st,m,d,q⟩⟩) (Q':=λus s1=>us.length<=sizeLine/\s1.heap.get? C0=some (zdd nm qn C0 N bs tl hd sn sub ab col dd k0 k1 k2 k3 k5 "ValueError.__new__")/\s1.heap.Ns N mN/\OwnTail s1.heap qG tl/\∀h' e,zdC s1.heap h' e (.ref C0) us->X.xe (.ref e) {s1 with heap:=h'}) ?_
 ·rw[z4 hs1] at sA ⊢
  exact zaC (thn sA λus s1 h1=>⟨rfl,h1⟩)
 ·rintro us s1 ⟨vs,H1,I1,r,ts,μ1,α1,st,sr1,m1,dl,q⟩
  obtain⟨hl,q⟩:=PostS.grd q
  refine⟨?_,I1.bk _ _ o1,o2.keeps I1.bk,o4.keeps I1.bk,λh' e mk=>?_⟩
  ·have e1:=dl.length
   have e2:=r.length
   have:=zt hl
   rw[←e2,←e1]
   exact this
  ·exact C.xe _ _ (z1C I1 mk (PostS.ex q (Stp.refl _ _) m1 sr1 ad rfl))
theorem XTr.at{h:Heap}{x T C:Addr}{d:Option Addr}{fl:Value}(t:XTr h x T (.ref C) d fl):XcAt x C d h:=by
 obtain⟨oe,vs,a0,oT,ts,h1,⟨h2,h3⟩,h4,_⟩:=t
 exact⟨oe,vs,h1,h2,h4,h3⟩
theorem XcAt.ty{M:zb2}{h:Heap}{x C:Addr}{d:Option Addr}(t:XcAt x C d h):PySem.W.Looks M h (typeOf (.ref x)) (.ref C):=by
 obtain⟨oe,vs,h1,h2,h3,h4⟩:=t
 exact h2▸(zeW h1).andThen .now
noncomputable def HcOk (Γ:Cn)(x:Str)(c:Nat):Prop:=x∈Γ.G/\(x,c)∈Γ.cls/\((∃f,Γ.gl x=.xcf c f)\/Γ.gl x=.xcl c)/\c<40
noncomputable def z78 (Γ:Cn):Option Str->Option Nat->Prop
 |none,none=>True
 |some e,some j=>idx Γ.N e=some j/\Γ.cel.contains e=false
 |_,_=>False
noncomputable def Z7 (D:DP)(Γ:Cn)(k:Nat):List za4->List (List Nat×Option Nat×List Ds)->Prop
 |[],[]=>True
 |h::hs,g::r=>(∃x p nm b0 suite pp c i vs,h=.ExceptHandler (some (.Name x p)) nm (b0::suite) pp/\g=([c],i,vs)/\HcOk Γ x c/\z78 Γ nm i/\∀X',Sk D noW {Γ with calm:=false} X' k->Wf X' D noW (b0::suite) vs)/\Z7 D Γ k hs r
 |_,_=>False
theorem HcOk.mg(C:Sk D W Γ X k){x:Str}{c:Nat}(h:HcOk Γ x c):∃Cc,X.mg x=some (.ref Cc):=by
 have q:=C.glo x h.1
 rcases h.2.2.1 with⟨f,g⟩|g
 ·rw[g] at q
  obtain⟨Cc,_,hm⟩:=q
  exact⟨Cc,hm⟩
 ·rw[g] at q
  obtain⟨Cc,_,hm,_⟩:=q
  exact⟨Cc,hm⟩
theorem z04(C:Sk D W Γ X k){x Tt Ck:Addr}{d:Option Addr}{kk:Nat}{xfs:List (Nat×T)}(ad:D.adr kk=some Ck):∀{hs:List za4} {r:List (List Nat×Option Nat×List Ds)} {s1:z7y} {σ1:St} {H1:Hp} {α1:List Addr} {τ1:Sl} {μ1:Mem},Z7 D Γ k hs r->Inv (Cx.pin' X pins) [] σ1 H1 s1->XOk (Cx.pin' X pins) H1 x->XOk (Cx.pin' X pins) H1 Tt->XTr s1.heap x Tt (.ref Ck) d .none->
  XDict D φ α1 H1 xfs d->MRel D φ α1 H1 μ1->SRel D φ α1 H1 τ1 σ1->PostS D W φ α1 H1 E (z0V r kk xfs τ1 μ1)->z7K (z7N X.prog X.w) X.A (handleBy (.ref x) X.env hs) (SP X pins E) X.xe s1
 |[],[],s1,σ1,H1,α1,τ1,μ1,_,I1,ox,oT,tr,xd,m1,sr1,p=>by
  obtain⟨e0,out,L,F⟩:=C.frm
  refine wpAny_handleBy_nil ?_
  unfold zey
  obtain⟨oe,vs',a0,oT',ts,ho,hcc,hd,hv0,hv1,hT,hoT,hdT,h3⟩:=id tr
  refine z7w (z99 ho hd hv1 ?_)
  rw[if_neg (show ¬((z80 Tt == z8F)=true) from by simp)]
  have go:∀{t2:z7y},XP X W (.ref x) t2->z7K (z7N X.prog X.w) X.A (throw (z80 x):Sem Flow) (SP X pins E) X.xe t2:=λ{t2} xp=>wpAny_throw (C.xe _ _ xp)
  have un:∀b,XOk (Cx.pin' X pins) H1 b->XOk X H1 b:=λb o=>⟨o.free,o.loc,o.nfs,o.new,o.cel,λp hp=>o.pin p (z7S _ hp)⟩
  have fin:z7K (z7N X.prog X.w) X.A (zbq (.ref x) X.env.frame) (λ_ t2=>XP X W (.ref x) t2) X.xe s1:=by
   refine qK ((zL I1).pins_of λp hp=>absurd hp (by simp)) (un x ox) (un Tt oT) tr λh4 I4 tr4=>?_
   refine⟨x,.ref Ck,d,σ1,H1,some Tt,z8v L,rfl,I4,un x ox,λt ht=>?_,?_,.inr ⟨L,F.fe,rfl⟩,PostS.ex p (Stp.refl _ _) m1 sr1 ad xd⟩
   ·have:t=Tt:=by simpa using ht
    rw[this];exact un Tt oT
   ·rw[F.fe] at tr4;exact tr4
  first
   |exact z7w (thn fin λ_ t2 xp=>go xp)
   |exact z7w (z7G (z7w (thn fin λ_ t2 xp=>go xp)))
 |[],_::_,_,_,_,_,_,_,h,_,_,_,_,_,_,_,_=>h.elim
 |_::_,[],_,_,_,_,_,_,h,_,_,_,_,_,_,_,_=>h.elim
 |hd::hs',g::r',s1,σ1,H1,α1,τ1,μ1,h,I1,ox,oT,tr,xd,m1,sr1,p=>by
   obtain⟨⟨x0,p0,nm,b0,suite',pp,c,i,vs,rfl,rfl,hcx,hnm,hsu⟩,hrest⟩:=h
   obtain⟨Cc,hmc⟩:=hcx.mg C
   have IX:Inv (Cx.han (Cx.pin' X pins) x) [] σ1 H1 s1:=QF I1
   have hexm:=C.xmt kk x0 c hcx.2.1 hcx.2.2.2 Ck Cc ad hmc
   refine wpAny_handleBy_cons (codeAny_handlers_test (vB (X:=Cx.han (Cx.pin' X pins) x) IX (C.glb x0 hcx.1) hmc ?_ (C.dbG x0 hcx.1))) (λq=>by cases q)
   refine (PySem.W.exm_one (M:=z7N X.prog X.w) IX.kIn (XcAt.ty (XTr.at tr)) hexm).at ?_
   have hio:isAny kk [c]=vL kk c:=by
    rw[yQ];show bOr _ false=_
    cases vL kk c<;>rfl
   have p:PostS D W φ α1 H1 E (.br (vL kk c) (z69 i vs kk xfs τ1 μ1) (z0V r' kk xfs τ1 μ1)):=by rw[←hio];exact p
   rcases PostS.br p with⟨hb,p⟩|⟨hb,p⟩
   ·rw[hb]
    obtain⟨Q,q,h1,h2,h3,h4,h5⟩:=p
    have C2:∀{X':Cx},X'=Cx.han (Cx.pin' X pins) x->Sk D noW {Γ with calm:=false} X' k:=λ{X'} hX'=>by
     subst hX'
     obtain⟨e0,out,L,F⟩:=C.frm
     exact {hK:=C.hK,hN:=C.hN,nd:=C.nd,vis:=C.vis,dbg:=C.dbg,dbG:=C.dbG,glb:=C.glb,glo:=C.glo,glU:=C.glU,cel:=C.cel,isi:=C.isi,fld:=C.fld,xcx:=C.xcx,ocx:=C.ocx,clv:=C.clv,clm:=(λz=>by cases z),rom:=(λz=>by cases z),rmh:=⟨C.rmh.dp,C.rmh.un⟩,xe:=(λe s p=>by obtain⟨_,_,_,_,_,_,_,_,_,_,_,_,_,z⟩:=p;exact z),frm:=⟨e0,out,L,F.stk,F.f0,F.fe⟩,lam:=C.lam,sto:=C.sto,lcl:=C.lcl,pso:=PassesOwn.never,xmt:=C.xmt}
    have okX:X.Ok:=WR I1.ok
    cases nm with
    |none=>
     cases i with
     |some j=>exact z8d hnm
     |none=>
      refine codeAny_handlers_suite (qK (X:=Cx.pin' X pins) I1 ox oT tr λh3' I3 tr3=>?_)
      have S:=w4 (hsu _ (C2 rfl)) [] _ _ _ {nx:=E.nx,rt:=E.rt} (QF (x:=x) I3) ⟨φ,α1,τ1,μ1,sr1,m1,_,q,h1,(λ_ _ z=>z.elim),(λ_ _ z=>z.elim),h4,(λ_ _ _ _ z=>z.elim)⟩
      refine z8i S (λf s6 h6=>?_) (λ_ _ z=>z.elim)
      cases f with
      |next=>obtain⟨σ',H',I',q'⟩:=h6;exact⟨σ',H',zL (xr I1.ok I'),q'⟩
      |brk=>obtain⟨σ',H',I',q'⟩:=h6;exact q'.elim
      |cont=>obtain⟨σ',H',I',q'⟩:=h6;exact q'.elim
      |ret w=>obtain⟨y,σ',H',I',r,q'⟩:=h6;exact⟨y,σ',H',zL (xr I1.ok I'),r,q'⟩
    |some e=>
     cases i with
     |none=>exact z8d hnm
     |some j=>
      obtain⟨hidx,hce⟩:=hnm
      refine codeAny_handlers_suite_as (qK (X:=Cx.pin' X pins) I1 ox oT tr λh3' I3 tr3=>?_)
      have I4:=Xa (C:=Ck) (d:=d) I3 ox (λp hp=>absurd hp (by simp)) (XTr.at tr3)
      have st2:Stp α1 H1 α1 (upd H1 x (.ext (XcAt x Ck d))):=Stp.new (za ox.free)
      have hloc:X.env.scope.names.lookup e=some .local:=C.lcl e (w8 hidx) hce
      have hNd:X.N.Nodup:=by rw[C.hN];exact C.nd
      have hNi:X.N[j]?=some e:=by rw[C.hN];exact wH hidx
      refine yF (X:=Cx.han (Cx.pin' X pins) x) (i:=j) (v:=.ref x) (QF I4) hNd hNi (.inl hloc) rfl (λs5 I5=>?_) (.inr hloc)
      have xd5:=xd.lk (st2.lk (φ:=φ))
      have den:Den D φ α1 (upd H1 x (.ext (XcAt x Ck d))) (.exc kk xfs) (.ref x):=⟨x,Ck,d,rfl,zo m1 ox.free,zm m1 ox.free,ad,z7,by cases d<;>exact xd5⟩
      have sr5:=(sr1.step st2).set (i:=j) den
      have m5:=m1.new (za (o:=HO.ext (XcAt x Ck d)) ox.free)
      have S:=w4 (hsu _ (C2 rfl)) [] s5 _ _ {nx:=λσ' H'=>E.nx (σ'.set j none) H',rt:=E.rt} I5 ⟨φ,α1,_,μ1,sr5,m5,_,q,(λτ2 μ2 z α' H' σ' st m r=>h1 _ μ2 z α' H' _ (st2.trans st) m r.unset),(λ_ _ z=>z.elim),(λ_ _ z=>z.elim),(λt μ2 z α' H' v st m dd=>h4 t μ2 z α' H' v (st2.trans st) m dd),(λ_ _ _ _ z=>z.elim)⟩
      have hkf:(X.env.scope.kind == .class || (X.env.scope.kind == .module&&X.env.locals != X.env.globals))=false:=by rw[okX.kind];rfl
      refine z8i S (λf s6 h6=>?_) (λ_ _ z=>z.elim)
      have fin:∀{σ6 H6},Inv (Cx.han (Cx.pin' X pins) x) [] σ6 H6 s6->(∀s7,Inv X pins (σ6.set j none) H6 s7->SP X pins E f s7)->z7K (z7N X.prog X.w) X.A (do bindName X.env e .none;unbindBehindTheSuite X.env e pp) (λ_ s7=>SP X pins E f s7) X.xe s6:=λ{σ6 H6} I6 q=>by
       have I7:Inv X pins σ6 H6 s6:=zL (xr (Uo okX) I6)
       obtain⟨m,hn,hl⟩:=I7.loc
       refine wpAny_nameGoes_keeps hloc hn hkf λh7 u7 hn7 hs7=>?_
       exact q _ (XF I7 hNd hNi hl hn7 hs7)
      cases f with
      |next=>obtain⟨σ',H',I',q'⟩:=h6;exact fin I' λs7 I7=>⟨_,H',I7,q'⟩
      |brk=>obtain⟨σ',H',I',q'⟩:=h6;exact q'.elim
      |cont=>obtain⟨σ',H',I',q'⟩:=h6;exact q'.elim
      |ret w=>obtain⟨y,σ',H',I',r,q'⟩:=h6;exact fin I' λs7 I7=>⟨y,_,H',I7,r,q'⟩
   ·rw[hb]
    exact z04 C ad hrest I1 ox oT tr xd m1 sr1 p
theorem z2D(C:Sk D W Γ X k)(hc:Γ.calm=true){body:List Stmt}{us:List Ds}{h0:za4}{hs:List za4}{r:List (List Nat×Option Nat×List Ds)}(hb:∀X' W',Sk D W' Γ X' k->Wf X' D W' body us)(hh:Z7 D Γ k (h0::hs) r) :
  PS X (.Try body (h0::hs) [] [] pos) (rdS D W (z3u us r)):=by
 rintro pins s σ H E I ⟨φ,α,τ,μ,sr,mr,Q,q,h1,h2,h3,h4,h5⟩
 obtain⟨e0,out,L,F⟩:=C.frm
 have F0:Frm (Cx.pin' X pins) e0 out L:=⟨F.stk,F.f0,F.fe⟩
 generalize hW:(λ(cls:Value) (d:Option Addr) (σ':St) (H':Hp)=>∃kk fs τ1 μ1 α1 Ck,z0V r kk fs τ1 μ1 Q/\D.adr kk=some Ck/\cls=.ref Ck/\Stp α H α1 H'/\MRel D φ α1 H' μ1/\SRel D φ α1 H' τ1 σ'/\XDict D φ α1 H' fs d:XW)=W1
 have C1:Sk D W1 Γ ((Cx.pin' X pins).wish (XP (Cx.pin' X pins) W1)) k:={hK:=C.hK,hN:=C.hN,nd:=C.nd,vis:=C.vis,dbg:=C.dbg,dbG:=C.dbG,glb:=C.glb,glo:=C.glo,glU:=C.glU,cel:=C.cel,isi:=C.isi,fld:=C.fld,xcx:=C.xcx,ocx:=C.ocx,clv:=C.clv,clm:=C.clm,rom:=C.rom,rmh:=⟨C.rmh.dp,C.rmh.un⟩,xe:=λe s p=>xy p,frm:=⟨e0,out,L,F.stk,F.f0,F.fe⟩,lam:=C.lam,sto:=C.sto,lcl:=C.lcl,pso:=Q6 F0 I.ok.frames,xmt:=C.xmt}
 have B:=w4 (hb _ W1 C1) [] s σ H E ((V0 I).wish _) ⟨φ,α,τ,μ,sr,mr,_,q,h1,h2,h3,h4,λkk fs τ1 μ1 z α' H' σ' Ck d st m sr' ad xd=>by rw[←hW];exact⟨kk,fs,τ1,μ1,α',Ck,z,ad,rfl,st,m,sr',xd⟩⟩
 refine wpAny_Try_except (z8i B (λf s1 h1=>?_) (λe1 s1 hx=>?_))
 ·cases f with
  |next=>obtain⟨σ',H',I',q⟩:=h1;exact Kf pins s1 σ' H' E (zL I'.unwish) q
  |brk=>obtain⟨σ',H',I',q⟩:=h1;exact⟨σ',H',zL I'.unwish,q⟩
  |cont=>obtain⟨σ',H',I',q⟩:=h1;exact⟨σ',H',zL I'.unwish,q⟩
  |ret w=>obtain⟨y,σ',H',I',r,q⟩:=h1;exact⟨y,σ',H',zL I'.unwish,r,q⟩
 have hx:XP (Cx.pin' X pins) W1 e1 s1:=hx
 refine yu (X:=Cx.pin' X pins) F0 I.ok.frames hx λx cls d σ1 H1 Tt h' ee I1 ox oT tr w=>?_
 subst ee
 refine qK (X:=Cx.pin' X pins) (s:={s1 with heap:=h'}) I1 ox oT tr λh2' I2 tr2=>?_
 rw[←hW] at w
 obtain⟨kk,fs,τ1,μ1,α1,Ck,z,ad,rfl,st1,m1,sr1,xd⟩:=w
 exact z04 C ad hh I2 ox oT tr2 xd m1 sr1 (PostS.step ⟨Q,z,h1,h2,h3,h4,h5⟩ st1)
end
end NH
end
section
namespace NH
open PySem PySem.Spec PyProof.Rows L2
structure Rec where
 e:Cn->Expr->Option De
 t:Cn->Expr->Option Dt
 w:Cn->Expr->Option Dt
 i:Cn->Expr->Option Di
 o:Cn->Expr->Option De
 s:Cn->Stmt->Option Ds
noncomputable abbrev ER:=Rec->Cn->Expr->Option De
noncomputable abbrev TR:=Rec->Cn->Expr->Option Dt
noncomputable abbrev IR:=Rec->Cn->Expr->Option Di
noncomputable abbrev SR:=Rec->Cn->Stmt->Option Ds
structure Rules where
 e:List ER
 t:List TR
 w:List TR
 i:List IR
 o:List ER
 s:List SR
noncomputable def QO {α β:Type}:List (Rec->Cn->α->Option β)->Rec->Cn->α->Option β
 |[],_,_,_=>none
 |f::fs,r,Γ,e=>match f r Γ e with
  |some d=>some d
  |none=>QO fs r Γ e
noncomputable def comp (R:Rules):Nat->Rec
 |0=>⟨λ_ _=>none,λ_ _=>none,λ_ _=>none,λ_ _=>none,λ_ _=>none,λ_ _=>none⟩
 |n+1=>⟨QO R.e (comp R n),QO R.t (comp R n),QO R.w (comp R n),QO R.i (comp R n),QO R.o (comp R n),QO R.s (comp R n)⟩
noncomputable def U9(tg e:Expr):Bool:=match e with
 |.Call (.Name x _) _ _ _=>(x != ("enumerate":Str)&&x != ("zip":Str)) || (match tg with|.Tuple _ _ _=>true|_=>false)
 |_=>true
structure RecOk(D:DP)(r:Rec):Prop where
 e:∀{X W Γ k e f},Ck D W Γ X k->r.e Γ e=some f->PE X e (rdE D W f)
 t:∀{X W Γ k e f},Ck D W Γ X k->r.t Γ e=some f->PT X e (rdT D W f)
 w:∀{X W Γ k e f},Ck D W Γ X k->r.w Γ e=some f->PW X e (rdT D W f)
 i:∀{X W Γ k tg e f},Ck D W Γ X k->U9 tg e=true->r.i Γ e=some f->PI X tg e (rdI D W f)
 o:∀{X W Γ k e f},Ck D W Γ X k->r.o Γ e=some f->PE X e (rdE D W f)
 s:∀{X W Γ k e f},Sk D W Γ X k->r.s Γ e=some f->PS X e (rdS D W f)
noncomputable def EOk (D:DP)(f:ER):Prop:=∀r,RecOk D r->∀{X W Γ k e d},Ck D W Γ X k->f r Γ e=some d->PE X e (rdE D W d)
noncomputable def TOk (D:DP)(f:TR):Prop:=∀r,RecOk D r->∀{X W Γ k e d},Ck D W Γ X k->f r Γ e=some d->PT X e (rdT D W d)
noncomputable def WOk (D:DP)(f:TR):Prop:=∀r,RecOk D r->∀{X W Γ k e d},Ck D W Γ X k->f r Γ e=some d->PW X e (rdT D W d)
noncomputable def IOk (D:DP)(f:IR):Prop:=∀r,RecOk D r->∀{X W Γ k tg e d},Ck D W Γ X k->U9 tg e=true->f r Γ e=some d->PI X tg e (rdI D W d)
noncomputable def SOk (D:DP)(f:SR):Prop:=∀r,RecOk D r->∀{X W Γ k e d},Sk D W Γ X k->f r Γ e=some d->PS X e (rdS D W d)
noncomputable def yc{α:Type}(P:α->Prop):List α->Prop
 |[]=>True
 |f::fs=>P f/\yc P fs
structure RulesOk(D:DP)(R:Rules):Prop where
 e:yc (EOk D) R.e
 t:yc (TOk D) R.t
 w:yc (WOk D) R.w
 i:yc (IOk D) R.i
 o:yc (EOk D) R.o
 s:yc (SOk D) R.s
theorem vA{α β:Type}{P:(Rec->Cn->α->Option β)->Prop}{C:Prop}{r:Rec}{Γ:Cn}{e:α}{d:β}:∀{fs:List (Rec->Cn->α->Option β)},yc P fs->(∀f,P f->f r Γ e=some d->C)->QO fs r Γ e=some d->C
 |[],_,_,h=>by cases h
 |f::fs,a,k,h=>by
  unfold QO at h
  cases q:f r Γ e with
  |some d'=>rw[q] at h;cases h;exact k f a.1 q
  |none=>rw[q] at h;exact vA a.2 k h
theorem vz{D:DP}{R:Rules}(H:RulesOk D R):∀n,RecOk D (comp R n)
 |0=>⟨λ_ h=>(by cases h),λ_ h=>(by cases h),λ_ h=>(by cases h),λ_ _ h=>(by cases h),λ_ h=>(by cases h),λ_ h=>(by cases h)⟩
 |n+1=>⟨λC h=>vA H.e (λf p q=>p _ (vz H n) C q) h,λC h=>vA H.t (λf p q=>p _ (vz H n) C q) h,λC h=>vA H.w (λf p q=>p _ (vz H n) C q) h,λC ht h=>vA H.i (λf p q=>p _ (vz H n) C ht q) h,λC h=>vA H.o (λf p q=>p _ (vz H n) C q) h,λC h=>vA H.s (λf p q=>p _ (vz H n) C q) h⟩
noncomputable def gd{α:Type}(b:Bool)(o:Option α):Option α:=match b with
 |true=>o
 |false=>none
theorem zq{α:Type}{b:Bool}{o:Option α}{x:α}(h:gd b o=some x):b=true/\o=some x:=by
 cases b with
 |true=>exact⟨rfl,h⟩
 |false=>cases h
theorem bnd{α β:Type}{o:Option α}{f:α->Option β}{x:β}(h:o.bind f=some x):∃a,o=some a/\f a=some x:=zbw.mp h
noncomputable def zf {α β:Type}(f:α->Option β):List α->Option (List β)
 |[]=>some []
 |a::r=>(f a).bind λb=>(zf f r).bind λbs=>some (b::bs)
noncomputable def cEs (r:Rec)(Γ:Cn)(es:List Expr):Option (List De):=zf (λe=>gd (noStar e) (r.e Γ e)) es
section
variable {D:DP}{r:Rec}{X:Cx}{W:XW}{Γ:Cn}{k:Nat}
theorem wJ(h:RecOk D r)(C:Ck D W Γ X k):∀{es:List Expr} {fs:List De},cEs r Γ es=some fs->EsOk X D W es fs
 |[],fs,e=>by cases e;trivial
 |a::es,fs,e=>by
  obtain⟨f,h1,e⟩:=bnd e
  obtain⟨gs,h2,e⟩:=bnd e
  cases e
  obtain⟨h3,h4⟩:=zq h1
  exact⟨h3,h.e C h4,wJ h C h2⟩
theorem ke(h:RecOk D r)(C:Ck D W Γ X k):∀{es:List Expr} {fs:List Dt},zf (r.t Γ) es=some fs->Ja X D W es fs
 |[],fs,e=>by cases e;trivial
 |a::es,fs,e=>by
  obtain⟨f,h1,e⟩:=bnd e
  obtain⟨gs,h2,e⟩:=bnd e
  cases e
  exact⟨h.t C h1,ke h C h2⟩
theorem w6(h:RecOk D r)(C:Sk D W Γ X k):∀{es:List Stmt} {fs:List Ds},zf (r.s Γ) es=some fs->Wf X D W es fs
 |[],fs,e=>by cases e;trivial
 |a::es,fs,e=>by
  obtain⟨f,h1,e⟩:=bnd e
  obtain⟨gs,h2,e⟩:=bnd e
  cases e
  exact⟨h.s C h1,w6 h C h2⟩
end
noncomputable def z5P:ER:=λ_ _ e=>match e with
 |.Constant c _ _=>(match c with
  |.int i=>some (eC (.int i))
  |.bool b=>some (eC (.bl b))
  |.none=>some (eC .non)
  |.str x=>some (eC (.str x))
  |_=>none)
 |_=>none
theorem z1q{D:DP}:EOk D z5P:=by
 intro r H X W Γ k e d C h
 cases e with
 |Constant c j p=>
  cases c with
  |int i=>cases h;exact z3o
  |bool i=>cases h;exact z6F
  |none=>cases h;exact z4N
  |str i=>cases h;exact z31
  |_=>cases h
 |_=>cases h
noncomputable def z2V:ER:=λ_ Γ e=>match e with
 |.Name x _=>(match idx Γ.N x with
  |some i=>some (eV i)
  |none=>(match Γ.look x with
   |.cst t=>some (eC t)
   |_=>none))
 |_=>none
theorem z1h{D:DP}:EOk D z2V:=by
 intro r H X W Γ k e d C h
 cases e with
 |Name x p=>
  simp only[z2V] at h
  cases q:idx Γ.N x with
  |some i=>rw[q] at h;cases h;exact z3D C q
  |none=>
   rw[q] at h
   cases hl:Γ.look x with
   |cst t=>
    simp only[hl] at h
    cases h
    obtain⟨hx,hg⟩:=qR hl (by intro z;cases z)
    exact z52 C hx hg
   |_=>simp[hl] at h
 |_=>cases h
noncomputable def z6n:ER:=λr Γ e=>match e with
 |.BinOp a op b _=>(r.e Γ a).bind λf=>(r.e Γ b).bind λg=>some (z9 op f g)
 |_=>none
theorem z0S{D:DP}:EOk D z6n:=by
 intro r H X W Γ k e d C h
 cases e with
 |BinOp a op b p=>
  obtain⟨f,h1,h⟩:=bnd h
  obtain⟨g,h2,h⟩:=bnd h
  cases h
  exact z55 (H.e C h1) (H.e C h2)
 |_=>cases h
noncomputable def rUn:ER:=λr Γ e=>match e with
 |.UnaryOp op a _=>(r.e Γ a).bind λf=>(match op with
  |.USub=>some (z0O f)
  |.Not=>some (z4l f)
  |_=>none)
 |_=>none
theorem z2_{D:DP}:EOk D rUn:=by
 intro r H X W Γ k e d C h
 cases e with
 |UnaryOp op a p=>
  obtain⟨f,h1,h⟩:=bnd h
  cases op with
  |USub=>cases h;exact z4p (H.e C h1)
  |Not=>cases h;exact z3H (H.e C h1)
  |_=>cases h
 |_=>cases h
noncomputable def z28:ER:=λr Γ e=>match e with
 |.BoolOp op es p=>(match es with
  |[a]=>r.e Γ a
  |a::b::l=>(r.e Γ a).bind λf=>(r.e Γ (.BoolOp op (b::l) p)).bind λg=>some (match op with|.And=>WZ f g|.Or=>eOr f g)
  |[]=>none)
 |_=>none
theorem UX{D:DP}:EOk D z28:=by
 intro r H X W Γ k e d C h
 cases e with
 |BoolOp op es p=>
  match es with
  |[]=>cases h
  |[a]=>exact z5b (H.e C h)
  |a::b::l=>
   obtain⟨f,h1,h⟩:=bnd h
   obtain⟨g,h2,h⟩:=bnd h
   cases h
   cases op with
   |And=>exact z36 (H.e C h1) (H.e C h2)
   |Or=>exact z6C (H.e C h1) (H.e C h2)
 |_=>cases h
noncomputable def chs (r:Rec)(Γ:Cn):List z8_->List Expr->Option (List (z8_×De))
 |[],[]=>some []
 |op::ops,e::es=>gd (jR op) ((r.e Γ e).bind λf=>(chs r Γ ops es).bind λps=>some ((op,f)::ps))
 |_,_=>none
theorem YE{D:DP}{r:Rec}{X:Cx}{W:XW}{Γ:Cn}{k:Nat}(H:RecOk D r)(C:Ck D W Γ X k):∀{ops:List z8_} {es:List Expr} {ps:List (z8_×De)},chs r Γ ops es=some ps->KQ X D W es ps/\ps.map (·.1)=ops/\ps.all (λp=>jR p.1)=true
 |[],[],ps,h=>by cases h;exact⟨trivial,rfl,rfl⟩
 |[],_::_,ps,h=>by cases h
 |_::_,[],ps,h=>by cases h
 |op::ops,e::es,ps,h=>by
  obtain⟨hb,h⟩:=zq h
  obtain⟨f,h1,h⟩:=bnd h
  obtain⟨qs,h2,h⟩:=bnd h
  cases h
  obtain⟨k1,k2,k3⟩:=YE H C h2
  exact⟨⟨H.e C h1,k1⟩,by simp[k2],by simp[hb,k3]⟩
noncomputable def z4n (r:Rec)(Γ:Cn)(a:Expr)(ops:List z8_)(es:List Expr):Option De:=(r.e Γ a).bind λf=>(match ops,es with
 |[op],[b]=>gd (vj op b) ((r.e Γ b).bind λg=>some (zi op f g))
 |_::_::_,_::_::_=>(chs r Γ ops es).bind λps=>some (eCh f ps)
 |_,_=>none)
theorem Kd{D:DP}{r:Rec}{X:Cx}{W:XW}{Γ:Cn}{k:Nat}(H:RecOk D r)(C:Ck D W Γ X k){a:Expr}{ops:List z8_}{es:List Expr}{p:Pos}{d:De}(h:z4n r Γ a ops es=some d):PE X (.Compare a ops es p) (rdE D W d)/\PT X (.Compare a ops es p) (rdT D W (tE d)):=by
 obtain⟨f,h1,h⟩:=bnd h
 match ops,es with
 |[op],[b]=>
  obtain⟨ho,h⟩:=zq h
  obtain⟨g,h2,h⟩:=bnd h
  cases h
  exact⟨z2I C ho (H.e C h1) (H.e C h2),VC C ho (H.e C h1) (H.e C h2)⟩
 |op::op'::ops,e::e'::es=>
  obtain⟨ps,h2,h⟩:=bnd h
  cases h
  obtain⟨k1,k2,k3⟩:=YE H C h2
  match ps with
  |[]=>cases k2
  |[p1]=>simp at k2
  |p1::p2::ps=>
   simp only[z82,List.cons.injEq] at k2
   obtain⟨rfl,rfl,rfl⟩:=k2
   exact⟨XS C k3 (H.e C h1) k1,V7 C k3 (H.e C h1) k1⟩
 |[],es=>cases h
 |[_],[]=>cases h
 |[_],_::_::_=>cases h
 |_::_::_,[]=>cases h
 |_::_::_,[_]=>cases h
noncomputable def z6i:ER:=λr Γ e=>match e with
 |.Compare a ops es _=>z4n r Γ a ops es
 |_=>none
theorem z1U{D:DP}:EOk D z6i:=by
 intro r H X W Γ k e d C h
 cases e with
 |Compare a ops es p=>exact (Kd H C h).1
 |_=>cases h
noncomputable def z6v:ER:=λr Γ e=>match e with
 |.IfExp c a b _=>(r.t Γ c).bind λt=>(r.e Γ a).bind λf=>(r.e Γ b).bind λg=>some (eIf t f g)
 |_=>none
theorem z1A{D:DP}:EOk D z6v:=by
 intro r H X W Γ k e d C h
 cases e with
 |IfExp c a b p=>
  obtain⟨t,h0,h⟩:=bnd h
  obtain⟨f,h1,h⟩:=bnd h
  obtain⟨g,h2,h⟩:=bnd h
  cases h
  exact z5T (H.t C h0) (H.e C h1) (H.e C h2)
 |_=>cases h
noncomputable def z65:ER:=λr Γ e=>match e with
 |.Attribute a x _=>gd (zR a) ((r.e Γ a).bind λf=>(Γ.fld.lookup x).bind λn=>some (ze f n))
 |_=>none
theorem z1t{D:DP}:EOk D z65:=by
 intro r H X W Γ k e d C h
 cases e with
 |Attribute a x p=>
  obtain⟨hp,h⟩:=zq h
  obtain⟨f,h1,h⟩:=bnd h
  obtain⟨n,h2,h⟩:=bnd h
  cases h
  exact z4b C hp (lookup_mem h2) (H.e C h1)
 |_=>cases h
noncomputable def prt (r:Rec)(Γ:Cn):Option Expr->Option Dp
 |none=>some pN
 |some e=>(r.e Γ e).bind λf=>some (pS f)
theorem Yr{D:DP}{r:Rec}{X:Cx}{W:XW}{Γ:Cn}{k:Nat}(H:RecOk D r)(C:Ck D W Γ X k){o:Option Expr}{d:Dp}(h:prt r Γ o=some d):PO X o (rdO D W d):=by
 cases o with
 |none=>cases h;exact z1K
 |some e=>
  obtain⟨f,h1,h⟩:=bnd h
  cases h
  exact Kr (H.e C h1)
noncomputable def z3Q:ER:=λr Γ e=>match e with
 |.Subscript a b _=>(match b with
  |.Slice lo hi st _=>(match st with
   |none=>(r.e Γ a).bind λf=>(prt r Γ lo).bind λl=>(prt r Γ hi).bind λu=>some (eSl f l u)
   |some _=>none)
  |b=>gd (qE b) ((r.e Γ a).bind λf=>(r.e Γ b).bind λg=>some (eIx f g)))
 |_=>none
theorem z0z{D:DP}:EOk D z3Q:=by
 intro r H X W Γ k e d C h
 cases e with
 |Subscript a b p=>
  have gen:∀{b},gd (qE b) ((r.e Γ a).bind λf=>(r.e Γ b).bind λg=>some (eIx f g))=some d->PE X (.Subscript a b p) (rdE D W d):=λ{b} h=>by
   obtain⟨hp,h⟩:=zq h
   obtain⟨f,h1,h⟩:=bnd h
   obtain⟨g,h2,h⟩:=bnd h
   cases h
   exact z5B hp C.hK (H.e C h1) (H.e C h2)
  cases b with
  |Slice lo hi st p2=>
   cases st with
   |some _=>cases h
   |none=>
    obtain⟨f,h1,h⟩:=bnd h
    obtain⟨l,h2,h⟩:=bnd h
    obtain⟨u,h3,h⟩:=bnd h
    cases h
    exact YO (H.e C h1) (Yr H C h2) (Yr H C h3)
  |_=>exact gen h
 |_=>cases h
noncomputable def z6N:ER:=λr Γ e=>match e with
 |.List es _=>gd (decide (es.length<=room)) ((cEs r Γ es).bind λfs=>some (jn fs))
 |.Tuple es _ _=>gd (decide (es.length<=room)) ((cEs r Γ es).bind λfs=>some (z_ fs))
 |_=>none
theorem z1Q{D:DP}:EOk D z6N:=by
 intro r H X W Γ k e d C h
 cases e with
 |List es p=>
  obtain⟨hl,h⟩:=zq h
  obtain⟨fs,h1,h⟩:=bnd h
  cases h
  exact z4q (of_decide_eq_true hl) (wJ H C h1)
 |Tuple es kk p=>
  obtain⟨hl,h⟩:=zq h
  obtain⟨fs,h1,h⟩:=bnd h
  cases h
  exact z3x (of_decide_eq_true hl) (wJ H C h1)
 |_=>cases h
noncomputable def z3B:ER:=λr Γ e=>match e with
 |.Call (.Name x _) es [] _=>gd ((idx Γ.N x).isNone&&Γ.calm) ((cEs r Γ es).bind λfs=>(match Γ.look x with
  |.fn g=>some (z5 g fs)
  |.mk c true g=>some (eMk c g fs)
  |_=>none))
 |_=>none
theorem z0p{D:DP}:EOk D z3B:=by
 intro r H X W Γ k e d C h
 unfold z3B at h
 split at h
 ·rename_i x p0 es pos
  obtain⟨hb,h⟩:=zq h
  simp only[z7x] at hb
  obtain⟨fs,h1,h⟩:=bnd h
  cases hl:Γ.look x with
  |fn g=>
   simp only[hl] at h
   cases h
   obtain⟨hx,hg⟩:=qR hl (by intro z;cases z)
   exact z1m C hx hg hb.2 (wJ H C h1)
  |mk c z g=>
   cases z with
   |true=>
    simp only[hl] at h
    cases h
    obtain⟨hx,hg⟩:=qR hl (by intro z;cases z)
    exact z1r C hx hg hb.2 (wJ H C h1)
   |false=>simp[hl] at h
  |_=>simp[hl] at h
 ·cases h
noncomputable def rB1 (nm:Str)(op:T->Mem->RE T)(cl:Bool):ER:=λr Γ e=>match e with
 |.Call (.Name x _) [a] [] _=>gd (x == nm&&(idx Γ.N x).isNone&&noStar a&&(!cl || Γ.calm)) ((r.e Γ a).bind λf=>(match Γ.look x with
  |.none=>some (eB1 op f)
  |_=>none))
 |_=>none
theorem xM{D:DP}{nm:Str}{op:T->Mem->RE T}{cl:Bool}(H1:∀{X:Cx} {W:XW} {Γ:Cn} {k:Nat} {a:Expr} {f:De} {p0 pos:Pos},Ck D W Γ X k->nm∈Γ.G->Γ.gl nm=.none->(cl=true->Γ.calm=true)->noStar a=true->PE X a (rdE D W f)->PE X (.Call (.Name nm p0) [a] [] pos) (rdE D W (eB1 op f))):EOk D (rB1 nm op cl):=by
 intro r H X W Γ k e d C h
 unfold rB1 at h
 split at h
 ·rename_i x p0 a pos
  have hh:=zq h
  clear h
  obtain⟨hb,h⟩:=hh
  simp only[z7x,beq_iff_eq,zaH,z9e] at hb
  obtain⟨⟨⟨rfl,h2⟩,h3⟩,h4⟩:=hb
  obtain⟨f,h1,h⟩:=bnd h
  cases hl:Γ.look x with
  |none=>
   simp only[hl] at h
   cases h
   obtain⟨hx,hg⟩:=qR hl (by intro z;cases z)
   exact H1 C hx hg (λz=>h4.resolve_left (by rw[z];simp)) h3 (H.e C h1)
  |_=>simp[hl] at h
 ·cases h
noncomputable def z5R:ER:=rB1 "len" vN false
theorem z0Y{D:DP}:EOk D z5R:=xM λC hx hg _ hs ha=>Yb C hx hg boot_len (by decide) hs z64 ha
noncomputable def z6m:ER:=rB1 "int" z1H false
theorem z1p{D:DP}:EOk D z6m:=xM λC hx hg _ hs ha=>U3 C hx hg (by decide +kernel) (by decide) hs z5Q ha
noncomputable def z24:ER:=rB1 "list" V4 false
theorem Y4{D:DP}:EOk D z24:=xM λC hx hg _ hs ha=>U3 C hx hg (by decide +kernel) (by decide) hs z5a ha
noncomputable def z5Z:ER:=rB1 "all" XE true
theorem z1S{D:DP}:EOk D z5Z:=xM λC hx hg hc hs ha=>Yb C hx hg boot_all (by decide) hs (z6P (C.clm (hc rfl))) ha
noncomputable def z5i:ER:=λr Γ e=>match e with
 |.Call (.Name x _) [a,c] [] _=>gd (x == ("isinstance":Str)&&(idx Γ.N x).isNone&&noStar a) ((r.e Γ a).bind λf=>(uf Γ c).bind λcs=>(match Γ.look x with
  |.none=>some (jZ cs f)
  |_=>none))
 |_=>none
theorem z0L{D:DP}:EOk D z5i:=by
 intro r H X W Γ k e d C h
 unfold z5i at h
 split at h
 ·rename_i x p0 a c pos
  have hh:=zq h
  clear h
  obtain⟨hb,h⟩:=hh
  simp only[z7x,beq_iff_eq] at hb
  obtain⟨⟨rfl,h2⟩,h3⟩:=hb
  obtain⟨f,h1,h⟩:=bnd h
  obtain⟨cs,h4,h⟩:=bnd h
  cases hl:Γ.look "isinstance" with
  |none=>
   simp only[hl] at h
   cases h
   obtain⟨hx,hg⟩:=qR hl (by intro z;cases z)
   exact z5r C hx hg h3 h4 (H.e C h1)
  |_=>simp[hl] at h
 ·cases h
noncomputable def rM1 (nm:Str)(cb:De->De->De):ER:=λr Γ e=>match e with
 |.Call (.Attribute o m pa) [a] [] pc=>gd (m == nm&&zR o&&noStar a&&pa.endLine == pc.line) ((r.e Γ o).bind λf=>(r.e Γ a).bind λg=>some (cb f g))
 |_=>none
theorem Ui{D:DP}{nm:Str}{cb:De->De->De}(H1:∀{X:Cx} {W:XW} {Γ:Cn} {k:Nat} {o a:Expr} {f g:De} {pa pc:Pos},Ck D W Γ X k->zR o=true->noStar a=true->(pa.endLine == pc.line)=true->PE X o (rdE D W f)->PE X a (rdE D W g)->PE X (.Call (.Attribute o nm pa) [a] [] pc) (rdE D W (cb f g))):EOk D (rM1 nm cb):=by
 intro r H X W Γ k e d C h
 unfold rM1 at h
 split at h
 ·have hh:=zq h
  clear h
  obtain⟨hb,h⟩:=hh
  simp only[z7x] at hb
  obtain⟨⟨⟨h0,h2⟩,h3⟩,h4⟩:=hb
  have h0:=beq_iff_eq.mp h0
  subst h0
  obtain⟨f,h1,h⟩:=bnd h
  obtain⟨g,h5,h⟩:=bnd h
  cases h
  exact H1 C h2 h3 h4 (H.e C h1) (H.e C h5)
 ·cases h
noncomputable def z6o:ER:=rM1 "append" WC
theorem z1R{D:DP}:EOk D z6o:=Ui λC hp hs hl ho ha=>z4S hp hs hl ho ha
noncomputable def z3g (r:Rec)(Γ:Cn)(elt tg iter:Expr)(ifs:List Expr)(sc:Scope)(mk:Nat->List Nat->Tg->Di->List Dt->De->De):Option De:=
 gd (Γ.calm&&JH Γ.N Γ.cel tg sc&&wC iter&&U9 tg iter) ((yi Γ.N (frees sc)).bind λfs=>(wz (z6 tg++frees sc) tg).bind λtgt=>(r.i Γ iter).bind λfi=>(zf (r.t (inComp Γ tg sc)) ifs).bind λcs=>(r.e (inComp Γ tg sc) elt).bind λfe=>some (mk (z6 tg).length fs tgt fi cs fe))
theorem JT{r:Rec}{Γ:Cn}{elt tg iter:Expr}{ifs:List Expr}{sc:Scope}{mk:Nat->List Nat->Tg->Di->List Dt->De->De}{d:De}(h:z3g r Γ elt tg iter ifs sc mk=some d) :
  ∃fs tgt fi cs fe,Γ.calm=true/\CompOk Γ.N Γ.cel tg sc/\(wC iter=true/\U9 tg iter=true)/\yi Γ.N (frees sc)=some fs/\wz (z6 tg++frees sc) tg=some tgt/\r.i Γ iter=some fi/\zf (r.t (inComp Γ tg sc)) ifs=some cs/\r.e (inComp Γ tg sc) elt=some fe/\d=mk (z6 tg).length fs tgt fi cs fe:=by
 obtain⟨hb,h⟩:=zq h
 simp only[z7x] at hb
 obtain⟨fs,h1,h⟩:=bnd h
 obtain⟨tgt,h2,h⟩:=bnd h
 obtain⟨fi,h3,h⟩:=bnd h
 obtain⟨cs,h4,h⟩:=bnd h
 obtain⟨fe,h5,h⟩:=bnd h
 cases h
 exact⟨fs,tgt,fi,cs,fe,hb.1.1.1,Xc hb.1.1.2,⟨hb.1.2,hb.2⟩,h1,h2,h3,h4,h5,rfl⟩
noncomputable def Uh:ER:=λr Γ e=>match e with
 |.ListComp elt [⟨tg,iter,ifs,z⟩] sc _=>gd (z == 0) (z3g r Γ elt tg iter ifs sc qI)
 |_=>none
theorem z05{D:DP}:EOk D Uh:=by
 intro r H X W Γ k e d C h
 unfold Uh at h
 split at h
 ·have hh:=zq h
  clear h
  obtain⟨hz,h⟩:=hh
  have hz:=beq_iff_eq.mp hz
  subst hz
  obtain⟨fs,tgt,fi,cs,fe,h1,h2,h3,h4,h5,h6,h7,h8,rfl⟩:=JT h
  exact K8 C h1 h2 h4 h5 (H.i C h3.2 h6) (λX' W' C'=>H.e C' h8) (λX' W' C'=>ke H C' h7) (WG h3.1)
 ·cases h
noncomputable def z2n:TR:=λr Γ e=>match e with
 |.Name _ _=>(r.e Γ e).bind λf=>some (tE f)
 |.Call _ _ _ _=>(r.e Γ e).bind λf=>some (tE f)
 |.Subscript _ _ _=>(r.e Γ e).bind λf=>some (tE f)
 |.Attribute _ _ _=>(r.e Γ e).bind λf=>some (tE f)
 |.Compare a ops es _=>(z4n r Γ a ops es).bind λf=>some (tE f)
 |.UnaryOp op a _=>(match op with
  |.Not=>(r.t Γ a).bind λf=>some (q9 f)
  |_=>none)
 |.BoolOp _ _ _=>r.w Γ e
 |_=>none
theorem z0a{D:DP}:TOk D z2n:=by
 intro r H X W Γ k e d C h
 cases e with
 |Name x p=>
  obtain⟨f,h1,h⟩:=bnd h
  cases h
  exact K2 (H.e C h1) λ_=>rfl
 |Call f args kws p=>
  obtain⟨f,h1,h⟩:=bnd h
  cases h
  exact K2 (H.e C h1) λ_=>rfl
 |Subscript a b p=>
  obtain⟨f,h1,h⟩:=bnd h
  cases h
  exact K2 (H.e C h1) λ_=>rfl
 |Attribute a b p=>
  obtain⟨f,h1,h⟩:=bnd h
  cases h
  exact K2 (H.e C h1) λ_=>rfl
 |Compare a ops es p=>
  obtain⟨f,h1,h⟩:=bnd h
  cases h
  exact (Kd H C h1).2
 |UnaryOp op a p=>
  cases op with
  |Not=>
   obtain⟨f,h1,h⟩:=bnd h
   cases h
   exact z3y (H.t C h1)
  |_=>cases h
 |BoolOp op es p=>exact (H.w C h).pt
 |_=>cases h
noncomputable def Yg:TR:=λr Γ e=>match e with
 |.BoolOp op es p=>(match es with
  |[a]=>r.t Γ a
  |a::b::l=>(r.t Γ a).bind λf=>(r.w Γ (.BoolOp op (b::l) p)).bind λg=>some (match op with|.And=>wb f g|.Or=>tOr f g)
  |[]=>none)
 |_=>none
theorem X3{D:DP}:WOk D Yg:=by
 intro r H X W Γ k e d C h
 cases e with
 |BoolOp op es p=>
  match es with
  |[]=>cases h
  |[a]=>
   cases op with
   |And=>exact z0t (H.t C h)
   |Or=>exact z4K (H.t C h)
  |a::b::l=>
   obtain⟨f,h1,h⟩:=bnd h
   obtain⟨g,h2,h⟩:=bnd h
   cases h
   cases op with
   |And=>exact z4B (H.t C h1) (H.w C h2)
   |Or=>exact z6A (H.t C h1) (H.w C h2)
 |_=>cases h
noncomputable def Y7:IR:=λr Γ e=>match e with
 |.Call (.Name x _) as [] _=>gd (x == ("range":Str)&&(idx Γ.N x).isNone&&as.all noStar) (match Γ.look x with
  |.none=>(match as with
   |[a]=>(r.e Γ a).bind λf=>some (WB f)
   |[a,b]=>(r.e Γ a).bind λf=>(r.e Γ b).bind λg=>some (JK f g)
   |[a,b,c]=>(r.e Γ a).bind λf=>(r.e Γ b).bind λg=>(r.e Γ c).bind λh=>some (z2f f g h)
   |_=>none)
  |_=>none)
 |_=>none
theorem YM{D:DP}:IOk D Y7:=by
 intro r H X W Γ k tg e d C ht h
 unfold Y7 at h
 split at h
 ·rename_i x p0 as pos
  have hh:=zq h
  clear h
  obtain⟨hb,h⟩:=hh
  simp only[z7x] at hb
  obtain⟨⟨h0,h2⟩,h3⟩:=hb
  have h0:=beq_iff_eq.mp h0
  subst h0
  cases hl:Γ.look "range" with
  |none=>
   obtain⟨hx,hg⟩:=qR hl (by intro z;cases z)
   simp only[hl] at h
   match as with
   |[]=>cases h
   |[a]=>
    simp only[z8B,z7x] at h3
    obtain⟨f,h1,h⟩:=bnd h
    cases h
    exact Y6 C hx hg h3.1 (H.e C h1)
   |[a,b]=>
    simp only[z8B,z7x] at h3
    obtain⟨f,h1,h⟩:=bnd h
    obtain⟨g,h4,h⟩:=bnd h
    cases h
    exact Xg C hx hg h3.1 h3.2.1 (H.e C h1) (H.e C h4)
   |[a,b,c]=>
    simp only[z8B,z7x] at h3
    obtain⟨f,h1,h⟩:=bnd h
    obtain⟨g,h4,h⟩:=bnd h
    obtain⟨g2,h5,h⟩:=bnd h
    cases h
    exact K_ C hx hg h3.1 h3.2.1 h3.2.2.1 (H.e C h1) (H.e C h4) (H.e C h5)
   |_::_::_::_::_=>cases h
  |_=>simp[hl] at h
 ·cases h
noncomputable def riE:IR:=λr Γ e=>(r.e Γ e).bind λf=>some (iE f)
theorem z3f{D:DP}:IOk D riE:=by
 intro r H X W Γ k tg e d C ht h
 obtain⟨f,h1,h⟩:=bnd h
 cases h
 exact z1s (H.e C h1)
noncomputable def z2e:ER:=λr Γ e=>match e with
 |.List es _=>gd (decide (es.length<=room)) ((cEs r Γ es).bind λfs=>some (Vv fs))
 |_=>none
theorem Uv{D:DP}:EOk D z2e:=by
 intro r H X W Γ k e d C h
 cases e with
 |List es p=>
  obtain⟨hl,h⟩:=zq h
  obtain⟨fs,h1,h⟩:=bnd h
  cases h
  exact z4H (of_decide_eq_true hl) (wJ H C h1)
 |_=>cases h
noncomputable def XY:ER:=rB1 "list" z0l false
theorem XB{D:DP}:EOk D XY:=xM λC hx hg _ hs ha=>U3 C hx hg (by decide +kernel) (by decide) hs z67 ha
end NH
end
section
namespace NH
open PySem PySem.Spec PyProof.Rows L2
noncomputable def KS (r:Rec)(Γ:Cn)(x:Str)(e:Expr):Option De:=match Γ.own.contains x with
 |true=>r.o Γ e
 |false=>r.e Γ e
theorem W6{D:DP}{r:Rec}{X:Cx}{W:XW}{Γ:Cn}{k:Nat}(H:RecOk D r)(C:Ck D W Γ X k){x:Str}{e:Expr}{d:De}(h:KS r Γ x e=some d):PE X e (rdE D W d):=by
 unfold KS at h
 cases q:Γ.own.contains x with
 |true=>rw[q] at h;exact H.o C h
 |false=>rw[q] at h;exact H.e C h
noncomputable def z2o:SR:=λr Γ s=>match s with
 |.Return o _=>(match o with
  |some e=>(KS r Γ "return" e).bind λf=>some (zh f)
  |none=>some U1)
 |_=>none
theorem UO{D:DP}:SOk D z2o:=by
 intro r H X W Γ k e d C h
 cases e with
 |Return o p=>
  cases o with
  |none=>cases h;exact z1o
  |some e=>
   obtain⟨f,h1,h⟩:=bnd h
   cases h
   exact z34 (W6 H C.toCk h1)
 |_=>cases h
noncomputable def isCall:Expr->Bool
 |.Call _ _ _ _=>true
 |.Constant _ _ _=>true
 |_=>false
noncomputable def z2h:SR:=λr Γ s=>match s with
 |.Expr e _=>gd (isCall e) ((r.e Γ e).bind λf=>some (zF f))
 |_=>none
theorem U8{D:DP}:SOk D z2h:=by
 intro r H X W Γ k e d C h
 cases e with
 |Expr e p=>
  obtain⟨hb,h⟩:=zq h
  obtain⟨f,h1,h⟩:=bnd h
  cases h
  exact z1N (by cases e<;>first|(simp[isCall] at hb;done)|rfl) (H.e C.toCk h1)
 |_=>cases h
noncomputable def z6u:SR:=λr Γ s=>match s with
 |.If c a b _=>(r.t Γ c).bind λt=>(zf (r.s Γ) a).bind λus=>(zf (r.s Γ) b).bind λvs=>some (sIf t us vs)
 |_=>none
theorem z1c{D:DP}:SOk D z6u:=by
 intro r H X W Γ k e d C h
 cases e with
 |If c a b p=>
  obtain⟨t,h1,h⟩:=bnd h
  obtain⟨us,h2,h⟩:=bnd h
  obtain⟨vs,h3,h⟩:=bnd h
  cases h
  exact z6O (H.t C.toCk h1) (w6 H C h2) (w6 H C h3)
 |_=>cases h
noncomputable def W2:Expr->Bool
 |.ListComp _ _ _ _=>true
 |.SetComp _ _ _ _=>true
 |.DictComp _ _ _ _ _=>true
 |_=>false
noncomputable def z5N (r:Rec)(Γ:Cn)(t e:Expr):Option Ds:=match t with
 |.Name x _=>(idx Γ.N x).bind λi=>(match e with
  |.ListComp elt gs sc _=>(match gs with
   |[g]=>gd (g.is_async == 0) ((z3g r Γ elt g.target g.iter g.ifs sc (match Γ.own.contains x with|true=>xJ|false=>qI)).bind λf=>some (zk i f))
   |_=>none)
  |e=>gd (!W2 e) ((KS r Γ x e).bind λf=>some (zk i f)))
 |.Tuple es _ _=>gd (Γ.calm&&kT e) ((idxs Γ.N es).bind λis=>(r.e Γ e).bind λf=>some (ug is f))
 |.Attribute o x _=>(Γ.fld.lookup x).bind λn=>(KS r Γ x e).bind λf=>(r.e Γ o).bind λgo=>some (ql go n f)
 |.Subscript o b _=>gd (qE b) ((r.e Γ e).bind λf=>(r.e Γ o).bind λgo=>(r.e Γ b).bind λgb=>some (z66 go gb f))
 |_=>none
noncomputable def z29:SR:=λr Γ s=>match s with
 |.Assign ts e _=>(match ts with
  |[t]=>z5N r Γ t e
  |_=>none)
 |_=>none
theorem z1Z{D:DP}{r:Rec}(H:RecOk D r){X:Cx}{W:XW}{Γ:Cn}{k:Nat}{t e:Expr}{pos:Pos}{d:Ds}(C:Sk D W Γ X k)(h:z5N r Γ t e=some d):PS X (.Assign [t] e pos) (rdS D W d):=by
 cases t with
 |Name x p=>
  obtain⟨i,hi,h⟩:=bnd h
  have gen:W2 e=false->gd (!W2 e) ((KS r Γ x e).bind λf=>some (zk i f))=some d->PS X (.Assign [.Name x p] e pos) (rdS D W d):=λhc h=>by
   obtain⟨_,h⟩:=zq h
   obtain⟨f,h1,h⟩:=bnd h
   cases h
   exact Yi C hi (by cases e<;>first|(simp[W2] at hc;done)|rfl) (W6 H C.toCk h1)
  cases e with
  |ListComp elt gs sc pc=>
   match gs with
   |[]=>cases h
   |_::_::_=>cases h
   |[⟨tg,iter,ifs,z⟩]=>
    have hh:=zq h
    clear h gen
    obtain⟨hz,h⟩:=hh
    have hz:z=0:=beq_iff_eq.mp hz
    subst hz
    obtain⟨f,h1,h⟩:=bnd h
    cases h
    obtain⟨fs,tgt,fi,cs,fe,q1,q2,q3,q4,q5,q6,q7,q8,rfl⟩:=JT h1
    have he:(match Γ.own.contains x with|true=>xJ|false=>qI) (z6 tg).length fs tgt fi cs fe=(match Γ.own.contains x with|true=>xJ (z6 tg).length fs tgt fi cs fe|false=>qI (z6 tg).length fs tgt fi cs fe):=by cases Γ.own.contains x<;>rfl
    have key:∀bb,zaw (.ListComp elt [⟨tg,iter,ifs,0⟩] sc pc) (some (.Name x p)) pos.line X.env=pure bb->PS X (.Assign [.Name x p] (.ListComp elt [⟨tg,iter,ifs,0⟩] sc pc) pos) (rdS D W (zk i (match Γ.own.contains x with|true=>xJ (z6 tg).length fs tgt fi cs fe|false=>qI (z6 tg).length fs tgt fi cs fe))):=λbb hsw=>by
     cases bb with
     |true=>exact z0H C q1 hi q2 q4 q5 (H.i C.toCk q3.2 q6) (λX' W' C'=>H.e C' q8) (λX' W' C'=>ke H C' q7) (WG q3.1) _ hsw
     |false=>
      refine Yi C hi hsw ?_
      cases Γ.own.contains x with
      |true=>exact YA C.toCk q1 q2 q4 q5 (H.i C.toCk q3.2 q6) (λX' W' C'=>H.e C' q8) (λX' W' C'=>ke H C' q7) (WG q3.1)
      |false=>exact K8 C.toCk q1 q2 q4 q5 (H.i C.toCk q3.2 q6) (λX' W' C'=>H.e C' q8) (λX' W' C'=>ke H C' q7) (WG q3.1)
    rw[he]
    exact key _ rfl
  |SetComp _ _ _ _=>cases h
  |DictComp _ _ _ _ _=>cases h
  |_=>exact gen rfl h
 |Tuple es kk p=>
  obtain⟨hb,h⟩:=zq h
  simp only[z7x] at hb
  obtain⟨is,h1,h⟩:=bnd h
  obtain⟨f,h2,h⟩:=bnd h
  cases h
  exact z39 C hb.1 hb.2 h1 (H.e C.toCk h2)
 |Attribute o x p=>
  obtain⟨n,h1,h⟩:=bnd h
  obtain⟨f,h2,h⟩:=bnd h
  obtain⟨go,h3,h⟩:=bnd h
  cases h
  exact z54 C (lookup_mem h1) (W6 H C.toCk h2) (H.e C.toCk h3)
 |Subscript o b p=>
  obtain⟨hb,h⟩:=zq h
  obtain⟨f,h1,h⟩:=bnd h
  obtain⟨go,h2,h⟩:=bnd h
  obtain⟨gb,h3,h⟩:=bnd h
  cases h
  exact z4V C hb (H.e C.toCk h1) (H.e C.toCk h2) (H.e C.toCk h3)
 |_=>cases h
theorem Uw{D:DP}:SOk D z29:=by
 intro r H X W Γ k e d C h
 cases e with
 |Assign ts e p=>
  match ts with
  |[]=>cases h
  |[t]=>exact z1Z H C h
  |_::_::_=>cases h
 |_=>cases h
noncomputable def z2b:SR:=λr Γ s=>match s with
 |.For tg it b els _=>gd (Γ.calm&&wC it&&els.isEmpty&&U9 tg it) ((wz Γ.N tg).bind λtgt=>(r.i Γ it).bind λfi=>(zf (r.s Γ) b).bind λvs=>some (jI tgt fi vs))
 |_=>none
theorem UQ{D:DP}:SOk D z2b:=by
 intro r H X W Γ k e d C h
 cases e with
 |For tg it b els p=>
  obtain⟨hb,h⟩:=zq h
  simp only[z7x] at hb
  obtain⟨tgt,h1,h⟩:=bnd h
  obtain⟨fi,h2,h⟩:=bnd h
  obtain⟨vs,h3,h⟩:=bnd h
  cases h
  cases els with
  |nil=>exact z4G C hb.1.1.1 h1 (H.i C.toCk hb.2 h2) (w6 H C h3) (WG hb.1.1.2)
  |cons _ _=>simp at hb
 |_=>cases h
noncomputable def z2g:SR:=λr Γ s=>match s with
 |.While c b els _=>gd els.isEmpty ((r.t Γ c).bind λt=>(zf (r.s Γ) b).bind λvs=>some (Wg t vs))
 |_=>none
theorem Yl{D:DP}:SOk D z2g:=by
 intro r H X W Γ k e d C h
 cases e with
 |While c b els p=>
  obtain⟨hb,h⟩:=zq h
  obtain⟨t,h1,h⟩:=bnd h
  obtain⟨vs,h3,h⟩:=bnd h
  cases h
  cases els with
  |nil=>exact UG C (H.t C.toCk h1) (w6 H C h3)
  |cons _ _=>simp at hb
 |_=>cases h
noncomputable def z3l:Stmt->Option Expr
 |.Raise (some e) none _=>some e
 |_=>none
theorem z0x{s:Stmt}{e:Expr}(h:z3l s=some e):∃p,s=.Raise (some e) none p:=by
 unfold z3l at h
 split at h
 ·cases h;exact⟨_,rfl⟩
 ·cases h
noncomputable def z00:Expr->Option (Str×List Expr)
 |.Call (.Name x _) as [] _=>some (x,as)
 |_=>none
theorem Up{e:Expr}{q:Str×List Expr}(h:z00 e=some q):∃p0 p1,e=.Call (.Name q.1 p0) q.2 [] p1:=by
 unfold z00 at h
 split at h
 ·cases h;exact⟨_,_,rfl⟩
 ·cases h
noncomputable def Yv:SR:=λr Γ s=>(z3l s).bind λe=>(z00 e).bind λq=>gd (Γ.calm&&(idx Γ.N q.1).isNone&&!q.2.isEmpty) ((cEs r Γ q.2).bind λfs=>(match Γ.look q.1 with
  |.xcl c=>some (zC c fs)
  |_=>none))
theorem Yn{D:DP}:SOk D Yv:=by
 intro r H X W Γ k e d C h
 unfold Yv at h
 obtain⟨e',h0,h⟩:=bnd h
 obtain⟨⟨x,as⟩,h2,h⟩:=bnd h
 obtain⟨p2,rfl⟩:=z0x h0
 obtain⟨p0,p1,rfl⟩:=Up h2
 obtain⟨hb,h⟩:=zq h
 simp only[z7x] at hb
 cases as with
 |nil=>exact absurd hb.2 (by simp)
 |cons a as=>
  obtain⟨fs,h1,h⟩:=bnd h
  cases hl:Γ.look x with
  |xcl c=>
   simp only[hl] at h
   cases h
   obtain⟨hx,hg⟩:=qR hl (by intro z;cases z)
   exact UR C hb.1.1 hx hg (wJ H C.toCk h1)
  |_=>simp[hl] at h
noncomputable def hdl (r:Rec)(Γ:Cn):za4->Option (List Nat×Option Nat×List Ds)
 |.ExceptHandler t nm suite _=>(match t with
  |some (.Name x _)=>gd ((idx Γ.N x).isNone&&Γ.G.contains x&&!suite.isEmpty&&(match Γ.gl x with|.xcl c=>Γ.cls.lookup x == some c&&Nat.blt c 40|.xcf c _=>Γ.cls.lookup x == some c&&Nat.blt c 40|_=>false)) ((Γ.cls.lookup x).bind λc=>(zf (r.s {Γ with calm:=false}) suite).bind λvs=>(match nm with
   |none=>some ([c],none,vs)
   |some e=>gd (!Γ.cel.contains e) ((idx Γ.N e).bind λj=>some ([c],some j,vs))))
  |_=>none)
theorem Uk{D:DP}{r:Rec}(H:RecOk D r){Γ:Cn}{k:Nat}:∀{hs:List za4} {gs:List (List Nat×Option Nat×List Ds)},zf (hdl r Γ) hs=some gs->Z7 D Γ k hs gs
 |[],gs,h=>by cases h;trivial
 |.ExceptHandler t nm suite p::hs,gs,h=>by
  obtain⟨g,h1,h⟩:=bnd h
  obtain⟨gs',h2,h⟩:=bnd h
  cases h
  have ih:=Uk (k:=k) H h2
  cases t with
  |none=>cases h1
  |some t=>
   cases t with
   |Name x p0=>
    have q0:=zq h1
    clear h1
    obtain⟨hb,q1⟩:=q0
    simp only[z7x] at hb
    have q2:=bnd q1
    clear q1
    obtain⟨c,hc,q3⟩:=q2
    have q4:=bnd q3
    clear q3
    obtain⟨vs,hv,h1⟩:=q4
    have hcok:HcOk Γ x c:=by
     refine⟨by simpa using hb.1.1.2,lookup_mem hc,?_⟩
     have h4:=hb.2
     rw[hc] at h4
     cases hg:Γ.gl x with
     |xcl c'=>
      simp only[hg,z7x] at h4
      have:c=c':=z7A (beq_iff_eq.mp h4.1)
      rw[this];exact⟨.inr rfl,Nat.blt_eq.mp h4.2⟩
     |xcf c' f=>
      simp only[hg,z7x] at h4
      have:c=c':=z7A (beq_iff_eq.mp h4.1)
      rw[this];exact⟨.inl ⟨f,rfl⟩,Nat.blt_eq.mp h4.2⟩
     |_=>rw[hg] at h4;cases h4
    have hne:=hb.1.2
    clear hb
    have h1':=h1
    clear h1
    have h1:=h1'
    clear h1'
    cases suite with
    |nil=>simp at hne
    |cons b0 suite=>
     cases nm with
     |none=>
      cases h1
      exact⟨⟨_,_,_,_,_,_,_,_,_,rfl,rfl,hcok,trivial,λX' C'=>w6 H C' hv⟩,ih⟩
     |some e=>
      obtain⟨he,h1⟩:=zq h1
      obtain⟨j,hj,h1⟩:=bnd h1
      cases h1
      exact⟨⟨_,_,_,_,_,_,_,_,_,rfl,rfl,hcok,⟨hj,by simpa using he⟩,λX' C'=>w6 H C' hv⟩,ih⟩
   |_=>cases h1
noncomputable def z25:SR:=λr Γ s=>match s with
 |.Try b hs els fin _=>gd (Γ.calm&&!hs.isEmpty&&els.isEmpty&&fin.isEmpty) ((zf (r.s Γ) b).bind λus=>(zf (hdl r Γ) hs).bind λgs=>some (z3u us gs))
 |_=>none
theorem Yt{D:DP}:SOk D z25:=by
 intro r H X W Γ k e d C h
 cases e with
 |Try b hs els fin p=>
  obtain⟨hb,h⟩:=zq h
  simp only[z7x] at hb
  obtain⟨us,h1,h⟩:=bnd h
  obtain⟨gs,h2,h⟩:=bnd h
  cases h
  cases els with
  |cons _ _=>simp at hb
  |nil=>
   cases fin with
   |cons _ _=>simp at hb
   |nil=>
    cases hs with
    |nil=>simp at hb
    |cons h0 hs=>exact z2D C hb.1.1.1 (λX' W' C'=>w6 H C' h1) (Uk H h2)
 |_=>cases h
structure MdOk(D:DP)(P:Program)(w:World)(K:PySem.W.Frag)(mg:Str->Option Value)(base:Heap)(Γ:Cn)(k:Nat):Prop where
 hK:K=D.K
 glo:∀x∈Γ.U,GlOkM D P w K mg base k x (Γ.gl x)/\(x == ("__debug__":Str))=false
 isi:∀t x c,(x,c)∈Γ.cls->∀u v,Wu D t u->yJ mg x v->zaV K u v=some (vL t c)
 fld:∀c C x f,D.cad c=some C->(x,f)∈Γ.fld->D.fn f=some x/\Cls K C/\NoAttr K C x
 xcx:∀c C,D.adr c=some C->XCls K C
 ocx:∀c C,D.cad c=some C->OCls K C
 clv:∀x c,(x,c)∈Γ.cls->∃u v,yJ mg x u/\ClsV v u
 xmt:∀t x c,(x,c)∈Γ.cls->c<40->∀Ct Cc,D.adr t=some Ct->mg x=some (.ref Cc)->zc8 K (.ref Ct) (.ref Cc)=some (vL t c)
noncomputable def yn(Γ:Cn)(ps:List Str)(sc:Scope):Bool:=
 (sc.kind == .function)&&!sc.isCoroutine&&!sc.isGenerator&&decide (Γ.N.Nodup)&&(Γ.N.take ps.length == ps)&&sc.names.all (λy=>y.2 != .free)&&
 Γ.N.all (λx=>x != ("__debug__":Str)&&x != ("__classdict__":Str)&&(if Γ.cel.contains x then sc.names.lookup x == some .cell else sc.names.lookup x == some .local))&&
 Γ.G.all (λx=>Γ.U.contains x&&sc.names.lookup x == some .globalImplicit)&&Γ.cel.all (λx=>Γ.N.contains x)&&Γ.calm
theorem ZR{X:Cx}{W:XW}{e:Value}{s:z7y}(p:XP X W e s):X.A.frames=some X.stack:=by
 obtain⟨_,_,_,_,_,_,_,_,I,_⟩:=p
 exact I.ok.frames
theorem JN:∀(ts:List T) (n:Nat),z1v ts n=ts.map some++z9L n none
 |[],n=>by
  have:∀n,pad n=z9L n none:=λn=>by
   induction n with
   |zero=>rfl
   |succ n ih=>show none::pad n=_;rw[ih];rfl
  exact this n
 |t::r,n=>by show some t::z1v r n=_;rw[JN r n];rfl
section
variable {D:DP}{P:Program}{w:World}{K:PySem.W.Frag}{mg:Str->Option Value}{base:Heap}{Γ:Cn}{k n:Nat}
theorem Jx{φ α:List Addr}{H:Hp}{N:List Str}{ts:List T}{vs:List V}(d:DenL D φ α H ts vs):SRel D φ α H (z1v ts (N.length-ts.length)) (L2.start N vs):=by
 have hl:=d.length
 rw[JN]
 refine⟨by simp[L2.start,hl],λi t e=>?_⟩
 by_cases hi:i<ts.length
 ·rw[z7F (by simpa using hi),z83] at e
  cases q:ts[i]? with
  |none=>rw[q] at e;cases e
  |some t'=>
   rw[q] at e
   have e:some (some t')=some (some t):=e
   cases e
   obtain⟨v,hv,dv⟩:=d.get q
   refine⟨v,?_,dv⟩
   unfold L2.start
   rw[z7F (by rw[z7B,←hl];exact hi),z83,hv]
   rfl
 ·rw[z7L (by simpa using hi),z9p] at e
  split at e<;>cases e
theorem vG{R:Rules}(HR:RulesOk D R){f:Addr}{name qual:Str}{params:Arguments}{body:List Stmt}{scope:Scope}{dV kV doc pm cdv ct oc:Value}{an od:Option Addr}{osl:Array (Option Value)}{ps:List Str}{m:Nat}{ds:List Ds}
    (M:MdOk D P w K mg base Γ k) (lk:K.lookup f=some ⟨oc,od,.func (z9x name qual params body scope dV kV doc pm an cdv ct),osl⟩) (hcd:zaR K cdv qual=true) (hs:yn Γ ps scope=true) (hm:Γ.N.length=ps.length+m) (hds:zf ((comp R n).s Γ) body=some ds) (hlam:LamOk D mg base cdv (qual++".<locals>.") k Γ.lam:=by exact LamOk.no rfl) :
    FnOk P w K mg base (CX1 P w) (k+1) f (z9x name qual params body scope dV kV doc pm an cdv ct) ps (spN D ps.length (fnW ps.length m ds)):=by
  simp only[yn,z7x,z8j,beq_iff_eq,z9e,decide_eq_true_eq,bne_iff_ne,ne_eq] at hs
  obtain⟨⟨⟨⟨⟨⟨⟨⟨⟨h1,h2⟩,h3⟩,h4⟩,h5⟩,h6⟩,h7⟩,h8⟩,h9⟩,h10⟩:=hs
  have kin:∀x∈Γ.N,(Γ.cel.contains x=true/\scope.names.lookup x=some .cell)\/(Γ.cel.contains x=false/\scope.names.lookup x=some .local):=λx hx=>by
    have q:=(h7 x hx).2
    cases hc:Γ.cel.contains x with
    |true=>rw[hc,if_pos rfl] at q;exact .inl ⟨rfl,beq_iff_eq.mp q⟩
    |false=>rw[hc] at q;exact .inr ⟨rfl,beq_iff_eq.mp q⟩
  have loc:∀x∈Γ.N,scope.names.lookup x=some .local\/scope.names.lookup x=some .cell:=λx hx=>(kin x hx).elim (λz=>.inr z.2) λz=>.inl z.2
  have S:FnScope Γ.N ps scope:=⟨h1,h2,h3,h4,h5,λx hx=>loc x (by rw[←h5] at hx;exact z9d hx),h6⟩
  refine z6q lk hcd S (λvs H Q E q=>q.1) λA outer s H vs Q E hr hsp=>?_
  obtain⟨hl,φ,α,ts,μ,d,mr,K0,Z0,⟨hle,q⟩,hk0,hz0⟩:=hsp
  generalize hX:Vc (CX1 P w) P w K mg base Γ.N qual scope f cdv A outer s H E=X
  have F:Frm X (zak qual scope s.heap.objs.size f cdv) outer s.heap.objs.size:=by rw[←hX];exact⟨rfl,rfl,rfl⟩
  have C:Sk D (wOf E) Γ (X.wish (XP X (wOf E))) k:=by
    have xe:∀e s,XP (X.wish (XP X (wOf E))) (wOf E) e s->XP X (wOf E) e s:=λe s p=>xy p
    have pso:zcb (z7N X.prog X.w) X.A X.env (XP X (wOf E)):=λe s p=>Q6 F (ZR p) e s p
    subst hX
    exact { hK := M.hK,hN := rfl,nd := h4,vis := fun x hx => (loc x hx).elim .inl fun z => .inr (.inl z),dbg := fun x hx => ⟨beq_eq_false_iff_ne.mpr (h7 x hx).1.1,beq_eq_false_iff_ne.mpr (h7 x hx).1.2⟩,
            dbG:=λx hx=>(M.glo x (by simpa using (h8 x hx).1)).2,glb:=λx hx=>(h8 x hx).2,glo:=λx hx=>(M.glo x (by simpa using (h8 x hx).1)).1,glU:=M.glo,
            cel:=λx hx=>.inl ((kin x (by simpa using h9 x hx)).elim (λz=>z.2) λz=>by have:=z.1;rw[z9E.mpr hx] at this;cases this),
            isi:=M.isi,fld:=M.fld,xcx:=M.xcx,ocx:=M.ocx,clv:=M.clv,clm:=λ_=>rfl,rom:=λ_=>hr,rmh:=⟨hr.dp,hr.un⟩,xe:=xe,frm:=⟨_,_,_,F.stk,F.f0,F.fe⟩,lam:=hlam,
            sto:=λx hx=>⟨loc x hx,.inl rfl⟩,lcl:=λx hx hc=>(kin x hx).elim (λz=>by rw[z.1] at hc;cases hc) λz=>z.2,pso:=pso,xmt:=M.xmt}
  have B:PSs X body (rdS D (wOf E) (zQ ds)):=λpins s1 σ1 H1 E1 I1 q=>by
    refine z8i (w4 (w6 (vz HR n) C hds) pins s1 σ1 H1 E1 (I1.wish _) q) (λf s' q=>q.unwish) λe s' p=>?_
    have p:XP X (wOf E) e s':=p
    have:=Yk (M:=z7N X.prog X.w) (F2:=λe' s''=>CX1 X.prog X.w X.outer X.H₀ X.s₀ E e' s'') F (ZR p) (by rw[←hX];rfl) p
    subst hX
    exact this
  have hmm:Γ.N.length-ts.length=m:=by omega
  refine⟨_,B,φ,α,_,μ,Jx d,mr,{nx:=λ_ μ1=>K0 .non μ1,rt:=K0,bk:=λ_ _=>False,ct:=λ_ _=>False,ex:=λc fs _ μ1=>Z0 c fs μ1},by rw[hmm];exact q,λ_ μ1 z α' H' σ' st m _=>hk0 _ _ z α' H' st m .non rfl,λ_ _ z=>z.elim,λ_ _ z=>z.elim,λt μ1 z α' H' v st m dv=>hk0 _ _ z α' H' st m v dv,λc fs _ μ1 z α' H' σ' C1 dd st m _ ad xd=>hz0 c fs μ1 z α' H' C1 dd st m ad xd⟩
theorem qB{n m:Nat}{ds:List Ds}:∀ts μ K Z,fnW n m ds ts μ K Z->ts.length=n:=λ_ _ _ _ h=>h.1
end
end NH
end
section
namespace NH
open PySem PySem.Spec PyProof.Rows L2
noncomputable def VS:z7E->Bool
 |[]=>true
 |p::r=>(match p.2.cls with|.type t=>t != "list" | _=>true)&&VS r
theorem Ks:∀{K:z7E} {a:Addr} {o:Obj},VS K=true->K.lookup a=some o->o.cls≠.type "list"
 |[],_,_,_,h=>by cases h
 |(b,p)::r,a,o,hn,h=>by
  simp only[VS,z7x] at hn
  rw[z8c] at h
  cases q:a == b with
  |true=>
   rw[q] at h
   cases h
   intro e
   have h1:=hn.1
   rw[e] at h1
   exact absurd h1 (by decide)
  |false=>rw[q] at h;exact Ks hn.2 h
theorem Qd{D:DP}{φ α:List Addr}{H:Hp}:∀(ns:List Int),DenL D φ α H (ns.map T.int) (ns.map V.int)
 |[]=>rfl
 |n::r=>⟨.int n,r.map V.int,rfl,rfl,Qd r⟩
noncomputable def FLD:List Str:=["moments","houses","counts","start","turns","holder","lease","until","is_cut","shape","grants","house","begin","end","ahead","stride","keeper","mark","newest","batches","has_fallen","clock","kept","common","given","now","seats","world","line","by"]
theorem z2w:FLD.Nodup:=by decide +kernel
structure Ads where
 xs:List (Nat×Addr)
 cs:List (Nat×Addr)
noncomputable def mkD (K:z7E)(A:Ads)(clo:Nat->Addr->Option HO->List V->Prop)(tabs:Nat->Option (Addr×List Pos×Str):=λ_=>none):DP:=⟨K,λc=>A.xs.lookup c,λc=>A.cs.lookup c,λi=>FLD[i]?,λi j x h1 h2=>kD z2w h1 h2,clo,tabs⟩
noncomputable def cn (cls fld:List (Str×Nat))(gs:List (Str×GM))(N G cel own:List Str)(lam:Option (Nat×List Pos):=none):Cn where
 N:=N
 G:=G
 calm:=true
 gl:=λx=>(gs.lookup x).getD .bad
 cls:=cls
 fld:=fld
 U:=gs.map (·.1)
 cel:=cel
 own:=own
 lam:=lam
noncomputable def tys(A:Ads):List (Nat×Value):=[(0,.type "NoneType"),(1,.type "bool"),(2,.type "int"),(3,.type "str"),(4,.type "tuple"),(5,.type "list"),(6,.type "dict")]++(A.xs.map λp=>(p.1,z80 p.2))++A.cs.map λp=>(p.1,z80 p.2)
noncomputable def Uu(K:z7E)(c:Str):Option Value:=match zbK K z7U c with
 |some (some v)=>some v
 |some none=>if c == ("__name__":Str) then none else z8W c
 |none=>none
noncomputable def z6b:Value->Bool
 |.ref _=>true
 |.type _=>true
 |_=>false
noncomputable def isC(o:Option (Option Value))(s:String):Bool:=match o with
 |some (some (.builtin x))=>x == s
 |_=>false
theorem yO{o:Option (Option Value)}{s:String}(h:isC o s=true):o=some (some (.builtin s)):=by
 unfold isC at h
 split at h
 ·rw[beq_iff_eq.mp h]
 ·cases h
noncomputable def YY(o:Option (Option Value)):Bool:=match o with
 |some none=>true
 |_=>false
theorem W8{o:Option (Option Value)}(h:YY o=true):o=some none:=by
 unfold YY at h
 split at h
 ·rfl
 ·cases h
noncomputable def isB(o:Option Bool)(b:Bool):Bool:=match o with|some c=>c == b|none=>false
theorem yZ{o:Option Bool}{b:Bool}(h:isB o b=true):o=some b:=by
 cases o with
 |none=>cases h
 |some c=>have:(c == b)=true:=h;rw[beq_iff_eq.mp this]
noncomputable def z0h (K:z7E)(C:Addr):Bool:=isC (z84 K (.ref C) "__class__") "object.__class__"&&isC (zam K (.builtin "object.__class__") "__get__") "getset_descriptor.__get__"&&isB (zaG K (.builtin "object.__class__")) true&&isB (za2 K C (.type "object")) true
noncomputable def z2t(K:z7E)(C:Addr):Bool:=z0h K C&&isC (z84 K (.ref C) "__getattribute__") "BaseException.__getattribute__"&&YY (z84 K (.ref C) "__getattr__")&&isB (za2 K C (.type "BaseException")) true&&(zel K C).isSome
noncomputable def UK(K:z7E)(C:Addr):Bool:=z0h K C&&z9R K C Str.empty&&z9G K C&&zb3 K C&&isC (z84 K (.ref C) "__setattr__") "object.__setattr__"
noncomputable def chk (K:z7E)(A:Ads)(cls fld:List (Str×Nat)):Bool:=
 cls.all (λp=>match Uu K p.1 with
  |some v=>z6b v&&(tys A).all (λq=>isB (zaV K q.2 v) (vL q.1 p.2))&&(zeu 40 p.2 || (match v with|.ref C=>A.xs.all (λq=>isB (zc8 K (.ref q.2) (.ref C)) (vL q.1 p.2))|_=>true))
  |none=>false)&&
 A.xs.all (λq=>z2t K q.2)&&A.cs.all (λq=>UK K q.2&&fld.all (λp=>YY (z84 K (.ref q.2) p.1)))&&fld.all (λp=>match FLD[p.2]? with|some x=>x == p.1|none=>false)
theorem yD{K:z7E}{h:Heap}{mg:Str->Option Value}{c:Str}{v:Value}(X:K.In h)(G:h.Ns z7U mg)(e:Uu K c=some v):yJ mg c v/\∀u,yJ mg c u->u=v:=by
 unfold Uu at e
 split at e
 ·rename_i v' q
  cases e
  have m:=zbz X G q
  refine⟨.inl m,λu z=>?_⟩
  rcases z with z|⟨z,_⟩
  ·rw[m] at z;cases z;rfl
  ·rw[m] at z;cases z
 ·rename_i q
  have m:=zcB X G q
  split at e
  ·cases e
  ·rename_i hn
   refine⟨.inr ⟨m,e,λz=>hn (by rw[z];rfl)⟩,λu z=>?_⟩
   rcases z with z|⟨_,z,_⟩
   ·rw[m] at z;cases z
   ·rw[e] at z;cases z;rfl
 ·cases e
theorem qi{α β:Type}[BEq α][LawfulBEq α]{x:α}{v:β}:∀{l:List (α×β)},l.lookup x=some v->(x,v)∈l
 |[],h=>by cases h
 |(y,w)::r,h=>by
  rw[z8c] at h
  cases q:x == y with
  |true=>rw[q] at h;cases h;rw[beq_iff_eq.mp q];exact z7Z
  |false=>rw[q] at h;exact z7O _ (qi h)
theorem lookup_some{α:Type}{x:Str}:∀{l:List (Str×α)},x∈l.map (·.1)->∃v,l.lookup x=some v
 |[],h=>by simp at h
 |(y,w)::r,h=>by
  rw[z8c]
  cases q:x == y with
  |true=>exact⟨w,rfl⟩
  |false=>
   rcases z88.mp h with z|z
   ·have z:x=y:=z
    rw[z] at q;simp at q
   ·exact lookup_some z
section
variable {P:Program}{w:World}{K:PySem.W.Frag}{mg:Str->Option Value}{base:Heap}{A:Ads}{clo:Nat->Addr->Option HO->List V->Prop}{cls fld:List (Str×Nat)}{gs:List (Str×GM)}{N G cel own:List Str}{k:Nat}{lam:Option (Nat×List Pos)}{tabs:Nat->Option (Addr×List Pos×Str)}
theorem z3N{t:Nat}{u:Value}(h:Wu (mkD K A clo tabs) t u):(t,u)∈tys A:=by
 unfold tys
 rcases h with⟨rfl,rfl⟩|⟨rfl,rfl⟩|⟨rfl,rfl⟩|⟨rfl,rfl⟩|⟨rfl,rfl⟩|⟨rfl,rfl⟩|⟨C,h,rfl⟩|⟨rfl,rfl⟩|⟨C,h,rfl⟩
 ·simp
 ·simp
 ·simp
 ·simp
 ·simp
 ·simp
 ·exact z7S _ (z7J _ (z8n.mpr ⟨(t,C),qi h,rfl⟩))
 ·simp
 ·exact z7J _ (z8n.mpr ⟨(t,C),qi h,rfl⟩)
noncomputable def GsOk (P:z8e)(w:z8s)(K:z7E)(mg:Str->Option Value)(base:Heap)(A:Ads)(clo:Nat->Addr->Option HO->List V->Prop)(k:Nat)(gs:List (Str×GM))(tabs:Nat->Option (Addr×List Pos×Str):=λ_=>none):Prop:=∀p∈gs,GlOkM (mkD K A clo tabs) P w K mg base k p.1 p.2/\(p.1 == ("__debug__":Str))=false
theorem GlOkM.mono{D:DP}{j k:Nat}{x:Str}{g:GM}(h:j<=k)(q:GlOkM D P w K mg base j x g):GlOkM D P w K mg base k x g:=by
 cases g with
 |fn f=>obtain⟨fa,a,fd,ps,kk,b,c,d,r⟩:=q;exact⟨fa,a,fd,ps,kk,b,c,z7V d h,r⟩
 |fnh nm f=>obtain⟨fa,a,fd,ps,kk,b,c,d,r⟩:=q;exact⟨fa,a,fd,ps,kk,b,c,z7V d h,r⟩
 |met c nm f=>obtain⟨C,fI,fd,ps,kk,a,b,c,d,e,f1,r⟩:=q;exact⟨C,fI,fd,ps,kk,a,b,c,d,e,z7V f1 h,r⟩
 |mk c z f=>obtain⟨C,fI,fd,ps,kk,a,b,c,d,e,r⟩:=q;exact⟨C,fI,fd,ps,kk,a,b,c,d,z7V e h,r⟩
 |xin c f nm fl=>obtain⟨C,HE,fI,fd,ps,kk,a1,a2,a3,a4,a5,a6,r⟩:=q;exact⟨C,HE,fI,fd,ps,kk,a1,a2,a3,a4,a5,z7V a6 h,r⟩
 |mkd c nm n f=>obtain⟨C,fI,fd,ps,kk,a,b,c,d,e,r⟩:=q;exact⟨C,fI,fd,ps,kk,a,b,c,d,z7V e h,r⟩
 |metd c nm n d f=>obtain⟨C,fI,fd,ps,kk,du,dv,a1,a2,a3,a4,a5,a6,a7,a8,r⟩:=q;exact⟨C,fI,fd,ps,kk,du,dv,a1,a2,a3,a4,a5,a6,a7,z7V a8 h,r⟩
 |kpr=>exact⟨λt φ α H v hj d=>let ⟨a,kk,h1,h2,h3⟩:=q.1 t φ α H v hj d;⟨a,kk,h1,z7V h2 h,h3⟩,q.2⟩
 |_=>exact q
theorem GsOk.mono{j k:Nat}(h:j<=k)(q:GsOk P w K mg base A clo j gs tabs):GsOk P w K mg base A clo k gs tabs:=λp hp=>⟨(q p hp).1.mono h,(q p hp).2⟩
theorem GsOk.add {x:Str} {g:GM} (q:GsOk P w K mg base A clo k gs tabs) (h:GlOkM (mkD K A clo tabs) P w K mg base k x g) (hx:(x == ("__debug__":Str))=false):GsOk P w K mg base A clo k ((x,g)::gs) tabs:=λp hp=>by
 rcases z88.mp hp with rfl|z
 ·exact⟨h,hx⟩
 ·exact q p z
noncomputable def Kt(bs:List Str)(xs:List (Str×Nat))(ys:List (Str×Nat×Nat)):List (Str×GM):=bs.map (λx=>(x,GM.none))++xs.map (λx=>(x.1,GM.xcl x.2))++ys.map (λx=>(x.1,GM.xcf x.2.1 x.2.2))
noncomputable def atA(K:z7E)(A:Ads)(x:Str)(c:Nat):Bool:=match A.xs.lookup c,zbK K z7U x with
 |some C,some (some (.ref C'))=>C == C'
 |_,_=>false
noncomputable def UD(K:z7E)(A:Ads)(bs:List Str)(xs:List (Str×Nat))(ys:List (Str×Nat×Nat)):Bool:=
 bs.all (λx=>x != ("__debug__":Str)&&YY (zbK K z7U x))&&
 xs.all (λx=>x.1 != ("__debug__":Str)&&atA K A x.1 x.2)&&ys.all (λx=>x.1 != ("__debug__":Str)&&atA K A x.1 x.2.1)
theorem Ua{x:Str}{c:Nat}(X:K.In base)(Gm:base.Ns z7U mg)(h:atA K A x c=true):∃C,A.xs.lookup c=some C/\mg x=some (.ref C):=by
 unfold atA at h
 split at h
 ·rename_i C C' q1 q2
  have h:C=C':=beq_iff_eq.mp h
  subst h
  exact⟨C,q1,zbz X Gm q2⟩
 ·cases h
noncomputable def XOkL (K:z7E)(A:Ads):List (Str×Nat)->Prop
 |[]=>True
 |p::r=>(∃C,A.xs.lookup p.2=some C/\za3 K C qG "ValueError.__new__"=true)/\XOkL K A r
theorem XOkL.at:∀{xs:List (Str×Nat)} {p:Str×Nat},XOkL K A xs->p∈xs->∀C,A.xs.lookup p.2=some C->za3 K C qG "ValueError.__new__"=true
 |q::r,p,h,hp,C,e=>by
  rcases z88.mp hp with rfl|z
  ·obtain⟨C',e',x⟩:=h.1
   rw[e'] at e;cases e;exact x
  ·exact XOkL.at h.2 z C e
theorem V_{bs:List Str}{xs:List (Str×Nat)}{ys:List (Str×Nat×Nat)}(X:K.In base)(Gm:base.Ns z7U mg)(h:UD K A bs xs ys=true)(hX:XOkL K A xs):GsOk P w K mg base A clo k (Kt bs xs ys) tabs:=by
 simp only[UD,z7x,z8j,bne_iff_ne,ne_eq] at h
 intro p hp
 rcases z7H.mp hp with z|z
 ·rcases z7H.mp z with z|z
  ·obtain⟨x,hx,rfl⟩:=z8n.mp z
   obtain⟨h1,h2⟩:=h.1.1 x hx
   exact⟨zcB X Gm (W8 h2),beq_eq_false_iff_ne.mpr h1⟩
  ·obtain⟨x,hx,rfl⟩:=z8n.mp z
   obtain⟨h1,h2⟩:=h.1.2 x hx
   obtain⟨C,q1,q2⟩:=Ua X Gm h2
   exact⟨⟨C,q1,q2,XOkL.at hX hx C q1⟩,beq_eq_false_iff_ne.mpr h1⟩
 ·obtain⟨x,hx,rfl⟩:=z8n.mp z
  obtain⟨h1,h2⟩:=h.2 x hx
  obtain⟨C,q1,q2⟩:=Ua X Gm h2
  exact⟨⟨C,q1,q2⟩,beq_eq_false_iff_ne.mpr h1⟩
theorem yG(X:K.In base)(Gm:base.Ns z7U mg)(hc:chk K A cls fld=true)(q:GsOk P w K mg base A clo k gs tabs):MdOk (mkD K A clo tabs) P w K mg base (cn cls fld gs N G cel own lam) k:=by
 simp only[chk,z7x,z8j] at hc
 obtain⟨⟨⟨c1,c2⟩,c3⟩,c4⟩:=hc
 have cb:∀{C},z0h K C=true->z84 K (.ref C) "__class__"=some (some (.builtin "object.__class__"))/\zam K (.builtin "object.__class__") "__get__"=some (some (.builtin "getset_descriptor.__get__"))/\zaG K (.builtin "object.__class__")=some true/\za2 K C (.type "object")=some true:=λ{C} h=>by
  simp only[z0h,z7x] at h
  exact⟨yO h.1.1.1,yO h.1.1.2,yZ h.1.2,yZ h.2⟩
 have oc:∀c C,A.cs.lookup c=some C->OCls K C:=λc C h=>by
  have h':=(c3 _ (qi h)).1
  simp only[UK,z7x] at h'
  obtain⟨⟨⟨⟨h1,h2⟩,h3⟩,h4⟩,h5⟩:=h'
  obtain⟨k1,k2,k3,k4⟩:=cb h1
  exact⟨⟨h2,h3,h4,yO h5⟩,k1,k2,k3,k4⟩
 refine⟨rfl,λx hx=>?_,λt x c hxc u v hu hv=>?_,λc C x f hC hf=>?_,λc C hC=>?_,oc,λx c hxc=>?_,λt x c hxc hlt Ct Cc hCt hCc=>?_⟩
 ·obtain⟨g,hg⟩:=lookup_some (l:=gs) hx
  have:=q _ (qi hg)
  refine⟨?_,this.2⟩
  show GlOkM _ P w K mg base k x ((gs.lookup x).getD .bad)
  rw[hg]
  exact this.1
 ·have h':=c1 _ hxc
  dsimp only at h'
  split at h'
  ·rename_i v' q'
   simp only[z7x,z8j] at h'
   have e:=(yD X Gm q').2 v hv
   subst e
   exact yZ (h'.1.2 _ (z3N hu))
  ·cases h'
 ·have h':=c4 _ hf
  dsimp only at h'
  refine⟨?_,(oc c C hC).cl,W8 ((c3 _ (qi hC)).2 _ hf)⟩
  split at h'
  ·rename_i y hy
   show FLD[f]?=some x
   rw[hy,beq_iff_eq.mp h']
  ·cases h'
 ·have h':=c2 _ (qi hC)
  simp only[z2t,z7x] at h'
  obtain⟨⟨⟨⟨h1,h2⟩,h3⟩,h4⟩,h5⟩:=h'
  obtain⟨k1,k2,k3,k4⟩:=cb h1
  exact⟨yO h2,W8 h3,k1,k2,k3,k4,yZ h4,h5⟩
 ·have h':=c1 _ hxc
  dsimp only at h'
  split at h'
  ·rename_i v q'
   simp only[z7x] at h'
   have hcv:=h'.1.1
   refine⟨v,(match v with|.ref C=>V.ref C|.type n=>V.ty n|_=>V.non),(yD X Gm q').1,?_⟩
   cases v with
   |ref C=>exact .inl ⟨C,rfl,rfl⟩
   |type n=>exact .inr ⟨n,rfl,rfl⟩
   |_=>cases hcv
  ·cases h'
 ·have h':=c1 _ hxc
  dsimp only at h'
  split at h'
  ·rename_i v q'
   simp only[z7x,zaH] at h'
   have e:=(yD X Gm q').2 (.ref Cc) (.inl hCc)
   subst e
   have h3:=h'.2.resolve_left (λz=>by have:=Nat.le_of_ble_eq_true z;omega)
   simp only[z8j] at h3
   exact yZ (h3 _ (qi hCt))
  ·cases h'
end
end NH
end
section
namespace NH
open PySem PySem.Spec PyProof.Rows L2
section
variable {X:Cx}{D:DP}{W:XW}{Γ:Cn}{k:Nat}{pins:List (Addr×Obj)}{s:Shared}{σ:St}{H:Hp}{φ α:List Addr}{τ:Sl}{μ:Mem}{pos:Pos}
theorem MRel.layO{p:Addr}{u:HO}{mo:MO}(m:MRel D φ α H μ)(hp:H p=none)(d:DenO D φ (α++[p]) (upd H p u) mo p):MRel D φ (α++[p]) (upd H p u) (μ++[mo]):=by
 have st:Stp α H (α++[p]) (upd H p u):=jg hp
 have hl:=m.len
 refine⟨by simp[hl],?_,λb hb=>?_,λb hb=>?_,λi a o e1 e2=>?_⟩
 ·rw[zan]
  refine⟨m.nd,by simp,λa ha b hb=>?_⟩
  rw[z7C.mp hb]
  intro z
  exact zm m hp (z▸ha)
 ·rcases z7H.mp hb with h|h
  ·exact m.dis b h
  ·rw[z7C.mp h];exact zo m hp
 ·obtain⟨u,e⟩:=m.phi b hb
  exact⟨u,za hp b u e⟩
 ·by_cases hi:i<α.length
  ·rw[z7F hi] at e1
   rw[z7F (by omega)] at e2
   have d:=m.ob i a o e1 e2
   obtain⟨u,q⟩:=d.some
   exact d.step st ((za hp _ _ q).trans q.symm)
  ·rw[z7L (by omega)] at e1 e2
   have hi':i-α.length=0:=by
    by_cases z:i-α.length=0
    ·exact z
    ·rw[zat (by simp;omega)] at e1;cases e1
   have hi2:i-μ.length=0:=by omega
   rw[hi'] at e1
   rw[hi2] at e2
   have e1:some p=some a:=e1
   have e2:some mo=some o:=e2
   cases e1;cases e2
   exact d
end
end NH
end
section
namespace NH
open PySem PySem.Spec PyProof.Rows L2
noncomputable abbrev eB2(op:T->T->Mem->RE T)(f g:De):De:=λτ μ=>(f τ μ).bind λx μ1=>(g τ μ1).bind λy μ2=>op x y μ2
noncomputable abbrev Qo(x y:T)(μ:Mem):RE T:=match x,y with
 |.int a,.int b=>.ok (.int (if b<a then b else a)) μ
 |_,_=>.st
noncomputable abbrev xV(x y:T)(μ:Mem):RE T:=match x,y with
 |.int a,.int b=>.ok (.int (if a<b then b else a)) μ
 |_,_=>.st
section
variable {X:Cx}{D:DP}{W:XW}{Γ:Cn}{k:Nat}{pins:List (Addr×Obj)}{s:Shared}{σ:St}{H:Hp}{φ α:List Addr}{τ:Sl}{μ:Mem}{f g h:De}{a b c:Expr}{pos:Pos}{es:List Expr}
noncomputable def B2 (X:Cx)(D:DP)(W:XW)(fv:Value)(op:T->T->Mem->RE T):Prop:=
 ∀(pins:List (Addr×Obj)) (s:z7y) (σ:St) (H:Hp) (φ α:List Addr) (μ:Mem) (t t':T) (v v':V) (u u':Value) (Q:VK),Inv X pins σ H s->MRel D φ α H μ->Den D φ α H t v->Den D φ α H t' v'->RelV v u->RelV v' u'->Post D W φ α H σ (RV D φ Q) (op t t' μ)->
  z7K (z7N X.prog X.w) X.A (call fv [u,u']) (EP X pins σ Q) X.xe s
theorem z2k (C:Ck D W Γ X k) {x:Str} {id:String} {op:T->T->Mem->RE T} {p0:Pos} (hx:x∈Γ.G) (hg:Γ.gl x=.none) (hv:z8W x=some (.builtin id)) (hn:x≠"__name__") (ha':noStar a=true) (hb':noStar b=true) (hB:B2 X D W (.builtin id) op) (ha:PE X a (rdE D W f)) (hb:PE X b (rdE D W g)) :
  PE X (.Call (.Name x p0) [a,b] [] pos) (rdE D W (eB2 op f g)):=by
 have hm:=C.glo _ hx
 rw[hg] at hm
 rintro pins s σ H Q I ⟨φ,α,τ,μ,sr,mr,p⟩
 refine z8t (vn I (C.glb _ hx) hm hv ?_ hn (C.dbG _ hx))
 refine z8K (thn (zy ha (zy hb qD (z4 hb')) (z4 ha') pos pins s σ H (λvs H2=>∃v1 v2 t1 t2 μ2 α2,vs=[v1,v2]/\MRel D φ α2 H2 μ2/\Den D φ α2 H2 t1 v1/\Den D φ α2 H2 t2 v2/\Post D W φ α2 H2 σ (RV D φ Q) (op t1 t2 μ2)) I
  ⟨φ,α,τ,μ,sr,mr,p.bind.mono λt1 μ1 α1 H1 st1 m1 q1 v1 d1=>⟨φ,α1,τ,μ1,sr.step st1,m1,q1.bind.mono λt2 μ2 α2 H2 st2 m2 q2 v2 d2=>⟨v1,v2,t1,t2,μ2,α2,rfl,m2,d1.step st2,d2,q2⟩⟩⟩) ?_) (z4 ha') (zX (by simp[hb']))
 rintro us s1 ⟨vs,H1,I1,rv,v1,v2,t1,t2,μ2,α2,rfl,m,d1,d2,q⟩
 obtain⟨u1,u2,rfl,r1,r2⟩:=vals2 rv
 exact hB pins s1 σ H1 φ α2 μ2 t1 t2 v1 v2 u1 u2 Q I1 m d1 d2 r1 r2 q
theorem z5p(hc:X.calm=true):B2 X D W (.builtin "min") Qo:=by
 intro pins s σ H φ α μ t t' v v' u u' Q I mr d d' r r' p
 unfold Qo at p
 split at p
 ·cases d;cases d'
  obtain⟨t1,rfl⟩:=r
  obtain⟨t2,rfl⟩:=r'
  refine min_two_ints (I.ok.hd hc) λh' tk kp=>?_
  have I1:Inv X pins σ H {s with heap:=h',toks:=tk}:=I.kept kp
  rename_i i j
  by_cases z:j<i
  ·rw[if_pos z] at p ⊢
   exact⟨.int j,H,I1,⟨_,rfl⟩,p.here mr rfl⟩
  ·rw[if_neg z] at p ⊢
   exact⟨.int i,H,I1,⟨_,rfl⟩,p.here mr rfl⟩
 ·exact p.elim
theorem z2C(hc:X.calm=true):B2 X D W (.builtin "max") xV:=by
 intro pins s σ H φ α μ t t' v v' u u' Q I mr d d' r r' p
 unfold xV at p
 split at p
 ·cases d;cases d'
  obtain⟨t1,rfl⟩:=r
  obtain⟨t2,rfl⟩:=r'
  refine max_two_ints (I.ok.hd hc) λh' tk kp=>?_
  have I1:Inv X pins σ H {s with heap:=h',toks:=tk}:=I.kept kp
  rename_i i j
  by_cases z:i<j
  ·rw[if_pos z] at p
   rw[if_pos (show j > i from z)]
   exact⟨.int j,H,I1,⟨_,rfl⟩,p.here mr rfl⟩
  ·rw[if_neg z] at p
   rw[if_neg (show ¬j > i from z)]
   exact⟨.int i,H,I1,⟨_,rfl⟩,p.here mr rfl⟩
 ·exact p.elim
theorem intsAre_of:∀{ns:List Int} {us:List Value},Vals (ns.map V.int) us->z8D us ns
 |[],_,.nil=>.nil
 |n::ns,_,.cons r q=>by
  obtain⟨t,rfl⟩:=r
  exact .cons n t (intsAre_of q)
end
noncomputable def rB2 (nm:Str)(op:T->T->Mem->RE T):ER:=λr Γ e=>match e with
 |.Call (.Name x _) [a,b] [] _=>gd (x == nm&&(idx Γ.N x).isNone&&noStar a&&noStar b&&Γ.calm) ((r.e Γ a).bind λf=>(r.e Γ b).bind λg=>(match Γ.look x with
  |.none=>some (eB2 op f g)
  |_=>none))
 |_=>none
theorem Ux{D:DP}{nm:Str}{op:T->T->Mem->RE T}(H1:∀{X:Cx} {W:XW} {Γ:Cn} {k:Nat} {a b:Expr} {f g:De} {p0 pos:Pos},Ck D W Γ X k->nm∈Γ.G->Γ.gl nm=.none->Γ.calm=true->noStar a=true->noStar b=true->PE X a (rdE D W f)->PE X b (rdE D W g)->PE X (.Call (.Name nm p0) [a,b] [] pos) (rdE D W (eB2 op f g))):EOk D (rB2 nm op):=by
 intro r H X W Γ k e d C h
 unfold rB2 at h
 split at h
 ·rename_i x p0 a b pos
  have hh:=zq h
  clear h
  obtain⟨hb,h⟩:=hh
  simp only[z7x,beq_iff_eq] at hb
  obtain⟨⟨⟨⟨rfl,h2⟩,h3⟩,h4⟩,h5⟩:=hb
  obtain⟨f,h1,h⟩:=bnd h
  obtain⟨g,h6,h⟩:=bnd h
  cases hl:Γ.look x with
  |none=>
   simp only[hl] at h
   cases h
   obtain⟨hx,hg⟩:=qR hl (by intro z;cases z)
   exact H1 C hx hg h5 h3 h4 (H.e C h1) (H.e C h6)
  |_=>simp[hl] at h
 ·cases h
noncomputable def z2v:ER:=rB2 "min" Qo
theorem Ut{D:DP}:EOk D z2v:=Ux λC hx hg hc h1 h2 ha hb=>z2k C hx hg (by decide +kernel) (by decide) h1 h2 (z5p (C.clm hc)) ha hb
noncomputable def z2d:ER:=rB2 "max" xV
theorem Y1{D:DP}:EOk D z2d:=Ux λC hx hg hc h1 h2 ha hb=>z2k C hx hg (by decide +kernel) (by decide) h1 h2 (z2C (C.clm hc)) ha hb
end NH
end
section
namespace NH
open PySem PySem.Spec PyProof.Rows L2
noncomputable abbrev yw(c:Nat)(g:Fn)(ts:List T)(μ:Mem):RE T:=λK Z=>g (.mut μ.length::ts) (μ++[.obj c []]) (λr μ1=>r=.non/\K (.mut μ.length) μ1) Z
noncomputable abbrev z07(c:Nat)(g:Fn)(fs:List De):De:=λτ μ=>(evs fs τ μ).bind (yw c g)
noncomputable abbrev zW(c:Nat)(g:Fn)(o:De)(as:List De):De:=λτ μ=>(o τ μ).bind λt μ1=>match t with
 |.obj c' fs=>.grd (c'=c) ((evs as τ μ1).bind λts μ2=>g (.obj c' fs::ts) μ2)
 |.mut i=>λK Z=>∃fs,μ1[i]?=some (.obj c fs)/\(evs as τ μ1).bind (λts μ2=>g (.mut i::ts) μ2) K Z
 |_=>.st
section
variable {X:Cx}{D:DP}{W:XW}{Γ:Cn}{k:Nat}{pins:List (Addr×Obj)}{s:Shared}{σ:St}{H:Hp}{φ α:List Addr}{τ:Sl}{μ:Mem}{fs:List De}{a b c:Expr}{pos:Pos}{es:List Expr}
theorem K5{c:Nat}{g:Fn}{C0 fI:Addr}{fd:z8O}{ps:List Str}{kk:Nat}{us:List Value}{vs:List V}{ts:List T}{Q:VK}(C:Ck D W Γ X k)(ad:D.cad c=some C0)(M:Mk X.K C0 fI)(F:FnOk X.prog X.w X.K X.mg X.base (CX1 X.prog X.w) kk fI fd ps (spN D ps.length g))
  (hr:Room (kk+1) X.A) (hb:Binds X.K fd ps []) (har:∀ts μ K Z,g ts μ K Z->ts.length=ps.length) (I:Inv X pins σ H s) (r:Vals vs us) (mr:MRel D φ α H μ) (d:DenL D φ α H ts vs) (p:Post D W φ α H σ (RV D φ Q) (yw c g ts μ)) :
  z7K (z7N X.prog X.w) X.A (call (.ref C0) us) (EP X pins σ Q) X.xe s:=by
 obtain⟨K,Z,hg,hk,hz⟩:=p
 have hl:(T.mut μ.length::ts).length=ps.length:=har _ _ _ _ hg
 have hq:∀x dx,H x=none->H dx=none->dx≠x->spN D ps.length g (.ref x::(vs++[])) (upd (upd H dx (.own x)) x (.ins C0 dx [])) (λv H2=>v=.non/\Q (.ref x) H2) (λc d H'=>W c d σ H'):=by
  intro x dx hx hdx hne
  have sm1:yl H (upd H dx (.own x)):=za hdx
  have hx1:upd H dx (.own x) x=none:=by rw[z8 (z9m hne)];exact hx
  have mr1:MRel D φ α (upd H dx (.own x)) μ:=mr.new sm1
  have st0:Stp α H (α++[x]) (upd (upd H dx (.own x)) x (.ins C0 dx [])):=(Stp.new sm1).trans (jg hx1)
  have mr2:MRel D φ (α++[x]) (upd (upd H dx (.own x)) x (.ins C0 dx [])) (μ++[.obj c []]):=mr1.layO hx1 ⟨C0,dx,[],ad,z7,rfl⟩
  have hget:(α++[x])[μ.length]?=some x:=by rw[←mr.len,z7L (z7D _)];simp
  refine⟨by simp only[z7X,z8o] at hl ⊢;rw[←d.length];exact hl,φ,α++[x],.mut μ.length::ts,μ++[.obj c []],⟨.ref x,vs++[],rfl,⟨x,hget,rfl⟩,by rw[z8o];exact d.step st0⟩,mr2,_,_,hg,?_,?_⟩
  ·rintro t μ2 ⟨rfl,q⟩ α2 H3 st m v dv
   refine⟨dv,?_⟩
   obtain⟨β,e,_⟩:=st.ext
   refine hk _ _ q α2 H3 (st0.trans st) m _ ⟨x,?_,rfl⟩
   rw[e,z7F (z7v.mp hget).1];exact hget
  ·rintro e fs μ2 q α2 H3 C1 d1 st m had xd
   exact hz _ _ _ q α2 H3 C1 d1 (st0.trans st) m had xd
 have hq1:=hq (s.heap.objs.size+1) s.heap.objs.size (I.hok.fresh (zb6 _)) (I.hok.fresh (z7D _)) (z85 (z8J _))
 have I2:=Inv.made (C:=C0) I
 have r2:Vals (V.ref (s.heap.objs.size+1)::(vs++[])) (z80 (s.heap.objs.size+1)::us):=.cons rfl (by rw[z8o];exact r)
 have hlu:(z80 (s.heap.objs.size+1)::us++[]).length=ps.length:=by
  rw[z8o,z7X,←r.length,←d.length]
  exact hl
 refine zab (uy (f:=fI) I.kIn M.makes M.init (beq_iff_eq.mp M.fn) (z9b (F.run _ X.stack _ _ ⟨z80 (s.heap.objs.size+1)::us,[]⟩ (z80 (s.heap.objs.size+1)::us) _ _ (λc d H'=>W c d σ H') (hr.make C0 us [])
  (I2.env0.make C0 us []) (by simpa using hb _ (z80 (s.heap.objs.size+1)::us) I2.kIn hlu) r2 hq1) λr s' hq'=>?_))
 cases r with
 |error e=>exact C.xe e s' (yq (E:=λc d H'=>W c d σ H') I2 hq' λcls d H' w=>w)
 |ok fl=>
  cases fl with
  |ret u=>
   obtain⟨v,H',I3,rv,ev,q3⟩:=I2.after hq'
   subst ev
   exact⟨rv,⟨V.ref (s.heap.objs.size+1),H',I3,rfl,q3⟩⟩
  |next=>exact z8d hq'
  |brk=>exact z8d hq'
  |cont=>exact z8d hq'
theorem Ul(C:Ck D W Γ X k){x:Str}{c:Nat}{g:Fn}{p0:Pos}(hx:x∈Γ.G)(hg:Γ.gl x=.mk c false g)(hc:Γ.calm=true)(ha:EsOk X D W es fs):PE X (.Call (.Name x p0) es [] pos) (rdE D W (z07 c g fs)):=by
 have q:=C.glo x hx
 rw[hg] at q
 obtain⟨C0,fI,fd,ps,kk,ad,hm,M,hb,hkk,Fn,har⟩:=q
 have hr:=(C.rom hc).mono hkk
 have hs:=ha.stars
 have pa:=wM ha
 rintro pins s σ H Q I ⟨φ,α,τ,μ,sr,mr,p⟩
 refine z8t (vB I (C.glb x hx) hm ?_ (C.dbG x hx))
 cases es with
 |nil=>
  cases fs with
  |nil=>exact z9X I.kIn M.kp (K5 (ts:=[]) C ad M Fn hr hb har I .nil mr rfl p)
  |cons f fs=>exact ha.elim
 |cons e es=>
  simp only[z8B,z7x] at hs
  refine z9y (h₀:=X.base) I.ok.mod.kin M.kp (thn (UZ pa I sr mr p) ?_) (z4 hs.1) (zX hs.2)
  rintro us s1 ⟨vs,H1,ts,μ1,α1,I1,r1,st1,sr1,mr1,d1,_,p1⟩
  exact⟨I1.kIn,K5 C ad M Fn hr hb har I1 r1 mr1 d1 p1⟩
theorem u_{nm:Str}(hf:∀i,D.fn i≠some nm):∀{fs:List (Nat×T)} {gs:List (Str×V)},DenF D φ α H fs gs->gs.lookup nm=none
 |[],_,h=>by cases h;rfl
 |p::r,_,h=>by
  obtain⟨x,v,q,e,rfl,_,l⟩:=h
  rw[z8c]
  have:(nm == x)=false:=by
   apply beq_false_of_ne
   intro z
   exact hf p.1 (by rw[z];exact e)
  rw[this]
  exact u_ hf l
theorem XU {es : List Expr} {pos : Pos} {env : Env} (hs : es.all noStar = true) (hl : es.length < 30) : ((z9v pos (z8l es env)).all (fun x => !x.1) && (zaB pos (z9r [] env)).all (fun x => x.1.isSome)
      &&decide (es.length+([]:List z9U).length+(if ([]:List z9U).isEmpty then 0 else 1)<30))=true:=by
  have h1:=zX (env:=env) (pos:=pos) hs
  have h2:(z9v pos (z8l es env)).all (λx=>!x.1)=true:=by
    rw[z8j]
    intro x hx
    have:=zcG.mp h1 x hx
    simpa using this
  rw[h2]
  have h3:(zaB pos (z9r [] env)).all (λx=>x.1.isSome)=true:=rfl
  rw[h3]
  simpa using hl
theorem z0P (C : Ck D W Γ X k) {x m : Str} {c : Nat} {g : Fn} {o : Expr} {go : De} {apos : Pos} (hU : x ∈ Γ.U) (hg : Γ.gl x = .met c m g) (hc : Γ.calm = true) (hp : zR o = true) (hline : (apos.endLine == pos.line) = true) (hl : es.length < 30) (ho : PE X o (rdE D W go)) (ha : EsOk X D W es fs) :
    PE X (.Call (.Attribute o m apos) es [] pos) (rdE D W (zW c g go fs)) := by
  have q := (C.glU x hU).1
  rw [hg] at q
  obtain ⟨C0,fI,fd,ps,kk,ad,cl,M,hnf,hb,hkk,Fn,har⟩ := q
  have hr := (C.rom hc).mono hkk
  have hs := ha.stars
  have pa := wM ha
  rintro pins s σ H Q I ⟨φ,α,τ,μ,sr,mr,p⟩
  rw [arm_eval_Call,qA hp]
  refine z7w (thn (sub ho I sr mr p) ?_)
  rintro u s1 ⟨v,H1,t,μ1,α1,I1,r1,st1,sr1,mr1,d1,p1⟩
  refine z7w (z9B ?_)
  have hform : methodCallForm (es.length + ([] : List z9U).length) (z9v pos (z8l es X.env)) (zaB pos (z9r [] X.env)) = true := XU hs hl
  have hpos : zbi true o X.env apos pos = pure pos := by unfold zbi; simp [hline]
  have go : ∀ {ad0 dx : Addr} {gs : List (Str × V)} {t0 : T},H1 ad0 = some (.ins C0 dx gs) -> gs.lookup m = none -> u = .ref ad0 -> (∀ α2 H2,Stp α1 H1 α2 H2 -> Den D φ α2 H2 t0 (.ref ad0)) -> Post D W φ α1 H1 σ (RV D φ Q) ((evs fs τ μ1).bind fun ts μ2 => g (t0 :: ts) μ2) ->
      z7K (z7N X.prog X.w) X.A (zcC o m apos pos X.env u (es.length + ([] : List z9U).length) (z9v pos (z8l es X.env)) (zaB pos (z9r [] X.env))) (EP X pins σ Q) X.xe s1 := fun {ad0 dx gs t0} e1 lk hu hd p2 => by
    subst hu
    unfold zcC
    rw [hform]
    refine z7w (z8f (Jc I1 e1 cl M lk ?_))
    refine z7w (zc5 hpos ?_)
    have d0 := hd α1 H1 (Stp.refl _ _)
    cases es with
    | nil =>
      cases fs with
      | nil => exact z9X (first := [.ref ad0]) I1.kIn M.kp (yo (ts := [t0]) (us := [.ref ad0]) (vs := [.ref ad0]) C Fn hr hb har I1 (.cons rfl .nil) mr1 ⟨_,_,rfl,d0,rfl⟩ p2)
      | cons f fs => exact ha.elim
    | cons e es =>
      simp only [z8B,z7x] at hs
      refine z9y (first := [.ref ad0]) (h₀ := X.base) I1.ok.mod.kin M.kp (thn (UZ pa I1 sr1 mr1 p2) ?_) (z4 hs.1) (zX hs.2)
      rintro us s2 ⟨vs,H2,ts,μ2,α2,I2,r2,st2,sr2,mr2,d2,_,p3⟩
      exact ⟨I2.kIn,yo (ts := t0 :: ts) (us := .ref ad0 :: us) (vs := .ref ad0 :: vs) C Fn hr hb har I2 (.cons rfl r2) mr2 ⟨_,_,rfl,hd α2 H2 st2,d2⟩ p3⟩
  cases t with
  | obj c' gf =>
    obtain ⟨hcc,p2⟩ := Post.grd p1
    subst hcc
    obtain ⟨ad0,C1,dx,gs,rfl,n1,n2,ad1,e1,l⟩ := id d1
    rw [ad] at ad1; cases ad1
    exact go e1 (u_ hnf l) r1 (fun α2 H2 st => d1.step st) p2
  | «mut» i =>
    obtain ⟨gf,hi,p2⟩ := Post.ex1 p1
    obtain ⟨ad0,hi',rfl⟩ := id d1
    obtain ⟨C1,dx,gs,ad1,e1,l⟩ := mr1.ob i ad0 _ hi' hi
    rw [ad] at ad1; cases ad1
    exact go e1 (u_ hnf l) r1 (fun α2 H2 st => d1.step st) p2
  | _ => exact Post.elim p1
end
theorem uY{K:z7E}{A:Ads}{cls fld:List (Str×Nat)}{c:Nat}{C:Addr}(hc:chk K A cls fld=true)(h:A.cs.lookup c=some C):Cls K C:=by
 simp only[chk,z7x,z8j] at hc
 obtain⟨⟨⟨c1,c2⟩,c3⟩,c4⟩:=hc
 have h':=(c3 _ (qi h)).1
 simp only[UK,z7x] at h'
 obtain⟨⟨⟨⟨h1,h2⟩,h3⟩,h4⟩,h5⟩:=h'
 exact⟨h2,h3,h4,yO h5⟩
noncomputable def z2Y:ER:=λr Γ e=>match e with
 |.Call (.Name x _) es [] _=>gd ((idx Γ.N x).isNone&&Γ.calm) ((cEs r Γ es).bind λfs=>(match Γ.look x with
  |.mk c false g=>some (z07 c g fs)
  |_=>none))
 |_=>none
theorem z1B{D:DP}:EOk D z2Y:=by
 intro r H X W Γ k e d C h
 unfold z2Y at h
 split at h
 ·rename_i x p0 es pos
  have hh:=zq h
  clear h
  obtain⟨hb,h⟩:=hh
  simp only[z7x] at hb
  obtain⟨fs,h1,h⟩:=bnd h
  cases hl:Γ.look x with
  |mk c b g=>
   cases b with
   |false=>
    simp only[hl] at h
    cases h
    obtain⟨hx,hg⟩:=qR hl (by intro z;cases z)
    exact Ul C hx hg hb.2 (wJ H C h1)
   |true=>simp[hl] at h
  |_=>simp[hl] at h
 ·cases h
noncomputable def dot(m:Str):Str:=⟨#[46]++m.cps⟩
noncomputable def z4r:ER:=λr Γ e=>match e with
 |.Call (.Attribute o m pa) es [] pc=>gd (zR o&&pa.endLine == pc.line&&Γ.calm&&decide (es.length<30)&&Γ.U.contains (dot m)) ((r.e Γ o).bind λgo=>(cEs r Γ es).bind λfs=>(match Γ.gl (dot m) with
  |.met c nm g=>gd (nm == m) (some (zW c g go fs))
  |_=>none))
 |_=>none
theorem z1d{D:DP}:EOk D z4r:=by
 intro r H X W Γ k e d C h
 unfold z4r at h
 split at h
 ·rename_i o m pa es pc
  have hh:=zq h
  clear h
  obtain⟨hb,h⟩:=hh
  simp only[z7x] at hb
  obtain⟨⟨⟨⟨h0,h2⟩,h3⟩,h4⟩,h5⟩:=hb
  obtain⟨go,h1,h⟩:=bnd h
  obtain⟨fs,h6,h⟩:=bnd h
  cases hl:Γ.gl (dot m) with
  |met c nm g=>
   simp only[hl] at h
   obtain⟨h7,h8⟩:=zq h
   have h7:=beq_iff_eq.mp h7
   subst h7
   cases h8
   exact z0P C (by simpa using h5) hl h3 h0 h2 (of_decide_eq_true h4) (H.e C h1) (wJ H C h6)
  |_=>simp[hl] at h
 ·cases h
end NH
end
section
namespace NH
open PySem PySem.Spec PyProof.Rows L2
section
variable {X:Cx}{pins:List (Addr×Obj)}{s:Shared}{σ:St}{H:Hp}
theorem YC{b:Addr}(f:QD X pins H b):XOk X H b/\∀p∈pins,p.1≠b:=
 ⟨⟨f.1,f.2.1,f.2.2.1,f.2.2.2.1.imp id λh=>z9K h,f.2.2.2.2.1,λp hp=>f.2.2.2.2.2 p (z7S _ hp)⟩,λp hp=>f.2.2.2.2.2 p (z7J _ hp)⟩
end
end NH
end
section
namespace L2
open PySem PySem.Spec PyProof.Rows
section
variable {κ:Type}[DecidableEq κ]
noncomputable def jo(kvs:List (κ×V))(k:κ):Option V:=(kvs.find? λkv=>decide (kv.1=k)).map (·.2)
noncomputable def putK(kvs:List (κ×V))(k:κ)(v:V):List (κ×V):=
 if (kvs.any λkv=>decide (kv.1=k))=true then kvs.map (λkv=>if kv.1=k then (kv.1,v) else kv) else kvs++[(k,v)]
theorem vm{p:κ×V}{r:List (κ×V)}{k:κ}(e:p.1=k):jo (p::r) k=some p.2:=by simp[jo,z9A,e]
theorem wR{p:κ×V}{r:List (κ×V)}{k:κ}(e:¬p.1=k):jo (p::r) k=jo r k:=by simp[jo,z9A,e]
theorem Wy(k:κ):∀kvs:List (κ×V),(kvs.any λkv=>decide (kv.1=k))=(jo kvs k).isSome
 |[]=>rfl
 |p::r=>by
  rw[z91]
  by_cases e:p.1=k
  ·simp only[vm e,decide_eq_true e,Bool.true_or,Option.isSome_some]
  ·rw[wR e,decide_eq_false e,Bool.false_or];exact Wy k r
theorem y3(kvs:List (κ×V))(k:κ)(v:V):(putK kvs k v).length<=kvs.length+1:=by
 unfold putK
 split
 ·rw[z7B];omega
 ·rw[z8b,z7X,z8S];omega
theorem RelO.isSome_eq{o:Option V}{u:Option Value}(r:RelO o u):o.isSome=u.isSome:=by
 cases o with
 |none=>cases u with
  |none=>rfl
  |some _=>exact (show False from r).elim
 |some _=>cases u with
  |none=>exact (show False from r).elim
  |some _=>rfl
theorem RelO.getD{o:Option V}{u:Option Value}{d:V}{d':Value}(r:RelO o u)(rd:RelV d d'):RelV (o.getD d) (u.getD d'):=by
 cases o with
 |none=>cases u with
  |none=>exact rd
  |some _=>exact (show False from r).elim
 |some _=>cases u with
  |none=>exact (show False from r).elim
  |some _=>exact r
theorem KV.val{kvs:List (κ×V)}{vs:List (κ×Value)}(r:KV kvs vs)(k:κ):RelO (jo kvs k) (zcc vs k):=by
 unfold KV at r
 induction r with
 |nil=>exact z8I
 | @cons p q ps qs h t ih=>
  obtain⟨h1,h2⟩:=h
  by_cases e:p.1=k
  ·have e':q.1=k:=h1.symm.trans e
   have b:zcc (q::qs) k=some q.2:=by simp[zcc,z9A,e']
   rw[vm e,b];exact h2
  ·have e':¬q.1=k:=λz=>e (h1.trans z)
   have b:zcc (q::qs) k=zcc qs k:=by simp[zcc,z9A,e']
   rw[wR e,b];exact ih
theorem KV.any{kvs:List (κ×V)}{vs:List (κ×Value)}(r:KV kvs vs)(k:κ):(kvs.any λkv=>decide (kv.1=k))=vs.any λkv=>decide (kv.1=k):=by
 unfold KV at r
 induction r with
 |nil=>rfl
 |cons h t ih=>rw[z91,z91,ih,h.1]
theorem KV.repl{kvs:List (κ×V)}{vs:List (κ×Value)}(r:KV kvs vs)(k:κ){y:V}{u:Value}(ry:RelV y u) :
  KV (kvs.map λkv=>if kv.1=k then (kv.1,y) else kv) (vs.map λkv=>if kv.1=k then (kv.1,u) else kv):=by
 unfold KV at r ⊢
 induction r with
 |nil=>exact .nil
 | @cons p q ps qs h t ih=>
  rw[z82,z82]
  refine .cons ?_ ih
  obtain⟨h1,h2⟩:=h
  by_cases e:p.1=k
  ·rw[if_pos e,if_pos (h1.symm.trans e)];exact⟨h1,ry⟩
  ·rw[if_neg e,if_neg (λz=>e (h1.trans z))];exact⟨h1,h2⟩
theorem KV.put{kvs:List (κ×V)}{vs:List (κ×Value)}(r:KV kvs vs)(k:κ){y:V}{u:Value}(ry:RelV y u):KV (putK kvs k y) (stored vs k u):=by
 unfold putK stored
 rw[r.any k]
 by_cases e:(vs.any λkv=>decide (kv.1=k))=true
 ·rw[if_pos e,if_pos e];exact r.repl k ry
 ·rw[if_neg e,if_neg e];exact zeH r ⟨rfl,ry⟩
theorem KV.length{kvs:List (κ×V)}{vs:List (κ×Value)}(r:KV kvs vs):kvs.length=vs.length:=zci r
end
theorem ZS{P:z8e}{w:z8s}{k:Key}{u:Value}(r:RelV (kV k) u):(zT P w).is k u=true:=by
 cases k with
 |inl i=>obtain⟨t,e⟩:=(show ∃t,u=zbk i t from r);subst e;exact Vm P w i t
 |inr x=>obtain⟨t,e⟩:=(show ∃t,u=zd2 x t from r);subst e;exact Wm P w x t
theorem ZL{P:z8e}{w:z8s}:∀{ks:List Key} {us:List Value},Vals (ks.map kV) us->ItemsAre (zT P w) ks us
 |[],_,r=>by rw[zcR] at r;cases r;exact .nil
 |k::ks,_,r=>by
  rw[z82] at r
  cases r with
  |cons h t=>exact .cons (ZS h) (ZL t)
abbrev KT(H:Hp):List (List Key×V)->List (List Key×Addr×Value)->Prop:=zbC λp q=>p.1=q.1/\H q.2.1=some (.tup (p.1.map kV))/\RelV p.2 q.2.2
theorem KT.val{H:Hp}{kvs:List (List Key×V)}{xs:List (List Key×Addr×Value)}(r:KT H kvs xs)(k:List Key):RelO (jo kvs k) ((zde xs k).map (·.2)):=by
 induction r with
 |nil=>exact z8I
 | @cons p q ps qs h t ih=>
  obtain⟨h1,_,h2⟩:=h
  by_cases e:p.1=k
  ·have e':q.1=k:=h1.symm.trans e
   have b:zde (q::qs) k=some q.2:=by simp[zde,z9A,e']
   rw[vm e,b];exact h2
  ·have e':¬q.1=k:=λz=>e (h1.trans z)
   have b:zde (q::qs) k=zde qs k:=by simp[zde,z9A,e']
   rw[wR e,b];exact ih
theorem KT.repl{H:Hp}{kvs:List (List Key×V)}{xs:List (List Key×Addr×Value)}(r:KT H kvs xs)(k:List Key){y:V}{u:Value}(ry:RelV y u) :
  KT H (kvs.map λkv=>if kv.1=k then (kv.1,y) else kv) (xs.map (putAt k u)):=by
 induction r with
 |nil=>exact .nil
 | @cons p q ps qs h t ih=>
  rw[z82,z82]
  refine .cons ?_ ih
  obtain⟨h1,h2,h3⟩:=h
  unfold putAt
  by_cases e:p.1=k
  ·rw[if_pos e,if_pos (h1.symm.trans e)];exact⟨h1,h2,ry⟩
  ·rw[if_neg e,if_neg (λz=>e (h1.trans z))];exact⟨h1,h2,h3⟩
theorem KT.put{H:Hp}{kvs:List (List Key×V)}{xs:List (List Key×Addr×Value)}(r:KT H kvs xs)(k:List Key){b:Addr}{y:V}{u:Value}(hb:H b=some (.tup (k.map kV)))(ry:RelV y u) :
  KT H (putK kvs k y) (storedH xs k b u):=by
 have e:(kvs.any λkv=>decide (kv.1=k))=(zde xs k).isSome:=by
  rw[Wy,(r.val k).isSome_eq,zb8]
 unfold putK storedH
 rw[e]
 by_cases q:(zde xs k).isSome=true
 ·rw[if_pos q,if_pos q];exact r.repl k ry
 ·rw[if_neg q,if_neg q];exact zeH r ⟨rfl,hb,ry⟩
theorem KT.keeps{H H':Hp}{kvs:List (List Key×V)}{xs:List (List Key×Addr×Value)}(r:KT H kvs xs)(ht:∀b ys,H b=some (.tup ys)->H' b=some (.tup ys)):KT H' kvs xs:=
 zbC.mapP r λ_ _ z=>⟨z.1,ht _ _ z.2.1,z.2.2⟩
section
variable {P:Program}{w:World}{H:Hp}{h:Heap}{a:Addr}
theorem z2i{u:HO}(ok:HOk P w H h)(e:Rd H a u):ObjOk P w H h a u:=e.ok ok
theorem uE{kvs:List (Key×V)}(ok:HOk P w H h)(e:Rd H a (.dK kvs)):kvs.length<=sizeLine/\(a == z9u)=false/\∃vs,KV kvs vs/\h.DictOf (zT P w) a vs:=
 show ObjOk P w H h a (.dK kvs) from z2i ok e
theorem z5Y{kvs:List (Key×V)}(ok:HOk P w H h)(e:H a=some (.dK kvs)):kvs.length<=sizeLine/\(a == z9u)=false/\∃vs,KV kvs vs/\h.DictOf (zT P w) a vs:=uE ok (.inl e)
theorem xT{ks:List Key}(ok:HOk P w H h)(e:H a=some (.tup (ks.map kV))):(zbl (zT P w)).is h ks a:=by
 obtain⟨_,its,r,o,h1,h2,n,h3⟩:=(show ObjOk P w H h a (.tup (ks.map kV)) from ok a _ e)
 exact⟨o,its.toArray,n,h1,h2,h3,by simpa using ZL r⟩
theorem uT{kvs:List (List Key×V)}(ok:HOk P w H h)(e:Rd H a (.dT kvs)):kvs.length<=sizeLine/\(a == z9u)=false/\
  ∃xs,KT H kvs xs/\h.DictOfH (zbl (zT P w)) a xs:=by
 obtain⟨z,y,xs,r,o,es,ep,h1,h2,h3,h4,h5⟩:=(show ObjOk P w H h a (.dT kvs) from z2i ok e)
 refine⟨z,y,xs,r,o,es,ep,h1,h2,h3,h4,λx hx=>?_,h5⟩
 have all:∀{l:List (List Key×V)} {m:List (List Key×Addr×Value)},KT H l m->∀x∈m,(zbl (zT P w)).is h x.1 x.2.1:=by
  intro l m q
  induction q with
  |nil=>intro x hx;exact nomatch hx
  | @cons p q ps qs hq t ih=>
   intro x hx
   rcases z88.mp hx with e|hx
   ·subst e
    exact xT ok (by rw[←hq.1];exact hq.2.1)
   ·exact ih x hx
 exact all r x hx
theorem z6w{kvs:List (List Key×V)}(ok:HOk P w H h)(e:H a=some (.dT kvs)):kvs.length<=sizeLine/\(a == z9u)=false/\
  ∃xs,KT H kvs xs/\h.DictOfH (zbl (zT P w)) a xs:=uT ok (.inl e)
end
noncomputable def DGet (H:Hp)(a:Addr)(y:V)(r:Option V):Prop:=
 (∃kvs k,Rd H a (.dK kvs)/\y=kV k/\r=jo kvs k)\/∃kvs k b,Rd H a (.dT kvs)/\y=.ref b/\H b=some (.tup (k.map kV))/\r=jo kvs k
noncomputable def DPut (H:Hp)(a:Addr)(y v:V)(H':Hp):Prop:=
 (∃kvs k,H a=some (.dK kvs)/\y=kV k/\kvs.length<sizeLine/\H'=upd H a (.dK (putK kvs k v)))\/
 ∃kvs k b,H a=some (.dT kvs)/\y=.ref b/\H b=some (.tup (k.map kV))/\kvs.length<sizeLine/\H'=upd H a (.dT (putK kvs k v))
theorem DGet.k{H:Hp}{a:Addr}{kvs:List (Key×V)}{k:Key}(e:H a=some (.dK kvs)):DGet H a (kV k) (jo kvs k):=.inl ⟨kvs,k,.inl e,rfl,rfl⟩
theorem DPut.k{H:Hp}{a:Addr}{kvs:List (Key×V)}{k:Key}{v:V}(e:H a=some (.dK kvs))(hl:kvs.length<sizeLine):DPut H a (kV k) v (upd H a (.dK (putK kvs k v))):=.inl ⟨kvs,k,e,rfl,hl,rfl⟩
section
variable {X:Cx}{pins:List (Addr×Obj)}{σ:St}{H:Hp}{s:Shared}{a:Addr}{y v:V}{u r:Value}{o:Option V}{A:Around}{E:Value->Shared->Prop}
theorem Inv.big(I:Inv X pins σ H s):z9u<s.heap.objs.size:=by
 have h:z7U<s.heap.objs.size:=(I.mod.glob.keeps I.bk).lt
 exact Nat.lt_trans (by decide) h
theorem X0{Q:Value->z7y->Prop}(hu:A.units+1<cLine)(I:Inv X pins σ H s)(g:DGet H a y (some v))(ry:RelV y u)(h:∀w' s',Inv X pins σ H s'->RelV v w'->Q w' s') :
  z7K (z7N X.prog X.w) A (zaA (.ref a) u) Q E s:=by
 rcases g with⟨kvs,k,e,ey,l⟩|⟨kvs,k,b,e,ey,eb,l⟩
 ·subst ey
  obtain⟨z,hd,vs,rel,dd⟩:=uE I.hok e
  obtain⟨w',hw,rw'⟩:=RelO.some_of (v:=v) (o:=zcc vs k) (by rw[l];exact rel.val k)
  exact wpAny_getItem_of (ZS ry) dd.mapOf hw (h w' _ (I.tok _) rw')
 ·subst ey
  cases (show u=z80 b from ry)
  obtain⟨z,hd,xs,rel,dd⟩:=uT I.hok e
  obtain⟨w',hw,rw'⟩:=RelO.some_of (v:=v) (o:=(zde xs k).map (·.2)) (by rw[l];exact rel.val k)
  obtain⟨p,hp,hp2⟩:=z8Z.mp hw
  refine wpAny_getItem_heap (z9z hu) (xT I.hok eb) dd hp ?_
  rw[hp2]
  exact h w' _ (I.tok _) rw'
theorem z7r{Q:Value->z7y->Prop}(hu:A.units+1<cLine)(I:Inv X pins σ H s)(g:DGet H a y o)(ry:RelV y u)(h:∀s',Inv X pins σ H s'->Q (.bool o.isSome) s') :
  z7K (z7N X.prog X.w) A (z8h .In u (.ref a)) Q E s:=by
 rcases g with⟨kvs,k,e,ey,l⟩|⟨kvs,k,b,e,ey,eb,l⟩
 ·subst ey
  obtain⟨z,hd,vs,rel,dd⟩:=uE I.hok e
  refine wpAny_in_of (ZS ry) hd dd.mapOf ?_
  rw[←(rel.val k).isSome_eq,←l]
  exact h _ (I.tok _)
 ·subst ey
  cases (show u=z80 b from ry)
  obtain⟨z,hd,xs,rel,dd⟩:=uT I.hok e
  refine wpAny_in_heap (z9z hu) (xT I.hok eb) hd dd ?_
  have q:=(rel.val k).isSome_eq
  rw[zb8] at q
  rw[←q,←l]
  exact h _ (I.tok _)
theorem z22{Q:Value->z7y->Prop}(hu:A.units+1<cLine)(I:Inv X pins σ H s)(g:DGet H a y o)(ry:RelV y u)(h:∀s',Inv X pins σ H s'->Q (.bool (!o.isSome)) s') :
  z7K (z7N X.prog X.w) A (z8h .NotIn u (.ref a)) Q E s:=by
 rcases g with⟨kvs,k,e,ey,l⟩|⟨kvs,k,b,e,ey,eb,l⟩
 ·subst ey
  obtain⟨z,hd,vs,rel,dd⟩:=uE I.hok e
  refine wpAny_notIn_of (ZS ry) hd dd.mapOf ?_
  rw[←(rel.val k).isSome_eq,←l]
  exact h _ (I.tok _)
 ·subst ey
  cases (show u=z80 b from ry)
  obtain⟨z,hd,xs,rel,dd⟩:=uT I.hok e
  refine wpAny_notIn_heap (z9z hu) (xT I.hok eb) hd dd ?_
  have q:=(rel.val k).isSome_eq
  rw[zb8] at q
  rw[←q,←l]
  exact h _ (I.tok _)
theorem Kb{h':Heap}{t':Nat}{ob:HO}(I:Inv X pins σ H s)(mu:Mut (H a))(hs:z8p a s.heap h')(he:∃q,h'.get? a=some q)(new:ObjOk X.prog X.w (upd H a ob) h' a ob) :
  Inv X pins σ (upd H a ob) {s with heap:=h',toks:=t'}:=
 I.write (x:=a) (e:=a) mu (.inl rfl) (λb q hb z=>(hs.2 b hb).trans z) he new
theorem z2A{P:z8e}{w:z8s}{H':Hp}{h':Heap}{kvs:List (Key×V)}{vs:List (Key×Value)}(z:kvs.length<=sizeLine)(hd:(a == z9u)=false)(rel:KV kvs vs)(dd:h'.DictOf (zT P w) a vs) :
  ObjOk P w H' h' a (.dK kvs):=⟨z,hd,vs,rel,dd⟩
theorem KL{H':Hp}{Q:Unit->z7y->Prop}(hu:A.units+1<cLine)(I:Inv X pins σ H s)(g:DPut H a y v H')(ry:RelV y u)(rv:RelV v r)(h:∀s',Inv X pins σ H' s'->Q () s') :
  z7K (z7N X.prog X.w) A (setItem (.ref a) u r) Q E s:=by
 rcases g with⟨kvs,k,e,ey,l,eH⟩|⟨kvs,k,b,e,ey,eb,l,eH⟩
 ·subst ey eH
  obtain⟨z,hd,vs,rel,dd⟩:=z5Y I.hok e
  have hz:vs.length<=sizeLine:=by rw[←rel.length];exact z
  have hl:(putK kvs k v).length<=sizeLine:=by have:=y3 kvs k v;omega
  refine wpAny_setItem_pairs (hsz:=hz) (ZS ry) dd λh' dd' hs=>h _ ?_
  have he:∃q,h'.get? a=some q:=let ⟨q,_,_,hq,_⟩:=dd';⟨q,hq⟩
  exact Kb I (by rw[e];exact z8I) hs he (z2A hl hd (rel.put k rv) dd')
 ·subst ey eH
  cases (show u=z80 b from ry)
  obtain⟨z,hd,xs,rel,dd⟩:=z6w I.hok e
  have hz:xs.length<=sizeLine:=by rw[←zci rel];exact z
  have hl:(putK kvs k v).length<=sizeLine:=by have:=y3 kvs k v;omega
  refine wpAny_setItem_heap (hsz:=hz) (z9z hu) (xT I.hok eb) dd λh' dd' hs=>h _ ?_
  obtain⟨q,es,ep,hq,h2,h3,h4,_,h5⟩:=dd'
  refine Kb I (by rw[e];exact z8I) hs ⟨q,hq⟩ ⟨hl,hd,_,(rel.put k eb rv).keeps λc ys ec=>?_,q,es,ep,hq,h2,h3,h4,h5⟩
  rw[z8 (z6a ec e (λz=>nomatch z))]
  exact ec
end
noncomputable def z1W(i:Expr):Prop:=∀ov iv,zc1 i false ov iv=operate [ov,iv] (zaA ov iv)
theorem z0o{prog:z8e}{w:z8s}{A:z89}{E:Value->z7y->Prop}{s:z7y}{env:Env}{value slice:Expr}{pos:Pos}{T id:String}{Q:Value->z7y->Prop}
  (hl:zdy (.type T) "__getitem__"=pure (some (.builtin id))) (hs:z1W slice)
  (h:z7K (z7N prog w) A (eval value env) (λo s₁=>z7K (z7N prog w) A (eval slice env) (λi s₂=>s₂.TypeIs o T/\z7K (z7N prog w) A (zaA o i) Q E s₂) E s₁) E s) :
  z7K (z7N prog w) A (eval (.Subscript value slice pos) env) Q E s:=by
 refine zcu (z8i h (λo s₁ h₁=>z8i h₁ (λi s₂ h₂=>?_) λ_ _ x=>x) λ_ _ x=>x)
 obtain⟨hT,h₂⟩:=h₂
 unfold zbd
 refine z7w ?_
 rw[getitemInPython_of_ne hT.not_modules]
 refine z7w (wpAny_specialOf hT hl ?_)
 have fin:z7K (z7N prog w) A (zc1 slice false o i) (λr s₃=>z7K (z7N prog w) A (letTemporaryGo value o r >>= λ_=>pure r) Q E s₃) E s₂:=by
  rw[hs o i]
  exact wpAny_operating (z8i h₂ (λr s₃ h₃=>z7w (wpAny_letTemporaryGo (z7G h₃))) λ_ _ x=>x)
 first
  |exact z7G (z7w fin)
  |exact z7w (z7G (z7w fin))
  |exact z7w fin
theorem WD{X:Cx}{pins:List (Addr×Obj)}{σ:St}{H:Hp}{s:z7y}{a:Addr}{y:V}{o:Option V}(I:Inv X pins σ H s)(g:DGet H a y o):s.TypeIs (.ref a) "dict":=by
 rcases g with⟨kvs,k,e,_,_⟩|⟨kvs,k,b,e,_,_,_⟩
 ·obtain⟨_,_,vs,_,dd⟩:=uE I.hok e
  exact dd.typeIs
 ·obtain⟨_,_,xs,_,dd⟩:=uT I.hok e
  exact dd.typeIs
noncomputable def z5A(td ty:TE):TE:=λσ H Q=>td σ H λx H1=>ty σ H1 λy H2=>∃a v,x=.ref a/\DGet H2 a y (some v)/\Q v H2
section
variable {X:Cx}{o i e value:Expr}{pos pos' tpos:Pos}{td ty tv:TE}
theorem z0D(hu:X.A.units+1<cLine)(ho:PE X o td)(hi:PE X i ty)(hs:z1W i):PE X (.Subscript o i pos) (z5A td ty):=by
 intro pins s σ H Q I h
 refine z0o PySem.F.slot_dict_getitem.lookup hs (thn (ho pins s σ H _ I h) λu s1 ⟨x,H1,I1,rx,q1⟩=>thn (hi pins s1 σ H1 _ I1 q1) λiv s2 ⟨y,H2,I2,ry,a,v,ex,g,q2⟩=>?_)
 subst ex
 obtain rfl:u=z80 a:=rx
 exact⟨WD I2 g,X0 hu I2 g ry λw' s3 I3 rw'=>⟨v,H2,I3,rw',q2⟩⟩
end
theorem Uc{P:z8e}{w:z8s}{H:Hp}(h:Heap)(hb:z9u<h.objs.size):ObjOk P w H (h.push {cls:=.type "dict",data:=.dict #[]}) h.objs.size (.dK []):=
 ⟨z98 _,beq_eq_false_iff_ne.mpr (z9m (z85 hb)),[],.nil,zeX h⟩
noncomputable def z3a:TE:=λ_ H Q=>∀p,H p=none->Q (.ref p) (upd H p (.dK []))
section
variable {X:Cx}{pos:Pos}
theorem YD:PE X (.Dict [] [] pos) z3a:=λpins s σ H Q I h=>
 wpAny_Dict_empty ⟨.ref s.heap.objs.size,_,I.laid (a:=s.heap.objs.size) (o:=.dK []) (t':=s.toks) (λ_ _ q=>z7z _ q) (z7D _) (Uc s.heap I.big),rfl,h _ (I.hok.fresh (z7D _))⟩
end
structure M1(X:Cx)(o:Expr)(m:Str)(apos:Pos)(e:Expr)(cpos:Pos):Prop where
 base:z9C o m X.env (eval o X.env)=eval o X.env
 few:((z9v cpos (z8l [e] X.env)).all (λx=>!x.1)&&(zaB cpos (z9r [] X.env)).all (λx=>x.1.isSome)
  &&decide (([e]:List Expr).length+([]:List z9U).length+(if ([]:List z9U).isEmpty then 0 else 1)<30))=true
 line:(apos.endLine == cpos.line)=true
 trees:z9v cpos (z8l [e] X.env)=[(false,eval e X.env)]
structure M2(X:Cx)(o:Expr)(m:Str)(apos:Pos)(e f:Expr)(cpos:Pos):Prop where
 base:z9C o m X.env (eval o X.env)=eval o X.env
 few:((z9v cpos (z8l [e,f] X.env)).all (λx=>!x.1)&&(zaB cpos (z9r [] X.env)).all (λx=>x.1.isSome)
  &&decide (([e,f]:List Expr).length+([]:List z9U).length+(if ([]:List z9U).isEmpty then 0 else 1)<30))=true
 line:(apos.endLine == cpos.line)=true
 trees:z9v cpos (z8l [e,f] X.env)=[(false,eval e X.env),(false,eval f X.env)]
noncomputable def IsD (H:Hp)(a:Addr):Prop:=(∃kvs,Rd H a (.dK kvs))\/∃kvs,Rd H a (.dT kvs)
theorem z44{X:Cx}{pins:List (Addr×Obj)}{σ:St}{H:Hp}{s:z7y}{a:Addr}(I:Inv X pins σ H s)(d:IsD H a) :
  s.TypeIs (.ref a) "dict"/\(∀b,z80 a=.ref b->∃ob,s.heap.get? b=some ob/\ob.dict=none)/\(a == z9u)=false:=by
 rcases d with⟨kvs,e⟩|⟨kvs,e⟩
 ·obtain⟨_,hd,vs,_,dd⟩:=uE I.hok e
  refine⟨dd.typeIs,λb q=>?_,hd⟩
  cases q
  obtain⟨ob,_,_,h1,h2,_⟩:=dd
  exact⟨ob,h1,h2.2.1⟩
 ·obtain⟨_,hd,xs,_,dd⟩:=uT I.hok e
  refine⟨dd.typeIs,λb q=>?_,hd⟩
  cases q
  obtain⟨ob,_,_,h1,h2,_⟩:=dd
  exact⟨ob,h1,h2.2.1⟩
section
variable {X:Cx}{pins:List (Addr×Obj)}{σ:St}{H:Hp}{s:Shared}{a:Addr}{y d:V}{u r:Value}{o:Option V}{A:Around}{E:Value->Shared->Prop}
theorem z4d{Q:Value->z7y->Prop}(hu:A.units+1<cLine)(I:Inv X pins σ H s)(g:DGet H a y o)(ry:RelV y u)(h:∀w' s',Inv X pins σ H s'->RelV (o.getD .non) w'->Q w' s') :
  z7K (z7N X.prog X.w) A (call (.builtin "dict.get") [.ref a,u]) Q E s:=by
 rcases g with⟨kvs,k,e,ey,l⟩|⟨kvs,k,b,e,ey,eb,l⟩
 ·subst ey
  obtain⟨z,hd,vs,rel,dd⟩:=uE I.hok e
  refine call_meetsIn zau dd.typeIs zbM (zbx _ _) (meets_dict_get (zT X.prog X.w) a (ZS ry) hd) ⟨_,dd.mapOf,h _ _ (I.tok _) ?_⟩
  rw[l]
  exact (rel.val k).getD rfl
 ·subst ey
  cases (show u=z80 b from ry)
  obtain⟨z,hd,xs,rel,dd⟩:=uT I.hok e
  refine call_meetsIn zau dd.typeIs zbM (zbx _ _) (meetsH_dict_get (zbl (zT X.prog X.w)) a b hd) ⟨z9z hu,k,xs,xT I.hok eb,dd,h _ _ (I.tok _) ?_⟩
  rw[l]
  exact (rel.val k).getD rfl
end
noncomputable def z4Z(td ty:TE):TE:=λσ H Q=>td σ H λx H1=>∃a,x=.ref a/\IsD H1 a/\ty σ H1 λy H2=>∃o,DGet H2 a y o/\Q (o.getD .non) H2
section
variable {X:Cx}{o e f:Expr}{apos cpos:Pos}{td ty tx:TE}
theorem UA (hu:X.A.units+1<cLine) (ho:PE X o td) (he:PE X e ty) (m:M1 X o "get" apos e cpos):PE X (.Call (.Attribute o "get" apos) [e] [] cpos) (z4Z td ty):=by
 intro pins s σ H Q I h
 refine wpAny_Call_method m.base m.few m.line PySem.F.plainAttrs_dict zau PySem.F.type_dict_get (thn (ho pins s σ H _ I h) λu s1 ⟨x,H1,I1,rx,a,ex,d,q1⟩=>?_)
 subst ex
 obtain rfl:u=z80 a:=rx
 obtain⟨t1,t2,_⟩:=z44 I1 d
 refine⟨t1,t2,?_⟩
 rw[m.trees]
 refine zbJ rfl (zaC (zcq (thn (he pins s1 σ H1 _ I1 q1) λiv s2 ⟨y,H2,I2,ry,ov,g,q2⟩=>zcK ?_)))
 exact z4d hu I2 g ry λw' s3 I3 rw'=>⟨_,H2,I3,rw',q2⟩
end
end L2
end
section
namespace NH
open PySem PySem.Spec PyProof.Rows L2
noncomputable def zb(z:Key):List (Key×T)->Option T
 |[]=>none
 |p::r=>if p.1=z then some p.2 else zb z r
noncomputable def vt (z:Key)(t:T)(kvs:List (Key×T)):List (Key×T):=
 if (kvs.any λkv=>decide (kv.1=z))=true then kvs.map (λkv=>if kv.1=z then (kv.1,t) else kv) else kvs++[(z,t)]
noncomputable abbrev uW:De:=λ_ μ=>.ok (.mut μ.length) (μ++[.dic []])
noncomputable abbrev z5X:De:=λ_ μ=>.ok (.dic []) μ
noncomputable abbrev WX(o f:De):De:=λτ μ=>(o τ μ).bind λot μ1=>match ot with
 |.mut i=>λK Z=>(∃kvs,μ1[i]?=some (.dic kvs))/\f τ μ1 (λkt μ2=>match kt with
  |.str z=>∃kvs,μ2[i]?=some (.dic kvs)/\K ((zb (.inr z) kvs).getD .non) μ2
  |_=>False) Z
 |_=>.st
noncomputable abbrev z4W(o f g:De):De:=λτ μ=>(o τ μ).bind λot μ1=>match ot with
 |.mut i=>λK Z=>(∃ts,μ1[i]?=some (.lst ts))/\f τ μ1 (λkt μ2=>g τ μ2 (λt μ3=>match kt with
  |.int k=>∃ts,μ3[i]?=some (.lst ts)/\(0<=k/\k<=ts.length/\ts.length<room)/\K .non (μ3.set i (.lst (ts.take k.toNat++t::ts.drop k.toNat)))
  |_=>False) Z) Z
 |_=>.st
section
variable {X:Cx}{D:DP}{W:XW}{Γ:Cn}{k:Nat}{pins:List (Addr×Obj)}{s:Shared}{σ:St}{H:Hp}{φ α:List Addr}{τ:Sl}{μ:Mem}{f g:De}{a b:Expr}{pos:Pos}
theorem ZX{z:Key}:∀{kvs:List (Key×T)} {gs:List (Key×V)},DenK D φ α H kvs gs->Den D φ α H ((zb z kvs).getD .non) ((jo gs z).getD .non)
 |[],_,h=>by cases h;rfl
 |p::r,_,h=>by
  obtain⟨v,q,rfl,d,l⟩:=h
  unfold zb
  by_cases e:p.1=z
  ·rw[if_pos e,vm (p:=(p.1,v)) e];exact d
  ·rw[if_neg e,wR (p:=(p.1,v)) e];exact ZX l
theorem Ws{z:Key}:∀{kvs:List (Key×T)} {gs:List (Key×V)},DenK D φ α H kvs gs->(gs.any λkv=>decide (kv.1=z))=(kvs.any λkv=>decide (kv.1=z))
 |[],_,h=>by cases h;rfl
 |p::r,_,h=>by
  obtain⟨v,q,rfl,d,l⟩:=h
  rw[z91,z91,Ws l]
theorem yI:∀{kvs:List (Key×T)} {gs:List (Key×V)},DenK D φ α H kvs gs->gs.length=kvs.length
 |[],_,h=>by cases h;rfl
 |p::r,_,h=>by
  obtain⟨v,q,rfl,d,l⟩:=h
  rw[z7X,z7X,yI l]
theorem um{z:Key}{t:T}{w:V}(dt:Den D φ α H t w):∀{kvs:List (Key×T)} {gs:List (Key×V)},DenK D φ α H kvs gs->DenK D φ α H (kvs.map λkv=>if kv.1=z then (kv.1,t) else kv) (gs.map λkv=>if kv.1=z then (kv.1,w) else kv)
 |[],_,h=>by cases h;rfl
 |p::r,_,h=>by
  obtain⟨v,q,rfl,d,l⟩:=h
  rw[z82,z82]
  by_cases e:p.1=z
  ·rw[if_pos e,if_pos (show (p.1,v).1=z from e)];exact⟨w,_,rfl,dt,um dt l⟩
  ·rw[if_neg e,if_neg (show ¬(p.1,v).1=z from e)];exact⟨v,_,rfl,d,um dt l⟩
theorem ZI{z:Key}{t:T}{w:V}(dt:Den D φ α H t w):∀{kvs:List (Key×T)} {gs:List (Key×V)},DenK D φ α H kvs gs->DenK D φ α H (kvs++[(z,t)]) (gs++[(z,w)])
 |[],_,h=>by cases h;exact⟨w,[],rfl,dt,rfl⟩
 |p::r,_,h=>by
  obtain⟨v,q,rfl,d,l⟩:=h
  exact⟨v,_,rfl,d,ZI dt l⟩
theorem Vb{z:Key}{t:T}{w:V}{kvs:List (Key×T)}{gs:List (Key×V)}(dt:Den D φ α H t w)(h:DenK D φ α H kvs gs):DenK D φ α H (vt z t kvs) (putK gs z w):=by
 unfold vt putK
 rw[Ws h]
 split
 ·exact um dt h
 ·exact ZI dt h
theorem z16:PE X (.Dict [] [] pos) (rdE D W uW):=by
 refine PE.mono YD ?_
 rintro σ H Q ⟨φ,α,τ,μ,sr,mr,p⟩
 intro x hx
 refine Post.ok p (jg hx) (mr.layO hx ⟨[],z7,rfl⟩) _ ⟨x,?_,rfl⟩
 rw[←mr.len,z7L (z7D _)];simp
theorem z0n (C : Ck D W Γ X k) {o : Expr} {pa pc : Pos} {go : De} (hp : zR o = true) (hs : noStar a = true) (hline : (pa.endLine == pc.line) = true) (ho : PE X o (rdE D W go)) (ha : PE X a (rdE D W f)) :
    PE X (.Call (.Attribute o "get" pa) [a] [] pc) (rdE D W (WX go f)) := by
  have hb : z8l [a] X.env = [(false,eval a X.env)] := z4 hs
  refine PE.mono (UA (by have := C.unt; omega) ho ha ⟨qA hp,by rw [hb]; rfl,hline,by rw [hb]; rfl⟩) ?_
  rintro σ H Q ⟨φ,α,τ,μ,sr,mr,p⟩
  refine ⟨φ,α,τ,μ,sr,mr,p.bind.mono fun ot μ1 α1 H1 st1 m1 q ov dv => ?_⟩
  cases ot with
  | «mut» i =>
    obtain ⟨K,Z,⟨⟨kvs0,h0⟩,hf⟩,hk,hz⟩ := q
    obtain ⟨x,hx,rfl⟩ := dv
    obtain ⟨gs0,hH0,l0⟩ := m1.ob _ x _ hx h0
    refine ⟨x,rfl,.inl ⟨_,.inl hH0⟩,φ,α1,τ,μ1,sr.step st1,m1,_,Z,hf,?_,hz⟩
    intro kt μ2 hkt α2 H2 st2 m2 v d
    cases kt with
    | str z =>
      obtain ⟨kvs,h2,q2⟩ := hkt
      obtain ⟨β,e2,_⟩ := st2.ext
      have hx2 : α2[i]? = some x := by
        rw [e2,z7F (z7v.mp hx).1]; exact hx
      obtain ⟨gs,hH,l⟩ := m2.ob i x _ hx2 h2
      have d : v = .str z := d
      subst d
      exact ⟨_,DGet.k (k := .inr z) hH,hk _ _ q2 α2 H2 st2 m2 _ (ZX l)⟩
    | _ => exact hkt.elim
  | _ => exact Post.elim q
theorem XD:MtR X "list.insert" (λx vs H Q=>∃l xs kk y,x=.ref l/\vs=[.int kk,y]/\H l=some (.lst xs)/\0<=kk/\kk<=xs.length/\xs.length<room/\Q .non (upd H l (.lst (xs.take kk.toNat++y::xs.drop kk.toNat)))):=by
 intro pins s σ H x vs v us Q I rx rv h
 obtain⟨l,xs,kk,y,rfl,rfl,hH,h0,h1,hz,q⟩:=h
 cases rx
 obtain⟨u1,u2,rfl,r1,r2⟩:=vals2 rv
 obtain⟨t1,rfl⟩:=r1
 obtain⟨z,its,n,r,hl,e⟩:=I.lstM hH
 have hr:xs.length<sizeLine:=z7I hz (zt (z7D _))
 have hfit:¬(!Builtin.List.listFitsIndex kk)=true:=by
  have:kk<1000000:=by unfold room at hz;omega
  simp only[zdI,z9e,Bool.not_eq_false,z7x,decide_eq_true_eq]
  omega
 refine zdB F.slot_list_insert ⟨_,e,rfl⟩ F.entry_list_insert (F.args_list_insert_3 _ _ _) (AutoSeq1.list_insert_list_int_val_1 l its.toArray n kk t1 u2 hfit (by rw[z7M];omega)) ⟨e,?_⟩
 refine⟨.non,_,I.lset (its':=its.take kk.toNat++u2::its.drop kk.toNat) hH e ?_ ((r.take kk.toNat).append (.cons r2 (r.drop kk.toNat))) ?_,rfl,q⟩
 ·have hk:¬kk<0:=by omega
  have hm:min kk.toNat its.length=kk.toNat:=by omega
  simp only[hk,if_false,z7M,hm]
  apply Array.ext'
  simp
  exact z8q (by simp)
 ·simp only[z8b,z7X,z8r,zax]
  omega
theorem z4X {o : Expr} {pa pc : Pos} {go : De} (hp : zR o = true) (hs : noStar a = true) (hs2 : noStar b = true) (hline : (pa.endLine == pc.line) = true) (ho : PE X o (rdE D W go)) (ha : PE X a (rdE D W f)) (hb : PE X b (rdE D W g)) :
    PE X (.Call (.Attribute o "insert" pa) [a,b] [] pc) (rdE D W (z4W go f g)) := by
  have hb2 : z8l [a,b] X.env = [(false,eval a X.env),(false,eval b X.env)] := by rw [z4 hs,z4 hs2]; rfl
  refine PE.mono (XR zah PySem.F.slot_list_insert PySem.F.type_list_insert XD ho (zy ha (zy hb qD (z4 hs2)) (z4 hs)) (qA hp) (by rw [hb2]; rfl) hline (z4 hs) (zX (by simp [hs2]))) ?_
  rintro σ H Q ⟨φ,α,τ,μ,sr,mr,p⟩
  refine ⟨φ,α,τ,μ,sr,mr,p.bind.mono fun ot μ1 α1 H1 st1 m1 q ov dv => ?_⟩
  cases ot with
  | «mut» i =>
    obtain ⟨K,Z,⟨⟨ts0,hμ0⟩,hf⟩,hk,hz⟩ := q
    obtain ⟨x,hx,rfl⟩ := dv
    obtain ⟨xs0,hH0,l0⟩ := m1.ob _ x _ hx hμ0
    refine ⟨.inl ⟨rfl,_,.inl (.inl hH0)⟩,φ,α1,τ,μ1,sr.step st1,m1,_,Z,hf,?_,hz⟩
    intro kt μ2 hkt α2 H2 st2 m2 vk dk
    refine ⟨φ,α2,τ,μ2,(sr.step st1).step st2,m2,_,Z,hkt,?_,fun c fs μ' z α' H' C d st m ad xd => hz c fs μ' z α' H' C d (st2.trans st) m ad xd⟩
    intro t μ3 ht α3 H3 st3 m3 v d
    have dk := dk.step st3
    cases kt with
    | int kk =>
      obtain ⟨ts,hμ,hh,q2⟩ := ht
      have dk : vk = .int kk := dk
      subst dk
      have st23 := st2.trans st3
      obtain ⟨β,e2,_⟩ := st23.ext
      have hx2 : α3[i]? = some x := by
        rw [e2,z7F (z7v.mp hx).1]; exact hx
      obtain ⟨xs,hH,l⟩ := m3.ob i x _ hx2 hμ
      have hl := l.length
      have st4 : Stp α3 H3 α3 (upd H3 x (.lst (xs.take kk.toNat ++ v :: xs.drop kk.toNat))) := Stp.turn (z7P hx2) ⟨_,hH⟩
      have hi : i < μ3.length := (z7v.mp hμ).1
      have l4 := l.step st4
      refine ⟨x,xs,kk,v,rfl,rfl,hH,hh.1,by omega,by omega,?_⟩
      exact hk _ _ q2 α3 _ (st23.trans st4) (m3.turn hx2 hi st4 ⟨_,z7,(l4.take _).append ⟨v,_,rfl,d.step st4,l4.drop _⟩⟩) .non rfl
    | _ => exact ht.elim
  | _ => exact Post.elim q
end
noncomputable def z7t:ER:=λ_ _ e=>match e with
 |.Dict [] [] _=>some z5X
 |_=>none
noncomputable def Jl:ER:=λ_ _ e=>match e with
 |.Dict [] [] _=>some uW
 |_=>none
theorem Xn{D:DP}:EOk D Jl:=by
 intro r H X W Γ k e d C h
 unfold Jl at h
 split at h
 ·cases h;exact z16
 ·cases h
noncomputable def z23:ER:=rM1 "get" WX
theorem YL{D:DP}:EOk D z23:=Ui λC hp hs hl ho ha=>z0n C hp hs hl ho ha
noncomputable def z3s:ER:=λr Γ e=>match e with
 |.Call (.Attribute o m pa) [a,b] [] pc=>gd (m == ("insert":Str)&&zR o&&noStar a&&noStar b&&pa.endLine == pc.line) ((r.e Γ o).bind λgo=>(r.e Γ a).bind λf=>(r.e Γ b).bind λg=>some (z4W go f g))
 |_=>none
theorem z19{D:DP}:EOk D z3s:=by
 intro r H X W Γ k e d C h
 unfold z3s at h
 split at h
 ·obtain⟨hb,h1⟩:=zq h
  clear h
  simp only[z7x] at hb
  obtain⟨⟨⟨⟨h0,h2⟩,h3⟩,h4⟩,h5⟩:=hb
  have h0:=beq_iff_eq.mp h0
  subst h0
  obtain⟨go,e1,h1⟩:=bnd h1
  obtain⟨f,e2,h1⟩:=bnd h1
  obtain⟨g,e3,h1⟩:=bnd h1
  cases h1
  exact z4X h2 h3 h4 h5 (H.e C e1) (H.e C e2) (H.e C e3)
 ·cases h
end NH
end
section
namespace NH.P
open PySem L2 NH
@[reducible] noncomputable def yS:List Ds:=[(zh (WZ (jZ [2] (eV 0)) (z4l (jZ [1] (eV 0)))))]
noncomputable def qq:Fn:=fnW 1 0 yS
@[reducible] noncomputable def y9:List Ds:=[(sIf (tOr (q9 (tE (jZ [3] (eV 0)))) (q9 (tE (eCh (eC (.int 1)) [(.LtE,(eB1 vN (eV 0))),(.LtE,(eC (.int 8)))])))) [(zh (eC (.bl false)))] []),(zh (eB1 XE (qI 1 [] (.one 0) (iE (eV 0)) [] (zi .In (eV 0) (eC (.str "abcdefghijklmnopqrstuvwxyz"))))))]
noncomputable def qL:Fn:=fnW 1 0 y9
@[reducible] noncomputable def yR:List Ds:=[(sIf (wb (tE (zi .Eq (z9 .Mod (eV 0) (eC (.int 2))) (eC (.int 0)))) (tE (zi .Gt (z9 .RShift (eV 0) (z9 .Add (eC (.int 1)) (z9 .Mult (eC (.int 31)) (eV 1)))) (eC (.int 0))))) [(zh (z9 .Mod (z9 .RShift (eV 0) (z9 .Add (eC (.int 1)) (z9 .Mult (eC (.int 31)) (eV 1)))) (eC (.int 2147483648))))] []),(zk 2 (z9 .Mod (z9 .Mult (z9 .Mod (z9 .Add (z9 .Add (eV 0) (z9 .Mult (eC (.int 7919)) (eV 1))) (eC (.int 1))) (eC (.int 2147483647))) (eC (.int 48271))) (eC (.int 2147483647)))),(zk 2 (z9 .Mod (z9 .Mult (eV 2) (z9 .Add (z9 .FloorDiv (eV 2) (eC (.int 1009))) (eC (.int 69621)))) (eC (.int 2147483647)))),(zh (z9 .Mod (z9 .Mult (eV 2) (z9 .Add (z9 .FloorDiv (eV 2) (eC (.int 2003))) (eC (.int 40692)))) (eC (.int 2147483399))))]
noncomputable def zw:Fn:=fnW 2 1 yR
@[reducible] noncomputable def JR:List Ds:=[(zk 3 (eC (.int 0))),(jI (.one 4) (WB (eC (.int 5))) [(zk 3 (z9 .Add (z9 .Mult (eV 3) (eC (.int 2147483648))) (z5 zw [(eV 0),(z9 .Add (eV 1) (eV 4))])))]),(zh (z9 .Mod (eV 3) (eV 2)))]
noncomputable def WE:Fn:=fnW 3 2 JR
end NH.P
end
section
namespace NH.P
open PySem L2 NH
@[reducible] noncomputable def ZF:List Ds:=[(zh (WZ (z5 qq [(eV 0)]) (zi .GtE (eV 0) (eC (.int 1)))))]
noncomputable def wD:Fn:=fnW 1 0 ZF
@[reducible] noncomputable def yL:List Ds:=[(zh (WZ (z5 qq [(eV 0)]) (eCh (eC (.int 0)) [(.LtE,(eV 0)),(.Lt,(eV 1))])))]
noncomputable def qm:Fn:=fnW 2 0 yL
@[reducible] noncomputable def k9:List Ds:=[(sIf (q9 (wb (tE (z5 wD [(eV 1)])) (wb (tE (z5 wD [(eV 2)])) (tE (z5 wD [(eV 3)]))))) [(zC 12 [(eC (.str "a shape has three whole numbers from 1 on"))])] []),(ql (eV 0) 0 (eV 1)),(ql (eV 0) 1 (eV 2)),(ql (eV 0) 2 (eV 3))]
noncomputable def vJ:Fn:=fnW 4 0 k9
@[reducible] noncomputable def ue:List Ds:=[(zh (z9 .Mult (z9 .Mult (ze (eV 0) 0) (ze (eV 0) 1)) (ze (eV 0) 2)))]
noncomputable def kQ:Fn:=fnW 1 0 ue
@[reducible] noncomputable def ZG:List Ds:=[(zh (z5 qm [(eV 1),(z5 kQ [(eV 0)])]))]
noncomputable def jh:Fn:=fnW 2 0 ZG
@[reducible] noncomputable def k6:List Ds:=[(sIf (q9 (tE (z5 jh [(eV 0),(eV 1)]))) [(zC 13 [(eC (.str "no name of the shape"))])] [])]
noncomputable def vo:Fn:=fnW 2 0 k6
@[reducible] noncomputable def y0:List Ds:=[(sIf (tE (zi .Lt (eV 1) (eB1 vN (eV 0)))) [(zh (eIx (eV 0) (eV 1)))] []),(zh (eC (.int 0)))]
noncomputable def vc:Fn:=fnW 2 0 y0
end NH.P
end
section
namespace NH.P
open PySem L2 NH
@[reducible] noncomputable def yK:List Ds:=[(zF (z5 vo [(eV 0),(eV 1)])),(zk 2 (z9 .Mod (eV 1) (ze (eV 0) 2))),(zk 3 (z9 .FloorDiv (eV 1) (ze (eV 0) 2))),(zh (z_ [(z9 .FloorDiv (eV 3) (ze (eV 0) 1)),(z9 .Mod (eV 3) (ze (eV 0) 1)),(eV 2)]))]
noncomputable def qo:Fn:=fnW 2 2 yK
@[reducible] noncomputable def uQ:List Ds:=[(sIf (tOr (q9 (tE (jZ [4] (eV 1)))) (tE (zi .NotEq (eB1 vN (eV 1)) (eC (.int 2))))) [(zh (eC (.bl false)))] []),(zh (WZ (z5 qL [(eIx (eV 1) (eC (.int 0)))]) (z5 jh [(eV 0),(eIx (eV 1) (eC (.int 1)))])))]
noncomputable def xl:Fn:=fnW 2 0 uQ
@[reducible] noncomputable def kN:List Ds:=[(sIf (tOr (q9 (tE (jZ [5] (eV 1)))) (q9 (tE (eB1 XE (qI 1 [0] (.one 0) (iE (eV 1)) [] (z5 xl [(eV 1),(eV 0)])))))) [(zC 13 [(eC (.str "no list of holders and names of the shape"))])] [])]
noncomputable def vx:Fn:=fnW 2 0 kN
@[reducible] noncomputable def wQ:List Ds:=[(sIf (tE (zi .Eq (eIx (eV 0) (eC (.int 0))) (eIx (eV 1) (eC (.int 0))))) [(zh (zi .Lt (eIx (eV 0) (eC (.int 1))) (eIx (eV 1) (eC (.int 1)))))] []),(zh (zi .NotEq (eSl (eIx (eV 0) (eC (.int 1))) pN (pS (eC (.int 2)))) (eSl (eIx (eV 1) (eC (.int 1))) pN (pS (eC (.int 2))))))]
noncomputable def qC:Fn:=fnW 2 0 wQ
end NH.P
end
section
namespace NH
open PySem PySem.Spec PyProof.Rows L2
noncomputable abbrev sSt:Ds:=λ_ _=>Out.st
noncomputable def z2r:SR:=λ_ _ _=>some sSt
theorem U2{D:DP}:SOk D z2r:=by
 intro r H X W Γ k e d C h
 cases h
 rintro pins s σ H E I ⟨φ,α,τ,μ,sr,mr,Q,q,_⟩
 exact q.elim
end NH
end
section
namespace NH
open PySem PySem.Spec PyProof.Rows L2
section
variable {X:Cx}{D:DP}{W:XW}{Γ:Cn}{k:Nat}{pins:List (Addr×Obj)}{s:Shared}{σ:St}{H:Hp}{φ α:List Addr}{τ:Sl}{μ:Mem}
theorem xb{q:Addr}{o:Obj}(I:Inv X pins σ H s)(h1:s.heap.get? q=some o)(h2:H q=none)(h3:q≠X.env.locals)(h4:q∉X.fs)(h5:∀v,o.data≠.cell v):Inv X ((q,o)::pins) σ H s:=
 ⟨I.ok,I.os,I.bare,I.base,I.loc,I.cell,I.free,I.freeC,λp hp=>by
  rcases z7H.mp hp with z|z
  ·exact I.pin p (z7S _ z)
  ·rcases z88.mp z with rfl|z
   ·exact⟨h1,h2,h3,h4,h5⟩
   ·exact I.pin p (z7J _ z),I.hok,I.len⟩
theorem wd{p:Addr×Obj}(I:Inv X (p::pins) σ H s):Inv X pins σ H s:=
 ⟨I.ok,I.os,I.bare,I.base,I.loc,I.cell,I.free,I.freeC,λp hp=>by
  rcases z7H.mp hp with z|z
  ·exact I.pin p (z7S _ z)
  ·exact I.pin p (z7J _ (z7O _ z)),I.hok,I.len⟩
theorem Xe{P:z8e}{w:z8s}{H:Hp}{h:Heap}{c:Addr}{qn:Str}(r:h.CodeRec (.ref c) qn):ObjOk P w H h c (.ext (wO c qn)):=by
 obtain⟨c',oc,vs,tq,e1,e2,e3,e4⟩:=id r
 cases e1
 refine⟨r,⟨oc,e2⟩,λh1 h2 p kk=>?_⟩
 obtain⟨c',oc,vs,tq,e1,e2,e3,e4⟩:=p
 cases e1
 exact⟨c,oc,vs,tq,rfl,kk _ e2,e3,e4⟩
theorem kB{a b c:Value}:∀(l:List Value),zaL l->∀{x y:Int} {t u:Tok},zaL (l++[.int x t,.int y u,c])
 |[],_,_,_,_,_=>trivial
 |[_],h,_,_,_,_=>by simp[zaL] at h
 |[_,_],h,_,_,_,_=>by simp[zaL] at h
 |p::q::r::l,h,x,y,t,u=>by
  cases p with
  |int _ _=>
   cases q with
   |int _ _=>exact kB (a:=a) (b:=b) l h
   |_=>exact h.elim
  |_=>exact h.elim
theorem Jp{pos p:Pos}{c:Value}:∀(l:List Value),zaL l->zae pos l=none->zae p (l++[z8v pos.line,z8v pos.col,c])=some c\/zae p (l++[z8v pos.line,z8v pos.col,c])=zae p l:=by
 intro l h hn
 fun_induction zaL l with
 |case1=>
  by_cases q:((pos.line:Int) == (p.line:Int)&&(pos.col:Int) == (p.col:Int))=true
  ·left;simp only[zdi,zae,z8v];rw[if_pos q]
  ·right;simp only[zdi,zae,z8v];rw[if_neg q]
 |case2 a t b u x rest ih=>
  simp only[zaz,zae] at hn ⊢
  split at hn
  ·cases hn
  ·split
   ·exact .inr rfl
   ·exact ih h hn
 |case3 l h1 h2=>exact h.elim
theorem z0b{params:Arguments}{body:Expr}{scope:Scope}{pos:Pos}{line i j:Nat}{qn:Str}{c P:Addr}{Q:Value->z7y->Prop}(I:Inv X pins σ H s)(mr:MRel D φ α H μ)(hi:μ[i]?=some (.tab j)){poss:List Pos}(hD:D.tabs j=some (P,poss,qn))(hpp:pos∈poss)
  (hcode:X.env.code=.ref c) (hC:zaU X.base c P) (hB:X.base.BuiltinsAt X.mg P) (hcl:zcA scope X.env=pure [])
  (h:∀q c' ctv H' s',Inv X ((q,z8E "<lambda>" qn params body scope [] ((X.mg "__name__").getD .none) c' ctv)::pins) σ H' s'->Stp α H α H'->MRel D φ α H' μ->c'∉α->H' c'=some (.ext (wO c' qn))->(c'∉φ/\XOk X H' q/\∀p∈pins,p.1≠q)->Q (.ref q) s') :
  z7K (z7N X.prog X.w) X.A (makeFunction "<lambda>" qn params (.expr body) scope X.env [] [] [] pos line) Q X.xe s:=by
 have hia:∃a,α[i]?=some a:=⟨_,z87 (by rw[mr.len];exact (z7v.mp hi).1)⟩
 obtain⟨a,ha⟩:=hia
 obtain⟨pos',qn',ps,hD',hH,htr,hall⟩:=mr.ob i a _ ha hi
 rw[hD] at hD'
 cases hD'
 have hcase:=hall pos hpp
 have hP:s.heap.get? P=some (zaY ps):=I.hok P _ hH
 have hg:s.heap.Ns z7U X.mg:=I.ok.mod.glob.keeps I.bk
 have hCs:zaU s.heap c P:=hC.keeps I.bk
 have hBs:s.heap.BuiltinsAt X.mg P:=by
  obtain⟨bm,o,b1,b2,b3,b4,b5,b6⟩:=hB
  exact⟨bm,o,b1,b2,b3,b4,I.bk _ _ b5,b6⟩
 have hPa:P∈α:=z7P ha
 have nL:X.env.locals≠P:=λz=>by have:=I.free;rw[z,hH] at this;cases this
 rcases hcase with hmiss|⟨c',hhit,n1,n2,hc'⟩
 ·have hgP:z7U≠P:=λz=>by
   obtain⟨o,es,ep,e,hd,_⟩:=hg
   rw[z,hP] at e;cases e;cases hd
  refine PySem.W.kla_makeFunction (mg:=X.mg) hcl I.ok.glob hg hcode hCs hP htr hmiss hgP hBs λc' ctv h' tk hx hge hlt hrec htb=>?_
  have hc0:H c'=none:=I.hok.fresh hge
  have hcP:c'≠P:=λz=>by rw[z,hH] at hc0;cases hc0
  have lt_of:∀{b o},s.heap.get? b=some o->b≠c':=λ{b o} e z=>absurd (z7I (z7T e) hge) (by rw[z];exact z8M _)
  generalize hH':upd (upd H c' (.ext (wO c' qn))) P (.tbl (ps++#[z8v pos.line,z8v pos.col,.ref c']))=H'
  have HP:H' P=some (.tbl (ps++#[z8v pos.line,z8v pos.col,.ref c'])):=by rw[←hH'];exact z7
  have Hc:H' c'=some (.ext (wO c' qn)):=by rw[←hH',z8 hcP];exact z7
  have Ho:∀b,b≠P->b≠c'->H' b=H b:=λb h1 h2=>by rw[←hH',z8 h1,z8 h2]
  have Hs:∀b o,b≠P->H b=some o->H' b=some o:=λb o h1 e=>by rw[Ho b h1 (zK e hc0)];exact e
  have rec2:(h'.push (z8E "<lambda>" qn params body scope [] ((X.mg "__name__").getD .none) c' ctv)).CodeRec (.ref c') qn:=by
   obtain⟨c2,oc,vs,tq,e1,e2,e3⟩:=hrec
   exact⟨c2,oc,vs,tq,e1,z7z _ e2,e3⟩
  have J:Inv X pins σ H' {s with heap:=h'.push (z8E "<lambda>" qn params body scope [] ((X.mg "__name__").getD .none) c' ctv),toks:=tk}:=by
   refine I.step (g':=s.gens) (d':=s.drawn) (ch:=[]) (λ_ z=>nomatch z) (λb o _ _ _ e n=>?_) (λb o _ _ _ e n=>⟨o.slots,?_⟩) (λb o _ e n=>?_) (λb o _ e=>?_) (λb xs e=>?_) (λb o u e=>?_) (λb qs e=>?_) (λm hm=>?_) (λb u e=>?_) I.bare
   ·exact z7z _ (hx b o (λz=>by rw[z,hH] at n;cases n) e)
   ·exact z7z _ (hx b o (λz=>by rw[z,hH] at n;cases n) e)
   ·rw[Ho b (λz=>by rw[z,hH] at n;cases n) (lt_of e)];exact n
   ·by_cases z:b=P
    ·rw[z];exact⟨_,z7z _ htb⟩
    ·exact⟨o,z7z _ (hx b o z e)⟩
   ·exact Hs b _ (λz=>by rw[z,hH] at e;cases e) e
   ·exact Hs b _ (λz=>by rw[z,hH] at e;cases e) e
   ·by_cases z:b=P
    ·rw[z,hH] at e;cases e;rw[z];exact⟨_,HP⟩
    ·exact⟨#[],by rw[Hs b _ z e];simp⟩
   ·exact (hm.extBut hx nL).push _
   ·by_cases z:b=P
    ·subst z
     rw[HP] at e;cases e
     exact z7z _ htb
    ·by_cases z2:b=c'
     ·subst z2
      rw[Hc] at e;cases e
      exact Xe rec2
     ·rw[Ho b z z2] at e
      refine (I.hok b u e).stay (λc v hc q=>?_) (λc q=>?_) λc xs q=>?_
      ·refine z7z _ (hx c v (λw=>?_) q)
       rcases hc with hc|hc
       ·exact z (hc▸w)
       ·rw[w,hH] at hc;cases hc
      ·exact Hs c _ (λw=>by rw[w,hH] at q;cases q) q
      ·exact Hs c _ (λw=>by rw[w,hH] at q;cases q) q
  have fresh:s.heap.objs.size<=h'.objs.size:=zbE (zaW hge hlt)
  have hqP:h'.objs.size≠P:=λz=>absurd (z7T htb) (by rw[←z];exact z8M _)
  have hqc:h'.objs.size≠c':=z9Q hlt
  have nq:H' h'.objs.size=none:=by rw[Ho _ hqP hqc];exact I.hok.fresh fresh
  have st:Stp α H α H':=⟨⟨[],by simp,by simp⟩,λb o n e=>Hs b o (λz=>n (z▸hPa)) e,λb e=>by
   by_cases z:b=P
   ·rw[z,HP] at e;cases e
   ·by_cases z2:b=c'
    ·rw[z2];exact hc0
    ·rw[Ho b z z2] at e;exact e⟩
  refine h h'.objs.size c' ctv H' _ (xb J (z7W _ rfl) nq (z9Q (z7I I.lt fresh)) (I.nofs fresh) (λv z=>by cases z)) st ?_ (zm mr hc0) Hc ⟨zo mr hc0,YC (I.fpOk fresh nq)⟩
  refine⟨mr.len,mr.nd,mr.dis,λb hb=>?_,λi' a' o' e1 e2=>?_⟩
  ·obtain⟨u,hu⟩:=mr.phi b hb
   exact⟨u,st.keep b u (λz=>mr.dis b z hb) hu⟩
  ·by_cases z:i'=i
   ·subst z
    rw[ha] at e1;cases e1
    rw[hi] at e2;cases e2
    refine⟨poss,qn,_,hD,HP,?_,λp2 hp2=>?_⟩
    ·rw[zcg]
     exact kB (a:=.none) (b:=.none) _ htr
    ·rw[zcg]
     rcases Jp (p:=p2) (c:=.ref c') _ htr hmiss with w|w
     ·exact .inr ⟨c',w,zo mr hc0,zm mr hc0,Hc⟩
     ·rw[show (#[z8v pos.line,z8v pos.col,.ref c']:Array Value).toList=[z8v pos.line,z8v pos.col,.ref c'] from rfl,w]
      refine (hall p2 hp2).imp id λ⟨c2,k1,k2,k3,k4⟩=>⟨c2,k1,k2,k3,?_⟩
      exact Hs c2 _ (λz=>k3 (z▸hPa)) k4
   ·have ne:a'≠P:=λw=>by
     obtain⟨q1,q2⟩:=z7v.mp e1
     obtain⟨q3,q4⟩:=z7v.mp ha
     exact z ((zbm mr.nd).mp (q2.trans (w.trans q4.symm)))
    have d:=mr.ob i' a' o' e1 e2
    obtain⟨u,hu⟩:=d.some
    exact DenO.step st ((Hs a' u ne hu).trans hu.symm) d
 ·refine PySem.W.kla_makeFunctionHit (mg:=X.mg) hcl I.ok.glob hg hcode hCs hP htr hhit hBs λctv h' tk hk hsz=>?_
  have J:Inv X pins σ H {s with heap:=h'.push (z8E "<lambda>" qn params body scope [] ((X.mg "__name__").getD .none) c' ctv),toks:=tk}:=I.kept λb u e=>z7z _ (hk b u e)
  exact h h'.objs.size c' ctv H _ (xb J (z7W _ rfl) (I.hok.fresh hsz) (z9Q (z7I I.lt hsz)) (I.nofs hsz) (λv z=>by cases z)) (Stp.refl _ _) mr n2 hc' ⟨n1,YC (I.fpOk hsz (I.hok.fresh hsz))⟩
end
section
variable {X:Cx}{D:DP}{W:XW}{Γ:Cn}{k n:Nat}
noncomputable abbrev j_(Γ:Cn)(x:Str)(G:List Str):Cn:={Γ with N:=[x],G:=G,U:=G,cel:=[],own:=[],lam:=none}
noncomputable def Us:GM->Bool
 |.cst _=>true
 |.none=>true
 |.xcl _=>true
 |_=>false
theorem GlOkM.lvl{D:DP}{P:z8e}{w:z8s}{K:z7E}{mg:Str->Option Value}{base:Heap}{j k:Nat}{x:Str}{g:GM}(h:Us g=true)(q:GlOkM D P w K mg base j x g):GlOkM D P w K mg base k x g:=by
 cases g<;>first|exact q|cases h
theorem Y8{k0:Nat}{q c':Addr}{x:Str}{G:List Str}{params:Arguments}{body:Expr}{scope:Scope}{qn:Str}{pm ctv u:Value}{g:De}{A:z89}{outer:List Env}{s:z7y}{H:Hp}{v:V}{t:T}{φ α:List Addr}{μ:Mem}{Q:VK}
    (C:Ck D W Γ X k) (hc:Γ.calm=true) (hG:G.all (λy=>Γ.U.contains y&&Us (Γ.gl y))=true) (hs:yn (j_ Γ x G) [x] scope=true) (hE:∀Y W k,Ck D W (j_ Γ x G) Y k->PE Y body (rdE D W g)) (hbind:∀(s:z7y) (u:Value),zb4 s (zao "<lambda>" qn params body scope [] pm (.ref c') ctv) ⟨[u],[]⟩ [(x,u)])
    (hr:Room (k0+1) A) (e0:Env0 X.prog X.w X.K X.mg X.base A outer s H) (ho:s.heap.get? q=some (z8E "<lambda>" qn params body scope [] pm c' ctv)) (hrec:s.heap.CodeRec (.ref c') qn) (r:RelV v u) (d:Den D φ α H t v) (mr:MRel D φ α H μ)
    {K0:T->Mem->Prop} (p:g [some t] μ K0 (λ_ _ _=>False)) (hK0:∀t' μ',K0 t' μ'->∀α' H' v',Stp α H α' H'->MRel D φ α' H' μ'->Den D φ α' H' t' v'->Q v' H') :
    z9S (z7N X.prog X.w) A (.call (.ref q) ⟨[u],[]⟩) (CR (λ_ _ _ _ _ _=>False) outer X.prog X.w H s Q (λ_ _ _=>False)) s:=by
  simp only[yn,z7x,z8j,beq_iff_eq,z9e,decide_eq_true_eq,bne_iff_ne,ne_eq] at hs
  obtain⟨⟨⟨⟨⟨⟨⟨⟨⟨h1,h2⟩,h3⟩,h4⟩,h5⟩,h6⟩,h7⟩,h8⟩,h9⟩,h10⟩:=hs
  have loc:∀y∈[x],scope.names.lookup y=some .local:=λy hy=>by
    have:=(h7 y hy).2
    simpa using this
  have S:FnScope [x] [x] scope:=⟨h1,h2,h3,h4,rfl,λy hy=>.inl (loc y hy),h6⟩
  have lim:s.heap.NoLimit:=e0.mod.nolimit.keeps λb o e=>(e0.bs b o e).1
  refine zc9 (fd:=zao "<lambda>" qn params body scope [] pm (.ref c') ctv) hr.depth ho rfl S.co S.gen rfl hrec (hbind s u _ _ _ _ (z9M S.kind (λy hy=>?_) λenv he s1 y=>?_))
  · obtain ⟨y,w⟩ := y
    have:y=x:=by simpa using congrArg Prod.fst (z7C.mp hy)
    subst this
    exact .inl (loc y (by simp))
  subst he
  refine⟨lim.keeps y.toInCall.keep,zca ?_⟩
  have I0:=xN (CX:=λ_ _ _ _ _ _=>False) (E:=λ_ _ _=>False) (f:=q) (cd:=.ref c') (qual:=qn) (A:=A) (vs:=[v]) (us:=[u]) S hr.hd e0 rfl (.cons r .nil) y
  generalize hX:({Vc (λ_ _ _ _ _ _=>False) X.prog X.w X.K X.mg X.base [x] qn scope q (.ref c') A outer s H (λ_ _ _=>False) with xe:=λ_ _=>False}:Cx)=Y
  have I:Inv Y [] (start [x] [v]) H s1:=by
    subst hX
    exact⟨⟨I0.ok.mod,I0.ok.kind,I0.ok.glob,I0.ok.blt,I0.ok.above,I0.ok.inj,I0.ok.has,I0.ok.cab,I0.ok.hd,I0.ok.frames,I0.ok.stk,I0.ok.exf,I0.ok.bs,I0.ok.bsz,I0.ok.noex,I0.ok.exfs,I0.ok.funs,I0.ok.frf⟩,I0.os,I0.bare,I0.base,I0.loc,I0.cell,I0.free,I0.freeC,I0.pin,I0.hok,I0.len⟩
  have F:Frm Y (zak qn scope s.heap.objs.size q (.ref c')) outer s.heap.objs.size:=by rw[←hX];exact⟨rfl,rfl,rfl⟩
  have hr':=hr.deeper (zak qn scope s.heap.objs.size q (.ref c'))
  have C2:Ck D noW (j_ Γ x G) Y k0:=by
    subst hX
    have gl0:∀y∈G,GlOkM D X.prog X.w X.K X.mg X.base k0 y (Γ.gl y)/\(y == ("__debug__":Str))=false:=λy hy=>by
      have h:=z8j.mp hG y hy
      simp only[z7x] at h
      have q:=C.glU y (by simpa using h.1)
      exact⟨GlOkM.lvl h.2 q.1,q.2⟩
    exact { hK := C.hK,hN := rfl,nd := h4,vis := fun y hy => .inl (loc y hy),dbg := fun y hy => ⟨beq_eq_false_iff_ne.mpr (h7 y hy).1.1,beq_eq_false_iff_ne.mpr (h7 y hy).1.2⟩,
            dbG:=λy hy=>(gl0 y hy).2,glb:=λy hy=>(h8 y hy).2,glo:=λy hy=>(gl0 y hy).1,glU:=gl0,
            cel:=λy hy=>absurd hy (by simp),isi:=C.isi,fld:=C.fld,xcx:=C.xcx,ocx:=C.ocx,clv:=C.clv,clm:=λ_=>rfl,rom:=λ_=>hr',rmh:=⟨hr'.dp,hr'.un⟩,xe:=(λe s p=>by obtain⟨_,_,_,_,_,_,_,_,_,_,_,_,_,z⟩:=p;exact z),frm:=⟨_,_,_,F.stk,F.f0,F.fe⟩,lam:=LamOk.no rfl}
  have sr:SRel D φ α H [some t] (start [x] [v]):=⟨rfl,λi t' e=>by
    cases i with
    | zero => have : t = t' := by simpa using e
              subst this
              exact⟨v,rfl,d⟩
    |succ i=>simp at e⟩
  have B:=hE Y noW k0 C2 [] s1 _ H Q I ⟨φ,α,[some t],μ,sr,mr,_,_,p,λa μ' e α' H' st m v' dv=>hK0 a μ' e α' H' v' st m dv,λ_ _ _ z=>z.elim⟩
  have XA:Y.A=A.deeper (zak qn scope s.heap.objs.size q (.ref c')):=by rw[←hX];rfl
  have Xp:Y.prog=X.prog/\Y.w=X.w/\Y.env=zak qn scope s.heap.objs.size q (.ref c')/\(∀e s,Y.xe e s->False)/\Y.fs=frs outer/\Y.H₀=H/\Y.s₀=s/\Y.ex=[]:=by
    subst hX;exact⟨rfl,rfl,rfl,λ_ _ z=>z,rfl,rfl,rfl,rfl⟩
  obtain⟨x1,x2,x3,x4,x5,x6,x7,x8⟩:=Xp
  rw[XA,x1,x2,x3] at B
  refine z8i B (λw s' hs=>?_) λe s' z=>(x4 e s' z).elim
  obtain⟨v',H',J,rv,q'⟩:=hs
  have b:=J.base
  have o:=J.os
  have hk:=J.hok
  rw[x5,x6,x7,x8] at b
  rw[x7] at o
  rw[x1,x2] at hk
  exact⟨v',H',o,J.bare,b,hk,rv,q'⟩
end
end NH
end
section
namespace NH
open PySem PySem.Spec PyProof.Rows L2
section
variable {prog:Program}{w:World}{A:Around}{E:Value->Shared->Prop}{s:Shared}{a:Addr}{vs:List Value}{kz:List Int}{P:PySem.Fin->Shared->Prop}{J:Shared->Prop}{f:Value}{z0:Nat}
structure Keeps(J:Shared->Prop)(a kS:Addr):Prop where
 set:∀s' b h' tk,J s'->(b=a\/b=kS)->z8p b s'.heap h'->J {s' with heap:=h',toks:=tk}
 push:∀s' o,J s'->J {s' with heap:=s'.heap.push o}
theorem JM {keys:Array Value} {e e1:Nat} {kS:Addr} {st:SortSt} (KJ:Keeps J a kS) (hJ:J s) (nk:s.heap.get? kS=some (z8k "list" keys e)) (na:s.heap.get? a=some (z8k "list" #[] e1)) (hka:kS≠a)
  (hk:z8D keys.toList kz) (hlen:kz.length=vs.length) (h64:vs.length<64) (hp:(zcm st).Perm (keys.zip vs.toArray)) (hs:SortedTo (zcm st) (zcm st).size) (hfl:failedOf st=none)
  (h:∀s' out c,J s'->s'.heap.get? a=some (z8k "list" out c)->KskOut false kz vs out.toList->P (.done (.ret .none)) s') :
  z7K (z7N prog w) A (ksk_tail a false e1 (.ref kS) st) P E s:=by
 have hsz:keys.size=vs.length:=by
  have h1:=hk.length
  rw[z8U] at h1
  omega
 have hsz2:(zcm st).size=vs.length:=by rw[hp.size_eq,zdJ,hsz,z7M,zcX]
 have hout:((zcm st).map (·.2)).size=vs.length:=by rw[Array.size_map];exact hsz2
 have s1:=z9Y s.heap kS (z8g λ_=>(#[]:Array Value))
 have na1:=(s1.2 a hka.symm).trans na
 have s2:=z9Y (s.heap.update kS (z8g λ_=>(#[]:Array Value))) a (z8g λ_=>(zcm st).map (·.2))
 obtain⟨c2,hc2⟩:∃c2,((s.heap.update kS (z8g λ_=>(#[]:Array Value))).update a (z8g λ_=>(zcm st).map (·.2))).get? a=some (z8k "list" ((zcm st).map (·.2)) c2):=⟨_,zbU na1 λ_=>(zcm st).map (·.2)⟩
 unfold ksk_tail
 dsimp only
 refine z7w (zbj nk rfl ?_ (by rw[hsz,z90];omega) (z98 _))
 refine z7w (wpAny_letGo ?_)
 refine z7w (seqEpoch_at na1 rfl ?_)
 refine z7w (zbj na1 rfl ?_ (z98 _) (z7V (z9T hout) (by rw[z90];omega)))
 rw[hfl]
 simp only[bne_self_eq_false,zac,if_false]
 have J1:=KJ.set s kS _ s.toks hJ (.inr rfl) s1
 have J2:=KJ.set _ a _ s.toks J1 (.inl rfl) s2
 refine z7G (h _ _ c2 J2 hc2 ?_)
 have:=ksk_out (b:=false) hk hp hs
 simpa using this
theorem z4O {keys:Array Value} {e e1:Nat} {kS:Addr} (KJ:Keeps J a kS) (hJ:J s) (nk:s.heap.get? kS=some (z8k "list" keys e)) (na:s.heap.get? a=some (z8k "list" #[] e1)) (hka:kS≠a)
  (hk:z8D keys.toList kz) (hlen:kz.length=vs.length) (h64:vs.length<64)
  (h:∀s' out c,J s'->s'.heap.get? a=some (z8k "list" out c)->KskOut false kz vs out.toList->P (.done (.ret .none)) s') :
  z7K (z7N prog w) A (ksk_end a false vs.toArray e1 (.ref kS) keys) P E s:=by
 have hsz:keys.size=vs.length:=by
  have h1:=hk.length
  rw[z8U] at h1
  omega
 have hzs:(keys.zip vs.toArray).size=vs.length:=by rw[zdJ,hsz,z7M,zcX]
 unfold ksk_end
 simp only[zac,if_false]
 by_cases h2:vs.toArray.size<2
 ·rw[if_pos h2,if_pos h2]
  refine z7w (z7G ?_)
  rw[StateT.run_pure]
  refine z7w (z7G ?_)
  refine JM (st:=zeR general' (keys.zip vs.toArray) #[] 7 none) KJ hJ nk na hka hk hlen h64 (zdj _) ?_ rfl h
  intro i j hij hj
  have hj2:j<(keys.zip vs.toArray).size:=hj
  rw[hzs] at hj2
  rw[z7M] at h2
  have:i=j:=by omega
  subst this
  exact z8u _
 ·rw[if_neg h2,if_neg h2]
  rw[z7M] at h2
  rw[ksk_kind hk (by rw[hsz];omega)]
  refine z7w (z7G ?_)
  refine z7w (z8i (wpS_sortRuns (a₀:=keys.zip vs.toArray) (st:=zeR oneType' (keys.zip vs.toArray) #[] 7 none)
   (Q:=λ_ st'=>(zcm st').Perm (keys.zip vs.toArray)/\failedOf st'=none/\SortedTo (zcm st') (keys.zip vs.toArray).size)
   (ksk_intKeys hk) ⟨zdj _,rfl,rfl,rfl⟩ (by rw[hzs];omega) (by rw[hzs];exact h64) λst' a1 a2 a3=>⟨a1,a2,a3⟩) ?_ λ_ _ e=>e)
  rintro⟨⟨⟩,st'⟩ s' ⟨rfl,hp,hf,hs⟩
  exact JM KJ hJ nk na hka hk hlen h64 hp (by rw[hp.size_eq];exact hs) hf h
theorem z1n {n:Nat} (KJ:Keeps J a (s.heap.objs.size+1)) (hJ:J s) (ho:s.heap.get? a=some (z8k "list" vs.toArray n)) (hlen:kz.length=vs.length) (h64:vs.length<64)
  (turn:∀(i:Nat) (v:Value) (k:Int) (s':z7y) (ka:Array Value) (ca ck:Nat),vs[i]?=some v->kz[i]?=some k->J s'->s'.heap.get? a=some (z8k "list" #[] ca)->s'.heap.get? (s.heap.objs.size+1)=some (z8k "list" ka ck)->
   z7K (z7N prog w) A (call f [v]) (λr s2=>(∃t2,r=.int k t2)/\J s2/\s2.heap.get? a=some (z8k "list" #[] ca)/\s2.heap.get? (s.heap.objs.size+1)=some (z8k "list" ka ck)) (λ_ _=>False) s')
  (h:∀s' out c,J s'->s'.heap.get? a=some (z8k "list" out c)->KskOut false kz vs out.toList->P (.done (.ret .none)) s') :
  z7K (z7N prog w) A (ksk_tree a f false) P E s:=by
 have ha:a<s.heap.objs.size:=z7T ho
 have s1:=z9Y s.heap a (z8g λ_=>(#[]:Array Value))
 obtain⟨e1,ho1⟩:∃e1,(s.heap.update a (z8g λ_=>(#[]:Array Value))).get? a=some (z8k "list" #[] e1):=⟨_,zbU ho λ_=>#[]⟩
 unfold ksk_tree
 refine z7w (listItems_at ho rfl ?_)
 refine z7w (zbj ho rfl ?_ (by rw[z7M,z90];omega) (z98 _))
 refine z7w (seqEpoch_at ho1 rfl ?_)
 refine z7w (wpAny_newTuple ?_ (by show vs.length<=_;rw[z90];omega))
 refine z7w (wpAny_newList ?_ (z98 _))
 refine z8f ?_
 have hu:(s.heap.update a (z8g λ_=>(#[]:Array Value))).objs.size=s.heap.objs.size:=zd9 ..
 have J1:=KJ.set s a _ s.toks hJ (.inl rfl) s1
 have J2:=KJ.push _ (z8k "tuple" vs.toArray 0) J1
 have hz2:((s.heap.update a (z8g λ_=>(#[]:Array Value))).push (z8k "tuple" vs.toArray 0)).objs.size=s.heap.objs.size+1:=by rw[z92,hu]
 have J3:=KJ.push _ (z8k "list" #[] 0) J2
 have g3:(((s.heap.update a (z8g λ_=>(#[]:Array Value))).push (z8k "tuple" vs.toArray 0)).push (z8k "list" #[] 0)).get? a=some (z8k "list" #[] e1):=z7z _ (z7z _ ho1)
 have gk:(((s.heap.update a (z8g λ_=>(#[]:Array Value))).push (z8k "tuple" vs.toArray 0)).push (z8k "list" #[] 0)).get? ((s.heap.update a (z8g λ_=>(#[]:Array Value))).push (z8k "tuple" vs.toArray 0)).objs.size=some (z8k "list" #[] 0):=z7W _ rfl
 have hka:((s.heap.update a (z8g λ_=>(#[]:Array Value))).push (z8k "tuple" vs.toArray 0)).objs.size≠a:=by rw[hz2];exact z9Q (z9I ha)
 generalize hkS:((s.heap.update a (z8g λ_=>(#[]:Array Value))).push (z8k "tuple" vs.toArray 0)).objs.size=kS at gk hka hz2
 rw[←hz2] at KJ turn
 have back:z7K (z7N prog w) A (ksk_rest a f false vs.toArray e1 (.ref kS)) P E {s with heap:=((s.heap.update a (z8g λ_=>(#[]:Array Value))).push (z8k "tuple" vs.toArray 0)).push (z8k "list" #[] 0)}:=by
  unfold ksk_rest
  refine z7w (zcz ?_)
  first
   |rw[List.forIn_toArray]
   |(rw[←zcD];simp only[List.toList_toArray])
   |rw[←zcD]
  refine z7w (ksk_fold (λi s'=>∃kA e,J s'/\s'.heap.get? a=some (z8k "list" #[] e1)/\s'.heap.get? kS=some (z8k "list" kA e)/\z8D kA.toList (kz.take i)) vs 0 _ ⟨#[],0,J3,g3,gk,by simpa using IntsAre.nil⟩ ?step ?done)
  case step=>
   rintro j x s' hx ⟨kA,e,hJ',na,nk,hk⟩
   simp only[Nat.zero_add] at hk ⊢
   have hj:j<vs.length:=(z7v.mp hx).1
   obtain⟨k,hkj⟩:∃k,kz[j]?=some k:=⟨_,z87 (by omega)⟩
   have hz:kA.size<=vs.length:=by
    have h1:=hk.length
    rw[z8U,z8r] at h1
    omega
   refine z7w (zbf (z8i (turn j x k s' kA e1 e hx hkj hJ' na nk) (λv s'' he=>?_) λ_ _ hF=>hF.elim))
   obtain⟨⟨t2,rfl⟩,hJ2,na2,nk2⟩:=he
   have s1:=z9Y s''.heap kS (z8g (·.push (.int k t2)))
   obtain⟨c2,hc2⟩:∃c2,(s''.heap.update kS (z8g (·.push (.int k t2)))).get? kS=some (z8k "list" (kA.push (.int k t2)) c2):=⟨_,zbU nk2 (·.push (.int k t2))⟩
   have ek:kz.take (j+1)=kz.take j++[k]:=by rw[z9f,hkj];simp
   have ea:(kA.push (zbk k t2)).toList=kA.toList++[zbk k t2]:=by simp
   refine z7w (zbj nk2 rfl ?_ (by rw[z90];omega) (z7V (z9T (Array.size_push ..)) (by rw[z90];omega)))
   exact z7G ⟨rfl,kA.push (.int k t2),c2,KJ.set s'' kS _ s''.toks hJ2 (.inr rfl) s1,(s1.2 a hka.symm).trans na2,hc2,by rw[ea,ek];exact ksk_snoc hk⟩
  case done=>
   rintro s' ⟨kA,e,hJ',na,nk,hk⟩
   have hk':z8D kA.toList kz:=by
    have e3:kz.take (0+vs.length)=kz:=z8q (by omega)
    rw[e3] at hk
    exact hk
   refine z7w (listItems_at nk rfl ?_)
   exact z4O KJ hJ' nk na hka hk' hlen h64 h
 exact back
end
end NH
end
section
namespace NH
open PySem PySem.Spec PyProof.Rows L2
theorem Va{α β:Type}{f:α->β}{ps m:List β}(h:ps.Perm m):∀{l:List α}, m=l.map f->∃qs:List α, qs.Perm l/\ps=qs.map f:=by
  induction h with
  |nil=>intro l e;cases l with
    |nil=>exact⟨[], .refl _, rfl⟩
    |cons a r=>cases e
  |cons x p ih=>intro l e;cases l with
    |nil=>cases e
    |cons a r=>
      rw[z82] at e
      injection e with e1 e2
      obtain⟨qs, h1, h2⟩:=ih e2
      exact⟨a::qs, h1.cons a, by rw[e1, h2];rfl⟩
  |swap x y l'=>intro l e;cases l with
    |nil=>cases e
    |cons a r=>cases r with
      |nil=>simp at e
      |cons b r=>
        rw[z82, z82] at e
        injection e with e1 e2
        injection e2 with e2 e3
        exact⟨b::a::r, .swap a b r, by rw[e1, e2, e3];rfl⟩
  | trans p1 p2 ih1 ih2 => intro l e
                           obtain⟨qs, h1, h2⟩:=ih2 e
                           obtain⟨rs, h3, h4⟩:=ih1 h2
                           exact⟨rs, h3.trans h1, h4⟩
noncomputable def KeyR (g:De)(μ:Mem):List T->List Int->Prop
 |[],[]=>True
 |t::ts,z::zs=>g [some t] μ (λt' μ'=>t'=.int z/\μ'=μ) (λ_ _ _=>False)/\KeyR g μ ts zs
 |_,_=>False
theorem KeyR.len{g:De}{μ:Mem}:∀{ts:List T} {kz:List Int},KeyR g μ ts kz->kz.length=ts.length
 |[],[],_=>rfl
 |_::_,_::_,h=>by simp[KeyR.len h.2]
 |[],_::_,h=>h.elim
 |_::_,[],h=>h.elim
theorem KeyR.at{g:De}{μ:Mem}:∀{ts:List T} {kz:List Int} {i:Nat} {t:T} {z:Int},KeyR g μ ts kz->ts[i]?=some t->kz[i]?=some z->g [some t] μ (λt' μ'=>t'=.int z/\μ'=μ) (λ_ _ _=>False)
 |a::ts,b::zs,0,t,z,h,e1,e2=>by
  have e1:some a=some t:=by simpa using e1
  have e2:some b=some z:=by simpa using e2
  cases e1;cases e2
  exact h.1
 |a::ts,b::zs,i+1,t,z,h,e1,e2=>KeyR.at (ts:=ts) (kz:=zs) (i:=i) h.2 (by simpa using e1) (by simpa using e2)
 |[],[],i,t,z,h,e1,e2=>by simp at e1
 |[],_::_,_,_,_,h,_,_=>h.elim
 |_::_,[],_,_,_,h,_,_=>h.elim
noncomputable abbrev JC(j:Nat)(g:De)(xs:List T)(μ:Mem):RE T:=λK _=>xs.length<64/\∃kz,KeyR g μ xs kz/\
 ∀ps:List (Int×T),ps.Perm (kz.zip xs)->ps.Pairwise (λp q=>p.1<=q.1)->K (.lst (ps.map (·.2))) μ
noncomputable abbrev UM(j:Nat)(g:De)(t:T)(μ:Mem):RE T:=λK Z=>(∃i:Nat,μ[i]?=some (MO.tab j))/\(match t with
 |.lst xs=>JC j g xs μ
 |.mut i=>λK Z=>∃xs,μ[i]?=some (MO.lst xs)/\JC j g xs μ K Z
 |_=>.st) K Z
noncomputable abbrev VT(j:Nat)(g f:De):De:=λτ μ=>(f τ μ).bind (UM j g)
section
variable {X:Cx}{D:DP}{W:XW}{Γ:Cn}{k n:Nat}{pins:List (Addr×Obj)}{s:Shared}{σ:St}{H:Hp}{φ α:List Addr}{τ:Sl}{μ:Mem}
theorem Ya{a:Addr}{o:HO}(I:Inv X pins σ H s)(h0:H a=none)(h1:X.s₀.heap.objs.size<=a)(h2:a≠X.env.locals)(h3:∀x c,X.env.cells.lookup x=some c->c≠a)(h4:∀p∈X.pn++pins,p.1≠a)
  (new:ObjOk X.prog X.w (upd H a o) s.heap a o):Inv X pins σ (upd H a o) s:=by
 have ne:∀{b u},H b=some u->b≠a:=λ{b u} e z=>by rw[z,h0] at e;cases e
 refine I.step (h':=s.heap) (g':=s.gens) (t':=s.toks) (d':=s.drawn) (ch:=[a]) (λb hb=>?_) (λb o _ _ _ e n=>e) (λb o _ _ _ e n=>⟨o.slots,e⟩) (λb o hb e n=>?_) (λb o _ e=>⟨o,e⟩) (λb xs e=>?_) (λb o u e=>?_) (λb qs e=>?_) (λm hm=>hm) (λb u e=>?_) I.bare
 ·rw[z7C.mp hb];exact⟨.inr h1,h2,h3,h4⟩
 ·rw[z8 (λz=>hb (by rw[z];simp))];exact n
 ·rw[z8 (ne e)];exact e
 ·rw[z8 (ne e)];exact e
 ·exact⟨#[],by rw[z8 (ne e),e];simp⟩
 ·by_cases z:b=a
  ·subst z
   rw[z7] at e;cases e
   exact new
  ·rw[z8 z] at e
   refine (I.hok b u e).stay (λc v hc q=>q) (λc q=>?_) λc xs q=>?_
   ·rw[z8 (ne q)];exact q
   ·rw[z8 (ne q)];exact q
theorem WM {q c' ad : Addr} {x : Str} {G : List Str} {params : Arguments} {body : Expr} {scope : Scope} {qn : Str} {pm ctv : Value} {g : De} {xs : List T} {vs : List V} {Q : VK} {j : Nat}
    (C : Ck D W Γ X k) (hk : 2 <= k) (hc : Γ.calm = true) (hG : G.all (fun y => Γ.U.contains y && Us (Γ.gl y)) = true) (hs : yn (j_ Γ x G) [x] scope = true) (hE : ∀ Y W k,Ck D W (j_ Γ x G) Y k -> PE Y body (rdE D W g)) (hbind : ∀ (s : z7y) (u : Value),zb4 s (zao "<lambda>" qn params body scope [] pm (.ref c') ctv) ⟨[u],[]⟩ [(x,u)])
    (I : Inv X ((q,z8E "<lambda>" qn params body scope [] pm c' ctv) :: pins) σ H s) (mr : MRel D φ α H μ) (hca : c' ∉ α) (hcc : H c' = some (.ext (wO c' qn))) (hq : Rd H ad (.lst vs)) (l : DenL D φ α H xs vs) (p : Post D W φ α H σ (RV D φ Q) (JC j g xs μ)) :
    z7K (z7N X.prog X.w) X.A (call (.builtin "sorted") [.ref ad] [(zaI "key",.ref q)]) (EP X pins σ Q) X.xe s := by
  obtain ⟨its,rv,pl,hz⟩ := I.list (.inl hq)
  obtain ⟨K0,Z0,⟨h64,kz,hkr,hK⟩,k1,k2⟩ := p
  have hlen : its.length < 64 := by rw [← rv.length,← l.length]; exact h64
  have hkl : kz.length = its.length := by rw [hkr.len,← rv.length,← l.length]
  refine call_function_entry_kw kind_sorted plain_sorted entry_sorted (ksk_s1 _ _) ?_
  unfold zdp.«sorted»
  refine z7w (m := checkCount "sorted" 1 1 _) (z7G ?_)
  refine z7w (collect_list pl.isList ?_ (by rw [z90]; omega))
  refine z7w (wpAny_newList ?_ (by rw [z90]; omega))
  have hsz : ((s.heap.push (z8k "list" #[] 0)).update s.heap.objs.size (z8g (· ++ its.toArray))).objs.size = s.heap.objs.size + 1 := by
    rw [zd9,z92]
  have hoL : (((s.heap.push (z8k "list" #[] 0)).update s.heap.objs.size (z8g (· ++ its.toArray))).push (z8k "list" its.toArray 0)).get? (s.heap.objs.size + 1) = some (z8k "list" its.toArray 0) := by
    rw [← hsz]; exact z7W _ rfl
  have keep : ∀ b o,s.heap.get? b = some o -> (((s.heap.push (z8k "list" #[] 0)).update s.heap.objs.size (z8g (· ++ its.toArray))).push (z8k "list" its.toArray 0)).get? b = some o := fun b o q => by
    have hlt : b < s.heap.objs.size := z7T q
    rw [zcY _ _ _ (by rw [hsz]; exact z85 (z9I hlt)),Heap.get?_update_ne _ _ _ _ (z85 hlt),zcY _ _ _ (z85 hlt)]
    exact q
  show z7K _ _ _ _ _ { s with heap := ((s.heap.push (z8k "list" #[] 0)).update s.heap.objs.size (z8g (· ++ its.toArray))).push (z8k "list" its.toArray 0) }
  rw [hsz]
  have hs1 : ((((s.heap.push (z8k "list" #[] 0)).update s.heap.objs.size (z8g (· ++ its.toArray))).push (z8k "list" its.toArray 0))).objs.size = s.heap.objs.size + 2 := by rw [z92,hsz]
  have I1 : Inv X ((q,z8E "<lambda>" qn params body scope [] pm c' ctv) :: pins) σ H { s with heap := ((s.heap.push (z8k "list" #[] 0)).update s.heap.objs.size (z8g (· ++ its.toArray))).push (z8k "list" its.toArray 0) } := I.kept (t' := s.toks) keep
  generalize ((s.heap.push (z8k "list" #[] 0)).update s.heap.objs.size (z8g (· ++ its.toArray))).push (z8k "list" its.toArray 0) = h1 at I1 hoL hs1 keep
  generalize hca' : s.heap.objs.size + 1 = a at hoL
  have new : ∀ b,s.heap.objs.size <= b -> H b = none /\ X.s₀.heap.objs.size <= b /\ b ≠ X.env.locals /\ (∀ x c,X.env.cells.lookup x = some c -> c ≠ b) /\ (∀ p ∈ X.pn ++ pins,p.1 ≠ b) /\ b ∉ X.fs /\ b ≠ q := fun b hb => by
    have lt : ∀ {d o},s.heap.get? d = some o -> d ≠ b := fun {d o} e z => absurd (z7I (z7T e) hb) (by rw [z]; exact z8M _)
    refine ⟨I.hok.fresh hb,z7V I.sz hb,z9Q (z7I I.lt hb),fun x c e => ?_,fun p hp => ?_,I.nofs hb,?_⟩
    · obtain ⟨v,o,ho,_⟩ := I.cell x c e
      exact lt ho
    · exact lt ((wd I).pin p hp).1
    · exact (lt (I.pin _ (z7J _ z7Z)).1).symm
  have na := new a (by omega)
  have nk := new (h1.objs.size + 1) (by omega)
  let J : z7y -> Prop := fun s' => ∃ H',Inv X ((q,z8E "<lambda>" qn params body scope [] pm c' ctv) :: pins) σ H' s' /\ Stp α H α H' /\ MRel D φ α H' μ /\ H' c' = some (.ext (wO c' qn)) /\ H' a = none /\ H' (h1.objs.size + 1) = none
  have KJ : Keeps J a (h1.objs.size + 1) := by
    refine ⟨fun s' b h' tk hj hb sb => ?_,fun s' o hj => ?_⟩
    · obtain ⟨H',J1,J2,J3,J4,J5,J6⟩ := hj
      have hb0 : H' b = none := by rcases hb with rfl | rfl <;> assumption
      have nb := by
        have := hb
        exact show X.s₀.heap.objs.size <= b /\ b ≠ X.env.locals /\ (∀ x c,X.env.cells.lookup x = some c -> c ≠ b) /\ (∀ p ∈ X.pn ++ pins,p.1 ≠ b) /\ b ∉ X.fs /\ b ≠ q from by rcases this with rfl | rfl; exact na.2; exact nk.2
      have ex : ∀ c o,c ≠ b -> s'.heap.get? c = some o -> h'.get? c = some o := fun c o n e => (sb.2 c n).trans e
      have neb : ∀ {c u},H' c = some u -> c ≠ b := fun {c u} e z => by rw [z,hb0] at e; cases e
      refine ⟨H',J1.step (h' := h') (g' := s'.gens) (t' := tk) (d' := s'.drawn) (ch := [b]) (fun c hc => ?_) (fun c o _ _ n e _ => ex c o (fun z => n (by rw [z]; simp)) e) (fun c o _ _ n e _ => ⟨o.slots,ex c o (fun z => n (by rw [z]; simp)) e⟩) (fun c o _ _ n => n) (fun c o n e => ⟨o,ex c o (fun z => n (by rw [z]; simp)) e⟩) (fun c xs e => e) (fun c o u e => e) (fun c qs e => ⟨#[],by rw [e]; simp⟩) (fun m hm => ?_) (fun c u e => ?_) J1.bare,J2,J3,J4,J5,J6⟩
      · rw [z7C.mp hc]
        refine ⟨.inr nb.1,nb.2.1,nb.2.2.1,fun p hp => ?_⟩
        rcases z7H.mp hp with z | z
        · exact nb.2.2.2.1 p (z7S _ z)
        · rcases z88.mp z with rfl | z
          · exact nb.2.2.2.2.2.symm
          · exact nb.2.2.2.1 p (z7J _ z)
      · exact hm.sameBut sb nb.2.1.symm
      · refine (J1.hok c u e).stay (fun d v hd q => ex d v (fun z => ?_) q) (fun d q => q) fun d xs q => q
        rcases hd with hd | hd
        · exact neb e (hd ▸ z)
        · exact neb hd z
    · obtain ⟨H',J1,J2,J3,J4,J5,J6⟩ := hj
      exact ⟨H',J1.kept (t' := s'.toks) fun b o e => z7z _ e,J2,J3,J4,J5,J6⟩
  refine z7w (z8f (wpAny_call_entry_kw slot_list_sort ⟨_,hoL,rfl⟩ entry_list_sort ?body (ksk_l1 _ _)))
  case body =>
    show z7K (z7N X.prog X.w) X.A.in1.in1 (zdp.«list.sort» ⟨[.ref a],[(zaI "key",.ref q)]⟩) _ _ _
    rw [ksk_t1]
    refine z1n (J := J) (kz := kz) (vs := its) (s := { s with heap := h1 }) KJ ⟨H,I1,Stp.refl _ _,mr,hcc,na.1,nk.1⟩ hoL hkl hlen (fun i v z s' ka ca ck e1 e2 hj ga gk => ?_) fun s' out c hj ga hout => ⟨_,rfl,z7G ⟨_,rfl,?_⟩⟩
    · obtain ⟨H',J1,J2,J3,J4,J5,J6⟩ := hj
      have J1a := xb (xb J1 ga J5 na.2.2.1 na.2.2.2.2.2.1 (fun v z => by cases z)) gk J6 nk.2.2.1 nk.2.2.2.2.2.1 (fun v z => by cases z)
      have hi : i < its.length := (z7v.mp e1).1
      obtain ⟨vv,hvv⟩ : ∃ vv,vs[i]? = some vv := ⟨_,z87 (by rw [rv.length]; exact hi)⟩
      obtain ⟨tt,htt⟩ : ∃ tt,xs[i]? = some tt := ⟨_,z87 (by rw [l.length,rv.length]; exact hi)⟩
      have rr : RelV vv v := by
        obtain ⟨u0,e0,r0⟩ := rv.get hvv
        rw [e1] at e0; cases e0; exact r0
      obtain ⟨vv',hv',dd⟩ := (l.step J2).get htt
      rw [hvv] at hv'; cases hv'
      have hrec : s'.heap.CodeRec (.ref c') qn := (J1.hok c' _ J4).1
      have ho : s'.heap.get? q = some (z8E "<lambda>" qn params body scope [] pm c' ctv) := (J1.pin _ (z7J _ z7Z)).1
      have rm := C.rom hc
      have hr : Room (0 + 1) X.A.in1.in1 := ⟨rm.hd,by have := rm.dp; show X.A.depth + 3 * (0 + 1) + 5 < _; omega,by have := rm.un; show X.A.units + 1 + 1 + 16 * (0 + 1) + 200 < _; omega⟩
      refine zab (z9b (Y8 (k0 := 0) C hc hG hs hE hbind hr J1a.env0.in1.in1 ho hrec rr dd J3 (Q := fun v' H2 => v' = .int z /\ Stp α H' α H2 /\ MRel D φ α H2 μ) (hkr.at htt e2) ?_) fun r s2 hq => ?_)
      · rintro t' μ' ⟨rfl,rfl⟩ α' H2 v' st m d
        have ea : α' = α := by
          obtain ⟨⟨more,e,_⟩,_,_⟩ := id st
          have h1 := m.len
          have h2 := J3.len
          rw [e,z8b,h2] at h1
          have : more = [] := List.eq_nil_of_length_eq_zero (by omega)
          rw [e,this,z8o]
        subst ea
        exact ⟨d,st,m⟩
      · cases r with
        | error e => exact hq.elim
        | ok fl =>
          cases fl with
          | ret u =>
            obtain ⟨v',H2,I2,r2,rfl,st2,m2⟩ := J1a.after hq
            obtain ⟨t2,rfl⟩ := r2
            have p1 := I2.pin _ (z7J _ z7Z)
            have p2 := (wd I2).pin _ (z7J _ z7Z)
            exact ⟨⟨t2,rfl⟩,⟨H2,wd (wd I2),J2.trans st2,m2,st2.keep c' _ hca J4,p2.2.1,p1.2.1⟩,p2.1,p1.1⟩
          | next => exact z8d hq
          | brk => exact z8d hq
          | cont => exact z8d hq
    · obtain ⟨H',J1,J2,J3,J4,J5,J6⟩ := hj
      obtain ⟨ps,hp,ho,hpw⟩ := hout
      have lz : ∀ {A B : Type} (a : List A) (b : List B),a.length = b.length -> (a.zip b).length = b.length := fun a b h => by rw [zdk,h,zcX]
      have hvl : vs.length = its.length := rv.length
      have hxl : xs.length = its.length := by rw [l.length,hvl]
      have em : kz.zip its = (kz.zip (its.zip (vs.zip xs))).map (fun q => (q.1,q.2.1)) := by
        refine zda (by simp [hkl,hvl,hxl]) fun i h1 h2 => by simp
      obtain ⟨qs,hqp,rfl⟩ := Va hp em
      have mem : ∀ q ∈ qs,RelV q.2.2.1 q.2.1 /\ Den D φ α H' q.2.2.2 q.2.2.1 := fun q hq => by
        have := hqp.mem_iff.mp hq
        obtain ⟨i,hi⟩ := z9D.mp this
        obtain ⟨hi',rfl⟩ := z7v.mp hi
        simp only [zdk,Nat.lt_min] at hi'
        have d := (l.step J2).get (i := i) (z87 hi'.2.2.2)
        obtain ⟨v',e',d⟩ := d
        rw [z87 hi'.2.2.1] at e'
        cases e'
        simp only [List.getElem_zip]
        obtain ⟨u0,e0,r0⟩ := rv.get (z87 hi'.2.2.1)
        rw [z87 hi'.2.1] at e0; cases e0
        exact ⟨r0,d⟩
      have hvs : ∀ (qs : List (Int × Value × V × T)),(∀ q ∈ qs,RelV q.2.2.1 q.2.1 /\ Den D φ α H' q.2.2.2 q.2.2.1) -> Vals (qs.map (·.2.2.1)) (qs.map (·.2.1)) /\ DenL D φ α H' (qs.map (·.2.2.2)) (qs.map (·.2.2.1)) := by
        intro qs
        induction qs with
        | nil => exact fun _ => ⟨.nil,rfl⟩
        | cons q r ih =>
          intro h
          obtain ⟨a1,a2⟩ := ih fun q' hq' => h q' (z7O _ hq')
          obtain ⟨b1,b2⟩ := h q z7Z
          exact ⟨.cons b1 a1,_,_,rfl,b2,a2⟩
      obtain ⟨w1,w2⟩ := hvs qs mem
      have hol : out.toList = qs.map (·.2.1) := by rw [ho,z9g]; rfl
      have hql : qs.length = its.length := by rw [hqp.length_eq]; simp [hkl,hvl,hxl]
      have J7 : Inv X pins σ (upd H' a (.lst (qs.map (·.2.2.1)))) s' := Ya (wd J1) J5 na.2.1 na.2.2.1 na.2.2.2.1 na.2.2.2.2.1 (show ObjOk X.prog X.w _ _ _ (.lst (qs.map (·.2.2.1))) from ⟨by rw [z7B,hql,z90]; omega,qs.map (·.2.1),c,w1,by rw [← hol,Array.toArray_toList]; exact ga⟩)
      refine ⟨.ref a,_,J7,rfl,?_⟩
      have sm := za (o := HO.lst (qs.map (·.2.2.1))) J5
      have e2 : (qs.map fun q => (q.1,q.2.2.2)).map (·.2) = qs.map (·.2.2.2) := by rw [z9g]; rfl
      have e3 : kz.zip xs = (kz.zip (its.zip (vs.zip xs))).map (fun q => (q.1,q.2.2.2)) := by
        refine zda (by simp [hkl,hvl,hxl]) fun i h1 h2 => by simp
      have kk := hK (qs.map fun q => (q.1,q.2.2.2)) (by rw [e3]; exact hqp.map _) (by
        rw [z9h] at hpw ⊢
        exact hpw.imp fun h => by simpa using h)
      rw [e2] at kk
      refine k1 _ _ kk α _ (J2.trans (Stp.new sm)) (J3.new sm) _ ⟨_,_,rfl,zo J3 J5,zm J3 J5,.inl z7,w2.step (Stp.new sm)⟩
theorem bind1{fd:z8O}{y:Str}{pa:Pos}{u:Value}(hp:fd.params=⟨[],[⟨y,none,pa⟩],none,[],[],none,[]⟩)(hd:fd.defaults=.none):zbn fd ⟨[u],[]⟩=pure [(y,u)]:=by
 have e:z9q y [(y,u)]=some u:=by simp[z9q]
 unfold zbn
 rw[hp,hd]
 simp[e,zeq]
 rfl
theorem Ym(C:Ck D W Γ X k)(hc:Γ.calm=true){y:Str}{p0 pa pk pl pos:Pos}{a body:Expr}{sc:Scope}{j:Nat}{G:List Str}{f g:De}
  (hx:("sorted":Str)∈Γ.G) (hg0:Γ.gl "sorted"=.none) (hs0:noStar a=true) (ha:PE X a (rdE D W f)) {poss:List Pos} (hlm:Γ.lam=some (j,poss)) (hpp:pl∈poss) (hG:G.all (λy=>Γ.U.contains y&&Us (Γ.gl y))=true) (hs:yn (j_ Γ y G) [y] sc=true) (hE:∀Y W k,Ck D W (j_ Γ y G) Y k->PE Y body (rdE D W g)) :
  PE X (.Call (.Name "sorted" p0) [a] [⟨some "key",.Lambda ⟨[],[⟨y,none,pa⟩],none,[],[],none,[]⟩ body sc pl,pk⟩] pos) (rdE D W (VT j g f)):=by
 obtain⟨hk,c,P,hcode,hC,hB,hD⟩:=C.lam j poss hlm
 have hm:=C.glo _ hx
 rw[hg0] at hm
 have hfr:∀x∈sc.names,x.2≠.free:=by
  have hs':=hs
  simp only[yn,z7x,z8j,bne_iff_ne,ne_eq] at hs'
  exact hs'.1.1.1.1.2
 rintro pins s σ H Q I ⟨φ,α,τ,μ,sr,mr,p⟩
 refine z8t (vn I (C.glb _ hx) hm (show z8W "sorted"=some (.builtin "sorted") by decide +kernel) ?_ (by decide) (C.dbG _ hx))
 refine callWith_kw (thn (zy ha qD (z4 hs0) pos pins s σ H (λvs H1=>∃v t μ1 α1,vs=[v]/\Stp α H α1 H1/\MRel D φ α1 H1 μ1/\Den D φ α1 H1 t v/\Post D W φ α1 H1 σ (RV D φ Q) (UM j g t μ1)) I ⟨φ,α,τ,μ,sr,mr,p.bind.mono λt μ' α' H' st m q v d=>⟨v,t,μ',α',rfl,st,m,d,q⟩⟩) ?_) (by rw[z4 hs0];rfl) (by rw[z4 hs0];rfl) rfl rfl
 rintro us s1 ⟨vs,H1,I1,rv,v,t,μ1,α1,rfl,st,m,d,K0,Z0,⟨⟨i,hi⟩,q⟩,k1,k2⟩
 obtain⟨u,rfl,r1⟩:=vals1 rv
 refine kws_cons (PySem.W.kla_eval rfl (z0b (line:=pl.line) I1 m hi hD hpp hcode hC hB (closureFor_none hfr) λq0 c' ctv H2 s2 I2 st2 m2 hca hcc _=>kws_nil ?_))
 have k1':∀t μ',K0 t μ'->∀α' H',Stp α1 H2 α' H'->MRel D φ α' H' μ'->RV D φ Q t μ' α' H':=λt μ' z α' H' st3 m3=>k1 t μ' z α' H' (st2.trans st3) m3
 show z7K _ _ (call (.builtin "sorted") [u] [(zaI "key",.ref q0)]) _ _ _
 split at q
 ·obtain⟨ad,xs,rfl,n1,n2,hq,l⟩:=d.step st2
  cases r1
  exact WM (j:=j) C hk hc hG hs hE (λs u=>.of_eq (bind1 rfl rfl)) I2 m2 hca hcc hq l ⟨K0,Z0,q,k1',λcc fs μ' z α' H' CC dd st3 m3=>k2 cc fs μ' z α' H' CC dd (st2.trans st3) m3⟩
 ·obtain⟨ts,hj,q⟩:=q
  obtain⟨ad,hi2,rfl⟩:=d
  cases r1
  obtain⟨xs,hq,l⟩:=m2.ob _ ad _ hi2 hj
  exact WM (j:=j) C hk hc hG hs hE (λs u=>.of_eq (bind1 rfl rfl)) I2 m2 hca hcc (.inl hq) l ⟨K0,Z0,q,k1',λcc fs μ' z α' H' CC dd st3 m3=>k2 cc fs μ' z α' H' CC dd (st2.trans st3) m3⟩
 ·exact z8d q
end
noncomputable def z5W (r:Rec)(Γ:Cn)(x ky:Str)(a:Expr)(y:Str)(body:Expr)(sc:Scope)(pl:Pos):Option De:=
  gd (x == ("sorted":Str)&&ky == ("key":Str)&&(idx Γ.N x).isNone&&noStar a&&Γ.calm&&(Q1 sc).all (λy=>Γ.U.contains y&&Us (Γ.gl y))&&yn (j_ Γ y (Q1 sc)) [y] sc)
   ((r.e Γ a).bind λf=>(r.e (j_ Γ y (Q1 sc)) body).bind λg=>(match Γ.look x,Γ.lam with
    |.none,some (j,poss)=>gd (decide (pl∈poss)) (some (VT j g f))
    |_,_=>none))
noncomputable def z5G:Arg->Option Str
 |⟨y,none,_⟩=>some y
 |_=>none
noncomputable def z49:Arguments->Option Str
 |⟨[],[p],none,[],[],none,[]⟩=>z5G p
 |_=>none
noncomputable def z4L:z9U->Option (Str×Arguments×Expr×Scope×Pos)
 |⟨some ky,.Lambda ar body sc pl,_⟩=>some (ky,ar,body,sc,pl)
 |_=>none
noncomputable def Jo:ER:=λr Γ e=>match e with
 |.Call (.Name x _) [a] [k] _=>(z4L k).bind λq=>(z49 q.2.1).bind λy=>z5W r Γ x q.1 a y q.2.2.1 q.2.2.2.1 q.2.2.2.2
 |_=>none
theorem z1Y{k:z9U}{q:Str×Arguments×Expr×Scope×Pos}(h:z4L k=some q):∃p,k=⟨some q.1,.Lambda q.2.1 q.2.2.1 q.2.2.2.1 q.2.2.2.2,p⟩:=by
 unfold z4L at h
 split at h
 ·cases h;exact⟨_,rfl⟩
 ·cases h
theorem z1g{a:Arguments}{y:Str}(h:z49 a=some y):∃p,a=⟨[],[⟨y,none,p⟩],none,[],[],none,[]⟩:=by
 unfold z49 at h
 split at h
 ·unfold z5G at h
  split at h
  ·cases h;exact⟨_,rfl⟩
  ·cases h
 ·cases h
theorem Xo{D:DP}:EOk D Jo:=by
 intro r H X W Γ k e d C h
 unfold Jo at h
 split at h
 ·rename_i x p0 a k' pos
  obtain⟨⟨ky,ar,body,sc,pl⟩,hk,h⟩:=bnd h
  obtain⟨y,ha,h⟩:=bnd h
  obtain⟨pk,rfl⟩:=z1Y hk
  obtain⟨pa,e⟩:=z1g ha
  have e:ar=_:=e
  subst e
  unfold z5W at h
  have hh:=zq h
  clear h
  obtain⟨hb,h⟩:=hh
  simp only[z7x,beq_iff_eq] at hb
  obtain⟨⟨⟨⟨⟨⟨rfl,rfl⟩,h2⟩,h3⟩,h4⟩,h5⟩,h6⟩:=hb
  obtain⟨f,h7,h⟩:=bnd h
  obtain⟨g,h8,h⟩:=bnd h
  cases hl:Γ.look "sorted" with
  |none=>
   cases hm:Γ.lam with
   |none=>simp[hl,hm] at h
   |some jp=>
    obtain⟨j,pl'⟩:=jp
    simp only[hl,hm] at h
    obtain⟨h9,h10⟩:=zq h
    have h9:=of_decide_eq_true h9
    cases h10
    obtain⟨hx,hg⟩:=qR hl (by intro z;cases z)
    exact Ym C h4 hx hg h3 (H.e C h7) hm h9 h5 h6 λY W k C'=>H.e C' h8
  |_=>simp[hl] at h
 ·cases h
end NH
end
section
namespace NH
open PySem PySem.Spec PyProof.Rows L2
theorem X5{P:z8e}{w:z8s}{K:z7E}{mg mb:Str->Option Value}{CX:CXT}{k:Nat}{fa a c P0:Addr}{fd:z8O}{x:Str}{sp:Sp}{s₁:z7y}{vs:List Value}{ns:List Int}
  (KX:K.In s₁.heap) (hns:s₁.heap.Ns z7U mg) (hb:s₁.heap.Ns zbD mb) (hbb:∀x:Str,x≠"__name__"->mb x=z8W x) (hlim:s₁.heap.NoLimit) (hg:s₁.gens=#[])
  (hbm:∃bm ob,mg "__builtins__"=some (.ref bm)/\bm≠zbD/\s₁.heap.get? bm=some ob/\ob.cls=.type "module"/\ob.dict=some zbD/\ob.data=.plain)
  (hnl:VS K=true) (hPt:s₁.heap.get? P0=some (zaY #[])) (hKP:K.lookup P0=none) (hPc:P0≠zdK) (hcd:zdb K c P0=true)
  (ha:s₁.heap.get? a=some {cls:=.type "list",data:=.seq vs.toArray}) (hi:z8D vs ns) (hl:ns.length<=sizeLine) (hr:Room k zdq)
  (F:∀base:Heap,K.In base->base.Ns z7U mg->base.BuiltinsAt mg P0->FnOk P w K mg base CX k fa fd [x] sp) (hbind:∀(s:z7y) (u:Value),zb4 s fd ⟨[u],[]⟩ [(x,u)])
  (hsp:∀H:Hp,Rd H a (.lst (ns.map V.int))->H P0=some (.tbl #[])->a≠P0->sp [.ref a] H (λv _=>v=.bl true) λ_ _ _=>False)
  (hCX:∀H e s',CX [] H s₁ (λ_ _ _=>False) e s'->False) :
  z9S (z7N P w) zdq (.call (.ref fa) ⟨[.ref a],[]⟩) (λr s'=>r=.ok (.ret (.bool true))/\OldK s₁.heap s'.heap/\s'.os=s₁.os/\zb1 s'.gens) s₁:=by
 have rv:=L2.vals_ints hi
 have lenV:=hi.length
 have naP:a≠P0:=λz=>by rw[z,hPt] at ha;cases ha
 have hKa:K.lookup a=none:=by
  cases q:K.lookup a with
  |none=>rfl
  |some o=>
   have e:=KX a o q
   rw[ha] at e;cases e
   exact absurd rfl (Ks hnl q)
 obtain⟨H,hH⟩:∃H:Hp,H=upd (upd (λ_=>none) P0 (.tbl #[])) a (.frz {cls:=.type "list",data:=.seq vs.toArray} (.lst (ns.map V.int))):=⟨_,rfl⟩
 have Ha:H a=some (.frz {cls:=.type "list",data:=.seq vs.toArray} (.lst (ns.map V.int))):=by rw[hH];exact z7
 have HP:H P0=some (.tbl #[]):=by rw[hH,z8 naP.symm];exact z7
 have Ho:∀b,b≠a->b≠P0->H b=none:=λb h1 h2=>by rw[hH,z8 h1,z8 h2]
 have hok:HOk P w H s₁.heap:=λb u e=>by
  by_cases h1:b=a
  ·subst h1
   rw[Ha] at e;cases e
   exact⟨ha,by rw[z7B];exact hl,vs,_,rv,ha⟩
  ·by_cases h2:b=P0
   ·subst h2
    rw[HP] at e;cases e
    exact hPt
   ·rw[Ho b h1 h2] at e;cases e
 have un:∀{b:Addr} {o:Obj},s₁.heap.get? b=some o->o.cls≠.none->o.cls≠.type "list"->H b=none:=λ{b o} e n1 n2=>Ho b (λz=>by rw[z,ha] at e;cases e;exact n2 rfl) λz=>by rw[z,hPt] at e;cases e;exact n1 rfl
 have noA:∀{b:Addr} {o:Obj} {es:Array DictEntry} {ep:Nat},s₁.heap.get? b=some o->o.data=.dict es ep->H b=none:=λ{b o es ep} e d=>Ho b (λz=>by rw[z,ha] at e;cases e;cases d) λz=>by rw[z,hPt] at e;cases e;cases d
 have qA:∀{b:Addr} {o:Obj},s₁.heap.get? b=some o->H b=none->(Zx s₁.heap H).get? b=some o:=λe n=>Yy e n
 have nsK:∀{b:Addr} {m:Str->Option Value},s₁.heap.Ns b m->(Zx s₁.heap H).Ns b m:=λ{b m} ⟨o,es,ep,e,d,r⟩=>⟨o,es,ep,qA e (noA e d),d,r⟩
 have hKf:∀b o,K.lookup b=some o->H b=none:=λb o e=>Ho b (λz=>by rw[z,hKa] at e;cases e) λz=>by rw[z,hKP] at e;cases e
 have hKb:K.In (Zx s₁.heap H):=λb o e=>qA (KX b o e) (hKf b o e)
 have hM:Mod K mg (Zx s₁.heap H):=⟨hKb,nsK hns,⟨mb,nsK hb,hbb⟩,let ⟨mc,h1,h2⟩:=hlim;⟨mc,nsK h1,h2⟩⟩
 have hB:(Zx s₁.heap H).BuiltinsAt mg P0:=by
  obtain⟨bm,ob,b1,b2,b3,b4,b5,b6⟩:=hbm
  refine⟨bm,ob,b1,b2,λz=>?_,λz=>?_,qA b3 (un b3 (by rw[b4];exact λz=>by cases z) (by rw[b4];exact λz=>absurd (zdL z) (by decide))),b4,b5,b6⟩
  ·obtain⟨o,es,ep,e,d,_⟩:=hns
   rw[z,e] at b3;cases b3;rw[d] at b6;cases b6
  ·rw[z,hPt] at b3;cases b3;cases b4
 have e0:Env0 P w K mg (Zx s₁.heap H) zdq [] s₁ H:=⟨rfl,hM,λb o e=>z1O e,z9T (Xv _ _),trivial,λb hb=>absurd (show b∈([]:List Addr) from hb) (by simp),hok,.of_eq hg⟩
 refine z9b ((F _ hKb (nsK hns) hB).run zdq [] s₁ H ⟨[.ref a],[]⟩ [.ref a] [.ref a] _ _ hr e0 (hbind s₁ (.ref a)) (.cons rfl .nil) (hsp H (.inr ⟨_,Ha⟩) HP naP)) λr s' h=>?_
 cases r with
 |error e=>exact (hCX H e s' h).elim
 |ok fl=>
  cases fl with
  |next=>exact z8d h
  |brk=>exact z8d h
  |cont=>exact z8d h
  |ret u=>
   obtain⟨v,H',os,bare,un,hok',r',q⟩:=h
   have q':v=.bl true:=q
   subst q'
   obtain rfl:u=zaM true:=r'
   have kp:∀b o,H b=none->s₁.heap.get? b=some o->s'.heap.get? b=some o:=λb o n e=>un.keep b o e n (by intro z;exact absurd (show b∈([]:List Addr) from z) (by simp)) (by simp)
   obtain⟨more,hm⟩:=un.tbls P0 _ HP
   have hP':s'.heap.get? P0=some (zaY (#[]++more)):=hok' P0 _ hm
   have cd:=PySem.W.codeHd_of_K KX hcd
   have cd':zaU s'.heap c P0:=by
    obtain⟨o,vs,file,tf,flags,tg,inF,text,tt,e1,e2,r⟩:=cd
    refine⟨o,vs,file,tf,flags,tg,inF,text,tt,kp c o ?_ e1,e2,r⟩
    exact Ho c (λz=>by rw[z,ha] at e1;cases e1;exact absurd (zdL e2) (by decide)) λz=>by rw[z,hPt] at e1;cases e1;cases e2
   refine⟨rfl,(OldK.refl s₁.heap).step_table (cd.tab hPt) (cd.tab hPt) (cd'.tab hP') (λb o hb e=>?_) hPc,os,bare⟩
   by_cases h1:b=a
   ·subst h1
    have z2:=un.frzs b _ _ Ha
    obtain⟨e2,_⟩:=hok' b _ z2
    rw[ha] at e;cases e
    exact e2
   ·exact kp b o (Ho b h1 hb) e
noncomputable def Jz(K:z7E)(P0:Addr):Sp:=λvs H Q _=>∃(a:Addr) (ns:List Int),vs=[.ref a]/\Rd H a (.lst (ns.map V.int))/\H P0=some (.tbl #[])/\a≠P0/\ns.length<=63/\∀H',Q (.bl true) H'
noncomputable def Jw(f:Fn):Prop:=∀ns:List Int,ns.length<=63->f [.lst (ns.map T.int)] [.tab 0] (λt _=>t=.bl true) (λ_ _ _=>False)
theorem z15{D:DP}{P:z8e}{w:z8s}{K:z7E}{mg:Str->Option Value}{base:Heap}{k:Nat}{fa P0:Addr}{fd:z8O}{x:Str}{f:Fn}{poss:List Pos}{qn:Str}(ht:Jw f)(hD:D.tabs 0=some (P0,poss,qn))
  (F:FnOk P w K mg base (CX1 P w) k fa fd [x] (spN D 1 f)):FnOk P w K mg base (CX1 P w) k fa fd [x] (Jz K P0):=by
 refine F.imp ?_
 rintro vs H Q E ⟨a,ns,rfl,r,hP,hne,hn,q⟩
 refine⟨rfl,[],[P0],[.lst (ns.map T.int)],[.tab 0],⟨.ref a,[],rfl,⟨a,_,rfl,by simp,by simpa using hne,r,Qd ns⟩,rfl⟩,⟨rfl,by simp,by simp,by simp,λi a' o e1 e2=>?_⟩,_,_,ht ns hn,?_,?_⟩
 ·cases i with
  |succ i=>simp at e1
  |zero=>
   have e1:P0=a':=by simpa using e1
   have e2:MO.tab 0=o:=by simpa using e2
   subst e1;subst e2
   exact⟨poss,qn,#[],hD,hP,trivial,λ_ _=>.inl rfl⟩
 ·rintro t μ rfl α' H' st m v d
  have d:v=.bl true:=d
  rw[d]
  exact q H'
 ·exact λ_ _ _ z=>z.elim
end NH
end
section
namespace NH
open PySem PySem.Spec PyProof.Rows L2
noncomputable abbrev inT(x y:T)(μ:Mem):RE T:=match y with
 |.mut i=>(match x with
  |.int z=>λK _=>∃kvs,μ[i]?=some (MO.dic kvs)/\K (.bl (zb (.inl z) kvs).isSome) μ
  |.str z=>λK _=>∃kvs,μ[i]?=some (MO.dic kvs)/\K (.bl (zb (.inr z) kvs).isSome) μ
  |_=>.st)
 |_=>Zn .In x y μ
noncomputable abbrev Yw(f g:De):De:=λτ μ=>(f τ μ).bind λx μ1=>(g τ μ1).bind λy μ2=>inT x y μ2
noncomputable abbrev k_(o b f:De):Ds:=λτ μ=>(f τ μ).out τ λt μ1=>(o τ μ1).out τ λot μ2=>(b τ μ2).out τ λit μ3=>match ot,it with
 |.mut i,.int k=>λE=>(∃ts,μ3[i]?=some (.lst ts)/\(0<=k/\k<ts.length/\k<9223372036854775808)/\E.nx τ (μ3.set i (.lst (ts.set k.toNat t))))\/(∃kvs,μ3[i]?=some (.dic kvs)/\kvs.length<room/\E.nx τ (μ3.set i (.dic (vt (.inl k) t kvs))))
 |.mut i,.str z=>λE=>∃kvs,μ3[i]?=some (.dic kvs)/\kvs.length<room/\E.nx τ (μ3.set i (.dic (vt (.inr z) t kvs)))
 |_,_=>.st
section
variable {X:Cx}{D:DP}{W:XW}{Γ:Cn}{k:Nat}{pins:List (Addr×Obj)}{s:Shared}{σ:St}{H:Hp}{φ α:List Addr}{τ:Sl}{μ:Mem}{f g:De}{a b:Expr}{pos:Pos}
theorem uB{z:Key}:∀{kvs:List (Key×T)} {gs:List (Key×V)},DenK D φ α H kvs gs->(jo gs z).isSome=(zb z kvs).isSome
 |[],_,h=>by cases h;rfl
 |p::r,_,h=>by
  obtain⟨v,q,rfl,d,l⟩:=h
  unfold zb
  by_cases e:p.1=z
  ·rw[if_pos e,vm (p:=(p.1,v)) e];rfl
  ·rw[if_neg e,wR (p:=(p.1,v)) e];exact uB l
theorem z26{x y:T}{v w:V}{u1 u2:Value}{Q:VK}(I:Inv X pins σ H s)(hu:X.A.units+64<cLine)(mr:MRel D φ α H μ)(d1:Den D φ α H x v)(d2:Den D φ α H y w)(r1:RelV v u1)(r2:RelV w u2)
  (p:Post D W φ α H σ (RV D φ Q) (inT x y μ)):z7K (z7N X.prog X.w) X.A (z8h .In u1 u2) (EP X pins σ Q) X.xe s:=by
 have go:∀{i:Nat} {z:Key} {kvs:List (Key×T)},y=.mut i->v=kV z->μ[i]?=some (MO.dic kvs)->Post D W φ α H σ (RV D φ Q) (.ok (.bl (zb z kvs).isSome) μ)->z7K (z7N X.prog X.w) X.A (z8h .In u1 u2) (EP X pins σ Q) X.xe s:=λ{i z kvs} ey ev hi p'=>by
  subst ey;subst ev
  obtain⟨ad,ha,rfl⟩:=d2
  cases r2
  obtain⟨gs,hH,l⟩:=mr.ob i ad _ ha hi
  refine z7r (by omega) I (DGet.k (k:=z) hH) r1 λs' I'=>⟨.bl (jo gs z).isSome,H,I',rfl,?_⟩
  rw[uB l]
  exact p'.here mr rfl
 unfold inT at p
 split at p
 ·split at p
  ·obtain⟨kvs,hi,p⟩:=p.ex1
   have d1:v=_:=d1
   exact go (z:=.inl _) rfl d1 hi p
  ·obtain⟨kvs,hi,p⟩:=p.ex1
   have d1:v=_:=d1
   exact go (z:=.inr _) rfl d1 hi p
  ·exact p.elim
 ·exact QA I hu mr d1 d2 r1 r2 p
theorem z3J(C:Ck D W Γ X k)(ho:vj .In b=true)(ha:PE X a (rdE D W f))(hb:PE X b (rdE D W g)):PE X (.Compare a [.In] [b] pos) (rdE D W (Yw f g)):=by
 rintro pins s σ H Q I ⟨φ,α,τ,μ,sr,mr,p⟩
 refine zc4 (thn (sub ha I sr mr p) ?_) (ji ho)
 rintro u s1 ⟨v,H1,t,μ1,α1,I1,r1,st1,sr1,mr1,d1,p1⟩
 refine thn (sub hb I1 sr1 mr1 p1) ?_
 rintro u' s2 ⟨v',H2,t',μ2,α2,I2,r2,st2,sr2,mr2,d2,p2⟩
 exact z26 I2 C.unt mr2 (d1.step st2) d2 r1 r2 p2
theorem PostS.or{E:Ends}{r r':En->Prop}(p:PostS D W φ α H E λE=>r E\/r' E):PostS D W φ α H E r\/PostS D W φ α H E r':=by
 obtain⟨E0,q,hE⟩:=p
 rcases q with q|q
 ·exact .inl ⟨E0,q,hE⟩
 ·exact .inr ⟨E0,q,hE⟩
theorem Y5(hu:X.A.units+1<cLine):z4M X (λo i v H Q=>(∃l k xs,o=.ref l/\i=.int k/\H l=some (.lst xs)/\0<=k/\k<xs.length/\k<9223372036854775808/\Q (upd H l (.lst (xs.set k.toNat v))))\/(∃l gs z,o=.ref l/\i=kV z/\H l=some (.dK gs)/\gs.length<sizeLine/\Q (upd H l (.dK (putK gs z v))))):=by
 intro pins s σ H o i v ov iv u Q I ro ri rv h
 rcases h with h|⟨l,gs,z,rfl,rfl,hH,hl,q⟩
 ·exact set_list pins s σ H o i v ov iv u Q I ro ri rv h
 ·cases ro
  exact KL hu I (DPut.k (k:=z) hH hl) ri rv λs4 I4=>⟨_,I4,q⟩
theorem z1z (C : Sk D W Γ X k) {o : Expr} {p1 : Pos} {fo fb : De} (hb' : qE b = true) (ha : PE X a (rdE D W f)) (ho : PE X o (rdE D W fo)) (hb : PE X b (rdE D W fb)) :
    PS X (.Assign [.Subscript o b p1] a pos) (rdS D W (k_ fo fb f)) := by
  rintro pins s σ H E I ⟨φ,α,τ,μ,sr,mr,p⟩
  have h1 : zba [.Subscript o b p1] a pos.line X.env = pure false := by cases a <;> rfl
  have h2 : zbb [.Subscript o b p1] a X.env = pure none := by cases a <;> rfl
  refine Jj ha (Yz ho hb (Y5 (by have := C.toCk.unt; omega)) (fun v => by cases b <;> first | (simp [qE] at hb'; done) | rfl)) h1 h2 rfl pins s σ H E I ⟨φ,α,τ,μ,sr,mr,(PostS.out sr p).mono fun t μ1 α1 H1 st1 m1 q v d => ?_⟩
  have sr1 := sr.step st1
  refine ⟨φ,α1,τ,μ1,sr1,m1,(PostS.out sr1 q).mono fun ot μ2 α2 H2 st2 m2 q2 ov dv => ?_⟩
  have sr2 := sr1.step st2
  refine ⟨φ,α2,τ,μ2,sr2,m2,(PostS.out sr2 q2).mono fun it μ3 α3 H3 st3 m3 q3 iv di => ?_⟩
  have d3 := (d.step st2).step st3
  have dv := dv.step st3
  cases ot with
  | «mut» i =>
    obtain ⟨x,hx,rfl⟩ := dv
    cases it with
    | int kk =>
      have di : iv = .int kk := di
      subst di
      rcases PostS.or q3 with q3 | q3
      · obtain ⟨ts,hμ,hk,q3⟩ := PostS.ex1 q3
        obtain ⟨xs,hH,l⟩ := m3.ob i x _ hx hμ
        have st4 : Stp α3 H3 α3 (upd H3 x (.lst (xs.set kk.toNat v))) := Stp.turn (z7P hx) ⟨_,hH⟩
        have hi : i < μ3.length := (z7v.mp hμ).1
        exact .inl ⟨x,kk,xs,rfl,rfl,hH,hk.1,by rw [← l.length]; exact hk.2.1,hk.2.2,PostS.nx q3 st4 (m3.turn hx hi st4 ⟨_,z7,DenL.set (l.step st4) (d3.step st4)⟩) ((sr2.step st3).step st4)⟩
      · obtain ⟨kvs,hμ,hk,q3⟩ := PostS.ex1 q3
        obtain ⟨gs,hH,l⟩ := m3.ob i x _ hx hμ
        have st4 : Stp α3 H3 α3 (upd H3 x (.dK (putK gs (.inl kk) v))) := Stp.turn (z7P hx) ⟨_,hH⟩
        have hi : i < μ3.length := (z7v.mp hμ).1
        exact .inr ⟨x,gs,(.inl kk),rfl,rfl,hH,by rw [yI l]; exact z7I hk (zt (z7D _)),PostS.nx q3 st4 (m3.turn hx hi st4 ⟨_,z7,Vb (d3.step st4) (l.step st4)⟩) ((sr2.step st3).step st4)⟩
    | str z =>
      have di : iv = .str z := di
      obtain ⟨kvs,hμ,hk,q3⟩ := PostS.ex1 q3
      obtain ⟨gs,hH,l⟩ := m3.ob i x _ hx hμ
      have st4 : Stp α3 H3 α3 (upd H3 x (.dK (putK gs (.inr z) v))) := Stp.turn (z7P hx) ⟨_,hH⟩
      have hi : i < μ3.length := (z7v.mp hμ).1
      exact .inr ⟨x,gs,(.inr z),rfl,di,hH,by rw [yI l]; exact z7I hk (zt (z7D _)),PostS.nx q3 st4 (m3.turn hx hi st4 ⟨_,z7,Vb (d3.step st4) (l.step st4)⟩) ((sr2.step st3).step st4)⟩
    | _ => exact PostS.elim q3
  | _ => exact PostS.elim q3
theorem z3k{β:Type}{R:β->Mem->List Addr->Hp->Prop}{kk:T->Mem->RE β}{x y:T}{v w:V}{u1 u2:Value}(I:Inv X pins σ H s)(hu:X.A.units+64<cLine)(mr:MRel D φ α H μ)(d1:Den D φ α H x v)(d2:Den D φ α H y w)(r1:RelV v u1)(r2:RelV w u2)
  (p:Post D W φ α H σ R ((inT x y μ).bind kk)):z7K (z7N X.prog X.w) X.A (z8h .In u1 u2) (EP X pins σ λz H1=>∃t μ1 α1,Stp α H α1 H1/\MRel D φ α1 H1 μ1/\Den D φ α1 H1 t z/\Post D W φ α1 H1 σ R (kk t μ1)) X.xe s:=
 z26 I hu mr d1 d2 r1 r2 (p.bind.mono λt μ' α' H' st m q v d=>⟨t,μ',α',st,m,d,q⟩)
theorem Xx(C:Ck D W Γ X k)(ho:vj .In b=true)(ha:PE X a (rdE D W f))(hb:PE X b (rdE D W g)):PT X (.Compare a [.In] [b] pos) (rdT D W (tE (Yw f g))):=by
 rintro pins s σ H Q I ⟨φ,α,τ,μ,sr,mr,p⟩
 have p:Post D W φ α H σ (λb _ _ H'=>Q b H') ((f τ μ).bind λx μ1=>(g τ μ1).bind λy μ2=>(inT x y μ2).bind kJ):=p
 refine zas (thn (sub ha I sr mr p) ?_) (ji ho)
 rintro u s1 ⟨v,H1,t,μ1,α1,I1,r1,st1,sr1,mr1,d1,p1⟩
 refine thn (sub hb I1 sr1 mr1 p1) ?_
 rintro u' s2 ⟨v',H2,t',μ2,α2,I2,r2,st2,sr2,mr2,d2,p2⟩
 refine thn (z3k I2 C.unt mr2 (d1.step st2) d2 r1 r2 p2) ?_
 rintro d s3 ⟨z,H3,I3,r3,t3,μ3,α3,st3,mr3,d3,p3⟩
 unfold kJ at p3
 split at p3
 ·cases d3
  cases r3
  exact z8a ⟨H3,I3,p3.ok (Stp.refl _ _) mr3⟩
 ·exact p3.elim
end
noncomputable def Uj(Γ:Cn)(b:Expr):Bool:=match b with
 |.Name x _=>(idx Γ.N x).isSome
 |_=>false
noncomputable def z2z:ER:=λr Γ e=>match e with
 |.Compare a [.In] [b] _=>gd (Uj Γ b&&vj .In b) ((r.e Γ a).bind λf=>(r.e Γ b).bind λg=>some (Yw f g))
 |_=>none
theorem z0v{D:DP}:EOk D z2z:=by
 intro r H X W Γ k e d C h
 unfold z2z at h
 split at h
 ·obtain⟨hb,h1⟩:=zq h
  obtain⟨f,e1,h1⟩:=bnd h1
  obtain⟨g,e2,h1⟩:=bnd h1
  cases h1
  simp only[z7x] at hb
  exact z3J C hb.2 (H.e C e1) (H.e C e2)
 ·cases h
noncomputable def YR:TR:=λr Γ e=>match e with
 |.Compare a [.In] [b] _=>gd (Uj Γ b&&vj .In b) ((r.e Γ a).bind λf=>(r.e Γ b).bind λg=>some (tE (Yw f g)))
 |_=>none
theorem UY{D:DP}:TOk D YR:=by
 intro r H X W Γ k e d C h
 unfold YR at h
 split at h
 ·obtain⟨hb,h1⟩:=zq h
  obtain⟨f,e1,h1⟩:=bnd h1
  obtain⟨g,e2,h1⟩:=bnd h1
  cases h1
  simp only[z7x] at hb
  exact Xx C hb.2 (H.e C e1) (H.e C e2)
 ·cases h
noncomputable def Vw:SR:=λr Γ s=>match s with
 |.Assign [.Subscript o b _] e _=>gd (qE b) ((r.e Γ o).bind λfo=>(r.e Γ b).bind λfb=>(r.e Γ e).bind λf=>some (k_ fo fb f))
 |_=>none
theorem KO{D:DP}:SOk D Vw:=by
 intro r H X W Γ k e d C h
 unfold Vw at h
 split at h
 ·obtain⟨hb,h1⟩:=zq h
  obtain⟨fo,e1,h1⟩:=bnd h1
  obtain⟨fb,e2,h1⟩:=bnd h1
  obtain⟨f,e3,h1⟩:=bnd h1
  cases h1
  exact z1z C hb (H.e C.toCk e3) (H.e C.toCk e1) (H.e C.toCk e2)
 ·cases h
end NH
end
section
namespace NH.P
open PySem L2 NH
@[reducible] noncomputable def kH:List Ds:=[(sIf (q9 (tE (z5 qm [(eV 0),(eV 1)]))) [(zC 13 [(eC (.str "no moment, house or count of the shape"))])] [])]
noncomputable def qP:Fn:=fnW 2 0 kH
@[reducible] noncomputable def Ql:List Ds:=[(zF (z5 qP [(eV 1),(ze (eV 0) 0)])),(zF (z5 qP [(eV 2),(ze (eV 0) 1)])),(zF (z5 qP [(eV 3),(ze (eV 0) 2)])),(zh (z9 .Add (z9 .Mult (z9 .Add (z9 .Mult (eV 1) (ze (eV 0) 1)) (eV 2)) (ze (eV 0) 2)) (eV 3)))]
noncomputable def jb:Fn:=fnW 4 0 Ql
@[reducible] noncomputable def uX:List Ds:=[(sIf (tOr (q9 (tE (jZ [4] (eV 1)))) (tE (zi .NotEq (eB1 vN (eV 1)) (eC (.int 3))))) [(zh (eC (.bl false)))] []),(sIf (q9 (wb (tE (z5 qm [(eIx (eV 1) (eC (.int 0))),(ze (eV 0) 1)])) (wb (tE (z5 qq [(eIx (eV 1) (eC (.int 1)))])) (tE (z5 qq [(eIx (eV 1) (eC (.int 2)))]))))) [(zh (eC (.bl false)))] []),(zh (eCh (eC (.int 0)) [(.LtE,(eIx (eV 1) (eC (.int 1)))),(.Lt,(eIx (eV 1) (eC (.int 2)))),(.LtE,(ze (eV 0) 0))]))]
noncomputable def vP:Fn:=fnW 2 0 uX
@[reducible] noncomputable def jw:List Ds:=[(sIf (q9 (tE (z5 vP [(eV 0),(eV 1)]))) [(zC 18 [(eC (.str "no lease of the shape"))])] [])]
noncomputable def qU:Fn:=fnW 2 0 jw
@[reducible] noncomputable def ku:List Ds:=[(ql (eV 0) 5 (eV 1)),(ql (eV 0) 6 (eV 2)),(ql (eV 0) 7 (eIx (eV 2) (eC (.int 2)))),(ql (eV 0) 8 (eC (.bl false)))]
noncomputable def jT:Fn:=fnW 3 0 ku
@[reducible] noncomputable def JQ:List Ds:=[(zh (zi .Lt (eB2 xV (eIx (ze (eV 0) 6) (eC (.int 1))) (eV 1)) (eB2 Qo (ze (eV 0) 7) (eV 2))))]
noncomputable def meets:Fn:=fnW 3 0 JQ
@[reducible] noncomputable def js:List Ds:=[(zk 3 (eV 1)),(jI (.one 4) (iE (VT 0 (eIx (ze (eV 0) 6) (eC (.int 1))) (eV 0))) [(sIf (tE (z5 meets [(eV 4),(eV 3),(z9 .Add (eV 3) (eV 2))])) [(zk 3 (ze (eV 4) 7))] [])]),(zh (eV 3))]
noncomputable def qX:Fn:=fnW 3 2 js
@[reducible] noncomputable def jE:List Ds:=[(zk 3 uW),(jI (.one 4) (iE (eV 0)) [(sIf (tE (z5 meets [(eV 4),(eV 1),(z9 .Add (eV 1) (eV 2))])) [(k_ (eV 3) (eIx (ze (eV 4) 6) (eC (.int 0))) (eC (.bl true)))] [])]),(zk 5 (eC (.int 0))),(Wg (tE (Yw (eV 5) (eV 3))) [(zk 5 (z9 .Add (eV 5) (eC (.int 1))))]),(zh (eV 5))]
noncomputable def wA:Fn:=fnW 3 3 jE
@[reducible] noncomputable def jz:List Ds:=[(ql (eV 0) 9 (eV 1)),(ql (eV 0) 10 (Vv []))]
noncomputable def qS:Fn:=fnW 2 0 jz
@[reducible] noncomputable def qr:List Ds:=[(sIf (q9 (tE (z5 qL [(eV 1)]))) [(zC 17 [(eC (.str "a holder is a text of one to eight small letters"))])] []),(sIf (wb (tE (zi .IsNot (eV 2) (eC .non))) (q9 (tE (z5 qm [(eV 2),(ze (ze (eV 0) 9) 1)])))) [(zC 13 [(eC (.str "no house of the shape"))])] []),(sIf (q9 (tE (z5 wD [(eV 4)]))) [(zC 16 [(eC (.str "a span is a whole number from 1 on"))])] []),(sIf (q9 (tE (z5 qq [(eV 3)]))) [(zC 16 [(eC (.str "a moment is a whole number"))])] [])]
noncomputable def qf:Fn:=fnW 5 0 qr
@[reducible] noncomputable def wj:List Ds:=[(zh (qI 1 [1] (.one 0) (iE (ze (eV 0) 10)) [(tE (zi .Eq (eIx (ze (eV 0) 6) (eC (.int 0))) (eV 1)))] (eV 0)))]
noncomputable def qg:Fn:=fnW 2 0 wj
@[reducible] noncomputable def qZ:List Ds:=[(sIf (tE (zi .Is (eV 1) (eC .non))) [(zh (z_ [(z5 wA [(ze (eV 0) 10),(eV 2),(eV 3)]),(eV 2),(z9 .Add (eV 2) (eV 3))]))] []),(zk 4 (z5 qX [(zW 43 qg (eV 0) [(eV 1)]),(eV 2),(eV 3)])),(zh (z_ [(eV 1),(eV 4),(z9 .Add (eV 4) (eV 3))]))]
noncomputable def zY:Fn:=fnW 4 1 qZ
@[reducible] noncomputable def kK:List Ds:=[(zF (zW 43 qf (eV 0) [(eV 1),(eV 2),(eV 3),(eV 4)])),(zk 5 (zW 43 zY (eV 0) [(eV 2),(eB2 xV (eV 3) (eC (.int 0))),(eV 4)])),(sIf (tOr (tE (zi .GtE (eIx (eV 5) (eC (.int 0))) (ze (ze (eV 0) 9) 1))) (tE (zi .Gt (eIx (eV 5) (eC (.int 2))) (ze (ze (eV 0) 9) 0)))) [(zC 19 [(eC (.str "no such stretch is free"))])] []),(zF (WC (ze (eV 0) 10) (z07 42 jT [(eV 1),(eV 5)]))),(zh (eV 5))]
noncomputable def qJ:Fn:=fnW 5 1 kK
@[reducible] noncomputable def j8:List Ds:=[(zF (z5 qU [(ze (eV 0) 9),(eV 1)])),(jI (.one 2) (iE (ze (eV 0) 10)) [(sIf (wb (tE (zi .Eq (ze (eV 2) 6) (eV 1))) (q9 (tE (ze (eV 2) 8)))) [(zh (eV 2))] [])]),(zC 18 [(eC (.str "no lease that was let and isn't cut"))])]
noncomputable def kc:Fn:=fnW 2 1 j8
@[reducible] noncomputable def k7:List Ds:=[(zk 3 (zW 43 kc (eV 0) [(eV 1)])),(sIf (tE (zi .Is (eV 2) (eC .non))) [(zk 4 (eIx (eV 1) (eC (.int 1))))] [(sIf (wb (tE (z5 qq [(eV 2)])) (tE (eCh (eIx (eV 1) (eC (.int 1))) [(.LtE,(eV 2)),(.Lt,(eIx (eV 1) (eC (.int 2))))]))) [(zk 4 (z9 .Add (eV 2) (eC (.int 1))))] [(zC 16 [(eC (.str "no moment of the lease"))])])]),(ql (eV 3) 7 (eV 4)),(ql (eV 3) 8 (eC (.bl true)))]
noncomputable def Ju:Fn:=fnW 3 2 k7
end NH.P
end
section
namespace NH
open PySem PySem.Spec PyProof.Rows L2
theorem walkT2{l:zes}{q:z8e}{loose:List Str}{XP:(Str->Option Value)->Heap->Prop}{YP:z8s->Heap->Prop}{d:DefRec}{K:Params->z7E}{x:Str}{k:Nat}{P0:Addr}(hk:k<=90)(hn:l.most=some 63)(hdf:d.params.defaults=[])
  (hY:∀(w:z8s) (h:Heap),YP w h->(K w.params).In h) (hT:∀(w:z8s) (h:Heap),YP w h->h.get? P0=some (zaY #[]))
  (F:∀(w:z8s) (mg:Str->Option Value) (fa:Addr) (h:Heap),(K w.params).In h->h.Ns z7U mg->mg d.name=some (.ref fa)->
   (VS (K w.params)=true/\(K w.params).lookup P0=none/\P0≠zdK/\∃c,zdb (K w.params) c P0=true)/\∃fd:z8O,(∀(s:z7y) (u:Value),zb4 s fd ⟨[u],[]⟩ [(x,u)])/\∀base:Heap,(K w.params).In base->base.Ns z7U mg->base.BuiltinsAt mg P0->FnOk l.prog w (K w.params) mg base (CX1 l.prog w) k fa fd [x] (Jz (K w.params) P0)) :
  PySem.W.WalkO q loose XP YP l.row.toRowW d [] (λf vs=>zeP f vs):=by
 refine Att.attach_call hn hdf λw s₀ s₁ mg mb fa o pm cd doc a vs ns G Y ho hd hcd hmg hobj hints hlen hg=>?_
 have KX:=hY w _ Y
 obtain⟨⟨f1,f2,f3,c,f4⟩,fd,hb,hF⟩:=F w mg fa _ KX G.T.g hmg
 exact X5 KX G.T.g G.T.b G.T.builtins G.T.nolimit hg G.T.bmain f1 (hT w _ Y) f2 f3 f4 hobj hints (z7V hlen (by decide)) (Room.mono (k:=90) ⟨rfl,by decide,by decide⟩ hk) hF hb (λH hr hP hne=>⟨a,ns,rfl,hr,hP,hne,hlen,λ_=>rfl⟩) λH e s' z=>by
  obtain⟨_,_,_,_,_,_,_,_,_,_,_,_,_,_,_,z⟩:=z
  exact z
end NH
end
section
namespace NH
open PySem PySem.Spec PyProof.Rows L2
noncomputable abbrev Uq(n:Nat)(o f:De):De:=λτ μ=>(o τ μ).bind λt μ1=>(Qy t n μ1).bind λw μ2=>.grd (WU w) ((f τ μ2).bind λ_ μ3=>.ok .non μ3)
noncomputable abbrev z6K(j:Nat):De:=λ_ (μ:Mem) K _=>(∃i:Nat,μ[i]?=some (MO.tab j))/\K (.clo (2 * j) [.clo (100+j) []]) μ
noncomputable abbrev z5l(c:Nat)(g:Fn)(fs:List De):De:=λτ μ=>(evs fs τ μ).bind (yw c λts μ=>g (ts++[.non]) μ)
noncomputable def Vr:Str:=⟨#[37]⟩
noncomputable def til(m:Str):Str:=⟨#[126]++m.cps⟩
section
variable {X:Cx}{D:DP}{W:XW}{Γ:Cn}{k:Nat}{pins:List (Addr×Obj)}{s:Shared}{σ:St}{H:Hp}{φ α:List Addr}{τ:Sl}{μ:Mem}{f g:De}{fs:List De}{a b c:Expr}{pos:Pos}{es:List Expr}
theorem Wv{A:z89}{E:Value->z7y->Prop}{ad C0 dx:Addr}{gs:List (Str×V)}{m:Str}{v:V}{pl:Sem Bool}{Q:Value×List Value->z7y->Prop}(I:Inv X pins σ H s)(e:H ad=some (.ins C0 dx gs))(c:Cls X.K C0)(n:NoAttr X.K C0 m)(l:gs.lookup m=some v)
  (h:∀u s',Inv X pins σ H s'->RelV v u->Q (u,[]) s'):z7K (z7N X.prog X.w) A (zeo (.ref ad) m pl) Q E s:=by
 obtain⟨mA,O,r,_,_,_⟩:=kI I.hok e
 obtain⟨od,J,hl⟩:=O.look
 exact PySem.W.method_usual I.kIn J (z9n (c.get m)).1 (z9n (c.get m)).2 n rfl (u5 I e c n l h)
theorem z1L(C:Ck D W Γ X k){m:Str}{n:Nat}{o:Expr}{go:De}{apos:Pos}(hU:Vr∈Γ.U)(hg:Γ.gl Vr=.kpr)(hn:(m,n)∈Γ.fld)(hc:Γ.calm=true)(hp:zR o=true)(hline:(apos.endLine == pos.line)=true)(hst:noStar a=true)(ho:PE X o (rdE D W go))(ha:PE X a (rdE D W f)) :
  PE X (.Call (.Attribute o m apos) [a] [] pos) (rdE D W (Uq n go f)):=by
 have gq:=(C.glU _ hU).1
 rw[hg] at gq
 rintro pins s σ H Q I ⟨φ,α,τ,μ,sr,mr,p⟩
 rw[arm_eval_Call,qA hp]
 refine z7w (thn (sub ho I sr mr p) ?_)
 rintro u s1 ⟨v,H1,t,μ1,α1,I1,r1,st1,sr1,mr1,d1,p1⟩
 refine z7w (z9B ?_)
 have hform:methodCallForm ([a].length+([]:List z9U).length) (z9v pos (z8l [a] X.env)) (zaB pos (z9r [] X.env))=true:=XU (by simp[hst]) (by show (1:Nat)<30;decide)
 have hpos:zbi true o X.env apos pos=pure pos:=by unfold zbi;simp[hline]
 have run:∀{ad0 C0 dx:Addr} {gs:List (Str×V)} {z:V} {t0:T},H1 ad0=some (.ins C0 dx gs)->Cls X.K C0->NoAttr X.K C0 m->gs.lookup m=some z->u=.ref ad0->Den D φ α1 H1 t0 z->Post D W φ α1 H1 σ (RV D φ Q) (RE.grd (WU t0) ((f τ μ1).bind λ_ μ3=>.ok .non μ3))->
   z7K (z7N X.prog X.w) X.A (zcC o m apos pos X.env u ([a].length+([]:List z9U).length) (z9v pos (z8l [a] X.env)) (zaB pos (z9r [] X.env))) (EP X pins σ Q) X.xe s1:=λ{ad0 C0 dx gs z t0} e1 cl na lk hu dz p=>by
  subst hu
  obtain⟨hj,p2⟩:=Post.grd p
  obtain⟨fa,kk,rfl,hkk,hF⟩:=gq.1 t0 φ α1 H1 z hj dz
  unfold zcC
  rw[hform]
  refine z7w (z8f (Wv I1 e1 cl na lk λu' s1' I1' r'=>?_))
  cases (show u'=z80 fa from r')
  refine z7w (zc5 hpos ?_)
  refine PySem.W.callWith_F (first:=[]) (hF X.A X.stack s1' I1'.env0).1 (thn (zy ha qD (z4 hst) pos pins s1' σ H1 (λvs H2=>∃v t μ2 α2,vs=[v]/\Stp α1 H1 α2 H2/\MRel D φ α2 H2 μ2/\Den D φ α2 H2 t v/\Post D W φ α2 H2 σ (RV D φ Q) (.ok .non μ2)) I1' ⟨φ,α1,τ,μ1,sr1,mr1,p2.bind.mono λt μ' α' H' st m q v d=>⟨v,t,μ',α',rfl,st,m,d,q⟩⟩) ?_) (z4 hst) rfl
  rintro us s2 ⟨vs,H2,I2,rv,v2,t2,μ2,α2,rfl,st2,m2,d2,p3⟩
  obtain⟨ux,rfl,rx⟩:=vals1 rv
  obtain⟨fa',kk',e',hkk',hF'⟩:=gq.1 t0 φ α2 H2 _ hj (dz.step st2)
  cases e'
  have hE:=hF' X.A X.stack s2 I2.env0
  refine⟨hE.1,zab (z9b (hE.2 ((C.rom hc).mono hkk') ux v2 Q t2 φ α2 μ2 rx d2 m2 (λα' H' st' m'=>p3.ok st' m' _ rfl)) λr s' hq=>?_)⟩
  cases r with
  |error e=>
   obtain⟨_,_,_,_,_,_,_,_,_,_,_,_,_,_,_,z⟩:=hq
   exact z.elim
  |ok fl=>
   cases fl with
   |ret u=>exact I2.after hq
   |next=>exact z8d hq
   |brk=>exact z8d hq
   |cont=>exact z8d hq
 unfold Qy at p1
 split at p1
 ·split at p1
  ·rename_i c fs _ w hw
   obtain⟨ad,C0,dx,gs,rfl,_,_,e1,e2,l⟩:=d1
   obtain⟨y,z,hy,hz,dz⟩:=l.look hw
   obtain⟨c0,c1,c2⟩:=C.fld c C0 m n e1 hn
   rw[hy] at c0;cases c0
   exact run e2 c1 c2 hz r1 dz p1
  ·exact Post.elim p1
 ·obtain⟨c,fs,w,hi,hw,q⟩:=Post.ex3 p1
  obtain⟨ad,hi',rfl⟩:=d1
  obtain⟨C0,dx,gs,e1,e2,l⟩:=mr1.ob _ ad _ hi' hi
  obtain⟨y,z,hy,hz,dz⟩:=l.look hw
  obtain⟨c0,c1,c2⟩:=C.fld c C0 m n e1 hn
  rw[hy] at c0;cases c0
  exact run e2 c1 c2 hz r1 dz q
 ·exact Post.elim p1
theorem z1J{c:Nat}{g:Fn}{C0 fI:Addr}{fd:z8O}{ps:List Str}{kk:Nat}{us:List Value}{vs:List V}{ts:List T}{Q:VK}(C:Ck D W Γ X k)(ad:D.cad c=some C0)(M:Mk X.K C0 fI)(F:FnOk X.prog X.w X.K X.mg X.base (CX1 X.prog X.w) kk fI fd ps (spN D ps.length g))
  (hr:Room (kk+1) X.A) (hb:Binds X.K fd ps [.none]) (har:∀ts μ K Z,g ts μ K Z->ts.length=ps.length) (I:Inv X pins σ H s) (r:Vals vs us) (mr:MRel D φ α H μ) (d:DenL D φ α H ts vs) (p:Post D W φ α H σ (RV D φ Q) (yw c (λts μ=>g (ts++[.non]) μ) ts μ)) :
  z7K (z7N X.prog X.w) X.A (call (.ref C0) us) (EP X pins σ Q) X.xe s:=by
 obtain⟨K,Z,hg,hk,hz⟩:=p
 have hl:(T.mut μ.length::ts++[T.non]).length=ps.length:=har _ _ _ _ hg
 have hlv:(V.ref 0::(vs++[V.non])).length=ps.length:=by
  have:=d.length
  simp only[z7X,z8b,z8S] at hl ⊢;omega
 have hq:∀x dx,H x=none->H dx=none->dx≠x->spN D ps.length g (.ref x::(vs++[.non])) (upd (upd H dx (.own x)) x (.ins C0 dx [])) (λv H2=>v=.non/\Q (.ref x) H2) (λc d H'=>W c d σ H'):=by
  intro x dx hx hdx hne
  have sm1:yl H (upd H dx (.own x)):=za hdx
  have hx1:upd H dx (.own x) x=none:=by rw[z8 (z9m hne)];exact hx
  have mr1:MRel D φ α (upd H dx (.own x)) μ:=mr.new sm1
  have st0:Stp α H (α++[x]) (upd (upd H dx (.own x)) x (.ins C0 dx [])):=(Stp.new sm1).trans (jg hx1)
  have mr2:MRel D φ (α++[x]) (upd (upd H dx (.own x)) x (.ins C0 dx [])) (μ++[.obj c []]):=mr1.layO hx1 ⟨C0,dx,[],ad,z7,rfl⟩
  have hget:(α++[x])[μ.length]?=some x:=by rw[←mr.len,z7L (z7D _)];simp
  refine⟨hlv,φ,α++[x],.mut μ.length::(ts++[T.non]),μ++[MO.obj c []],⟨.ref x,vs++[.non],rfl,⟨x,hget,rfl⟩,DenL.append (d.step st0) (show DenL D φ (α++[x]) _ [T.non] [V.non] from ⟨.non,[],rfl,rfl,rfl⟩)⟩,mr2,_,_,hg,?_,?_⟩
  ·rintro t μ2 ⟨rfl,q⟩ α2 H3 st m v dv
   refine⟨dv,?_⟩
   obtain⟨β,e,_⟩:=st.ext
   refine hk _ _ q α2 H3 (st0.trans st) m _ ⟨x,?_,rfl⟩
   rw[e,z7F (z7v.mp hget).1];exact hget
  ·rintro e fs μ2 q α2 H3 C1 d1 st m had xd
   exact hz _ _ _ q α2 H3 C1 d1 (st0.trans st) m had xd
 have hq1:=hq (s.heap.objs.size+1) s.heap.objs.size (I.hok.fresh (zb6 _)) (I.hok.fresh (z7D _)) (z85 (z8J _))
 have I2:=Inv.made (C:=C0) I
 have r2:Vals (V.ref (s.heap.objs.size+1)::(vs++[V.non])) (z80 (s.heap.objs.size+1)::us++[.none]):=.cons rfl (r.append (.cons rfl .nil))
 have hlu:(z80 (s.heap.objs.size+1)::us++[z8F]).length=ps.length:=by
  have:=r2.length
  rw[←this]
  simpa using hlv
 refine zab (uy (f:=fI) I.kIn M.makes M.init (beq_iff_eq.mp M.fn) (z9b (F.run _ X.stack _ _ ⟨z80 (s.heap.objs.size+1)::us,[]⟩ (z80 (s.heap.objs.size+1)::us++[.none]) _ _ (λc d H'=>W c d σ H') (hr.make C0 us [])
  (I2.env0.make C0 us []) (by simpa using hb _ (z80 (s.heap.objs.size+1)::us) I2.kIn hlu) r2 hq1) λr s' hq'=>?_))
 cases r with
 |error e=>exact C.xe e s' (yq (E:=λc d H'=>W c d σ H') I2 hq' λcls d H' w=>w)
 |ok fl=>
  cases fl with
  |ret u=>
   obtain⟨v,H',I3,rv,ev,q3⟩:=I2.after hq'
   subst ev
   exact⟨rv,⟨V.ref (s.heap.objs.size+1),H',I3,rfl,q3⟩⟩
  |next=>exact z8d hq'
  |brk=>exact z8d hq'
  |cont=>exact z8d hq'
theorem YI(C:Ck D W Γ X k){x:Str}{c n:Nat}{g:Fn}{p0:Pos}(hx:x∈Γ.G)(hU:til x∈Γ.U)(hg:Γ.gl (til x)=.mkd c x n g)(hc:Γ.calm=true)(ha:EsOk X D W (a::es) fs):PE X (.Call (.Name x p0) (a::es) [] pos) (rdE D W (z5l c g fs)):=by
 have q:=(C.glU _ hU).1
 rw[hg] at q
 obtain⟨C0,fI,fd,ps,kk,ad,hm,M,hb,hkk,Fn,har,_⟩:=q
 have hr:=(C.rom hc).mono hkk
 have hs:=ha.stars
 have pa:=wM ha
 rintro pins s σ H Q I ⟨φ,α,τ,μ,sr,mr,p⟩
 refine z8t (vB I (C.glb x hx) hm ?_ (C.dbG x hx))
 simp only[z8B,z7x] at hs
 refine z9y (h₀:=X.base) I.ok.mod.kin M.kp (thn (UZ pa I sr mr p) ?_) (z4 hs.1) (zX hs.2)
 rintro us s1 ⟨vs,H1,ts,μ1,α1,I1,r1,st1,sr1,mr1,d1,_,p1⟩
 exact⟨I1.kIn,z1J C ad M Fn hr hb har I1 r1 mr1 d1 p1⟩
end
noncomputable def z7u:ER:=λr Γ e=>match e with
 |.Lambda ⟨[],[⟨y,none,_⟩],none,[],[],none,[]⟩ (.Constant .none _ _) sc pl=>gd (z0d y sc&&Γ.U.contains Vr) (match Γ.gl Vr,Γ.lam with
  |.kpr,some (j,poss)=>gd (decide (pl∈poss)&&decide (j<2)) (some (z6K j))
  |_,_=>none)
 |_=>none
noncomputable def YS:ER:=λr Γ e=>match e with
 |.Call (.Attribute o m pa) [a] [] pc=>gd (zR o&&pa.endLine == pc.line&&Γ.calm&&noStar a&&Γ.U.contains Vr&&m == ("keeper":Str)) ((r.e Γ o).bind λgo=>(r.e Γ a).bind λf=>(match Γ.gl Vr,Γ.fld.lookup m with
  |.kpr,some n=>some (Uq n go f)
  |_,_=>none))
 |_=>none
theorem yM{x:Str}{n:Nat}:∀{l:List (Str×Nat)},l.lookup x=some n->(x,n)∈l
 |[],h=>by cases h
 |(y,m)::r,h=>by
  rw[z8c] at h
  split at h
  ·rename_i e
   have e:=beq_iff_eq.mp e
   cases h
   rw[e];exact z7Z
  ·exact z7O _ (yM h)
theorem YJ{D:DP}:EOk D YS:=by
 intro r H X W Γ k e d C h
 unfold YS at h
 split at h
 ·have hh:=zq h
  clear h
  obtain⟨hb,h⟩:=hh
  simp only[z7x] at hb
  obtain⟨⟨⟨⟨⟨h0,h1⟩,h2⟩,h3⟩,h4⟩,h5⟩:=hb
  obtain⟨go,e1,h⟩:=bnd h
  obtain⟨f,e2,h⟩:=bnd h
  split at h
  ·rename_i hl hm
   cases h
   exact z1L C (by simpa using h4) hl (yM hm) h2 h0 h1 h3 (H.e C e1) (H.e C e2)
  ·cases h
 ·cases h
noncomputable def z5x:ER:=λr Γ e=>match e with
 |.Call (.Name x _) (a::es) [] _=>gd ((idx Γ.N x).isNone&&Γ.calm&&Γ.G.contains x&&Γ.U.contains (til x)) ((cEs r Γ (a::es)).bind λfs=>(match Γ.gl (til x) with
  |.mkd c nm n g=>gd (nm == x&&decide (es.length+1=n)) (some (z5l c g fs))
  |_=>none))
 |_=>none
theorem z12{D:DP}:EOk D z5x:=by
 intro r H X W Γ k e d C h
 unfold z5x at h
 split at h
 ·rename_i x p0 a es pos
  have hh:=zq h
  clear h
  obtain⟨hb,h⟩:=hh
  simp only[z7x] at hb
  obtain⟨⟨⟨h0,h1⟩,h2⟩,h3⟩:=hb
  obtain⟨fs,e1,h⟩:=bnd h
  cases hl:Γ.gl (til x) with
  |mkd c nm n g=>
   simp only[hl] at h
   obtain⟨h4,h5⟩:=zq h
   simp only[z7x] at h4
   have h4:=beq_iff_eq.mp h4.1
   subst h4
   cases h5
   exact YI C (by simpa using h2) (by simpa using h3) hl h1 (wJ H C e1)
  |_=>simp[hl] at h
 ·cases h
noncomputable def uU (qns:List Str)(fo:Option Addr):Nat->Addr->Option HO->List V->Prop:=λn a ob xs=>
 (∃j qn,qns[j]?=some qn/\j<2/\n=2 * j/\∃c,xs=[.ref c]/\ob=some (.ext (Kn a c qn)))\/(∃j qn,qns[j]?=some qn/\j<2/\n=100+j/\xs=[]/\ob=some (.ext (wO a qn)))\/(n=1/\xs=[]/\ob=none/\fo=some a)
section
variable {P:Program}{w:World}{K:PySem.W.Frag}{mg:Str->Option Value}{base:Heap}{D:DP}{k n:Nat}
theorem UI{A:z89}{outer:List Env}{s:z7y}{H:Hp}{a c:Addr}{qn:Str}{u:Value}{x:V}{Q:VK}(hr:Room 1 A)(e0:Env0 P w K mg base A outer s H)(hn:Kn a c qn s.heap)(hrec:s.heap.CodeRec (.ref c) qn)(r:RelV x u)(q:Q .non H) :
  z9S (z7N P w) A (.call (.ref a) ⟨[u],[]⟩) (CR (CX1 P w) outer P w H s Q (λ_ _ _=>False)) s:=by
 obtain⟨y,pa,kk,bp,sc,pm,ctv,hs,ho⟩:=hn
 simp only[z0d,z7x,z8j,beq_iff_eq,z9e,bne_iff_ne,ne_eq] at hs
 obtain⟨⟨⟨⟨⟨⟨h1,h2⟩,h3⟩,h4⟩,h5⟩,h6⟩,h7⟩:=hs
 have loc:∀z∈[y],sc.names.lookup z=some .local:=λz hz=>by
  have:z=y:=by simpa using hz
  rw[this];exact h5
 have S:FnScope [y] [y] sc:=⟨h1,h2,h3,by simp,rfl,λz hz=>.inl (loc z hz),h4⟩
 have lim:s.heap.NoLimit:=e0.mod.nolimit.keeps λb o e=>(e0.bs b o e).1
 have hbind:zb4 s (zao "<lambda>" qn ⟨[],[⟨y,none,pa⟩],none,[],[],none,[]⟩ (.Constant .none kk bp) sc [] pm (.ref c) ctv) ⟨[u],[]⟩ [(y,u)]:=.of_eq (bind1 rfl rfl)
 refine zc9 (fd:=zao "<lambda>" qn ⟨[],[⟨y,none,pa⟩],none,[],[],none,[]⟩ (.Constant .none kk bp) sc [] pm (.ref c) ctv) hr.depth ho rfl S.co S.gen rfl hrec (hbind _ _ _ _ (z9M S.kind (λz hz=>?_) λenv he s1 yy=>?_))
 ·obtain⟨z,w⟩:=z
  have:z=y:=by simpa using congrArg Prod.fst (z7C.mp hz)
  subst this
  exact .inl (loc z (by simp))
 subst he
 refine⟨lim.keeps yy.toInCall.keep,zca ?_⟩
 have I0:=xN (CX:=λ_ _ _ _ _ _=>False) (E:=λ_ _ _=>False) (f:=a) (cd:=.ref c) (qual:=qn) (A:=A) (vs:=[x]) (us:=[u]) S hr.hd e0 rfl (.cons r .nil) yy
 generalize hX:({Vc (λ_ _ _ _ _ _=>False) P w K mg base [y] qn sc a (.ref c) A outer s H (λ_ _ _=>False) with xe:=λ_ _=>False}:Cx)=Y
 have I:Inv Y [] (start [y] [x]) H s1:=by
  subst hX
  exact⟨⟨I0.ok.mod,I0.ok.kind,I0.ok.glob,I0.ok.blt,I0.ok.above,I0.ok.inj,I0.ok.has,I0.ok.cab,I0.ok.hd,I0.ok.frames,I0.ok.stk,I0.ok.exf,I0.ok.bs,I0.ok.bsz,I0.ok.noex,I0.ok.exfs,I0.ok.funs,I0.ok.frf⟩,I0.os,I0.bare,I0.base,I0.loc,I0.cell,I0.free,I0.freeC,I0.pin,I0.hok,I0.len⟩
 have B:=Y9 (X:=Y) (j:=kk) (pos:=bp) [] s1 _ H Q I q
 have XA:Y.A=A.deeper (zak qn sc s.heap.objs.size a (.ref c)):=by rw[←hX];rfl
 have Xp:Y.prog=P/\Y.w=w/\Y.env=zak qn sc s.heap.objs.size a (.ref c)/\(∀e s,Y.xe e s->False)/\Y.fs=frs outer/\Y.H₀=H/\Y.s₀=s/\Y.ex=[]:=by
  subst hX;exact⟨rfl,rfl,rfl,λ_ _ z=>z,rfl,rfl,rfl,rfl⟩
 obtain⟨x1,x2,x3,x4,x5,x6,x7,x8⟩:=Xp
 rw[XA,x1,x2,x3] at B
 refine z8i B (λw s' hs=>?_) λe s' z=>(x4 e s' z).elim
 obtain⟨v',H',J,rv,q'⟩:=hs
 have b:=J.base
 have o:=J.os
 have hk:=J.hok
 rw[x5,x6,x7,x8] at b
 rw[x7] at o
 rw[x1,x2] at hk
 exact⟨v',H',o,J.bare,b,hk,rv,q'⟩
theorem z0f{A0:Ads}{x:Str}{tbs:List (Addr×List Pos×Str)}{fo:Option Addr}{k1:Nat}(h1:1<=k1)
  (hfo:∀fa,fo=some fa->∀(φ α:List Addr) (H:Hp),∃kk,kk<=k1/\∀(A:z89) (outer:List Env) (s:z7y),Env0 P w K mg base A outer s H->zcT fa s.heap/\(Room kk A->∀(u:Value) (x:V) (Q:VK) (t:T) (φ' α':List Addr) (μ:Mem),RelV x u->Den (mkD K A0 (uU (tbs.map (·.2.2)) fo) λj=>tbs[j]?) φ' α' H t x->MRel (mkD K A0 (uU (tbs.map (·.2.2)) fo) λj=>tbs[j]?) φ' α' H μ->(∀α2 H',Stp α' H α2 H'->MRel (mkD K A0 (uU (tbs.map (·.2.2)) fo) λj=>tbs[j]?) φ' α2 H' μ->Q .non H')->
   z9S (z7N P w) A (.call (.ref fa) ⟨[u],[]⟩) (CR (CX1 P w) outer P w H s Q (λ_ _ _=>False)) s)) :
  GlOkM (mkD K A0 (uU (tbs.map (·.2.2)) fo) λj=>tbs[j]?) P w K mg base k1 x .kpr:=by
 have lam:∀{j0:Nat} {φ α:List Addr} {H:Hp} {v:V},j0<2->Den (mkD K A0 (uU (tbs.map (·.2.2)) fo) λj=>tbs[j]?) φ α H (.clo (2 * j0) [.clo (100+j0) []]) v->∃a kk,v=.ref a/\kk<=k1/\∀(A:z89) (outer:List Env) (s:z7y),Env0 P w K mg base A outer s H->zcT a s.heap/\(Room kk A->∀(u:Value) (x:V) (Q:VK) (t:T) (φ' α':List Addr) (μ:Mem),RelV x u->Den (mkD K A0 (uU (tbs.map (·.2.2)) fo) λj=>tbs[j]?) φ' α' H t x->MRel (mkD K A0 (uU (tbs.map (·.2.2)) fo) λj=>tbs[j]?) φ' α' H μ->(∀α2 H',Stp α' H α2 H'->MRel (mkD K A0 (uU (tbs.map (·.2.2)) fo) λj=>tbs[j]?) φ' α2 H' μ->Q .non H')->
   z9S (z7N P w) A (.call (.ref a) ⟨[u],[]⟩) (CR (CX1 P w) outer P w H s Q (λ_ _ _=>False)) s):=λ{j0 φ α H v} hj0 d=>by
  obtain⟨a,ob,xs,rfl,hc,hob,v,q,rfl,⟨c,ob2,xs2,rfl,hc2,hob2,_⟩,hq⟩:=d
  rcases hc with⟨j,qn,hqn,hj,e1,c0,e0,rfl⟩|⟨j,qn,hqn,hj,z,_⟩|⟨z,_⟩
  ·cases e0
   have ej:j=j0:=by omega
   subst ej
   rcases hc2 with⟨j2,qn2,hqn2,hj2,z,_⟩|⟨j2,qn2,hqn2,hj2,z,_,rfl⟩|⟨z,_⟩
   ·omega
   ·have ej2:j2=j:=by omega
    subst ej2
    rw[hqn] at hqn2;cases hqn2
    obtain⟨_,_,ha⟩:=hob _ rfl
    obtain⟨_,_,hcc⟩:=hob2 _ rfl
    refine⟨a,1,rfl,h1,λA outer s e0=>?_⟩
    obtain⟨np,_⟩:=(show ObjOk P w H s.heap a (.ext (Kn a c qn)) from e0.hok a _ ha)
    obtain⟨cr,_⟩:=(show ObjOk P w H s.heap c (.ext (wO c qn)) from e0.hok c _ hcc)
    refine⟨?_,λhr u x Q t φ' α' μ r dx mr q=>UI hr e0 np cr r (q α' H (Stp.refl _ _) mr)⟩
    obtain⟨_,_,_,_,_,_,_,_,h2⟩:=np
    exact⟨_,_,_,_,h2⟩
   ·omega
  ·omega
  ·omega
 refine⟨λt φ α H v ht d=>?_,λj P' pos' qn' hj e a c=>?_⟩
 ·rcases ht with rfl|rfl|rfl
  ·exact lam (j0:=0) (by decide) d
  ·obtain⟨a,ob,xs,rfl,hc,hob,rfl⟩:=d
   rcases hc with⟨j,qn,hqn,hj,z,_⟩|⟨j,qn,hqn,hj,z,_⟩|⟨_,_,_,z⟩
   ·omega
   ·omega
   ·obtain⟨kk,hkk,h⟩:=hfo a z φ α H
    exact⟨a,kk,rfl,hkk,h⟩
  ·exact lam (j0:=1) (by decide) d
 ·have hq:(tbs.map (·.2.2))[j]?=some qn':=by
   rw[z83,show tbs[j]?=some (P',pos',qn') from e];rfl
  exact⟨.inl ⟨j,qn',hq,hj,rfl,c,rfl,rfl⟩,.inr (.inl ⟨j,qn',hq,hj,rfl,rfl,rfl⟩)⟩
theorem z46{A0:Ads}{x y:Str}{tbs:List (Addr×List Pos×Str)}{fa:Addr}{fd:z8O}{kk:Nat}{f:Fn}{oc:Value}{od:Option Addr}{fd':z8O}{sl:Array (Option Value)}(hl:K.lookup fa=some ⟨oc,od,.func fd',sl⟩)(hb:Binds K fd [y] [])(hk:1<=kk)
  (F:FnOk P w K mg base (CX1 P w) kk fa fd [y] (spN (mkD K A0 (uU (tbs.map (·.2.2)) (some fa)) λj=>tbs[j]?) 1 f)) (hf:∀t μ K Z,K .non μ->f [t] μ K Z):GlOkM (mkD K A0 (uU (tbs.map (·.2.2)) (some fa)) λj=>tbs[j]?) P w K mg base kk x .kpr:=
 z0f hk λfa' e φ α H=>by
  cases e
  refine⟨kk,z7D _,λA outer s e0=>?_⟩
  have KX:K.In s.heap:=e0.mod.kin.keeps λb o e=>(e0.bs b o e).1
  refine⟨⟨oc,od,fd',sl,KX _ _ hl⟩,λhr u v Q t φ' α' μ r dx mr q=>?_⟩
  refine F.run A outer s H ⟨[u],[]⟩ [u] [v] Q _ hr e0 (by simpa using hb s [u] KX (by simp)) (.cons r .nil) ⟨rfl,φ',α',[t],μ,⟨v,[],rfl,dx,rfl⟩,mr,(λt' μ'=>t'=.non/\μ'=μ),(λ_ _ _=>False),hf t μ _ _ ⟨rfl,rfl⟩,?_,λ_ _ _ z=>z.elim⟩
  rintro t' μ' ⟨rfl,rfl⟩ α2 H2 st m v2 d2
  have d2:v2=.non:=d2
  rw[d2]
  exact q α2 H2 st m
theorem xB{fd:z8O}{ps:List Str}{T0:Addr}{o:Obj}{items:Array Value}{n:Nat}(hd:fd.defaults=.ref T0)(ho:K.lookup T0=some o)(hs:o.data=.seq items n)(h:∀us:List Value,us.length=ps.length->∃k,zbn fd ⟨us,[]⟩=zeq fd.defaults >>= k/\k (some items)=pure (ps.zip us)):Binds K fd ps []:=λs us X hl=>by
 rw[z8o] at hl ⊢
 obtain⟨k,h1,h2⟩:=h us hl
 exact zdl X hd ho hs h1 h2
theorem xx{fd:z8O}{ps:List Str}{T0:Addr}{o:Obj}{items:Array Value}{n:Nat}{d:Value}(hd:fd.defaults=.ref T0)(ho:K.lookup T0=some o)(hs:o.data=.seq items n)(h:∀us:List Value,us.length+1=ps.length->∃k,zbn fd ⟨us,[]⟩=zeq fd.defaults >>= k/\k (some items)=pure (ps.zip (us++[d]))):Binds K fd ps [d]:=λs us X hl=>by
 obtain⟨k,h1,h2⟩:=h us (by simpa using hl)
 exact zdl X hd ho hs h1 h2
end
end NH
end
section
namespace NH.P
open PySem L2 NH
@[reducible] noncomputable def vg:List Ds:=[(zh (WZ (z5 qq [(eV 0)]) (zi .GtE (eV 0) (eC (.int 0)))))]
noncomputable def qb:Fn:=fnW 1 0 vg
@[reducible] noncomputable def Q2:List Ds:=[(sIf (tOr (q9 (tE (jZ [4] (eV 1)))) (tE (zi .NotEq (eB1 vN (eV 1)) (eC (.int 2))))) [(zh (eC (.bl false)))] []),(sIf (q9 (tOr (tE (zi .Is (eIx (eV 1) (eC (.int 0))) (eC .non))) (tE (z5 vP [(eV 0),(eIx (eV 1) (eC (.int 0)))])))) [(zh (eC (.bl false)))] []),(zh (eOr (zi .Is (eIx (eV 1) (eC (.int 1))) (eC .non)) (z5 qm [(eIx (eV 1) (eC (.int 1))),(ze (eV 0) 0)])))]
noncomputable def Ka:Fn:=fnW 2 0 Q2
@[reducible] noncomputable def xg:List Ds:=[(ql (eV 0) 11 (eV 1)),(ql (eV 0) 12 (eV 2)),(ql (eV 0) 13 (eV 3))]
noncomputable def jS:Fn:=fnW 4 0 xg
@[reducible] noncomputable def Qn:List Ds:=[(zh (z5 jb [(eV 0),(z9 .FloorDiv (eV 2) (ze (eV 0) 2)),(eV 1),(z9 .Mod (eV 2) (ze (eV 0) 2))]))]
noncomputable def km:Fn:=fnW 3 0 Qn
@[reducible] noncomputable def vd:List Ds:=[(zh (qI 1 [1,0] (.one 0) (JK (ze (eV 1) 12) (ze (eV 1) 13)) [] (z5 km [(eV 2),(ze (eV 1) 11),(eV 0)])))]
noncomputable def qz:Fn:=fnW 2 0 vd
@[reducible] noncomputable def ju:List Ds:=[(zk 3 (z5 qo [(eV 0),(eV 2)])),(sIf (tE (zi .Lt (eIx (eV 3) (eC (.int 1))) (eV 1))) [(zh (z9 .Mult (eIx (eV 3) (eC (.int 0))) (ze (eV 0) 2)))] []),(sIf (tE (zi .Gt (eIx (eV 3) (eC (.int 1))) (eV 1))) [(zh (z9 .Mult (z9 .Add (eIx (eV 3) (eC (.int 0))) (eC (.int 1))) (ze (eV 0) 2)))] []),(zh (z9 .Add (z9 .Add (z9 .Mult (eIx (eV 3) (eC (.int 0))) (ze (eV 0) 2)) (eIx (eV 3) (eC (.int 2)))) (eC (.int 1))))]
noncomputable def wF:Fn:=fnW 3 1 ju
@[reducible] noncomputable def xk:List Ds:=[(sIf (q9 (wb (tE (z5 qb [(eV 2)])) (tE (z5 qb [(eV 3)])))) [(zC 16 [(eC (.str "ahead and stride are whole numbers from 0 on"))])] []),(sIf (wb (tE (zi .IsNot (eV 5) (eC .non))) (q9 (tE (z5 Ka [(eV 1),(eV 5)])))) [(zC 23 [(eC (.str "no note of the shape"))])] []),(ql (eV 0) 9 (eV 1)),(ql (eV 0) 14 (eV 2)),(ql (eV 0) 15 (eV 3)),(ql (eV 0) 16 (eV 4)),(ql (eV 0) 6 (eIf (tE (zi .Is (eV 5) (eC .non))) (eC .non) (eIx (eV 5) (eC (.int 0))))),(ql (eV 0) 17 (eIf (tE (zi .Is (eV 5) (eC .non))) (eC .non) (eIx (eV 5) (eC (.int 1))))),(ql (eV 0) 18 (eC .non)),(ql (eV 0) 19 (jn [])),(ql (eV 0) 20 (eC (.bl false)))]
noncomputable def qO:Fn:=fnW 6 0 xk
@[reducible] noncomputable def wY:List Ds:=[(sIf (tE (ze (eV 0) 20)) [(zC 24 [(eC (.str "the house has fallen"))])] [])]
noncomputable def qe:Fn:=fnW 1 0 wY
@[reducible] noncomputable def kL:List Ds:=[(zh (z_ [(ze (eV 0) 6),(ze (eV 0) 17)]))]
noncomputable def vF:Fn:=fnW 1 0 kL
@[reducible] noncomputable def kY:List Ds:=[(sIf (tE (zi .Eq (z_ [(eV 1),(eV 2)]) (zW 45 vF (eV 0) []))) [U1] []),(ql (eV 0) 20 (eC (.bl true))),(zF (Uq 16 (eV 0) (z_ [(eV 1),(eV 2)]))),(ql (eV 0) 20 (eC (.bl false))),(ql (eV 0) 6 (eV 1)),(ql (eV 0) 17 (eV 2))]
noncomputable def wq:Fn:=fnW 3 0 kY
@[reducible] noncomputable def wo:List Ds:=[(zF (zW 45 qe (eV 0) [])),(zF (z5 qU [(ze (eV 0) 9),(eV 1)])),(zF (zW 45 wq (eV 0) [(eV 1),(ze (eV 0) 17)]))]
noncomputable def zP:Fn:=fnW 2 0 wo
@[reducible] noncomputable def qx:List Ds:=[(sIf (tE (zi .Is (ze (eV 0) 6) (eC .non))) [(zC 18 [(eC (.str "the house has no lease"))])] [])]
noncomputable def zV:Fn:=fnW 1 0 qx
@[reducible] noncomputable def wk:List Ds:=[(sIf (tE (zi .IsNot (ze (eV 0) 18) (eC .non))) [(zh (z5 wF [(ze (eV 0) 9),(eIx (ze (eV 0) 6) (eC (.int 0))),(ze (eV 0) 18)]))] []),(sIf (tE (zi .IsNot (ze (eV 0) 17) (eC .non))) [(zh (z9 .Mult (z9 .Add (ze (eV 0) 17) (eC (.int 1))) (ze (ze (eV 0) 9) 2)))] []),(zh (eC (.int 0)))]
noncomputable def qh:Fn:=fnW 1 0 wk
@[reducible] noncomputable def qk:List Ds:=[(sIf (wb (tE (zi .IsNot (ze (eV 0) 17) (eC .non))) (tE (zi .LtE (eV 1) (ze (eV 0) 17)))) [(zh (ze (eV 0) 17))] []),(zh (eB2 Qo (z9 .Add (eV 1) (ze (eV 0) 15)) (z9 .Sub (ze (ze (eV 0) 9) 0) (eC (.int 1)))))]
noncomputable def zZ:Fn:=fnW 2 0 qk
@[reducible] noncomputable def kF:List Ds:=[(zh (ze (eV 0) 18))]
noncomputable def VI:Fn:=fnW 1 0 kF
end NH.P
end
section
namespace NH
open PySem PySem.Spec PyProof.Rows L2
noncomputable abbrev z59(ts:List T)(μ:Mem):RE T:=.som (intsOf ts) λns=>.ok (.int ns.sum) μ
noncomputable abbrev z1b(t:T)(μ:Mem):RE T:=match t with
 |.lst ts=>z59 ts μ
 |.mut i=>λK Z=>∃ts,μ[i]?=some (.lst ts)/\z59 ts μ K Z
 |_=>.st
noncomputable def z61(i:Nat)(t:T)(μ:Mem)(zs:List T):Prop:=t=.lst zs\/∃j,t=.mut j/\j≠i/\μ[j]?=some (.lst zs)
noncomputable abbrev XM(o f:De):De:=λτ μ=>(o τ μ).bind λot μ1=>match ot with
 |.mut i=>λK Z=>(∃ts,μ1[i]?=some (.lst ts))/\f τ μ1 (λt μ2=>∃ts zs,μ2[i]?=some (.lst ts)/\z61 i t μ2 zs/\ts.length+zs.length<=room/\K .non (μ2.set i (.lst (ts++zs)))) Z
 |_=>.st
section
variable {X:Cx}{D:DP}{W:XW}{Γ:Cn}{k:Nat}{pins:List (Addr×Obj)}{s:Shared}{σ:St}{H:Hp}{φ α:List Addr}{τ:Sl}{μ:Mem}{f g:De}{fs:List De}{a b c:Expr}{pos:Pos}{es:List Expr}
theorem z4A{A:z89}{E:Value->z7y->Prop}{prog:z8e}{w:z8s}{l:Addr}{vs:List Value}{ns:List Int}{Q:Value->z7y->Prop}(hh:A.handled=none)(hl:s.heap.IsList l vs.toArray)(hi:z8D vs ns)
  (h:∀h' tk t',(∀b o,s.heap.get? b=some o->h'.get? b=some o)->Q (.int ns.sum t') {s with heap:=h',toks:=tk}):z7K (z7N prog w) A (call (.builtin "sum") [.ref l]) Q E s:=by
 obtain⟨xs,hx⟩:=hi.allInts.items
 have hl':s.heap.IsList l (intItems xs):=hx▸hl
 refine sum_intListG hh hl' λh' tk t' hk=>?_
 have e1:ns=xs.toList.map (·.1):=by
  rw[←nums_intItems,←hx]
  exact (show numsOf vs.toArray.toList=ns from hi.numsOf).symm
 have e2:preSum (numAt xs) xs.size=ns.sum:=by
  rw[preSum_eq,z8q (by simp),e1]
 rw[e2]
 exact h h' tk t' hk
theorem X_{ad:Addr}{xs:List T}{ws:List V}{Q:VK}(hc:X.calm=true)(I:Inv X pins σ H s)(mr:MRel D φ α H μ)(q:Rd H ad (.lst ws))(l:DenL D φ α H xs ws)(p:Post D W φ α H σ (RV D φ Q) (z59 xs μ)) :
  z7K (z7N X.prog X.w) X.A (call (.builtin "sum") [.ref ad]) (EP X pins σ Q) X.xe s:=by
 obtain⟨its,rv,pl,hz⟩:=I.list (.inl q)
 obtain⟨ns,hns,p⟩:=Post.som p
 have ey:=qN hns l
 subst ey
 refine z4A (I.ok.hd hc) pl.isList (intsAre_of rv) λh' tk t' kp=>?_
 exact⟨.int ns.sum,H,I.kept kp,⟨_,rfl⟩,Post.here p mr rfl⟩
theorem z50(hc:X.calm=true):B1 X D W (.builtin "sum") z1b:=by
 intro pins s σ H φ α μ t v u Q I mr d r p
 unfold z1b at p
 split at p
 ·obtain⟨ad,xs,rfl,_,_,q,l⟩:=d
  cases r
  exact X_ hc I mr q l p
 ·obtain⟨ts,hj,p⟩:=p.ex1
  obtain⟨ad,hi,rfl⟩:=d
  cases r
  obtain⟨xs,q,l⟩:=mr.ob _ ad _ hi hj
  exact X_ hc I mr (.inl q) l p
 ·exact p.elim
theorem Vx:MtR X "list.extend" (λx vs H Q=>∃l b xs zs,x=.ref l/\vs=[.ref b]/\H l=some (.lst xs)/\Rd H b (.lst zs)/\xs.length+zs.length<=sizeLine/\Q .non (upd H l (.lst (xs++zs)))):=by
 intro pins s σ H x vs v us Q I rx rv h
 obtain⟨l,b,xs,zs,rfl,rfl,hH,hB,hz,q⟩:=h
 cases rx
 obtain⟨u,rfl,ru⟩:=vals1 rv
 cases ru
 obtain⟨z,its,n,r,hl,e⟩:=I.lstM hH
 obtain⟨z2,its2,n2,r2,e2⟩:=hB.ok I.hok
 have hl2:=r2.length
 have hsz:its.toArray.size+its2.toArray.size<=sizeLine:=by rw[z7M,z7M];omega
 have hlong:¬(!its.toArray.isEmpty&&z9_ (its.toArray.size+its2.toArray.size))=true:=by
  rw[UL hsz,zc3]
  exact z7_
 refine zdB F.slot_list_extend ⟨_,e,rfl⟩ F.entry_list_extend (F.args_list_extend_2 _ _)
  (AutoSeq1.list_extend_list_list_0 l its.toArray n b its2.toArray n2 hlong (by rw[z7M];omega) (by omega)) ⟨e,e2,?_⟩
 refine⟨.non,_,I.lset (its':=its++its2) hH e (by simp) (r.append r2) ?_,rfl,q⟩
 rw[z8b]
 omega
theorem z35{o:Expr}{pa pc:Pos}{go:De}(hp:zR o=true)(hs:noStar a=true)(hline:(pa.endLine == pc.line)=true)(ho:PE X o (rdE D W go))(ha:PE X a (rdE D W f)) :
  PE X (.Call (.Attribute o "extend" pa) [a] [] pc) (rdE D W (XM go f)):=by
 have hb:z8l [a] X.env=[(false,eval a X.env)]:=z4 hs
 refine PE.mono (XR zah PySem.F.slot_list_extend PySem.F.type_list_extend Vx ho (zy ha qD (z4 hs)) (qA hp) (by rw[hb];rfl) hline (z4 hs) rfl) ?_
 rintro σ H Q ⟨φ,α,τ,μ,sr,mr,p⟩
 refine⟨φ,α,τ,μ,sr,mr,p.bind.mono λot μ1 α1 H1 st1 m1 q ov dv=>?_⟩
 split at q
 case h_2=>exact q.elim
 rename_i i
 obtain⟨K,Z,⟨⟨ts0,hμ0⟩,hf⟩,hk,hz⟩:=q
 obtain⟨x,hx,rfl⟩:=dv
 obtain⟨xs0,hH0,l0⟩:=m1.ob _ x _ hx hμ0
 refine⟨.inl ⟨rfl,_,.inl (.inl hH0)⟩,φ,α1,τ,μ1,sr.step st1,m1,_,Z,hf,?_,hz⟩
 rintro t μ2 ⟨ts,zs,hμ,hl,hr,q2⟩ α2 H2 st2 m2 v d
 obtain⟨β,e2,_⟩:=st2.ext
 have hx2:α2[i]?=some x:=by
  rw[e2,z7F (z7v.mp hx).1];exact hx
 obtain⟨xs,hH,l⟩:=m2.ob i x _ hx2 hμ
 have hv:∃y ws,v=.ref y/\Rd H2 y (.lst ws)/\DenL D φ α2 H2 zs ws:=by
  rcases hl with rfl|⟨j,rfl,hj,hμj⟩
  ·obtain⟨y,ws,rfl,_,_,r,dl⟩:=d
   exact⟨y,ws,rfl,r,dl⟩
  ·obtain⟨y,hy,rfl⟩:=d
   obtain⟨ws,hw,dl⟩:=m2.ob j y _ hy hμj
   exact⟨y,ws,rfl,.inl hw,dl⟩
 obtain⟨y,ws,rfl,hr2,dl⟩:=hv
 have st4:Stp α2 H2 α2 (upd H2 x (.lst (xs++ws))):=Stp.turn (z7P hx2) ⟨_,hH⟩
 have hi:i<μ2.length:=(z7v.mp hμ).1
 refine⟨x,y,xs,ws,rfl,rfl,hH,hr2,?_,?_⟩
 ·rw[←l.length,←dl.length];exact z7V hr (zt (z7D _))
 ·exact hk _ _ q2 α2 _ (st2.trans st4) (m2.turn hx2 hi st4 ⟨_,z7,(l.step st4).append (dl.step st4)⟩) .non rfl
end
noncomputable def z6S:ER:=rB1 "sum" z1b true
theorem z1a{D:DP}:EOk D z6S:=xM λC hx hg hc hs ha=>Yb C hx hg (by decide +kernel) (by decide) hs (z50 (C.clm (hc rfl))) ha
noncomputable def z2G:ER:=λr Γ e=>match e with
 |.Call (.Attribute o m pa) [a] [] pc=>gd (m == ("extend":Str)&&zR o&&noStar a&&pa.endLine == pc.line) ((r.e Γ o).bind λgo=>(r.e Γ a).bind λf=>some (XM go f))
 |_=>none
theorem z13{D:DP}:EOk D z2G:=by
 intro r H X W Γ k e d C h
 unfold z2G at h
 split at h
 ·obtain⟨hb,h1⟩:=zq h
  clear h
  simp only[z7x] at hb
  obtain⟨⟨⟨h0,h2⟩,h3⟩,h4⟩:=hb
  have h0:=beq_iff_eq.mp h0
  subst h0
  obtain⟨go,e1,h1⟩:=bnd h1
  obtain⟨f,e2,h1⟩:=bnd h1
  cases h1
  exact z35 h2 h3 h4 (H.e C e1) (H.e C e2)
 ·cases h
end NH
end
section
namespace NH.P
open PySem L2 NH
@[reducible] noncomputable def ye:List Ds:=[(zh (eB1 z1b (qI 1 [] (.one 0) (iE (eV 0)) [] (z9 .Sub (ze (eV 0) 13) (ze (eV 0) 12)))))]
noncomputable def ZC:Fn:=fnW 1 0 ye
end NH.P
end
section
namespace NH
open PySem PySem.Spec PyProof.Rows L2
noncomputable def lexLe:List Int->List Int->Bool
 |[],[]=>true
 |[],_::_=>true
 |_::_,[]=>false
 |x::xs,y::ys=>if x=y then lexLe xs ys else decide (x<=y)
theorem Jm(x y:Int)(xs ys:List Int):lexLe (x::xs) (y::ys)=if x=y then lexLe xs ys else decide (x<=y):=rfl
theorem Zw:lexLe [] []=true:=rfl
theorem yz(y:Int)(ys:List Int):lexLe [] (y::ys)=true:=rfl
theorem uv(x:Int)(xs:List Int):lexLe (x::xs) []=false:=rfl
theorem Ue(A:z89)(s:z7y)(a:Int)(t:Tok)(c:Int)(u:Tok)(prog:z8e)(w:z8s)(E:Value->z7y->Prop)(Q:Value->z7y->Prop)(h:Q (.bool (decide (a<=c))) s) :
  z7K (z7N prog w) A (richCompare .LtE (.int a t) (.int c u)) Q E s:=
 (zeL h:z7K (z7N prog w) A (z8h .LtE (.int a t) (.int c u)) Q E s)
section
open PySem.SeqAt
open PySem.AutoSeq1 (wpAny_loadPart')
open PySem.MeetsSeq PySem.MeetsSeq2 PySem.MeetsSeq3
theorem Zg (l b : Addr) (items items2 : Array Value) (n n2 : Nat) (dd dd2 : Option Addr) (sl sl2 : Array (Option Value)) (ns ms : List Int) (hi : z8D items.toList ns) (hj : z8D items2.toList ms) :
    Meets (zdp.«tuple.__le__» ⟨[.ref l,.ref b],[]⟩)
      (fun _ R s => s.heap.get? l = some { cls := .type "tuple",dict := dd,data := .seq items n,slots := sl } /\ s.heap.get? b = some { cls := .type "tuple",dict := dd2,data := .seq items2 n2,slots := sl2 } /\
        R (.ok (.ret (.bool (lexLe ns ms)))) s) :=
  .of_wp fun prog w A R s h => by
    obtain ⟨hp,g,d,tk,os⟩ := s; obtain ⟨hl,hb,h⟩ := h
    have f2 := zbc
    have z1 : items.size = ns.length := by rw [← hi.length]; simp
    have z2 : items2.size = ms.length := by rw [← hj.length]; simp
    wp_walk using zaF hl,zaF hb,zd4 _ (fun rest b s' => b.1 = none /\ s' = ⟨hp,g,d,tk,os⟩ /\ ∃ (vs ws : List Value) (ns' ms' : List Int),rest = vs.zip ws /\
      z8D vs ns' /\ z8D ws ms' /\ ns'.length + items2.size = ms'.length + items.size /\ R (.ok (.ret (.bool (lexLe ns' ms')))) ⟨hp,g,d,tk,os⟩) _
    case turn =>
      rintro ⟨y,x⟩ rest b s' ⟨hb',rfl,vs,ws,ns',ms',hz,hvi,hwi,hlen,hR⟩
      cases hvi with
      | nil => rw [zcM] at hz; cases hz
      | cons a t hvi' =>
        cases hwi with
        | nil => rw [zcs] at hz; cases hz
        | cons c u hwi' =>
          rw [zaa] at hz
          injection hz with hyx hrest
          injection hyx with hy hx
          subst hy hx
          rw [Jm] at hR
          simp only [z7X] at hlen
          obtain ⟨e,he,hiff⟩ := HT.eqAt_int A.in1 ⟨hp,g,d,tk,os⟩ a t c u
          refine z7w (he prog w _ _ ?_)
          cases e with
          | true =>
            rw [if_pos (hiff.mp rfl)] at hR
            wp_walk
            exact ⟨rfl,rfl,_,_,_,_,hrest,hvi',hwi',by omega,hR⟩
          | false =>
            rw [if_neg (fun q => absurd (hiff.mpr q) z7_)] at hR
            have hri := Ue A.in1 ⟨hp,g,d,tk,os⟩ a t c u prog w
            wp_walk using hri
            exact ⟨_,rfl,by simpa using hR⟩
    case fin =>
      rintro ⟨b1,b2⟩ s' ⟨hb',rfl,vs,ws,ns',ms',hz,hvi,hwi,hlen,hR⟩
      simp only at hb'
      subst hb'
      have hv : lexLe ns' ms' = decide (items.size <= items2.size) := by
        cases hvi with
        | nil =>
          cases hwi with
          | nil =>
            simp only [z8S] at hlen
            rw [Zw]
            exact (decide_eq_true (by omega)).symm
          | cons c u hw =>
            simp only [z8S,z7X] at hlen
            rw [yz]
            exact (decide_eq_true (by omega)).symm
        | cons a t hv =>
          cases hwi with
          | nil =>
            simp only [z8S,z7X] at hlen
            rw [uv]
            exact (decide_eq_false (by omega)).symm
          | cons c u hw =>
            rw [zaa] at hz
            cases hz
      rw [hv] at hR
      wp_walk
      exact ⟨_,rfl,by simpa [zar] using hR⟩
    case h =>
      exact ⟨rfl,rfl,items.toList,items2.toList,ns,ms,rfl,hi,hj,by omega,h⟩
end
theorem VN{prog:z8e}{w:z8s}{A:z89}{E:Value->z7y->Prop}{s:z7y}{l b:Addr}{items items2:Array Value}{ns ms:List Int}{Q:Value->z7y->Prop}(hl:zcE s.heap l items)(hb:zcE s.heap b items2)(hi:z8D items.toList ns)(hj:z8D items2.toList ms)
  (hu:A.units<cLine) (h:Q (.bool (lexLe ns ms)) s):z7K (z7N prog w) A (z8h .LtE (.ref l) (.ref b)) Q E s:=by
 obtain⟨⟨cls,dd,data,sl⟩,ho,hc,n,hd⟩:=id hl
 obtain⟨⟨cls2,dd2,data2,sl2⟩,ho2,hc2,n2,hd2⟩:=id hb
 simp only at hc hd hc2 hd2
 subst hc hd hc2 hd2
 exact zbG (op:=.LtE) ⟨_,ho,rfl⟩ ⟨_,ho2,rfl⟩ PySem.F.slot_tuple_le PySem.F.entry_tuple_le (PySem.F.args_tuple_le_2 _ _) (Zg l b items items2 n n2 dd dd2 sl sl2 ns ms hi hj)
  ⟨ho,ho2,show zaM (lexLe ns ms)≠zb_/\Q (.bool (lexLe ns ms)) s from ⟨(λx=>nomatch x),h⟩⟩ hu
noncomputable abbrev leT(x y:T)(μ:Mem):RE T:=match x,y with
 |.tup xs,.tup ys=>λK _=>∃ns ms,intsOf xs=some ns/\intsOf ys=some ms/\K (.bl (lexLe ns ms)) μ
 |_,_=>.st
noncomputable abbrev xG(x y:T)(μ:Mem):RE T:=match y with
 |.mut i=>(match x with
  |.str z=>λK _=>∃kvs,μ[i]?=some (MO.dic kvs)/\K (.bl (!(zb (.inr z) kvs).isSome)) μ
  |_=>.st)
 |_=>.st
noncomputable abbrev KH(x y:T)(μ:Mem):RE T:=match x,y with
 |.mut i,.str z=>λK _=>∃kvs v,μ[i]?=some (MO.dic kvs)/\zb (.inr z) kvs=some v/\K v μ
 |_,_=>.st
noncomputable def siT:T->Option (Str×Int)
 |.tup [.str a,.int n]=>some (a,n)
 |_=>none
noncomputable abbrev JY(x y:T)(μ:Mem):RE T:=match y with
 |.tup ys=>λK _=>∃a,siT x=some a/\(∀t∈ys,(siT t).isSome=true)/\K (.bl (ys.any λt=>decide (siT t=some a))) μ
 |_=>.st
noncomputable abbrev eC2(op:T->T->Mem->RE T)(f g:De):De:=λτ μ=>(f τ μ).bind λx μ1=>(g τ μ1).bind λy μ2=>op x y μ2
noncomputable def yY(h:Heap):Value->Option (Str×Int)
 |.ref a=>(h.get? a).bind λo=>(match o.data with|.seq its _=>(match its.toList with | [.str z _,.int n _]=>some (z,n)|_=>none)|_=>none)
 |_=>none
section
variable {X:Cx}{D:DP}{W:XW}{Γ:Cn}{k:Nat}{pins:List (Addr×Obj)}{s:Shared}{σ:St}{H:Hp}{φ α:List Addr}{τ:Sl}{μ:Mem}{f g:De}{a b:Expr}{pos:Pos}
noncomputable def OpC (X:Cx)(D:DP)(W:XW)(op:z8_)(r:T->T->Mem->RE T):Prop:=
 ∀(pins:List (Addr×Obj)) (s:z7y) (σ:St) (H:Hp) (φ α:List Addr) (μ:Mem) (x y:T) (v w:V) (u1 u2:Value) (Q:VK),Inv X pins σ H s->MRel D φ α H μ->Den D φ α H x v->Den D φ α H y w->RelV v u1->RelV w u2->Post D W φ α H σ (RV D φ Q) (r x y μ)->
  z7K (z7N X.prog X.w) X.A (z8h op u1 u2) (EP X pins σ Q) X.xe s
theorem z6p{op:z8_}{r:T->T->Mem->RE T}(h:OpC X D W op r)(ho:vj op b=true)(ha:PE X a (rdE D W f))(hb:PE X b (rdE D W g)):PE X (.Compare a [op] [b] pos) (rdE D W (eC2 r f g)):=by
 rintro pins s σ H Q I ⟨φ,α,τ,μ,sr,mr,p⟩
 refine zc4 (thn (sub ha I sr mr p) ?_) (ji ho)
 rintro u s1 ⟨v,H1,t,μ1,α1,I1,r1,st1,sr1,mr1,d1,p1⟩
 refine thn (sub hb I1 sr1 mr1 p1) ?_
 rintro u' s2 ⟨v',H2,t',μ2,α2,I2,r2,st2,sr2,mr2,d2,p2⟩
 exact h pins s2 σ H2 φ α2 μ2 t t' v v' u u' Q I2 mr2 (d1.step st2) d2 r1 r2 p2
theorem UC{op:z8_}{r:T->T->Mem->RE T}(h:OpC X D W op r)(ho:vj op b=true)(ha:PE X a (rdE D W f))(hb:PE X b (rdE D W g)):PT X (.Compare a [op] [b] pos) (rdT D W (tE (eC2 r f g))):=by
 rintro pins s σ H Q I ⟨φ,α,τ,μ,sr,mr,p⟩
 have p:Post D W φ α H σ (λb _ _ H'=>Q b H') ((f τ μ).bind λx μ1=>(g τ μ1).bind λy μ2=>(r x y μ2).bind kJ):=p
 refine zas (thn (sub ha I sr mr p) ?_) (ji ho)
 rintro u s1 ⟨v,H1,t,μ1,α1,I1,r1,st1,sr1,mr1,d1,p1⟩
 refine thn (sub hb I1 sr1 mr1 p1) ?_
 rintro u' s2 ⟨v',H2,t',μ2,α2,I2,r2,st2,sr2,mr2,d2,p2⟩
 refine thn (h pins s2 σ H2 φ α2 μ2 t t' v v' u u' (λz H1=>∃t μ1 α1,Stp α2 H2 α1 H1/\MRel D φ α1 H1 μ1/\Den D φ α1 H1 t z/\Post D W φ α1 H1 σ (λb _ _ H'=>Q b H') (kJ t μ1)) I2 mr2 (d1.step st2) d2 r1 r2 (p2.bind.mono λt μ' α' H' st m q v d=>⟨t,μ',α',st,m,d,q⟩)) ?_
 rintro d s3 ⟨z,H3,I3,r3,t3,μ3,α3,st3,mr3,d3,p3⟩
 unfold kJ at p3
 split at p3
 ·cases d3
  cases r3
  exact z8a ⟨H3,I3,p3.ok (Stp.refl _ _) mr3⟩
 ·exact p3.elim
theorem z7s(hu:X.A.units+64<cLine):OpC X D W .LtE leT:=by
 intro pins s σ H φ α μ x y v w u1 u2 Q I mr d1 d2 r1 r2 p
 unfold leT at p
 split at p
 ·obtain⟨K0,Z0,⟨ns,ms,h1,h2,p⟩,k1,k2⟩:=p
  obtain⟨a1,ws1,rfl,_,_,rd1,l1⟩:=d1
  obtain⟨a2,ws2,rfl,_,_,rd2,l2⟩:=d2
  cases r1;cases r2
  have e1:=qN h1 l1
  have e2:=qN h2 l2
  subst e1 e2
  obtain⟨i1,v1,p1,_⟩:=I.tuple (.inl rd1)
  obtain⟨i2,v2,p2,_⟩:=I.tuple (.inl rd2)
  exact VN p1 p2 (by simpa using intsAre_of v1) (by simpa using intsAre_of v2) (by omega) ⟨.bl _,H,I,rfl,k1 _ _ p α H (Stp.refl _ _) mr _ rfl⟩
 ·exact p.elim
theorem z0R(hu:X.A.units+64<cLine):OpC X D W .NotIn xG:=by
 intro pins s σ H φ α μ x y v w u1 u2 Q I mr d1 d2 r1 r2 p
 unfold xG at p
 split at p
 ·split at p
  ·rename_i i _ z
   obtain⟨K0,Z0,⟨kvs,hi,p⟩,k1,k2⟩:=p
   have d1:v=.str z:=d1
   obtain⟨ad,ha,rfl⟩:=d2
   cases r2
   obtain⟨gs,hH,l⟩:=mr.ob i ad _ ha hi
   subst d1
   refine z22 (by omega) I (DGet.k (k:=.inr z) hH) r1 λs' I'=>⟨.bl (!(jo gs (.inr z)).isSome),H,I',rfl,?_⟩
   rw[uB l]
   exact k1 _ _ p α H (Stp.refl _ _) mr _ rfl
  ·exact p.elim
 ·exact p.elim
theorem Jv{t:T}{a:Str×Int}(h:siT t=some a):t=.tup [.str a.1,.int a.2]:=by
 unfold siT at h
 split at h
 ·cases h;rfl
 ·cases h
theorem Y2{t:T}{v:V}{u:Value}{a:Str×Int}(I:Inv X pins σ H s)(h:siT t=some a)(d:Den D φ α H t v)(r:RelV v u):yY s.heap u=some a:=by
 have e:=Jv h
 subst e
 obtain⟨c,xs,rfl,_,_,rd,l⟩:=d
 cases r
 obtain⟨its,rv,⟨o,ho,_,n,hd⟩,_⟩:=I.tuple (.inl rd)
 obtain⟨v1,q1,rfl,d1,v2,q2,rfl,d2,l3⟩:=l
 have l3:q2=[]:=l3
 have d1:v1=.str a.1:=d1
 have d2:v2=.int a.2:=d2
 subst l3 d1 d2
 cases rv with
 |cons r1 rv=>
  cases rv with
  |cons r2 rv=>
   cases rv
   obtain⟨t1,rfl⟩:=r1
   obtain⟨t2,rfl⟩:=r2
   unfold yY
   simp only[ho,zay,hd]
theorem z3R{a b:Str×Int}:eqL [.str a.1,.int a.2] [.str b.1,.int b.2]=some (decide (a=b)):=by
 have h1:(a.1 == b.1)=decide (a.1=b.1):=by by_cases z:a.1=b.1<;>simp[z]
 have h2:(a.2 == b.2)=decide (a.2=b.2):=by by_cases z:a.2=b.2<;>simp[z]
 have h3:decide (a=b)=(decide (a.1=b.1)&&decide (a.2=b.2)):=by
  rw[←zdm];exact decide_eq_decide.mpr Prod.ext_iff
 simp[eqL,eqT,h1,h2,h3]
theorem z32(hu:X.A.units+64<cLine):OpC X D W .In JY:=by
 intro pins s σ H φ α μ x y v w u1 u2 Q I mr d1 d2 r1 r2 p
 unfold JY at p
 split at p
 ·rename_i ys
  obtain⟨K0,Z0,⟨a0,ha,hy,p⟩,k1,k2⟩:=p
  obtain⟨ad,vs,rfl,_,_,rd,l⟩:=d2
  cases r2
  obtain⟨its,rv,pl,_⟩:=I.tuple (.inl rd)
  have e1:=Jv ha
  have each:∀(ys:List T) (vs:List V) (its:List Value),DenL D φ α H ys vs->Vals vs its->(∀t∈ys,(siT t).isSome=true)->(∀w∈its,z93 X.A.in1 s w u1 (decide (yY s.heap w=some a0)))/\its.any (λw=>decide (yY s.heap w=some a0))=ys.any λt=>decide (siT t=some a0):=by
   intro ys
   induction ys with
   |nil=>intro vs its l rv _;cases l;cases rv;exact⟨by simp,rfl⟩
   |cons t r ih=>
    intro vs its l rv hy
    obtain⟨v',q',rfl,d,l⟩:=l
    cases rv with
    | @cons _ u0 _ us0 r0 rv=>
    obtain⟨h1,h2⟩:=ih _ _ l rv λt ht=>hy t (z7O _ ht)
    obtain⟨ns,hns⟩:=z9k.mp (hy t z7Z)
    have e3:=Y2 I hns d r0
    have e4:=Jv hns
    refine⟨λw hw=>?_,?_⟩
    ·rcases z88.mp hw with rfl|hw
     ·rw[e3]
      refine Xl I d d1 r0 r1 ?_ ?_
      ·rw[e4,e1]
       show eqL [.str ns.1,.int ns.2] [.str a0.1,.int a0.2]=_
       rw[z3R]
       simp
      ·rw[e4,in1_units]
       show X.A.units+1+(qH [.str ns.1,.int ns.2]+1)+1<cLine
       have:qH [T.str ns.1,.int ns.2]=0:=rfl
       omega
     ·exact h1 w hw
    ·rw[z91,z91,h2,e3,hns]
  obtain⟨h1,h2⟩:=each ys vs its l rv hy
  refine SeqAt.in_tupleAt (items:=its.toArray) (λw=>decide (yY s.heap w=some a0)) pl (λw hw=>h1 w (by simpa using hw)) ⟨.bl _,H,I,rfl,?_⟩
  rw[show its.toArray.any (λw=>decide (yY s.heap w=some a0))=its.any (λw=>decide (yY s.heap w=some a0)) by simp,h2]
  exact k1 _ _ p α H (Stp.refl _ _) mr _ rfl
 ·exact p.elim
theorem V1{z:Key}{t:T}:∀{kvs:List (Key×T)} {gs:List (Key×V)},DenK D φ α H kvs gs->zb z kvs=some t->∃v,jo gs z=some v/\Den D φ α H t v
 |[],_,h,e=>by cases e
 |p::r,_,h,e=>by
  obtain⟨v,q,rfl,d,l⟩:=h
  unfold zb at e
  by_cases e1:p.1=z
  ·rw[if_pos e1] at e
   cases e
   exact⟨v,by rw[vm (p:=(p.1,v)) e1],d⟩
  ·rw[if_neg e1] at e
   obtain⟨v2,h1,h2⟩:=V1 l e
   exact⟨v2,by rw[wR (p:=(p.1,v)) e1];exact h1,h2⟩
theorem z2X(C:Ck D W Γ X k)(hs:z1W b)(ha:PE X a (rdE D W f))(hb:PE X b (rdE D W g)):PE X (.Subscript a b pos) (rdE D W (eC2 KH f g)):=by
 refine PE.mono (z0D (by have:=C.unt;omega) ha hb hs) ?_
 rintro σ H Q ⟨φ,α,τ,μ,sr,mr,p⟩
 refine⟨φ,α,τ,μ,sr,mr,p.bind.mono λx μ1 α1 H1 st1 m1 q v d=>?_⟩
 refine⟨φ,α1,τ,μ1,sr.step st1,m1,q.bind.mono λy μ2 α2 H2 st2 m2 q2 w dw=>?_⟩
 unfold KH at q2
 split at q2
 ·rename_i i z
  obtain⟨K0,Z0,⟨kvs,t,hi,hl,q3⟩,k1,k2⟩:=q2
  obtain⟨ad,ha,rfl⟩:=d.step st2
  obtain⟨gs,hH,l⟩:=m2.ob i ad _ ha hi
  obtain⟨tv,h1,h2⟩:=V1 l hl
  have dw:w=.str z:=dw
  subst dw
  refine⟨ad,tv,rfl,?_,k1 _ _ q3 α2 H2 (Stp.refl _ _) m2 _ h2⟩
  have:=DGet.k (k:=.inr z) hH
  rw[h1] at this
  exact this
 ·exact q2.elim
end
noncomputable def isKey(b:Expr):Bool:=match b with
 |.Name x _=>x == ("holder":Str) || x == ("_law_holder":Str)
 |_=>false
theorem Kx{b:Expr}(h:isKey b=true):z1W b:=by
 unfold isKey at h
 split at h
 ·exact λov iv=>rfl
 ·cases h
noncomputable def z38:ER:=λr Γ e=>match e with
 |.Subscript a b _=>gd (isKey b) ((r.e Γ a).bind λf=>(r.e Γ b).bind λg=>some (eC2 KH f g))
 |_=>none
theorem z0W{D:DP}:EOk D z38:=by
 intro r H X W Γ k e d C h
 unfold z38 at h
 split at h
 ·obtain⟨hb,h1⟩:=zq h
  obtain⟨f,e1,h1⟩:=bnd h1
  obtain⟨g,e2,h1⟩:=bnd h1
  cases h1
  exact z2X C (Kx hb) (H.e C e1) (H.e C e2)
 ·cases h
noncomputable def Vt(a:Expr):Bool:=match a with
 |.Tuple _ _ _=>true
 |_=>false
noncomputable def z0m (Γ:Cn)(a:Expr)(op:z8_)(b:Expr):Option (T->T->Mem->RE T):=match op with
 |.LtE=>gd (Vt a) (some leT)
 |.NotIn=>gd (Uj Γ b) (some xG)
 |.In=>gd (Vt a&&Vt b) (some JY)
 |_=>none
theorem z2c{X:Cx}{D:DP}{W:XW}{Γ:Cn}{k:Nat}(C:Ck D W Γ X k){a b:Expr}{op:z8_}{r:T->T->Mem->RE T}(h:z0m Γ a op b=some r):OpC X D W op r:=by
 unfold z0m at h
 split at h
 ·obtain⟨_,h⟩:=zq h;cases h;exact z7s C.unt
 ·obtain⟨_,h⟩:=zq h;cases h;exact z0R C.unt
 ·obtain⟨_,h⟩:=zq h;cases h;exact z32 C.unt
 ·cases h
noncomputable def rC2:ER:=λr Γ e=>match e with
 |.Compare a [op] [b] _=>(z0m Γ a op b).bind λc=>gd (vj op b) ((r.e Γ a).bind λf=>(r.e Γ b).bind λg=>some (eC2 c f g))
 |_=>none
theorem z3M{D:DP}:EOk D rC2:=by
 intro r H X W Γ k e d C h
 unfold rC2 at h
 split at h
 ·obtain⟨c,hc,h⟩:=bnd h
  obtain⟨hb,h1⟩:=zq h
  obtain⟨f,e1,h1⟩:=bnd h1
  obtain⟨g,e2,h1⟩:=bnd h1
  cases h1
  exact z6p (z2c C hc) hb (H.e C e1) (H.e C e2)
 ·cases h
noncomputable def z3q:TR:=λr Γ e=>match e with
 |.Compare a [op] [b] _=>(z0m Γ a op b).bind λc=>gd (vj op b) ((r.e Γ a).bind λf=>(r.e Γ b).bind λg=>some (tE (eC2 c f g)))
 |_=>none
theorem z1u{D:DP}:TOk D z3q:=by
 intro r H X W Γ k e d C h
 unfold z3q at h
 split at h
 ·obtain⟨c,hc,h⟩:=bnd h
  obtain⟨hb,h1⟩:=zq h
  obtain⟨f,e1,h1⟩:=bnd h1
  obtain⟨g,e2,h1⟩:=bnd h1
  cases h1
  exact UC (z2c C hc) hb (H.e C e1) (H.e C e2)
 ·cases h
end NH
end
section
namespace NH.P
open PySem L2 NH
@[reducible] noncomputable def V2:List Ds:=[(zh (eC .non))]
noncomputable def forget:Fn:=fnW 1 0 V2
@[reducible] noncomputable def xa:List Ds:=[(sIf (tOr (q9 (tE (jZ [4] (eV 0)))) (tOr (tE (zi .Eq (eB1 vN (eV 0)) (eC (.int 0)))) (q9 (tE (jZ [3] (eIx (eV 0) (eC (.int 0)))))))) [(zh (eC (.bl false)))] []),(zh (eC2 JY (z_ [(eIx (eV 0) (eC (.int 0))),(eB1 vN (eV 0))]) (z_ [(z_ [(eC (.str "lease")),(eC (.int 5))]),(z_ [(eC (.str "ask")),(eC (.int 4))])])))]
noncomputable def vC:Fn:=fnW 1 0 xa
@[reducible] noncomputable def j7:List Ds:=[(zh (WZ (jZ [5] (eV 0)) (eB1 XE (qI 1 [] (.one 0) (iE (eV 0)) [] (z5 vC [(eV 0)])))))]
noncomputable def w5:Fn:=fnW 1 0 j7
@[reducible] noncomputable def uJ:List Ds:=[(sIf (q9 (tE (z5 qL [(eV 2)]))) [(zC 17 [(eC (.str "a holder is a text of one to eight small letters"))])] []),(sIf (tE (eC2 xG (eV 2) (eV 0))) [(k_ (eV 0) (eV 2) (z5l 45 qO [(eV 1),(eC (.int 0)),(eC (.int 0)),(eC (.clo 1 []))]))] []),(zh (eC2 KH (eV 0) (eV 2)))]
noncomputable def vR:Fn:=fnW 3 0 uJ
@[reducible] noncomputable def jA:List Ds:=[(zk 1 (eIx (jn [(eC (.int 0)),(z5 WE [(eV 0),(eC (.int 40)),(eC (.int 1000))]),(z5 WE [(eV 0),(eC (.int 50)),(z9 .Pow (eC (.int 10)) (eC (.int 36)))])]) (z9 .Mod (z5 zw [(eV 0),(eC (.int 39))]) (eC (.int 3))))),(zk 2 (z9 .Add (eC (.int 1)) (z9 .Mod (z5 zw [(eV 0),(eC (.int 1))]) (eC (.int 20))))),(zh (z_ [(eMk 40 vJ [(z9 .Add (eV 1) (eV 2)),(z9 .Add (eC (.int 1)) (z9 .Mod (z5 zw [(eV 0),(eC (.int 2))]) (eC (.int 4)))),(z9 .Add (eC (.int 1)) (z9 .Mod (z5 zw [(eV 0),(eC (.int 3))]) (eC (.int 20))))]),(eV 1),(eV 2)]))]
noncomputable def wI:Fn:=fnW 1 2 jA
@[reducible] noncomputable def qQ:List Ds:=[(zk 5 (eIx (jn [(eC .non),(z9 .Mod (z5 zw [(eV 4),(eC (.int 4))]) (eC (.int 4)))]) (z9 .Mod (z5 zw [(eV 4),(eC (.int 5))]) (eC (.int 2))))),(zk 6 (z9 .Add (eC (.int 1)) (z9 .Mod (z5 zw [(eV 4),(eC (.int 7))]) (eIx (jn [(eC (.int 2)),(eC (.int 9))]) (z9 .Mod (z5 zw [(eV 4),(eC (.int 8))]) (eC (.int 2))))))),(zk 7 (z_ [(eC (.str "lease")),(eV 1),(eV 5),(z9 .Add (eV 2) (z9 .Mod (z5 zw [(eV 4),(eC (.int 6))]) (eV 3))),(eV 6)])),(sIf (wb (tE (zi .IsNot (eV 5) (eC .non))) (tE (zi .GtE (eV 5) (ze (ze (eV 0) 9) 1)))) [(zh (z_ [(eC .non),(eC .non)]))] []),(zk 8 (eC .non)),(z3u [(zk 8 (zW 43 qJ (eV 0) [(eIx (eV 7) (eC (.int 1))),(eIx (eV 7) (eC (.int 2))),(eIx (eV 7) (eC (.int 3))),(eIx (eV 7) (eC (.int 4)))]))] [([19],none,[(zk 7 (eC .non))])]),(zh (z_ [(eV 7),(eV 8)]))]
noncomputable def qT:Fn:=fnW 5 4 qQ
@[reducible] noncomputable def zE:List Ds:=[(ug [5,6,7] (eV 1)),(zk 8 (z9 .Add (eV 6) (z9 .Mod (z5 zw [(eV 4),(eC (.int 9))]) (z9 .Sub (eV 7) (eV 6))))),(sIf (wb (tE (zi .IsNot (eV 2) (eC .non))) (wb (tE (zi .Lt (eIx (eV 2) (eC (.int 0))) (eV 7))) (tE (zi .Eq (z9 .Mod (z5 zw [(eV 4),(eC (.int 10))]) (eC (.int 2))) (eC (.int 1)))))) [(zk 8 (eB2 xV (eV 6) (eIx (eV 2) (eC (.int 0)))))] []),(zk 9 (eC (.int 0))),(sIf (wb (tE (zi .IsNot (eV 2) (eC .non))) (tE (zi .Eq (eSl (eV 2) pN (pS (eC (.int 2)))) (z_ [(eV 8),(eV 5)])))) [(zk 9 (z9 .Add (eIx (eV 2) (eC (.int 2))) (eC (.int 1))))] []),(zk 10 (z9 .Add (eC (.int 1)) (z9 .Mod (z5 zw [(eV 4),(eC (.int 11))]) (eIx (jn [(eC (.int 1)),(eC (.int 3)),(ze (eV 0) 2)]) (z9 .Mod (z5 zw [(eV 4),(eC (.int 12))]) (eC (.int 3))))))),(sIf (tOr (wb (tE (zi .IsNot (eV 2) (eC .non))) (tE (eC2 leT (z_ [(eV 8),(eV 5),(eV 9)]) (eV 2)))) (tE (zi .Gt (z9 .Add (eV 9) (eV 10)) (ze (eV 0) 2)))) [(zh (z_ [(eC .non),(jn [])]))] []),(zk 11 (qI 1 [9,5,8,0] (.one 0) (WB (eV 10)) [] (z5 jb [(eV 4),(eV 3),(eV 2),(z9 .Add (eV 1) (eV 0))]))),(zh (z_ [(z_ [(eC (.str "ask")),(eV 3),(eV 8),(eV 10)]),(qI 1 [3] (.one 0) (iE (eV 11)) [] (z_ [(eV 1),(eV 0)]))]))]
noncomputable def wW:Fn:=fnW 5 7 zE
@[reducible] noncomputable def JP:List Ds:=[(zk 4 (z07 43 qS [(eV 0)])),(zk 5 uW),(zk 6 uW),(zk 7 (Vv [])),(zk 8 (Vv [])),(jI (.one 9) (iE (eV 3)) [(zk 10 (eIx (jn [(eC (.str "anna")),(eC (.str "b")),(eC (.str "bo")),(eC (.str "zzzzzzzz"))]) (z9 .Mod (z5 zw [(eV 9),(eC (.int 0))]) (eC (.int 4))))),(sIf (tOr (tE (eC2 xG (eV 10) (eV 5))) (tE (zi .Eq (z9 .Mod (z5 zw [(eV 9),(eC (.int 13))]) (eC (.int 4))) (eC (.int 0))))) [(ug [11,12] (z5 qT [(eV 4),(eV 10),(eV 1),(eV 2),(eV 9)])),(sIf (tE (zi .IsNot (eV 11) (eC .non))) [(k_ (eV 5) (eV 10) (eV 12))] [])] [(ug [11,13] (z5 wW [(eV 0),(eC2 KH (eV 5) (eV 10)),(WX (eV 6) (eV 10)),(eV 10),(eV 9)])),(zF (XM (eV 8) (eV 13))),(sIf (tE (zi .NotEq (eV 13) (jn []))) [(k_ (eV 6) (eV 10) (z5 qo [(eV 0),(eIx (eIx (eV 13) (z0O (eC (.int 1)))) (eC (.int 1)))]))] [])]),(sIf (tE (zi .IsNot (eV 11) (eC .non))) [(zF (WC (eV 7) (eV 11)))] [])]),(zh (z_ [(eV 7),(eV 8)]))]
noncomputable def Qe:Fn:=fnW 4 10 JP
end NH.P
end
section
namespace NH.P
open PySem L2 NH
@[reducible] noncomputable def u6:List Ds:=[(zk 1 (Vv [])),(zk 2 uW),(jI (.one 3) (iE (eV 0)) [(zk 4 (eIx (eV 3) (eC (.int 0)))),(zk 5 (eIx (eIx (eV 3) (eC (.int 1))) (eC (.int 0)))),(zk 6 (eIx (eIx (eV 3) (eC (.int 1))) (eC (.int 1)))),(zk 7 (z9 .Add (eIx (eIx (eV 3) (eC (.int 1))) (eC (.int 2))) (eC (.int 1)))),(zk 8 (WX (eV 2) (eV 4))),(sIf (wb (tE (zi .IsNot (eV 8) (eC .non))) (tE (zi .Eq (eSl (eV 8) pN (pS (eC (.int 2)))) (z_ [(eV 5),(eV 6)])))) [(zk 7 (z9 .Sub (eV 7) (z9 .Add (eIx (eV 8) (eC (.int 2))) (eC (.int 1)))))] [(zF (WC (eV 1) (z_ [(eC (.str "lease")),(eV 4),(eV 6),(eV 5),(eC (.int 1))])))]),(zF (WC (eV 1) (z_ [(eC (.str "ask")),(eV 4),(eV 5),(eV 7)]))),(k_ (eV 2) (eV 4) (eIx (eV 3) (eC (.int 1))))]),(zh (eV 1))]
noncomputable def kf:Fn:=fnW 1 8 u6
@[reducible] noncomputable def ZO:List Ds:=[(sIf (tE (zi .Gt (ze (eV 0) 2) (eC (.int 20)))) [(zC 12 [(eC (.str "a book is judged of a shape of at most twenty counts"))])] []),(zF (z5 vx [(eV 0),(eV 1)])),(zk 2 (qI 1 [0] (.one 0) (iE (eV 1)) [] (z_ [(eIx (eV 0) (eC (.int 0))),(z5 qo [(eV 1),(eIx (eV 0) (eC (.int 1)))])]))),(jI (.one 3) (WB (eB1 vN (eV 2))) [(jI (.one 4) (WB (eV 3)) [(sIf (q9 (tE (z5 qC [(eIx (eV 2) (eV 4)),(eIx (eV 2) (eV 3))]))) [(zh (z_ [(eC (.str "wrong")),(eV 4),(eV 3)]))] [])])]),(zh (z_ [(eC (.str "right")),(z5 kf [(eV 2)])]))]
noncomputable def wG:Fn:=fnW 2 3 ZO
@[reducible] noncomputable def uo:List Ds:=[(zk 2 (eC (.int 0))),(jI (.one 3) (iE (eV 1)) [(sIf (wb (tE (zi .Lt (eV 2) (eB1 vN (eV 0)))) (tE (zi .Eq (eV 3) (eIx (eV 0) (eV 2))))) [(zk 2 (z9 .Add (eV 2) (eC (.int 1))))] [])]),(zh (zi .Eq (eV 2) (eB1 vN (eV 0))))]
noncomputable def ko:Fn:=fnW 2 2 uo
@[reducible] noncomputable def ki:List Ds:=[(zk 3 (z5 qo [(eV 0),(eIx (eV 1) (eC (.int 1)))])),(zk 4 (z5 qo [(eV 0),(eIx (eV 2) (eC (.int 1)))])),(sIf (tE (zi .Eq (eIx (eV 1) (eC (.int 1))) (eIx (eV 2) (eC (.int 1))))) [(zh (eC (.bl false)))] []),(sIf (tE (zi .Eq (eIx (eV 1) (eC (.int 0))) (eIx (eV 2) (eC (.int 0))))) [(zh (zi .Lt (eIx (eV 1) (eC (.int 1))) (eIx (eV 2) (eC (.int 1)))))] []),(zh (eOr (zi .NotEq (eIx (eV 3) (eC (.int 0))) (eIx (eV 4) (eC (.int 0)))) (zi .NotEq (eIx (eV 3) (eC (.int 1))) (eIx (eV 4) (eC (.int 1))))))]
noncomputable def vw:Fn:=fnW 3 2 ki
@[reducible] noncomputable def ZT:List Ds:=[(jI (.one 2) (WB (eB1 vN (eV 1))) [(jI (.one 3) (WB (eV 2)) [(sIf (q9 (tE (z5 vw [(eV 0),(eIx (eV 1) (eV 3)),(eIx (eV 1) (eV 2))]))) [(zh (z_ [(eC (.str "wrong")),(eV 3),(eV 2)]))] [])])]),(zh (eC .non))]
noncomputable def yp:Fn:=fnW 2 2 ZT
end NH.P
end
section
namespace NH
open PySem PySem.Spec PyProof.Rows L2
noncomputable def zI{α:Type}(is:List Nat)(xs:List α):List α:=is.filterMap λi=>xs[i]?
theorem QY{α:Type}{x:α}{r:List α}:∀is:List Nat,(∀i∈is,0<i)->zI is (x::r)=zI (is.map (· - 1)) r
 |[],_=>rfl
 |i::is,h=>by
  obtain⟨j,rfl⟩:∃j,i=j+1:=⟨i-1,by have:=h i (by simp);omega⟩
  have ih:=QY (x:=x) (r:=r) is λa ha=>h a (by simp[ha])
  unfold zI at ih ⊢
  simp only[z8z,z82,zag,Nat.add_sub_cancel,ih]
theorem jY{α:Type}:∀{xs:List α} {is:List Nat},is.Pairwise (·<·)->(zI is xs).Sublist xs
 |[],is,_=>by
  have:zI is ([]:List α)=[]:=by unfold zI;simp
  rw[this];exact zcZ _
 |x::r,[],_=>zby _
 |x::r,i::is,h=>by
  have h2:=List.pairwise_cons.mp h
  have dn:∀l:List Nat,(∀a∈l,0<a)->l.Pairwise (·<·)->(l.map (· - 1)).Pairwise (·<·):=λl hl hp=>by
   rw[z9h]
   refine zem (λ{a b} ha hb q=>?_) hp
   have:=hl a ha
   omega
  by_cases e:i=0
  ·subst e
   have p:∀a∈is,0<a:=λa ha=>h2.1 a ha
   have:zI (0::is) (x::r)=x::zI is (x::r):=by unfold zI;simp
   rw[this,QY is p]
   exact (jY (dn is p h2.2)).cons_cons x
  ·have p:∀a∈i::is,0<a:=λa ha=>by
    rcases z88.mp ha with rfl|ha
    ·omega
    ·have:=h2.1 a ha;omega
   rw[QY _ p]
   exact (jY (dn _ p h)).cons x
noncomputable def xE(n:Nat)(k:Int):List Nat:=sliceRange 0 n k
theorem Ku{n:Nat}{k:Int}(hk:0<k):(xE n k).Pairwise (·<·):=by
 unfold xE sliceRange
 rw[z9h]
 refine zc_ ?_ zbN
 intro a b ab
 have:=Int.mul_lt_mul_of_pos_left (show (a:Int)<b by omega) hk
 have:0<=k * (a:Int):=z8P (by omega) (by omega)
 omega
theorem XG{us:List Value}{k:Int}(hk:0<k):zd7 us.toArray none none (some k)=(zI (xE us.length k) us).toArray:=by
 unfold zd7 z9N zI xE
 simp[hk]
noncomputable abbrev z6d(x:T)(o:Option Int)(μ:Mem):RE T:=match x with
 |.mut i=>λK _=>∃xs k,μ[i]?=some (.lst xs)/\(o=some k/\0<k)/\K (.lst (zI (xE xs.length k) xs)) μ
 |_=>.st
noncomputable abbrev z5d(f:De)(g:Dp):De:=λτ μ=>(f τ μ).bind λx μ1=>(g τ μ1).bind λo μ2=>z6d x o μ2
section
variable {X:Cx}{D:DP}{W:XW}{Γ:Cn}{k:Nat}{pins:List (Addr×Obj)}{s:Shared}{σ:St}{H:Hp}{φ α:List Addr}{τ:Sl}{μ:Mem}{f:De}{g:Dp}{a:Expr}{pos p2:Pos}
theorem ZW{vs:List V}{us:List Value}(h:Vals vs us):∀is:List Nat,Vals (zI is vs) (zI is us)
 |[]=>.nil
 |i::is=>by
  have ih:=ZW h is
  unfold zI at ih ⊢
  cases e:vs[i]? with
  |none=>
   have:us[i]?=none:=by rw[zaZ] at e ⊢;rw[←h.length];exact e
   simp only[z8z,e,this];exact ih
  |some v=>
   obtain⟨u,hu,r⟩:=h.get e
   simp only[z8z,e,hu];exact .cons r ih
theorem ZU{xs:List T}{vs:List V}(h:DenL D φ α H xs vs):∀is:List Nat,DenL D φ α H (zI is xs) (zI is vs)
 |[]=>rfl
 |i::is=>by
  have ih:=ZU h is
  unfold zI at ih ⊢
  cases e:xs[i]? with
  |none=>
   have:vs[i]?=none:=by rw[zaZ] at e ⊢;rw[←h.length];exact e
   simp only[z8z,e,this];exact ih
  |some v=>
   obtain⟨u,hu,r⟩:=h.get e
   simp only[z8z,e,hu];exact⟨_,_,rfl,r,ih⟩
theorem z4J {st : Expr} (ha : PE X a (rdE D W f)) (hk : PO X (some st) (rdO D W g)) : PE X (.Subscript a (.Slice none none (some st) p2) pos) (rdE D W (z5d f g)) := by
  rintro pins s σ H Q I ⟨φ,α,τ,μ,sr,mr,p⟩
  refine zcu (thn (sub ha I sr mr p) ?_)
  rintro v s1 ⟨x,H1,t,μ1,α1,I1,r1,st1,sr1,mr1,d1,p1⟩
  refine wpAny_Slice ?_
  rw [zcl]
  refine z7G ?_
  refine z7G ?_
  refine thn (hk pins s1 σ H1 (fun o H2 => ∃ μ2 α2,Stp α1 H1 α2 H2 /\ MRel D φ α2 H2 μ2 /\ Post D W φ α2 H2 σ (RV D φ Q) (z6d t o μ2)) I1 ⟨φ,α1,τ,μ1,sr1,mr1,p1.bind.mono fun o μ' α' H' st m q => ⟨μ',α',st,m,q⟩⟩) ?_
  rintro vk s3 ⟨o,H3,I3,pk,μ2,α2,st2,m2,p3⟩
  have I4 : Inv X pins σ H3 { s3 with heap := s3.heap.push { cls := .type "slice",data := .fields #[.none,.none,vk] } } := I3.kept (t' := s3.toks) fun b ob q => z7z _ q
  have d3 := d1.step st2
  show z7K (z7N X.prog X.w) X.A (zbd a (.Slice none none (some st) p2) v (.ref s3.heap.objs.size)) (EP X pins σ Q) X.xe { s3 with heap := s3.heap.push { cls := .type "slice",data := .fields #[.none,.none,vk] } }
  cases t with
  | «mut» j =>
    obtain ⟨ad,hj,rfl⟩ := d3
    obtain ⟨xs,kk,hx2,⟨ho,hk0⟩,p4⟩ := Post.ex2 p3
    obtain ⟨vs,q1,l⟩ := m2.ob j ad _ hj hx2
    subst r1 ho
    obtain ⟨its,rv,pl,hz⟩ := I4.list (.inl (.inl q1))
    have hlen := rv.length
    refine tail_any (ops := [.ref ad,.ref s3.heap.objs.size]) pl.isList.typeIs list_getitem_lookup (zbe pl.isList (zcv ..) .none .none pk (by intro e; cases e; omega) ?_ (by simp only [z7M]; omega)) (by with_unfolding_all rfl)
    rw [XG hk0]
    have sb := jY (xs := vs) (Ku (n := its.length) hk0)
    refine ⟨.ref _,_,I4.laid (t' := s3.toks) (o := .lst (zI (xE its.length kk) vs)) (fun b ob q => z7z _ q) (z7D _) ?_,rfl,?_⟩
    · exact ⟨z7V sb.length_le hz,zI (xE its.length kk) its,_,ZW rv _,z7W _ rfl⟩
    · have hp := I4.hok.fresh (a := (s3.heap.push { cls := .type "slice",data := .fields #[.none,.none,vk] }).objs.size) (z7D _)
      have el : xs.length = its.length := by rw [l.length,hlen]
      rw [el] at p4
      exact p4.fresh m2 (za hp) ⟨_,_,rfl,zo m2 hp,zm m2 hp,.inl z7,(ZU l _).step (Stp.new (za hp))⟩
  | _ => exact Post.elim p3
end
noncomputable def z4a:ER:=λr Γ e=>match e with
 |.Subscript a (.Slice none none (some st) _) _=>(r.e Γ a).bind λf=>(r.e Γ st).bind λg=>some (z5d f (pS g))
 |_=>none
theorem z1x{D:DP}:EOk D z4a:=by
 intro r H X W Γ k e d C h
 unfold z4a at h
 split at h
 ·obtain⟨f,h1,h⟩:=bnd h
  obtain⟨g,h2,h⟩:=bnd h
  cases h
  exact z4J (H.e C h1) (Kr (H.e C h2))
 ·cases h
end NH
end
section
namespace NH.P
open PySem L2 NH
@[reducible] noncomputable def qd:List Ds:=[(sIf (tOr (q9 (tE (z5 wD [(eV 2)]))) (tE (zi .Gt (eV 2) (ze (ze (eV 0) 9) 2)))) [(zC 20 [(eC (.str "so many are whole numbers from 1 on up to the shape's counts"))])] []),(sIf (q9 (tE (z5 qq [(eV 1)]))) [(zC 16 [(eC (.str "a reading is a whole number"))])] []),(zF (zW 45 zV (eV 0) [])),(zk 3 (z9 .Mult (eB2 xV (eIx (ze (eV 0) 6) (eC (.int 1))) (eV 1)) (ze (ze (eV 0) 9) 2))),(zk 4 (eB2 xV (zW 45 qh (eV 0) []) (eV 3))),(zk 5 (z9 .Add (eV 4) (eV 2))),(sIf (tE (zi .Gt (eV 5) (z9 .Mult (eIx (ze (eV 0) 6) (eC (.int 2))) (ze (ze (eV 0) 9) 2)))) [(zC 18 [(eC (.str "the lease has not so many names"))])] []),(zk 6 (z9 .Sub (z9 .FloorDiv (z9 .Sub (eV 5) (eC (.int 1))) (ze (ze (eV 0) 9) 2)) (z9 .Add (eV 1) (ze (eV 0) 14)))),(sIf (tE (zi .Gt (eV 6) (eC (.int 0)))) [sSt] []),(zh (eMk 44 jS [(eIx (ze (eV 0) 6) (eC (.int 0))),(eV 4),(eV 5)]))]
noncomputable def zS:Fn:=fnW 3 4 qd
@[reducible] noncomputable def wa:List Ds:=[(zF (zW 45 qe (eV 0) [])),(zk 3 (zW 45 zS (eV 0) [(eV 1),(eV 2)])),(zF (zW 45 wq (eV 0) [(ze (eV 0) 6),(zW 45 zZ (eV 0) [(z9 .FloorDiv (z9 .Sub (ze (eV 3) 13) (eC (.int 1))) (ze (ze (eV 0) 9) 2))])])),(ql (eV 0) 18 (z5 km [(ze (eV 0) 9),(ze (eV 3) 11),(z9 .Sub (ze (eV 3) 13) (eC (.int 1)))])),(zh (eV 3))]
noncomputable def zN:Fn:=fnW 3 1 wa
@[reducible] noncomputable def jD:List Ds:=[(zk 3 (zW 45 zN (eV 0) [(eV 1),(eV 2)])),(ql (eV 0) 19 (jn [])),(zh (z5 qz [(ze (eV 0) 9),(eV 3)]))]
noncomputable def qc:Fn:=fnW 3 1 jD
@[reducible] noncomputable def vK:List Ds:=[(zk 3 (zW 45 zN (eV 0) [(eV 1),(eV 2)])),(zF (WC (ze (eV 0) 19) (eV 3))),(zh (z5 ZC [(ze (eV 0) 19)]))]
noncomputable def wK:Fn:=fnW 3 1 vK
@[reducible] noncomputable def uF:List Ds:=[(sIf (q9 (tE (z5 w5 [(eV 1)]))) [(zC 25 [(eC (.str "no list of rows of a run"))])] []),(zk 2 (z07 43 qS [(eV 0)])),(zk 3 uW),(zk 4 (Vv [])),(jI (.one 5) (iE (eV 1)) [(zk 6 (eIx (eV 5) (eC (.int 1)))),(zk 7 (z5 vR [(eV 3),(eV 0),(eV 6)])),(sIf (tE (zi .Eq (eIx (eV 5) (eC (.int 0))) (eC (.str "lease")))) [(zF (zW 45 zP (eV 7) [(zW 43 qJ (eV 2) [(eV 6),(eIx (eV 5) (eC (.int 2))),(eIx (eV 5) (eC (.int 3))),(eIx (eV 5) (eC (.int 4)))])]))] [(zF (XM (eV 4) (qI 1 [6] (.one 0) (iE (zW 45 qc (eV 7) [(eIx (eV 5) (eC (.int 2))),(eIx (eV 5) (eC (.int 3)))])) [] (z_ [(eV 1),(eV 0)]))))])]),(zh (eV 4))]
noncomputable def kq:Fn:=fnW 2 6 uF
@[reducible] noncomputable def j9:List Ds:=[(sIf (tOr (q9 (tE (jZ [4] (eV 2)))) (tOr (tE (zi .NotEq (eB1 vN (eV 2)) (eC (.int 2)))) (tOr (tE (zi .NotEq (eIx (eV 2) (eC (.int 0))) (eC (.str "right")))) (q9 (tE (jZ [5] (eIx (eV 2) (eC (.int 1))))))))) [(zh (eC (.bl false)))] []),(zh (z5 ko [(eV 1),(z5 kq [(eV 0),(eIx (eV 2) (eC (.int 1)))])]))]
noncomputable def qF:Fn:=fnW 3 0 j9
end NH.P
end
section
namespace NH.P
open PySem L2 NH
@[reducible] noncomputable def ZK:List Ds:=[(zh (eIx (jn [(eC (.str "other")),(eC (.str "anna"))]) (eB1 z1H (zi .Eq (eV 0) (eC (.str "other"))))))]
noncomputable def kZ:Fn:=fnW 1 0 ZK
@[reducible] noncomputable def vZ:List Ds:=[(ug [4,5] (eIx (eV 1) (eV 2))),(ug [6,7,8] (z5 qo [(eV 0),(eV 5)])),(zk 9 (z9 .Mod (z5 zw [(eV 3),(eC (.int 60))]) (eC (.int 4)))),(sIf (tE (zi .Eq (eV 9) (eC (.int 0)))) [(zh (z_ [(eV 4),(eV 5)]))] []),(sIf (tE (zi .Eq (eV 9) (eC (.int 1)))) [(zh (z_ [(z5 kZ [(eV 4)]),(eV 5)]))] []),(sIf (wb (tE (zi .Eq (eV 9) (eC (.int 2)))) (tE (zi .Gt (eV 5) (eC (.int 0))))) [(zh (z_ [(eV 4),(z9 .Mod (z5 zw [(eV 3),(eC (.int 61))]) (eB2 Qo (eV 5) (eC (.int 2147483647))))]))] []),(zk 10 (z5 jb [(eV 0),(eV 6),(eV 7),(z9 .Mod (z5 zw [(eV 3),(eC (.int 62))]) (ze (eV 0) 2))])),(zh (z_ [(z5 kZ [(eV 4)]),(eV 10)]))]
noncomputable def jd:Fn:=fnW 4 7 vZ
@[reducible] noncomputable def xq:List Ds:=[(ug [1,2,3] (z5 wI [(z5 vc [(eV 0),(eC (.int 0))])])),(ug [4,5] (z5 Qe [(eV 1),(eV 2),(eV 3),(eSl (eV 0) (pS (eC (.int 2))) (pS (eC (.int 40))))])),(zk 6 (eSl (z5d (eV 5) (pS (z9 .Add (eC (.int 1)) (z9 .Mod (z5 zw [(z5 vc [(eV 0),(eC (.int 1))]),(eC (.int 0))]) (eC (.int 4)))))) pN (pS (eC (.int 30))))),(sIf (tE (zi .Eq (eV 6) (jn []))) [(zh (zi .Eq (eIx (z5 wG [(eV 1),(jn [])]) (eC (.int 0))) (eC (.str "right"))))] []),(sIf (q9 (tE (z5 qF [(eV 1),(eV 6),(z5 wG [(eV 1),(eB1 V4 (eV 6))])]))) [(zh (eC (.bl false)))] []),(jI (.one 7) (iE (eSl (eV 0) (pS (eC (.int 40))) (pS (eC (.int 50))))) [(zk 8 (z9 .Mod (z5 zw [(eV 7),(eC (.int 63))]) (eB1 vN (eV 6)))),(zk 9 (eB1 z0l (eV 6))),(zF (z4W (eV 9) (z9 .Add (z9 .Add (eV 8) (eC (.int 1))) (z9 .Mod (z5 zw [(eV 7),(eC (.int 64))]) (z9 .Sub (eB1 vN (eV 6)) (eV 8)))) (z5 jd [(eV 1),(eV 6),(eV 8),(eV 7)]))),(zk 10 (z5 yp [(eV 1),(eV 9)])),(sIf (tOr (tE (zi .Is (eV 10) (eC .non))) (tE (zi .NotEq (z5 wG [(eV 1),(eB1 V4 (eV 9))]) (eV 10)))) [(zh (eC (.bl false)))] [])]),(zh (eC (.bl true)))]
noncomputable def kC:Fn:=fnW 1 10 xq
end NH.P
end
section
namespace NH.K75
open PySem PySem.Spec PyProof.Rows L2 NH NH.P
noncomputable def st(i:Nat):Stmt:=PySem.Challenge.pw_namehouses_k75_each_kind_of_pair.main.body.getD i (.Pass ⟨0,0,0,0⟩)
noncomputable def cls:List (Str×Nat):=[("Ended",19),("bool",1),("int",2),("list",5),("str",3),("tuple",4)]
noncomputable def fld:List (Str×Nat):=[("moments",0),("houses",1),("counts",2),("holder",5),("lease",6),("until",7),("is_cut",8),("shape",9),("grants",10),("house",11),("begin",12),("end",13),("ahead",14),("stride",15),("keeper",16),("mark",17),("newest",18),("batches",19),("has_fallen",20),("by",29)]
noncomputable def RU:Rules:=⟨[z5x,YS,z5P,z2V,z6n,rUn,z28,rC2,z2z,z6i,z6v,z65,z38,z3Q,z6N,z3B,z5R,z6m,z24,z5Z,z5i,z6o,Uh,z2v,z2d,z2Y,z6S,z2G,z4r,z4a,z23,z3s,Jo],[z3q,YR,z2n],[Yg],[Y7,riE],[z2e,XY,Jl],[z2o,z2h,z6u,Vw,z29,z2b,z2g,Yv,z25,z2r]⟩
theorem uD{D:DP}:RulesOk D RU:=⟨⟨z12,YJ,z1q,z1h,z0S,z2_,UX,z3M,z0v,z1U,z1A,z1t,z0W,z0z,z1Q,z0p,z0Y,z1p,Y4,z1S,z0L,z1R,z05,Ut,Y1,z1B,z1a,z13,z1d,z1x,YL,z19,Xo,trivial⟩,⟨z1u,UY,z0a,trivial⟩,⟨X3,trivial⟩,⟨YM,z3f,trivial⟩,⟨Uv,XB,Xn,trivial⟩,⟨UO,U8,z1c,KO,Uw,UQ,Yl,Yn,Yt,U2,trivial⟩⟩
noncomputable def gs0:List (Str×GM):=Kt ["ValueError","all","bool","int","isinstance","len","list","max","min","range","sorted","str","sum","tuple"] [("HouseError",10),("NoShape",12),("NoName",13),("NoTime",16),("NoHolder",17),("NoLease",18),("Ended",19),("TooMany",20),("NoNote",23),("Fallen",24),("NoRow",25)] [("Wait",21,29)]
noncomputable def vS:=st 56
noncomputable def z03:Cn:=cn cls fld gs0 ["note"] [] [] []
theorem XT:zf ((comp RU 60).s z03) (z3 vS)=some V2:=by kernel_rfl
noncomputable def gs1:List (Str×GM):=("forget",GM.fn forget)::gs0
noncomputable def gs2:List (Str×GM):=(Vr,GM.kpr)::gs1
noncomputable def gs3:List (Str×GM):=("forget",GM.cst (.clo 1 []))::gs2
noncomputable def uI:=st 15
noncomputable def Je:Cn:=cn cls fld gs3 ["thing"] ["isinstance","int","bool"] [] []
theorem JF:zf ((comp RU 60).s Je) (z3 uI)=some yS:=by kernel_rfl
noncomputable def gs4:List (Str×GM):=("is_whole",GM.fn qq)::gs3
noncomputable def ZQ:=st 16
noncomputable def XJ:Cn:=cn cls fld gs4 ["thing"] ["is_whole"] [] []
theorem KI:zf ((comp RU 60).s XJ) (z3 ZQ)=some ZF:=by kernel_rfl
noncomputable def gs5:List (Str×GM):=("is_size",GM.fn wD)::gs4
noncomputable def wZ:=st 17
noncomputable def xO:Cn:=cn cls fld gs5 ["thing"] ["is_whole"] [] []
theorem xF:zf ((comp RU 60).s xO) (z3 wZ)=some vg:=by kernel_rfl
noncomputable def gs6:List (Str×GM):=("is_from_nought",GM.fn qb)::gs5
noncomputable def uZ:=st 18
noncomputable def VB:Cn:=cn cls fld gs6 ["thing","bound"] ["is_whole"] [] []
theorem VZ:zf ((comp RU 60).s VB) (z3 uZ)=some yL:=by kernel_rfl
noncomputable def gs7:List (Str×GM):=("is_below",GM.fn qm)::gs6
noncomputable def kX:=inClass (st 19) 0
noncomputable def Wj:Cn:=cn cls fld gs7 ["self","moments","houses","counts"] ["is_size","NoShape"] [] []
theorem QR:zf ((comp RU 60).s Wj) (z3 kX)=some k9:=by kernel_rfl
noncomputable def gs8:List (Str×GM):=("Shape",GM.mk 40 true vJ)::gs7
noncomputable def yA:=st 20
noncomputable def JE:Cn:=cn cls fld gs8 ["shape"] [] [] []
theorem VQ:zf ((comp RU 60).s JE) (z3 yA)=some ue:=by kernel_rfl
noncomputable def gs9:List (Str×GM):=("names_in",GM.fn kQ)::gs8
noncomputable def ZJ:=st 21
noncomputable def Kw:Cn:=cn cls fld gs9 ["shape","thing"] ["is_below","names_in"] [] []
theorem XQ:zf ((comp RU 60).s Kw) (z3 ZJ)=some ZG:=by kernel_rfl
noncomputable def z5v:List (Str×GM):=("is_name",GM.fn jh)::gs9
noncomputable def kj:=st 22
noncomputable def Qs:Cn:=cn cls fld z5v ["shape","thing"] ["is_name","NoName"] [] []
theorem Wi:zf ((comp RU 60).s Qs) (z3 kj)=some k6:=by kernel_rfl
noncomputable def z2S:List (Str×GM):=("check_name",GM.fn vo)::z5v
noncomputable def xc:=st 23
noncomputable def W4:Cn:=cn cls fld z2S ["thing","bound"] ["is_below","NoName"] [] []
theorem W3:zf ((comp RU 60).s W4) (z3 xc)=some kH:=by kernel_rfl
noncomputable def z3C:List (Str×GM):=("check_part",GM.fn qP)::z2S
noncomputable def Q3:=st 24
noncomputable def Xz:Cn:=cn cls fld z3C ["shape","moment","house","count"] ["check_part"] [] []
theorem KC:zf ((comp RU 60).s Xz) (z3 Q3)=some Ql:=by kernel_rfl
noncomputable def z3F:List (Str×GM):=("name_of",GM.fn jb)::z3C
noncomputable def yN:=st 25
noncomputable def VV:Cn:=cn cls fld z3F ["shape","name","count","above"] ["check_name"] [] []
theorem Js:zf ((comp RU 60).s VV) (z3 yN)=some yK:=by kernel_rfl
noncomputable def z5_:List (Str×GM):=("parts_of",GM.fn qo)::z3F
noncomputable def z5M:List (Str×GM):=("HOUSE",GM.cst (.int 0))::z5_
noncomputable def z6j:List (Str×GM):=("FIRST",GM.cst (.int 1))::z5M
noncomputable def z3G:List (Str×GM):=("UNTIL",GM.cst (.int 2))::z6j
noncomputable def yC:=st 30
noncomputable def VJ:Cn:=cn cls fld z3G ["shape","thing"] ["isinstance","tuple","len","is_below","HOUSE","is_whole","FIRST","UNTIL"] [] []
theorem Jr:zf ((comp RU 60).s VJ) (z3 yC)=some uX:=by kernel_rfl
noncomputable def z4w:List (Str×GM):=("is_lease",GM.fn vP)::z3G
noncomputable def jt:=st 31
noncomputable def Zs:Cn:=cn cls fld z4w ["shape","thing"] ["is_lease","NoLease"] [] []
theorem Zl:zf ((comp RU 60).s Zs) (z3 jt)=some jw:=by kernel_rfl
noncomputable def z5E:List (Str×GM):=("check_lease",GM.fn qU)::z4w
noncomputable def z6e:List (Str×GM):=("LETTERS",GM.cst (.str "abcdefghijklmnopqrstuvwxyz"))::z5E
noncomputable def z3j:List (Str×GM):=("LONGEST_HOLDER",GM.cst (.int 8))::z6e
noncomputable def yg:=st 35
noncomputable def WQ:Cn:=cn cls fld z3j ["thing"] ["isinstance","str","len","LONGEST_HOLDER","all"] [] []
theorem Vo:zf ((comp RU 60).s WQ) (z3 yg)=some y9:=by kernel_rfl
noncomputable def z5n:List (Str×GM):=("is_holder",GM.fn qL)::z3j
noncomputable def xi:=inClass (st 36) 0
noncomputable def QW:Cn:=cn cls fld z5n ["self","holder","lease"] ["UNTIL"] [] []
theorem Qx:zf ((comp RU 60).s QW) (z3 xi)=some ku:=by kernel_rfl
noncomputable def z45:List (Str×GM):=("Grant",GM.mk 42 false jT)::z5n
noncomputable def JX:=st 37
noncomputable def z0G:Cn:=cn cls fld z45 ["grant","first","until"] ["max","FIRST","min"] [] []
theorem z1X:zf ((comp RU 60).s z0G) (z3 JX)=some JQ:=by kernel_rfl
noncomputable def z3E:List (Str×GM):=("meets",GM.fn meets)::z45
noncomputable def qp:=st 38
noncomputable def Zy:Cn:=cn cls fld z3E ["grants","moment","span","begin","grant"] ["sorted","meets"] [] [] (some (0,[⟨100,36,100,64⟩]))
theorem Zk:zf ((comp RU 60).s Zy) (z3 qp)=some js:=by kernel_rfl
noncomputable def z42:List (Str×GM):=("least_begin",GM.fn qX)::z3E
noncomputable def jC:=st 39
noncomputable def Zj:Cn:=cn cls fld z42 ["grants","moment","span","met","grant","house"] ["meets","HOUSE"] [] ["met"]
theorem Zc:zf ((comp RU 60).s Zj) (z3 jC)=some jE:=by kernel_rfl
noncomputable def z3b:List (Str×GM):=("least_house",GM.fn wA)::z42
noncomputable def jB:=inClass (st 40) 0
noncomputable def Zh:Cn:=cn cls fld z3b ["self","shape"] [] [] ["grants"]
theorem Za:zf ((comp RU 60).s Zh) (z3 jB)=some jz:=by kernel_rfl
noncomputable def z5m:List (Str×GM):=("Common",GM.mk 43 false qS)::z3b
noncomputable def wu:=inClass (st 40) 2
noncomputable def jL:Cn:=cn cls fld z5m ["self","holder","house","moment","span"] ["is_holder","NoHolder","is_below","NoName","is_size","NoTime","is_whole"] [] []
theorem jM:zf ((comp RU 60).s jL) (z3 wu)=some qr:=by kernel_rfl
noncomputable def z3n:List (Str×GM):=(dot "check_let",GM.met 43 "check_let" qf)::z5m
noncomputable def wt:=inClass (st 40) 4
noncomputable def jN:Cn:=cn cls fld z3n ["self","house"] [] ["house"] []
theorem jX:zf ((comp RU 60).s jN) (z3 wt)=some wj:=by kernel_rfl
noncomputable def z2K:List (Str×GM):=(dot "grants_of",GM.met 43 "grants_of" qg)::z3n
noncomputable def q_:=inClass (st 40) 3
noncomputable def jm:Cn:=cn cls fld z2K ["self","house","moment","span","begin"] ["least_house","least_begin"] [] []
theorem jq:zf ((comp RU 60).s jm) (z3 q_)=some qZ:=by kernel_rfl
noncomputable def z4C:List (Str×GM):=(dot "free_lease",GM.met 43 "free_lease" zY)::z2K
noncomputable def k8:=inClass (st 40) 1
noncomputable def QP:Cn:=cn cls fld z4C ["self","holder","house","moment","span","lease"] ["max","HOUSE","UNTIL","Ended","Grant"] [] []
theorem Qt:zf ((comp RU 60).s QP) (z3 k8)=some kK:=by kernel_rfl
noncomputable def z3e:List (Str×GM):=(dot "let",GM.met 43 "let" qJ)::z4C
noncomputable def vW:=inClass (st 40) 6
noncomputable def uq:Cn:=cn cls fld z3e ["self","lease","grant"] ["check_lease","NoLease"] [] []
theorem yH:zf ((comp RU 60).s uq) (z3 vW)=some j8:=by kernel_rfl
noncomputable def z3K:List (Str×GM):=(dot "uncut",GM.met 43 "uncut" kc)::z3e
noncomputable def kW:=inClass (st 40) 5
noncomputable def QH:Cn:=cn cls fld z3K ["self","lease","used","grant","until"] ["FIRST","is_whole","UNTIL","NoTime"] [] []
theorem QI:zf ((comp RU 60).s QH) (z3 kW)=some k7:=by kernel_rfl
noncomputable def z2F:List (Str×GM):=(dot "cut",GM.met 43 "cut" Ju)::z3K
noncomputable def uL:=st 42
noncomputable def VU:Cn:=cn cls fld z2F ["shape","thing"] ["isinstance","tuple","len","is_holder","is_name"] [] []
theorem JG:zf ((comp RU 60).s VU) (z3 uL)=some uQ:=by kernel_rfl
noncomputable def z5y:List (Str×GM):=("is_entry",GM.fn xl)::z2F
noncomputable def kR:=st 43
noncomputable def Qw:Cn:=cn cls fld z5y ["shape","thing"] ["isinstance","list","all","NoName"] ["shape"] []
theorem Wd:zf ((comp RU 60).s Qw) (z3 kR)=some kN:=by kernel_rfl
noncomputable def z4E:List (Str×GM):=("check_book",GM.fn vx)::z5y
noncomputable def Q0:=st 45
noncomputable def Xt:Cn:=cn cls fld z4E ["shape","thing"] ["isinstance","tuple","len","is_lease","is_below"] [] []
theorem XN:zf ((comp RU 60).s Xt) (z3 Q0)=some Q2:=by kernel_rfl
noncomputable def z2R:List (Str×GM):=("is_note",GM.fn Ka)::z4E
noncomputable def kh:=inClass (st 46) 0
noncomputable def QK:Cn:=cn cls fld z2R ["self","house","begin","end"] [] [] []
theorem QM:zf ((comp RU 60).s QK) (z3 kh)=some xg:=by kernel_rfl
noncomputable def z5h:List (Str×GM):=("Batch",GM.mk 44 true jS)::z2R
noncomputable def Q9:=st 47
noncomputable def Xy:Cn:=cn cls fld z5h ["shape","house","place"] ["name_of"] [] []
theorem KG:zf ((comp RU 60).s Xy) (z3 Q9)=some Qn:=by kernel_rfl
noncomputable def z4z:List (Str×GM):=("name_at",GM.fn km)::z5h
noncomputable def vi:=st 48
noncomputable def xw:Cn:=cn cls fld z4z ["shape","batch"] ["range"] ["shape","batch"] []
theorem xC:zf ((comp RU 60).s xw) (z3 vi)=some vd:=by kernel_rfl
noncomputable def z4P:List (Str×GM):=("names_of_batch",GM.fn qz)::z4z
noncomputable def ya:=st 49
noncomputable def Vk:Cn:=cn cls fld z4P ["batches"] ["sum"] [] []
theorem Vf:zf ((comp RU 60).s Vk) (z3 ya)=some ye:=by kernel_rfl
noncomputable def z40:List (Str×GM):=("size_of",GM.fn ZC)::z4P
noncomputable def jy:=st 50
noncomputable def Zi:Cn:=cn cls fld z40 ["shape","house","name","parts"] ["parts_of"] [] []
theorem Zq:zf ((comp RU 60).s Zi) (z3 jy)=some ju:=by kernel_rfl
noncomputable def z2P:List (Str×GM):=("place_above",GM.fn wF)::z40
noncomputable def zA:=inClass (st 51) 0
noncomputable def Qu:Cn:=cn cls fld z2P ["self","shape","ahead","stride","keeper","note"] ["is_from_nought","NoTime","is_note","NoNote"] [] []
theorem Wb:zf ((comp RU 60).s Qu) (z3 zA)=some xk:=by kernel_rfl
noncomputable def z63:List (Str×GM):=("House",GM.mk 45 false qO)::z2P
noncomputable def z3v:List (Str×GM):=(til "House",GM.mkd 45 "House" 4 qO)::z63
noncomputable def ve:=inClass (st 51) 8
noncomputable def xH:Cn:=cn cls fld z3v ["self"] ["Fallen"] [] []
theorem xU:zf ((comp RU 60).s xH) (z3 ve)=some wY:=by kernel_rfl
noncomputable def z37:List (Str×GM):=(dot "check_up",GM.met 45 "check_up" qe)::z3v
noncomputable def kr:=inClass (st 51) 7
noncomputable def W7:Cn:=cn cls fld z37 ["self"] [] [] []
theorem W5:zf ((comp RU 60).s W7) (z3 kr)=some kL:=by kernel_rfl
noncomputable def z2U:List (Str×GM):=(dot "note",GM.met 45 "note" vF)::z37
noncomputable def kM:=inClass (st 51) 15
noncomputable def QQ:Cn:=cn cls fld z2U ["self","lease","mark"] [] [] []
theorem QB:zf ((comp RU 60).s QQ) (z3 kM)=some kY:=by kernel_rfl
noncomputable def z4v:List (Str×GM):=(dot "keep",GM.met 45 "keep" wq)::z2U
noncomputable def we:=inClass (st 51) 1
noncomputable def jQ:Cn:=cn cls fld z4v ["self","lease"] ["check_lease"] [] []
theorem jJ:zf ((comp RU 60).s jQ) (z3 we)=some wo:=by kernel_rfl
noncomputable def z3c:List (Str×GM):=(dot "take_lease",GM.met 45 "take_lease" zP)::z4v
noncomputable def qv:=inClass (st 51) 9
noncomputable def v5:Cn:=cn cls fld z3c ["self"] ["NoLease"] [] []
theorem vh:zf ((comp RU 60).s v5) (z3 qv)=some qx:=by kernel_rfl
noncomputable def z2T:List (Str×GM):=(dot "check_has_lease",GM.met 45 "check_has_lease" zV)::z3c
noncomputable def wx:=inClass (st 51) 13
noncomputable def jO:Cn:=cn cls fld z2T ["self"] ["place_above","HOUSE"] [] []
theorem jU:zf ((comp RU 60).s jO) (z3 wx)=some wk:=by kernel_rfl
noncomputable def z51:List (Str×GM):=(dot "free_place",GM.met 45 "free_place" qh)::z2T
noncomputable def qW:=inClass (st 51) 12
noncomputable def ja:Cn:=cn cls fld z51 ["self","reading","many","least","begin","end","by"] ["is_size","TooMany","is_whole","NoTime","max","FIRST","UNTIL","NoLease","Wait","Batch","HOUSE"] [] []
theorem vY:zf ((comp RU 60).s ja) (z3 qW)=some qd:=by kernel_rfl
noncomputable def z4Y:List (Str×GM):=(dot "next_batch",GM.met 45 "next_batch" zS)::z51
noncomputable def qY:=inClass (st 51) 14
noncomputable def jr:Cn:=cn cls fld z4Y ["self","moment"] ["min"] [] []
theorem jk:zf ((comp RU 60).s jr) (z3 qY)=some qk:=by kernel_rfl
noncomputable def z4U:List (Str×GM):=(dot "mark_behind",GM.met 45 "mark_behind" zZ)::z4Y
noncomputable def wm:=inClass (st 51) 11
noncomputable def jW:Cn:=cn cls fld z4U ["self","reading","many","batch"] ["name_at"] [] []
theorem jF:zf ((comp RU 60).s jW) (z3 wm)=some wa:=by kernel_rfl
noncomputable def z3z:List (Str×GM):=(dot "hand_out",GM.met 45 "hand_out" zN)::z4U
noncomputable def zv:=inClass (st 51) 2
noncomputable def Zp:Cn:=cn cls fld z3z ["self","reading","many","batch"] ["names_of_batch"] [] []
theorem Zu:zf ((comp RU 60).s Zp) (z3 zv)=some jD:=by kernel_rfl
noncomputable def z6I:List (Str×GM):=(dot "ask",GM.met 45 "ask" qc)::z3z
noncomputable def z4t:List (Str×GM):=(til (dot "ask"),GM.metd 45 "ask" 1 (.int 1) qc)::z6I
noncomputable def zp:=inClass (st 51) 3
noncomputable def yh:Cn:=cn cls fld z4t ["self","reading","many","batch"] ["size_of"] [] []
theorem ym:zf ((comp RU 60).s yh) (z3 zp)=some vK:=by kernel_rfl
noncomputable def z5C:List (Str×GM):=(dot "store",GM.met 45 "store" wK)::z4t
noncomputable def z4j:List (Str×GM):=(til (dot "store"),GM.metd 45 "store" 1 (.int 1) wK)::z5C
noncomputable def kg:=inClass (st 51) 6
noncomputable def Qq:Cn:=cn cls fld z4j ["self"] [] [] []
theorem Wa:zf ((comp RU 60).s Qq) (z3 kg)=some kF:=by kernel_rfl
noncomputable def z6s:List (Str×GM):=(dot "last",GM.met 45 "last" VI)::z4j
noncomputable def z4T:List (Str×GM):=("MOST_COUNTS",GM.cst (.int 20))::z6s
noncomputable def kP:=st 54
noncomputable def Qv:Cn:=cn cls fld z4T ["thing"] ["isinstance","tuple","len","str"] [] []
theorem QX:zf ((comp RU 60).s Qv) (z3 kP)=some xa:=by kernel_rfl
noncomputable def z5f:List (Str×GM):=("is_run_row",GM.fn vC)::z4T
noncomputable def v_:=st 55
noncomputable def uH:Cn:=cn cls fld z5f ["thing"] ["isinstance","list","all"] [] []
theorem yx:zf ((comp RU 60).s uH) (z3 v_)=some j7:=by kernel_rfl
noncomputable def z3W:List (Str×GM):=("are_run_rows",GM.fn w5)::z5f
noncomputable def uP:=st 57
noncomputable def VP:Cn:=cn cls fld z3W ["houses","shape","holder"] ["is_holder","NoHolder","House","forget"] [] []
theorem Vy:zf ((comp RU 60).s VP) (z3 uP)=some uJ:=by kernel_rfl
noncomputable def z5g:List (Str×GM):=("house_of",GM.fn vR)::z3W
noncomputable def uk:=st 58
noncomputable def Jn:Cn:=cn cls fld z5g ["shape","rows","common","houses","told","row","holder","house"] ["are_run_rows","NoRow","Common","house_of"] ["holder"] ["houses","told"]
theorem Jh:zf ((comp RU 60).s Jn) (z3 uk)=some uF:=by kernel_rfl
noncomputable def z5q:List (Str×GM):=("played",GM.fn kq)::z5g
noncomputable def uG:=st 61
noncomputable def VF:Cn:=cn cls fld z5q ["given","rows","lasts","row","holder","moment","house","many","last"] [] [] ["rows","lasts"]
theorem JB:zf ((comp RU 60).s VF) (z3 uG)=some u6:=by kernel_rfl
noncomputable def z2W:List (Str×GM):=("run_of",GM.fn kf)::z5q
noncomputable def va:=st 60
noncomputable def xu:Cn:=cn cls fld z2W ["one","other"] [] [] []
theorem xP:zf ((comp RU 60).s xu) (z3 va)=some wQ:=by kernel_rfl
noncomputable def z4i:List (Str×GM):=("stand_together",GM.fn qC)::z2W
noncomputable def ZM:=st 59
noncomputable def KN:Cn:=cn cls fld z4i ["shape","book","given","other","one"] ["MOST_COUNTS","NoShape","check_book","range","len","stand_together","run_of"] ["shape"] []
theorem Xd:zf ((comp RU 60).s KN) (z3 ZM)=some ZO:=by kernel_rfl
noncomputable def z4f:List (Str×GM):=("judge",GM.fn wG)::z4i
noncomputable def y7:=st 63
noncomputable def Wl:Cn:=cn cls fld z4f ["_law_script","_law_k"] ["len"] [] []
theorem Vd:zf ((comp RU 60).s Wl) (z3 y7)=some y0:=by kernel_rfl
noncomputable def z4_:List (Str×GM):=("_law_cell_at",GM.fn vc)::z4f
noncomputable def WL:=st 64
noncomputable def z01:Cn:=cn cls fld z4_ ["_law_cell","_law_k","_law_number"] [] [] []
theorem Ud:zf ((comp RU 60).s z01) (z3 WL)=some yR:=by kernel_rfl
noncomputable def z3S:List (Str×GM):=("_law_draw",GM.fn zw)::z4_
noncomputable def J_:=st 65
noncomputable def z20:Cn:=cn cls fld z3S ["_law_cell","_law_k","_law_most","_law_found","_law_j"] ["range","_law_draw"] [] []
theorem z1T:zf ((comp RU 60).s z20) (z3 J_)=some JR:=by kernel_rfl
noncomputable def z5k:List (Str×GM):=("_law_far",GM.fn WE)::z3S
noncomputable def jx:=st 66
noncomputable def Z6:Cn:=cn cls fld z5k ["_law_cell","_law_far_here","_law_many"] ["_law_far","_law_draw","Shape"] [] []
theorem Z8:zf ((comp RU 60).s Z6) (z3 jx)=some jA:=by kernel_rfl
noncomputable def z48:List (Str×GM):=("_law_run_shape",GM.fn wI)::z5k
noncomputable def jv:=st 67
noncomputable def Ze:Cn:=cn cls fld z48 ["_law_common","_law_holder","_law_far_here","_law_many","_law_cell","_law_house","_law_span","_law_row","_law_lease"] ["_law_draw","Ended"] [] []
theorem Zt:zf ((comp RU 60).s Ze) (z3 jv)=some qQ:=by kernel_rfl
noncomputable def z4m:List (Str×GM):=("_law_lease_row",GM.fn qT)::z48
noncomputable def xZ:=st 68
noncomputable def WN:Cn:=cn cls fld z4m ["_law_shape","_law_lease","_law_last","_law_holder","_law_cell","_law_house","_law_first","_law_until","_law_reading","_law_count","_law_many","_law_names"] ["_law_draw","max","range"] ["_law_shape","_law_holder","_law_house","_law_reading","_law_count"] []
theorem Vg:zf ((comp RU 60).s WN) (z3 xZ)=some zE:=by kernel_rfl
noncomputable def z5j:List (Str×GM):=("_law_ask_row",GM.fn wW)::z4m
noncomputable def K3:=st 69
noncomputable def z0q:Cn:=cn cls fld z5j ["_law_shape","_law_far_here","_law_many","_law_cells","_law_common","_law_now","_law_last","_law_rows","_law_given","_law_cell","_law_holder","_law_row","_law_lease","_law_names"] ["Common","_law_draw","_law_lease_row","_law_ask_row","parts_of"] [] ["_law_now","_law_last","_law_rows","_law_given"]
theorem z0N:zf ((comp RU 60).s z0q) (z3 K3)=some JP:=by kernel_rfl
noncomputable def z4s:List (Str×GM):=("_law_run",GM.fn Qe)::z5j
noncomputable def yB:=st 70
noncomputable def VA:Cn:=cn cls fld z4s ["_law_book","_law_given","_law_at","_law_row"] ["len"] [] []
theorem VR:zf ((comp RU 60).s VA) (z3 yB)=some uo:=by kernel_rfl
noncomputable def z5s:List (Str×GM):=("_law_within",GM.fn ko)::z4s
noncomputable def j6:=st 71
noncomputable def uA:Cn:=cn cls fld z5s ["_law_shape","_law_book","_law_found"] ["isinstance","tuple","len","list","_law_within","played"] [] []
theorem uh:zf ((comp RU 60).s uA) (z3 j6)=some j9:=by kernel_rfl
noncomputable def z4k:List (Str×GM):=("_law_is_right",GM.fn qF)::z5s
noncomputable def xf:=st 72
noncomputable def QJ:Cn:=cn cls fld z4k ["_law_shape","_law_one","_law_other_here","_law_here","_law_there"] ["parts_of"] [] []
theorem Q_:zf ((comp RU 60).s QJ) (z3 xf)=some ki:=by kernel_rfl
noncomputable def z3Y:List (Str×GM):=("_law_together",GM.fn vw)::z4k
noncomputable def Qc:=st 73
noncomputable def Xm:Cn:=cn cls fld z3Y ["_law_shape","_law_book","_law_other_here","_law_one"] ["range","len","_law_together"] [] []
theorem Xu:zf ((comp RU 60).s Xm) (z3 Qc)=some ZT:=by kernel_rfl
noncomputable def z3U:List (Str×GM):=("_law_due",GM.fn yp)::z3Y
noncomputable def ZY:=st 74
noncomputable def Xj:Cn:=cn cls fld z3U ["_law_holder"] ["int"] [] []
theorem X6:zf ((comp RU 60).s Xj) (z3 ZY)=some ZK:=by kernel_rfl
noncomputable def z5o:List (Str×GM):=("_law_other",GM.fn kZ)::z3U
noncomputable def xX:=st 75
noncomputable def Ww:Cn:=cn cls fld z5o ["_law_shape","_law_book","_law_at","_law_cell","_law_holder","_law_name","_law_moment","_law_house","_law_count","_law_way","_law_other_here"] ["parts_of","_law_draw","_law_other","min","name_of"] [] []
theorem WA:zf ((comp RU 60).s Ww) (z3 xX)=some vZ:=by kernel_rfl
noncomputable def z60:List (Str×GM):=("_law_bad_row",GM.fn jd)::z5o
noncomputable def qt:=st 76
noncomputable def KP:Cn:=cn cls fld z60 ["_law_script","_law_shape","_law_far_here","_law_many","_law_rows","_law_given","_law_book","_law_cell","_law_at","_law_worse","_law_due_here"] ["_law_run_shape","_law_cell_at","_law_run","_law_draw","judge","_law_is_right","list","len","_law_bad_row","_law_due"] [] ["_law_worse"]
theorem Xi:zf ((comp RU 60).s KP) (z3 qt)=some xq:=by kernel_rfl
end NH.K75
end
section
namespace NH
open PySem PySem.Spec PyProof.Rows L2 PySem.W
noncomputable def zG (K:Frag)(x:Str)(st:Stmt):Prop:=∃f fd,nsIn K z7U x=some (some (.ref f))/\Fun K x x st f fd
noncomputable def vM (K:Frag)(C:Addr)(x q:Str)(st:Stmt):Prop:=∃f fd,z84 K (.ref C) x=some (some (.ref f))/\isFn K (.ref f)=true/\Fun K x q st f fd
noncomputable def Xs (K:Frag)(C:Addr)(x q:Str)(st:Stmt):Prop:=∃f fd,nsIn K z7U x=some (some (.ref C))/\z84 K (.ref C) "__init__"=some (some (.ref f))/\isFn K (.ref f)=true/\Fun K "__init__" q st f fd/\zdf K C=true/\z9o K (.ref C)=true
theorem dfp{K:Frag}{x:Str}{st:Stmt}{f:Addr}{oc:Value}{od an:Option Addr}{osl:Array (Option Value)}{kV doc pm cdv ct:Value}(a:nsIn K z7U x=some (some (.ref f)))(l:K.lookup f=some ⟨oc,od,.func (fnOf x x (zz st) (z3 st) (zj st) .none kV doc pm an cdv ct),osl⟩)(c:zaR K cdv x=true)(k:z9o K (.ref f)=true):zG K x st:=⟨f,_,a,xt l c k⟩
theorem mtp{K:Frag}{x q:Str}{st:Stmt}{f C:Addr}{oc:Value}{od an:Option Addr}{osl:Array (Option Value)}{kV doc pm cdv ct:Value}(a:z84 K (.ref C) x=some (some (.ref f)))(j:isFn K (.ref f)=true)(l:K.lookup f=some ⟨oc,od,.func (fnOf x q (zz st) (z3 st) (zj st) .none kV doc pm an cdv ct),osl⟩)(c:zaR K cdv q=true)(k:z9o K (.ref f)=true):vM K C x q st:=⟨f,_,a,j,xt l c k⟩
theorem clp {K:Frag} {x q:Str} {st:Stmt} {f C:Addr} {oc:Value} {od an:Option Addr} {osl:Array (Option Value)} {kV doc pm cdv ct:Value} (a:nsIn K z7U x=some (some (.ref C))) (i:z84 K (.ref C) "__init__"=some (some (.ref f))) (j:isFn K (.ref f)=true) (l:K.lookup f=some ⟨oc,od,.func (fnOf "__init__" q (zz st) (z3 st) (zj st) .none kV doc pm an cdv ct),osl⟩) (c:zaR K cdv q=true) (k:z9o K (.ref f)=true) (m:zdf K C=true) (kk:z9o K (.ref C)=true):Xs K C x q st:=⟨f,_,a,i,j,xt l c k,m,kk⟩
noncomputable def PL:Nat->(List Value->Prop)->Prop
 |0,P=>P []
 |n+1,P=>∀a,PL n λl=>P (a::l)
theorem PL.all:∀{n:Nat} {P:List Value->Prop},PL n P->∀us:List Value,us.length=n->P us
 |0,_,h,[],_=>h
 |_+1,_,h,a::l,e=>PL.all (h a) l (zd0 e)
abbrev BdP(x q:Str)(st:Stmt)(ps:List Str):Prop:=∀(kV doc pm:Value) (an:Option Addr) (cdv ct:Value),PL ps.length λus=>zbn (fnOf x q (zz st) (z3 st) (zj st) .none kV doc pm an cdv ct) ⟨us,[]⟩=pure (ps.zip us)
structure Pk(R:Rules)(K:Frag)(mg:Str->Option Value)(base:Heap)(A:Ads)(cls fld:List (Str×Nat)):Prop where
 r:∀{D},RulesOk D R
 i:K.In base
 n:base.Ns z7U mg
 c:chk K A cls fld=true
section
variable {R:Rules}{P:Program}{w:World}{K:Frag}{mg:Str->Option Value}{base:Heap}{A:Ads}{cls fld:List (Str×Nat)}{clo:Nat->Addr->Option HO->List V->Prop}{gs:List (Str×GM)}{tabs:Nat->Option (Addr×List Pos×Str)}{k:Nat}{x qu:Str}{st:Stmt}{f C:Addr}{fd:FuncData}{ps N G cel own:List Str}{m n:Nat}{ds:List Ds}
theorem Pk.ok(Z:Pk R K mg base A cls fld)(F:Fun K x qu st f fd)(q:GsOk P w K mg base A clo k gs tabs)(hds:zf ((comp R n).s (cn cls fld gs N G cel own none)) (z3 st)=some ds)(hs:yn (cn cls fld gs N G cel own none) ps (zj st)=true)(hm:N.length=ps.length+m) :
  FnOk P w K mg base (CX1 P w) (k+1) f fd ps (spN (mkD K A clo tabs) ps.length (fnW ps.length m ds)):=by
 obtain⟨oc,od,kV,doc,pm,an,cdv,ct,osl,rfl,lk,hcd⟩:=F.ex
 exact vG Z.r (yG Z.i Z.n Z.c q) lk hcd hs hm hds
theorem Pk.fn (Z:Pk R K mg base A cls fld) (p:zG K x st) (q:GsOk P w K mg base A clo k gs tabs) (hds:zf ((comp R n).s (cn cls fld gs N G cel own none)) (z3 st)=some ds) (hs:yn (cn cls fld gs N G cel own none) ps (zj st)=true) (hm:N.length=ps.length+m) (hb:BdP x x st ps) (hx:(x == ("__debug__":Str))=false) :
  GsOk P w K mg base A clo (k+1) ((x,GM.fn (fnW ps.length m ds))::gs) tabs:=by
 obtain⟨f,fd,a,F⟩:=p
 exact GsOk.add (q.mono (zb6 k)) ⟨f,zbz Z.i Z.n a,fd,ps,k+1,F.kp,F.binds λkV dc pm an cd ct=>(hb kV dc pm an cd ct).all,z7D _,Z.ok F q hds hs hm,qB⟩ hx
theorem Pk.met {c:Nat} (Z:Pk R K mg base A cls fld) (p:vM K C x qu st) (q:GsOk P w K mg base A clo k gs tabs) (hds:zf ((comp R n).s (cn cls fld gs N G cel own none)) (z3 st)=some ds) (hc:A.cs.lookup c=some C) (hn:(FLD.contains x)=false) (hs:yn (cn cls fld gs N G cel own none) ps (zj st)=true) (hm:N.length=ps.length+m) (hb:BdP x qu st ps) (hx:(dot x == ("__debug__":Str))=false) :
  GsOk P w K mg base A clo (k+1) ((dot x,GM.met c x (fnW ps.length m ds))::gs) tabs:=by
 obtain⟨f,fd,i,j,F⟩:=p
 refine GsOk.add (q.mono (zb6 k)) ⟨C,f,fd,ps,k+1,hc,uY Z.c hc,⟨i,j,F.kp⟩,λi h=>?_,F.binds λkV dc pm an cd ct=>(hb kV dc pm an cd ct).all,z7D _,Z.ok F q hds hs hm,qB⟩ hx
 have:=z9E.mpr (z7P (show FLD[i]?=some x from h))
 rw[hn] at this;cases this
theorem Pk.cl {c:Nat} {b:Bool} (Z:Pk R K mg base A cls fld) (p:Xs K C x qu st) (q:GsOk P w K mg base A clo k gs tabs) (hds:zf ((comp R n).s (cn cls fld gs N G cel own none)) (z3 st)=some ds) (hc:A.cs.lookup c=some C) (hs:yn (cn cls fld gs N G cel own none) ps (zj st)=true) (hm:N.length=ps.length+m) (hb:BdP "__init__" qu st ps) (hx:(x == ("__debug__":Str))=false) :
  GsOk P w K mg base A clo (k+2) ((x,GM.mk c b (fnW ps.length m ds))::gs) tabs:=by
 obtain⟨f,fd,a,i,j,F,mk,kk⟩:=p
 exact GsOk.add (q.mono (Nat.le_add_right k 2)) ⟨C,f,fd,ps,k+1,hc,zbz Z.i Z.n a,⟨mk,i,j,kk⟩,F.binds λkV dc pm an cd ct=>(hb kV dc pm an cd ct).all,z7D _,Z.ok F q hds hs hm,qB⟩ hx
end
end NH
end
section
namespace NH
open PySem PySem.Spec PyProof.Rows L2
theorem zx{p:Prop}{i:Decidable p}{A B:Prop}(h1:p->A)(h2:¬p->B):brW (decide p) A B:=by
 cases i with
 |isTrue h=>exact h1 h
 |isFalse h=>exact h2 h
theorem QZ{p:Prop}{i:Decidable p}{A B:Prop}(h:p)(a:A):brW (decide p) A B:=zx (λ_=>a) λn=>absurd h n
theorem J8{p:Prop}{i:Decidable p}{A B:Prop}(h:¬p)(b:B):brW (decide p) A B:=zx (λy=>absurd y h) λ_=>b
theorem JO{p:Prop}{i:Decidable p}{A B:Prop}(h1:p->B)(h2:¬p->A):brW (!decide p) A B:=by
 cases i with
 |isTrue h=>exact h1 h
 |isFalse h=>exact h2 h
theorem JJ{p:Prop}{i:Decidable p}{A B:Prop}(h:p)(b:B):brW (!decide p) A B:=JO (λ_=>b) λn=>absurd h n
theorem qa{b:Bool}{A B:Prop}(h1:b=true->A)(h2:b=false->B):brW b A B:=by
 cases b with
 |true=>exact h1 rfl
 |false=>exact h2 rfl
theorem z5H{b:Bool}{A B:Prop}(h:b=true)(a:A):brW b A B:=by rw[h];exact a
theorem z33{b:Bool}{A B:Prop}(h:b=false)(a:B):brW b A B:=by rw[h];exact a
theorem VL{tg:Tg}{g:Sl->Mem->RE (Option T)}{lv:Mem->Prop}{τ:Sl}{μ:Mem}{Z:Xp}(f:T->Option T){xs:List T}{K:List T->Mem->Prop}
  (h:∀x∈xs,∀k:Option T->Mem->Prop,k (f x) μ->∃τ',asg tg x τ=some τ'/\g τ' μ k Z) (k:K (xs.filterMap f) μ) (hl:lv μ:=by trivial):zO tg g lv τ xs μ K Z:=by
 induction xs generalizing K with
 |nil=>exact k
 |cons x r ih=>
  unfold zO
  obtain⟨τ',e,hg⟩:=h x z7Z (λo μ1=>lv μ1/\(match o with
   |some y=>(zO tg g lv τ r μ1).bind λys μ2=>RE.ok (y::ys) μ2
   |none=>zO tg g lv τ r μ1) K Z) (by
    refine⟨hl,?_⟩
    cases q:f x with
    |none=>
     rw[za5 q] at k
     exact ih (λy hy=>h y (z7O _ hy)) k
    |some y=>
     rw[za6 q] at k
     exact ih (K:=λys μ2=>K (y::ys) μ2) (λy hy=>h y (z7O _ hy)) k)
  exact⟨τ',e,hg⟩
theorem Q4{tg:Tg}{g:Sl->Mem->RE (Option T)}{lv:Mem->Prop}{τ:Sl}{μ:Mem}{Z:Xp}(f:T->T){xs:List T}{K:List T->Mem->Prop}
  (h:∀x∈xs,∀k:Option T->Mem->Prop,k (some (f x)) μ->∃τ',asg tg x τ=some τ'/\g τ' μ k Z) (k:K (xs.map f) μ) (hl:lv μ:=by trivial):zO tg g lv τ xs μ K Z:=
 VL (λx=>some (f x)) h (by rw[z8w];exact k) hl
theorem zU{tg:Tg}{body:Ds}{lv:Mem->Prop}{xs:List T}{τ:Sl}{μ:Mem}{E:En}(I:Nat->Sl->Mem->Prop)(h0:I 0 τ μ)
  (h:∀i x τ μ,xs[i]?=some x->I i τ μ->∀N:Sl->Mem->Prop,(∀τ μ,I (i+1) τ μ->N τ μ)->∃τ',asg tg x τ=some τ'/\body τ' μ (E.turn N))
  (k:∀τ μ,I xs.length τ μ->E.nx τ μ) (hl:∀i τ μ,I i τ μ->lv μ:=by intros;trivial):forM tg body lv xs τ μ E:=by
 have go:∀(rest:List T) (i:Nat) (τ:Sl) (μ:Mem),xs.drop i=rest->i<=xs.length->I i τ μ->forM tg body lv rest τ μ E:=by
  intro rest
  induction rest with
  |nil=>
   intro i τ μ hd hi hI
   have:i=xs.length:=by
    have:=congrArg zeE hd
    simp at this;omega
   subst this
   exact k τ μ hI
  |cons x r ih=>
   intro i τ μ hd hi hI
   have hx:xs[i]?=some x:=by
    have:(xs.drop i)[0]?=some x:=by rw[hd];rfl
    simpa using this
   have hlt:i<xs.length:=(z7v.mp hx).1
   have hd':xs.drop (i+1)=r:=by
    have:(xs.drop i).tail=r:=by rw[hd];rfl
    simpa using this
   exact h i x τ μ hx hI _ λτ2 μ2 z=>⟨hl _ _ _ z,ih (i+1) τ2 μ2 hd' hlt z⟩
 exact go xs 0 τ μ rfl (z98 _) h0
theorem Ky{c:Dt}{body:List Ds}{τ:Sl}{μ:Mem}{E:En}(I:Nat->Sl->Mem->Prop)(n:Nat)(h0:I n τ μ)
  (h:∀n τ μ,I n τ μ->∀N:Sl->Mem->Prop,(∀m τ μ,m<n->I m τ μ->N τ μ)->c τ μ (λb μ1=>brW b (zQ body τ μ1 (E.turn N)) (E.nx τ μ1)) (λk fs μ1=>E.ex k fs τ μ1)):Wg c body τ μ E:=
 ⟨I,⟨n,h0⟩,λn τ μ hI=>h n τ μ hI _ λm τ μ hm hi=>⟨m,hm,hi⟩⟩
end NH
end
section
namespace NH.P
open PySem L2 NH
variable {μ:Mem}{K:T->Mem->Prop}{Z:Xp}
theorem zJ{i:Int}(k:K (.bl true) μ):qq [.int i] μ K Z:=⟨rfl,k⟩
noncomputable def z6z(n:Int):Int:=n * (n / 1009+69621) % 2147483647
noncomputable def z2Q(n:Int):Int:=n * (n / 2003+40692) % 2147483399
noncomputable def vQ(c k:Int):Int:=
 if c % 2=0/\0<c / 2 ^ (1+31 * k).toNat then c / 2 ^ (1+31 * k).toNat % 2147483648
 else z2Q (z6z ((c+7919 * k+1) % 2147483647 * 48271 % 2147483647))
theorem Ug{c k:Int}:0<=vQ c k/\vQ c k<2147483648:=by
 unfold vQ
 split
 ·omega
 ·unfold z2Q;omega
theorem xn{c k:Int}(hk:0<=k)(q:K (.int (vQ c k)) μ):zw [.int c,.int k] μ K Z:=by
 unfold zw
 refine⟨rfl,?_⟩
 unfold vQ at q
 refine⟨by decide,?_⟩
 have last:K (.int (z2Q (z6z ((c+7919 * k+1) % 2147483647 * 48271 % 2147483647)))) μ->zQ (yR.drop 1) [some (.int c),some (.int k),none] μ (En.fn K Z):=λq=>by
  refine⟨.inl (by decide),by decide,.inr (by decide),by decide,by decide,.inl (by simp only[big];omega),by decide,?_⟩
  exact⟨by decide,.inl (by simp only[big];omega),by decide,q⟩
 refine zx (λh=>?_) (λh=>?_)
 ·refine⟨.inl (by decide),by omega,?_⟩
  refine zx (λh2=>?_) (λh2=>?_)
  ·rw[if_pos ⟨h,h2⟩] at q
   exact⟨.inl (by decide),by omega,by decide,q⟩
  ·rw[if_neg λz=>h2 z.2] at q
   exact last q
 ·rw[if_neg λz=>h z.1] at q
  exact last q
noncomputable def Yd (c k:Int)(n:Nat):Int:=(z8y n).foldl (λ(v:Int) (j:Nat)=>v * 2147483648+vQ c (k+j)) 0
theorem KA{c k:Int}{n:Nat}:Yd c k (n+1)=Yd c k n * 2147483648+vQ c (k+n):=by
 unfold Yd
 rw[List.range_succ,List.foldl_append]
 rfl
noncomputable def z3V (c k m:Int):Int:=Yd c k 5 % m
theorem w9{n:Int}{i:Nat}{x:T}(h:(rangeT n)[i]?=some x):x=.int i/\(i:Int)<n:=by
 unfold rangeT at h
 rw[z83] at h
 cases q:(z8y n.toNat)[i]? with
 |none=>rw[q] at h;cases h
 |some j=>
  rw[q] at h
  obtain⟨hl,e⟩:=z7v.mp q
  have e:i=j:=by simpa using e
  subst e
  cases h
  simp at hl
  exact⟨rfl,by omega⟩
theorem wy{n:Int}:(rangeT n).length=n.toNat:=by simp[rangeT]
theorem V8{c k m:Int}(hk:0<=k)(hm:0<m)(q:K (.int (z3V c k m)) μ):WE [.int c,.int k,.int m] μ K Z:=by
 unfold WE
 refine⟨rfl,?_⟩
 refine⟨by decide,?_⟩
 refine zU (λi τ μ'=>μ'=μ/\∃o,τ=[some (.int c),some (.int k),some (.int m),some (.int (Yd c k i)),o]) ⟨rfl,none,rfl⟩ ?_ ?_
 ·rintro i x τ _ hx ⟨rfl,o,rfl⟩ N hN
  obtain⟨rfl,hi⟩:=w9 hx
  refine⟨_,rfl,.inr (by decide),?_⟩
  refine xn (by omega) ?_
  exact hN _ _ ⟨rfl,some (.int i),by rw[KA];rfl⟩
 ·rintro τ _ ⟨rfl,o,rfl⟩
  exact⟨hm,q⟩
noncomputable def isL(z:Str):Bool:=!(z8Q "abcdefghijklmnopqrstuvwxyz" z 0 (zdz "abcdefghijklmnopqrstuvwxyz") 1).isEmpty
noncomputable def sgn(z:Str):List Str:=z.cps.toList.map λc=>⟨#[c]⟩
theorem XC(z:Str):u4 z=(sgn z).map T.str:=by simp[u4,sgn]
theorem z0i(z:Str):(sgn z).length=z.length:=by simp[sgn,zdz]
noncomputable def vE(z:Str):Bool:=decide (1<=(z.length:Int))&&decide ((z.length:Int)<=8)&&(sgn z).all isL
theorem jf{α:Type}(f:α->Bool):∀xs:List α,bools (xs.map λx=>T.bl (f x))=some (xs.map f)
 |[]=>rfl
 |x::r=>by simp[bools,jf f r]
theorem Zm{z:Str}(hz:z.length<=room)(q:K (.bl (vE z)) μ):qL [.str z] μ K Z:=by
 unfold qL
 refine⟨rfl,?_⟩
 unfold vE at q
 refine⟨hz,?_⟩
 refine zx (λh1=>?_) (λh1=>?_)
 ·refine JO (λh2=>?_) (λh2=>?_)
  ·show (u4 z).length<=room/\_
   rw[XC]
   refine⟨by rw[z7B,z0i];exact hz,?_⟩
   refine Q4 (λx=>match x with|.str y=>.bl (isL y)|t=>t) (λx hx k hk=>?_) ?_
   ·obtain⟨y,hy,rfl⟩:=z8n.mp hx
    exact⟨_,rfl,hk⟩
   ·rw[z9g]
    refine⟨_,jf isL (sgn z),?_⟩
    rw[decide_eq_true h1,decide_eq_true h2] at q
    rw[zaJ]
    exact q
  ·have q:K (.bl false) μ:=by simpa[h2] using q
   exact q
 ·have q:K (.bl false) μ:=by simpa[h1] using q
  exact q
theorem vT{z:Str}{b:Bool}(hz:z.length<=room)(h:vE z=b)(q:K (.bl b) μ):qL [.str z] μ K Z:=Zm hz (by rw[h];exact q)
theorem Yo{α:Type}{xs:List α}{k:Int}(h0:0<=k)(h1:k<xs.length):w_ xs k=xs[k.toNat]?:=by
 unfold w_ Xq
 rw[if_pos h0,if_pos h1]
 rfl
theorem Yx{α:Type}{xs:List α}{lo hi:Option Int}{x:α}(h:x∈jj xs lo hi):x∈xs:=zaD (z9d h)
theorem z1P{ns:List Int}{lo hi:Option Int}{i:Nat}{x:T}(h:(jj (ns.map T.int) lo hi)[i]?=some x):∃n,x=.int n:=by
 obtain⟨n,_,e⟩:=z8n.mp (Yx (z7P h))
 exact⟨n,e.symm⟩
end NH.P
end
section
namespace NH.P
open PySem L2 NH
variable {μ μ1 μ2:Mem}{K:T->Mem->Prop}{Z:Xp}
theorem get_set{i:Nat}{x y:MO}(h:μ[i]?=some x):(μ.set i y)[i]?=some y:=by
 have:=(z7v.mp h).1
 simp[this]
theorem zu{x:MO}:(μ++[x])[μ.length]?=some x:=by rw[z7L (z7D _)];simp
theorem zd{i:Nat}{x o:MO}(h:μ[i]?=some o):(μ++[x])[i]?=some o:=by
 rw[z7F (z7v.mp h).1];exact h
noncomputable abbrev shp(x y z:Int):T:=.obj 40 [(0,.int x),(1,.int y),(2,.int z)]
theorem qV{n:Int}(k:K (.bl (decide (1<=n))) μ):wD [.int n] μ K Z:=by
 unfold wD
 refine⟨rfl,?_⟩
 refine zJ ?_
 exact k
theorem Zf{x y z:Int}(hx:1<=x)(hy:1<=y)(hz:1<=z)(q:K .non [.obj 40 [(0,.int x),(1,.int y),(2,.int z)]]):vJ [.mut 0,.int x,.int y,.int z] [.obj 40 []] K Z:=by
 unfold vJ
 refine⟨rfl,?_⟩
 refine qV ?_
 refine QZ hx ?_
 refine qV ?_
 refine QZ hy ?_
 refine qV ?_
 refine JJ hz ?_
 refine⟨_,_,rfl,by decide,?_⟩
 refine⟨_,_,rfl,(by (show (1:Nat)<900);decide),?_⟩
 refine⟨_,_,rfl,(by (show (2:Nat)<900);decide),?_⟩
 exact q
end NH.P
end
section
namespace NH.P
open PySem L2 NH
variable {μ μ1 μ2:Mem}{K:T->Mem->Prop}{Z:Xp}
theorem kG{ns:List Int}{k:Int}(hk:0<=k)(q:∀c,K (.int c) μ):vc [.lst (ns.map T.int),.int k] μ K Z:=by
 unfold vc
 refine⟨rfl,?_⟩
 refine zx (λh=>?_) (λh=>?_)
 ·have hl:k.toNat<ns.length:=by
   rw[z7B] at h;omega
  refine⟨.int ns[k.toNat],?_,q _⟩
  rw[Yo hk h,z83,z87 hl]
  rfl
 ·exact q _
end NH.P
end
section
namespace NH.P
open PySem L2 NH
variable {μ μ1 μ2:Mem}{K:T->Mem->Prop}{Z:Xp}
theorem JA{tg:Tg}{g:Sl->Mem->RE (Option T)}{lv:Mem->Prop}{τ:Sl}{x:T}{r:List T}{K:List T->Mem->Prop}(h:∃τ',asg tg x τ=some τ'/\g τ' μ (λo μ1=>lv μ1/\(match o with
  |some y=>zO tg g lv τ r μ1 (λys μ2=>K (y::ys) μ2) Z
  |none=>zO tg g lv τ r μ1 K Z)) Z):zO tg g lv τ (x::r) μ K Z:=by
 obtain⟨τ',e,h⟩:=h
 unfold zO
 refine⟨τ',e,?_⟩
 have:(λ(o:Option T) μ1=>lv μ1/\(match o with
  |some y=>zO tg g lv τ r μ1 (λys μ2=>K (y::ys) μ2) Z
  |none=>zO tg g lv τ r μ1 K Z))=λo μ1=>lv μ1/\(match o with
   |some y=>(zO tg g lv τ r μ1).bind λys μ2=>RE.ok (y::ys) μ2
   |none=>zO tg g lv τ r μ1) K Z:=by
  funext o μ1
  cases o<;>rfl
 rw[this] at h
 exact h
theorem X4{tg:Tg}{g:Sl->Mem->RE (Option T)}{lv:Mem->Prop}{τ:Sl}{K:List T->Mem->Prop}(h:K [] μ):zO tg g lv τ [] μ K Z:=by
 unfold zO
 exact h
structure Sy(y z:Int):Prop where
 y1:1<=y
 y2:y<=10000000000
 z1:1<=z
 z2:z<=10000000000
theorem Vp{x y z:Int}(s:Sy y z)(q:K (.int (x * y * z)) μ):kQ [shp x y z] μ K Z:=by
 obtain⟨y1,y2,z1,z2⟩:=s
 unfold kQ
 refine⟨rfl,?_⟩
 exact⟨.inr ⟨by unfold big;omega,by unfold big;omega⟩,.inr ⟨by unfold big;omega,by unfold big;omega⟩,q⟩
theorem yb{x y z n:Int}{b:Bool}(s:Sy y z)(hb:(decide (0<=n)&&decide (n<x * y * z))=b)(q:K (.bl b) μ):jh [shp x y z,.int n] μ K Z:=by
 subst hb
 unfold jh
 refine⟨rfl,?_⟩
 refine Vp s ?_
 unfold qm
 refine⟨rfl,?_⟩
 refine zJ ?_
 refine zx (λh=>?_) (λh=>?_)
 ·have q:K (.bl (decide (n<x * y * z))) μ:=by simpa[h] using q
  exact q
 ·have q:K (.bl false) μ:=by simpa[h] using q
  exact q
noncomputable def Ent (sh t:T)(b:Bool):Prop:=∀(μ:Mem) (K:T->Mem->Prop) (Z:Xp),K (.bl b) μ->xl [sh,t] μ K Z
theorem YT{x y z:Int}{a:Str}{t:T}{ha b:Bool}(hl:a.length<=room)(h1:vE a=ha)(hn:∀(μ:Mem) (K:T->Mem->Prop) (Z:Xp),K (.bl b) μ->jh [shp x y z,t] μ K Z):Ent (shp x y z) (.tup [.str a,t]) (ha&&b):=by
 intro μ K Z q
 unfold xl
 refine⟨rfl,?_⟩
 refine⟨_,rfl,?_⟩
 refine vT hl h1 ?_
 cases ha with
 |false=>exact q
 |true=>exact⟨_,rfl,hn _ _ _ q⟩
theorem all_map{α:Type}(g:α->Bool)(xs:List α):bools (xs.map λx=>T.bl (g x))=some (xs.map g):=jf g xs
theorem ur{sh:T}{ts:List T}(g:T->Bool)(hg:∀t∈ts,Ent sh t (g t))(hl:ts.length<=100)(h0:ts.all g=true)(q:K .non μ):vx [sh,.lst ts] μ K Z:=by
 unfold vx
 refine⟨rfl,?_⟩
 refine⟨z7V hl (by decide),?_⟩
 refine Q4 (λt=>.bl (g t)) (λt ht k hk=>⟨_,rfl,hg t ht _ _ _ hk⟩) ?_
 refine⟨_,all_map g ts,?_⟩
 refine z33 (by rw[zaJ,Function.id_comp,h0];rfl) ?_
 exact q
theorem Zb{x y z n:Int}(s:Sy y z)(h:(decide (0<=n)&&decide (n<x * y * z))=true)(q:K .non μ):vo [shp x y z,.int n] μ K Z:=by
 unfold vo
 refine⟨rfl,?_⟩
 refine yb s h ?_
 exact q
end NH.P
end
section
namespace NH.P
open PySem L2 NH
variable {μ μ1 μ2:Mem}{K:T->Mem->Prop}{Z:Xp}
structure Gr where
 ho:Str
 h:Int
 f:Int
 u0:Int
 u:Int
 ct:Bool
noncomputable def Gr.L(G:Gr):T:=.tup [.int G.h,.int G.f,.int G.u0]
noncomputable def Gr.O (G:Gr):MO:=.obj 42 [(5,.str G.ho),(6,G.L),(7,.int G.u),(8,.bl G.ct)]
noncomputable abbrev Gp:=Nat×Gr
noncomputable abbrev Gp.t(p:Gp):T:=.mut p.1
structure Bk(μ:Mem)(c g:Nat)(sh:T)(ps:List Gp):Prop where
 com:μ[c]?=some (.obj 43 [(9,sh),(10,.mut g)])
 lst:μ[g]?=some (.lst (ps.map Gp.t))
 at_:∀p∈ps,μ[p.1]?=some p.2.O
 nd:(ps.map (·.1)).Nodup
structure Ch(S:List Nat)(μ μ':Mem):Prop where
 len:μ.length<=μ'.length
 ot:∀i,i<μ.length->i∉S->μ'[i]?=μ[i]?
theorem Ch.refl{S:List Nat}:Ch S μ μ:=⟨z7D _,λ_ _ _=>rfl⟩
theorem Ch.trans{S:List Nat}(a:Ch S μ μ1)(b:Ch S μ1 μ2):Ch S μ μ2:=⟨z7V a.len b.len,λi h n=>(b.ot i (z7I h a.len) n).trans (a.ot i h n)⟩
theorem Ch.mono{S S':List Nat}(a:Ch S μ μ1)(h:∀x∈S,x∈S'):Ch S' μ μ1:=⟨a.len,λi hi n=>a.ot i hi λz=>n (h i z)⟩
theorem Ch.app{x:MO}:Ch [] μ (μ++[x]):=⟨by simp,λi h _=>z7F h⟩
theorem Ch.set{i:Nat}{x:MO}:Ch [i] μ (μ.set i x):=⟨by simp,λj h n=>by rw[z81];rintro rfl;exact n (by simp)⟩
theorem Ch.get{S:List Nat}{i:Nat}{x:MO}(a:Ch S μ μ1)(h:μ[i]?=some x)(n:i∉S):μ1[i]?=some x:=(a.ot i (z7v.mp h).1 n).trans h
theorem Bk.ch{S:List Nat}{c g:Nat}{sh:T}{ps:List Gp}(B:Bk μ c g sh ps)(a:Ch S μ μ1)(h1:c∉S)(h2:g∉S)(h3:∀p∈ps,p.1∉S):Bk μ1 c g sh ps:=
 ⟨a.get B.com h1,a.get B.lst h2,λp hp=>a.get (B.at_ p hp) (h3 p hp),B.nd⟩
noncomputable def mt(G:Gr)(b e:Int):Bool:=decide ((if G.f<b then b else G.f)<(if e<G.u then e else G.u))
theorem Wh{G:Gr}{b e:Int}:mt G b e=true↔G.f<G.u/\G.f<e/\b<G.u/\b<e:=by
 unfold mt
 rw[decide_eq_true_eq]
 split<;>split<;>omega
theorem z2u{G:Gr}{b e:Int}(h:¬(G.f<G.u/\G.f<e/\b<G.u/\b<e)):mt G b e=false:=by
 cases q:mt G b e with
 |false=>rfl
 |true=>exact absurd (Wh.mp q) h
theorem Wz{a:Nat}{G:Gr}{b e:Int}(h:μ[a]?=some G.O)(q:K (.bl (mt G b e)) μ):meets [.mut a,.int b,.int e] μ K Z:=by
 unfold meets
 refine⟨rfl,?_⟩
 refine⟨_,_,_,h,rfl,?_⟩
 refine⟨_,rfl,?_⟩
 refine⟨_,_,_,h,rfl,?_⟩
 exact q
theorem qM{β:Type}{tg:Tg}{g:Sl->Mem->RE (Option T)}{lv:Mem->Prop}{τ:Sl}(t:β->T)(f:β->Option T){ps:List β}{K:List T->Mem->Prop}
  (h:∀p∈ps,∀k:Option T->Mem->Prop,k (f p) μ->∃τ',asg tg (t p) τ=some τ'/\g τ' μ k Z) (k:K (ps.filterMap f) μ) (hl:lv μ:=by trivial):zO tg g lv τ (ps.map t) μ K Z:=by
 induction ps generalizing K with
 |nil=>exact X4 k
 |cons x r ih=>
  refine JA ?_
  refine h x z7Z _ ⟨hl,?_⟩
  cases q:f x with
  |none=>
   rw[za5 q] at k
   exact ih (λy hy=>h y (z7O _ hy)) k
  |some y=>
   rw[za6 q] at k
   exact ih (K:=λys μ2=>K (y::ys) μ2) (λy hy=>h y (z7O _ hy)) k
theorem Kp:∀{bs:List Gp},(∀p∈bs,μ[p.1]?=some p.2.O)->KeyR (eIx (ze (eV 0) 6) (eC (.int 1))) μ (bs.map Gp.t) (bs.map (·.2.f))
 |[],_=>trivial
 |p::r,h=>⟨⟨_,_,_,h p z7Z,rfl,_,rfl,rfl,rfl⟩,Kp λq hq=>h q (z7O _ hq)⟩
end NH.P
end
section
namespace NH.P
open PySem L2 NH
variable {μ μ1 μ2:Mem}{K:T->Mem->Prop}{Z:Xp}
theorem uC{z:Key}{t:T}:∀(kvs:List (Key×T)),(zb z (vt z t kvs)).isSome=true:=by
 intro kvs
 unfold vt
 split
 ·rename_i h
  induction kvs with
  |nil=>simp at h
  |cons p r ih=>
   rw[z82]
   unfold zb
   by_cases e:p.1=z
   ·rw[if_pos e,if_pos e];rfl
   ·rw[if_neg e,if_neg e]
    exact ih (by simpa[e] using h)
 ·rename_i h
  induction kvs with
  |nil=>simp[zb]
  |cons p r ih=>
   have e:p.1≠z:=λe=>h (by simp[e])
   rw[zaz]
   unfold zb
   rw[if_neg e]
   exact ih λz=>h (by simp only[z91,zaH];exact .inr z)
theorem kU{z y:Key}{t:T}(ne:y≠z):∀(kvs:List (Key×T)),(zb y (vt z t kvs)).isSome=(zb y kvs).isSome:=by
 intro kvs
 unfold vt
 split
 ·rename_i h
  clear h
  induction kvs with
  |nil=>rfl
  |cons p r ih=>
   rw[z82]
   unfold zb
   by_cases e:p.1=z
   ·rw[if_pos e]
    have e2:p.1≠y:=λz'=>ne (z'.symm.trans e)
    rw[if_neg (show ¬(p.1,t).1=y from e2),if_neg e2]
    exact ih
   ·rw[if_neg e]
    by_cases e2:p.1=y
    ·rw[if_pos e2,if_pos e2]
    ·rw[if_neg e2,if_neg e2];exact ih
 ·rename_i h
  clear h
  induction kvs with
  |nil=>
   show (zb y [(z,t)]).isSome=_
   unfold zb
   rw[if_neg (λw=>ne w.symm)]
   rfl
  |cons p r ih=>
   rw[zaz]
   unfold zb
   by_cases e2:p.1=y
   ·rw[if_pos e2,if_pos e2]
   ·rw[if_neg e2,if_neg e2];exact ih
theorem vO{z:Key}{t:T}{kvs:List (Key×T)}:(vt z t kvs).length<=kvs.length+1:=by
 unfold vt
 split<;>simp
noncomputable def inD (kvs:List (Key×T))(h:Int):Bool:=(zb (.inl h) kvs).isSome
theorem xQ:∀(kvs:List (Key×T)),∃B:Int,∀h,inD kvs h=true->h<B
 |[]=>⟨0,λh e=>by cases e⟩
 |(.inl a,t)::r=>by
  obtain⟨B,hB⟩:=xQ r
  refine⟨if a<B then B else a+1,λh e=>?_⟩
  unfold inD zb at e
  by_cases z:(zbA a:Key)=.inl h
  ·have:a=h:=by injection z
   split<;>omega
  ·rw[if_neg z] at e
   have:=hB h e
   split<;>omega
 |(.inr a,t)::r=>by
  obtain⟨B,hB⟩:=xQ r
  refine⟨B,λh e=>?_⟩
  unfold inD zb at e
  rw[if_neg (by intro z;cases z)] at e
  exact hB h e
end NH.P
end
section
namespace NH.P
open PySem L2 NH
variable {μ μ1 μ2:Mem}{K:T->Mem->Prop}{Z:Xp}{c g i0:Nat}{x y z:Int}{ps:List Gp}
theorem QG{n b:Int}(q:K (.bl (decide (0<=n)&&decide (n<b))) μ):qm [.int n,.int b] μ K Z:=by
 unfold qm
 refine⟨rfl,?_⟩
 refine zJ ?_
 refine zx (λh=>?_) (λh=>?_)
 ·have q:K (.bl (decide (n<b))) μ:=by simpa[h] using q
  exact q
 ·have q:K (.bl false) μ:=by simpa[h] using q
  exact q
theorem j5{n b:Int}(h0:0<=n)(h1:n<b)(q:K (.bl true) μ):qm [.int n,.int b] μ K Z:=QG (by simpa[h0,h1] using q)
noncomputable def Z7 (y:Int)(t:T):Prop:=t=.non\/∃h:Int,t=.int h/\0<=h/\h<y
theorem Qz{ho:Str}{hs:T}{m n:Int}(B:Bk μ c g (shp x y z) ps)(hl:ho.length<=room)(h1:vE ho=true)(h2:Z7 y hs)(h3:1<=n)(q:K .non μ):qf [.mut c,.str ho,hs,.int m,.int n] μ K Z:=by
 unfold qf
 refine⟨rfl,?_⟩
 refine vT hl h1 ?_
 have rest:zQ (qr.drop 2) [some (.mut c),some (.str ho),some hs,some (.int m),some (.int n)] μ (En.fn K Z):=by
  refine qV ?_
  refine JJ h3 ?_
  refine zJ ?_
  exact q
 rcases h2 with rfl|⟨h,rfl,a,b⟩
 ·exact rest
 ·refine⟨_,_,_,B.com,rfl,?_⟩
  refine j5 a b ?_
  exact rest
theorem Qp{h:Int}(B:Bk μ c g (shp x y z) ps)(hl:ps.length<=1000)(q:K (.lst ((ps.filter λp=>decide (p.2.h=h)).map Gp.t)) μ):qg [.mut c,.int h] μ K Z:=by
 unfold qg
 refine⟨rfl,?_⟩
 refine⟨_,_,_,B.com,rfl,?_⟩
 refine⟨_,B.lst,?_⟩
 refine⟨by rw[z7B];unfold room;omega,?_⟩
 refine qM Gp.t (λp=>if p.2.h=h then some (Gp.t p) else none) (λp hp k hk=>?_) ?_ B.lst
 ·refine⟨_,rfl,?_⟩
  refine⟨_,_,_,B.at_ p hp,rfl,?_⟩
  refine⟨_,rfl,?_⟩
  refine qa (λe=>?_) (λe=>?_)
  ·have e:p.2.h=h:=by simpa using e
   rw[if_pos e] at hk
   exact hk
  ·have e:¬p.2.h=h:=by simpa using e
   rw[if_neg e] at hk
   exact hk
 ·have e:ps.filterMap (λp=>if p.2.h=h then some (Gp.t p) else none)=(ps.filter λp=>decide (p.2.h=h)).map Gp.t:=by
   clear q B hl
   induction ps with
   |nil=>rfl
   |cons p r ih=>
    by_cases z:p.2.h=h
    ·rw[za6 (b:=Gp.t p) (by rw[if_pos z]),List.filter_cons_of_pos (by simpa using z),z82,ih]
    ·rw[za5 (by rw[if_neg z]),List.filter_cons_of_neg (by simpa using z),ih]
  rw[e]
  exact q
end NH.P
end
section
namespace NH.P
open PySem L2 NH
variable {μ μ1 μ2:Mem}{K:T->Mem->Prop}{Z:Xp}{c g i0:Nat}{x y z:Int}{ps:List Gp}
theorem z7k{a b c d e f:Int}:eqL [.int a,.int b,.int c] [.int d,.int e,.int f]=some (decide (a=d)&&(decide (b=e)&&decide (c=f))):=by
 have h:∀i j:Int,(i == j)=decide (i=j):=λi j=>by
  by_cases z:i=j<;>simp[z]
 simp[eqL,eqT,h]
theorem Vn{h f u:Int}(h0:0<=h)(h1:h<y)(f0:0<=f)(fu:f<u)(ux:u<=x)(q:K (.bl true) μ):vP [shp x y z,.tup [.int h,.int f,.int u]] μ K Z:=by
 unfold vP
 refine⟨rfl,?_⟩
 refine⟨_,rfl,?_⟩
 refine j5 h0 h1 ?_
 refine⟨_,rfl,?_⟩
 refine zJ ?_
 refine⟨_,rfl,?_⟩
 refine zJ ?_
 refine⟨_,rfl,?_⟩
 refine QZ f0 ?_
 refine⟨_,rfl,?_⟩
 refine QZ fu ?_
 have q:K (.bl (decide (u<=x))) μ:=by rw[decide_eq_true ux];exact q
 exact q
end NH.P
end
section
namespace NH.P
open PySem L2 NH
variable {μ μ1 μ2:Mem}{K:T->Mem->Prop}{Z:Xp}{c g r i0:Nat}{x y z:Int}{ps:List Gp}
theorem K6{l:List T}:eqL l []=some l.isEmpty:=by
 cases l<;>rfl
end NH.P
end
section
namespace NH.P
open PySem L2 NH
variable {μ μ1 μ2:Mem}{K:T->Mem->Prop}{Z:Xp}{c g r i0:Nat}{x y z:Int}{ps:List Gp}
noncomputable def z68(gs:List Gp)(h m n b:Int):Prop:=m<=b/\(∀p∈gs,p.2.h=h->mt p.2 b (b+n)=false)/\∀b',m<=b'->b'<b->∃p∈gs,p.2.h=h/\mt p.2 b' (b'+n)=true
noncomputable def z2q(gs:List Gp)(m n h:Int):Prop:=0<=h/\(∀p∈gs,p.2.h=h->mt p.2 m (m+n)=false)/\∀h',0<=h'->h'<h->∃p∈gs,p.2.h=h'/\mt p.2 m (m+n)=true
theorem yE{bs:List Gp}{m n:Int}{i0:Nat}(h:∀p∈bs,μ[p.1]?=some p.2.O)(hl:bs.length<64)(hn1:1<=n)(ht:μ[i0]?=some (.tab 0))(q:∀b,m<=b->(∀p∈bs,mt p.2 b (b+n)=false)->(∀b',m<=b'->b'<b->∃p∈bs,mt p.2 b' (b'+n)=true)->K (.int b) μ):qX [.lst (bs.map Gp.t),.int m,.int n] μ K Z:=by
 unfold qX
 refine⟨rfl,?_⟩
 refine⟨⟨i0,ht⟩,by rw[z7B];exact hl,bs.map (·.2.f),Kp h,λps hp hs=>?_⟩
 have ez:(bs.map (·.2.f)).zip (bs.map Gp.t)=bs.map λp=>(p.2.f,Gp.t p):=by rw[List.zip_map',]
 rw[ez] at hp
 obtain⟨qs,hq,rfl⟩:=Va hp rfl
 rw[z9g,z9h] at *
 have hq':∀p∈qs,μ[p.1]?=some p.2.O:=λp hp=>h p (hq.mem_iff.mp hp)
 refine zU (λi τ μ'=>∃b o,τ=[some (.lst (bs.map Gp.t)),some (.int m),some (.int n),some (.int b),o]/\μ'=μ/\m<=b/\(∀p∈qs.take i,mt p.2 b (b+n)=false)/\∀b',m<=b'->b'<b->∃p∈bs,mt p.2 b' (b'+n)=true) ⟨m,none,rfl,rfl,z8u _,by simp,λb' h1 h2=>by omega⟩ ?_ ?_
 ·rintro i x τ μ' hx ⟨b,o,rfl,rfl,hb,hn,hmin⟩ N hN
  rw[z83] at hx
  cases hqi:qs[i]? with
  |none=>rw[hqi] at hx;cases hx
  |some p=>
   rw[hqi] at hx
   cases hx
   have hm:p∈qs:=z7P hqi
   have et:qs.take (i+1)=qs.take i++[p]:=by rw[z9f,hqi];rfl
   have le:∀p'∈qs.take i,p'.2.f<=p.2.f:=λp' hp'=>by
    obtain⟨j,hj⟩:=z9D.mp hp'
    rw[z8L] at hj
    split at hj
    ·rename_i hji
     obtain⟨h1,e1⟩:=z7v.mp hj
     obtain⟨h2,e2⟩:=z7v.mp hqi
     have:=(za_.mp hs) j i h1 h2 hji
     rw[e1,e2] at this
     exact this
    ·cases hj
   refine⟨_,rfl,?_⟩
   refine Wz (hq' p hm) ?_
   refine qa (λe=>?_) (λe=>?_)
   ·refine⟨_,_,_,hq' p hm,rfl,?_⟩
    have e:=Wh.mp e
    refine hN _ _ ⟨p.2.u,_,rfl,rfl,by omega,λp' hp'=>?_,λb' h1 h2=>?_⟩
    ·rw[et] at hp'
     rcases z7H.mp hp' with hp'|hp'
     ·have h1:=hn p' hp'
      have h2:=le p' hp'
      refine z2u λz=>?_
      have:mt p'.2 b (b+n)=true:=Wh.mpr (by omega)
      rw[h1] at this;cases this
     ·rw[z7C.mp hp']
      exact z2u (by omega)
    ·by_cases w:b'<b
     ·exact hmin b' h1 w
     ·exact⟨p,hq.mem_iff.mp hm,Wh.mpr (by omega)⟩
   ·refine hN _ _ ⟨b,_,rfl,rfl,hb,λp' hp'=>?_,hmin⟩
    rw[et] at hp'
    rcases z7H.mp hp' with hp'|hp'
    ·exact hn p' hp'
    ·rw[z7C.mp hp'];exact e
 ·rintro τ μ' ⟨b,o,rfl,rfl,hb,hn,hmin⟩
  refine q b hb (λp hp=>hn p ?_) hmin
  rw[z7B,z8q (z7D _)]
  exact hq.mem_iff.mpr hp
theorem ud{g:Nat}{m n:Int}(hg:μ[g]?=some (.lst (ps.map Gp.t)))(h:∀p∈ps,μ[p.1]?=some p.2.O)(hl:ps.length<1000)
    (q:∀b μ',z2q ps m n b->Ch [] μ μ'->K (.int b) μ'):wA [.mut g,.int m,.int n] μ K Z:=by
  unfold wA
  refine⟨rfl,?_⟩
  refine⟨_,zd hg,?_⟩
  refine zU (λi τ μ'=>∃kvs o,τ=[some (.mut g),some (.int m),some (.int n),some (.mut μ.length),o,none]/\μ'=μ++[.dic kvs]/\kvs.length<=i/\(∀p∈ps.take i,mt p.2 m (m+n)=true->inD kvs p.2.h=true)/\∀b,inD kvs b=true->∃p∈ps,p.2.h=b/\mt p.2 m (m+n)=true) ⟨[],none,rfl,rfl,z7D _,by simp,λb e=>by cases e⟩ ?_ ?_ ?_
  · rintro i x τ μ' hx ⟨kvs,o,rfl,rfl,hk,hn,hr⟩ N hN
    rw[z83] at hx
    cases hqi:ps[i]? with
    |none=>rw[hqi] at hx;cases hx
    |some p=>
      rw[hqi] at hx
      cases hx
      have hm:p∈ps:=z7P hqi
      have hlt:i<ps.length:=(z7v.mp hqi).1
      have et:ps.take (i+1)=ps.take i++[p]:=by rw[z9f,hqi];rfl
      refine⟨_,rfl,?_⟩
      refine Wz (zd (h p hm)) ?_
      refine qa (λe=>?_) (λe=>?_)
      · refine ⟨_,_,_,zd (h p hm),rfl,?_⟩
        refine⟨_,rfl,?_⟩
        refine .inr ⟨_,zu,by unfold room;omega,?_⟩
        have es:(μ++[MO.dic kvs]).set μ.length (MO.dic (vt (.inl p.2.h) (.bl true) kvs))=μ++[MO.dic (vt (.inl p.2.h) (.bl true) kvs)]:=by
          rw[z9F _ _ (z7D _)];simp
        rw[es]
        refine hN _ _ ⟨_,_,rfl,rfl,z7V vO (by omega),λp' hp' e'=>?_,λb hb=>?_⟩
        · by_cases z : p'.2.h = p.2.h
          · rw[z];exact uC _
          · unfold inD
            rw[kU (λw=>z (by injection w))]
            rw[et] at hp'
            rcases z7H.mp hp' with hp'|hp'
            · exact hn p' hp' e'
            · rw[z7C.mp hp'] at z;exact absurd rfl z
        · by_cases z : b = p.2.h
          · exact⟨p,hm,z.symm,e⟩
          · unfold inD at hb
            rw[kU (λw=>z (by injection w))] at hb
            exact hr b hb
      · refine hN _ _ ⟨kvs,_,rfl,rfl,by omega,fun p' hp' e' => ?_,hr⟩
        rw[et] at hp'
        rcases z7H.mp hp' with hp'|hp'
        · exact hn p' hp' e'
        · rw[z7C.mp hp',e] at e';cases e'
  · rintro τ μ' ⟨kvs,o,rfl,rfl,hk,hn,hr⟩
    rw[z7B,z8q (z7D _)] at hn
    obtain⟨B,hB⟩:=xQ kvs
    refine Ky (λk τ μ'=>∃b:Int,0<=b/\k=(B-b).toNat/\τ=[some (.mut g),some (.int m),some (.int n),some (.mut μ.length),o,some (.int b)]/\μ'=μ++[.dic kvs]/\∀b',0<=b'->b'<b->inD kvs b'=true) (B-0).toNat ⟨0,z8u _,rfl,rfl,rfl,λb' h1 h2=>by omega⟩ ?_
    rintro k τ μ' ⟨b,hb,rfl,rfl,rfl,hd⟩ N hN
    refine⟨_,zu,?_⟩
    refine qa (λe=>?_) (λe=>?_)
    · have := hB b e
      exact hN _ _ _ (show (B-(b+1)).toNat<(B-b).toNat by omega) ⟨b+1,by omega,rfl,rfl,rfl,λb' h1 h2=>by
        by_cases w:b'=b
        · rw[w];exact e
        · exact hd b' h1 (by omega)⟩
    · refine q b _ ⟨hb,fun p hp ph => ?_,fun b' h1 h2 => hr b' (hd b' h1 h2)⟩ Ch.app
      cases z:mt p.2 m (m+n) with
      |false=>rfl
      | true => have := hn p hp z
                rw[ph] at this
                unfold inD at this
                rw[e] at this;cases this
  · rintro i τ μ' ⟨kvs,o,rfl,rfl,_⟩
    exact zd hg
noncomputable def Lease(ps:List Gp)(hs:T)(m n h b:Int):Prop:=(hs=.non/\b=m/\z2q ps m n h)\/(hs=.int h/\z68 ps h m n b)
theorem Lease.one{hs:T}{m n h b h' b':Int}(a:Lease ps hs m n h b)(a':Lease ps hs m n h' b'):h=h'/\b=b':=by
 rcases a with⟨rfl,rfl,e0,e1,e2⟩|⟨rfl,e0,e1,e2⟩
 ·rcases a' with⟨_,rfl,f0,f1,f2⟩|⟨z,_⟩
  ·refine⟨?_,rfl⟩
   rcases zd1 h h' with w|w|w
   ·obtain⟨p,hp,p1,p2⟩:=f2 h e0 w
    rw[e1 p hp p1] at p2;cases p2
   ·exact w
   ·obtain⟨p,hp,p1,p2⟩:=e2 h' f0 w
    rw[f1 p hp p1] at p2;cases p2
  ·cases z
 ·rcases a' with⟨z,_⟩|⟨z,f0,f1,f2⟩
  ·cases z
  ·cases z
   refine⟨rfl,?_⟩
   rcases zd1 b b' with w|w|w
   ·obtain⟨p,hp,p1,p2⟩:=f2 b e0 w
    rw[e1 p hp p1] at p2;cases p2
   ·exact w
   ·obtain⟨p,hp,p1,p2⟩:=e2 b' f0 w
    rw[f1 p hp p1] at p2;cases p2
theorem Zd{hs:T}{m n:Int}(B:Bk μ c g (shp x y z) ps)(ht:μ[i0]?=some (.tab 0))(hl:ps.length<64)(hn1:1<=n)(h2:Z7 y hs)
  (q:∀h b μ',0<=h->Lease ps hs m n h b->Ch [] μ μ'->K (.tup [.int h,.int b,.int (b+n)]) μ'):zY [.mut c,hs,.int m,.int n] μ K Z:=by
 unfold zY
 refine⟨rfl,?_⟩
 rcases h2 with rfl|⟨h,rfl,a,b⟩
 ·refine⟨_,_,_,B.com,rfl,?_⟩
  refine ud B.lst B.at_ (by omega) λh μ' hf ch=>?_
  exact q h m μ' hf.1 (.inl ⟨rfl,rfl,hf⟩) ch
 ·refine⟨_,B.com,?_⟩
  refine Qp B (by omega) ?_
  refine yE (i0:=i0) (λp hp=>B.at_ p (z8C.mp hp).1) (zaW (List.length_filter_le ..) hl) hn1 ht λb hb hm hmin=>?_
  refine q h b μ a (.inr ⟨rfl,hb,λp hp ph=>hm p (z8C.mpr ⟨hp,by simpa using ph⟩),λb' h1 h2=>?_⟩) Ch.refl
  obtain⟨p,hp,e⟩:=hmin b' h1 h2
  obtain⟨h3,h4⟩:=z8C.mp hp
  exact⟨p,h3,by simpa using h4,e⟩
theorem Yp{ho:Str}{hs:T}{m n:Int}(B:Bk μ c g (shp x y z) ps)(ht:μ[i0]?=some (.tab 0))(hl:ps.length<64)(h0:ho.length<=room)(h1:vE ho=true)(h2:Z7 y hs)(h3:1<=n)
  (q1:∀h b μ',Lease ps hs (if m<0 then 0 else m) n h b->(y<=h\/x<b+n)->Ch [] μ μ'->Z 19 [] μ')
  (q2:∀h b μ' a,0<=h->h<y->0<=b->b+n<=x->Lease ps hs (if m<0 then 0 else m) n h b->μ.length<=a->Ch [g] μ μ'->Bk μ' c g (shp x y z) (ps++[(a,⟨ho,h,b,b+n,b+n,false⟩)])->K (.tup [.int h,.int b,.int (b+n)]) μ'):qJ [.mut c,.str ho,hs,.int m,.int n] μ K Z:=by
 unfold qJ
 refine⟨rfl,?_⟩
 refine⟨_,B.com,?_⟩
 refine Qz B h0 h1 h2 h3 ?_
 refine⟨_,B.com,?_⟩
 refine Zd B ht hl h3 h2 λh b μ1 hh hm ch=>?_
 have B1:=B.ch ch (by simp) (by simp) (by simp)
 have hb0:0<=b:=by
  have:(0:Int)<=(if m<0 then 0 else m):=by split<;>omega
  rcases hm with⟨_,e,_⟩|⟨_,e,_⟩<;>omega
 refine⟨_,rfl,?_⟩
 refine⟨_,_,_,B1.com,rfl,?_⟩
 refine zx (λe=>?_) (λe=>?_)
 ·exact⟨by show (1:Nat)<=room;decide,q1 h b _ hm (.inl e) ch⟩
 ·refine⟨_,rfl,?_⟩
  refine⟨_,_,_,B1.com,rfl,?_⟩
  refine zx (λe2=>?_) (λe2=>?_)
  ·exact⟨by show (1:Nat)<=room;decide,q1 h b _ hm (.inr e2) ch⟩
  ·refine⟨_,_,_,B1.com,rfl,?_⟩
   refine⟨⟨_,B1.lst⟩,?_⟩
   have gl:g<μ1.length:=(z7v.mp B1.lst).1
   unfold jT
   refine⟨rfl,?_⟩
   refine⟨_,_,zu,by show (0:Nat)<900;decide,?_⟩
   refine⟨_,_,get_set zu,by show (1:Nat)<900;decide,?_⟩
   refine⟨_,rfl,?_⟩
   refine⟨_,_,get_set (get_set zu),by show (2:Nat)<900;decide,?_⟩
   refine⟨_,_,get_set (get_set (get_set zu)),by show (3:Nat)<900;decide,?_⟩
   refine⟨rfl,?_⟩
   have es:∀(μ:Mem) (a b:MO),(μ++[a]).set μ.length b=μ++[b]:=λμ a b=>by rw[z9F _ _ (z7D _)];simp
   simp only[es]
   refine⟨_,zd B1.lst,by rw[z7B];unfold room;omega,?_⟩
   refine q2 h b _ μ1.length hh (by omega) hb0 (by omega) hm ch.len ?_ ?_
   ·refine (ch.mono (by simp)).trans ((Ch.app.mono (by simp)).trans Ch.set)
   ·have nw:∀p∈ps,p.1≠g/\p.1<μ1.length:=λp hp=>by
     refine⟨λe=>?_,(z7v.mp (B1.at_ p hp)).1⟩
     have:=B1.at_ p hp
     rw[e,B1.lst] at this;cases this
    have cg:c≠g:=λe=>by
     have:=B1.com
     rw[e,B1.lst] at this;cases this
    refine⟨?_,?_,λp hp=>?_,?_⟩
    ·rw[z81 cg.symm];exact zd B1.com
    ·rw[z86];exact get_set (zd B1.lst)
    ·rcases z7H.mp hp with hp|hp
     ·rw[z81 (nw p hp).1.symm];exact zd (B1.at_ p hp)
     ·rw[z7C.mp hp,z81 (by show g≠μ1.length;omega)];exact zu
    ·rw[z86,zan]
     refine⟨B1.nd,by simp,λa ha b hb e=>?_⟩
     obtain⟨p,hp,rfl⟩:=z8n.mp ha
     have hb:b=μ1.length:=by simpa using hb
     have:=(nw p hp).2
     omega
end NH.P
end
section
namespace NH.P
open PySem L2 NH
variable {μ μ1 μ2:Mem}{K:T->Mem->Prop}{Z:Xp}{c g r i0:Nat}{x y z:Int}{ps:List Gp}
noncomputable def er (ps:List Gp):List Gp:=ps.map λp=>(0,p.2)
theorem Lease.er{hs:T}{m n h b:Int}(a:Lease ps hs m n h b):Lease (er ps) hs m n h b:=by
 have mem:∀{p:Gp},p∈NH.P.er ps->∃q∈ps,q.2=p.2:=λ{p} hp=>by
  obtain⟨q,hq,e⟩:=z8n.mp hp
  exact⟨q,hq,by rw[←e]⟩
 have mem2:∀{q:Gp},q∈ps->((0,q.2):Gp)∈NH.P.er ps:=λ{q} hq=>z8n.mpr ⟨q,hq,rfl⟩
 rcases a with⟨e,e',f0,f1,f2⟩|⟨e,f0,f1,f2⟩
 ·refine .inl ⟨e,e',f0,λp hp ph=>?_,λh' h1 h2=>?_⟩
  ·obtain⟨q,hq,w⟩:=mem hp
   rw[←w] at ph ⊢
   exact f1 q hq ph
  ·obtain⟨q,hq,a1,a2⟩:=f2 h' h1 h2
   exact⟨_,mem2 hq,a1,a2⟩
 ·refine .inr ⟨e,f0,λp hp ph=>?_,λb' h1 h2=>?_⟩
  ·obtain⟨q,hq,w⟩:=mem hp
   rw[←w] at ph ⊢
   exact f1 q hq ph
  ·obtain⟨q,hq,a1,a2⟩:=f2 b' h1 h2
   exact⟨_,mem2 hq,a1,a2⟩
end NH.P
end
section
namespace NH.P
open PySem L2 NH
variable {μ μ1 μ2:Mem}{K:T->Mem->Prop}{Z:Xp}{c g r i0:Nat}{x y z:Int}{ps:List Gp}
theorem vX{sh:T}(q:K .non (μ++[.obj 43 [(9,sh),(10,.mut (μ.length+1))],.lst []])):qS [.mut μ.length,sh] (μ++[.obj 43 []]) K Z:=by
 have es:∀(μ:Mem) (a b:MO),(μ++[a]).set μ.length b=μ++[b]:=λμ a b=>by rw[z9F _ _ (z7D _)];simp
 unfold qS
 refine⟨rfl,?_⟩
 refine⟨_,_,zu,by show (0:Nat)<900;decide,?_⟩
 rw[es]
 refine⟨_,_,zd zu,by show (1:Nat)<900;decide,?_⟩
 have e2:∀(o a b:MO),((μ++[o])++[a]).set μ.length b=μ++[b,a]:=λo a b=>by
  rw[List.append_assoc,z9F _ _ (z7D _)];simp
 rw[e2]
 have e3:(μ++[MO.obj 43 [(9,sh)]]).length=μ.length+1:=by simp
 show K .non (μ++[MO.obj 43 (XH 10 (T.mut (μ++[MO.obj 43 [(9,sh)]]).length) [(9,sh)]),.lst []])
 rw[e3]
 exact q
theorem wN{n b:Int}(h0:0<=n)(h1:n<b)(q:K .non μ):qP [.int n,.int b] μ K Z:=by
 unfold qP
 refine⟨rfl,?_⟩
 refine j5 h0 h1 ?_
 exact q
theorem ub{m h k:Int}(m0:0<=m)(m1:m<x)(h0:0<=h)(h1:h<y)(k0:0<=k)(k1:k<z):0<=(m * y+h) * z+k/\(m * y+h) * z+k<x * y * z/\((m * y+h) * z+k) / z=m * y+h/\(m * y+h) / y=m/\(m * y+h) % y=h:=by
 have a:((m * y+h) * z+k) / z=m * y+h/\((m * y+h) * z+k) % z=k:=(z9P (by omega)).mpr ⟨by rw[z9i z,zbO],k0,k1⟩
 have b:(m * y+h) / y=m/\(m * y+h) % y=h:=(z9P (by omega)).mpr ⟨by rw[z9i y,zbO],h0,h1⟩
 have n0:0<=m * y:=z8P m0 (by omega)
 have n1:0<=(m * y+h) * z:=z8P (by omega) (by omega)
 have n2:m * y+y<=x * y:=by
  have:=z7Y (show m+1<=x by omega) (show 0<=y by omega)
  rw[z9s,z9t] at this
  exact this
 have n3:(m * y+h) * z+z<=x * y * z:=by
  have:=z7Y (show m * y+h+1<=x * y by omega) (show 0<=z by omega)
  rw[z9s,z9t] at this
  exact this
 exact⟨by omega,by omega,a.1,b.1,b.2⟩
end NH.P
end
section
namespace NH.P
open PySem L2 NH
variable {μ μ1 μ2:Mem}{K:T->Mem->Prop}{Z:Xp}{x y z:Int}{i:Nat}{sh kp bt:T}{ah sd:Int}
noncomputable abbrev Ls:=Int×Int×Int
noncomputable def lsT:Option Ls->T
 |none=>.non
 |some l=>.tup [.int l.1,.int l.2.1,.int l.2.2]
noncomputable def opT:Option Int->T
 |none=>.non
 |some m=>.int m
noncomputable abbrev hsF(sh:T)(ah sd:Int)(kp:T)(l:Option Ls)(m n:Option Int)(bt:T)(fl:Bool):List (Nat×T):=[(9,sh),(14,.int ah),(15,.int sd),(16,kp),(6,lsT l),(17,opT m),(18,opT n),(19,bt),(20,.bl fl)]
noncomputable abbrev hsO(sh:T)(ah sd:Int)(kp:T)(l:Option Ls)(m n:Option Int)(bt:T)(fl:Bool):MO:=.obj 45 (hsF sh ah sd kp l m n bt fl)
theorem z5O:∀(l l':Option Ls),eqT (lsT l) (lsT l')=some (decide (l=l'))
 |none,none=>by simp[lsT,eqT]
 |none,some b=>by simp[lsT,eqT]
 |some a,none=>by simp[lsT,eqT]
 |some (a,b,c),some (d,e,f)=>by
  show eqT (.tup _) (.tup _)=_
  simp only[eqT]
  rw[z7k]
  simp[zdm]
theorem z6T:∀(l l':Option Int),eqT (opT l) (opT l')=some (decide (l=l'))
 |none,none=>by simp[opT,eqT]
 |none,some b=>by simp[opT,eqT]
 |some a,none=>by simp[opT,eqT]
 |some a,some b=>by
  by_cases h:a=b
  ·simp[opT,eqT,h]
  ·simp[opT,eqT,h]
theorem z0k{l l':Option Ls}{m m':Option Int}:eqL [lsT l,opT m] [lsT l',opT m']=some (decide (l=l')&&decide (m=m')):=by
 simp[eqL,z5O,z6T]
theorem Yj{l:Option Ls}{m:Option Int}:qH [lsT l,opT m]<=40:=by
 cases l<;>cases m<;>simp[lsT,opT,qH,vU]
variable {l l':Option Ls}{m m' n:Option Int}
theorem xW(h:μ[i]?=some (hsO sh ah sd kp l m n bt false))(q:K .non μ):qe [.mut i] μ K Z:=by
 unfold qe
 refine⟨rfl,?_⟩
 refine⟨_,_,_,h,rfl,?_⟩
 exact q
theorem z1l(h:μ[i]?=some (hsO sh ah sd kp l m n bt false))(q:K (.tup [lsT l,opT m]) μ):vF [.mut i] μ K Z:=by
 unfold vF
 refine⟨rfl,?_⟩
 refine⟨_,_,_,h,rfl,?_⟩
 refine⟨_,_,_,h,rfl,?_⟩
 exact q
theorem Kl(h:μ[i]?=some (hsO sh ah sd kp l m n bt false))(hk:WU kp)(q:∀μ',Ch [i] μ μ'->μ'.length=μ.length->μ'[i]?=some (hsO sh ah sd kp l' m' n bt false)->K .non μ'):wq [.mut i,lsT l',opT m'] μ K Z:=by
 unfold wq
 refine⟨rfl,?_⟩
 refine⟨_,h,?_⟩
 refine z1l h ?_
 refine⟨Yj,_,z0k,?_⟩
 refine qa (λe=>?_) (λe=>?_)
 ·simp only[z7x,decide_eq_true_eq] at e
  obtain⟨rfl,rfl⟩:=e
  exact q _ Ch.refl rfl h
 ·refine⟨_,_,h,by show (9:Nat)<900;decide,?_⟩
  refine⟨_,_,_,get_set h,rfl,hk,?_⟩
  refine⟨_,_,get_set h,by show (9:Nat)<900;decide,?_⟩
  refine⟨_,_,get_set (get_set h),by show (9:Nat)<900;decide,?_⟩
  refine⟨_,_,get_set (get_set (get_set h)),by show (9:Nat)<900;decide,?_⟩
  refine q _ (((Ch.set.trans Ch.set).trans Ch.set).trans Ch.set) (by simp) ?_
  exact get_set (get_set (get_set (get_set h)))
theorem uR{h f u:Int}(h0:0<=h)(h1:h<y)(f0:0<=f)(fu:f<u)(ux:u<=x)(q:K .non μ):qU [shp x y z,.tup [.int h,.int f,.int u]] μ K Z:=by
 unfold qU
 refine⟨rfl,?_⟩
 refine Vn h0 h1 f0 fu ux ?_
 exact q
structure LsOk(x y:Int)(l:Ls):Prop where
 h0:0<=l.1
 h1:l.1<y
 f0:0<=l.2.1
 fu:l.2.1<l.2.2
 ux:l.2.2<=x
theorem Zv{a:Ls}(h:μ[i]?=some (hsO (shp x y z) ah sd kp l m n bt false))(hk:WU kp)(ok:LsOk x y a)(q:∀μ',Ch [i] μ μ'->μ'.length=μ.length->μ'[i]?=some (hsO (shp x y z) ah sd kp (some a) m n bt false)->K .non μ') :
  zP [.mut i,lsT (some a)] μ K Z:=by
 unfold zP
 refine⟨rfl,?_⟩
 refine⟨_,h,?_⟩
 refine xW h ?_
 refine⟨_,_,_,h,rfl,?_⟩
 refine uR ok.h0 ok.h1 ok.f0 ok.fu ok.ux ?_
 refine⟨_,h,?_⟩
 refine⟨_,_,_,h,rfl,?_⟩
 exact Kl h hk q
theorem uS{a:Int}(h:0<=a)(q:K (.bl true) μ):qb [.int a] μ K Z:=by
 unfold qb
 refine⟨rfl,?_⟩
 refine zJ ?_
 have q:K (.bl (decide (0<=a))) μ:=by rw[decide_eq_true h];exact q
 exact q
theorem Zr(h:μ[i]?=some (.obj 45 []))(ha:0<=ah)(hs:0<=sd)(q:∀μ',Ch [i] μ μ'->μ'.length=μ.length->μ'[i]?=some (hsO sh ah sd kp none none none (.lst []) false)->K .non μ') :
  qO [.mut i,sh,.int ah,.int sd,kp,.non] μ K Z:=by
 unfold qO
 refine⟨rfl,?_⟩
 refine uS ha ?_
 refine uS hs ?_
 refine⟨_,_,h,by show (0:Nat)<900;decide,?_⟩
 refine⟨_,_,get_set h,by show (1:Nat)<900;decide,?_⟩
 refine⟨_,_,get_set (get_set h),by show (2:Nat)<900;decide,?_⟩
 refine⟨_,_,get_set (get_set (get_set h)),by show (3:Nat)<900;decide,?_⟩
 refine⟨_,_,get_set (get_set (get_set (get_set h))),by show (4:Nat)<900;decide,?_⟩
 refine⟨_,_,get_set (get_set (get_set (get_set (get_set h)))),by show (5:Nat)<900;decide,?_⟩
 refine⟨_,_,get_set (get_set (get_set (get_set (get_set (get_set h))))),by show (6:Nat)<900;decide,?_⟩
 refine⟨_,_,get_set (get_set (get_set (get_set (get_set (get_set (get_set h)))))),by show (7:Nat)<900;decide,?_⟩
 refine⟨_,_,get_set (get_set (get_set (get_set (get_set (get_set (get_set (get_set h))))))),by show (8:Nat)<900;decide,?_⟩
 refine q _ ((((((((Ch.set.trans Ch.set).trans Ch.set).trans Ch.set).trans Ch.set).trans Ch.set).trans Ch.set).trans Ch.set).trans Ch.set) (by simp) ?_
 exact get_set (get_set (get_set (get_set (get_set (get_set (get_set (get_set (get_set h))))))))
structure Hz(x y z:Int):Prop where
 x1:1<=x
 y1:1<=y
 y2:y<=1000000
 z1:1<=z
 z2:z<=1000000
theorem Hz.sy(s:Hz x y z):Sy y z:=⟨s.y1,by have:=s.y2;omega,s.z1,by have:=s.z2;omega⟩
theorem qw{k:Int}(s:Hz x y z)(h0:0<=k)(h1:k<x * y * z)(q:K (.tup [.int (k / z / y),.int (k / z % y),.int (k % z)]) μ):qo [shp x y z,.int k] μ K Z:=by
 obtain⟨x1,y1,y2,z1,z2⟩:=id s
 unfold qo
 refine⟨rfl,?_⟩
 refine Zb s.sy (by rw[decide_eq_true h0,decide_eq_true h1];rfl) ?_
 refine⟨by omega,⟨by omega,by omega⟩,⟨by omega,by omega⟩,by omega,?_⟩
 exact q
noncomputable def plA(y z h k:Int):Int:=if k / z % y<h then k / z / y * z else if h<k / z % y then (k / z / y+1) * z else k / z / y * z+k % z+1
theorem yU{h k:Int}(s:Hz x y z)(h0:0<=k)(h1:k<x * y * z)(q:K (.int (plA y z h k)) μ):wF [shp x y z,.int h,.int k] μ K Z:=by
 obtain⟨x1,y1,y2,z1,z2⟩:=id s
 unfold wF
 refine⟨rfl,?_⟩
 refine qw s h0 h1 ?_
 refine⟨_,rfl,?_⟩
 unfold plA at q
 refine zx (λe=>?_) (λe=>?_)
 ·rw[if_pos e] at q
  refine⟨_,rfl,.inr ⟨by unfold big;omega,by unfold big;omega⟩,?_⟩
  exact q
 ·rw[if_neg e] at q
  refine⟨_,rfl,?_⟩
  refine zx (λe=>?_) (λe=>?_)
  ·rw[if_pos e] at q
   refine⟨_,rfl,.inr ⟨by unfold big;omega,by unfold big;omega⟩,?_⟩
   exact q
  ·rw[if_neg e] at q
   refine⟨_,rfl,.inr ⟨by unfold big;omega,by unfold big;omega⟩,?_⟩
   refine⟨_,rfl,?_⟩
   exact q
noncomputable abbrev z2E(h b e:Int):T:=.obj 44 [(11,.int h),(12,.int b),(13,.int e)]
end NH.P
end
section
namespace NH.P
open PySem L2 NH
variable {μ μ1 μ2:Mem}{K:T->Mem->Prop}{Z:Xp}{x y z:Int}{i:Nat}{sh kp bt:T}{ah sd:Int}{l l':Option Ls}{m m' n:Option Int}
noncomputable def nmA(y z h p:Int):Int:=(p / z * y+h) * z+p % z
noncomputable def nmL (y z h b k:Int):List Int:=(z8y k.toNat).map λ(j:Nat)=>nmA y z h (b+j)
theorem jG{mo h k:Int}(s:Hz x y z)(m0:0<=mo)(m1:mo<x)(h0:0<=h)(h1:h<y)(k0:0<=k)(k1:k<z)(q:K (.int ((mo * y+h) * z+k)) μ):jb [shp x y z,.int mo,.int h,.int k] μ K Z:=by
 obtain⟨x1,y1,y2,z1,z2⟩:=id s
 unfold jb
 refine⟨rfl,?_⟩
 refine wN m0 m1 ?_
 refine wN h0 h1 ?_
 refine wN k0 k1 ?_
 refine⟨.inr ⟨by unfold big;omega,by unfold big;omega⟩,?_⟩
 refine⟨.inr ⟨by unfold big;omega,by unfold big;omega⟩,?_⟩
 exact q
theorem place_lt{p:Int}(s:Hz x y z)(h1:p<x * z):p / z<x:=by
 have:=s.z1
 exact zav (by omega) h1
theorem yP{h p:Int}(s:Hz x y z)(p0:0<=p)(p1:p<x * z)(h0:0<=h)(h1:h<y)(q:K (.int (nmA y z h p)) μ):km [shp x y z,.int h,.int p] μ K Z:=by
 obtain⟨x1,y1,y2,z1,z2⟩:=id s
 unfold km
 refine⟨rfl,?_⟩
 refine⟨⟨by omega,by omega⟩,?_⟩
 refine⟨by omega,?_⟩
 exact jG s (za9 p0 (by omega)) (place_lt s p1) h0 h1 (z7Q _ (by omega)) (z7R _ (by omega)) q
theorem Ji{b k:Int}(hk:1<=k):xv b (b+k) 1=(z8y k.toNat).map λ(j:Nat)=>T.int (b+j):=by
 unfold xv
 rw[if_pos (by omega)]
 have:(b+k-b-1) / 1+1=k:=by rw[zcO];omega
 rw[this]
 simp
theorem xm{h b k:Int}(s:Hz x y z)(hb:x * z<1000000000000000000000000000000000000000000000000000000000000)(b0:0<=b)(k1:1<=k)(k2:k<=1000000)(be:b+k<=x * z)(h0:0<=h)(h1:h<y)(q:K (.lst ((nmL y z h b k).map T.int)) μ):qz [shp x y z,z2E h b (b+k)] μ K Z:=by
 unfold qz
 refine⟨rfl,?_⟩
 refine⟨⟨⟨by omega,by omega⟩,⟨by omega,by omega⟩⟩,?_⟩
 rw[Ji k1]
 refine⟨by rw[z7B,List.length_range];unfold room;omega,?_⟩
 refine qM (λ(j:Nat)=>T.int (b+j)) (λ(j:Nat)=>some (T.int (nmA y z h (b+j)))) (λj hj kk hkk=>?_) ?_ trivial
 ·have hj:j<k.toNat:=z9J.mp hj
  refine⟨_,rfl,?_⟩
  exact yP s (by omega) (by omega) h0 h1 hkk
 ·rw[z8w]
  unfold nmL at q
  rw[z9g] at q
  exact q
theorem Z4{mo:Int}(h:μ[i]?=some (hsO (shp x y z) ah sd kp l m n bt false))(q:∀mb:Int,K (.int mb) μ):zZ [.mut i,.int mo] μ K Z:=by
 unfold zZ
 refine⟨rfl,?_⟩
 refine⟨_,_,_,h,rfl,?_⟩
 have fin:∀τ:Sl,τ=[some (.mut i),some (.int mo)]->zQ (qk.drop 1) τ μ (En.fn K Z):=λτ e=>by
  subst e
  refine⟨_,_,_,h,rfl,?_⟩
  refine⟨_,_,_,h,rfl,?_⟩
  exact q _
 cases m with
 |none=>exact fin _ rfl
 |some mm=>
  refine⟨_,_,_,h,rfl,?_⟩
  refine zx (λe=>?_) (λe=>?_)
  ·refine⟨_,_,_,h,rfl,?_⟩
   exact q mm
  ·exact fin _ rfl
end NH.P
end
section
namespace NH.P
open PySem L2 NH
variable {μ μ1 μ2:Mem}{K:T->Mem->Prop}{Z:Xp}{x y z:Int}{i:Nat}{sh kp bt:T}{ah sd:Int}{l l':Option Ls}{m m' n:Option Int}
theorem WT{z a b c d:Int}(c0:0<=c)(c1:c<z)(d0:0<=d)(d1:d<z):a * z+c<b * z+d↔a<b\/(a=b/\c<d):=by
 have up:∀{p q:Int},p<q->p * z+z<=q * z:=λ{p q} h=>by
  have:=z7Y (show p+1<=q by omega) (show 0<=z by omega)
  rw[z9s,z9t] at this
  exact this
 constructor
 ·intro h
  by_cases e:a<b
  ·exact .inl e
  ·by_cases e2:a=b
   ·subst e2;exact .inr ⟨rfl,by omega⟩
   ·have:=up (show b<a by omega);omega
 ·rintro (h|⟨rfl,h⟩)
  ·have:=up h;omega
  ·omega
theorem YU(k:Int)(y z:Int):k=(k / z / y * y+k / z % y) * z+k % z:=by
 have e1:=z8m k z
 have e2:=z8m (k / z) y
 rw[z9i (k / z / y) y,e2,z9i (k / z) z]
 exact e1.symm
theorem z08{h k p:Int}(s:Hz x y z)(h0:0<=h)(h1:h<y):k<nmA y z h p↔plA y z h k<=p:=by
 obtain⟨x1,y1,y2,z1,z2⟩:=id s
 have c0:=z7Q k (show z≠0 by omega)
 have c1:=z7R k (show 0<z by omega)
 have d0:=z7Q p (show z≠0 by omega)
 have d1:=z7R p (show 0<z by omega)
 have a0:=z7Q (k / z) (show y≠0 by omega)
 have a1:=z7R (k / z) (show 0<y by omega)
 have ep:=z8m p z
 have ek:=YU k y z
 unfold nmA plA
 conv=>lhs;lhs;rw[ek]
 rw[WT c0 c1 d0 d1,WT a0 a1 h0 h1]
 have le:∀A:Int,A * z<=p↔A<=p / z:=λA=>(Int.le_ediv_iff_mul_le (by omega)).symm
 have eqA:∀A B:Int,A * y+k / z % y=B * y+h↔A=B/\k / z % y=h:=λA B=>by
  have l1:=WT (z:=y) (a:=A) (b:=B) (c:=k / z % y) (d:=h) a0 a1 h0 h1
  have l2:=WT (z:=y) (a:=B) (b:=A) (c:=h) (d:=k / z % y) h0 h1 a0 a1
  constructor
  ·intro e
   have n1:¬(A<B\/(A=B/\k / z % y<h)):=λw=>by have:=l1.mpr w;omega
   have n2:¬(B<A\/(B=A/\h<k / z % y)):=λw=>by have:=l2.mpr w;omega
   omega
  ·rintro⟨rfl,e⟩;rw[e]
 rw[eqA]
 split
 ·rename_i e
  rw[le];omega
 ·split
  ·rename_i e1 e2
   rw[le];omega
  ·rename_i e1 e2
   have e3:k / z % y=h:=by omega
   have lx:=WT (z:=z) (a:=k / z / y) (b:=p / z) (c:=k % z) (d:=p % z) c0 c1 d0 d1
   have:p=p / z * z+p % z:=by rw[z9i];exact ep.symm
   constructor
   ·intro w
    have:=lx.mpr (by omega)
    omega
   ·intro w
    have:=lx.mp (by omega)
    omega
theorem Ko{h p q:Int}(s:Hz x y z)(h0:0<=h)(h1:h<y)(pq:p<q):nmA y z h p<nmA y z h q:=by
 obtain⟨x1,y1,y2,z1,z2⟩:=id s
 have c0:=z7Q p (show z≠0 by omega)
 have c1:=z7R p (show 0<z by omega)
 have d0:=z7Q q (show z≠0 by omega)
 have d1:=z7R q (show 0<z by omega)
 have e1:p=p / z * z+p % z:=by rw[z9i];exact (z8m p z).symm
 have e2:q=q / z * z+q % z:=by rw[z9i];exact (z8m q z).symm
 have lx:=(WT (z:=z) (a:=p / z) (b:=q / z) (c:=p % z) (d:=q % z) c0 c1 d0 d1).mp (by omega)
 unfold nmA
 rw[WT c0 c1 d0 d1]
 rcases lx with w|⟨w,v⟩
 ·have:=(WT (z:=y) (a:=p / z) (b:=q / z) (c:=h) (d:=h) h0 h1 h0 h1).mpr (.inl w)
  exact .inl this
 ·rw[w];exact .inr ⟨rfl,v⟩
theorem US{h p:Int}(s:Hz x y z)(h0:0<=h)(h1:h<y):nmA y z h p / z / y=p / z/\nmA y z h p / z % y=h/\nmA y z h p % z=p % z:=by
 obtain⟨x1,y1,y2,z1,z2⟩:=id s
 have c0:=z7Q p (show z≠0 by omega)
 have c1:=z7R p (show 0<z by omega)
 have a:((p / z * y+h) * z+p % z) / z=p / z * y+h/\((p / z * y+h) * z+p % z) % z=p % z:=(z9P (by omega)).mpr ⟨by rw[z9i z,zbO],c0,c1⟩
 have b:(p / z * y+h) / y=p / z/\(p / z * y+h) % y=h:=(z9P (by omega)).mpr ⟨by rw[z9i y,zbO],h0,h1⟩
 unfold nmA
 rw[a.1,b.1,b.2,a.2]
 exact⟨rfl,rfl,rfl⟩
theorem z2a{h p:Int}(s:Hz x y z)(h0:0<=h)(h1:h<y)(p0:0<=p)(p1:p<x * z):0<=nmA y z h p/\nmA y z h p<x * y * z:=by
 obtain⟨x1,y1,y2,z1,z2⟩:=id s
 have:=ub (x:=x) (y:=y) (z:=z) (za9 p0 (show 0<=z by omega)) (place_lt s p1) h0 h1 (z7Q p (show z≠0 by omega)) (z7R p (show 0<z by omega))
 exact⟨this.1,this.2.1⟩
variable {a:Ls}{r k:Int}{c:Nat}
end NH.P
end
section
namespace NH.P
open PySem L2 NH
variable {μ μ1 μ2:Mem}{K:T->Mem->Prop}{Z:Xp}{x y z:Int}{i:Nat}{sh kp bt:T}{ah sd:Int}{l l':Option Ls}{m m' n:Option Int}{a:Ls}{r k:Int}{c:Nat}
theorem z3T{v w:Str}{b c:Int}:eqL [.str v,.int b] [.str w,.int c]=some (decide (v=w)&&decide (b=c)):=by
 have h:∀i j:Int,(i == j)=decide (i=j):=λi j=>by
  by_cases z:i=j<;>simp[z]
 have h2:(v == w)=decide (v=w):=by
  by_cases z:v=w<;>simp[z]
 simp[eqL,eqT,h,h2]
end NH.P
end
section
namespace NH.P
open PySem L2 NH
variable {μ μ1 μ2:Mem}{K:T->Mem->Prop}{Z:Xp}{x y z h:Int}{i:Nat}{sh kp bt:T}{ah sd:Int}{l l':Option Ls}{m m' n:Option Int}{a:Ls}{r k:Int}{c:Nat}
theorem jc{b:Int}:(nmL y z h b k).length=k.toNat:=by unfold nmL;simp
theorem z0M{b k1 k2:Int}(h1:0<=k1)(h2:0<=k2):nmL y z h b (k1+k2)=nmL y z h b k1++nmL y z h (b+k1) k2:=by
 unfold nmL
 have e:(k1+k2).toNat=k1.toNat+k2.toNat:=by omega
 rw[e,List.range_add,z86,z9g]
 congr 1
 refine zcf λj _=>?_
 show nmA y z h (b+((k1.toNat+j:Nat):Int))=nmA y z h (b+k1+(j:Int))
 congr 1
 push_cast
 omega
end NH.P
end
section
namespace NH.P
open PySem L2 NH
variable {μ μ1 μ2:Mem}{K:T->Mem->Prop}{Z:Xp}{x y z:Int}{i bi:Nat}{sh kp bt:T}{ah sd:Int}{l l':Option Ls}{m m' n:Option Int}{a:Ls}{r k h c:Int}
noncomputable def Zz(y z h:Int)(n m:Option Int):Int:=match n with
 |some k=>plA y z h k
 |none=>(match m with|none=>0|some mm=>(mm+1) * z)
theorem WH(s:Hz x y z)(ho:μ[i]?=some (hsO (shp x y z) ah sd kp (some a) m n bt false))(hn:∀k,n=some k->0<=k/\k<x * y * z)(q:K (.int (Zz y z a.1 n m)) μ):qh [.mut i] μ K Z:=by
 obtain⟨x1,y1,y2,z1,z2⟩:=id s
 unfold qh
 refine⟨rfl,?_⟩
 refine⟨_,_,_,ho,rfl,?_⟩
 cases n with
 |some k=>
  refine⟨_,_,_,ho,rfl,?_⟩
  refine⟨_,_,_,ho,rfl,?_⟩
  refine⟨_,rfl,?_⟩
  refine⟨_,_,_,ho,rfl,?_⟩
  exact yU s (hn k rfl).1 (hn k rfl).2 q
 |none=>
  refine⟨_,_,_,ho,rfl,?_⟩
  cases m with
  |none=>exact q
  |some mm=>
   refine⟨_,_,_,ho,rfl,?_⟩
   refine⟨_,_,_,ho,rfl,?_⟩
   refine⟨.inr ⟨by unfold big;omega,by unfold big;omega⟩,?_⟩
   exact q
noncomputable def AtC (y z:Int)(a:Ls)(n m:Option Int)(r c:Int):Prop:=(Zz y z a.1 n m<=r * z/\c=0)\/(Zz y z a.1 n m=r * z+c/\0<c)
end NH.P
end
section
namespace NH.P
open PySem L2 NH
variable {μ μ1 μ2:Mem}{K:T->Mem->Prop}{Z:Xp}{x y z:Int}{i c g d w:Nat}
theorem Vl{k k':Key}{t:T}:∀kvs:List (Key×T),zb k' (kvs.map λkv=>if kv.1=k then (kv.1,t) else kv)=if k'=k then (zb k kvs).map λ_=>t else zb k' kvs
 |[]=>by simp[zb]
 |p::r=>by
  have ih:=Vl (k:=k) (k':=k') (t:=t) r
  by_cases e:p.1=k
  ·by_cases e2:k'=k
   ·simp[zb,e,e2]
   ·have e3:¬k=k':=λw=>e2 w.symm
    simp only[z82,e,if_true,zb,if_neg e3,if_neg e2] at ih ⊢
    exact ih
  ·by_cases e2:k'=k
   ·subst e2
    simp only[z82,if_neg e,zb,if_true] at ih ⊢
    exact ih
   ·simp only[z82,if_neg e,zb,if_neg e2] at ih ⊢
    by_cases e4:p.1=k'
    ·simp[e4]
    ·simp only[if_neg e4];exact ih
theorem WO{k:Key}:∀kvs:List (Key×T),(kvs.any λkv=>decide (kv.1=k))=(zb k kvs).isSome
 |[]=>rfl
 |p::r=>by
  rw[z91,WO r]
  by_cases e:p.1=k
  ·simp[zb,e]
  ·simp[zb,e]
theorem Qh{k k':Key}{t:T}:∀kvs:List (Key×T),zb k kvs=none->zb k' (kvs++[(k,t)])=if k'=k then some t else zb k' kvs
 |[],_=>by
  by_cases e:k'=k
  ·simp[zb,e]
  ·have:¬k=k':=λw=>e w.symm
   simp[zb,e,this]
 |p::r,h=>by
  unfold zb at h
  by_cases e:p.1=k
  ·rw[if_pos e] at h;cases h
  ·rw[if_neg e] at h
   have ih:=Qh (k':=k') (t:=t) r h
   show zb k' (p::(r++[(k,t)]))=_
   unfold zb
   by_cases e2:p.1=k'
   ·have:¬k'=k:=λw=>e (e2.trans w)
    simp[e2,this]
   ·rw[if_neg e2,if_neg e2,ih]
theorem wc{k k':Key}{t:T}(kvs:List (Key×T)):zb k' (vt k t kvs)=if k'=k then some t else zb k' kvs:=by
 unfold vt
 rw[WO]
 cases h:zb k kvs with
 |none=>rw[if_neg (by simp)];exact Qh kvs h
 |some v=>rw[if_pos (by simp),Vl,h];rfl
structure Hs where
 a:Ls
 n:Option Int
inductive Row where
 |lease (ho:Str) (hs:Option Int) (m n:Int)
 |ask (ho:Str) (r k:Int)
noncomputable def Row.t:Row->T
 |.lease ho hs m n=>.tup [.str "lease",.str ho,opT hs,.int m,.int n]
 |.ask ho r k=>.tup [.str "ask",.str ho,.int r,.int k]
structure S7 where
 G:List Gp
 hm:Str->Option Hs
 td:List (Str×Int)
noncomputable def upH(hm:Str->Option Hs)(ho:Str)(h:Hs):Str->Option Hs:=λs=>if s=ho then some h else hm s
structure HoOk(ho:Str):Prop where
 l:ho.length<=room
 h:vE ho=true
noncomputable def Sp7 (x y z:Int)(r:Row)(s s':S7):Prop:=match r with
 |.lease ho hs m n=>HoOk ho/\(∀h,hs=some h->0<=h/\h<y)/\1<=n/\∃h b,0<=h/\h<y/\0<=b/\b+n<=x/\Lease s.G (opT hs) (if m<0 then 0 else m) n h b/\s'=⟨s.G++[(0,⟨ho,h,b,b+n,b+n,false⟩)],upH s.hm ho ⟨(h,b,b+n),(s.hm ho).bind Hs.n⟩,s.td⟩
 |.ask ho r k=>HoOk ho/\∃hh c,s.hm ho=some hh/\hh.a.2.1<=r/\r<hh.a.2.2/\1<=k/\k<=1000/\c+k<=z/\AtC y z hh.a hh.n none r c/\s'=⟨s.G,upH s.hm ho ⟨hh.a,some (nmA y z hh.a.1 (r * z+c+k-1))⟩,s.td++(nmL y z hh.a.1 (r * z+c) k).map λv=>(ho,v)⟩
noncomputable def Run7 (x y z:Int):List Row->S7->S7->Prop
 |[],s,t=>t=s
 |r::rs,s,t=>∃m,Sp7 x y z r s m/\Run7 x y z rs m t
theorem Run7.snoc{r:Row}{m t:S7}:∀{rs:List Row} {s:S7},Run7 x y z rs s m->Sp7 x y z r m t->Run7 x y z (rs++[r]) s t
 |[],s,h,q=>by cases h;exact⟨t,q,rfl⟩
 |a::rs,s,⟨u,h1,h2⟩,q=>⟨u,h1,Run7.snoc h2 q⟩
structure WF(x y z:Int)(s:S7):Prop where
 ls:∀ho hh,s.hm ho=some hh->LsOk x y hh.a
 nm:∀ho hh v,s.hm ho=some hh->hh.n=some v->0<=v/\v<x * y * z
theorem Sp7.wf{r:Row}{s t:S7}(sz:Hz x y z)(w:WF x y z s)(h:Sp7 x y z r s t):WF x y z t:=by
 cases r with
 |lease ho hs m n=>
  obtain⟨_,_,n1,h,b,h0,h1,b0,bx,_,rfl⟩:=h
  refine⟨λho' hh e=>?_,λho' hh v e ev=>?_⟩
  ·have e:(if ho'=ho then some _ else s.hm ho')=some hh:=e
   by_cases q:ho'=ho
   ·rw[if_pos q] at e;cases e
    exact⟨h0,h1,b0,by show b<b+n;omega,bx⟩
   ·rw[if_neg q] at e;exact w.ls _ _ e
  ·have e:(if ho'=ho then some _ else s.hm ho')=some hh:=e
   by_cases q:ho'=ho
   ·rw[if_pos q] at e;cases e
    have ev:(s.hm ho).bind Hs.n=some v:=ev
    obtain⟨h2,e2,e3⟩:=zbw.mp ev
    exact w.nm _ _ _ e2 e3
   ·rw[if_neg q] at e;exact w.nm _ _ _ e ev
 |ask ho r k=>
  obtain⟨_,hh0,c,e0,r0,r1,k1,k2,ck,at_,rfl⟩:=h
  have ok:=w.ls _ _ e0
  refine⟨λho' hh e=>?_,λho' hh v e ev=>?_⟩
  ·have e:(if ho'=ho then some _ else s.hm ho')=some hh:=e
   by_cases q:ho'=ho
   ·rw[if_pos q] at e;cases e;exact ok
   ·rw[if_neg q] at e;exact w.ls _ _ e
  ·have e:(if ho'=ho then some _ else s.hm ho')=some hh:=e
   by_cases q:ho'=ho
   ·rw[if_pos q] at e;cases e
    cases ev
    have z1:=sz.z1
    have f0:=ok.f0
    have c0:0<=c:=by rcases at_ with q|q<;>omega
    have rz:0<=r * z:=z8P (by omega) (by omega)
    have uz:=z7Y (show r+1<=x by have:=ok.ux;omega) (show 0<=z by omega)
    rw[z9s,z9t] at uz
    exact z2a sz ok.h0 ok.h1 (by omega) (by omega)
   ·rw[if_neg q] at e;exact w.nm _ _ _ e ev
noncomputable abbrev kp7:T:=.clo 1 []
theorem z6D:WU kp7:=.inr (.inl rfl)
noncomputable abbrev hs7(x y z:Int)(l:Option Ls)(m n:Option Int):MO:=hsO (shp x y z) 0 0 kp7 l m n (.lst []) false
structure HD(μ:Mem)(x y z:Int)(kvs:List (Key×T))(hm:Str->Option Hs):Prop where
 no:∀ho,hm ho=none->zb (.inr ho) kvs=none
 so:∀ho hh,hm ho=some hh->∃i m,zb (.inr ho) kvs=some (.mut i)/\μ[i]?=some (hs7 x y z (some hh.a) m hh.n)/\(hh.n=none->m=none)
 inj:∀ho ho' i,zb (.inr ho) kvs=some (.mut i)->zb (.inr ho') kvs=some (.mut i)->ho=ho'
theorem yf{ho:Str}{kvs:List (Key×T)}{hm:Str->Option Hs}(H:HD μ x y z kvs hm)(hd:μ[d]?=some (.dic kvs))(hl:kvs.length<=1000)(o:HoOk ho)
  (q1:∀i,zb (.inr ho) kvs=some (.mut i)->K (.mut i) μ)
  (q2:hm ho=none->∀μ',Ch [d] μ μ'->μ'[d]?=some (.dic (vt (.inr ho) (.mut μ.length) kvs))->μ'[μ.length]?=some (hs7 x y z none none none)->K (.mut μ.length) μ') :
  vR [.mut d,shp x y z,.str ho] μ K Z:=by
 have dl:d<μ.length:=(z7v.mp hd).1
 unfold vR
 refine⟨rfl,?_⟩
 refine vT o.l o.h ?_
 refine⟨_,hd,?_⟩
 cases h:hm ho with
 |some hh=>
  obtain⟨i,m,h1,h2,h3⟩:=H.so ho hh h
  refine z33 (by rw[h1];rfl) ?_
  exact⟨_,_,hd,h1,q1 i h1⟩
 |none=>
  have h1:=H.no ho h
  refine z5H (by rw[h1];rfl) ?_
  refine Zr zu (z8u _) (z8u _) λμ1 ch hl1 h2=>?_
  refine⟨rfl,?_⟩
  have d1:=ch.get (zd hd) (by simp;omega)
  refine⟨_,d1,by unfold room;omega,?_⟩
  have d2:=get_set (y:=.dic (vt (.inr ho) (.mut μ.length) kvs)) d1
  refine⟨_,_,d2,by rw[wc,if_pos rfl],?_⟩
  refine q2 h _ ?_ d2 ?_
  ·have c1:Ch [] μ μ1:=⟨z7V Ch.app.len ch.len,λj hj hs=>by
    rw[ch.ot j (z7I hj Ch.app.len) (by simp;omega)]
    exact z7F hj⟩
   exact (c1.mono (by simp)).trans Ch.set
  ·rw[z81 (by omega)]
   exact h2
theorem Jy{r:Row}(q:K (.bl true) μ):vC [r.t] μ K Z:=by
 unfold vC
 cases r with
 |lease ho hs m n=>
  refine⟨rfl,?_⟩
  refine⟨_,rfl,?_⟩
  refine⟨_,rfl,?_⟩
  refine⟨_,rfl,by intro t ht;simp at ht;rcases ht with rfl|rfl<;>rfl,?_⟩
  exact q
 |ask ho r k=>
  refine⟨rfl,?_⟩
  refine⟨_,rfl,?_⟩
  refine⟨_,rfl,?_⟩
  refine⟨_,rfl,by intro t ht;simp at ht;rcases ht with rfl|rfl<;>rfl,?_⟩
  exact q
end NH.P
end
section
namespace NH.P
open PySem L2 NH
variable {μ μ1 μ2:Mem}{K:T->Mem->Prop}{Z:Xp}{x y z:Int}{i c g d w L:Nat}{kvs:List (Key×T)}{s t:S7}{ps:List Gp}{o0 o1 o6 o7:Option T}
noncomputable abbrev prT(p:Str×Int):T:=.tup [.str p.1,.int p.2]
theorem Ch.geS7{S S':List Nat}(a:Ch S μ μ1)(b:Ch S' μ1 μ2)(h:∀j∈S',μ.length<=j):Ch S μ μ2:=
 ⟨z7V a.len b.len,λj hj hs=>(b.ot j (z7I hj a.len) λw=>absurd (h j w) (by omega)).trans (a.ot j hj hs)⟩
structure PM(μ:Mem)(L c g d w:Nat)(x y z:Int)(s:S7)(ps:List Gp)(kvs:List (Key×T)):Prop where
 B:Bk μ c g (shp x y z) ps
 eG:NH.P.er ps=s.G
 hd:μ[d]?=some (.dic kvs)
 H:HD μ x y z kvs s.hm
 lo:∀ho i,zb (.inr ho) kvs=some (.mut i)->L<=i
 tw:μ[w]?=some (.lst (s.td.map prT))
 gw:g≠w
 tab:μ[0]?=some (.tab 0)
theorem HD.up{μ':Mem}{kvs':List (Key×T)}{hm:Str->Option Hs}{S:List Nat}{ho:Str}{a:Ls}{m n:Option Int}(H:HD μ x y z kvs hm)(ch:Ch S μ μ')(hk:zb (.inr ho) kvs'=some (.mut i))(ot:∀ho',ho'≠ho->zb (.inr ho') kvs'=zb (.inr ho') kvs)(hi:μ'[i]?=some (hs7 x y z (some a) m n))(nm:n=none->m=none)
  (hS:∀j∈S,j=i\/∀l m n,μ[j]?≠some (hs7 x y z l m n)) (fr:∀ho' i',ho'≠ho->zb (.inr ho') kvs=some (.mut i')->i'≠i):HD μ' x y z kvs' (upH hm ho ⟨a,n⟩):=by
 refine⟨λho' e=>?_,λho' hh e=>?_,λh1 h2 j e1 e2=>?_⟩
 ·have e:(if ho'=ho then some _ else hm ho')=none:=e
  by_cases q:ho'=ho
  ·rw[if_pos q] at e;cases e
  ·rw[if_neg q] at e;rw[ot _ q];exact H.no _ e
 ·have e:(if ho'=ho then some _ else hm ho')=some hh:=e
  by_cases q:ho'=ho
  ·rw[if_pos q] at e;cases e
   rw[q];exact⟨i,m,hk,hi,nm⟩
  ·rw[if_neg q] at e
   obtain⟨j,m',j1,j2,j3⟩:=H.so _ _ e
   refine⟨j,m',(ot _ q).trans j1,ch.get j2 λw=>?_,j3⟩
   rcases hS j w with w|w
   ·exact fr _ _ q j1 w
   ·exact w _ _ _ j2
 ·by_cases q1:h1=ho
  ·by_cases q2:h2=ho
   ·rw[q1,q2]
   ·rw[q1,hk] at e1;cases e1
    rw[ot _ q2] at e2
    exact absurd rfl (fr _ _ q2 e2)
  ·by_cases q2:h2=ho
   ·rw[q2,hk] at e2;cases e2
    rw[ot _ q1] at e1
    exact absurd rfl (fr _ _ q1 e1)
   ·rw[ot _ q1] at e1
    rw[ot _ q2] at e2
    exact H.inj _ _ _ e1 e2
theorem W9{a:Nat}{G:Gr}:NH.P.er (ps++[(a,G)])=NH.P.er ps++[(0,G)]:=by
 show List.map _ (ps++[(a,G)])=_
 rw[z86];rfl
end NH.P
end
section
namespace NH.P
open PySem L2 NH
variable {μ μ1 μ2:Mem}{K:T->Mem->Prop}{Z:Xp}{x y z:Int}{i c g d w L:Nat}{kvs:List (Key×T)}{s t:S7}{ps:List Gp}{rs:List Row}
noncomputable def s70:S7:=⟨[],λ_=>none,[]⟩
noncomputable abbrev WV:Int:=1000000000000000000000000000000000000000000000000000000000000
theorem zB{cell k:Int}(hk:0<=k)(q:∀v:Int,0<=v->K (.int v) μ):zw [.int cell,.int k] μ K Z:=xn hk (q _ Ug.1)
noncomputable abbrev ptT(y z v:Int):T:=.tup [.int (v / z / y),.int (v / z % y),.int (v % z)]
noncomputable def wU(y z:Int):Option Int->T
 |none=>.non
 |some v=>ptT y z v
theorem QV{ho:Str}{far many cell:Int}(B:Bk μ c g (shp x y z) ps)(ht:μ[0]?=some (.tab 0))(hl:ps.length<64)(o:HoOk ho)(m1:1<=many)
    (q0:∀μ', Ch [] μ μ'->K (.tup [.non, .non]) μ')
    (q1:∀(hs:Option Int) m n h b μ' a, (∀h, hs=some h->0<=h/\h<y)->1<=n->0<=h->h<y->0<=b->b+n<=x->Lease ps (opT hs) (if m<0 then 0 else m) n h b->Ch [g] μ μ'->Bk μ' c g (shp x y z) (ps++[(a, ⟨ho, h, b, b+n, b+n, false⟩)])->K (.tup [(Row.lease ho hs m n).t, lsT (some (h, b, b+n))]) μ') :
    qT [.mut c, .str ho, .int far, .int many, .int cell] μ K Z:=by
  unfold qT
  refine⟨rfl, ?_⟩
  refine zB (by decide) λd4 d40=>?_
  refine⟨by decide, ?_⟩
  refine zB (by decide) λd5 d50=>?_
  refine⟨by decide, ?_⟩
  have n4:=z7Q d4 (show (4:Int)≠0 by decide)
  have n5:=z7Q d5 (show (2:Int)≠0 by decide)
  have l5:=z7R d5 (show (0:Int)<2 by decide)
  have ix:∃hs:Option Int, (∀h, hs=some h->0<=h)/\w_ [T.non, T.int (d4 % 4)] (d5 % 2)=some (opT hs):=by
    have:d5 % 2=0\/d5 % 2=1:=by omega
    rcases this with e|e
    · rw[e];exact⟨none, λh e=>(by cases e), rfl⟩
    · rw[e];exact⟨some (d4 % 4), λh e=>by cases e;exact n4, rfl⟩
  obtain⟨hs, hs0, hix⟩:=ix
  refine⟨_, hix, ?_⟩
  refine zB (by decide) λd7 d70=>?_
  refine zB (by decide) λd8 d80=>?_
  refine⟨by decide, ?_⟩
  have n8:=z7Q d8 (show (2:Int)≠0 by decide)
  have l8:=z7R d8 (show (0:Int)<2 by decide)
  have iy:∃v:Int, 0<v/\w_ [T.int 2, T.int 9] (d8 % 2)=some (.int v):=by
    have:d8 % 2=0\/d8 % 2=1:=by omega
    rcases this with e|e
    · rw[e];exact⟨2, by decide, rfl⟩
    · rw[e];exact⟨9, by decide, rfl⟩
  obtain⟨v, v0, hiy⟩:=iy
  refine⟨_, hiy, ?_⟩
  refine⟨v0, ?_⟩
  refine zB (by decide) λd6 d60=>?_
  refine⟨by omega, ?_⟩
  have nv:=z7Q d7 (show v≠0 by omega)
  have rest:∀m n:Int, 1<=n->zQ (qQ.drop 3) [some (.mut c), some (.str ho), some (.int far), some (.int many), some (.int cell), some (opT hs), some (.int n), some (Row.lease ho hs m n).t, none] μ (En.fn K Z):=by
   intro m n n1
   have go:(∀h, hs=some h->h<y)->zQ (qQ.drop 4) [some (.mut c), some (.str ho), some (.int far), some (.int many), some (.int cell), some (opT hs), some (.int n), some (Row.lease ho hs m n).t, none] μ (En.fn K Z):=by
     intro hy
     refine⟨_, B.com, ?_⟩
     refine⟨_, rfl, _, rfl, _, rfl, _, rfl, ?_⟩
     have h2:Z7 y (opT hs):=by
       cases hs with
       |none=>exact .inl rfl
       |some h=>exact .inr ⟨h, rfl, hs0 h rfl, hy h rfl⟩
     refine Yp B ht hl o.l o.h h2 n1 (λh' b' μ1 hl' bad ch=>?_) λh' b' μ1 a h0' h1' b0' bx' hl' la ch B1=>?_
     · exact q0 μ1 ch
     · exact q1 hs m n h' b' μ1 a (λh e=>⟨hs0 h e, hy h e⟩) n1 h0' h1' b0' bx' hl' ch B1
   cases hs with
   |none=>exact go λh e=>by cases e
   |some h=>
     refine⟨_, _, _, B.com, rfl, ?_⟩
     refine zx (λe=>?_) (λe=>?_)
     · exact q0 μ Ch.refl
     · exact go λh' e'=>by cases e';have:¬y<=h:=e;omega
  exact rest (far+d6 % many) (1+d7 % v) (by omega)
end NH.P
end
section
namespace NH.P
open PySem L2 NH
variable {μ μ1 μ2:Mem}{K:T->Mem->Prop}{Z:Xp}{x y z:Int}{i c g d w L:Nat}{kvs:List (Key×T)}{s t:S7}{ps:List Gp}{rs:List Row}
theorem Y0{a b c a' b' c':Int}:lexLe [a,b,c] [a',b',c']=true↔a<a'\/(a=a'/\(b<b'\/(b=b'/\c<=c'))):=by
 unfold lexLe
 split
 ·rename_i e
  unfold lexLe
  split
  ·rename_i e2
   unfold lexLe
   split
   ·rename_i e3
    simp[lexLe];omega
   ·simp;omega
  ·simp;omega
 ·simp;omega
theorem z3P{a b c d:Int}:eqL [T.int a,T.int b] [T.int c,T.int d]=some (decide (a=c)&&decide (b=d)):=by
 have h1:(a == c)=decide (a=c):=by by_cases z:a=c<;>simp[z]
 have h2:(b == d)=decide (b=d):=by by_cases z:b=d<;>simp[z]
 simp[eqL,eqT,h1,h2]
theorem jH{a:Ls}{v r:Int}(sz:Hz x y z)(h0:0<=a.1)(h1:a.1<y)(v0:0<=v) :
  (v / z / y=r/\v / z % y=a.1->AtC y z a (some v) none r (v % z+1))/\
  (¬(v / z / y=r/\v / z % y=a.1)->lexLe [r,a.1,0] [v / z / y,v / z % y,v % z]=false->AtC y z a (some v) none r 0):=by
 obtain⟨x1,y1,y2,z1,z2⟩:=id sz
 have c0:=z7Q v (show z≠0 by omega)
 have c1:=z7R v (show 0<z by omega)
 refine⟨λ⟨e1,e2⟩=>?_,λe1 e2=>?_⟩
 ·refine .inr ⟨?_,by omega⟩
  show plA y z a.1 v=_
  unfold plA
  rw[if_neg (by omega),if_neg (by omega),e1]
  omega
 ·refine .inl ⟨?_,rfl⟩
  have n:¬(r<v / z / y\/(r=v / z / y/\(a.1<v / z % y\/(a.1=v / z % y/\0<=v % z)))):=λw=>by
   have:=Y0.mpr w
   rw[e2] at this;cases this
  show plA y z a.1 v<=r * z
  unfold plA
  have up:∀{p q:Int},p<=q->p * z<=q * z:=λh=>z7Y h (by omega)
  split
  ·exact up (by omega)
  ·split
   ·exact up (by omega)
   ·rename_i q1 q2
    have:=up (show v / z / y+1<=r by omega)
    rw[z9s,z9t] at this
    omega
theorem z2j{h r cc j:Int}(z1:1<=z)(c0:0<=cc)(j0:0<=j)(cz:cc+j<z):(r * y+h) * z+(cc+j)=nmA y z h (r * z+cc+j):=by
 have e:r * z+cc+j=(cc+j)+r * z:=by omega
 unfold nmA
 rw[e,zap _ _ (by omega),zaq (by omega) cz,Int.add_mul_emod_self_right,Int.emod_eq_of_lt (by omega) cz]
 simp
theorem VE{ho:Str}{cell:Int}{a:Ls}{n:Option Int}(sz:Hz x y z)(zl:z<=1000)(ok:LsOk x y a)(hn:∀v,n=some v->0<=v/\v<x * y * z)
  (q0:K (.tup [.non,.lst []]) μ)
  (q1:∀r k cc,a.2.1<=r->r<a.2.2->1<=k->k<=1000->0<=cc->cc+k<=z->AtC y z a n none r cc->K (.tup [(Row.ask ho r k).t,.lst (((nmL y z a.1 (r * z+cc) k).map λv=>(ho,v)).map prT)]) μ) :
  wW [shp x y z,lsT (some a),wU y z n,.str ho,.int cell] μ K Z:=by
 obtain⟨x1,y1,y2,z1,z2⟩:=id sz
 obtain⟨h,f,u⟩:=a
 have h0:0<=h:=ok.h0
 have h1:h<y:=ok.h1
 have f0:0<=f:=ok.f0
 have fu:f<u:=ok.fu
 have ux:u<=x:=ok.ux
 have last:∀(r cc k:Int) (o:Option T),f<=r->r<u->1<=k->k<=1000->0<=cc->cc+k<=z->AtC y z (h,f,u) n none r cc->zQ (zE.drop 7) [some (shp x y z),some (lsT (some (h,f,u))),some (wU y z n),some (.str ho),some (.int cell),some (.int h),some (.int f),some (.int u),some (.int r),some (.int cc),some (.int k),o] μ (En.fn K Z):=by
  intro r cc k o r0 r1 k1 k2 c0 ck hc
  refine⟨⟨by omega,by omega⟩,?_⟩
  refine⟨by rw[wy];unfold room;omega,?_⟩
  have ev:rangeT k=(z8y k.toNat).map λ(j:Nat)=>T.int (j:Int):=rfl
  rw[ev]
  refine qM (λ(j:Nat)=>T.int (j:Int)) (λ(j:Nat)=>some (T.int (nmA y z h (r * z+cc+j)))) (λj hj kk hkk=>?_) ?_ trivial
  ·have hj:j<k.toNat:=z9J.mp hj
   refine⟨_,rfl,?_⟩
   refine jG sz (by omega) (by omega) h0 h1 (by omega) (by omega) ?_
   rw[z2j z1 c0 (by omega) (by omega)]
   exact hkk
  ·rw[z8w]
   have e2:((z8y k.toNat).map λ(j:Nat)=>T.int (nmA y z h (r * z+cc+j)))=(nmL y z h (r * z+cc) k).map T.int:=by unfold nmL;rw[z9g];rfl
   rw[e2]
   refine⟨by rw[z7B,jc];unfold room;omega,?_⟩
   refine qM (λv:Int=>T.int v) (λv=>some (prT (ho,v))) (λv _ kk hkk=>⟨_,rfl,hkk⟩) ?_ trivial
   rw[z8w]
   have:=q1 r k cc r0 r1 k1 k2 c0 ck hc
   rw[z9g] at this
   exact this
 have many:∀(r cc:Int) (ot:Option T),f<=r->r<u->0<=cc->(n=none->cc=0)->(∀v,n=some v->(v / z / y=r/\v / z % y=h/\cc=v % z+1)\/(¬(v / z / y=r/\v / z % y=h)/\cc=0))->zQ (zE.drop 5) [some (shp x y z),some (lsT (some (h,f,u))),some (wU y z n),some (.str ho),some (.int cell),some (.int h),some (.int f),some (.int u),some (.int r),some (.int cc),none,ot] μ (En.fn K Z):=by
  intro r cc ot r0 r1 c0 hno hso
  refine zB (by decide) λd1 d10=>?_
  refine zB (by decide) λd2 d20=>?_
  refine⟨by decide,?_⟩
  have n2:=z7Q d2 (show (3:Int)≠0 by decide)
  have l2:=z7R d2 (show (0:Int)<3 by decide)
  have ix:∃v:Int,0<v/\v<=1000/\w_ [T.int 1,T.int 3,T.int z] (d2 % 3)=some (.int v):=by
   have:d2 % 3=0\/d2 % 3=1\/d2 % 3=2:=by omega
   rcases this with e|e|e
   ·rw[e];exact⟨1,by decide,by decide,rfl⟩
   ·rw[e];exact⟨3,by decide,by decide,rfl⟩
   ·rw[e];exact⟨z,by omega,zl,rfl⟩
  obtain⟨v,v0,v1,hix⟩:=ix
  refine⟨_,hix,?_⟩
  refine⟨v0,?_⟩
  have nv:=z7Q d1 (show v≠0 by omega)
  have lv:=z7R d1 v0
  have fit:∀k:Int,1<=k->k<=1000->AtC y z (h,f,u) n none r cc->zQ (zE.drop 7) [some (shp x y z),some (lsT (some (h,f,u))),some (wU y z n),some (.str ho),some (.int cell),some (.int h),some (.int f),some (.int u),some (.int r),some (.int cc),some (.int k),ot] μ (En.fn K Z)\/z<cc+k:=λk k1 k2 hc=>by
   by_cases e:cc+k<=z
   ·exact .inl (last r cc k ot r0 r1 k1 k2 c0 e hc)
   ·exact .inr (by omega)
  have rest:∀k:Int,1<=k->k<=1000->zQ (zE.drop 6) [some (shp x y z),some (lsT (some (h,f,u))),some (wU y z n),some (.str ho),some (.int cell),some (.int h),some (.int f),some (.int u),some (.int r),some (.int cc),some (.int k),ot] μ (En.fn K Z):=by
   intro k k1 k2
   have too:AtC y z (h,f,u) n none r cc->brW (decide (z<cc+k)) (K (.tup [.non,.lst []]) μ) (zQ (zE.drop 7) [some (shp x y z),some (lsT (some (h,f,u))),some (wU y z n),some (.str ho),some (.int cell),some (.int h),some (.int f),some (.int u),some (.int r),some (.int cc),some (.int k),ot] μ (En.fn K Z)):=λhc=>
    zx (λ_=>q0) λe=>(fit k k1 k2 hc).resolve_right e
   cases n with
   |none=>
    have hc:AtC y z (h,f,u) none none r cc:=.inl ⟨by show (0:Int)<=r * z;exact z8P (by omega) (by omega),hno rfl⟩
    exact too hc
   |some v=>
    refine⟨_,_,rfl,rfl,?_⟩
    obtain⟨A1,A2⟩:=jH (a:=(h,f,u)) (r:=r) sz h0 h1 (hn v rfl).1
    refine qa (λe=>?_) (λe=>?_)
    ·exact q0
    ·refine too ?_
     rcases hso v rfl with⟨e1,e2,e3⟩|⟨e1,e3⟩
     ·rw[e3];exact A1 ⟨e1,e2⟩
     ·rw[e3] at e ⊢;exact A2 e1 e
  exact rest (1+d1 % v) (by omega) (by omega)
 have count:∀(r:Int) (o9 o10 o11:Option T),f<=r->r<u->o9=none->o10=none->zQ (zE.drop 3) [some (shp x y z),some (lsT (some (h,f,u))),some (wU y z n),some (.str ho),some (.int cell),some (.int h),some (.int f),some (.int u),some (.int r),o9,o10,o11] μ (En.fn K Z):=by
  intro r o9 o10 o11 r0 r1 e9 e10
  subst e9 e10
  cases n with
  |none=>exact many r 0 o11 r0 r1 (z8u _) (λ_=>rfl) λv e=>by cases e
  |some v=>
   have c0:=z7Q v (show z≠0 by omega)
   refine⟨by show (0:Nat)<=40;decide,_,z3P,?_⟩
   refine qa (λe=>?_) (λe=>?_)
   ·simp only[z7x,decide_eq_true_eq] at e
    refine⟨_,rfl,?_⟩
    exact many r (v % z+1) o11 r0 r1 (by omega) (λe=>by cases e) λv' e'=>by cases e';exact .inl ⟨e.1,e.2,rfl⟩
   ·have e:¬(v / z / y=r/\v / z % y=h):=λw=>by
     rw[decide_eq_true w.1,decide_eq_true w.2] at e;cases e
    exact many r 0 o11 r0 r1 (z8u _) (λe=>by cases e) λv' e'=>by cases e';exact .inr ⟨e,rfl⟩
 unfold wW
 refine⟨rfl,?_⟩
 refine⟨_,rfl,?_⟩
 refine zB (by decide) λd9 d90=>?_
 refine⟨by show 0<u-f;omega,?_⟩
 have n9:=z7Q d9 (show u-f≠0 by omega)
 have l9:=z7R d9 (show 0<u-f by omega)
 have read:∀r:Int,f<=r->r<u->zQ (zE.drop 2) [some (shp x y z),some (lsT (some (h,f,u))),some (wU y z n),some (.str ho),some (.int cell),some (.int h),some (.int f),some (.int u),some (.int r),none,none,none] μ (En.fn K Z):=by
  intro r r0 r1
  cases n with
  |none=>exact count r _ _ _ r0 r1 rfl rfl
  |some v=>
   refine⟨_,rfl,?_⟩
   refine zx (λe=>?_) (λe=>?_)
   ·refine zB (by decide) λd10 d100=>?_
    refine⟨by decide,?_⟩
    refine zx (λe2=>?_) (λe2=>?_)
    ·refine⟨_,rfl,?_⟩
     have e:v / z / y<u:=e
     exact count (if f<v / z / y then v / z / y else f) _ _ _ (by split<;>omega) (by split<;>omega) rfl rfl
    ·exact count r _ _ _ r0 r1 rfl rfl
   ·exact count r _ _ _ r0 r1 rfl rfl
 exact read (f+d9 % (u-f)) (by omega) (by omega)
end NH.P
end
section
namespace NH.P
open PySem L2 NH
variable {μ μ1 μ2:Mem}{K:T->Mem->Prop}{Z:Xp}{x y z:Int}{i c g d w L r0:Nat}{kvs:List (Key×T)}{s t:S7}{ps:List Gp}{rs:List Row}
theorem Sp7.glen{r:Row}(h:Sp7 x y z r s t):s.G.length<=t.G.length:=by
 cases r with
 |lease ho hs m n=>
  obtain⟨_,_,_,h,b,_,_,_,_,_,rfl⟩:=h
  simp
 |ask ho r k=>
  obtain⟨_,hh,c,_,_,_,_,_,_,_,rfl⟩:=h
  exact z7D _
theorem Run7.glen{t:S7}:∀{rs:List Row} {s:S7},Run7 x y z rs s t->s.G.length<=t.G.length
 |[],s,h=>by cases h;exact z7D _
 |r::rs,s,⟨u,h1,h2⟩=>z7V h1.glen (Run7.glen h2)
theorem Wk{rs:List Row}(hr:μ[r0]?=some (.lst (rs.map Row.t)))(hl:rs.length<=1000)(q:K (.bl true) μ):w5 [.mut r0] μ K Z:=by
 unfold w5
 refine⟨rfl,?_⟩
 refine⟨_,hr,?_⟩
 refine⟨_,hr,by rw[z7B];unfold room;omega,?_⟩
 refine qM Row.t (λ_=>some (.bl true)) (λr _ kk hkk=>⟨_,rfl,Jy hkk⟩) ?_ hr
 rw[z8w]
 refine⟨_,jf (λ_=>true) rs,?_⟩
 have q:K (.bl ((rs.map λ_=>true).all id)) μ:=by
  rw[show (rs.map λ_=>true).all id=true by simp];exact q
 exact q
end NH.P
end
section
namespace NH.P
open PySem L2 NH
variable {μ μ1 μ2:Mem}{K:T->Mem->Prop}{Z:Xp}{x y z:Int}{i c g dn dl wr wg:Nat}{kn kl:List (Key×T)}{s t:S7}{ps:List Gp}{rs:List Row}{o1 o2 o3 o9 o10 o11 o12 o13:Option T}
structure LM(μ:Mem)(c g dn dl wr wg:Nat)(x y z:Int)(rs:List Row)(s:S7)(ps:List Gp)(kn kl:List (Key×T)):Prop where
 B:Bk μ c g (shp x y z) ps
 eG:NH.P.er ps=s.G
 nn:μ[dn]?=some (.dic kn)
 nl:μ[dl]?=some (.dic kl)
 hn:∀ho,zb (.inr ho) kn=(s.hm ho).map λh=>lsT (some h.a)
 hl:∀ho,(zb (.inr ho) kl).getD .non=wU y z ((s.hm ho).bind Hs.n)
 r:μ[wr]?=some (.lst (rs.map Row.t))
 gv:μ[wg]?=some (.lst (s.td.map prT))
 d1:g≠wr
 d2:g≠wg
 d3:wr≠wg
 d4:dn≠dl
 tab:μ[0]?=some (.tab 0)
theorem zD{i j:Nat}{a b:MO}(h1:μ[i]?=some a)(h2:μ[j]?=some b)(h:a≠b):i≠j:=λe=>by
 rw[e,h2] at h1;cases h1;exact h rfl
noncomputable abbrev Km:List Ds:=[(sIf (tE (zi .IsNot (eV 11) (eC .non))) [(zF (WC (eV 7) (eV 11)))] [])]
noncomputable abbrev U4:List Ds:=[(ug [11,12] (z5 qT [(eV 4),(eV 10),(eV 1),(eV 2),(eV 9)])),(sIf (tE (zi .IsNot (eV 11) (eC .non))) [(k_ (eV 5) (eV 10) (eV 12))] [])]
noncomputable abbrev z6H:List Ds:=[(ug [11,13] (z5 wW [(eV 0),(eC2 KH (eV 5) (eV 10)),(WX (eV 6) (eV 10)),(eV 10),(eV 9)])),(zF (XM (eV 8) (eV 13))),(sIf (tE (zi .NotEq (eV 13) (jn []))) [(k_ (eV 6) (eV 10) (z5 qo [(eV 0),(eIx (eIx (eV 13) (z0O (eC (.int 1)))) (eC (.int 1)))]))] [])]
@[reducible] noncomputable def z5D:List Ds:=[(zk 10 (eIx (jn [(eC (.str "anna")),(eC (.str "b")),(eC (.str "bo")),(eC (.str "zzzzzzzz"))]) (z9 .Mod (z5 zw [(eV 9),(eC (.int 0))]) (eC (.int 4))))),(sIf (tOr (tE (eC2 xG (eV 10) (eV 5))) (tE (zi .Eq (z9 .Mod (z5 zw [(eV 9),(eC (.int 13))]) (eC (.int 4))) (eC (.int 0))))) U4 z6H)]++Km
theorem z6X{E:En}{r:Row}(M:LM μ c g dn dl wr wg x y z rs s ps kn kl)(rl:rs.length<=100)
  (q:∀μ',LM μ' c g dn dl wr wg x y z (rs++[r]) s ps kn kl->E.nx [some (shp x y z),o1,o2,o3,some (.mut c),some (.mut dn),some (.mut dl),some (.mut wr),some (.mut wg),o9,o10,some r.t,o12,o13] μ') :
  zQ Km [some (shp x y z),o1,o2,o3,some (.mut c),some (.mut dn),some (.mut dl),some (.mut wr),some (.mut wg),o9,o10,some r.t,o12,o13] μ E:=by
 have ch:Ch [wr] μ (μ.set wr (.lst (rs.map Row.t++[r.t]))):=Ch.set
 have nw:∀{j:Nat},j≠wr->j∉[wr]:=λh=>by simpa using h
 have M':LM (μ.set wr (.lst (rs.map Row.t++[r.t]))) c g dn dl wr wg x y z (rs++[r]) s ps kn kl:=by
  refine⟨M.B.ch ch (nw (zD M.B.com M.r (by simp))) (nw M.d1) λp hp=>nw (zD (M.B.at_ p hp) M.r (by simp[Gr.O])),M.eG,ch.get M.nn (nw (zD M.nn M.r (by simp))),ch.get M.nl (nw (zD M.nl M.r (by simp))),M.hn,M.hl,?_,ch.get M.gv (nw M.d3.symm),M.d1,M.d2,M.d3,M.d4,ch.get M.tab (nw (zD M.tab M.r (by simp)))⟩
  rw[get_set M.r,z86];rfl
 have rl':(rs.map Row.t).length<room:=by rw[z7B];unfold room;omega
 cases r with
 |lease=>exact⟨⟨_,M.r⟩,_,M.r,rl',q _ M'⟩
 |ask=>exact⟨⟨_,M.r⟩,_,M.r,rl',q _ M'⟩
theorem z4c{E:En}{ho:Str}{far many cell:Int}(M:LM μ c g dn dl wr wg x y z rs s ps kn kl)(hl:ps.length<64)(hk:kn.length<=100)(o:HoOk ho)(m1:1<=many)
  (q0:∀μ' o12,LM μ' c g dn dl wr wg x y z rs s ps kn kl->E.nx [some (shp x y z),some (.int far),some (.int many),o3,some (.mut c),some (.mut dn),some (.mut dl),some (.mut wr),some (.mut wg),some (.int cell),some (.str ho),some .non,o12,o13] μ')
  (q1:∀μ' r t ps' kn' o12,Sp7 x y z r s t->LM μ' c g dn dl wr wg x y z rs t ps' kn' kl->ps'.length<=ps.length+1->kn'.length<=kn.length+1->t.td.length<=s.td.length+1000->E.nx [some (shp x y z),some (.int far),some (.int many),o3,some (.mut c),some (.mut dn),some (.mut dl),some (.mut wr),some (.mut wg),some (.int cell),some (.str ho),some r.t,o12,o13] μ') :
  zQ U4 [some (shp x y z),some (.int far),some (.int many),o3,some (.mut c),some (.mut dn),some (.mut dl),some (.mut wr),some (.mut wg),some (.int cell),some (.str ho),o11,o12,o13] μ E:=by
 refine QV M.B M.tab hl o m1 (λμ1 ch=>?_) λhs m n h b μ1 a hh n1 h0 h1 b0 bx hL ch B1=>?_
 ·refine⟨_,rfl,?_⟩
  exact q0 _ _ ⟨M.B.ch ch (by simp) (by simp) (by simp),M.eG,ch.get M.nn (by simp),ch.get M.nl (by simp),M.hn,M.hl,ch.get M.r (by simp),ch.get M.gv (by simp),M.d1,M.d2,M.d3,M.d4,ch.get M.tab (by simp)⟩
 ·refine⟨_,rfl,?_⟩
  have nn1:=ch.get M.nn (by simpa using zD M.nn M.B.lst (by simp))
  refine⟨_,nn1,by unfold room;omega,?_⟩
  have hL':=hL.er
  rw[M.eG] at hL'
  have c2:Ch [g,dn] μ (μ1.set dn (.dic (vt (.inr ho) (lsT (some (h,b,b+n))) kn))):=(ch.mono (by simp)).trans (Ch.set.mono (by simp))
  have ng:∀{j:Nat},j≠g->j≠dn->j∉[g,dn]:=λh h'=>by simp;exact⟨h,h'⟩
  refine q1 _ (.lease ho hs m n) ⟨s.G++[(0,⟨ho,h,b,b+n,b+n,false⟩)],upH s.hm ho ⟨(h,b,b+n),(s.hm ho).bind Hs.n⟩,s.td⟩ _ _ _ ⟨o,hh,n1,h,b,h0,h1,b0,bx,hL',rfl⟩ ⟨B1.ch Ch.set ?_ ?_ ?_,by rw[W9,M.eG],get_set nn1,c2.get M.nl (ng (zD M.nl M.B.lst (by simp)) M.d4.symm),?_,?_,c2.get M.r (ng M.d1.symm (zD M.r M.nn (by simp))),c2.get M.gv (ng M.d2.symm (zD M.gv M.nn (by simp))),M.d1,M.d2,M.d3,M.d4,c2.get M.tab (ng (zD M.tab M.B.lst (by simp)) (zD M.tab M.nn (by simp)))⟩ (by simp) vO (by show s.td.length<=_;omega)
  ·simpa using zD B1.com nn1 (by simp)
  ·simpa using zD B1.lst nn1 (by simp)
  ·intro p hp;simpa using zD (B1.at_ p hp) nn1 (by simp[Gr.O])
  ·intro ho'
   rw[wc]
   show _=(if ho'=ho then _ else s.hm ho').map _
   by_cases e:ho'=ho
   ·rw[if_pos (by rw[e]),if_pos e];rfl
   ·rw[if_neg (by intro w;exact e (by injection w)),if_neg e];exact M.hn ho'
  ·intro ho'
   rw[M.hl]
   show _=wU y z ((if ho'=ho then _ else s.hm ho').bind _)
   by_cases e:ho'=ho
   ·rw[if_pos e,e];rfl
   ·rw[if_neg e]
theorem QT{h b k:Int}(k1:1<=k):nmL y z h b k=nmL y z h b (k-1)++[nmA y z h (b+k-1)]:=by
 have:=z0M (y:=y) (z:=z) (h:=h) (b:=b) (k1:=k-1) (k2:=1) (by omega) (by omega)
 rw[show k-1+1=k by omega] at this
 rw[this]
 congr 1
 show [nmA y z h (b+(k-1)+(0:Nat))]=_
 rw[show b+(k-1)+((0:Nat):Int)=b+k-1 by omega]
theorem z41{α:Type}{f:α->T}(h:∀a,vU (f a)<=1):∀l:List α,qH (l.map f)<=40
 |[]=>by show (0:Nat)<=40;decide
 |a::r=>by
  show max (vU (f a)) (qH (r.map f))<=40
  have:=h a
  have:=z41 h r
  omega
theorem UN{α:Type}{xs:List α}{x:α}:w_ (xs++[x]) (-1)=some x:=by
 unfold w_ Xq
 rw[if_neg (by decide),if_pos (by simp;omega)]
 have:((-1:Int)+((xs++[x]).length:Int)).toNat=xs.length:=by simp;omega
 rw[this]
 simp
theorem z6_{E:En}{ho:Str}{cell:Int}{hh:Hs}(sz:Hz x y z)(zl:z<=1000)(wf:WF x y z s)(M:LM μ c g dn dl wr wg x y z rs s ps kn kl)(hk:kl.length<=100)(tl:s.td.length<=100000)(o:HoOk ho)(e0:s.hm ho=some hh)
  (q0:∀μ' o13,LM μ' c g dn dl wr wg x y z rs s ps kn kl->E.nx [some (shp x y z),o1,o2,o3,some (.mut c),some (.mut dn),some (.mut dl),some (.mut wr),some (.mut wg),some (.int cell),some (.str ho),some .non,o12,o13] μ')
  (q1:∀μ' r t kl' o13,Sp7 x y z r s t->LM μ' c g dn dl wr wg x y z rs t ps kn kl'->kl'.length<=kl.length+1->t.td.length<=s.td.length+1000->E.nx [some (shp x y z),o1,o2,o3,some (.mut c),some (.mut dn),some (.mut dl),some (.mut wr),some (.mut wg),some (.int cell),some (.str ho),some r.t,o12,o13] μ') :
  zQ z6H [some (shp x y z),o1,o2,o3,some (.mut c),some (.mut dn),some (.mut dl),some (.mut wr),some (.mut wg),some (.int cell),some (.str ho),o11,o12,o13] μ E:=by
 have lk:=M.hn ho
 rw[e0] at lk
 have ll:=M.hl ho
 rw[e0] at ll
 have ll:(zb (.inr ho) kl).getD .non=wU y z hh.n:=ll
 refine⟨_,_,M.nn,lk,?_⟩
 refine⟨⟨_,M.nl⟩,?_⟩
 refine⟨_,M.nl,?_⟩
 rw[ll]
 have ng:∀{j:Nat},j≠wg->j∉[wg]:=λh=>by simpa using h
 refine VE sz zl (wf.ls _ _ e0) (λv e=>wf.nm _ _ _ e0 e) ?_ λr k cc r0 r1 k1 k2 c0 ck at_=>?_
 ·refine⟨_,rfl,?_⟩
  refine⟨⟨_,M.gv⟩,?_⟩
  refine⟨_,_,M.gv,.inl rfl,by simp;unfold room;omega,?_⟩
  refine⟨by decide,_,rfl,?_⟩
  have ch:Ch [wg] μ (μ.set wg (.lst (s.td.map prT++[]))):=Ch.set
  refine q0 _ _ ⟨M.B.ch ch (ng (zD M.B.com M.gv (by simp))) (ng M.d2) λp hp=>ng (zD (M.B.at_ p hp) M.gv (by simp[Gr.O])),M.eG,ch.get M.nn (ng (zD M.nn M.gv (by simp))),ch.get M.nl (ng (zD M.nl M.gv (by simp))),M.hn,M.hl,ch.get M.r (ng M.d3),?_,M.d1,M.d2,M.d3,M.d4,ch.get M.tab (ng (zD M.tab M.gv (by simp)))⟩
  rw[get_set M.gv,z8o]
 ·have sp:Sp7 x y z (.ask ho r k) s ⟨s.G,upH s.hm ho ⟨hh.a,some (nmA y z hh.a.1 (r * z+cc+k-1))⟩,s.td++(nmL y z hh.a.1 (r * z+cc) k).map λv=>(ho,v)⟩:=⟨o,hh,cc,e0,r0,r1,k1,k2,ck,at_,rfl⟩
  have vb:=(sp.wf sz wf).nm ho _ _ (by show (if ho=ho then _ else _)=_;rw[if_pos rfl]) rfl
  refine⟨_,rfl,?_⟩
  refine⟨⟨_,M.gv⟩,?_⟩
  refine⟨_,_,M.gv,.inl rfl,by simp only[z7B,jc];unfold room;omega,?_⟩
  refine⟨?_,_,K6,?_⟩
  ·exact z41 (λp=>by show (0:Nat)+1<=1;decide) _
  have ne:(((nmL y z hh.a.1 (r * z+cc) k).map λv=>(ho,v)).map prT).isEmpty=false:=by
   rw[QT k1,z86,z86];simp
  rw[ne]
  have ixl:w_ (((nmL y z hh.a.1 (r * z+cc) k).map λv=>(ho,v)).map prT) (-1)=some (prT (ho,nmA y z hh.a.1 (r * z+cc+k-1))):=by
   rw[QT k1,z86,z86];exact UN
  refine⟨_,ixl,?_⟩
  refine⟨_,rfl,?_⟩
  refine qw sz vb.1 vb.2 ?_
  have c1:Ch [wg] μ (μ.set wg (.lst (s.td.map prT++((nmL y z hh.a.1 (r * z+cc) k).map λv=>(ho,v)).map prT))):=Ch.set
  have nl1:=c1.get M.nl (ng (zD M.nl M.gv (by simp)))
  refine⟨_,nl1,by unfold room;omega,?_⟩
  have c2:Ch [wg,dl] μ ((μ.set wg (.lst (s.td.map prT++((nmL y z hh.a.1 (r * z+cc) k).map λv=>(ho,v)).map prT))).set dl (.dic (vt (.inr ho) (ptT y z (nmA y z hh.a.1 (r * z+cc+k-1))) kl))):=(c1.mono (by simp)).trans (Ch.set.mono (by simp))
  have ng2:∀{j:Nat},j≠wg->j≠dl->j∉[wg,dl]:=λh h'=>by simp;exact⟨h,h'⟩
  refine q1 _ (.ask ho r k) _ _ _ sp ⟨M.B.ch c2 (ng2 (zD M.B.com M.gv (by simp)) (zD M.B.com M.nl (by simp))) (ng2 M.d2 (zD M.B.lst M.nl (by simp))) λp hp=>ng2 (zD (M.B.at_ p hp) M.gv (by simp[Gr.O])) (zD (M.B.at_ p hp) M.nl (by simp[Gr.O])),M.eG,c2.get M.nn (ng2 (zD M.nn M.gv (by simp)) M.d4),get_set nl1,?_,?_,c2.get M.r (ng2 M.d3 (zD M.r M.nl (by simp))),?_,M.d1,M.d2,M.d3,M.d4,c2.get M.tab (ng2 (zD M.tab M.gv (by simp)) (zD M.tab M.nl (by simp)))⟩ vO ?_
  ·intro ho'
   rw[M.hn]
   show _=(if ho'=ho then _ else s.hm ho').map _
   by_cases e:ho'=ho
   ·rw[if_pos e,e,e0];rfl
   ·rw[if_neg e]
  ·intro ho'
   rw[wc]
   show _=wU y z ((if ho'=ho then _ else s.hm ho').bind _)
   by_cases e:ho'=ho
   ·rw[if_pos (by rw[e]),if_pos e];rfl
   ·rw[if_neg (by intro w;exact e (by injection w)),if_neg e];exact M.hl ho'
  ·rw[z81 (zD M.nl M.gv (by simp)),get_set M.gv,z86]
  ·show (s.td++_).length<=_
   rw[z8b,z7B,jc];omega
end NH.P
end
section
namespace NH.P
open PySem L2 NH
variable {μ μ1 μ2:Mem}{K:T->Mem->Prop}{Z:Xp}{x y z:Int}{i c g dn dl wr wg:Nat}{kn kl:List (Key×T)}{s t:S7}{ps:List Gp}{rs:List Row}{o1 o2 o3 o9 o10 o11 o12 o13:Option T}
theorem z6G{E:En}{far many cell:Int}(sz:Hz x y z)(zl:z<=1000)(m1:1<=many)(M:LM μ c g dn dl wr wg x y z rs s ps kn kl)(run:Run7 x y z rs s70 s)(wf:WF x y z s)(hl:ps.length<64)(hk:kn.length<=100)(hk2:kl.length<=100)(tl:s.td.length<=100000)(rl:rs.length<=100)
  (q:∀μ' rs' s' ps' kn' kl' o10 o11 o12 o13,LM μ' c g dn dl wr wg x y z rs' s' ps' kn' kl'->Run7 x y z rs' s70 s'->WF x y z s'->ps'.length<=ps.length+1->kn'.length<=kn.length+1->kl'.length<=kl.length+1->s'.td.length<=s.td.length+1000->rs'.length<=rs.length+1->E.nx [some (shp x y z),some (.int far),some (.int many),o3,some (.mut c),some (.mut dn),some (.mut dl),some (.mut wr),some (.mut wg),some (.int cell),o10,o11,o12,o13] μ') :
  zQ z5D [some (shp x y z),some (.int far),some (.int many),o3,some (.mut c),some (.mut dn),some (.mut dl),some (.mut wr),some (.mut wg),some (.int cell),o10,o11,o12,o13] μ E:=by
 refine zB (by decide) λd0 d00=>?_
 refine⟨by decide,?_⟩
 have n0:=z7Q d0 (show (4:Int)≠0 by decide)
 have l0:=z7R d0 (show (0:Int)<4 by decide)
 have ix:∃ho,HoOk ho/\w_ [T.str "anna",.str "b",.str "bo",.str "zzzzzzzz"] (d0 % 4)=some (.str ho):=by
  have:d0 % 4=0\/d0 % 4=1\/d0 % 4=2\/d0 % 4=3:=by omega
  rcases this with e|e|e|e<;>rw[e]
  ·exact⟨_,⟨by decide,by decide +kernel⟩,rfl⟩
  ·exact⟨_,⟨by decide,by decide +kernel⟩,rfl⟩
  ·exact⟨_,⟨by decide,by decide +kernel⟩,rfl⟩
  ·exact⟨_,⟨by decide,by decide +kernel⟩,rfl⟩
 obtain⟨ho,o,hix⟩:=ix
 refine⟨_,hix,?_⟩
 refine⟨_,M.nn,?_⟩
 have no:∀{μ' o10 o11 o12 o13},LM μ' c g dn dl wr wg x y z rs s ps kn kl->E.nx [some (shp x y z),some (.int far),some (.int many),o3,some (.mut c),some (.mut dn),some (.mut dl),some (.mut wr),some (.mut wg),some (.int cell),o10,o11,o12,o13] μ':=λ{μ' o10 o11 o12 o13} M'=>q μ' rs s ps kn kl _ _ _ _ M' run wf (by omega) (by omega) (by omega) (by omega) (by omega)
 have yes:∀{μ' r t ps' kn' kl' o10 o12 o13},Sp7 x y z r s t->LM μ' c g dn dl wr wg x y z rs t ps' kn' kl'->ps'.length<=ps.length+1->kn'.length<=kn.length+1->kl'.length<=kl.length+1->t.td.length<=s.td.length+1000->zQ Km [some (shp x y z),some (.int far),some (.int many),o3,some (.mut c),some (.mut dn),some (.mut dl),some (.mut wr),some (.mut wg),some (.int cell),o10,some r.t,o12,o13] μ' E:=λ{μ' r t ps' kn' kl' o10 o12 o13} sp M' h1 h2 h3 h4=>
  z6X M' rl λμ2 M2=>q μ2 _ t ps' kn' kl' _ _ _ _ M2 (run.snoc sp) (sp.wf sz wf) h1 h2 h3 h4 (by simp)
 have lease:=λ(E':En) (h:E'.nx=λτ μ=>zQ Km τ μ E)=>z4c (E:=E') (o3:=o3) (o11:=o11) (o12:=o12) (o13:=o13) (far:=far) (many:=many) (cell:=cell) M hl hk o m1 (λμ' p12 M'=>by rw[h];exact no M') (λμ' r t ps' kn' p12 sp M' h1 h2 h3=>by rw[h];exact yes sp M' h1 h2 (by omega) h3)
 cases e0:s.hm ho with
 |none=>
  have:zb (.inr ho) kn=none:=by rw[M.hn,e0];rfl
  refine z5H (by rw[this];rfl) ?_
  exact lease _ rfl
 |some hh=>
  have:zb (.inr ho) kn=some (lsT (some hh.a)):=by rw[M.hn,e0];rfl
  refine z33 (by rw[this];rfl) ?_
  refine zB (by decide) λd1 d10=>?_
  refine⟨by decide,?_⟩
  refine zx (λe=>?_) (λe=>?_)
  ·exact lease _ rfl
  ·exact z6_ sz zl wf M hk2 tl o e0 (λμ' p13 M'=>no M') λμ' r t kl' p13 sp M' h1 h2=>yes sp M' (by omega) (by omega) h1 h2
theorem UH{far many:Int}{cs:List Int}(sz:Hz x y z)(zl:z<=1000)(m1:1<=many)(tab:μ[0]?=some (.tab 0))(hl:cs.length<=40)
  (q:∀μ' wr wg rs s,μ'[wr]?=some (.lst (rs.map Row.t))->μ'[wg]?=some (.lst (s.td.map prT))->μ'[0]?=some (.tab 0)->rs.length<=40->s.td.length<=40000->Run7 x y z rs s70 s->K (.tup [.mut wr,.mut wg]) μ') :
  Qe [shp x y z,.int far,.int many,.lst (cs.map T.int)] μ K Z:=by
 unfold Qe
 refine⟨rfl,?_⟩
 refine vX ?_
 refine⟨rfl,?_⟩
 generalize hμ:μ++[MO.obj 43 [(9,shp x y z),(10,.mut (μ.length+1))],.lst []]=μ1
 have l1:μ1.length=μ.length+2:=by rw[←hμ];simp
 have ch1:Ch [] μ μ1:=by
  rw[←hμ]
  exact⟨by simp,λj hj _=>z7F hj⟩
 have g1:μ1[μ.length]?=some (MO.obj 43 [(9,shp x y z),(10,.mut (μ.length+1))]):=by
  rw[←hμ,z7L (z7D _)];simp
 have g2:μ1[μ.length+1]?=some (MO.lst []):=by
  rw[←hμ,z7L (by omega)];simp
 have M0:LM (μ1++[MO.dic []]++[MO.dic []]++[MO.lst []]++[MO.lst []]) μ.length (μ.length+1) μ1.length (μ1++[MO.dic []]).length (μ1++[MO.dic []]++[MO.dic []]).length (μ1++[MO.dic []]++[MO.dic []]++[MO.lst []]).length x y z [] s70 [] [] []:=by
  refine⟨⟨zd (zd (zd (zd g1))),zd (zd (zd (zd g2))),by simp,by simp⟩,rfl,zd (zd (zd zu)),zd (zd zu),λ_=>rfl,λ_=>rfl,zd zu,zu,(by simp;omega),(by simp;omega),(by simp),(by simp),zd (zd (zd (zd (ch1.get tab (by simp)))))⟩
 refine zU (λj τ μ'=>∃(rs:List Row) (s:S7) (ps:List Gp) (kn kl:List (Key×T)) (o9 o10 o11 o12 o13:Option T),τ=[some (shp x y z),some (.int far),some (.int many),some (.lst (cs.map T.int)),some (.mut μ.length),some (.mut μ1.length),some (.mut (μ1++[MO.dic []]).length),some (.mut (μ1++[MO.dic []]++[MO.dic []]).length),some (.mut (μ1++[MO.dic []]++[MO.dic []]++[MO.lst []]).length),o9,o10,o11,o12,o13]/\LM μ' μ.length (μ.length+1) μ1.length (μ1++[MO.dic []]).length (μ1++[MO.dic []]++[MO.dic []]).length (μ1++[MO.dic []]++[MO.dic []]++[MO.lst []]).length x y z rs s ps kn kl/\Run7 x y z rs s70 s/\WF x y z s/\ps.length<=j/\kn.length<=j/\kl.length<=j/\s.td.length<=1000 * j/\rs.length<=j)
  ⟨[],s70,[],[],[],_,_,_,_,_,rfl,M0,rfl,⟨λho hh e=>(by simp[s70] at e),λho hh v e=>(by simp[s70] at e)⟩,by simp,by simp,by simp,(by simp[s70]),by simp⟩ ?_ ?_
 ·rintro j u τ μ' hx ⟨rs,s,ps,kn,kl,o9,o10,o11,o12,o13,rfl,M,run,wf,h1,h2,h3,h4,h5⟩ N hN
  rw[z83] at hx
  obtain⟨v,hv,rfl⟩:=z8Z.mp hx
  obtain⟨hj,er⟩:=z7v.mp hv
  refine⟨_,rfl,?_⟩
  exact z6G sz zl m1 M run wf (by omega) (by omega) (by omega) (by omega) (by omega) λμ2 rs' s' ps' kn' kl' p10 p11 p12 p13 M2 r2 w2 e1 e2 e3 e4 e5=>hN _ _ ⟨rs',s',ps',kn',kl',_,_,_,_,_,rfl,M2,r2,w2,by omega,by omega,by omega,by omega,by omega⟩
 ·rintro τ μ' ⟨rs,s,ps,kn,kl,o9,o10,o11,o12,o13,rfl,M,run,wf,h1,h2,h3,h4,h5⟩
  rw[z7B] at h4 h5
  exact q μ' _ _ rs s M.r M.gv M.tab (by omega) (by omega) run
theorem QU{cell:Int}(q:∀x y z far many:Int,Hz x y z->z<=20->x * z<WV->1<=many->K (.tup [shp x y z,.int far,.int many]) μ):wI [.int cell] μ K Z:=by
 unfold wI
 refine⟨rfl,?_⟩
 refine V8 (by decide) (by decide) ?_
 refine⟨by decide,?_⟩
 refine V8 (by decide) (by decide) ?_
 refine xn (by decide) ?_
 refine⟨by decide,?_⟩
 have p:∃v:Int,w_ [T.int 0,.int (z3V cell 40 1000),.int (z3V cell 50 (10 ^ Int.toNat 36))] (vQ cell 39 % 3)=some (.int v)/\0<=v/\v<1000000000000000000000000000000000000:=by
  have:vQ cell 39 % 3=0\/vQ cell 39 % 3=1\/vQ cell 39 % 3=2:=by omega
  rcases this with e|e|e<;>rw[e]
  ·exact⟨_,rfl,by decide,by decide⟩
  ·refine⟨_,rfl,z7Q _ (by decide),Int.lt_trans (z7R _ (by decide)) (by decide)⟩
  ·exact⟨_,rfl,z7Q _ (by decide),z7R _ (by decide)⟩
 obtain⟨far,ev,f0,f1⟩:=p
 refine⟨_,ev,?_⟩
 refine zB (by decide) λd1 d10=>?_
 refine⟨by decide,?_⟩
 refine zB (by decide) λd2 d20=>?_
 refine⟨by decide,?_⟩
 refine zB (by decide) λd3 d30=>?_
 refine⟨by decide,?_⟩
 have n1:=z7Q d1 (show (20:Int)≠0 by decide)
 have n2:=z7Q d2 (show (4:Int)≠0 by decide)
 have n3:=z7Q d3 (show (20:Int)≠0 by decide)
 have m1:=z7R d1 (show (0:Int)<20 by decide)
 have m2:=z7R d2 (show (0:Int)<4 by decide)
 have m3:=z7R d3 (show (0:Int)<20 by decide)
 refine⟨rfl,?_⟩
 refine Zf (by omega) (by omega) (by omega) ?_
 refine⟨rfl,_,rfl,rfl,?_⟩
 refine q _ _ _ _ _ ⟨by omega,by omega,by omega,by omega,by omega⟩ (by omega) ?_ (by omega)
 have:(far+(1+d1 % 20)) * (1+d3 % 20)<=(far+(1+d1 % 20)) * 20:=Int.mul_le_mul_of_nonneg_left (by omega) (by omega)
 unfold WV
 omega
theorem Kz{α β:Type}(f:α->β)(xs:List α)(lo hi:Option Int):jj (xs.map f) lo hi=(jj xs lo hi).map f:=by
 unfold jj
 rw[zcn,zen,z7B]
theorem z10{α:Type}{xs:List α}{v:Int}(h0:0<=v):jj xs none (some v)=xs.take v.toNat:=by
 unfold jj KZ
 simp only[List.drop_zero,Nat.sub_zero]
 rw[if_neg (by omega)]
 by_cases h:v.toNat<=xs.length
 ·rw[Nat.min_eq_left h]
 ·rw[Nat.min_eq_right (by omega),z8q (z7D _),z8q (by omega)]
theorem z2y(l:List (Str×Int)):qH (l.map prT)<=40:=z41 (λp=>by show (0:Nat)+1<=1;decide) l
theorem z1j{xs:List T}{cs:List Int}{far many:Int}(hx:xs=cs.map T.int)(h:Qe [shp x y z,.int far,.int many,.lst (cs.map T.int)] μ K Z):Qe [shp x y z,.int far,.int many,.lst xs] μ K Z:=by rw[hx];exact h
end NH.P
end
section
namespace NH.P
open PySem L2 NH
variable {μ μ1 μ2:Mem}{K:T->Mem->Prop}{Z:Xp}{x y z:Int}{s t:S7}{rs:List Row}{dn:List (Str×Int)}{la:Str->Option Int}{ho:Str}{v:Int}
noncomputable def qy(y z:Int)(a b:Str×Int):Bool:=if a.1=b.1 then decide (a.2<b.2) else !(decide (a.2 / z / y=b.2 / z / y)&&decide (a.2 / z % y=b.2 / z % y))
structure Pa7(x y z v:Int):Prop where
 m0:0<=v / z / y
 m1:v / z / y<x
 h0:0<=v / z % y
 h1:v / z % y<y
 c0:0<=v % z
 c1:v % z<z
 e:nmA y z (v / z % y) (v / z / y * z+v % z)=v
theorem Yu(sz:Hz x y z)(v0:0<=v)(v1:v<x * y * z):Pa7 x y z v:=by
 obtain⟨x1,y1,y2,z1,z2⟩:=sz
 have a:v / z<x * y:=zav (by omega) v1
 have b:v / z / y<x:=zav (by omega) a
 have a0:0<=v / z:=za9 v0 (by omega)
 have c0:=z7Q v (show z≠0 by omega)
 have c1:=z7R v (show 0<z by omega)
 refine⟨za9 a0 (by omega),b,z7Q _ (by omega),z7R _ (by omega),c0,c1,?_⟩
 have:=z2j (y:=y) (h:=v / z % y) (r:=v / z / y) (cc:=0) (j:=v % z) z1 (z8u _) c0 (by omega)
 rw[Int.add_zero,Int.zero_add] at this
 rw[←this,zbZ,zbZ]
theorem vf{a b:Int}(z1:1<=z)(y1:1<=y)(h:a<b):a / z / y<b / z / y\/(a / z / y=b / z / y/\(a / z % y<b / z % y\/(a / z % y=b / z % y/\a % z<b % z))):=by
 have q:a / z<=b / z:=zdc (by omega) (by omega)
 have q2:a / z / y<=b / z / y:=zdc (by omega) q
 have e1:=z8m a z
 have e2:=z8m b z
 have e3:=z8m (a / z) y
 have e4:=z8m (b / z) y
 by_cases w:a / z / y=b / z / y
 ·right
  refine⟨w,?_⟩
  rw[w] at e3
  by_cases w2:a / z % y=b / z % y
  ·right
   have:a / z=b / z:=by omega
   rw[this] at e1
   exact⟨w2,by omega⟩
  ·left;omega
 ·left;omega
structure RO(x y z:Int)(dn:List (Str×Int))(la:Str->Option Int)(rs:List Row)(s:S7):Prop where
 run:Run7 x y z rs s70 s
 l2:∀e∈dn,∃v,la e.1=some v/\e.2<=v
 l3:∀ho v,la ho=some v->(ho,v)∈dn
 hm:∀ho,s.hm ho=(la ho).map λv=>⟨(v / z % y,v / z / y,v / z / y+1),some v⟩
 G:∀p∈s.G,∃e∈dn,p.2.h=e.2 / z % y/\p.2.f=e.2 / z / y/\p.2.u=e.2 / z / y+1
 td:dn.Sublist s.td
 gl:s.G.length<=dn.length
 rl:rs.length<=2 * dn.length
noncomputable def upA(la:Str->Option Int)(ho:Str)(v:Int):Str->Option Int:=λa=>if a=ho then some v else la a
theorem Wn{n:Option Int}{cc k:Int}(zl:z<=1000)(P:Pa7 x y z v)(o:HoOk ho)(e0:s.hm ho=some ⟨(v / z % y,v / z / y,v / z / y+1),n⟩)(k1:1<=k)(c0:0<=cc)(ck:cc+k=v % z+1)(at_:AtC y z (v / z % y,v / z / y,v / z / y+1) n none (v / z / y) cc) :
  ∃s',Sp7 x y z (.ask ho (v / z / y) k) s s'/\s'.G=s.G/\s'.hm=upH s.hm ho ⟨(v / z % y,v / z / y,v / z / y+1),some v⟩/\∃sg,s'.td=s.td++(sg++[(ho,v)]):=by
 have c1:=P.c1
 have ev:nmA y z (v / z % y) (v / z / y * z+cc+k-1)=v:=by
  rw[show v / z / y * z+cc+k-1=v / z / y * z+v % z by omega];exact P.e
 refine⟨_,⟨o,_,cc,e0,z8u _,by show v / z / y<v / z / y+1;omega,k1,by omega,by omega,at_,rfl⟩,rfl,?_,?_⟩
 ·show upH s.hm ho ⟨(v / z % y,v / z / y,v / z / y+1),some (nmA y z (v / z % y) (v / z / y * z+cc+k-1))⟩=_
  rw[ev]
 ·refine⟨(nmL y z (v / z % y) (v / z / y * z+cc) (k-1)).map λv=>(ho,v),?_⟩
  show s.td++(nmL y z (v / z % y) (v / z / y * z+cc) k).map (λv=>(ho,v))=_
  rw[QT k1,z86,ev];rfl
theorem RO.upd{rs':List Row}{s':S7}{sg:List (Str×Int)}(R:RO x y z dn la rs s)(T:∀e∈dn,qy y z e (ho,v)=true)(run:Run7 x y z rs' s70 s')(rl:rs'.length<=rs.length+2)(hm:s'.hm=upH s.hm ho ⟨(v / z % y,v / z / y,v / z / y+1),some v⟩)(td:s'.td=s.td++(sg++[(ho,v)]))
  (gl:s'.G.length<=s.G.length+1) (G:∀p∈s'.G,p∈s.G\/(p.2.h=v / z % y/\p.2.f=v / z / y/\p.2.u=v / z / y+1)):RO x y z (dn++[(ho,v)]) (upA la ho v) rs' s':=by
 refine⟨run,λe he=>?_,λho' v' e=>?_,λho'=>?_,λp hp=>?_,?_,?_,?_⟩
 ·rcases z7H.mp he with he|he
  ·by_cases q:e.1=ho
   ·refine⟨v,by unfold upA;rw[if_pos q],?_⟩
    have:=T e he
    unfold qy at this
    rw[if_pos q] at this
    have:=of_decide_eq_true this
    exact zez this
   ·obtain⟨w,h1,h2⟩:=R.l2 e he
    exact⟨w,by unfold upA;rw[if_neg q];exact h1,h2⟩
  ·rw[z7C.mp he]
   exact⟨v,by unfold upA;rw[if_pos rfl],z8u _⟩
 ·unfold upA at e
  by_cases q:ho'=ho
  ·rw[if_pos q] at e;cases e;rw[q];simp
  ·rw[if_neg q] at e;exact z7S _ (R.l3 _ _ e)
 ·rw[hm]
  unfold upH upA
  by_cases q:ho'=ho
  ·rw[if_pos q,if_pos q];rfl
  ·rw[if_neg q,if_neg q];exact R.hm ho'
 ·rcases G p hp with w|w
  ·obtain⟨e,he,w⟩:=R.G p w
   exact⟨e,z7S _ he,w⟩
  ·exact⟨(ho,v),by simp,w⟩
 ·rw[td]
  exact zch R.td (List.sublist_append_right _ _)
 ·have:=R.gl;simp;omega
 ·have:=R.rl;simp;omega
theorem z1w{v':Int}(sz:Hz x y z)(zl:z<=1000)(R:RO x y z dn la rs s)(o:HoOk ho)(v0:0<=v)(v1:v<x * y * z)(T:∀e∈dn,qy y z e (ho,v)=true)(nn:∀e∈dn,0<=e.2)(e:la ho=some v')(e1:v' / z / y=v / z / y)(e2:v' / z % y=v / z % y) :
  ∃s',RO x y z (dn++[(ho,v)]) (upA la ho v) (rs++[.ask ho (v / z / y) (v % z+1-(v' % z+1))]) s':=by
 have P:=Yu sz v0 v1
 have z1:=sz.z1
 have lt:v'<v:=by
  have:=T _ (R.l3 _ _ e)
  unfold qy at this
  rw[if_pos rfl] at this
  exact of_decide_eq_true this
 have lp:=vf (y:=y) (z:=z) z1 sz.y1 lt
 have v'0:0<=v':=nn _ (R.l3 _ _ e)
 have c':=z7Q v' (show z≠0 by omega)
 have e0:s.hm ho=some ⟨(v / z % y,v / z / y,v / z / y+1),some v'⟩:=by
  rw[R.hm,e,←e1,←e2];rfl
 have at_:=(jH (x:=x) (a:=(v / z % y,v / z / y,v / z / y+1)) (r:=v / z / y) sz P.h0 P.h1 v'0).1 ⟨e1,e2⟩
 obtain⟨s',sp,h1,h2,sg,h3⟩:=Wn (k:=v % z+1-(v' % z+1)) zl P o e0 (by omega) (by omega) (by omega) at_
 exact⟨s',R.upd T (R.run.snoc sp) (by simp) h2 h3 (by rw[h1];omega) λp hp=>.inl (by rw[←h1];exact hp)⟩
theorem z4u(sz:Hz x y z)(zl:z<=1000)(R:RO x y z dn la rs s)(o:HoOk ho)(v0:0<=v)(v1:v<x * y * z)(T:∀e∈dn,qy y z e (ho,v)=true)(nn:∀e∈dn,0<=e.2)(no:∀v',la ho=some v'->¬(v' / z / y=v / z / y/\v' / z % y=v / z % y)) :
  ∃s',RO x y z (dn++[(ho,v)]) (upA la ho v) (rs++[.lease ho (some (v / z % y)) (v / z / y) 1]++[.ask ho (v / z / y) (v % z+1)]) s':=by
 have P:=Yu sz v0 v1
 have z1:=sz.z1
 have m0:=P.m0
 have lt:∀{w},(ho,w)∈dn->w<v:=λ{w} h=>by
  have:=T _ h
  unfold qy at this
  rw[if_pos rfl] at this
  exact of_decide_eq_true this
 have free:∀p∈s.G,p.2.h=v / z % y->mt p.2 (v / z / y) (v / z / y+1)=false:=by
  intro p hp hh
  obtain⟨e,he,g1,g2,g3⟩:=R.G p hp
  have ne:e.2 / z / y≠v / z / y:=λw=>by
   by_cases q:e.1=ho
   ·obtain⟨v',h1,h2⟩:=R.l2 e he
    rw[q] at h1
    have l1:=lt (R.l3 _ _ h1)
    have n:=no v' h1
    have a1:=vf (y:=y) (z:=z) z1 sz.y1 l1
    rcases Int.lt_or_eq_of_le h2 with h2|h2
    ·have a2:=vf (y:=y) (z:=z) z1 sz.y1 h2
     omega
    ·rw[h2] at w g1;exact n ⟨w,g1▸hh⟩
   ·have:=T _ he
    unfold qy at this
    rw[if_neg q,decide_eq_true w,decide_eq_true (g1▸hh:e.2 / z % y=v / z % y)] at this
    cases this
  unfold mt
  rw[g2,g3]
  apply decide_eq_false
  split<;>split<;>omega
 have sp1:Sp7 x y z (.lease ho (some (v / z % y)) (v / z / y) 1) s ⟨s.G++[(0,⟨ho,v / z % y,v / z / y,v / z / y+1,v / z / y+1,false⟩)],upH s.hm ho ⟨(v / z % y,v / z / y,v / z / y+1),(s.hm ho).bind Hs.n⟩,s.td⟩:=by
  refine⟨o,λh e=>(by cases e;exact⟨P.h0,P.h1⟩),z8u _,v / z % y,v / z / y,P.h0,P.h1,P.m0,P.m1,?_,rfl⟩
  rw[if_neg (by omega)]
  exact .inr ⟨rfl,z8u _,free,λb' h1 h2=>by omega⟩
 have at_:AtC y z (v / z % y,v / z / y,v / z / y+1) ((s.hm ho).bind Hs.n) none (v / z / y) 0:=by
  rw[R.hm]
  cases e:la ho with
  |none=>exact .inl ⟨z8P m0 (by omega),rfl⟩
  |some v'=>
   have l1:=lt (R.l3 _ _ e)
   have a1:=vf (y:=y) (z:=z) z1 sz.y1 l1
   have n:=no v' e
   refine (jH (x:=x) (a:=(v / z % y,v / z / y,v / z / y+1)) (r:=v / z / y) sz P.h0 P.h1 (nn _ (R.l3 _ _ e))).2 n ?_
   cases q:lexLe [v / z / y,v / z % y,0] [v' / z / y,v' / z % y,v' % z] with
   |false=>rfl
   |true=>exfalso;have:=Y0.mp q;have:=z7Q v' (show z≠0 by omega);omega
 obtain⟨s',sp,h1,h2,sg,h3⟩:=Wn (s:=⟨s.G++[(0,⟨ho,v / z % y,v / z / y,v / z / y+1,v / z / y+1,false⟩)],upH s.hm ho ⟨(v / z % y,v / z / y,v / z / y+1),(s.hm ho).bind Hs.n⟩,s.td⟩) (k:=v % z+1) zl P o (by show (if ho=ho then _ else _)=_;rw[if_pos rfl]) (by have:=P.c0;omega) (z8u _) (by omega) at_
 refine⟨s',R.upd T ((R.run.snoc sp1).snoc sp) (by simp) ?_ h3 (by rw[h1];simp) λp hp=>?_⟩
 ·rw[h2]
  funext a
  unfold upH
  by_cases q:a=ho
  ·rw[if_pos q,if_pos q]
  ·rw[if_neg q,if_neg q];show (if a=ho then _ else s.hm a)=_;rw[if_neg q]
 ·rw[h1] at hp
  rcases z7H.mp hp with w|w
  ·exact .inl w
  ·rw[z7C.mp w];exact .inr ⟨rfl,rfl,rfl⟩
end NH.P
end
section
namespace NH.P
open PySem L2 NH
variable {μ μ1 μ2:Mem}{K:T->Mem->Prop}{Z:Xp}{x y z:Int}{s t:S7}{rs:List Row}{dn es:List (Str×Int)}{la:Str->Option Int}{ho:Str}{v:Int}{i j d:Nat}
noncomputable abbrev gvT(y z:Int)(e:Str×Int):T:=.tup [.str e.1,ptT y z e.2]
structure EOk(x y z:Int)(e:Str×Int):Prop where
 o:HoOk e.1
 v0:0<=e.2
 v1:e.2<x * y * z
noncomputable def AllT (y z:Int)(es:List (Str×Int)):Prop:=∀(i j:Nat) (a b:Str×Int),i<j->es[i]?=some a->es[j]?=some b->qy y z a b=true
structure RM(μ:Mem)(j d:Nat)(y z:Int)(rs:List Row)(la:Str->Option Int)(kl:List (Key×T)):Prop where
 r:μ[j]?=some (.lst (rs.map Row.t))
 k:μ[d]?=some (.dic kl)
 l:∀ho,(zb (.inr ho) kl).getD .non=wU y z (la ho)
theorem Xh(sz:Hz x y z)(zl:z<=1000)(ok:∀e∈es,EOk x y z e)(hl:es.length<=100)(A:AllT y z es)
  (q:∀μ' j rs s la,Ch [] μ μ'->μ'[j]?=some (.lst (rs.map Row.t))->RO x y z es la rs s->K (.mut j) μ'):kf [.lst (es.map (gvT y z))] μ K Z:=by
 unfold kf
 refine⟨rfl,?_⟩
 refine zU (λn τ μ'=>∃(rs:List Row) (s:S7) (la:Str->Option Int) (kl:List (Key×T)) (o3 o4 o5 o6 o7 o8:Option T),τ=[some (.lst (es.map (gvT y z))),some (.mut μ.length),some (.mut (μ++[MO.lst []]).length),o3,o4,o5,o6,o7,o8]/\RO x y z (es.take n) la rs s/\RM μ' μ.length (μ++[MO.lst []]).length y z rs la kl/\kl.length<=n/\Ch [] μ μ') ?_ ?_ ?_
 ·refine⟨[],s70,λ_=>none,[],_,_,_,_,_,_,rfl,⟨rfl,by simp,λho v e=>(by cases e),λho=>rfl,(by simp[s70]),(by simp[s70]),(by simp[s70]),by simp⟩,⟨zd zu,zu,λ_=>rfl⟩,by simp,Ch.app.trans Ch.app⟩
 ·rintro n u τ μ' hx ⟨rs,s,la,kl,o3,o4,o5,o6,o7,o8,rfl,R,M,kn,ch⟩ N hN
  rw[z83] at hx
  obtain⟨⟨ho,v⟩,he,rfl⟩:=z8Z.mp hx
  obtain⟨hn,eg⟩:=z7v.mp he
  have E:=ok _ (z7P he)
  have et:es.take (n+1)=es.take n++[(ho,v)]:=by rw[z9f,he];rfl
  have TT:∀e∈es.take n,qy y z e (ho,v)=true:=λe h=>by
   obtain⟨k,hk,ek⟩:=zc7.mp h
   have hk':k<n:=by rw[z8r] at hk;omega
   rw[List.getElem_take] at ek
   exact A k n e _ hk' (by rw[z87 (by omega),ek]) he
  have nn:∀e∈es.take n,0<=e.2:=λe h=>(ok e (z9d h)).v0
  have dj:(μ++[MO.lst []]).length≠μ.length:=by simp
  refine⟨_,rfl,?_⟩
  refine⟨_,rfl,?_⟩
  refine⟨_,rfl,_,rfl,?_⟩
  refine⟨_,rfl,_,rfl,?_⟩
  refine⟨_,rfl,_,rfl,?_⟩
  refine⟨⟨_,M.k⟩,?_⟩
  refine⟨_,M.k,?_⟩
  have fin:∀{rs':List Row} {s':S7} {μ2:Mem} {p7 p8:Option T},RO x y z (es.take n++[(ho,v)]) (upA la ho v) rs' s'->Ch [] μ μ2->μ2[μ.length]?=some (.lst (rs'.map Row.t))->μ2[(μ++[MO.lst []]).length]?=some (.dic kl)->∀p3 p4 p5 p6,N [some (.lst (es.map (gvT y z))),some (.mut μ.length),some (.mut (μ++[MO.lst []]).length),p3,p4,p5,p6,p7,p8] (μ2.set (μ++[MO.lst []]).length (.dic (vt (.inr ho) (ptT y z v) kl))):=by
   intro rs' s' μ2 p7 p8 R' c2 g1 g2 p3 p4 p5 p6
   refine hN _ _ ⟨rs',s',upA la ho v,_,_,_,_,_,_,_,rfl,by rw[et];exact R',⟨by rw[z81 dj];exact g1,get_set g2,λho'=>?_⟩,z7V vO (by omega),Ch.geS7 c2 Ch.set (by simp)⟩
   rw[wc]
   unfold upA
   by_cases w:ho'=ho
   ·rw[if_pos (by rw[w]),if_pos w];rfl
   ·rw[if_neg (by intro e;exact w (by injection e)),if_neg w];exact M.l ho'
  have rl:=R.rl
  rw[z8r] at rl
  have big:∀{l:List Row},l.length<=200->(l.map Row.t).length<room:=λh=>by rw[z7B];unfold room;omega
  have ml:=M.l ho
  rw[ml]
  have c1:∀{o:MO} {μ2:Mem},Ch [] μ μ2->Ch [] μ (μ2.set μ.length o):=λc=>Ch.geS7 c Ch.set (by simp)
  have kp:∀{o:MO} {μ2:Mem},μ2[(μ++[MO.lst []]).length]?=some (.dic kl)->(μ2.set μ.length o)[(μ++[MO.lst []]).length]?=some (.dic kl):=λh=>by rw[z81 dj.symm];exact h
  have new:(∀v',la ho=some v'->¬(v' / z / y=v / z / y/\v' / z % y=v / z % y))->∃s',RO x y z (es.take n++[(ho,v)]) (upA la ho v) (rs++[.lease ho (some (v / z % y)) (v / z / y) 1]++[.ask ho (v / z / y) (v % z+1)]) s':=λno=>z4u sz zl R E.o E.v0 E.v1 TT nn no
  have app:∀(r:Row),(rs.map Row.t)++[r.t]=(rs++[r]).map Row.t:=λr=>by rw[z86];rfl
  cases e:la ho with
  |none=>
   obtain⟨s',R'⟩:=new λv' e'=>by rw[e] at e';cases e'
   refine⟨⟨_,M.r⟩,?_⟩
   refine⟨_,M.r,big (by omega),?_⟩
   refine⟨⟨_,get_set M.r⟩,?_⟩
   refine⟨_,get_set M.r,by rw[z8b,z7B];show _+1<_;unfold room;omega,?_⟩
   refine⟨_,rfl,?_⟩
   refine⟨_,kp (kp M.k),by unfold room;omega,?_⟩
   refine fin R' (c1 (c1 ch)) ?_ (kp (kp M.k)) _ _ _ _
   rw[get_set (get_set M.r),z86,z86];rfl
  |some v'=>
   refine⟨by show (0:Nat)<=40;decide,_,z3P,?_⟩
   refine qa (λe1=>?_) (λe1=>?_)
   ·simp only[z7x,decide_eq_true_eq] at e1
    obtain⟨s',R'⟩:=z1w sz zl R E.o E.v0 E.v1 TT nn e e1.1 e1.2
    refine⟨_,rfl,?_⟩
    refine⟨⟨_,M.r⟩,?_⟩
    refine⟨_,M.r,big (by omega),?_⟩
    refine⟨_,rfl,?_⟩
    refine⟨_,kp M.k,by unfold room;omega,?_⟩
    refine fin R' (c1 ch) ?_ (kp M.k) _ _ _ _
    rw[get_set M.r,z86];rfl
   ·obtain⟨s',R'⟩:=new λw e' e2=>by
     rw[e] at e';cases e'
     rw[decide_eq_true e2.1,decide_eq_true e2.2] at e1;cases e1
    refine⟨⟨_,M.r⟩,?_⟩
    refine⟨_,M.r,big (by omega),?_⟩
    refine⟨⟨_,get_set M.r⟩,?_⟩
    refine⟨_,get_set M.r,by rw[z8b,z7B];show _+1<_;unfold room;omega,?_⟩
    refine⟨_,rfl,?_⟩
    refine⟨_,kp (kp M.k),by unfold room;omega,?_⟩
    refine fin R' (c1 (c1 ch)) ?_ (kp (kp M.k)) _ _ _ _
    rw[get_set (get_set M.r),z86,z86];rfl
 ·rintro τ μ' ⟨rs,s,la,kl,o3,o4,o5,o6,o7,o8,rfl,R,M,kn,ch⟩
  rw[z7B,z9V] at R
  exact q μ' _ rs s la ch M.r R
end NH.P
end
section
namespace NH.P
open PySem L2 NH
variable {μ μ1 μ2:Mem}{K:T->Mem->Prop}{Z:Xp}{x y z:Int}{s t:S7}{rs:List Row}{dn es:List (Str×Int)}{la:Str->Option Int}{ho:Str}{v:Int}{i j d:Nat}
theorem z4x{a b c a' b' c':Int}:HT.lexLt [a,b,c] [a',b',c']=decide (a<a'\/(a=a'/\(b<b'\/(b=b'/\c<c')))):=by
 simp only[HT.lexLt_cons,HT.lexLt_nil_nil]
 by_cases h1:a=a'
 ·by_cases h2:b=b'
  ·by_cases h3:c=c'
   ·simp[h1,h2,h3]
   ·simp[h1,h2,h3]
  ·simp[h1,h2]
 ·simp[h1]
theorem Kv{a b:Int}(z1:1<=z)(y1:1<=y):HT.lexLt [a / z / y,a / z % y,a % z] [b / z / y,b / z % y,b % z]=decide (a<b):=by
 rw[z4x]
 by_cases h:a<b
 ·rw[decide_eq_true h,decide_eq_true (vf z1 y1 h)]
 ·rw[decide_eq_false h]
  apply decide_eq_false
  intro w
  by_cases e:a=b
  ·rw[e] at w;omega
  ·have:=vf (y:=y) (z:=z) (a:=b) (b:=a) z1 y1 (by omega)
   omega
theorem Um{a b:Str×Int}(z1:1<=z)(y1:1<=y)(q:K (.bl (qy y z a b)) μ):qC [gvT y z a,gvT y z b] μ K Z:=by
 unfold qC
 refine⟨rfl,?_⟩
 refine⟨_,rfl,_,rfl,?_⟩
 unfold qy at q
 refine zx (λe=>?_) (λe=>?_)
 ·rw[if_pos e] at q
  refine⟨_,rfl,_,rfl,?_⟩
  refine⟨_,rfl,_,rfl,?_⟩
  rw[←Kv z1 y1] at q
  exact q
 ·rw[if_neg e] at q
  refine⟨_,rfl,_,rfl,?_⟩
  exact⟨by show (0:Nat)<=40;decide,_,z3P,q⟩
theorem z5z{a b:Str×Int}(sz:Hz x y z)(ha:EOk x y z a)(hb:EOk x y z b)(q:K (.bl (qy y z a b)) μ):vw [shp x y z,prT a,prT b] μ K Z:=by
 unfold vw
 refine⟨rfl,?_⟩
 refine⟨_,rfl,?_⟩
 refine qw sz ha.v0 ha.v1 ?_
 refine⟨_,rfl,?_⟩
 refine qw sz hb.v0 hb.v1 ?_
 refine⟨_,rfl,_,rfl,?_⟩
 unfold qy at q
 refine zx (λe=>?_) (λe=>?_)
 ·have e:a.2=b.2:=e
  have:(if a.1=b.1 then decide (a.2<b.2) else !(decide (a.2 / z / y=b.2 / z / y)&&decide (a.2 / z % y=b.2 / z % y)))=false:=by
   rw[e];split<;>simp
  rw[this] at q
  exact q
 ·refine⟨_,rfl,_,rfl,?_⟩
  refine zx (λe1=>?_) (λe1=>?_)
  ·rw[if_pos e1] at q
   exact⟨_,rfl,_,rfl,q⟩
  ·rw[if_neg e1] at q
   refine⟨_,rfl,_,rfl,?_⟩
   refine qa (λe2=>?_) (λe2=>?_)
   ·have e2:(!decide (a.2 / z / y=b.2 / z / y))=true:=e2
    have:decide (a.2 / z / y=b.2 / z / y)=false:=by simpa using e2
    rw[this] at q;exact q
   ·have e2:(!decide (a.2 / z / y=b.2 / z / y))=false:=e2
    have:decide (a.2 / z / y=b.2 / z / y)=true:=by simpa using e2
    rw[this,Bool.true_and] at q
    exact⟨_,rfl,_,rfl,q⟩
structure FB(y z:Int)(es:List (Str×Int))(i j:Nat):Prop where
 ij:i<j
 jl:j<es.length
 bad:∀a b,es[i]?=some a->es[j]?=some b->qy y z a b=false
 lo:∀k a b,k<i->es[k]?=some a->es[j]?=some b->qy y z a b=true
 pr:AllT y z (es.take j)
theorem j4{i:Nat}(h:i<es.length):∃a,es[i]?=some a:=⟨_,z87 h⟩
theorem FB.not{i j n:Nat}(h:FB y z es i j)(A:AllT y z (es.take n)):n<=j:=by
 by_cases w:j<n
 ·have ij:=h.ij
  obtain⟨a,ha⟩:=j4 (es:=es) (i:=i) (by have:=h.jl;omega)
  obtain⟨b,hb⟩:=j4 (es:=es) (i:=j) h.jl
  have:=A i j a b h.ij (by rw[z8L,if_pos (by omega)];exact ha) (by rw[z8L,if_pos w];exact hb)
  rw[h.bad a b ha hb] at this;cases this
 ·omega
theorem FB.one{i j i' j':Nat}(h:FB y z es i j)(h':FB y z es i' j'):i=i'/\j=j':=by
 have e1:=h.not h'.pr
 have e2:=h'.not h.pr
 have e:j=j':=by omega
 subst e
 obtain⟨a,ha⟩:=j4 (es:=es) (i:=i) (by have:=h.jl;have:=h.ij;omega)
 obtain⟨a',ha'⟩:=j4 (es:=es) (i:=i') (by have:=h'.jl;have:=h'.ij;omega)
 obtain⟨b,hb⟩:=j4 (es:=es) (i:=j) h.jl
 refine⟨?_,rfl⟩
 rcases Nat.lt_trichotomy i i' with w|w|w
 ·have:=h'.lo i a b w ha hb
  rw[h.bad a b ha hb] at this;cases this
 ·exact w
 ·have:=h.lo i' a' b w ha' hb
  rw[h'.bad a' b ha' hb] at this;cases this
theorem AllT.step{n:Nat}{b:Str×Int}(A:AllT y z (es.take n))(hb:es[n]?=some b)(h:∀k a,k<n->es[k]?=some a->qy y z a b=true):AllT y z (es.take (n+1)):=by
 intro i j a c ij ha hc
 rw[z8L] at ha hc
 by_cases w:j<n+1
 ·rw[if_pos w] at hc
  rw[if_pos (by omega)] at ha
  by_cases w2:j=n
  ·subst w2;rw[hb] at hc;cases hc;exact h i a ij ha
  ·exact A i j a c ij (by rw[z8L,if_pos (by omega)];exact ha) (by rw[z8L,if_pos (by omega)];exact hc)
 ·rw[if_neg w] at hc;cases hc
theorem wX{f:Str×Int->T}{k:Nat}{a:Str×Int}(h:es[k]?=some a):w_ (es.map f) (k:Int)=some (f a):=by
 obtain⟨hl,e⟩:=z7v.mp h
 unfold w_ Xq
 rw[if_pos (by omega),if_pos (by rw[z7B];omega)]
 simp[h]
theorem z6k{w:Nat}(sz:Hz x y z)(hw:μ[w]?=some (.lst (es.map prT)))(ok:∀e∈es,EOk x y z e)(hl:es.length<=1000)
  (q1:∀i j:Nat,FB y z es i j->K (.tup [.str "wrong",.int i,.int j]) μ) (q2:AllT y z es->K .non μ):yp [shp x y z,.mut w] μ K Z:=by
 have en:∀{k:Nat} {a:Str×Int},es[k]?=some a->EOk x y z a:=λh=>ok _ (z7P h)
 unfold yp
 refine⟨rfl,?_⟩
 refine⟨_,hw,?_⟩
 refine⟨⟨by omega,by rw[z7B];omega⟩,?_⟩
 rw[z7B]
 refine zU (λn τ μ'=>μ'=μ/\∃o2 o3:Option T,τ=[some (shp x y z),some (.mut w),o2,o3]/\AllT y z (es.take n)) ⟨rfl,_,_,rfl,λi j a b _ h=>by simp at h⟩ ?_ ?_
 ·rintro n u τ μ0 hx ⟨rfl,o2,o3,rfl,A⟩ N hN
  obtain⟨rfl,hn⟩:=w9 hx
  obtain⟨b,hb⟩:=j4 (es:=es) (i:=n) (by omega)
  refine⟨_,rfl,?_⟩
  refine⟨⟨by omega,by omega⟩,?_⟩
  refine zU (λk τ μ'=>μ'=μ0/\∃o3:Option T,τ=[some (shp x y z),some (.mut w),some (.int n),o3]/\∀i a,i<k->es[i]?=some a->qy y z a b=true) ⟨rfl,_,rfl,λi a h=>absurd h (zdn _)⟩ ?_ ?_
  ·rintro k u τ _ hx ⟨rfl,o3,rfl,B⟩ N2 hN2
   obtain⟨rfl,hk⟩:=w9 hx
   obtain⟨a,ha⟩:=j4 (es:=es) (i:=k) (by omega)
   refine⟨_,rfl,?_⟩
   refine⟨_,_,hw,wX ha,?_⟩
   refine⟨_,_,hw,wX hb,?_⟩
   refine z5z sz (en ha) (en hb) ?_
   cases e:qy y z a b with
   |false=>
    exact q1 k n ⟨by omega,by omega,λa' b' h1 h2=>(by rw[ha] at h1;rw[hb] at h2;cases h1;cases h2;exact e),λi a' b' h1 h2 h3=>(by rw[hb] at h3;cases h3;exact B i a' h1 h2),A⟩
   |true=>
    refine hN2 _ _ ⟨rfl,_,rfl,λi a' h1 h2=>?_⟩
    by_cases w:i=k
    ·rw[w,ha] at h2;cases h2;exact e
    ·exact B i a' (by omega) h2
  ·rintro τ _ ⟨rfl,o3,rfl,B⟩
   rw[wy] at B
   exact hN _ _ ⟨rfl,_,_,rfl,A.step hb λk a h=>B k a (by omega)⟩
 ·rintro τ _ ⟨rfl,o2,o3,rfl,A⟩
  rw[wy] at A
  exact q2 (by rw[show ((es.length:Int)).toNat=es.length by omega,z9V] at A;exact A)
end NH.P
end
section
namespace NH.P
open PySem L2 NH
variable {μ μ1 μ2:Mem}{K:T->Mem->Prop}{Z:Xp}{x y z:Int}{s t:S7}{rs:List Row}{dn es:List (Str×Int)}{la:Str->Option Int}{ho:Str}{v:Int}{i j d w w2:Nat}
theorem Z2(sz:Hz x y z)(zl:z<=20)(ok:∀e∈es,EOk x y z e)(hl:es.length<=100)
  (q1:∀i j:Nat,FB y z es i j->K (.tup [.str "wrong",.int i,.int j]) μ)
  (q2:AllT y z es->∀μ' j rs s la,Ch [] μ μ'->μ'[j]?=some (.lst (rs.map Row.t))->RO x y z es la rs s->K (.tup [.str "right",.mut j]) μ'):wG [shp x y z,.lst (es.map prT)] μ K Z:=by
 have en:∀{k:Nat} {a:Str×Int},es[k]?=some a->EOk x y z a:=λh=>ok _ (z7P h)
 have z1:=sz.z1
 have y1:=sz.y1
 unfold wG
 refine⟨rfl,?_⟩
 refine zx (λe=>?_) (λ_=>?_)
 ·exact absurd e (by show ¬(20:Int)<z;omega)
 refine ur (λ_=>true) (λt ht=>?_) (by rw[z7B];omega) (by simp) ?_
 ·obtain⟨e,he,rfl⟩:=z8n.mp ht
  have E:=ok e he
  exact YT E.o.l E.o.h λμ K Z q=>yb sz.sy (by rw[decide_eq_true E.v0,decide_eq_true E.v1];rfl) q
 refine⟨by rw[z7B];unfold room;omega,?_⟩
 refine qM prT (λe=>some (gvT y z e)) (λe he kk hkk=>?_) ?_ trivial
 ·refine⟨_,rfl,?_⟩
  refine⟨_,rfl,_,rfl,?_⟩
  exact qw sz (ok e he).v0 (ok e he).v1 hkk
 rw[z8w]
 refine⟨⟨by omega,by rw[z7B];omega⟩,?_⟩
 rw[z7B]
 refine zU (λn τ μ'=>μ'=μ/\∃o3 o4:Option T,τ=[some (shp x y z),some (.lst (es.map prT)),some (.lst (es.map (gvT y z))),o3,o4]/\AllT y z (es.take n)) ⟨rfl,_,_,rfl,λi j a b _ h=>by simp at h⟩ ?_ ?_
 ·rintro n u τ μ0 hx ⟨rfl,o3,o4,rfl,A⟩ N hN
  obtain⟨rfl,hn⟩:=w9 hx
  obtain⟨b,hb⟩:=j4 (es:=es) (i:=n) (by omega)
  refine⟨_,rfl,?_⟩
  refine⟨⟨by omega,by omega⟩,?_⟩
  refine zU (λk τ μ'=>μ'=μ0/\∃o4:Option T,τ=[some (shp x y z),some (.lst (es.map prT)),some (.lst (es.map (gvT y z))),some (.int n),o4]/\∀i a,i<k->es[i]?=some a->qy y z a b=true) ⟨rfl,_,rfl,λi a h=>absurd h (zdn _)⟩ ?_ ?_
  ·rintro k u τ _ hx ⟨rfl,o4,rfl,B⟩ N2 hN2
   obtain⟨rfl,hk⟩:=w9 hx
   obtain⟨a,ha⟩:=j4 (es:=es) (i:=k) (by omega)
   refine⟨_,rfl,?_⟩
   refine⟨_,wX ha,?_⟩
   refine⟨_,wX hb,?_⟩
   refine Um z1 y1 ?_
   cases e:qy y z a b with
   |false=>
    exact q1 k n ⟨by omega,by omega,λa' b' h1 h2=>(by rw[ha] at h1;rw[hb] at h2;cases h1;cases h2;exact e),λi a' b' h1 h2 h3=>(by rw[hb] at h3;cases h3;exact B i a' h1 h2),A⟩
   |true=>
    refine hN2 _ _ ⟨rfl,_,rfl,λi a' h1 h2=>?_⟩
    by_cases w:i=k
    ·rw[w,ha] at h2;cases h2;exact e
    ·exact B i a' (by omega) h2
  ·rintro τ _ ⟨rfl,o4,rfl,B⟩
   rw[wy] at B
   exact hN _ _ ⟨rfl,_,_,rfl,A.step hb λk a h=>B k a (by omega)⟩
 ·rintro τ _ ⟨rfl,o3,o4,rfl,A⟩
  rw[wy,show ((es.length:Int)).toNat=es.length by omega,z9V] at A
  refine Xh sz (by omega) ok hl A λμ1 j rs s la ch h1 R=>?_
  exact q2 A μ1 j rs s la ch h1 R
end NH.P
end
section
namespace NH.P
open PySem L2 NH
variable {μ μ1 μ2:Mem}{K:T->Mem->Prop}{Z:Xp}{x y z:Int}{s t:S7}{rs:List Row}{dn es td:List (Str×Int)}{la:Str->Option Int}{ho:Str}{v:Int}{i j d w w2:Nat}
abbrev PwT(y z:Int)(es:List (Str×Int)):Prop:=es.Pairwise λa b=>qy y z a b=true
theorem PwT.all(h:PwT y z es):AllT y z es:=by
 intro i j a b ij ha hb
 obtain⟨h1,e1⟩:=z7v.mp ha
 obtain⟨h2,e2⟩:=z7v.mp hb
 have:=za_.mp h i j h1 h2 ij
 rw[e1,e2] at this
 exact this
structure In7(y z:Int)(s:S7):Prop where
 one:∀p∈s.G,∀q∈s.G,∀m,p.2.h=q.2.h->p.2.f<=m->m<p.2.u->q.2.f<=m->m<q.2.u->p.2.ho=q.2.ho
 td:∀e∈s.td,∃p∈s.G,p.2.ho=e.1/\p.2.h=e.2 / z % y/\p.2.f<=e.2 / z / y/\e.2 / z / y<p.2.u
 now:∀ho hh,s.hm ho=some hh->∃p∈s.G,p.2.ho=ho/\p.2.h=hh.a.1/\p.2.f=hh.a.2.1/\p.2.u=hh.a.2.2
 la:∀e∈s.td,∃hh w,s.hm e.1=some hh/\hh.n=some w/\e.2<=w
 pw:PwT y z s.td
theorem YF{G:Gr}{b e m:Int}(h:mt G b e=false)(h1:G.f<=m)(h2:m<G.u)(h3:b<=m)(h4:m<e):False:=by
 unfold mt at h
 have:=of_decide_eq_false h
 split at this<;>split at this<;>omega
theorem In7.step{r:Row}(sz:Hz x y z)(wf:WF x y z s)(I:In7 y z s)(h:Sp7 x y z r s t):In7 y z t:=by
 have z1:=sz.z1
 cases r with
 |lease ho hs m n=>
  obtain⟨o,hh,n1,h,b,h0,h1,b0,bx,hL,rfl⟩:=h
  have free:∀p∈s.G,p.2.h=h->mt p.2 b (b+n)=false:=by
   rcases hL with⟨_,e,_,f,_⟩|⟨_,_,f,_⟩
   ·rw[e];exact f
   ·exact f
  refine⟨λp hp q hq m' e e1 e2 e3 e4=>?_,λe he=>?_,λho' hh' e=>?_,λe he=>?_,I.pw⟩
  ·rcases z7H.mp hp with hp|hp
   ·rcases z7H.mp hq with hq|hq
    ·exact I.one p hp q hq m' e e1 e2 e3 e4
    ·rw[z7C.mp hq] at e e3 e4
     exact (YF (free p hp e) e1 e2 e3 e4).elim
   ·rw[z7C.mp hp] at e e1 e2
    rcases z7H.mp hq with hq|hq
    ·exact (YF (free q hq e.symm) e3 e4 e1 e2).elim
    ·rw[z7C.mp hp,z7C.mp hq]
  ·obtain⟨p,hp,q⟩:=I.td e he
   exact⟨p,z7S _ hp,q⟩
  ·have e:(if ho'=ho then some _ else s.hm ho')=some hh':=e
   by_cases q:ho'=ho
   ·rw[if_pos q] at e;cases e
    exact⟨(0,⟨ho,h,b,b+n,b+n,false⟩),by simp,q.symm,rfl,rfl,rfl⟩
   ·rw[if_neg q] at e
    obtain⟨p,hp,w⟩:=I.now _ _ e
    exact⟨p,z7S _ hp,w⟩
  ·obtain⟨h2,w,e1,e2,e3⟩:=I.la e he
   show ∃hh w,(if e.1=ho then some _ else s.hm e.1)=some hh/\_
   by_cases q:e.1=ho
   ·rw[if_pos q]
    refine⟨_,w,rfl,?_,e3⟩
    show (s.hm ho).bind Hs.n=some w
    rw[←q,e1];exact e2
   ·rw[if_neg q];exact⟨h2,w,e1,e2,e3⟩
 |ask ho r k=>
  obtain⟨o,hh,cc,e0,r0,r1,k1,k2,ck,at_,rfl⟩:=h
  have ok:=wf.ls _ _ e0
  have c0:0<=cc:=by rcases at_ with q|q<;>omega
  obtain⟨g,hg,g1,g2,g3,g4⟩:=I.now _ _ e0
  have new:∀e∈(nmL y z hh.a.1 (r * z+cc) k).map (λv=>(ho,v)),e.1=ho/\e.2 / z / y=r/\e.2 / z % y=hh.a.1/\e.2<=nmA y z hh.a.1 (r * z+cc+k-1)/\∀w,hh.n=some w->w<e.2:=by
   intro e he
   obtain⟨v,hv,rfl⟩:=z8n.mp he
   unfold nmL at hv
   obtain⟨j,hj,rfl⟩:=z8n.mp hv
   have hj:=z9J.mp hj
   have ps:=US (p:=r * z+cc+j) sz ok.h0 ok.h1
   refine⟨rfl,?_,ps.2.1,?_,λw hw=>?_⟩
   ·show nmA y z hh.a.1 (r * z+cc+j) / z / y=r
    rw[ps.1,show r * z+cc+(j:Int)=(cc+j)+r * z by omega,zap _ _ (by omega),zaq (by omega) (by omega)]
    omega
   ·show nmA y z hh.a.1 (r * z+cc+j)<=_
    by_cases q:r * z+cc+(j:Int)=r * z+cc+k-1
    ·rw[q];exact z8u _
    ·exact zez (Ko sz ok.h0 ok.h1 (by omega))
   ·show w<nmA y z hh.a.1 (r * z+cc+j)
    rw[hw] at at_
    refine (z08 sz ok.h0 ok.h1).mpr ?_
    rcases at_ with⟨q,_⟩|⟨q,_⟩
    ·have q:plA y z hh.a.1 w<=r * z:=q
     omega
    ·have q:plA y z hh.a.1 w=r * z+cc:=q
     omega
  refine⟨I.one,λe he=>?_,λho' hh' e=>?_,λe he=>?_,?_⟩
  ·rcases z7H.mp he with he|he
   ·exact I.td e he
   ·obtain⟨a1,a2,a3,_,_⟩:=new e he
    exact⟨g,hg,g1.trans a1.symm,by rw[g2,a3],by rw[g3,a2];exact r0,by rw[g4,a2];exact r1⟩
  ·have e:(if ho'=ho then some _ else s.hm ho')=some hh':=e
   by_cases q:ho'=ho
   ·rw[if_pos q] at e;cases e
    exact⟨g,hg,g1.trans q.symm,g2,g3,g4⟩
   ·rw[if_neg q] at e;exact I.now _ _ e
  ·show ∃hh' w,(if e.1=ho then some _ else s.hm e.1)=some hh'/\_
   rcases z7H.mp he with he|he
   ·obtain⟨h2,w,e1,e2,e3⟩:=I.la e he
    by_cases q:e.1=ho
    ·rw[if_pos q]
     refine⟨_,_,rfl,rfl,?_⟩
     rw[q,e0] at e1;cases e1
     have l:=(z08 (k:=w) (p:=r * z+cc+k-1) sz ok.h0 ok.h1).mpr (by
      rw[e2] at at_
      rcases at_ with⟨q,_⟩|⟨q,_⟩
      ·have q:plA y z hh.a.1 w<=r * z:=q
       omega
      ·have q:plA y z hh.a.1 w=r * z+cc:=q
       omega)
     omega
    ·rw[if_neg q];exact⟨h2,w,e1,e2,e3⟩
   ·obtain⟨a1,a2,a3,a4,_⟩:=new e he
    rw[if_pos a1]
    exact⟨_,_,rfl,rfl,a4⟩
  ·refine List.pairwise_append.mpr ⟨I.pw,?_,λa ha b hb=>?_⟩
   ·rw[z9h]
    unfold nmL
    rw[z9h]
    refine zc_ ?_ zbN
    intro p q pq
    unfold qy
    rw[if_pos rfl]
    exact decide_eq_true (Ko sz ok.h0 ok.h1 (by omega))
   ·obtain⟨a1,a2,a3,_,a5⟩:=new b hb
    unfold qy
    by_cases q:a.1=b.1
    ·rw[if_pos q]
     obtain⟨h2,w,e1,e2,e3⟩:=I.la a ha
     rw[q,a1,e0] at e1;cases e1
     have:=a5 w e2
     exact decide_eq_true (by omega)
    ·rw[if_neg q]
     obtain⟨p,hp,p1,p2,p3,p4⟩:=I.td a ha
     cases hc:decide (a.2 / z / y=b.2 / z / y)&&decide (a.2 / z % y=b.2 / z % y) with
     |false=>rfl
     |true=>
      simp only[z7x,decide_eq_true_eq] at hc
      exfalso
      apply q
      rw[a1,←p1,←g1]
      refine I.one p hp g hg r (by rw[p2,g2,hc.2,a3]) ?_ ?_ ?_ ?_
      ·rw[hc.1,a2] at p3;exact p3
      ·rw[hc.1,a2] at p4;exact p4
      ·rw[g3];exact r0
      ·rw[g4];exact r1
theorem In7.run(sz:Hz x y z){t:S7}:∀{rs:List Row} {s:S7},WF x y z s->In7 y z s->Run7 x y z rs s t->In7 y z t
 |[],s,_,I,h=>by cases h;exact I
 |r::rs,s,wf,I,⟨u,h1,h2⟩=>In7.run sz (h1.wf sz wf) (I.step sz wf h1) h2
theorem z2x(sz:Hz x y z)(run:Run7 x y z rs s70 s):PwT y z s.td:=
 (In7.run sz ⟨λho hh e=>(by simp[s70] at e),λho hh v e=>(by simp[s70] at e)⟩ ⟨by simp[s70],by simp[s70],λho hh e=>(by simp[s70] at e),by simp[s70],by simp[s70]⟩ run).pw
end NH.P
end
section
namespace NH.P
open PySem L2 NH
variable {μ μ1 μ2:Mem}{K:T->Mem->Prop}{Z:Xp}{x y z:Int}{s t:S7}{rs:List Row}{dn es:List (Str×Int)}{la:Str->Option Int}{ho:Str}{v:Int}{i j d w w2:Nat}
theorem z0B{xs:List T}(hx:xs=es.map prT)(h:wG [shp x y z,.lst (es.map prT)] μ K Z):wG [shp x y z,.lst xs] μ K Z:=by rw[hx];exact h
theorem z6t{w:Str}{i j:Int}:eqL [.str w,.int i,.int j] [.str w,.int i,.int j]=some true:=by simp[eqL,eqT]
theorem FB.all{i j:Nat}(h:FB y z es i j)(A:AllT y z es):False:=by
 have:=h.not (n:=es.length) (by rw[z9V];exact A)
 have:=h.jl
 omega
end NH.P
end
section
namespace NH.P
open PySem L2 NH
variable {μ μ1 μ2:Mem}{K:T->Mem->Prop}{Z:Xp}{x y z:Int}{s t:S7}{rs:List Row}{dn es td:List (Str×Int)}{la:Str->Option Int}{ho:Str}{v:Int}{i j d w w2:Nat}
theorem VY(h2:μ[w2]?=some (.lst (td.map prT)))(q:∀b:Bool,(b=true↔es.Sublist td)->K (.bl b) μ):ko [.lst (es.map prT),.mut w2] μ K Z:=by
 unfold ko
 refine⟨rfl,?_⟩
 refine⟨_,h2,?_⟩
 refine zU (λn τ μ'=>μ'=μ/\∃(o3:Option T) (k:Nat),τ=[some (.lst (es.map prT)),some (.mut w2),some (.int k),o3]/\k<=es.length/\(es.take k).Sublist (td.take n)/\(es.Sublist td->(es.drop k).Sublist (td.drop n))) ⟨rfl,_,0,rfl,z98 _,zby _,λS=>S⟩ ?_ ?_ ?_
 ·rintro n u τ _ hx ⟨rfl,o3,k,rfl,hk,S0,S⟩ N hN
  rw[z83] at hx
  obtain⟨e,he,rfl⟩:=z8Z.mp hx
  obtain⟨hn,ee⟩:=z7v.mp he
  rw[z8x hn,ee] at S
  have et:td.take (n+1)=td.take n++[e]:=by rw[z9f,he];rfl
  have S1:(es.take k).Sublist (td.take (n+1)):=by rw[et];exact S0.trans (List.sublist_append_left _ _)
  refine⟨_,rfl,?_⟩
  refine zx (λh=>?_) (λh=>?_)
  ·have h:(k:Int)<((es.map prT).length:Int):=h
   rw[z7B] at h
   obtain⟨a,ha⟩:=j4 (es:=es) (i:=k) (by omega)
   obtain⟨hk',ea⟩:=z7v.mp ha
   rw[z8x hk',ea] at S
   refine⟨_,wX ha,?_⟩
   refine⟨by show (0:Nat)<=40;decide,_,z3T,?_⟩
   refine qa (λe1=>?_) (λe1=>?_)
   ·have e1:(decide (e.1=a.1)&&decide (e.2=a.2))=true:=e1
    simp only[z7x,decide_eq_true_eq] at e1
    have e2:e=a:=Prod.ext e1.1 e1.2
    subst e2
    refine hN _ _ ⟨rfl,_,k+1,rfl,by omega,?_,λw=>List.cons_sublist_cons.mp (S w)⟩
    rw[et,show es.take (k+1)=es.take k++[e] by rw[z9f,ha];rfl]
    exact zch S0 (zcZ _)
   ·have e1:(decide (e.1=a.1)&&decide (e.2=a.2))=false:=e1
    refine hN _ _ ⟨rfl,_,k,rfl,hk,S1,λw=>?_⟩
    have S:=S w
    rw[z8x hk',ea]
    cases S with
    |cons _ S=>exact S
    |cons_cons _ S=>rw[decide_eq_true rfl,decide_eq_true rfl] at e1;cases e1
  ·have h:¬(k:Int)<((es.map prT).length:Int):=h
   rw[z7B] at h
   have:es.drop k=[]:=List.drop_of_length_le (by omega)
   refine hN _ _ ⟨rfl,_,k,rfl,hk,S1,λ_=>?_⟩
   rw[this];exact zby _
 ·rintro τ μ0 ⟨rfl,o3,k,rfl,hk,S0,S⟩
  rw[z7B,zbv] at S
  rw[z7B,z9V] at S0
  refine q _ ⟨λh=>?_,λh=>?_⟩
  ·have:=of_decide_eq_true h
   rw[z7B] at this
   rw[z8q (by omega)] at S0
   exact S0
  ·have:=List.drop_eq_nil_iff.mp (List.eq_nil_of_sublist_nil (S h))
   show decide ((k:Int)=((es.map prT).length:Int))=true
   rw[z7B]
   exact decide_eq_true (by omega)
 ·rintro n τ _ ⟨rfl,o3,k,rfl,hk,S0,S⟩
  exact h2
end NH.P
end
section
namespace NH.P
open PySem L2 NH
section
variable {μ μ1 μ2:Mem}{K:T->Mem->Prop}{Z:Xp}{x y z:Int}{i bi:Nat}{sh kp bt:T}{ah sd:Int}{l l':Option Ls}{m m' n:Option Int}{a:Ls}{r k h c:Int}
theorem X1(s:Hz x y z)(ok:LsOk x y a)(ho:μ[i]?=some (hsO (shp x y z) ah sd kp (some a) m n bt false))(hn:∀k,n=some k->0<=k/\k<x * y * z)(ha:0<=ah)(hr:a.2.1<=r)(hu:r<a.2.2)(k1:1<=k)(hc:AtC y z a n m r c)(ck:c+k<=z)(q:K (z2E a.1 (r * z+c) (r * z+c+k)) μ) :
  zS [.mut i,.int r,.int k] μ K Z:=by
 obtain⟨x1,y1,y2,z1,z2⟩:=id s
 have f0:=ok.f0
 have c0:0<=c:=by rcases hc with w|w<;>omega
 have uz:r * z+z<=a.2.2 * z:=by
  have:=z7Y (show r+1<=a.2.2 by omega) (show 0<=z by omega)
  rw[z9s,z9t] at this
  exact this
 have eM:(if a.2.1<r then r else a.2.1)=r:=by split<;>omega
 have eB:(if Zz y z a.1 n m<r * z then r * z else Zz y z a.1 n m)=r * z+c:=by
  rcases hc with⟨w,v⟩|⟨w,v⟩
  ·rw[v]
   by_cases e:Zz y z a.1 n m<r * z
   ·rw[if_pos e];omega
   ·rw[if_neg e];omega
  ·rw[if_neg (by omega),w]
 have eD:(r * z+c+k-1) / z=r:=by
  have:r * z+c+k-1=(c+k-1)+r * z:=by omega
  rw[this,zap _ _ (by omega),zaq (by omega) (by omega)]
  omega
 have fin:∀B L:Int,B=r * z+c->zQ (qd.drop 5) [some (.mut i),some (.int r),some (.int k),some (.int L),some (.int B),none,none] μ (En.fn K Z):=by
  intro B L hB
  subst hB
  refine⟨_,_,_,ho,rfl,?_⟩
  refine⟨_,rfl,?_⟩
  refine⟨_,_,_,ho,rfl,?_⟩
  refine⟨.inr ⟨by unfold big;omega,by unfold big;omega⟩,?_⟩
  refine J8 (by omega) ?_
  refine⟨_,_,_,ho,rfl,?_⟩
  refine⟨⟨by omega,by omega⟩,?_⟩
  refine⟨_,_,_,ho,rfl,?_⟩
  refine J8 (by rw[eD];omega) ?_
  refine⟨_,_,_,ho,rfl,?_⟩
  refine⟨_,rfl,?_⟩
  refine⟨rfl,?_⟩
  unfold jS
  refine⟨rfl,?_⟩
  refine⟨_,_,rfl,by show (0:Nat)<900;decide,?_⟩
  refine⟨_,_,rfl,by show (1:Nat)<900;decide,?_⟩
  refine⟨_,_,rfl,by show (2:Nat)<900;decide,?_⟩
  refine⟨rfl,_,rfl,rfl,?_⟩
  exact q
 unfold zS
 refine⟨rfl,?_⟩
 refine qV ?_
 rw[decide_eq_true k1]
 refine⟨_,_,_,ho,rfl,?_⟩
 refine J8 (by omega) ?_
 refine zJ ?_
 refine⟨_,ho,?_⟩
 unfold zV
 refine⟨rfl,?_⟩
 refine⟨_,_,_,ho,rfl,?_⟩
 refine⟨_,_,_,ho,rfl,?_⟩
 refine⟨_,rfl,?_⟩
 refine⟨_,_,_,ho,rfl,?_⟩
 refine⟨.inr ⟨by unfold big;omega,by unfold big;omega⟩,?_⟩
 refine⟨_,ho,?_⟩
 refine WH s ho hn ?_
 exact fin _ _ (by rw[eM];exact eB)
theorem X7(s:Hz x y z)(ok:LsOk x y a)(hk:WU kp)(ho:μ[i]?=some (hsO (shp x y z) ah sd kp (some a) m n bt false))(hn:∀k,n=some k->0<=k/\k<x * y * z)(ha:0<=ah)(hr:a.2.1<=r)(hu:r<a.2.2)(k1:1<=k)(hc:AtC y z a n m r c)(ck:c+k<=z)
  (q:∀μ' mb,Ch [i] μ μ'->μ'.length=μ.length->μ'[i]?=some (hsO (shp x y z) ah sd kp (some a) (some mb) (some (nmA y z a.1 (r * z+c+k-1))) bt false)->K (z2E a.1 (r * z+c) (r * z+c+k)) μ') :
  zN [.mut i,.int r,.int k] μ K Z:=by
 obtain⟨x1,y1,y2,z1,z2⟩:=id s
 have f0:=ok.f0
 have c0:0<=c:=by rcases hc with w|w<;>omega
 have rz0:0<=r * z:=z8P (by omega) (by omega)
 have uz:r * z+z<=a.2.2 * z:=by
  have:=z7Y (show r+1<=a.2.2 by omega) (show 0<=z by omega)
  rw[z9s,z9t] at this
  exact this
 have ux:a.2.2 * z<=x * z:=z7Y ok.ux (by omega)
 unfold zN
 refine⟨rfl,?_⟩
 refine⟨_,ho,?_⟩
 refine xW ho ?_
 refine⟨_,ho,?_⟩
 refine X1 s ok ho hn ha hr hu k1 hc ck ?_
 refine⟨_,ho,?_⟩
 refine⟨_,_,_,ho,rfl,?_⟩
 refine⟨_,ho,?_⟩
 refine⟨_,_,_,ho,rfl,?_⟩
 refine⟨⟨by omega,by omega⟩,?_⟩
 refine Z4 ho λmb=>?_
 refine Kl (l':=some a) (m':=some mb) ho hk λμ' ch hl h'=>?_
 refine⟨_,_,_,h',rfl,?_⟩
 refine yP s (by omega) (by omega) ok.h0 ok.h1 ?_
 refine⟨_,_,h',by show (9:Nat)<900;decide,?_⟩
 refine q _ mb (ch.trans Ch.set) (by simp[hl]) ?_
 exact get_set h'
end
section
variable {μ μ1 μ2:Mem}{K:T->Mem->Prop}{Z:Xp}{x y z:Int}{i c g d w:Nat}
theorem z0g{a:Ls}{n m:Option Int}{r k cc:Int}(s:Hz x y z)(hb:x * z<1000000000000000000000000000000000000000000000000000000000000)(ok:LsOk x y a){kp bt:T}{ah sd:Int}(hk:WU kp)(ho:μ[i]?=some (hsO (shp x y z) ah sd kp (some a) m n bt false))(hn:∀k,n=some k->0<=k/\k<x * y * z)(ha:0<=ah)(hr:a.2.1<=r)(hu:r<a.2.2)(k1:1<=k)(k3:k<=1000)(hc:AtC y z a n m r cc)(ck:cc+k<=z)
  (q:∀μ' mb,Ch [i] μ μ'->μ'.length=μ.length->μ'[i]?=some (hsO (shp x y z) ah sd kp (some a) (some mb) (some (nmA y z a.1 (r * z+cc+k-1))) (.lst []) false)->K (.lst ((nmL y z a.1 (r * z+cc) k).map T.int)) μ') :
  qc [.mut i,.int r,.int k] μ K Z:=by
 obtain⟨x1,y1,y2,z1,z2⟩:=id s
 have c0:0<=cc:=by rcases hc with w|w<;>omega
 have f0:=ok.f0
 have rz0:0<=r * z:=z8P (by omega) (by omega)
 have uz:r * z+z<=a.2.2 * z:=by
  have:=z7Y (show r+1<=a.2.2 by omega) (show 0<=z by omega)
  rw[z9s,z9t] at this
  exact this
 have ux:a.2.2 * z<=x * z:=z7Y ok.ux (by omega)
 unfold qc
 refine⟨rfl,?_⟩
 refine⟨_,ho,?_⟩
 refine X7 s ok hk ho hn ha hr hu k1 hc ck λμ' mb ch hl h'=>?_
 refine⟨_,_,h',by show (9:Nat)<900;decide,?_⟩
 refine⟨_,_,_,get_set h',rfl,?_⟩
 refine xm s hb (by omega) k1 (by omega) (by omega) ok.h0 ok.h1 ?_
 exact q _ mb (ch.trans Ch.set) (by simp[hl]) (get_set h')
end
section
variable {μ μ1 μ2:Mem}{K:T->Mem->Prop}{Z:Xp}{x y z:Int}{i c g d w L:Nat}{kvs:List (Key×T)}{s t:S7}{ps:List Gp}{o0 o1 o6 o7:Option T}
@[reducible] noncomputable def Jt:List Ds:=[(zk 6 (eIx (eV 5) (eC (.int 1)))),(zk 7 (z5 vR [(eV 3),(eV 0),(eV 6)])),(sIf (tE (zi .Eq (eIx (eV 5) (eC (.int 0))) (eC (.str "lease")))) [(zF (zW 45 zP (eV 7) [(zW 43 qJ (eV 2) [(eV 6),(eIx (eV 5) (eC (.int 2))),(eIx (eV 5) (eC (.int 3))),(eIx (eV 5) (eC (.int 4)))])]))] [(zF (XM (eV 4) (qI 1 [6] (.one 0) (iE (zW 45 qc (eV 7) [(eIx (eV 5) (eC (.int 2))),(eIx (eV 5) (eC (.int 3)))])) [] (z_ [(eV 1),(eV 0)]))))])]
theorem Qb{E:En}{ho:Str}{hs:Option Int}{m n h b:Int}{l:Option Ls}{mm nn:Option Int}(B:Bk μ c g (shp x y z) ps)(ht:μ[0]?=some (.tab 0))(hl:ps.length<64)(o:HoOk ho)(hh:∀h,hs=some h->0<=h/\h<y)(n1:1<=n)(h1:h<y)(bx:b+n<=x)(hL:Lease (er ps) (opT hs) (if m<0 then 0 else m) n h b)(hi:μ[i]?=some (hs7 x y z l mm nn))
  (q:∀μ' a,Ch [g,i] μ μ'->Bk μ' c g (shp x y z) (ps++[(a,⟨ho,h,b,b+n,b+n,false⟩)])->μ'[i]?=some (hs7 x y z (some (h,b,b+n)) mm nn)->
   E.nx [o0,o1,some (.mut c),some (.mut d),some (.mut w),some (Row.lease ho hs m n).t,some (.str ho),some (.mut i)] μ') :
  zQ (Jt.drop 2) [o0,o1,some (.mut c),some (.mut d),some (.mut w),some (Row.lease ho hs m n).t,some (.str ho),some (.mut i)] μ E:=by
 refine⟨_,rfl,?_⟩
 refine⟨_,hi,?_⟩
 refine⟨_,B.com,?_⟩
 refine⟨_,rfl,_,rfl,_,rfl,?_⟩
 have h2:Z7 y (opT hs):=by
  cases hs with
  |none=>exact .inl rfl
  |some v=>exact .inr ⟨v,rfl,(hh v rfl).1,(hh v rfl).2⟩
 refine Yp B ht hl o.l o.h h2 n1 (λh' b' μ1 hl' bad ch=>?_) λh' b' μ1 a h0' h1' b0' bx' hl' la ch B1=>?_
 ·obtain⟨e1,e2⟩:=Lease.one hL hl'.er
  omega
 ·obtain⟨e1,e2⟩:=Lease.one hL hl'.er
  subst e1 e2
  have ig:i∉[g]:=λw=>by
   rw[z7C.mp w,B.lst] at hi;cases hi
  have hi1:=ch.get hi ig
  refine Zv (a:=(h,b,b+n)) hi1 z6D ⟨h0',h1',b0',by show b<b+n;omega,bx'⟩ λμ2 ch2 hl2 h3=>?_
  have il:i<μ.length:=(z7v.mp hi).1
  refine q μ2 a ((ch.mono (by simp)).trans (ch2.mono (by simp))) (B1.ch ch2 ?_ ?_ λp hp=>?_) h3
  ·intro w;rw[←z7C.mp w,B1.com] at hi1;cases hi1
  ·intro w;rw[←z7C.mp w,B1.lst] at hi1;cases hi1
  ·intro w;rw[←z7C.mp w,B1.at_ p hp] at hi1;cases hi1
theorem z1E{E:En}{ho:Str}{a:Ls}{mm nn:Option Int}{r k cc:Int}(sz:Hz x y z)(hb:x * z<1000000000000000000000000000000000000000000000000000000000000)(ok:LsOk x y a)(hi:μ[i]?=some (hs7 x y z (some a) mm nn))(hn:∀k,nn=some k->0<=k/\k<x * y * z)(nm:nn=none->mm=none)(hr:a.2.1<=r)(hu:r<a.2.2)(k1:1<=k)(k3:k<=1000)(hc:AtC y z a nn none r cc)(ck:cc+k<=z){td:List (Str×Int)}(tw:μ[w]?=some (.lst (td.map prT)))(tl:td.length<=500000)
  (q:∀μ' mb,Ch [w,i] μ μ'->μ'[i]?=some (hs7 x y z (some a) (some mb) (some (nmA y z a.1 (r * z+cc+k-1))))->μ'[w]?=some (.lst ((td++(nmL y z a.1 (r * z+cc) k).map λv=>(ho,v)).map prT))->
   E.nx [o0,o1,some (.mut c),some (.mut d),some (.mut w),some (Row.ask ho r k).t,some (.str ho),some (.mut i)] μ') :
  zQ (Jt.drop 2) [o0,o1,some (.mut c),some (.mut d),some (.mut w),some (Row.ask ho r k).t,some (.str ho),some (.mut i)] μ E:=by
 have hc':AtC y z a nn mm r cc:=by
  cases nn with
  |none=>rw[nm rfl];exact hc
  |some v=>exact hc
 refine⟨_,rfl,?_⟩
 refine⟨⟨_,tw⟩,?_⟩
 refine⟨_,hi,?_⟩
 refine⟨_,rfl,_,rfl,?_⟩
 refine z0g sz hb ok z6D hi hn (z8u _) hr hu k1 k3 hc' ck λμ1 mb ch hl h1=>?_
 refine⟨by rw[z7B,jc];unfold room;omega,?_⟩
 refine qM (λv:Int=>T.int v) (λv=>some (prT (ho,v))) (λv _ kk hkk=>⟨_,rfl,hkk⟩) ?_ trivial
 rw[z8w]
 have wi:w∉[i]:=λe=>by rw[z7C.mp e,hi] at tw;cases tw
 have tw1:=ch.get tw wi
 refine⟨_,_,tw1,.inl rfl,by simp only[z7B,jc];unfold room;omega,?_⟩
 refine q _ mb ((ch.mono (by simp)).trans (Ch.set.mono (by simp))) ?_ ?_
 ·rw[z81 (by intro e;exact wi (by simp[e]))];exact h1
 ·rw[get_set tw1,z86,z9g];rfl
theorem z1D{E:En}{r:Row}(sz:Hz x y z)(hb:x * z<1000000000000000000000000000000000000000000000000000000000000)(P:PM μ L c g d w x y z s ps kvs)(wf:WF x y z s)(h:Sp7 x y z r s t)(hl:ps.length<63)(hk:kvs.length<=1000)(tl:s.td.length<=500000)(lL:L<=μ.length)(gL:L<=g)(dL:L<=d)(wL:L<=w){μ0:Mem}(l0:μ0.length=L)(c0:Ch [] μ0 μ)
  (q:∀μ' ps' kvs' o6 o7,PM μ' L c g d w x y z t ps' kvs'->ps'.length<=ps.length+1->kvs'.length<=kvs.length+1->t.td.length<=s.td.length+1000->L<=μ'.length->Ch [] μ0 μ'->
   E.nx [some (shp x y z),o1,some (.mut c),some (.mut d),some (.mut w),some r.t,o6,o7] μ') :
  zQ Jt [some (shp x y z),o1,some (.mut c),some (.mut d),some (.mut w),some r.t,o6,o7] μ E:=by
 have dg:d≠g:=λe=>by have:=P.hd;rw[e,P.B.lst] at this;cases this
 have noD:∀l m n,μ[d]?≠some (hs7 x y z l m n):=λl m n e=>by rw[P.hd] at e;cases e
 have noG:∀l m n,μ[g]?≠some (hs7 x y z l m n):=λl m n e=>by rw[P.B.lst] at e;cases e
 have noW:∀l m n,μ[w]?≠some (hs7 x y z l m n):=λl m n e=>by rw[P.tw] at e;cases e
 have sub:∀{S:List Nat} {μ':Mem},Ch S μ μ'->(∀j∈S,L<=j)->L<=μ'.length/\Ch [] μ0 μ':=λ{S μ'} ch hS=>⟨z7V lL ch.len,Ch.geS7 c0 ch λj hj=>by rw[l0];exact hS j hj⟩
 cases r with
 |lease ho hs m n=>
  obtain⟨o,hh,n1,h,b,h0,h1,b0,bx,hL,rfl⟩:=h
  rw[←P.eG] at hL
  refine⟨_,rfl,?_⟩
  refine yf P.H P.hd hk o (λi hi=>?_) λhno μ1 ch1 d1 h2=>?_
  ·cases e:s.hm ho with
   |none=>rw[P.H.no ho e] at hi;cases hi
   |some hh0=>
    obtain⟨i',mm,i1,i2,i3⟩:=P.H.so ho hh0 e
    rw[hi] at i1;cases i1
    refine Qb P.B P.tab (by omega) o hh n1 h1 bx hL i2 λμ2 a ch2 B2 h3=>?_
    have iL:=P.lo ho i hi
    have sb:=sub ch2 (λj hj=>by simp at hj;rcases hj with rfl|rfl<;>assumption)
    refine q μ2 _ kvs _ _ ⟨B2,by rw[W9,P.eG],ch2.get P.hd ?_,?_,P.lo,ch2.get P.tw ?_,P.gw,?_⟩ (by simp) (by omega) (by show s.td.length<=_;omega) sb.1 sb.2
    ·intro e;simp at e;rcases e with e|e
     ·exact dg e
     ·exact noD _ _ _ (e▸i2)
    ·have:upH s.hm ho ⟨(h,b,b+n),(s.hm ho).bind Hs.n⟩=upH s.hm ho ⟨(h,b,b+n),hh0.n⟩:=by rw[e];rfl
     show HD μ2 x y z kvs (upH s.hm ho ⟨(h,b,b+n),(s.hm ho).bind Hs.n⟩)
     rw[this]
     refine HD.up P.H ch2 hi (λ_ _=>rfl) h3 i3 (λj hj=>?_) λho' i' ne e2 e3=>ne (P.H.inj _ _ _ e2 (e3▸hi))
     simp at hj;rcases hj with rfl|rfl
     ·exact .inr noG
     ·exact .inl rfl
    ·intro e;simp at e;rcases e with e|e
     ·exact P.gw e.symm
     ·exact noW _ _ _ (e▸i2)
    ·refine ch2.get P.tab ?_
     intro e;simp at e;rcases e with e|e
     ·have:=P.B.lst;rw[←e,P.tab] at this;cases this
     ·rw[←e,P.tab] at i2;cases i2
  ·have gd:g∉[d]:=by simpa using dg.symm
   have cd:c∉[d]:=λe=>by have:=P.B.com;rw[z7C.mp e,P.hd] at this;cases this
   have B1:=P.B.ch ch1 cd gd λp hp e=>by have:=P.B.at_ p hp;rw[z7C.mp e,P.hd] at this;cases this
   have t1:=ch1.get P.tab (λe=>by have:=P.hd;rw[←z7C.mp e,P.tab] at this;cases this)
   have w1:=ch1.get P.tw (λe=>by have:=P.hd;rw[←z7C.mp e,P.tw] at this;cases this)
   refine Qb B1 t1 (by omega) o hh n1 h1 bx hL h2 λμ2 a ch2 B2 h3=>?_
   have gl:g<μ.length:=(z7v.mp P.B.lst).1
   have wl:w<μ.length:=(z7v.mp P.tw).1
   have dl:d<μ.length:=(z7v.mp P.hd).1
   have sb1:=sub ch1 (λj hj=>by rw[z7C.mp hj];exact dL)
   have c2:Ch [] μ0 μ2:=Ch.geS7 sb1.2 ch2 λj hj=>by simp at hj;rcases hj with rfl|rfl<;>omega
   have ch12:Ch [d,g,μ.length] μ μ2:=(ch1.mono (by simp)).trans (ch2.mono (by simp))
   refine q μ2 _ _ _ _ ⟨B2,by rw[W9,P.eG],ch2.get d1 (by simp;omega),?_,λho' i' e=>?_,ch2.get w1 (by simp;exact⟨P.gw.symm,by omega⟩),P.gw,ch2.get t1 ?_⟩ (by simp) (vO) (by show s.td.length<=_;omega) (z7V sb1.1 ch2.len) c2
   ·have:upH s.hm ho ⟨(h,b,b+n),(s.hm ho).bind Hs.n⟩=upH s.hm ho ⟨(h,b,b+n),none⟩:=by rw[hno];rfl
    show HD μ2 x y z _ (upH s.hm ho ⟨(h,b,b+n),(s.hm ho).bind Hs.n⟩)
    rw[this]
    refine HD.up (m:=none) P.H ch12 (by rw[wc,if_pos rfl]) (λho' ne=>by rw[wc,if_neg (by intro e;exact ne (by injection e))]) h3 (λ_=>rfl) (λj hj=>?_) λho' i' ne e2 e3=>?_
    ·simp at hj;rcases hj with rfl|rfl|rfl
     ·exact .inr noD
     ·exact .inr noG
     ·exact .inl rfl
    ·cases e4:s.hm ho' with
     |none=>rw[P.H.no _ e4] at e2;cases e2
     |some hh4=>
      obtain⟨j,_,j1,j2,_⟩:=P.H.so _ _ e4
      rw[e2] at j1;cases j1
      have:=(z7v.mp j2).1
      omega
   ·rw[wc] at e
    by_cases q:(zbB ho':Key)=.inr ho
    ·rw[if_pos q] at e;cases e;exact lL
    ·rw[if_neg q] at e;exact P.lo _ _ e
   ·intro e;simp at e;rcases e with e|e
    ·have:=P.B.lst;rw[←e,P.tab] at this;cases this
    ·have:=(z7v.mp P.tab).1;omega
 |ask ho r k=>
  obtain⟨o,hh,cc,e0,r0,r1,k1,k2,ck,at_,rfl⟩:=h
  obtain⟨i,mm,i1,i2,i3⟩:=P.H.so ho hh e0
  have iL:=P.lo ho i i1
  refine⟨_,rfl,?_⟩
  refine yf P.H P.hd hk o (λi' hi'=>?_) λhno _ _ _ _=>by rw[hno] at e0;cases e0
  rw[i1] at hi';cases hi'
  refine z1E sz hb (wf.ls _ _ e0) i2 (λv e=>wf.nm _ _ _ e0 e) i3 r0 r1 k1 k2 at_ ck P.tw tl λμ2 mb ch2 h3 w2=>?_
  have sb:=sub ch2 (λj hj=>by simp at hj;rcases hj with rfl|rfl<;>assumption)
  have nw:∀j,(∀l m n,μ[j]?≠some (hs7 x y z l m n))->j≠w->j∉[w,i]:=λj hj e1 e=>by
   simp at e;rcases e with e|e
   ·exact e1 e
   ·exact hj _ _ _ (e▸i2)
  have td:d≠w:=λe=>by have:=P.hd;rw[e,P.tw] at this;cases this
  have B2:Bk μ2 c g (shp x y z) ps:=by
   refine P.B.ch ch2 (nw c (λl m n e=>by rw[P.B.com] at e;cases e) λe=>?_) (nw g noG P.gw) λp hp=>nw _ (λl m n e=>by rw[P.B.at_ p hp] at e;cases e) λe=>?_
   ·have:=P.B.com;rw[e,P.tw] at this;cases this
   ·have:=P.B.at_ p hp;rw[e,P.tw] at this;cases this
  have T2:μ2[0]?=some (.tab 0):=by
   refine ch2.get P.tab (nw 0 (λl m n e=>by rw[P.tab] at e;cases e) λe=>?_)
   have:=P.tab;rw[e,P.tw] at this;cases this
  refine q μ2 ps kvs _ _ ⟨B2,P.eG,ch2.get P.hd (nw d noD td),?_,P.lo,w2,P.gw,T2⟩ (by omega) (by omega) ?_ sb.1 sb.2
  ·refine HD.up P.H ch2 i1 (λ_ _=>rfl) h3 (λe=>by cases e) (λj hj=>?_) λho' i' ne e2 e3=>ne (P.H.inj _ _ _ e2 (e3▸i1))
   simp at hj;rcases hj with rfl|rfl
   ·exact .inr noW
   ·exact .inl rfl
  ·show (s.td++_).length<=_
   rw[z8b,z7B,jc]
   omega
end
section
variable {μ μ1 μ2:Mem}{K:T->Mem->Prop}{Z:Xp}{x y z:Int}{i c g d w L r0:Nat}{kvs:List (Key×T)}{s t:S7}{ps:List Gp}{rs:List Row}
theorem Wx(sz:Hz x y z)(hb:x * z<WV)(tab:μ[0]?=some (.tab 0))(hr:μ[r0]?=some (.lst (rs.map Row.t)))(hl:rs.length<=200)(hG:t.G.length<=62)(run:Run7 x y z rs s70 t)(q:∀μ' j,Ch [] μ μ'->μ.length<=j->μ'[j]?=some (.lst (t.td.map prT))->t.td.length<=200000->K (.mut j) μ'):kq [shp x y z,.mut r0] μ K Z:=by
 unfold kq
 refine⟨rfl,?_⟩
 refine Wk hr (by omega) ?_
 refine vX ?_
 refine⟨rfl,?_⟩
 generalize hμ:μ++[MO.obj 43 [(9,shp x y z),(10,.mut (μ.length+1))],.lst []]=μ1
 have l1:μ1.length=μ.length+2:=by rw[←hμ];simp
 have ch1:Ch [] μ μ1:=by
  rw[←hμ]
  exact⟨by simp,λj hj _=>z7F hj⟩
 have g1:μ1[μ.length]?=some (MO.obj 43 [(9,shp x y z),(10,.mut (μ.length+1))]):=by
  rw[←hμ,z7L (z7D _)];simp
 have g2:μ1[μ.length+1]?=some (MO.lst []):=by
  rw[←hμ,z7L (by omega)];simp
 have P0:PM (μ1++[MO.dic []]++[.lst []]) μ.length μ.length (μ.length+1) μ1.length (μ1++[MO.dic []]).length x y z s70 [] []:=by
  refine⟨⟨zd (zd g1),zd (zd g2),by simp,by simp⟩,rfl,zd zu,⟨λ_ _=>rfl,λho hh e=>(by simp[s70] at e),λho ho' i e=>(by cases e)⟩,λho i e=>(by cases e),zu,(by simp;omega),zd (zd (ch1.get tab (by simp)))⟩
 refine⟨_,zd (zd (ch1.get hr (by simp))),?_⟩
 refine zU (λj τ μ'=>∃(s:S7) (ps:List Gp) (kvs:List (Key×T)) (o5 o6 o7:Option T),τ=[some (shp x y z),some (.mut r0),some (.mut μ.length),some (.mut μ1.length),some (.mut (μ1++[MO.dic []]).length),o5,o6,o7]/\Run7 x y z (rs.drop j) s t/\WF x y z s/\PM μ' μ.length μ.length (μ.length+1) μ1.length (μ1++[MO.dic []]).length x y z s ps kvs/\kvs.length<=j/\s.td.length<=1000 * j/\μ.length<=μ'.length/\Ch [] μ μ')
  ⟨s70,[],[],_,_,_,rfl,run,⟨λho hh e=>(by simp[s70] at e),λho hh v e=>(by simp[s70] at e)⟩,P0,by simp,(by simp[s70]),(by simp;omega),(ch1.trans Ch.app).trans Ch.app⟩ ?_ ?_ ?_
 ·rintro j u τ μ' hx ⟨s,ps,kvs,o5,o6,o7,rfl,rn,wf,P,h2,h3,h4,h5⟩ N hN
  rw[z83] at hx
  obtain⟨r,hr,rfl⟩:=z8Z.mp hx
  obtain⟨hj,er⟩:=z7v.mp hr
  have gl:=rn.glen
  have pl:ps.length=s.G.length:=by rw[←P.eG];show _=(List.map _ ps).length;rw[z7B]
  rw[z8x hj,er] at rn
  obtain⟨m,sp,rn⟩:=rn
  refine⟨_,rfl,?_⟩
  exact z1D sz hb P wf sp (by omega) (by omega) (by omega) h4 (by omega) (by omega) (by simp;omega) rfl h5 λμ2 ps' kvs' p6 p7 P2 e1 e2 e3 e4 e5=>hN _ _ ⟨m,ps',kvs',_,_,_,rfl,rn,sp.wf sz wf,P2,by omega,by omega,e4,e5⟩
 ·rintro τ μ' ⟨s,ps,kvs,o5,o6,o7,rfl,rn,wf,P,h2,h3,h4,h5⟩
  rw[z7B] at rn h3
  rw[zbv] at rn
  have e:t=s:=rn
  rw[e] at q
  exact q μ' _ h5 (by simp;omega) P.tw (by omega)
 ·rintro j τ μ' ⟨s,ps,kvs,o5,o6,o7,rfl,rn,wf,P,h2,h3,h4,h5⟩
  exact h5.get hr (by simp)
end
section
variable {μ μ1 μ2:Mem}{K:T->Mem->Prop}{Z:Xp}{x y z:Int}{s t:S7}{rs:List Row}{dn es td:List (Str×Int)}{la:Str->Option Int}{ho:Str}{v:Int}{i j d w w2:Nat}
theorem U0(sz:Hz x y z)(hb:x * z<WV)(tab:μ[0]?=some (.tab 0))(rl:rs.length<=200)(gl:s.G.length<=62)(hj:μ[j]?=some (.lst (rs.map Row.t)))(R:RO x y z es la rs s)(q:∀μ',Ch [] μ μ'->K (.bl true) μ'):qF [shp x y z,.lst (es.map prT),.tup [.str "right",.mut j]] μ K Z:=by
 unfold qF
 refine⟨rfl,?_⟩
 refine⟨_,rfl,?_⟩
 refine⟨_,rfl,?_⟩
 refine⟨_,hj,?_⟩
 refine⟨_,rfl,?_⟩
 refine Wx sz hb tab hj rl gl R.run λμ1 j1 ch l1 h1 _=>?_
 refine VY h1 λb hb=>?_
 rw[hb.mpr R.td]
 exact q _ ch
theorem VG(sz:Hz x y z)(hb:x * z<WV)(tab:μ[0]?=some (.tab 0))(hl:es.length<=62)(hj:μ[j]?=some (.lst (rs.map Row.t)))(R:RO x y z es la rs s)(q:∀μ',Ch [] μ μ'->K (.bl true) μ'):qF [shp x y z,.lst (es.map prT),.tup [.str "right",.mut j]] μ K Z:=by
 have rl:=R.rl
 have gl:=R.gl
 exact U0 sz hb tab (by omega) (by omega) hj R q
end
end NH.P
end
section
namespace NH.P
open PySem L2 NH
variable {μ μ1 μ2:Mem}{K:T->Mem->Prop}{Z:Xp}{x y z:Int}{s t:S7}{rs:List Row}{dn es td:List (Str×Int)}{la:Str->Option Int}{ho:Str}{v:Int}{i j d w w2:Nat}
theorem Sp7.ok{r:Row}(sz:Hz x y z)(wf:WF x y z s)(I:∀e∈s.td,EOk x y z e)(h:Sp7 x y z r s t):∀e∈t.td,EOk x y z e:=by
 cases r with
 |lease ho hs m n=>
  obtain⟨o,hh,n1,h,b,h0,h1,b0,bx,hL,rfl⟩:=h
  exact I
 |ask ho r k=>
  obtain⟨o,hh,cc,e0,r0,r1,k1,k2,ck,at_,rfl⟩:=h
  have ok:=wf.ls _ _ e0
  have z1:=sz.z1
  have f0:=ok.f0
  have c0:0<=cc:=by rcases at_ with q|q<;>omega
  intro e he
  rcases z7H.mp he with he|he
  ·exact I e he
  ·obtain⟨v,hv,rfl⟩:=z8n.mp he
   unfold nmL at hv
   obtain⟨j,hj,rfl⟩:=z8n.mp hv
   have hj:=z9J.mp hj
   have rz:0<=r * z:=z8P (by omega) (by omega)
   have uz:=z7Y (show r+1<=x by have:=ok.ux;omega) (show 0<=z by omega)
   rw[z9s,z9t] at uz
   have:=z2a (p:=r * z+cc+j) sz ok.h0 ok.h1 (by omega) (by omega)
   exact⟨o,this.1,this.2⟩
theorem Uz(sz:Hz x y z){t:S7}:∀{rs:List Row} {s:S7},WF x y z s->(∀e∈s.td,EOk x y z e)->Run7 x y z rs s t->∀e∈t.td,EOk x y z e
 |[],s,_,I,h=>by cases h;exact I
 |r::rs,s,wf,I,⟨u,h1,h2⟩=>Uz sz (h1.wf sz wf) (h1.ok sz wf I) h2
theorem z1M(sz:Hz x y z)(run:Run7 x y z rs s70 s):∀e∈s.td,EOk x y z e:=
 Uz sz ⟨λho hh e=>(by simp[s70] at e),λho hh v e=>(by simp[s70] at e)⟩ (by simp[s70]) run
theorem XZ{α β:Type}(f:α->β)(xs:List α)(is:List Nat):zI is (xs.map f)=(zI is xs).map f:=by
 unfold zI
 rw[List.map_filterMap]
 congr 1
 funext i
 rw[z83]
theorem Wq(q:∀b:Str,b≠ho->HoOk b->K (.str b) μ):kZ [.str ho] μ K Z:=by
 unfold kZ
 refine⟨rfl,?_⟩
 by_cases e:ho="other"
 ·have:w_ [T.str "other",T.str "anna"] (if decide (ho="other") then 1 else 0)=some (.str "anna"):=by rw[decide_eq_true e];rfl
  exact⟨_,this,q _ (by rw[e];decide) ⟨by decide,by decide +kernel⟩⟩
 ·have:w_ [T.str "other",T.str "anna"] (if decide (ho="other") then 1 else 0)=some (.str "other"):=by rw[decide_eq_false e];rfl
  exact⟨_,this,q _ (λh=>e h.symm) ⟨by decide,by decide +kernel⟩⟩
theorem Vi{v':Int}(h:v'<=v):qy y z (ho,v) (ho,v')=false:=by
 unfold qy
 rw[if_pos rfl]
 exact decide_eq_false (by show ¬v<v';omega)
theorem Q5{b:Str}{v':Int}(h:b≠ho)(h1:v' / z / y=v / z / y)(h2:v' / z % y=v / z % y):qy y z (ho,v) (b,v')=false:=by
 unfold qy
 rw[if_neg (λe=>h e.symm)]
 show (!(decide (v / z / y=v' / z / y)&&decide (v / z % y=v' / z % y)))=false
 rw[h1,h2];simp
theorem Jg{at_ cell:Int}{k:Nat}(sz:Hz x y z)(ok:∀e∈es,EOk x y z e)(hk:es[k]?=some (ho,v))(ek:at_=k)(q:∀b,EOk x y z b->qy y z (ho,v) b=false->K (prT b) μ):jd [shp x y z,.lst (es.map prT),.int at_,.int cell] μ K Z:=by
 subst ek
 have E:=ok _ (z7P hk)
 have v0:0<=v:=E.v0
 have v1:v<x * y * z:=E.v1
 have P:=Yu sz v0 v1
 have z1:=sz.z1
 unfold jd
 refine⟨rfl,?_⟩
 refine⟨_,wX hk,?_⟩
 refine⟨_,rfl,?_⟩
 refine qw sz v0 v1 ?_
 refine⟨_,rfl,?_⟩
 refine zB (by decide) λd0 d00=>?_
 refine⟨by decide,?_⟩
 have last:∀o9 o10,zQ (vZ.drop 6) [some (shp x y z),some (.lst (es.map prT)),some (.int k),some (.int cell),some (.str ho),some (.int v),some (.int (v / z / y)),some (.int (v / z % y)),some (.int (v % z)),o9,o10] μ (En.fn K Z):=by
  intro o9 o10
  refine zB (by decide) λd2 d20=>?_
  refine⟨by show 0<z;omega,?_⟩
  have n2:=z7Q d2 (show z≠0 by omega)
  have l2:=z7R d2 (show 0<z by omega)
  refine jG sz P.m0 P.m1 P.h0 P.h1 n2 l2 ?_
  refine Wq λb hb ho'=>?_
  have np:=ub (x:=x) P.m0 P.m1 P.h0 P.h1 n2 l2
  exact q (b,(v / z / y * y+v / z % y) * z+d2 % z) ⟨ho',np.1,np.2.1⟩ (Q5 hb (by rw[np.2.2.1,np.2.2.2.1]) (by rw[np.2.2.1,np.2.2.2.2]))
 refine zx (λe=>?_) (λe=>?_)
 ·exact q (ho,v) E (Vi (z8u _))
 refine zx (λe1=>?_) (λe1=>?_)
 ·refine Wq λb hb ho'=>?_
  exact q (b,v) ⟨ho',v0,v1⟩ (Q5 hb rfl rfl)
 refine zx (λe2=>?_) (λe2=>?_)
 ·refine zx (λe3=>?_) (λe3=>?_)
  ·have e3:0<v:=e3
   refine zB (by decide) λd1 d10=>?_
   have mp:0<(if (2147483647:Int)<v then 2147483647 else v):=by split<;>omega
   refine⟨mp,?_⟩
   have n1:=z7Q d1 (show (if (2147483647:Int)<v then 2147483647 else v)≠0 by omega)
   have l1:=z7R d1 mp
   have l2:(if (2147483647:Int)<v then 2147483647 else v)<=v:=by split<;>omega
   refine q (ho,d1 % (if (2147483647:Int)<v then 2147483647 else v)) ⟨E.o,n1,?_⟩ (Vi ?_)
   ·show d1 % _<x * y * z;omega
   ·omega
  ·exact last _ _
 ·exact last _ _
theorem z21{b a:Str×Int}{k p:Nat}(hk:es[k]?=some a)(kp:k<p)(pl:p<=es.length)(bad:qy y z a b=false):¬AllT y z (es.take p++b::es.drop p):=λA=>by
 have tl:(es.take p).length=p:=by rw[z8r];omega
 have:=A k p a b kp (by rw[z7F (by omega),z8L,if_pos kp];exact hk) (by rw[z7L (by omega),tl];simp)
 rw[bad] at this;cases this
theorem z6c{α:Type}{xs:List α}:(jj xs (some 2) (some 40)).length<=40:=by
 unfold jj KZ
 rw[z8r]
 simp
 omega
theorem z1f:Jw kC:=by
 intro ns hns
 unfold kC
 refine⟨rfl,?_⟩
 refine kG (by decide) λc0=>?_
 refine QU λx y z far many sz zl hb m1=>?_
 refine⟨_,rfl,?_⟩
 refine z1j (Kz _ _ _ _) ?_
 refine UH sz (by omega) m1 rfl z6c λμ1 wr wg rs s hr hg tab rl tl run=>?_
 refine⟨_,rfl,?_⟩
 refine kG (by decide) λc1=>?_
 refine zB (by decide) λd0 d00=>?_
 refine⟨by decide,?_⟩
 have n0:=z7Q d0 (show (4:Int)≠0 by decide)
 refine⟨_,_,hg,⟨rfl,by omega⟩,?_⟩
 have sub:((zI (xE (s.td.map prT).length (1+d0 % 4)) s.td).take 30).Sublist s.td:=(zcL _ _).trans (jY (Ku (by omega)))
 have ex:jj (zI (xE (s.td.map prT).length (1+d0 % 4)) (s.td.map prT)) none (some 30)=((zI (xE (s.td.map prT).length (1+d0 % 4)) s.td).take 30).map prT:=by
  rw[z10 (by decide),XZ,←zcn];rfl
 have el:((zI (xE (s.td.map prT).length (1+d0 % 4)) s.td).take 30).length<=30:=by rw[z8r];omega
 show zQ (xq.drop 3) [some (.lst (ns.map T.int)),some (shp x y z),some (.int far),some (.int many),some (.mut wr),some (.mut wg),some (.lst (jj (zI (xE (s.td.map prT).length (1+d0 % 4)) (s.td.map prT)) none (some 30))),none,none,none,none] μ1 _
 rw[ex]
 generalize ((zI (xE (s.td.map prT).length (1+d0 % 4)) s.td).take 30)=es at sub el
 have ok:∀e∈es,EOk x y z e:=λe he=>z1M sz run e (sub.subset he)
 have A:AllT y z es:=PwT.all ((z2x sz run).sublist sub)
 refine⟨z2y _,_,K6,?_⟩
 refine qa (λe=>?_) (λe=>?_)
 ·refine z0B (es:=[]) rfl ?_
  refine Z2 sz zl (by simp) (by simp) (λi j fb=>absurd fb.jl (by simp)) λ_ μ2 j rs s la ch2 hj R=>?_
  exact⟨_,rfl,rfl⟩
 have e1:0<es.length:=by
  cases es with
  |nil=>cases e
  |cons=>simp
 refine Z2 sz zl ok (by omega) (λi j fb=>(fb.all A).elim) λ_ μ2 j rs2 s2 la ch2 hj R=>?_
 have tab2:=ch2.get tab (by simp)
 refine VG sz hb tab2 (by omega) hj R λμ3 ch3=>?_
 have tab3:=ch3.get tab2 (by simp)
 refine zU (λn τ μ'=>∃o7 o8 o9 o10:Option T,τ=[some (.lst (ns.map T.int)),some (shp x y z),some (.int far),some (.int many),some (.mut wr),some (.mut wg),some (.lst (es.map prT)),o7,o8,o9,o10]) ⟨_,_,_,_,rfl⟩ ?_ ?_
 ·rintro n u τ μ' hx ⟨o7,o8,o9,o10,rfl⟩ N hN
  obtain⟨cell,rfl⟩:=z1P hx
  refine⟨_,rfl,?_⟩
  refine zB (by decide) λd1 d10=>?_
  refine⟨by show 0<((es.map prT).length:Int);rw[z7B];omega,?_⟩
  have n1:=z7Q d1 (show ((es.map prT).length:Int)≠0 by rw[z7B];omega)
  have l1:=z7R d1 (show 0<((es.map prT).length:Int) by rw[z7B];omega)
  generalize ea:d1 % ((es.map prT).length:Int)=at_ at n1 l1 ⊢
  rw[z7B] at l1
  obtain⟨⟨ho,v⟩,ha⟩:=j4 (es:=es) (i:=at_.toNat) (by omega)
  refine⟨⟨_,zu⟩,?_⟩
  refine zB (by decide) λd2 d20=>?_
  have lp:0<((es.map prT).length:Int)-at_:=by rw[z7B];omega
  refine⟨lp,?_⟩
  have n2:=z7Q d2 (show ((es.map prT).length:Int)-at_≠0 by omega)
  have l2:=z7R d2 lp
  generalize d2 % (((es.map prT).length:Int)-at_)=q2 at n2 l2 ⊢
  rw[z7B] at l2
  refine Jg sz ok ha (by omega) λb hb' bad=>?_
  have pb:(at_+1+q2).toNat<=es.length:=by omega
  refine⟨_,zu,⟨by omega,by rw[z7B];omega,by rw[z7B];unfold room;omega⟩,?_⟩
  have hw:((μ'++[MO.lst (es.map prT)]).set μ'.length (.lst ((es.map prT).take (at_+1+q2).toNat++prT b::(es.map prT).drop (at_+1+q2).toNat)))[μ'.length]?=some (.lst ((es.take (at_+1+q2).toNat++b::es.drop (at_+1+q2).toNat).map prT)):=by
   rw[get_set zu,z86,z82,zcn,zen]
  have no:=z21 (y:=y) (z:=z) ha (show at_.toNat<(at_+1+q2).toNat by omega) pb bad
  have ok2:∀e∈es.take (at_+1+q2).toNat++b::es.drop (at_+1+q2).toNat,EOk x y z e:=λe he=>by
   rcases z7H.mp he with he|he
   ·exact ok e (z9d he)
   ·rcases z88.mp he with rfl|he
    ·exact hb'
    ·exact ok e (zaD he)
  have l3:(es.take (at_+1+q2).toNat++b::es.drop (at_+1+q2).toNat).length<=40:=by
   rw[z8b,z7X,z8r,zax];omega
  generalize es.take (at_+1+q2).toNat++b::es.drop (at_+1+q2).toNat=fs at no ok2 l3 hw
  refine z6k sz hw ok2 (by omega) (λi j fb=>?_) λA'=>(no A').elim
  refine⟨_,hw,?_⟩
  refine Z2 sz zl ok2 (by omega) (λi' j' fb'=>?_) λA'=>(no A').elim
  obtain⟨rfl,rfl⟩:=fb'.one fb
  refine⟨by show (0:Nat)<=40;decide,_,z6t,?_⟩
  exact hN _ _ ⟨_,_,_,_,rfl⟩
 ·rintro τ μ' ⟨o7,o8,o9,o10,rfl⟩
  rfl
end NH.P
namespace NH.K75
open PySem L2 NH NH.P
theorem tells:Jw kC:=z1f
end NH.K75
end
section
namespace NH.K75
open PySem PySem.Spec PyProof.Rows L2 NH NH.P PySem.W
theorem z6h{P:List Value->Prop}(h:∀a0,P [a0]):∀us:List Value,us.length=1->P us:=PL.all (n:=1) h
theorem z7q{P:List Value->Prop}(h:∀a0 a1,P [a0,a1]):∀us:List Value,us.length=2->P us:=PL.all (n:=2) h
theorem z3_{P:List Value->Prop}(h:∀a0 a1 a2,P [a0,a1,a2]):∀us:List Value,us.length=3->P us:=PL.all (n:=3) h
theorem z7a{P:List Value->Prop}(h:∀a0 a1 a2 a3 a4,P [a0,a1,a2,a3,a4]):∀us:List Value,us.length=5->P us:=PL.all (n:=5) h
theorem z7c{P:List Value->Prop}(h:∀a0 a1 a2 a3 a4 a5,P [a0,a1,a2,a3,a4,a5]):∀us:List Value,us.length=6->P us:=PL.all (n:=6) h
theorem z2m{P:List Value->Prop}(h:∀a0 a1,P [a0,a1]):∀us:List Value,us.length+1=3->P us:=λus e=>z7q h us (zd0 e)
theorem z6Y{P:List Value->Prop}(h:∀a0 a1 a2 a3 a4,P [a0,a1,a2,a3,a4]):∀us:List Value,us.length+1=6->P us:=λus e=>z7a h us (zd0 e)
theorem all_mk {l:zes} {w:z8s} {K:Frag} {h:Heap} {mg:Str->Option Value} {fa C0 C1 C2 C3 C4 C5 C6 C7 C8 C9 C10 C11 P0 cA0 f0 CC7 CC22 f24 CC26 CC36 f41 CC41 dt41 f51 dt51 f52 dt52 f75:Addr} {od0 an0 od24 an24 od41 an41 te41 od51 an51 te51 od52 an52 te52 od75 an75:Option Addr} {sl0 sl24 sl41 ts41 sl51 ts51 sl52 ts52 sl75:Array (Option Value)} {oc0 kV0 dc0 pm0 cd0 ct0 oc24 kV24 dc24 pm24 ct24 oc41 kV41 dc41 pm41 cd41 ct41 td41 oc51 kV51 dc51 pm51 cd51 ct51 td51 oc52 kV52 dc52 pm52 cd52 ct52 td52 oc75 kV75 dc75 pm75 cd75 ct75:Value} {tk14 tk15 tk16 tk19 tk20 tz51 tz52 tk54:Tok} {tn41 tn51 tn52:Nat} (X:K.In h) (G:h.Ns z7U mg) (hfa:mg "law"=some (.ref fa))
  (e0:nsIn K z7U "HouseError"=some (some (.ref C0)))
  (e1:nsIn K z7U "NoShape"=some (some (.ref C1)))
  (e2:nsIn K z7U "NoName"=some (some (.ref C2)))
  (e3:nsIn K z7U "NoTime"=some (some (.ref C3)))
  (e4:nsIn K z7U "NoHolder"=some (some (.ref C4)))
  (e5:nsIn K z7U "NoLease"=some (some (.ref C5)))
  (e6:nsIn K z7U "Ended"=some (some (.ref C6)))
  (e7:nsIn K z7U "TooMany"=some (some (.ref C7)))
  (e8:nsIn K z7U "Wait"=some (some (.ref C8)))
  (e9:nsIn K z7U "NoNote"=some (some (.ref C9)))
  (e10:nsIn K z7U "Fallen"=some (some (.ref C10)))
  (e11:nsIn K z7U "NoRow"=some (some (.ref C11)))
  (a0:nsIn K z7U "forget"=some (some (.ref f0)))
  (l0:K.lookup f0=some ⟨oc0,od0,.func (fnOf "forget" "forget" (zz vS) (z3 vS) (zj vS) .none kV0 dc0 pm0 an0 cd0 ct0),sl0⟩)
  (c0:zaR K cd0 "forget"=true)
  (k0:z9o K (.ref f0)=true)
  (p3:zG K "is_whole" uI)
  (p4:zG K "is_size" ZQ)
  (p5:zG K "is_from_nought" wZ)
  (p6:zG K "is_below" uZ)
  (p7:Xs K CC7 "Shape" "Shape.__init__" kX)
  (p8:zG K "names_in" yA)
  (p9:zG K "is_name" ZJ)
  (p10:zG K "check_name" kj)
  (p11:zG K "check_part" xc)
  (p12:zG K "name_of" Q3)
  (p13:zG K "parts_of" yN)
  (v14:nsIn K z7U "HOUSE"=some (some (.int 0 tk14)))
  (v15:nsIn K z7U "FIRST"=some (some (.int 1 tk15)))
  (v16:nsIn K z7U "UNTIL"=some (some (.int 2 tk16)))
  (p17:zG K "is_lease" yC)
  (p18:zG K "check_lease" jt)
  (v19:nsIn K z7U "LETTERS"=some (some (.str "abcdefghijklmnopqrstuvwxyz" tk19)))
  (v20:nsIn K z7U "LONGEST_HOLDER"=some (some (.int 8 tk20)))
  (p21:zG K "is_holder" yg)
  (p22:Xs K CC22 "Grant" "Grant.__init__" xi)
  (p23:zG K "meets" JX)
  (a24:nsIn K z7U "least_begin"=some (some (.ref f24)))
  (l24:K.lookup f24=some ⟨oc24,od24,.func (fnOf "least_begin" "least_begin" (zz qp) (z3 qp) (zj qp) .none kV24 dc24 pm24 an24 (.ref cA0) ct24),sl24⟩)
  (c24:zaR K (.ref cA0) "least_begin"=true)
  (zt0:zdb K cA0 P0=true)
  (zk0:K.lookup P0=none)
  (zs0:P0≠zdK)
  (k24:z9o K (.ref f24)=true)
  (p25:zG K "least_house" jC)
  (p26:Xs K CC26 "Common" "Common.__init__" jB)
  (p27:vM K CC26 "check_let" "Common.check_let" wu)
  (p28:vM K CC26 "grants_of" "Common.grants_of" wt)
  (p29:vM K CC26 "free_lease" "Common.free_lease" q_)
  (p30:vM K CC26 "let" "Common.let" k8)
  (p31:vM K CC26 "uncut" "Common.uncut" vW)
  (p32:vM K CC26 "cut" "Common.cut" kW)
  (p33:zG K "is_entry" uL)
  (p34:zG K "check_book" kR)
  (p35:zG K "is_note" Q0)
  (p36:Xs K CC36 "Batch" "Batch.__init__" kh)
  (p37:zG K "name_at" Q9)
  (p38:zG K "names_of_batch" vi)
  (p39:zG K "size_of" ya)
  (p40:zG K "place_above" jy)
  (q41:nsIn K z7U "House"=some (some (.ref CC41)))
  (i41:z84 K (.ref CC41) "__init__"=some (some (.ref f41)))
  (j41:isFn K (.ref f41)=true)
  (l41:K.lookup f41=some ⟨oc41,od41,.func (fnOf "__init__" "House.__init__" (zz zA) (z3 zA) (zj zA) (.ref dt41) kV41 dc41 pm41 an41 cd41 ct41),sl41⟩)
  (d41:K.lookup dt41=some ⟨td41,te41,.seq #[.none] tn41,ts41⟩)
  (c41:zaR K cd41 "House.__init__"=true)
  (k41:z9o K (.ref f41)=true)
  (mk41:zdf K CC41=true)
  (kk41:z9o K (.ref CC41)=true)
  (p42:vM K CC41 "check_up" "House.check_up" ve)
  (p43:vM K CC41 "note" "House.note" kr)
  (p44:vM K CC41 "keep" "House.keep" kM)
  (p45:vM K CC41 "take_lease" "House.take_lease" we)
  (p46:vM K CC41 "check_has_lease" "House.check_has_lease" qv)
  (p47:vM K CC41 "free_place" "House.free_place" wx)
  (p48:vM K CC41 "next_batch" "House.next_batch" qW)
  (p49:vM K CC41 "mark_behind" "House.mark_behind" qY)
  (p50:vM K CC41 "hand_out" "House.hand_out" wm)
  (i51:z84 K (.ref CC41) "ask"=some (some (.ref f51)))
  (j51:isFn K (.ref f51)=true)
  (l51:K.lookup f51=some ⟨oc51,od51,.func (fnOf "ask" "House.ask" (zz zv) (z3 zv) (zj zv) (.ref dt51) kV51 dc51 pm51 an51 cd51 ct51),sl51⟩)
  (d51:K.lookup dt51=some ⟨td51,te51,.seq #[.int 1 tz51] tn51,ts51⟩)
  (c51:zaR K cd51 "House.ask"=true)
  (k51:z9o K (.ref f51)=true)
  (i52:z84 K (.ref CC41) "store"=some (some (.ref f52)))
  (j52:isFn K (.ref f52)=true)
  (l52:K.lookup f52=some ⟨oc52,od52,.func (fnOf "store" "House.store" (zz zp) (z3 zp) (zj zp) (.ref dt52) kV52 dc52 pm52 an52 cd52 ct52),sl52⟩)
  (d52:K.lookup dt52=some ⟨td52,te52,.seq #[.int 1 tz52] tn52,ts52⟩)
  (c52:zaR K cd52 "House.store"=true)
  (k52:z9o K (.ref f52)=true)
  (p53:vM K CC41 "last" "House.last" kg)
  (v54:nsIn K z7U "MOST_COUNTS"=some (some (.int 20 tk54)))
  (p55:zG K "is_run_row" kP)
  (p56:zG K "are_run_rows" v_)
  (p57:zG K "house_of" uP)
  (p58:zG K "played" uk)
  (p59:zG K "run_of" uG)
  (p60:zG K "stand_together" va)
  (p61:zG K "judge" ZM)
  (p62:zG K "_law_cell_at" y7)
  (p63:zG K "_law_draw" WL)
  (p64:zG K "_law_far" J_)
  (p65:zG K "_law_run_shape" jx)
  (p66:zG K "_law_lease_row" jv)
  (p67:zG K "_law_ask_row" xZ)
  (p68:zG K "_law_run" K3)
  (p69:zG K "_law_within" yB)
  (p70:zG K "_law_is_right" j6)
  (p71:zG K "_law_together" xf)
  (p72:zG K "_law_due" Qc)
  (p73:zG K "_law_other" ZY)
  (p74:zG K "_law_bad_row" xX)
  (a75:nsIn K z7U "law"=some (some (.ref f75)))
  (l75:K.lookup f75=some ⟨oc75,od75,.func (fnOf "law" "law" (zz qt) (z3 qt) (zj qt) .none kV75 dc75 pm75 an75 cd75 ct75),sl75⟩)
  (c75:zaR K cd75 "law"=true)
  (k75:z9o K (.ref f75)=true)
  (x0:za3 K C0 qG "ValueError.__new__"=true)
  (x1:za3 K C1 qG "ValueError.__new__"=true)
  (x2:za3 K C2 qG "ValueError.__new__"=true)
  (x3:za3 K C3 qG "ValueError.__new__"=true)
  (x4:za3 K C4 qG "ValueError.__new__"=true)
  (x5:za3 K C5 qG "ValueError.__new__"=true)
  (x6:za3 K C6 qG "ValueError.__new__"=true)
  (x7:za3 K C7 qG "ValueError.__new__"=true)
  (x9:za3 K C9 qG "ValueError.__new__"=true)
  (x10:za3 K C10 qG "ValueError.__new__"=true)
  (x11:za3 K C11 qG "ValueError.__new__"=true)
  (zl:VS K=true)
  (zc:chk K ⟨[(10,C0),(12,C1),(13,C2),(16,C3),(17,C4),(18,C5),(19,C6),(20,C7),(21,C8),(23,C9),(24,C10),(25,C11)],[(40,CC7),(42,CC22),(43,CC26),(44,CC36),(45,CC41)]⟩ cls fld=true)
  (zg:UD K ⟨[(10,C0),(12,C1),(13,C2),(16,C3),(17,C4),(18,C5),(19,C6),(20,C7),(21,C8),(23,C9),(24,C10),(25,C11)],[(40,CC7),(42,CC22),(43,CC26),(44,CC36),(45,CC41)]⟩ ["ValueError","all","bool","int","isinstance","len","list","max","min","range","sorted","str","sum","tuple"] [("HouseError",10),("NoShape",12),("NoName",13),("NoTime",16),("NoHolder",17),("NoLease",18),("Ended",19),("TooMany",20),("NoNote",23),("Fallen",24),("NoRow",25)] [("Wait",21,29)]=true) :
  (VS K=true/\K.lookup P0=none/\P0≠zdK/\∃c,zdb K c P0=true)/\∃fd:z8O,(∀(s:z7y) (v:Value),zb4 s fd ⟨[v],[]⟩ [("_law_script",v)])/\∀base:Heap,K.In base->base.Ns z7U mg->base.BuiltinsAt mg P0->FnOk l.prog w K mg base (CX1 l.prog w) 73 fa fd ["_law_script"] (Jz K P0):=by
 have e:=hfa.symm.trans (zbz X G a75)
 cases e
 have F0:=xt (st:=vS) l0 c0 k0
 have b0:=F0.binds (ps:=["note"]) λ_ _ _ _ _ _=>z6h λ_=>rfl
 have F24:=xt (st:=qp) l24 c24 k24
 have b24:=F24.binds (ps:=["grants","moment","span"]) λ_ _ _ _ _ _=>z3_ λ_ _ _=>rfl
 have b41:=xB (K:=K) (fd:=fnOf "__init__" "House.__init__" (zz zA) (z3 zA) (zj zA) (.ref dt41) kV41 dc41 pm41 an41 cd41 ct41) (ps:=["self","shape","ahead","stride","keeper","note"]) rfl d41 rfl <| z7c λ_ _ _ _ _ _=>⟨_,rfl,rfl⟩
 have bd41:=xx (K:=K) (d:=.none) (fd:=fnOf "__init__" "House.__init__" (zz zA) (z3 zA) (zj zA) (.ref dt41) kV41 dc41 pm41 an41 cd41 ct41) (ps:=["self","shape","ahead","stride","keeper","note"]) rfl d41 rfl <| z6Y λ_ _ _ _ _=>⟨_,rfl,rfl⟩
 have b51:=xB (K:=K) (fd:=fnOf "ask" "House.ask" (zz zv) (z3 zv) (zj zv) (.ref dt51) kV51 dc51 pm51 an51 cd51 ct51) (ps:=["self","reading","many"]) rfl d51 rfl <| z3_ λ_ _ _=>⟨_,rfl,rfl⟩
 have bd51:=xx (K:=K) (d:=.int 1 tz51) (fd:=fnOf "ask" "House.ask" (zz zv) (z3 zv) (zj zv) (.ref dt51) kV51 dc51 pm51 an51 cd51 ct51) (ps:=["self","reading","many"]) rfl d51 rfl <| z2m λ_ _=>⟨_,rfl,rfl⟩
 have b52:=xB (K:=K) (fd:=fnOf "store" "House.store" (zz zp) (z3 zp) (zj zp) (.ref dt52) kV52 dc52 pm52 an52 cd52 ct52) (ps:=["self","reading","many"]) rfl d52 rfl <| z3_ λ_ _ _=>⟨_,rfl,rfl⟩
 have bd52:=xx (K:=K) (d:=.int 1 tz52) (fd:=fnOf "store" "House.store" (zz zp) (z3 zp) (zj zp) (.ref dt52) kV52 dc52 pm52 an52 cd52 ct52) (ps:=["self","reading","many"]) rfl d52 rfl <| z2m λ_ _=>⟨_,rfl,rfl⟩
 have F75:=xt (st:=qt) l75 c75 k75
 have b75:=F75.binds (ps:=["_law_script"]) λ_ _ _ _ _ _=>z6h λ_=>rfl
 refine⟨⟨zl,zk0,zs0,cA0,zt0⟩,⟨fnOf "law" "law" (zz qt) (z3 qt) (zj qt) .none kV75 dc75 pm75 an75 cd75 ct75,λs v=>.of_eq rfl,λbase kb nb nbt=>?_⟩⟩
 have Z:Pk RU K mg base _ _ _:=⟨uD,kb,nb,zc⟩
 have g0:GsOk l.prog w K mg base ⟨[(10,C0),(12,C1),(13,C2),(16,C3),(17,C4),(18,C5),(19,C6),(20,C7),(21,C8),(23,C9),(24,C10),(25,C11)],[(40,CC7),(42,CC22),(43,CC26),(44,CC36),(45,CC41)]⟩ (uU (([(P0,[⟨100,36,100,64⟩],((("least_begin":Str)++".<locals>.")++"<lambda>"))]:List (Addr×List Pos×Str)).map (·.2.2)) (some f0)) 0 gs0 (λj=>([(P0,[⟨100,36,100,64⟩],((("least_begin":Str)++".<locals>.")++"<lambda>"))]:List (Addr×List Pos×Str))[j]?):=V_ kb nb zg ⟨⟨C0,rfl,x0⟩,⟨C1,rfl,x1⟩,⟨C2,rfl,x2⟩,⟨C3,rfl,x3⟩,⟨C4,rfl,x4⟩,⟨C5,rfl,x5⟩,⟨C6,rfl,x6⟩,⟨C7,rfl,x7⟩,⟨C9,rfl,x9⟩,⟨C10,rfl,x10⟩,⟨C11,rfl,x11⟩,trivial⟩
 have W0:FnOk l.prog w K mg base (CX1 l.prog w) 1 f0 _ ["note"] (spN _ 1 forget):=vG (m:=0) uD (yG (N:=["note"]) (G:=[]) (cel:=[]) (own:=[]) (lam:=none) kb nb zc g0) l0 c0 rfl rfl XT
 have g1:GsOk l.prog w K mg base _ _ 1 gs1 _:=GsOk.add (g0.mono (by decide)) ⟨f0,zbz kb nb a0,_,_,1,k0,b0,by decide,W0,qB⟩ rfl
 have g2:GsOk l.prog w K mg base _ _ 1 gs2 _:=GsOk.add (g1.mono (by decide)) (z46 (tbs:=([(P0,[⟨100,36,100,64⟩],((("least_begin":Str)++".<locals>.")++"<lambda>"))]:List (Addr×List Pos×Str))) l0 b0 (by decide) W0 (λt μ K Z q=>⟨rfl,q⟩)) rfl
 have g3:GsOk l.prog w K mg base _ _ 1 gs3 _:=GsOk.add (x:="forget") g2 ⟨_,.ref f0,zbz kb nb a0,rfl,λφ α H=>⟨f0,none,[],rfl,.inr (.inr ⟨rfl,rfl,rfl,rfl⟩),λo e=>(by cases e),rfl⟩⟩ rfl
 have g4:GsOk l.prog w K mg base _ _ 2 gs4 _:=Z.fn (ps:=["thing"]) p3 g3 JF rfl rfl (λ_ _ _ _ _ _ _=>rfl) rfl
 have g5:GsOk l.prog w K mg base _ _ 3 gs5 _:=Z.fn (ps:=["thing"]) p4 g4 KI rfl rfl (λ_ _ _ _ _ _ _=>rfl) rfl
 have g6:GsOk l.prog w K mg base _ _ 4 gs6 _:=Z.fn (ps:=["thing"]) p5 g5 xF rfl rfl (λ_ _ _ _ _ _ _=>rfl) rfl
 have g7:GsOk l.prog w K mg base _ _ 5 gs7 _:=Z.fn (ps:=["thing","bound"]) p6 g6 VZ rfl rfl (λ_ _ _ _ _ _ _ _=>rfl) rfl
 have g8:GsOk l.prog w K mg base _ _ 7 gs8 _:=Z.cl (ps:=["self","moments","houses","counts"]) p7 g7 QR rfl rfl rfl (λ_ _ _ _ _ _ _ _ _ _=>rfl) rfl
 have g9:GsOk l.prog w K mg base _ _ 8 gs9 _:=Z.fn (ps:=["shape"]) p8 g8 VQ rfl rfl (λ_ _ _ _ _ _ _=>rfl) rfl
 have g10:GsOk l.prog w K mg base _ _ 9 z5v _:=Z.fn (ps:=["shape","thing"]) p9 g9 XQ rfl rfl (λ_ _ _ _ _ _ _ _=>rfl) rfl
 have g11:GsOk l.prog w K mg base _ _ 10 z2S _:=Z.fn (ps:=["shape","thing"]) p10 g10 Wi rfl rfl (λ_ _ _ _ _ _ _ _=>rfl) rfl
 have g12:GsOk l.prog w K mg base _ _ 11 z3C _:=Z.fn (ps:=["thing","bound"]) p11 g11 W3 rfl rfl (λ_ _ _ _ _ _ _ _=>rfl) rfl
 have g13:GsOk l.prog w K mg base _ _ 12 z3F _:=Z.fn (ps:=["shape","moment","house","count"]) p12 g12 KC rfl rfl (λ_ _ _ _ _ _ _ _ _ _=>rfl) rfl
 have g14:GsOk l.prog w K mg base _ _ 13 z5_ _:=Z.fn (ps:=["shape","name"]) p13 g13 Js rfl rfl (λ_ _ _ _ _ _ _ _=>rfl) rfl
 have g15:GsOk l.prog w K mg base _ _ 13 z5M _:=GsOk.add g14 ⟨_,(.int 0),zbz kb nb v14,⟨_,rfl⟩,λ_ _ _=>rfl⟩ rfl
 have g16:GsOk l.prog w K mg base _ _ 13 z6j _:=GsOk.add g15 ⟨_,(.int 1),zbz kb nb v15,⟨_,rfl⟩,λ_ _ _=>rfl⟩ rfl
 have g17:GsOk l.prog w K mg base _ _ 13 z3G _:=GsOk.add g16 ⟨_,(.int 2),zbz kb nb v16,⟨_,rfl⟩,λ_ _ _=>rfl⟩ rfl
 have g18:GsOk l.prog w K mg base _ _ 14 z4w _:=Z.fn (ps:=["shape","thing"]) p17 g17 Jr rfl rfl (λ_ _ _ _ _ _ _ _=>rfl) rfl
 have g19:GsOk l.prog w K mg base _ _ 15 z5E _:=Z.fn (ps:=["shape","thing"]) p18 g18 Zl rfl rfl (λ_ _ _ _ _ _ _ _=>rfl) rfl
 have g20:GsOk l.prog w K mg base _ _ 15 z6e _:=GsOk.add g19 ⟨_,(.str "abcdefghijklmnopqrstuvwxyz"),zbz kb nb v19,⟨_,rfl⟩,λ_ _ _=>rfl⟩ rfl
 have g21:GsOk l.prog w K mg base _ _ 15 z3j _:=GsOk.add g20 ⟨_,(.int 8),zbz kb nb v20,⟨_,rfl⟩,λ_ _ _=>rfl⟩ rfl
 have g22:GsOk l.prog w K mg base _ _ 16 z5n _:=Z.fn (ps:=["thing"]) p21 g21 Vo rfl rfl (λ_ _ _ _ _ _ _=>rfl) rfl
 have g23:GsOk l.prog w K mg base _ _ 18 z45 _:=Z.cl (ps:=["self","holder","lease"]) p22 g22 Qx rfl rfl rfl (λ_ _ _ _ _ _ _ _ _=>rfl) rfl
 have g24:GsOk l.prog w K mg base _ _ 19 z3E _:=Z.fn (ps:=["grant","first","until"]) p23 g23 z1X rfl rfl (λ_ _ _ _ _ _ _ _ _=>rfl) rfl
 have W24:FnOk l.prog w K mg base (CX1 l.prog w) 20 f24 _ ["grants","moment","span"] (spN _ 3 qX):=vG (m:=2) uD (yG (N:=["grants","moment","span","begin","grant"]) (G:=["sorted","meets"]) (cel:=[]) (own:=[]) (lam:=some (0,[⟨100,36,100,64⟩])) kb nb zc g24) l24 c24 rfl rfl Zk (λj pos e=>by cases e;exact⟨by decide,cA0,P0,rfl,codeHd_of_K kb zt0,nbt,rfl⟩)
 have g25:GsOk l.prog w K mg base _ _ 20 z42 _:=GsOk.add (g24.mono (by decide)) ⟨f24,zbz kb nb a24,_,_,20,k24,b24,by decide,W24,qB⟩ rfl
 have g26:GsOk l.prog w K mg base _ _ 21 z3b _:=Z.fn (ps:=["grants","moment","span"]) p25 g25 Zc rfl rfl (λ_ _ _ _ _ _ _ _ _=>rfl) rfl
 have g27:GsOk l.prog w K mg base _ _ 23 z5m _:=Z.cl (ps:=["self","shape"]) p26 g26 Za rfl rfl rfl (λ_ _ _ _ _ _ _ _=>rfl) rfl
 have g28:GsOk l.prog w K mg base _ _ 24 z3n _:=Z.met (ps:=["self","holder","house","moment","span"]) p27 g27 jM rfl rfl rfl rfl (λ_ _ _ _ _ _ _ _ _ _ _=>rfl) rfl
 have g29:GsOk l.prog w K mg base _ _ 25 z2K _:=Z.met (ps:=["self","house"]) p28 g28 jX rfl rfl rfl rfl (λ_ _ _ _ _ _ _ _=>rfl) rfl
 have g30:GsOk l.prog w K mg base _ _ 26 z4C _:=Z.met (ps:=["self","house","moment","span"]) p29 g29 jq rfl rfl rfl rfl (λ_ _ _ _ _ _ _ _ _ _=>rfl) rfl
 have g31:GsOk l.prog w K mg base _ _ 27 z3e _:=Z.met (ps:=["self","holder","house","moment","span"]) p30 g30 Qt rfl rfl rfl rfl (λ_ _ _ _ _ _ _ _ _ _ _=>rfl) rfl
 have g32:GsOk l.prog w K mg base _ _ 28 z3K _:=Z.met (ps:=["self","lease"]) p31 g31 yH rfl rfl rfl rfl (λ_ _ _ _ _ _ _ _=>rfl) rfl
 have g33:GsOk l.prog w K mg base _ _ 29 z2F _:=Z.met (ps:=["self","lease","used"]) p32 g32 QI rfl rfl rfl rfl (λ_ _ _ _ _ _ _ _ _=>rfl) rfl
 have g34:GsOk l.prog w K mg base _ _ 30 z5y _:=Z.fn (ps:=["shape","thing"]) p33 g33 JG rfl rfl (λ_ _ _ _ _ _ _ _=>rfl) rfl
 have g35:GsOk l.prog w K mg base _ _ 31 z4E _:=Z.fn (ps:=["shape","thing"]) p34 g34 Wd rfl rfl (λ_ _ _ _ _ _ _ _=>rfl) rfl
 have g36:GsOk l.prog w K mg base _ _ 32 z2R _:=Z.fn (ps:=["shape","thing"]) p35 g35 XN rfl rfl (λ_ _ _ _ _ _ _ _=>rfl) rfl
 have g37:GsOk l.prog w K mg base _ _ 34 z5h _:=Z.cl (ps:=["self","house","begin","end"]) p36 g36 QM rfl rfl rfl (λ_ _ _ _ _ _ _ _ _ _=>rfl) rfl
 have g38:GsOk l.prog w K mg base _ _ 35 z4z _:=Z.fn (ps:=["shape","house","place"]) p37 g37 KG rfl rfl (λ_ _ _ _ _ _ _ _ _=>rfl) rfl
 have g39:GsOk l.prog w K mg base _ _ 36 z4P _:=Z.fn (ps:=["shape","batch"]) p38 g38 xC rfl rfl (λ_ _ _ _ _ _ _ _=>rfl) rfl
 have g40:GsOk l.prog w K mg base _ _ 37 z40 _:=Z.fn (ps:=["batches"]) p39 g39 Vf rfl rfl (λ_ _ _ _ _ _ _=>rfl) rfl
 have g41:GsOk l.prog w K mg base _ _ 38 z2P _:=Z.fn (ps:=["shape","house","name"]) p40 g40 Zq rfl rfl (λ_ _ _ _ _ _ _ _ _=>rfl) rfl
 have W41:FnOk l.prog w K mg base (CX1 l.prog w) 39 f41 _ ["self","shape","ahead","stride","keeper","note"] (spN _ 6 qO):=vG (m:=0) uD (yG (N:=["self","shape","ahead","stride","keeper","note"]) (G:=["is_from_nought","NoTime","is_note","NoNote"]) (cel:=[]) (own:=[]) (lam:=none) kb nb zc g41) l41 c41 rfl rfl Wb
 have g42:GsOk l.prog w K mg base _ _ 40 z63 _:=GsOk.add (g41.mono (by decide)) ⟨CC41,f41,_,_,39,rfl,zbz kb nb q41,⟨mk41,i41,j41,kk41⟩,b41,by decide,W41,qB⟩ rfl
 have g43:GsOk l.prog w K mg base _ _ 40 z3v _:=GsOk.add (x:=til "House") g42 ⟨CC41,f41,_,_,39,rfl,zbz kb nb q41,⟨mk41,i41,j41,kk41⟩,bd41,by decide,W41,qB,rfl⟩ rfl
 have g44:GsOk l.prog w K mg base _ _ 41 z37 _:=Z.met (ps:=["self"]) p42 g43 xU rfl rfl rfl rfl (λ_ _ _ _ _ _ _=>rfl) rfl
 have g45:GsOk l.prog w K mg base _ _ 42 z2U _:=Z.met (ps:=["self"]) p43 g44 W5 rfl rfl rfl rfl (λ_ _ _ _ _ _ _=>rfl) rfl
 have g46:GsOk l.prog w K mg base _ _ 43 z4v _:=Z.met (ps:=["self","lease","mark"]) p44 g45 QB rfl rfl rfl rfl (λ_ _ _ _ _ _ _ _ _=>rfl) rfl
 have g47:GsOk l.prog w K mg base _ _ 44 z3c _:=Z.met (ps:=["self","lease"]) p45 g46 jJ rfl rfl rfl rfl (λ_ _ _ _ _ _ _ _=>rfl) rfl
 have g48:GsOk l.prog w K mg base _ _ 45 z2T _:=Z.met (ps:=["self"]) p46 g47 vh rfl rfl rfl rfl (λ_ _ _ _ _ _ _=>rfl) rfl
 have g49:GsOk l.prog w K mg base _ _ 46 z51 _:=Z.met (ps:=["self"]) p47 g48 jU rfl rfl rfl rfl (λ_ _ _ _ _ _ _=>rfl) rfl
 have g50:GsOk l.prog w K mg base _ _ 47 z4Y _:=Z.met (ps:=["self","reading","many"]) p48 g49 vY rfl rfl rfl rfl (λ_ _ _ _ _ _ _ _ _=>rfl) rfl
 have g51:GsOk l.prog w K mg base _ _ 48 z4U _:=Z.met (ps:=["self","moment"]) p49 g50 jk rfl rfl rfl rfl (λ_ _ _ _ _ _ _ _=>rfl) rfl
 have g52:GsOk l.prog w K mg base _ _ 49 z3z _:=Z.met (ps:=["self","reading","many"]) p50 g51 jF rfl rfl rfl rfl (λ_ _ _ _ _ _ _ _ _=>rfl) rfl
 have W51:FnOk l.prog w K mg base (CX1 l.prog w) 50 f51 _ ["self","reading","many"] (spN _ 3 qc):=vG (m:=1) uD (yG (N:=["self","reading","many","batch"]) (G:=["names_of_batch"]) (cel:=[]) (own:=[]) (lam:=none) kb nb zc g52) l51 c51 rfl rfl Zu
 have g53:GsOk l.prog w K mg base _ _ 50 z6I _:=GsOk.add (g52.mono (by decide)) ⟨CC41,f51,_,_,50,rfl,uY (c:=45) zc rfl,⟨i51,j51,k51⟩,λi h=>absurd (z7P (show FLD[i]?=some "ask" from h)) (by decide +kernel),b51,by decide,W51,qB⟩ rfl
 have g54:GsOk l.prog w K mg base _ _ 50 z4t _:=GsOk.add (x:=til (dot "ask")) g53 ⟨CC41,f51,_,_,50,_,(.int 1),rfl,uY (c:=45) zc rfl,⟨i51,j51,k51⟩,λi h=>absurd (z7P (show FLD[i]?=some "ask" from h)) (by decide +kernel),bd51,⟨_,rfl⟩,λ_ _ _=>rfl,by decide,W51,qB,rfl⟩ rfl
 have W52:FnOk l.prog w K mg base (CX1 l.prog w) 51 f52 _ ["self","reading","many"] (spN _ 3 wK):=vG (m:=1) uD (yG (N:=["self","reading","many","batch"]) (G:=["size_of"]) (cel:=[]) (own:=[]) (lam:=none) kb nb zc g54) l52 c52 rfl rfl ym
 have g55:GsOk l.prog w K mg base _ _ 51 z5C _:=GsOk.add (g54.mono (by decide)) ⟨CC41,f52,_,_,51,rfl,uY (c:=45) zc rfl,⟨i52,j52,k52⟩,λi h=>absurd (z7P (show FLD[i]?=some "store" from h)) (by decide +kernel),b52,by decide,W52,qB⟩ rfl
 have g56:GsOk l.prog w K mg base _ _ 51 z4j _:=GsOk.add (x:=til (dot "store")) g55 ⟨CC41,f52,_,_,51,_,(.int 1),rfl,uY (c:=45) zc rfl,⟨i52,j52,k52⟩,λi h=>absurd (z7P (show FLD[i]?=some "store" from h)) (by decide +kernel),bd52,⟨_,rfl⟩,λ_ _ _=>rfl,by decide,W52,qB,rfl⟩ rfl
 have g57:GsOk l.prog w K mg base _ _ 52 z6s _:=Z.met (ps:=["self"]) p53 g56 Wa rfl rfl rfl rfl (λ_ _ _ _ _ _ _=>rfl) rfl
 have g58:GsOk l.prog w K mg base _ _ 52 z4T _:=GsOk.add g57 ⟨_,(.int 20),zbz kb nb v54,⟨_,rfl⟩,λ_ _ _=>rfl⟩ rfl
 have g59:GsOk l.prog w K mg base _ _ 53 z5f _:=Z.fn (ps:=["thing"]) p55 g58 QX rfl rfl (λ_ _ _ _ _ _ _=>rfl) rfl
 have g60:GsOk l.prog w K mg base _ _ 54 z3W _:=Z.fn (ps:=["thing"]) p56 g59 yx rfl rfl (λ_ _ _ _ _ _ _=>rfl) rfl
 have g61:GsOk l.prog w K mg base _ _ 55 z5g _:=Z.fn (ps:=["houses","shape","holder"]) p57 g60 Vy rfl rfl (λ_ _ _ _ _ _ _ _ _=>rfl) rfl
 have g62:GsOk l.prog w K mg base _ _ 56 z5q _:=Z.fn (ps:=["shape","rows"]) p58 g61 Jh rfl rfl (λ_ _ _ _ _ _ _ _=>rfl) rfl
 have g63:GsOk l.prog w K mg base _ _ 57 z2W _:=Z.fn (ps:=["given"]) p59 g62 JB rfl rfl (λ_ _ _ _ _ _ _=>rfl) rfl
 have g64:GsOk l.prog w K mg base _ _ 58 z4i _:=Z.fn (ps:=["one","other"]) p60 g63 xP rfl rfl (λ_ _ _ _ _ _ _ _=>rfl) rfl
 have g65:GsOk l.prog w K mg base _ _ 59 z4f _:=Z.fn (ps:=["shape","book"]) p61 g64 Xd rfl rfl (λ_ _ _ _ _ _ _ _=>rfl) rfl
 have g66:GsOk l.prog w K mg base _ _ 60 z4_ _:=Z.fn (ps:=["_law_script","_law_k"]) p62 g65 Vd rfl rfl (λ_ _ _ _ _ _ _ _=>rfl) rfl
 have g67:GsOk l.prog w K mg base _ _ 61 z3S _:=Z.fn (ps:=["_law_cell","_law_k"]) p63 g66 Ud rfl rfl (λ_ _ _ _ _ _ _ _=>rfl) rfl
 have g68:GsOk l.prog w K mg base _ _ 62 z5k _:=Z.fn (ps:=["_law_cell","_law_k","_law_most"]) p64 g67 z1T rfl rfl (λ_ _ _ _ _ _ _ _ _=>rfl) rfl
 have g69:GsOk l.prog w K mg base _ _ 63 z48 _:=Z.fn (ps:=["_law_cell"]) p65 g68 Z8 rfl rfl (λ_ _ _ _ _ _ _=>rfl) rfl
 have g70:GsOk l.prog w K mg base _ _ 64 z4m _:=Z.fn (ps:=["_law_common","_law_holder","_law_far_here","_law_many","_law_cell"]) p66 g69 Zt rfl rfl (λ_ _ _ _ _ _ _ _ _ _ _=>rfl) rfl
 have g71:GsOk l.prog w K mg base _ _ 65 z5j _:=Z.fn (ps:=["_law_shape","_law_lease","_law_last","_law_holder","_law_cell"]) p67 g70 Vg rfl rfl (λ_ _ _ _ _ _ _ _ _ _ _=>rfl) rfl
 have g72:GsOk l.prog w K mg base _ _ 66 z4s _:=Z.fn (ps:=["_law_shape","_law_far_here","_law_many","_law_cells"]) p68 g71 z0N rfl rfl (λ_ _ _ _ _ _ _ _ _ _=>rfl) rfl
 have g73:GsOk l.prog w K mg base _ _ 67 z5s _:=Z.fn (ps:=["_law_book","_law_given"]) p69 g72 VR rfl rfl (λ_ _ _ _ _ _ _ _=>rfl) rfl
 have g74:GsOk l.prog w K mg base _ _ 68 z4k _:=Z.fn (ps:=["_law_shape","_law_book","_law_found"]) p70 g73 uh rfl rfl (λ_ _ _ _ _ _ _ _ _=>rfl) rfl
 have g75:GsOk l.prog w K mg base _ _ 69 z3Y _:=Z.fn (ps:=["_law_shape","_law_one","_law_other_here"]) p71 g74 Q_ rfl rfl (λ_ _ _ _ _ _ _ _ _=>rfl) rfl
 have g76:GsOk l.prog w K mg base _ _ 70 z3U _:=Z.fn (ps:=["_law_shape","_law_book"]) p72 g75 Xu rfl rfl (λ_ _ _ _ _ _ _ _=>rfl) rfl
 have g77:GsOk l.prog w K mg base _ _ 71 z5o _:=Z.fn (ps:=["_law_holder"]) p73 g76 X6 rfl rfl (λ_ _ _ _ _ _ _=>rfl) rfl
 have g78:GsOk l.prog w K mg base _ _ 72 z60 _:=Z.fn (ps:=["_law_shape","_law_book","_law_at","_law_cell"]) p74 g77 WA rfl rfl (λ_ _ _ _ _ _ _ _ _ _=>rfl) rfl
 have W75:FnOk l.prog w K mg base (CX1 l.prog w) 73 fa _ ["_law_script"] (spN _ 1 kC):=vG (m:=10) uD (yG (N:=["_law_script","_law_shape","_law_far_here","_law_many","_law_rows","_law_given","_law_book","_law_cell","_law_at","_law_worse","_law_due_here"]) (G:=["_law_run_shape","_law_cell_at","_law_run","_law_draw","judge","_law_is_right","list","len","_law_bad_row","_law_due"]) (cel:=[]) (own:=["_law_worse"]) (lam:=none) kb nb zc g78) l75 c75 rfl rfl Xi
 exact z15 (f:=kC) tells rfl W75
end NH.K75
end
section
open PySem PySem.W PyProof.Rows
set_option maxRecDepth 100000 in
set_option maxHeartbeats 0 in
theorem PySem.Challenge.cw_namehouses_k75_each_kind_of_pair_holds : PySem.Challenge.rw_namehouses_k75_each_kind_of_pair.Holds := by
 w_on;o_law;k_head;(case hw=>w_witness2)
 k_fill
 refine NH.walkT2 (l:=PySem.Challenge.rw_namehouses_k75_each_kind_of_pair) (k:=73) (x:="_law_script") (by decide) rfl rfl (λw h Y=>PySem.W.km_in_of Y) (λw h Y=>PySem.W.km_tabs_of Y _ (.head _)) ?F
 case F=>
  intro w mg fa h KX G hmg
  refine' NH.K75.all_mk KX G hmg ?ze0 ?ze1 ?ze2 ?ze3 ?ze4 ?ze5 ?ze6 ?ze7 ?ze8 ?ze9 ?ze10 ?ze11 ?za0 ?zl0 ?zc0 ?zk0 ?zp3 ?zp4 ?zp5 ?zp6 ?zp7 ?zp8 ?zp9 ?zp10 ?zp11 ?zp12 ?zp13 ?zv14 ?zv15 ?zv16 ?zp17 ?zp18 ?zv19 ?zv20 ?zp21 ?zp22 ?zp23 ?za24 ?zl24 ?zc24 ?zzt0 ?zzk0 ?zzs0 ?zk24 ?zp25 ?zp26 ?zp27 ?zp28 ?zp29 ?zp30 ?zp31 ?zp32 ?zp33 ?zp34 ?zp35 ?zp36 ?zp37 ?zp38 ?zp39 ?zp40 ?zq41 ?zi41 ?zj41 ?zl41 ?zd41 ?zc41 ?zk41 ?zmk41 ?zkk41 ?zp42 ?zp43 ?zp44 ?zp45 ?zp46 ?zp47 ?zp48 ?zp49 ?zp50 ?zi51 ?zj51 ?zl51 ?zd51 ?zc51 ?zk51 ?zi52 ?zj52 ?zl52 ?zd52 ?zc52 ?zk52 ?zp53 ?zv54 ?zp55 ?zp56 ?zp57 ?zp58 ?zp59 ?zp60 ?zp61 ?zp62 ?zp63 ?zp64 ?zp65 ?zp66 ?zp67 ?zp68 ?zp69 ?zp70 ?zp71 ?zp72 ?zp73 ?zp74 ?za75 ?zl75 ?zc75 ?zk75 ?zx0 ?zx1 ?zx2 ?zx3 ?zx4 ?zx5 ?zx6 ?zx7 ?zx9 ?zx10 ?zx11 ?zzl ?zzc ?zzg
  (case ze0=>k_is)
  (case ze1=>k_is)
  (case ze2=>k_is)
  (case ze3=>k_is)
  (case ze4=>k_is)
  (case ze5=>k_is)
  (case ze6=>k_is)
  (case ze7=>k_is)
  (case ze8=>k_is)
  (case ze9=>k_is)
  (case ze10=>k_is)
  (case ze11=>k_is)
  (case za0=>k_is)
  (case zl0=>k_is)
  (case zc0=>k_is)
  (case zk0=>k_is)
  (case zp3=>exact NH.dfp (by k_is) (by k_is) (by k_is) (by k_is))
  (case zp4=>exact NH.dfp (by k_is) (by k_is) (by k_is) (by k_is))
  (case zp5=>exact NH.dfp (by k_is) (by k_is) (by k_is) (by k_is))
  (case zp6=>exact NH.dfp (by k_is) (by k_is) (by k_is) (by k_is))
  (case zp7=>exact NH.clp (by k_is) (by k_is) (by k_is) (by k_is) (by k_is) (by k_is) (by k_is) (by k_is))
  (case zp8=>exact NH.dfp (by k_is) (by k_is) (by k_is) (by k_is))
  (case zp9=>exact NH.dfp (by k_is) (by k_is) (by k_is) (by k_is))
  (case zp10=>exact NH.dfp (by k_is) (by k_is) (by k_is) (by k_is))
  (case zp11=>exact NH.dfp (by k_is) (by k_is) (by k_is) (by k_is))
  (case zp12=>exact NH.dfp (by k_is) (by k_is) (by k_is) (by k_is))
  (case zp13=>exact NH.dfp (by k_is) (by k_is) (by k_is) (by k_is))
  (case zv14=>k_is)
  (case zv15=>k_is)
  (case zv16=>k_is)
  (case zp17=>exact NH.dfp (by k_is) (by k_is) (by k_is) (by k_is))
  (case zp18=>exact NH.dfp (by k_is) (by k_is) (by k_is) (by k_is))
  (case zv19=>k_is)
  (case zv20=>k_is)
  (case zp21=>exact NH.dfp (by k_is) (by k_is) (by k_is) (by k_is))
  (case zp22=>exact NH.clp (by k_is) (by k_is) (by k_is) (by k_is) (by k_is) (by k_is) (by k_is) (by k_is))
  (case zp23=>exact NH.dfp (by k_is) (by k_is) (by k_is) (by k_is))
  (case za24=>k_is)
  (case zl24=>k_is)
  (case zc24=>k_is)
  (case zzt0=>exact rfl)
  (case zzk0=>exact rfl)
  (case zzs0=>decide)
  (case zk24=>k_is)
  (case zp25=>exact NH.dfp (by k_is) (by k_is) (by k_is) (by k_is))
  (case zp26=>exact NH.clp (by k_is) (by k_is) (by k_is) (by k_is) (by k_is) (by k_is) (by k_is) (by k_is))
  (case zp27=>exact NH.mtp (by k_is) (by k_is) (by k_is) (by k_is) (by k_is))
  (case zp28=>exact NH.mtp (by k_is) (by k_is) (by k_is) (by k_is) (by k_is))
  (case zp29=>exact NH.mtp (by k_is) (by k_is) (by k_is) (by k_is) (by k_is))
  (case zp30=>exact NH.mtp (by k_is) (by k_is) (by k_is) (by k_is) (by k_is))
  (case zp31=>exact NH.mtp (by k_is) (by k_is) (by k_is) (by k_is) (by k_is))
  (case zp32=>exact NH.mtp (by k_is) (by k_is) (by k_is) (by k_is) (by k_is))
  (case zp33=>exact NH.dfp (by k_is) (by k_is) (by k_is) (by k_is))
  (case zp34=>exact NH.dfp (by k_is) (by k_is) (by k_is) (by k_is))
  (case zp35=>exact NH.dfp (by k_is) (by k_is) (by k_is) (by k_is))
  (case zp36=>exact NH.clp (by k_is) (by k_is) (by k_is) (by k_is) (by k_is) (by k_is) (by k_is) (by k_is))
  (case zp37=>exact NH.dfp (by k_is) (by k_is) (by k_is) (by k_is))
  (case zp38=>exact NH.dfp (by k_is) (by k_is) (by k_is) (by k_is))
  (case zp39=>exact NH.dfp (by k_is) (by k_is) (by k_is) (by k_is))
  (case zp40=>exact NH.dfp (by k_is) (by k_is) (by k_is) (by k_is))
  (case zq41=>k_is)
  (case zi41=>k_is)
  (case zj41=>k_is)
  (case zl41=>k_is)
  (case zd41=>k_is)
  (case zc41=>k_is)
  (case zk41=>k_is)
  (case zmk41=>k_is)
  (case zkk41=>k_is)
  (case zp42=>exact NH.mtp (by k_is) (by k_is) (by k_is) (by k_is) (by k_is))
  (case zp43=>exact NH.mtp (by k_is) (by k_is) (by k_is) (by k_is) (by k_is))
  (case zp44=>exact NH.mtp (by k_is) (by k_is) (by k_is) (by k_is) (by k_is))
  (case zp45=>exact NH.mtp (by k_is) (by k_is) (by k_is) (by k_is) (by k_is))
  (case zp46=>exact NH.mtp (by k_is) (by k_is) (by k_is) (by k_is) (by k_is))
  (case zp47=>exact NH.mtp (by k_is) (by k_is) (by k_is) (by k_is) (by k_is))
  (case zp48=>exact NH.mtp (by k_is) (by k_is) (by k_is) (by k_is) (by k_is))
  (case zp49=>exact NH.mtp (by k_is) (by k_is) (by k_is) (by k_is) (by k_is))
  (case zp50=>exact NH.mtp (by k_is) (by k_is) (by k_is) (by k_is) (by k_is))
  (case zi51=>k_is)
  (case zj51=>k_is)
  (case zl51=>k_is)
  (case zd51=>k_is)
  (case zc51=>k_is)
  (case zk51=>k_is)
  (case zi52=>k_is)
  (case zj52=>k_is)
  (case zl52=>k_is)
  (case zd52=>k_is)
  (case zc52=>k_is)
  (case zk52=>k_is)
  (case zp53=>exact NH.mtp (by k_is) (by k_is) (by k_is) (by k_is) (by k_is))
  (case zv54=>k_is)
  (case zp55=>exact NH.dfp (by k_is) (by k_is) (by k_is) (by k_is))
  (case zp56=>exact NH.dfp (by k_is) (by k_is) (by k_is) (by k_is))
  (case zp57=>exact NH.dfp (by k_is) (by k_is) (by k_is) (by k_is))
  (case zp58=>exact NH.dfp (by k_is) (by k_is) (by k_is) (by k_is))
  (case zp59=>exact NH.dfp (by k_is) (by k_is) (by k_is) (by k_is))
  (case zp60=>exact NH.dfp (by k_is) (by k_is) (by k_is) (by k_is))
  (case zp61=>exact NH.dfp (by k_is) (by k_is) (by k_is) (by k_is))
  (case zp62=>exact NH.dfp (by k_is) (by k_is) (by k_is) (by k_is))
  (case zp63=>exact NH.dfp (by k_is) (by k_is) (by k_is) (by k_is))
  (case zp64=>exact NH.dfp (by k_is) (by k_is) (by k_is) (by k_is))
  (case zp65=>exact NH.dfp (by k_is) (by k_is) (by k_is) (by k_is))
  (case zp66=>exact NH.dfp (by k_is) (by k_is) (by k_is) (by k_is))
  (case zp67=>exact NH.dfp (by k_is) (by k_is) (by k_is) (by k_is))
  (case zp68=>exact NH.dfp (by k_is) (by k_is) (by k_is) (by k_is))
  (case zp69=>exact NH.dfp (by k_is) (by k_is) (by k_is) (by k_is))
  (case zp70=>exact NH.dfp (by k_is) (by k_is) (by k_is) (by k_is))
  (case zp71=>exact NH.dfp (by k_is) (by k_is) (by k_is) (by k_is))
  (case zp72=>exact NH.dfp (by k_is) (by k_is) (by k_is) (by k_is))
  (case zp73=>exact NH.dfp (by k_is) (by k_is) (by k_is) (by k_is))
  (case zp74=>exact NH.dfp (by k_is) (by k_is) (by k_is) (by k_is))
  (case za75=>k_is)
  (case zl75=>k_is)
  (case zc75=>k_is)
  (case zk75=>k_is)
  (case zx0=>k_exc)
  (case zx1=>k_exc)
  (case zx2=>k_exc)
  (case zx3=>k_exc)
  (case zx4=>k_exc)
  (case zx5=>k_exc)
  (case zx6=>k_exc)
  (case zx7=>k_exc)
  (case zx9=>k_exc)
  (case zx10=>k_exc)
  (case zx11=>k_exc)
  (case zzl=>exact rfl)
  (case zzc=>exact rfl)
  (case zzg=>exact rfl)
end
